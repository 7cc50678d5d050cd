/- Nodes in memory: what a node means, where it lies; append of a node. -/
import Derived.Test.YtnabfganecghkaaDoorRrC
import Derived.Test.YtnabfganecghkaaDoorRrE
namespace Go.Proofs.YtnabfganecghkaaDoor
open Go.RowKit
set_option linter.unusedVariables false

/-- nodes, and lists of them -/
inductive Nd
  | byte (X : Nat → Bool) | nil | snoc (l n : Nd) | row (l : Nd) | either (l : Nd) | star (l : Nd) | plus (l : Nd) | opt (l : Nd)
def isN : Nd → Bool
  | .nil => false
  | .snoc _ _ => false
  | _ => true
def isL : Nd → Bool
  | .nil => true
  | .snoc l n => isL l && isN n
  | _ => false
/-- what a node means; what a list of them means, one of them -/
def Ln : Nd → (Bs → Prop) × (Bs → Prop)
  | .byte X => (fun s => ∃ c, s = [c] ∧ X c.toNat = true, fun _ => False)
  | .nil => (fun s => s = [], fun _ => False)
  | .snoc l n => (fun s => ∃ u v, s = u ++ v ∧ (Ln l).1 u ∧ (Ln n).1 v, fun s => (Ln l).2 s ∨ (Ln n).1 s)
  | .row l => ((Ln l).1, fun _ => False)
  | .either l => ((Ln l).2, fun _ => False)
  | .star l => (Many (Ln l).2, fun _ => False)
  | .plus l => (fun s => ∃ u v, s = u ++ v ∧ (Ln l).2 u ∧ Many (Ln l).2 v, fun _ => False)
  | .opt l => (fun s => s = [] ∨ (Ln l).2 s, fun _ => False)
def rowB : ByteArray := ⟨#[114, 111, 119]⟩
def eitherB : ByteArray := ⟨#[101, 105, 116, 104, 101, 114]⟩
/-- the cells C lie at A, in a block of U -/
def Lies (w : World) (U : Nat → Prop) (A : Option Addr) (C : List Value) : Prop := C = [] ∨ ∃ b, A = some ⟨b, 0, none⟩ ∧ U b ∧ ∀ j u, C[j]? = some u → w.cell? ⟨b, j, none⟩ = some u
/-- a node's value, or the cells of a list of them -/
def NdV (w : World) (U : Nat → Prop) : Nd → Value → Prop
  | .byte X, V => ∃ b, V = .agg #[.string byteB, .slice (some ⟨b, 0, none⟩) 256 256, nvo] ∧ U b ∧ ∀ i, i < 256 → w.cell? ⟨b, i, none⟩ = some (.bool (X i))
  | .nil, V => V = .agg #[]
  | .snoc l n, V => ∃ C kd hs ks, V = .agg (C ++ [.string kd, hs, ks]).toArray ∧ NdV w U l (.agg C.toArray) ∧ NdV w U n (.agg #[.string kd, hs, ks])
  | .row l, V => ∃ C A n c, V = .agg #[.string rowB, nvo, .slice A n c] ∧ isL l = true ∧ (C.length = n * 3 ∧ n ≤ 1000) ∧ Lies w U A C ∧ NdV w U l (.agg C.toArray)
  | .either l, V => ∃ C A n c, V = .agg #[.string eitherB, nvo, .slice A n c] ∧ isL l = true ∧ (C.length = n * 3 ∧ n ≤ 1000) ∧ Lies w U A C ∧ NdV w U l (.agg C.toArray)
  | .star l, V => ∃ C A c, V = .agg #[.string ⟨#[42]⟩, nvo, .slice A 1 c] ∧ isL l = true ∧ C.length = 3 ∧ Lies w U A C ∧ NdV w U l (.agg C.toArray)
  | .plus l, V => ∃ C A c, V = .agg #[.string ⟨#[43]⟩, nvo, .slice A 1 c] ∧ isL l = true ∧ C.length = 3 ∧ Lies w U A C ∧ NdV w U l (.agg C.toArray)
  | .opt l, V => ∃ C A c, V = .agg #[.string ⟨#[63]⟩, nvo, .slice A 1 c] ∧ isL l = true ∧ C.length = 3 ∧ Lies w U A C ∧ NdV w U l (.agg C.toArray)
theorem Lies.keep {w w' : World} {U U' : Nat → Prop} {A : Option Addr} {C : List Value} (h : Lies w U A C) (hk : ∀ b i v, U b → w.cell? ⟨b, i, none⟩ = some v → w'.cell? ⟨b, i, none⟩ = some v ∧ U' b) : Lies w' U' A C := by
  rcases h with h | ⟨b, hA, hU, hc⟩
  · exact .inl h
  · cases C with
    | nil => exact .inl rfl
    | cons a r => exact .inr ⟨b, hA, (hk b 0 a hU (hc 0 a rfl)).2, fun j u hu => (hk b j u hU (hc j u hu)).1⟩
/-- what keeps the cells of its blocks keeps a node -/
theorem NdV.keep {w w' : World} {U U' : Nat → Prop} (hk : ∀ b i v, U b → w.cell? ⟨b, i, none⟩ = some v → w'.cell? ⟨b, i, none⟩ = some v ∧ U' b) : ∀ {n : Nd} {V : Value}, NdV w U n V → NdV w' U' n V
  | .byte X, V, ⟨b, h1, h2, h3⟩ => ⟨b, h1, (hk b 0 _ h2 (h3 0 (by omega))).2, fun i hi => (hk b i _ h2 (h3 i hi)).1⟩
  | .nil, V, h => h
  | .snoc l n, V, ⟨C, kd, hs, ks, h1, h2, h3⟩ => ⟨C, kd, hs, ks, h1, NdV.keep hk h2, NdV.keep hk h3⟩
  | .row l, V, ⟨C, A, n, c, h1, h2, h3, h4, h5⟩ => ⟨C, A, n, c, h1, h2, h3, h4.keep hk, NdV.keep hk h5⟩
  | .either l, V, ⟨C, A, n, c, h1, h2, h3, h4, h5⟩ => ⟨C, A, n, c, h1, h2, h3, h4.keep hk, NdV.keep hk h5⟩
  | .star l, V, ⟨C, A, c, h1, h2, h3, h4, h5⟩ => ⟨C, A, c, h1, h2, h3, h4.keep hk, NdV.keep hk h5⟩
  | .plus l, V, ⟨C, A, c, h1, h2, h3, h4, h5⟩ => ⟨C, A, c, h1, h2, h3, h4.keep hk, NdV.keep hk h5⟩
  | .opt l, V, ⟨C, A, c, h1, h2, h3, h4, h5⟩ => ⟨C, A, c, h1, h2, h3, h4.keep hk, NdV.keep hk h5⟩
theorem NdV.kept {w w' : World} {U : Nat → Prop} {n : Nd} {V : Value} (h : NdV w U n V) (k : Kept w w') : NdV w' U n V := h.keep fun b i v hU hv => ⟨k _ _ hv, hU⟩
theorem NdV.below {w w' : World} {U : Nat → Prop} {n : Nd} {V : Value} (h : NdV w U n V) (k : Below w.heap.size w w') : NdV w' U n V := h.kept (Kept.of_below k)
theorem NdV.mono {w : World} {U U' : Nat → Prop} {n : Nd} {V : Value} (h : NdV w U n V) (k : ∀ b, U b → b < w.heap.size → U' b) : NdV w U' n V := h.keep fun b i v hU hv => ⟨hv, k b hU (block_lt_of_cell hv)⟩
/-- behind a call that turns the reader's block alone -/
theorem NdV.go {w w' : World} {U : Nat → Prop} {q : Nat} {n : Nd} {V : Value} (h : NdV w U n V) (k : Go1 q nvo nvo w w') (hU : ∀ b, U b → b ≠ q) : NdV w' U n V :=
  h.keep fun b i v hb hv => ⟨(World.cell?_of_block (k.s.block b (block_lt_of_cell hv) (hU b hb) (by simp [Value.ownBlock]))).trans hv, hb⟩
/-- behind a store elsewhere -/
theorem NdV.other {w : World} {U : Nat → Prop} {n : Nd} {V : Value} (h : NdV w U n V) {a : Addr} (hU : ∀ b, U b → b ≠ a.block) (u : Value) : NdV (w.setCell a u) U n V :=
  h.keep fun b i v hb hv => ⟨(World.cell?_of_block (Below.heap_setCell w a u b (hU b hb))).trans hv, hb⟩
/-- the nodes of a list -/
def kidsL : Nd → List Nd
  | .snoc l n => kidsL l ++ [n]
  | _ => []
theorem kids_at {w : World} {U : Nat → Prop} : ∀ {l : Nd} {C : List Value}, isL l = true → NdV w U l (.agg C.toArray) →
    C.length = (kidsL l).length * 3 ∧ ∀ i nd, (kidsL l)[i]? = some nd → isN nd = true ∧ ∃ kd hs ks, C[i * 3]? = some (.string kd) ∧ C[i * 3 + 1]? = some hs ∧ C[i * 3 + 2]? = some ks ∧ NdV w U nd (.agg #[.string kd, hs, ks])
  | .nil, C, _, h => by
    have h1 : C = [] := by
      have h' : Value.agg C.toArray = .agg #[] := h
      injection h' with h'
      simpa using congrArg Array.toList h'
    subst h1
    exact ⟨rfl, fun i nd h => by simp [kidsL] at h⟩
  | .snoc l n, C, hL, ⟨D, kd, hs, ks, h1, h2, h3⟩ => by
    have hD : C = D ++ [.string kd, hs, ks] := by
      injection h1 with h1
      simpa using congrArg Array.toList h1
    subst hD
    simp only [isL, Bool.and_eq_true] at hL
    obtain ⟨e1, e2⟩ := kids_at hL.1 h2
    have e3 : kidsL (.snoc l n) = kidsL l ++ [n] := rfl
    refine ⟨by rw [e3]; simp [e1]; omega, fun i nd hi => ?_⟩
    rw [e3] at hi
    by_cases hlt : i < (kidsL l).length
    · rw [List.getElem?_append_left hlt] at hi
      obtain ⟨f0, kd', hs', ks', f1, f2, f3, f4⟩ := e2 i nd hi
      exact ⟨f0, kd', hs', ks', by rw [List.getElem?_append_left (by omega)]; exact f1, by rw [List.getElem?_append_left (by omega)]; exact f2, by rw [List.getElem?_append_left (by omega)]; exact f3, f4⟩
    · rw [List.getElem?_append_right (by omega)] at hi
      have hi0 : i - (kidsL l).length = 0 := by
        apply Classical.byContradiction
        intro hne
        rw [List.getElem?_eq_none (by simp; omega)] at hi
        cases hi
      rw [hi0] at hi
      simp at hi
      subst hi
      have hie : i * 3 = D.length := by omega
      refine ⟨hL.2, kd, hs, ks, ?_, ?_, ?_, h3⟩
      · rw [hie, List.getElem?_append_right (Nat.le_refl _)]; simp
      · rw [hie, List.getElem?_append_right (by omega)]; simp
      · rw [hie, List.getElem?_append_right (by omega)]; simp
/-- what a list means, in a row and as a choice -/
def rowL (ks : List Nd) : Bs → Prop := ks.foldl (fun l nd => fun s => ∃ u v, s = u ++ v ∧ l u ∧ (Ln nd).1 v) (fun s => s = [])
def eitL (ks : List Nd) : Bs → Prop := ks.foldl (fun l nd => fun s => l s ∨ (Ln nd).1 s) (fun _ => False)
theorem ln_row : ∀ {l : Nd}, isL l = true → (Ln l).1 = rowL (kidsL l)
  | .nil, _ => rfl
  | .snoc l n, h => by
    simp only [isL, Bool.and_eq_true] at h
    have ih := ln_row h.1
    simp only [Ln, kidsL, rowL, List.foldl_append] at ih ⊢
    rw [ih]
    rfl
theorem ln_eit : ∀ {l : Nd}, isL l = true → (Ln l).2 = eitL (kidsL l)
  | .nil, _ => rfl
  | .snoc l n, h => by
    simp only [isL, Bool.and_eq_true] at h
    have ih := ln_eit h.1
    simp only [Ln, kidsL, eitL, List.foldl_append] at ih ⊢
    rw [ih]
    rfl
theorem rowL_snoc (ks : List Nd) (n : Nd) : rowL (ks ++ [n]) = fun s => ∃ u v, s = u ++ v ∧ rowL ks u ∧ (Ln n).1 v := by
  unfold rowL
  rw [List.foldl_append]
  rfl
theorem eitL_snoc (ks : List Nd) (n : Nd) : eitL (ks ++ [n]) = fun s => eitL ks s ∨ (Ln n).1 s := by
  unfold eitL
  rw [List.foldl_append]
  rfl

theorem infoN : (Tryd.prog.info? 60).map (fun i => (i.zero, i.size, i.bytes)) = some (some (.agg #[.string ⟨#[]⟩, .slice none 0 0, .slice none 0 0]), 3, 64) := by kernel_rfl
/-- append(x, y) at []Node, at a step of a region: the row grows in its own block or in a new one -/
theorem step_app_nd {ops : Array Oper} {o : Oper} {a : Act} {w : World} {K : Act → World → Prop} {Q : Exit → Act → World → Prop} {E : Prop} (hgd : o.guard = none) (s x : Operand)
    (ho : o.op = .call { callee := .builtin .append, args := #[s, x], argTypes := #[58, 58] })
    (base : Nat) (v : Value) (n : Nat) (C : List Value) (hs : a.eval s = v) (hown : w.ownsRow base 60 3 v n C)
    (g : Nat) (hx : a.eval x = .slice (some ⟨g, 0, none⟩) 1 1) (y0 y1 y2 : Value) (hy : w.cell? ⟨g, 0, none⟩ = some y0 ∧ w.cell? ⟨g, 1, none⟩ = some y1 ∧ w.cell? ⟨g, 2, none⟩ = some y2) (hone : y0.oneCell' = true ∧ y1.oneCell' = true ∧ y2.oneCell' = true) (hl : n + 1 ≤ 1000) (hbase : base ≤ w.heap.size)
    (h : ∀ v' w', w'.ownsRow base 60 3 v' (n + 1) (C ++ [y0, y1, y2]) → w.grownBy w' v.ownBlock → Own v v' w → K (a.put o.dst v') w') : if Region.wanted o (yielded ops a.tmps) = true then Oper.wp Tryd.prog o a w K Q else E := by
  have hw : Region.wanted o (yielded ops a.tmps) = true := by simp [Region.wanted, hgd]
  rw [if_pos hw]
  obtain ⟨i0, hi, hz0, hz1, hz2⟩ := info_parts infoN
  have h1c : ∀ u ∈ [y0, y1, y2], u.oneCell' = true := by
    intro u hu
    simp at hu
    rcases hu with rfl | rfl | rfl
    · exact hone.1
    · exact hone.2.1
    · exact hone.2.2
  have hc : ∀ j u, [y0, y1, y2][j]? = some u → w.cell? ((⟨g, 0, none⟩ : Addr).add j) = some u := by
    intro j u hu
    rw [addr_at, Nat.zero_add]
    match j, hu with
    | 0, hu => simp at hu; rw [← hu]; exact hy.1
    | 1, hu => simp at hu; rw [← hu]; exact hy.2.1
    | 2, hu => simp at hu; rw [← hu]; exact hy.2.2
    | j + 3, hu => simp at hu
  obtain ⟨A, c, rfl⟩ := own_shape hown
  have hL : C.length = n * 3 := hown.1
  cases A with
  | none =>
    have h0 : n = 0 ∧ c = 0 := by
      rcases hown.2 with ⟨hv, h0⟩ | ⟨b, cap, cur, hv, _⟩
      · injection hv with e1 e2 e3
        exact ⟨h0, e3⟩
      · injection hv with e1 e2 e3
        cases e1
    obtain ⟨rfl, rfl⟩ := h0
    have hP : C = [] := List.eq_nil_of_length_eq_zero (by omega)
    subst hP
    obtain ⟨v', w', hrun, r1, r2, _⟩ := run_append_own (P := Tryd.prog) w w.heap.size 58 o.type 60 i0 (.agg #[.string ⟨#[]⟩, .slice none 0 0, .slice none 0 0]) 3 64 Tryd.underlying58 hi hz0 hz1 hz2 rfl (by decide) (.slice none 0 0) 0 [] (World.ownsRow_nil w _ _ _) ⟨g, 0, none⟩ 1 1 [y0, y1, y2] rfl hc h1c (by unfold maxLen; omega) (by omega) (Nat.le_refl _)
    unfold Oper.wp
    simp [execOp, ho, resolve, invoke, builtin, hs, hx, hrun, Result.andThen]
    exact h _ w' (own_base r1 hbase) r2 (fun r hr => .inr (r1.lt r hr).1)
  | some ad =>
    obtain ⟨b, rfl⟩ : ∃ b, ad = ⟨b, 0, none⟩ := by
      rcases hown.2 with ⟨hv, _⟩ | ⟨b, cap, cur, hv, _⟩
      · injection hv with e1 e2 e3
        cases e1
      · injection hv with e1 e2 e3
        exact ⟨b, by injection e1⟩
    by_cases hfit : n + 1 ≤ c
    · obtain ⟨w', hrun, r1, r2⟩ := run_append_fits (P := Tryd.prog) w base 58 o.type 60 i0 3 Tryd.underlying58 hi hz1 b n c C hown ⟨g, 0, none⟩ 1 1 [y0, y1, y2] rfl hc h1c hfit
      unfold Oper.wp
      simp [execOp, ho, resolve, invoke, builtin, hs, hx, hrun, Result.andThen]
      exact h _ w' r1 r2 (fun g hg => .inl hg)
    · obtain ⟨v', w', hrun, r1, r2⟩ := run_append_arg_grows (P := Tryd.prog) w 58 o.type 60 i0 (.agg #[.string ⟨#[]⟩, .slice none 0 0, .slice none 0 0]) 3 64 Tryd.underlying58 hi hz0 hz1 hz2 rfl (by decide) ⟨b, 0, none⟩ n c C hL (fun j u hu => (own_cl hown).src j u hu) ⟨g, 0, none⟩ 1 1 [y0, y1, y2] rfl hc (by omega) (by unfold maxLen; omega) (by omega)
      unfold Oper.wp
      simp [execOp, ho, resolve, invoke, builtin, hs, hx, hrun, Result.andThen]
      exact h _ w' (own_base r1 hbase) ⟨r2.os, r2.tape, r2.output, r2.size, fun k hk _ => r2.block k hk (by simp)⟩ (fun r hr => .inr (r1.lt r hr).1)
/-- what a call of the reader says: of its node, where it is, what is wrong -/
def NdInfo (R : Res) (w w' : World) (L : List UInt8) (V : Value) (k d d0 : Nat) (e : Int) : Prop := match R with
  | .ok x l => e = 0 ∧ d = d0 ∧ L.drop k = l ∧ k ≤ L.length + 5 ∧ ∃ nd, isN nd = true ∧ NdV w' (fun b => w.heap.size ≤ b) nd V ∧ ∀ s, (Ln nd).1 s ↔ Lang x s
  | .err e0 => e = e0 ∧ e0 ≠ 0
def IsS (v : Value) : Prop := ∃ A n c, v = .slice A n c
theorem isS (A : Option Addr) (n c : Nat) : IsS (.slice A n c) := ⟨A, n, c, rfl⟩
def RpP (R : Res) (bd : Nat) (w : World) (q : Nat) (L : List UInt8) (d0 : Nat) (y : Ending) (w' : World) : Prop :=
  ∃ kd hs ks k d e, y = .returned (.agg #[.string kd, hs, ks]) ∧ IsS hs ∧ IsS ks ∧ RO w q L k d e w' ∧ k ≤ bd ∧ d0 ≤ d ∧ d ≤ d0 + 1 ∧ Hid (NdInfo R w w' L (.agg #[.string kd, hs, ks]) k d d0 e)
/-- what the recursion pays -/
def patR (n d : Nat) (l : List UInt8) : Res := if 8 ≤ d then .err 9 else patF n (d + 1) none .eps l
def PatR (n : Nat) : Prop := ∀ (q : Nat) (L l : List UInt8) (k d : Nat) (w : World), Rr w q L k d 0 → L.drop k = l → l.length < n → L.length ≤ 64 → k ≤ L.length + 5 → d ≤ 8 → n ≤ 100 →
  Calls Tryd.prog 29 #[.pointer (some ⟨q, 0, none⟩)] w (RpP (patR n d l) (80 + 10 * n) w q L d)
end Go.Proofs.YtnabfganecghkaaDoor
