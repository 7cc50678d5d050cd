/- prepare and holds, walked. -/
import Derived.Test.YtnabfganecghkaaDoorRrN
import Derived.Test.YtnabfganecghkaaDoorLbZ
import Derived.Deep.Cut
/-! Matchers: plainly, and in memory; the table of ways. -/
namespace Go.Proofs.YtnabfganecghkaaDoor
open Go.RowKit Go.Sort
set_option linter.unusedVariables false

/-- a matcher -/
structure Mt where
  nm : ByteArray
  op : Int
  vl : ByteArray
def mtE (m : Mt) : List Value := [.string m.nm, .int .i64 m.op, .string m.vl]
def mtC (l : List Mt) : List Value := l.flatMap mtE
def mtV (m : Mt) : Value := .agg #[.string m.nm, .int .i64 m.op, .string m.vl]
theorem mtC_length (l : List Mt) : (mtC l).length = l.length * 3 := by
  induction l with
  | nil => rfl
  | cons a r ih => simp [mtC, mtE] at *; omega
theorem mtC_append (l m : List Mt) : mtC (l ++ m) = mtC l ++ mtC m := by simp [mtC]
theorem mtC_at : ∀ {l : List Mt} {j : Nat} {p : Mt}, l[j]? = some p → (mtC l)[j * 3]? = some (.string p.nm) ∧ (mtC l)[j * 3 + 1]? = some (.int .i64 p.op) ∧ (mtC l)[j * 3 + 2]? = some (.string p.vl)
  | [], j, p, h => by simp at h
  | a :: r, 0, p, h => by
    simp at h
    subst h
    exact ⟨rfl, rfl, rfl⟩
  | a :: r, j + 1, p, h => by
    have ih := mtC_at (l := r) (j := j) (p := p) (by simpa using h)
    have e : mtC (a :: r) = mtE a ++ mtC r := rfl
    have h3 : (mtE a).length = 3 := rfl
    rw [e, List.getElem?_append_right (by rw [h3]; omega), List.getElem?_append_right (by rw [h3]; omega), List.getElem?_append_right (by rw [h3]; omega), h3, show (j + 1) * 3 - 3 = j * 3 by omega, show (j + 1) * 3 + 1 - 3 = j * 3 + 1 by omega, show (j + 1) * 3 + 2 - 3 = j * 3 + 2 by omega]
    exact ih
/-- a text's bytes are no more than a machine's -/
def Wt (s : ByteArray) : Prop := s.size ≤ 9223372036854775807
def Wm (l : List Mt) : Prop := ∀ m ∈ l, Wt m.nm ∧ Wt m.vl
/-- a slice of matchers whose address is A reads as l -/
def Mq (w : World) (A : Option Addr) (l : List Mt) : Prop := l.length ≤ 9223372036854775807 ∧ Wm l ∧ Cl w A (mtC l)
theorem Mq.below {w w' : World} {A : Option Addr} {l : List Mt} (h : Mq w A l) (k : Below w.heap.size w w') : Mq w' A l := ⟨h.1, h.2.1, h.2.2.below k⟩
theorem Mq.nil (w : World) (A : Option Addr) : Mq w A [] := ⟨by simp, fun p hp => by simp at hp, Cl.nil _ _⟩
theorem Mq.some_ {w : World} {A : Option Addr} {l : List Mt} (h : Mq w A l) (h0 : 0 < l.length) : ∃ b off, A = some ⟨b, off, none⟩ ∧ ∀ (j : Nat) (p : Mt), l[j]? = some p →
    w.cell? ⟨b, off + j * 3, none⟩ = some (.string p.nm) ∧ w.cell? ⟨b, off + j * 3 + 1, none⟩ = some (.int .i64 p.op) ∧ w.cell? ⟨b, off + j * 3 + 2, none⟩ = some (.string p.vl) := by
  obtain ⟨b, off, e, hc⟩ := h.2.2.some_ (by rw [mtC_length]; omega)
  exact ⟨b, off, e, fun j p hj => ⟨hc _ _ (mtC_at hj).1, by rw [Nat.add_assoc]; exact hc _ _ (mtC_at hj).2.1, by rw [Nat.add_assoc]; exact hc _ _ (mtC_at hj).2.2⟩⟩
/-- the table of ways, as it is laid -/
def Tab (w : World) : Prop :=
  w.cell? ⟨0, 0, none⟩ = some (.string ⟨#[61]⟩) ∧ w.cell? ⟨0, 1, none⟩ = some (.bool false) ∧ w.cell? ⟨0, 2, none⟩ = some (.bool false) ∧
  w.cell? ⟨0, 3, none⟩ = some (.string ⟨#[33, 61]⟩) ∧ w.cell? ⟨0, 4, none⟩ = some (.bool false) ∧ w.cell? ⟨0, 5, none⟩ = some (.bool true) ∧
  w.cell? ⟨0, 6, none⟩ = some (.string ⟨#[61, 126]⟩) ∧ w.cell? ⟨0, 7, none⟩ = some (.bool true) ∧ w.cell? ⟨0, 8, none⟩ = some (.bool false) ∧
  w.cell? ⟨0, 9, none⟩ = some (.string ⟨#[33, 126]⟩) ∧ w.cell? ⟨0, 10, none⟩ = some (.bool true) ∧ w.cell? ⟨0, 11, none⟩ = some (.bool true)
theorem Tab.below {w w' : World} (h : Tab w) (k : Below w.heap.size w w') : Tab w' := by
  obtain ⟨h0, h1, h2, h3, h4, h5, h6, h7, h8, h9, h10, h11⟩ := h
  exact ⟨cell_below h0 k, cell_below h1 k, cell_below h2 k, cell_below h3 k, cell_below h4 k, cell_below h5 k, cell_below h6 k, cell_below h7 k, cell_below h8 k, cell_below h9 k, cell_below h10 k, cell_below h11 k⟩
/-- what is wrong with a matcher, with some -/
noncomputable def prepE (m : Mt) : Int := if m.op < 0 ∨ 4 ≤ m.op then 1 else if Lb.nameB m.nm = false ∨ 64 < m.vl.size then 26 else if 2 ≤ m.op then errN (parseF m.vl.data.toList) else 0
noncomputable def newL : List Mt → Int
  | [] => 0
  | m :: r => if prepE m = 0 then newL r else prepE m
noncomputable def newE (l : List Mt) : Int := if 16 < l.length then 9 else newL l
/-- whether a value is as it is asked -/
def holdsM (m : Mt) (v : ByteArray) : Bool := (if 2 ≤ m.op then mtR (parseF m.vl.data.toList) v.data.toList else decide (v = m.vl)) != decide (m.op = 1 ∨ m.op = 3)
def allM (l : List Mt) (a : List Lb.Lab) : Bool := l.all fun m => holdsM m (Lb.getV a m.nm)
/-- a way's parts -/
def likeB (op : Int) : Bool := decide (2 ≤ op)
def notB (op : Int) : Bool := decide (op = 1 ∨ op = 3)
def signB (op : Int) : ByteArray := if op = 0 then ⟨#[61]⟩ else if op = 1 then ⟨#[33, 61]⟩ else if op = 2 then ⟨#[61, 126]⟩ else ⟨#[33, 126]⟩
theorem Tab.at {w : World} (h : Tab w) (k : Nat) (hk : k < 4) : w.cell? ⟨0, k * 3, none⟩ = some (.string (signB k)) ∧ w.cell? ⟨0, k * 3 + 1, none⟩ = some (.bool (likeB k)) ∧ w.cell? ⟨0, k * 3 + 2, none⟩ = some (.bool (notB k)) := by
  obtain ⟨h0, h1, h2, h3, h4, h5, h6, h7, h8, h9, h10, h11⟩ := h
  rcases (show k = 0 ∨ k = 1 ∨ k = 2 ∨ k = 3 by omega) with rfl | rfl | rfl | rfl
  · exact ⟨h0, h1, h2⟩
  · exact ⟨h3, h4, h5⟩
  · exact ⟨h6, h7, h8⟩
  · exact ⟨h9, h10, h11⟩
end Go.Proofs.YtnabfganecghkaaDoor

/-! isName, prepare, holds. -/
namespace Go.Proofs.YtnabfganecghkaaDoor
open Go.RowKit Go.Sort
set_option linter.unusedVariables false

theorem chk_one (s : ByteArray) : (Lb.chk [(s, s)] = 0) ↔ Lb.nameB s = true := by
  rw [Lb.nameB_iff]
  constructor
  · intro h
    have := ((Lb.chk_ok h).2 0 (s, s) rfl).1
    exact this.1
  · intro h
    refine Lb.chk_0 (by simp) (Lb.good_all fun i hi => ?_)
    have hi0 : i = 0 := by simp at hi; omega
    subst hi0
    intro p hp
    simp at hp
    subst hp
    exact ⟨⟨h, h.1⟩, fun q h0 => by omega⟩
set_option maxHeartbeats 1000000 in
theorem isName_any (s : ByteArray) (w : World) (hs : Wt s) : Calls Tryd.prog 27 #[.string s] w fun y w' => y = .returned (.bool (Lb.nameB s)) ∧ Below w.heap.size w w' := by
  obtain ⟨W, hW⟩ : ∃ W, w.alloc (.cells #[.string s, .string s] 43 (0, 0)) = W := ⟨_, rfl⟩
  obtain ⟨h, hh⟩ : ∃ h, w.heap.size = h := ⟨_, rfl⟩
  have hb : Below w.heap.size w W := hW ▸ (Below.refl _ _).alloc (Nat.le_refl _) _
  have hblk : W.heap[h]? = some (.cells #[.string s, .string s] 43 (0, 0)) := hh ▸ hW ▸ heap_alloc_new w _
  have HL := Lib.hid (show Lb.Lw W (some ⟨h, 0, none⟩) [(s, s)] from ⟨by simp, fun p hp => by
    simp at hp
    subst hp
    unfold Wt at hs
    exact ⟨by unfold Lb.Ws; show s.size ≤ _; omega, by unfold Lb.Ws; show s.size ≤ _; omega⟩, .inr ⟨h, 0, rfl, fun j v hj => by
    rw [cell_of_row _ _ _ _ _ _ hblk, ← hj, Nat.zero_add]
    match j with
    | 0 => rfl
    | 1 => rfl
    | j + 2 => simp [Lb.labC, Lb.labE]⟩⟩)
  have HB := Lib.hid hb
  obtain ⟨E, hE⟩ : ∃ E, Lb.chk [(s, s)] = E := ⟨_, rfl⟩
  have HE := Lib.hid hE
  obtain ⟨z, hz⟩ : ∃ z, Lb.nameB s = z := ⟨_, rfl⟩
  have HZ := Lib.hid (show (E == 0) = z by
    rw [← hz, ← hE]
    apply Bool.eq_iff_iff.2
    rw [beq_iff_eq]
    exact chk_one s)
  rw [hz]
  clear hb hblk hE hz hs
  go_enter Tryd.func27, Tryd.ntmps27
  go_wp2_with fail
  clear hW hh
  refine (Lb.check_any _ 1 1 [(s, s)] _ rfl HL.out).mono ?_
  rw [HE.out]
  rintro y w2 ⟨rfl, hb⟩
  have HB2 := Lib.hid (HB.out.trans (hb.mono HB.out.size))
  clear hb
  have hz := HZ.out
  go_wp2_with fail
  go_ret
  exact ⟨rfl, HB2.out⟩
/-- what a matcher's pattern reads -/
def rdR (m : Mt) : Res := if 2 ≤ m.op then parseF m.vl.data.toList else .err 0
/-- a ready matcher's value -/
def reV (nm : ByteArray) (op : Int) (vl : ByteArray) (A : Option Addr) (n c f l : Nat) (e : Bool) : Value := .agg #[.string nm, .int .i64 op, .string vl, .slice A n c, .int .u64 (f : Nat), .int .u64 (l : Nat), .bool e]
def PrP (m : Mt) (w : World) (y : Ending) (w' : World) : Prop :=
  ∃ nm op vl A n c f l e, y = .returned (.tuple #[.agg #[.string nm, .int .i64 op, .string vl, .slice A n c, .int .u64 ((f : Nat) : Int), .int .u64 ((l : Nat) : Int), .bool e], .int .i64 (prepE m)]) ∧
  Hid (prepE m = 0 → nm = m.nm ∧ op = m.op ∧ vl = m.vl ∧ Rg w' (.agg #[.slice A n c, .int .u64 ((f : Nat) : Int), .int .u64 ((l : Nat) : Int), .bool e]) (plR (rdR m)) (pcR (rdR m)) ∧ ∀ a, A = some a → w.heap.size ≤ a.block ∧ a.block < w'.heap.size) ∧ Below w.heap.size w w'
/-- boxes of the call's own -/
structure B3 (w : World) (h : Nat) (nm : ByteArray) (op : Int) (vl : ByteArray) : Prop where
  hw : h < w.heap.size
  blk : w.heap[h]? = some (.cells #[.string nm, .int .i64 op, .string vl] 40 (0, 0))
theorem B3.below {w w' : World} {h : Nat} {nm vl : ByteArray} {op : Int} (b : B3 w h nm op vl) (k : Below w.heap.size w w') : B3 w' h nm op vl := ⟨Nat.lt_of_lt_of_le b.hw k.size, (k.block h b.hw).trans b.blk⟩
theorem B3.cells {w : World} {h : Nat} {nm vl : ByteArray} {op : Int} (b : B3 w h nm op vl) : w.cell? ⟨h, 0, none⟩ = some (.string nm) ∧ w.cell? ⟨h, 1, none⟩ = some (.int .i64 op) ∧ w.cell? ⟨h, 2, none⟩ = some (.string vl) := by
  have hb := b.blk
  refine ⟨?_, ?_, ?_⟩
  · rw [cell_of_row _ _ _ _ _ _ hb]; rfl
  · rw [cell_of_row _ _ _ _ _ _ hb]; rfl
  · rw [cell_of_row _ _ _ _ _ _ hb]; rfl
theorem B3.new (w : World) (nm : ByteArray) (op : Int) (vl : ByteArray) : B3 (w.alloc (.cells #[.string nm, .int .i64 op, .string vl] 40 (0, 0))) w.heap.size nm op vl := ⟨by simp, heap_alloc_new w _⟩
structure B7 (w : World) (h : Nat) (nm : ByteArray) (op : Int) (vl : ByteArray) (A : Option Addr) (n c f l : Nat) (e : Bool) : Prop where
  hw : h < w.heap.size
  blk : w.heap[h]? = some (.cells #[.string nm, .int .i64 op, .string vl, .slice A n c, .int .u64 ((f : Nat) : Int), .int .u64 ((l : Nat) : Int), .bool e] 54 (0, 0))
theorem B7.below {w w' : World} {h n c f l : Nat} {nm vl : ByteArray} {op : Int} {A : Option Addr} {e : Bool} (b : B7 w h nm op vl A n c f l e) (k : Below w.heap.size w w') : B7 w' h nm op vl A n c f l e := ⟨Nat.lt_of_lt_of_le b.hw k.size, (k.block h b.hw).trans b.blk⟩
theorem B7.other {w : World} {h n c f l : Nat} {nm vl : ByteArray} {op : Int} {A : Option Addr} {e : Bool} (b : B7 w h nm op vl A n c f l e) {a : Addr} (ha : h ≠ a.block) (u : Value) : B7 (w.setCell a u) h nm op vl A n c f l e := ⟨by simpa using b.hw, (Below.heap_setCell w a u h ha).trans b.blk⟩
theorem B7.cells {w : World} {h n c f l : Nat} {nm vl : ByteArray} {op : Int} {A : Option Addr} {e : Bool} (b : B7 w h nm op vl A n c f l e) : (w.cell? ⟨h, 0, none⟩ = some (.string nm) ∧ w.cell? ⟨h, 1, none⟩ = some (.int .i64 op) ∧ w.cell? ⟨h, 2, none⟩ = some (.string vl) ∧ w.cell? ⟨h, 3, none⟩ = some (.slice A n c) ∧ w.cell? ⟨h, 4, none⟩ = some (.int .u64 ((f : Nat) : Int)) ∧ w.cell? ⟨h, 5, none⟩ = some (.int .u64 ((l : Nat) : Int)) ∧ w.cell? ⟨h, 6, none⟩ = some (.bool e)) ∧ ∀ i, w.frozen? ⟨h, i, none⟩ = false := by
  have hb := b.blk
  refine ⟨⟨?_, ?_, ?_, ?_, ?_, ?_, ?_⟩, fun i => by simp [World.frozen?, hb]⟩
  · rw [cell_of_row _ _ _ _ _ _ hb]; rfl
  · rw [cell_of_row _ _ _ _ _ _ hb]; rfl
  · rw [cell_of_row _ _ _ _ _ _ hb]; rfl
  · rw [cell_of_row _ _ _ _ _ _ hb]; rfl
  · rw [cell_of_row _ _ _ _ _ _ hb]; rfl
  · rw [cell_of_row _ _ _ _ _ _ hb]; rfl
  · rw [cell_of_row _ _ _ _ _ _ hb]; rfl
theorem B7.new (w : World) (nm : ByteArray) (op : Int) (vl : ByteArray) (A : Option Addr) (n c f l : Nat) (e : Bool) : B7 (w.alloc (.cells #[.string nm, .int .i64 op, .string vl, .slice A n c, .int .u64 ((f : Nat) : Int), .int .u64 ((l : Nat) : Int), .bool e] 54 (0, 0))) w.heap.size nm op vl A n c f l e := ⟨by simp, heap_alloc_new w _⟩
end Go.Proofs.YtnabfganecghkaaDoor

/-! Parse of a pattern: its places lie in new memory. -/
namespace Go.Proofs.YtnabfganecghkaaDoor
open Go.RowKit
set_option linter.unusedVariables false

/-- the places of what comes back are new -/
def NewR (w : World) (y : Ending) (w' : World) : Prop := ∀ A n c x1 x2 x3 E, y = .returned (.tuple #[.agg #[.slice A n c, x1, x2, x3], E]) → ∀ a, A = some a → w.heap.size ≤ a.block ∧ a.block < w'.heap.size
theorem newR_of {w w' : World} {A : Option Addr} {n c : Nat} {pc : Pc} {E : Value} (h : ∀ a, A = some a → w.heap.size ≤ a.block ∧ a.block < w'.heap.size) : NewR w (.returned (.tuple #[rgV A n c pc, E])) w' := by
  intro A' n' c' x1 x2 x3 E' he a ha
  unfold rgV at he
  injection he with he
  injection he with he
  have h0 := congrArg Array.toList he
  simp at h0
  obtain ⟨⟨⟨e1, _⟩, _⟩, _⟩ := h0
  exact h a (e1.trans ha)
set_option maxHeartbeats 2000000 in
theorem parse_new (s : ByteArray) (w : World) : Calls Tryd.prog 28 #[.string s] w (fun y w' => ParP (parseF s.data.toList) w y w' ∧ NewR w y w') := by
  obtain ⟨L, hL⟩ : ∃ L, s.data.toList = L := ⟨_, rfl⟩
  have hLs : (s.size : Int) = (L.length : Int) := by rw [← hL, Array.length_toList]; rfl
  have hsx : s = tx L := by rw [← hL, tx_of]
  rw [hL]
  obtain ⟨h, hh⟩ : ∃ h, w.heap.size = h := ⟨_, rfl⟩
  obtain ⟨W, hW⟩ : ∃ W, w.alloc (.cells #[.slice none 0 0, .int .u64 0, .int .u64 0, .bool false] 52 (0, 0)) = W := ⟨_, rfl⟩
  have RB : Rb W h := ⟨by rw [← hW, ← hh]; simp, hh ▸ hW ▸ heap_alloc_new w _⟩
  have BW : Below w.heap.size w W := hW ▸ (Below.refl _ _).alloc (Nat.le_refl _) _
  have hWs : W.heap.size = h + 1 := by rw [← hW, ← hh]; simp
  have HH := Lib.hid (show w.heap.size ≤ h by omega)
  by_cases hlong : 64 < L.length
  · have HR := Lib.hid (parseF_long hlong)
    rw [HR.out]
    have hl : (64 : Int) < (s.size : Int) := by omega
    obtain ⟨⟨z0, z1, z2, z3⟩, zf0, zf1, zf2, zf3⟩ := RB.cells
    have HB := Lib.hid BW
    clear hlong hLs hsx hL RB BW hWs
    go_enter Tryd.func28, Tryd.ntmps28
    go_wp2_with fail
    clear hW hh
    refine bodyPost_ret (v := .tuple #[rgV none 0 0 ⟨0, 0, false⟩, .int .i64 9]) (by simp [results, Tryd.results28, go_sem, z0, z1, z2, z3, rgV]) rfl ⟨⟨⟨_, rfl, rg0 _⟩, fun e he => by cases he; decide, ?_⟩, newR_of (fun a ha => by cases ha)⟩
    exact below_set (below_set (below_set (below_set HB.out ⟨h, 0, none⟩ HH.out _) ⟨h, 1, none⟩ HH.out _) ⟨h, 2, none⟩ HH.out _) ⟨h, 3, none⟩ HH.out _
  · have hl : ¬ (64 : Int) < (s.size : Int) := by omega
    have HS := Lib.hid (show parseF L = match patF 100 1 none .eps L with
      | .err e => .err e
      | .ok x q => if q = [] then .ok x [] else .err 27 by unfold parseF; rw [if_neg hlong]; rfl)
    obtain ⟨W1, hW1⟩ : ∃ W1, W.alloc (.cells #[.string s, .int .i64 1, .slice none 0 0, .int .i64 0] 97 (0, 0)) = W1 := ⟨_, rfl⟩
    have p1 : Ps W1 (h + 1) (h + 1 + 1) L 1 (.slice none 0 0) [] 0 := by
      have := Ps.first W L
      rw [← hsx, hWs, hW1] at this
      exact this
    have B1 : Below w.heap.size w W1 := hW1 ▸ BW.alloc BW.size _
    have RB1 : Rb W1 h := ⟨by have := RB.hw; rw [← hW1]; simp; omega, by rw [← hW1]; exact (Below.heap_alloc W _ h RB.hw).trans RB.blk⟩
    have P1 := Lib.hid p1
    have HB1 := Lib.hid B1
    have HRB := Lib.hid RB1
    have HLN := Lib.hid (show L.length < 100 ∧ L.length ≤ 64 by omega)
    have HPT := Lib.hid (pat_any 100 (h + 1) (h + 1 + 1) 1 (.slice none 0 0) [] L W1 p1 (by omega) (by simp; omega) (by omega))
    have HW1 := Lib.hid hW1
    clear hlong hLs hsx hL RB BW p1 B1 RB1 hW1
    go_enter Tryd.func28, Tryd.ntmps28
    go_wp2_with fail
    rw [HW1.out]
    clear hW hh hWs
    refine HPT.out.mono ?_
    intro y w2 hp
    cases hr : patF 100 1 none .eps L with
    | err e =>
      rw [hr] at hp
      obtain ⟨he, pc, v2, P2, rfl, hpc, hP2, ho⟩ := hp
      have HR := Lib.hid (show parseF L = .err e by rw [HS.out, hr])
      have HE := Lib.hid he
      have heb : (e != 0) = true := by simp [he]
      obtain ⟨W3, hW3⟩ : ∃ W3, w2.alloc (.cells #[.int .u64 (pc.f : Nat), .int .u64 (pc.l : Nat), .bool pc.e] 50 (0, 0)) = W3 := ⟨_, rfl⟩
      have P3 := Lib.hid (hW3 ▸ ho.1.alloc _ : Ps W3 (h + 1) (h + 1 + 1) _ 1 v2 _ _)
      have G3 := Lib.hid (hW3 ▸ ho.2.alloc _ : Go1 (h + 1) (.slice none 0 0) v2 W1 W3)
      obtain ⟨b, hb⟩ : ∃ b, w2.heap.size = b := ⟨_, rfl⟩
      have X3 := Lib.hid (show Bx W3 b (h + 1) v2 pc from hb ▸ hW3 ▸ Bx.new ho.1 pc)
      simp only [pcV]
      have c0 := P3.out.c0
      rw [tx_nil] at c0
      clear ho he hpc hP2 hr
      have c3 := P3.out.c3
      obtain ⟨⟨z0, z1, z2, z3⟩, zf0, zf1, zf2, zf3⟩ := (HRB.out.go (B := 0) G3.out (by omega) (by simp [Value.ownBlock])).cells
      have c3d : (W3.drew).cell? ⟨h + 1, 3, none⟩ = some (.int .i64 (e)) := c3
      have HBE := Lib.hid (show Below w.heap.size w (W3.drew) from below_drewN (go1_below2 HB1.out HB1.out.size G3.out (by have := HH.out; omega)) 1)
      go_wp2_with fail
      go_region
      all_goals
        go_wp2_with fail
        refine bodyPost_ret (v := .tuple #[rgV none 0 0 ⟨0, 0, false⟩, .int .i64 (e)]) (by simp [results, Tryd.results28, go_sem, z0, z1, z2, z3, rgV]) rfl ?_
        rw [HR.out]
        refine ⟨⟨⟨_, rfl, rg0 _⟩, fun e' he => by cases he; exact HE.out, ?_⟩, newR_of (fun a ha => by cases ha)⟩
        first | exact below_set (below_set (below_set (below_set (HBE.out) ⟨h, 0, none⟩ HH.out _) ⟨h, 1, none⟩ HH.out _) ⟨h, 2, none⟩ HH.out _) ⟨h, 3, none⟩ HH.out _ | exact (by have := HBE.out; exact this)
    | ok x q =>
      rw [hr] at hp
      simp only [PatP] at hp
      obtain ⟨rfl, hok, hlen, v2, ho⟩ := hp
      obtain ⟨pc, hpc⟩ : ∃ pc, (glu x []).1 = pc := ⟨_, rfl⟩
      obtain ⟨Q, hQ⟩ : ∃ Q, (glu x []).2 = Q := ⟨_, rfl⟩
      rw [hpc] at hok ⊢
      rw [hQ] at hlen ho
      have HPC := Lib.hid hpc
      have HQQ := Lib.hid hQ
      have HOK := Lib.hid hok
      have HLEN := Lib.hid hlen
      cases q with
      | cons a q =>
        have HR := Lib.hid (show parseF L = .err 27 by rw [HS.out, hr]; rfl)
        obtain ⟨W3, hW3⟩ : ∃ W3, w2.alloc (.cells #[.int .u64 (pc.f : Nat), .int .u64 (pc.l : Nat), .bool pc.e] 50 (0, 0)) = W3 := ⟨_, rfl⟩
        have P3 := Lib.hid (hW3 ▸ ho.1.alloc _ : Ps W3 (h + 1) (h + 1 + 1) _ 1 v2 _ _)
        have G3 := Lib.hid (hW3 ▸ ho.2.alloc _ : Go1 (h + 1) (.slice none 0 0) v2 W1 W3)
        obtain ⟨b, hb⟩ : ∃ b, w2.heap.size = b := ⟨_, rfl⟩
        have X3 := Lib.hid (show Bx W3 b (h + 1) v2 pc from hb ▸ hW3 ▸ Bx.new ho.1 pc)
        simp only [pcV]
        obtain ⟨T, hT, hTe, _⟩ := tx_open a q (by simp at hlen; omega)
        have c0 := P3.out.c0
        rw [hT] at c0
        clear ho hr hpc hQ hok hlen
        go_wp2_with fail
        refine (fail_any _ _ _ _ _ _ _ 27 _ P3.out).mono ?_
        rintro y w4 ⟨rfl, ho⟩
        have P4 := Lib.hid (show Ps w4 (h + 1) (h + 1 + 1) [] 1 v2 Q 27 from ho.1)
        have G4 := Lib.hid (G3.out.trans ho.2)
        clear ho
        have c3 := P4.out.c3
        obtain ⟨⟨z0, z1, z2, z3⟩, zf0, zf1, zf2, zf3⟩ := (HRB.out.go (B := 0) G4.out (by omega) (by simp [Value.ownBlock])).cells
        have c3d : (w4.drew).cell? ⟨h + 1, 3, none⟩ = some (.int .i64 (27)) := c3
        have HBE := Lib.hid (show Below w.heap.size w (w4.drew) from below_drewN (go1_below2 HB1.out HB1.out.size G4.out (by have := HH.out; omega)) 1)
        go_wp2_with fail
        go_region
        all_goals
          go_wp2_with fail
          refine bodyPost_ret (v := .tuple #[rgV none 0 0 ⟨0, 0, false⟩, .int .i64 (27)]) (by simp [results, Tryd.results28, go_sem, z0, z1, z2, z3, rgV]) rfl ?_
          rw [HR.out]
          refine ⟨⟨⟨_, rfl, rg0 _⟩, fun e' he => by cases he; decide, ?_⟩, newR_of (fun a ha => by cases ha)⟩
          first | exact below_set (below_set (below_set (below_set (HBE.out) ⟨h, 0, none⟩ HH.out _) ⟨h, 1, none⟩ HH.out _) ⟨h, 2, none⟩ HH.out _) ⟨h, 3, none⟩ HH.out _ | exact (by have := HBE.out; exact this)
      | nil =>
        have HR := Lib.hid (show parseF L = .ok x [] by rw [HS.out, hr]; rfl)
        obtain ⟨W3, hW3⟩ : ∃ W3, w2.alloc (.cells #[.int .u64 (pc.f : Nat), .int .u64 (pc.l : Nat), .bool pc.e] 50 (0, 0)) = W3 := ⟨_, rfl⟩
        have P3 := Lib.hid (hW3 ▸ ho.1.alloc _ : Ps W3 (h + 1) (h + 1 + 1) _ 1 v2 _ _)
        have G3 := Lib.hid (hW3 ▸ ho.2.alloc _ : Go1 (h + 1) (.slice none 0 0) v2 W1 W3)
        obtain ⟨b, hb⟩ : ∃ b, w2.heap.size = b := ⟨_, rfl⟩
        have X3 := Lib.hid (show Bx W3 b (h + 1) v2 pc from hb ▸ hW3 ▸ Bx.new ho.1 pc)
        simp only [pcV]
        obtain ⟨A, c, hv⟩ := own_shape ho.1.own
        subst hv
        have c0 := P3.out.c0
        rw [tx_nil] at c0
        have c3 := P3.out.c3
        have c2 := P3.out.c2
        obtain ⟨⟨z0, z1, z2, z3⟩, zf0, zf1, zf2, zf3⟩ := (HRB.out.go (B := 0) G3.out (by omega) (by simp [Value.ownBlock])).cells
        obtain ⟨x0, x1, x2, xf0, xf1, xf2⟩ := X3.out.cells
        have HBE := Lib.hid (show Below w.heap.size w W3 from go1_below2 HB1.out HB1.out.size G3.out (by have := HH.out; omega))
        clear ho hr hpc hQ hok hlen
        go_wp2_with fail
        refine bodyPost_ret (v := .tuple #[rgV A Q.length c pc, .int .i64 0]) (by simp [results, Tryd.results28, go_sem, z0, z1, z2, z3, rgV]) rfl ?_
        rw [HR.out]
        refine ⟨⟨⟨_, rfl, ?_⟩, fun e' he => (by cases he), ?_⟩, newR_of (fun a ha => by have h1 := P3.out.own.lt a.block (by rw [ha]; rfl); have := HH.out; refine ⟨by omega, ?_⟩; simp; omega)⟩
        · show Rg _ _ (glu x []).2 (glu x []).1
          rw [HPC.out, HQQ.out]
          have hc : Cl W3 A (plC Q) := own_cl P3.out.own
          have hne : ∀ a, A = some a → a.block ≠ h := by
            intro a ha
            have := (P3.out.own.lt a.block (by rw [ha]; rfl)).1
            omega
          exact ⟨⟨A, c, rfl, (((hc.set (p := ⟨h, 0, none⟩) hne _).set (p := ⟨h, 1, none⟩) hne _).set (p := ⟨h, 2, none⟩) hne _).set (p := ⟨h, 3, none⟩) hne _⟩, by have := HLEN.out; simp at this; exact this, P3.out.ok, HOK.out⟩
        · exact below_set (below_set (below_set (below_set (HBE.out) ⟨h, 0, none⟩ HH.out _) ⟨h, 1, none⟩ HH.out _) ⟨h, 2, none⟩ HH.out _) ⟨h, 3, none⟩ HH.out _
end Go.Proofs.YtnabfganecghkaaDoor

/-! prepare and holds, walked. -/
namespace Go.Proofs.YtnabfganecghkaaDoor
open Go.RowKit Go.Sort
set_option linter.unusedVariables false

/-- the call's two boxes: the matcher's, the result's -/
structure PpS (w : World) (m : Mt) (h : Nat) (W : World) : Prop where
  b1 : B3 W h m.nm m.op m.vl
  b2 : B7 W (h + 1) ⟨#[]⟩ 0 ⟨#[]⟩ none 0 0 0 0 false
  tab : Tab W
  bl : Below w.heap.size w W
  hs : w.heap.size ≤ h
theorem PpS.below {w W W' : World} {m : Mt} {h : Nat} (z : PpS w m h W) (b : Below W.heap.size W W') : PpS w m h W' := ⟨z.b1.below b, z.b2.below b, z.tab.below b, z.bl.trans (b.mono z.bl.size), z.hs⟩
theorem PpS.fin {w W : World} {m : Mt} {h : Nat} (z : PpS w m h W) (u0 u1 u2 u3 u4 u5 u6 : Value) : Below w.heap.size w (((((((W.setCell ⟨h + 1, 0, none⟩ u0).setCell ⟨h + 1, 1, none⟩ u1).setCell ⟨h + 1, 2, none⟩ u2).setCell ⟨h + 1, 3, none⟩ u3).setCell ⟨h + 1, 4, none⟩ u4).setCell ⟨h + 1, 5, none⟩ u5).setCell ⟨h + 1, 6, none⟩ u6) := by
  have hp : ∀ i, w.heap.size ≤ (⟨h + 1, i, none⟩ : Addr).block := fun i => by have := z.hs; show w.heap.size ≤ h + 1; omega
  exact ((((((z.bl.setCell (hp 0) u0).setCell (hp 1) u1).setCell (hp 2) u2).setCell (hp 3) u3).setCell (hp 4) u4).setCell (hp 5) u5).setCell (hp 6) u6
theorem rg_fin {W : World} {h : Nat} {V : Value} {P : List Pl} {pc : Pc} (g : Rg W V P pc) (u0 u1 u2 u3 u4 u5 u6 : Value) (hA : ∀ A n c x y z, V = .agg #[.slice A n c, x, y, z] → ∀ a, A = some a → a.block ≠ h) : Rg (((((((W.setCell ⟨h, 0, none⟩ u0).setCell ⟨h, 1, none⟩ u1).setCell ⟨h, 2, none⟩ u2).setCell ⟨h, 3, none⟩ u3).setCell ⟨h, 4, none⟩ u4).setCell ⟨h, 5, none⟩ u5).setCell ⟨h, 6, none⟩ u6) V P pc := by
  obtain ⟨A, c, h1, h2⟩ := g.ex
  have hb := hA A P.length c _ _ _ h1
  exact ⟨⟨A, c, h1, ((((((h2.set (p := ⟨h, 0, none⟩) hb u0).set (p := ⟨h, 1, none⟩) hb u1).set (p := ⟨h, 2, none⟩) hb u2).set (p := ⟨h, 3, none⟩) hb u3).set (p := ⟨h, 4, none⟩) hb u4).set (p := ⟨h, 5, none⟩) hb u5).set (p := ⟨h, 6, none⟩) hb u6⟩, g.n64, g.ok, g.pok⟩
theorem rg_four {W : World} {h : Nat} {V : Value} {P : List Pl} {pc : Pc} (g : Rg W V P pc) (u3 u4 u5 u6 : Value) (hA : ∀ A n c x y z, V = .agg #[.slice A n c, x, y, z] → ∀ a, A = some a → a.block ≠ h) : Rg ((((W.setCell ⟨h, 3, none⟩ u3).setCell ⟨h, 4, none⟩ u4).setCell ⟨h, 5, none⟩ u5).setCell ⟨h, 6, none⟩ u6) V P pc := by
  obtain ⟨A, c, h1, h2⟩ := g.ex
  have hb := hA A P.length c _ _ _ h1
  exact ⟨⟨A, c, h1, (((h2.set (p := ⟨h, 3, none⟩) hb u3).set (p := ⟨h, 4, none⟩) hb u4).set (p := ⟨h, 5, none⟩) hb u5).set (p := ⟨h, 6, none⟩) hb u6⟩, g.n64, g.ok, g.pok⟩
theorem pp_fin2 {w W : World} {m : Mt} {h g : Nat} (z : PpS w m h W) (hg : h ≤ g) (a3 a4 a5 a6 u0 u1 u2 u3 u4 u5 u6 : Value) : Below w.heap.size w (((((((((((W.setCell ⟨g, 3, none⟩ a3).setCell ⟨g, 4, none⟩ a4).setCell ⟨g, 5, none⟩ a5).setCell ⟨g, 6, none⟩ a6).setCell ⟨h + 1, 0, none⟩ u0).setCell ⟨h + 1, 1, none⟩ u1).setCell ⟨h + 1, 2, none⟩ u2).setCell ⟨h + 1, 3, none⟩ u3).setCell ⟨h + 1, 4, none⟩ u4).setCell ⟨h + 1, 5, none⟩ u5).setCell ⟨h + 1, 6, none⟩ u6) := by
  have hq : ∀ i, w.heap.size ≤ (⟨g, i, none⟩ : Addr).block := fun i => by have := z.hs; show w.heap.size ≤ g; omega
  have hp : ∀ i, w.heap.size ≤ (⟨h + 1, i, none⟩ : Addr).block := fun i => by have := z.hs; show w.heap.size ≤ h + 1; omega
  exact ((((((((((z.bl.setCell (hq 3) a3).setCell (hq 4) a4).setCell (hq 5) a5).setCell (hq 6) a6).setCell (hp 0) u0).setCell (hp 1) u1).setCell (hp 2) u2).setCell (hp 3) u3).setCell (hp 4) u4).setCell (hp 5) u5).setCell (hp 6) u6
theorem prep_1 {m : Mt} (h : m.op < 0 ∨ 4 ≤ m.op) : prepE m = 1 := by unfold prepE; rw [if_pos h]
theorem prep_26 {m : Mt} (h : ¬ (m.op < 0 ∨ 4 ≤ m.op)) (h2 : Lb.nameB m.nm = false ∨ 64 < m.vl.size) : prepE m = 26 := by unfold prepE; rw [if_neg h, if_pos h2]
theorem prep_0 {m : Mt} (h : ¬ (m.op < 0 ∨ 4 ≤ m.op)) (h2 : ¬ (Lb.nameB m.nm = false ∨ 64 < m.vl.size)) (h3 : ¬ 2 ≤ m.op) : prepE m = 0 := by unfold prepE; rw [if_neg h, if_neg h2, if_neg h3]
theorem prep_r {m : Mt} (h : ¬ (m.op < 0 ∨ 4 ≤ m.op)) (h2 : ¬ (Lb.nameB m.nm = false ∨ 64 < m.vl.size)) (h3 : 2 ≤ m.op) : prepE m = errN (rdR m) := by unfold prepE rdR; rw [if_neg h, if_neg h2, if_pos h3, if_pos h3]
theorem rdR_no {m : Mt} (h : ¬ 2 ≤ m.op) : rdR m = .err 0 := by unfold rdR; rw [if_neg h]
theorem rdR_yes {m : Mt} (h : 2 ≤ m.op) : rdR m = parseF m.vl.data.toList := by unfold rdR; rw [if_pos h]
set_option maxHeartbeats 2000000 in
theorem prep_op (m : Mt) (w : World) (hT : Tab w) (hbad : m.op < 0 ∨ 4 ≤ m.op) : Calls Tryd.prog 17 #[mtV m] w (PrP m w) := by
  have HE := Lib.hid (prep_1 hbad)
  obtain ⟨nm, op, vl⟩ := m
  obtain ⟨m, hm⟩ : ∃ m : Mt, m = ⟨nm, op, vl⟩ := ⟨_, rfl⟩
  obtain ⟨h, hh⟩ : ∃ h, w.heap.size = h := ⟨_, rfl⟩
  obtain ⟨W0, hW0⟩ : ∃ W0, w.alloc (.cells #[.string nm, .int .i64 op, .string vl] 40 (0, 0)) = W0 := ⟨_, rfl⟩
  obtain ⟨W, hW⟩ : ∃ W, W0.alloc (.cells #[.string ⟨#[]⟩, .int .i64 0, .string ⟨#[]⟩, .slice none 0 0, .int .u64 0, .int .u64 0, .bool false] 54 (0, 0)) = W := ⟨_, rfl⟩
  have s0 : W0.heap.size = h + 1 := by rw [← hW0, ← hh]; simp
  have b0 : Below w.heap.size w W0 := hW0 ▸ (Below.refl _ _).alloc (Nat.le_refl _) _
  have b1 : Below W0.heap.size W0 W := hW ▸ (Below.refl _ _).alloc (Nat.le_refl _) _
  have Z0 := Lib.hid (show PpS w ⟨nm, op, vl⟩ h W from ⟨(hh ▸ hW0 ▸ B3.new w _ _ _ : B3 W0 h nm op vl).below b1, s0 ▸ hW ▸ B7.new W0 _ _ _ _ _ _ 0 0 _, (hT.below b0).below b1, b0.trans (b1.mono b0.size), by omega⟩)
  obtain ⟨x0, x1, x2⟩ := Z0.out.b1.cells
  obtain ⟨⟨y0, y1, y2, y3, y4, y5, y6⟩, yf⟩ := Z0.out.b2.cells
  have f0 := yf 0
  have f1 := yf 1
  have f2 := yf 2
  have f3 := yf 3
  have f4 := yf 4
  have f5 := yf 5
  have f6 := yf 6
  unfold mtV
  clear b0 b1 yf hT hm m
  have hb2 : op < 0 ∨ (¬ op < 0 ∧ 4 ≤ op) := by
    have : op < 0 ∨ 4 ≤ op := hbad
    omega
  clear hbad
  rcases hb2 with hb2 | ⟨hb2, hb3⟩
  all_goals
    go_enter Tryd.func17, Tryd.ntmps17
    go_wp2_with fail
    clear hW hW0 hh s0
    refine bodyPost_ret (v := .tuple #[.agg #[.string ⟨#[]⟩, .int .i64 0, .string ⟨#[]⟩, .slice none 0 0, .int .u64 0, .int .u64 0, .bool false], .int .i64 1]) (by simp [results, Tryd.results17, go_sem, y0, y1, y2, y3, y4, y5, y6]) rfl ?_
    exact ⟨⟨#[]⟩, 0, ⟨#[]⟩, none, 0, 0, 0, 0, false, by rw [HE.out]; rfl, Lib.hid (fun h => by rw [HE.out] at h; cases h), Z0.out.fin _ _ _ _ _ _ _⟩
set_option maxHeartbeats 2000000 in
theorem prep_name (m : Mt) (w : World) (hT : Tab w) (hw : Wt m.nm ∧ Wt m.vl) (hop : ¬ (m.op < 0 ∨ 4 ≤ m.op)) (hbad : Lb.nameB m.nm = false ∨ 64 < m.vl.size) : Calls Tryd.prog 17 #[mtV m] w (PrP m w) := by
  have HE := Lib.hid (prep_26 hop hbad)
  obtain ⟨nm, op, vl⟩ := m
  obtain ⟨m, hm⟩ : ∃ m : Mt, m = ⟨nm, op, vl⟩ := ⟨_, rfl⟩
  obtain ⟨h, hh⟩ : ∃ h, w.heap.size = h := ⟨_, rfl⟩
  obtain ⟨W0, hW0⟩ : ∃ W0, w.alloc (.cells #[.string nm, .int .i64 op, .string vl] 40 (0, 0)) = W0 := ⟨_, rfl⟩
  obtain ⟨W, hW⟩ : ∃ W, W0.alloc (.cells #[.string ⟨#[]⟩, .int .i64 0, .string ⟨#[]⟩, .slice none 0 0, .int .u64 0, .int .u64 0, .bool false] 54 (0, 0)) = W := ⟨_, rfl⟩
  have s0 : W0.heap.size = h + 1 := by rw [← hW0, ← hh]; simp
  have b0 : Below w.heap.size w W0 := hW0 ▸ (Below.refl _ _).alloc (Nat.le_refl _) _
  have b1 : Below W0.heap.size W0 W := hW ▸ (Below.refl _ _).alloc (Nat.le_refl _) _
  have Z0 := Lib.hid (show PpS w ⟨nm, op, vl⟩ h W from ⟨(hh ▸ hW0 ▸ B3.new w _ _ _ : B3 W0 h nm op vl).below b1, s0 ▸ hW ▸ B7.new W0 _ _ _ _ _ _ 0 0 _, (hT.below b0).below b1, b0.trans (b1.mono b0.size), by omega⟩)
  obtain ⟨x0, x1, x2⟩ := Z0.out.b1.cells
  obtain ⟨⟨y0, y1, y2, y3, y4, y5, y6⟩, yf⟩ := Z0.out.b2.cells
  have f0 := yf 0
  have f1 := yf 1
  have f2 := yf 2
  have f3 := yf 3
  have f4 := yf 4
  have f5 := yf 5
  have f6 := yf 6
  unfold mtV
  clear b0 b1 yf hT hm m
  have h1 : ¬ op < 0 := fun h => hop (.inl h)
  have h2 : ¬ 4 ≤ op := fun h => hop (.inr h)
  have hw1 : Wt nm := hw.1
  obtain ⟨z, hz⟩ : ∃ z, Lb.nameB nm = z := ⟨_, rfl⟩
  have hb2 : z = false ∨ (z = true ∧ 64 < vl.size) := by
    have hb3 : Lb.nameB nm = false ∨ 64 < vl.size := hbad
    rw [hz] at hb3
    cases z
    · exact .inl rfl
    · rcases hb3 with h | h
      · cases h
      · exact .inr ⟨rfl, h⟩
  have HZ := Lib.hid hz
  have HWN := Lib.hid hw1
  clear hbad hop hw hz hw1
  go_enter Tryd.func17, Tryd.ntmps17
  go_wp2_with fail
  clear hW hW0 hh s0
  refine (isName_any nm _ HWN.out).mono ?_
  rw [HZ.out]
  rintro y w2 ⟨rfl, hb⟩
  have Z2 := Lib.hid (Z0.out.below hb)
  obtain ⟨x0, x1, x2⟩ := Z2.out.b1.cells
  obtain ⟨⟨y0, y1, y2, y3, y4, y5, y6⟩, yf⟩ := Z2.out.b2.cells
  have f0 := yf 0
  have f1 := yf 1
  have f2 := yf 2
  have f3 := yf 3
  have f4 := yf 4
  have f5 := yf 5
  have f6 := yf 6
  clear hb yf
  rcases hb2 with rfl | ⟨rfl, h64⟩
  · go_wp2_with fail
    refine bodyPost_ret (v := .tuple #[.agg #[.string ⟨#[]⟩, .int .i64 0, .string ⟨#[]⟩, .slice none 0 0, .int .u64 0, .int .u64 0, .bool false], .int .i64 26]) (by simp [results, Tryd.results17, go_sem, y0, y1, y2, y3, y4, y5, y6]) rfl ?_
    exact ⟨⟨#[]⟩, 0, ⟨#[]⟩, none, 0, 0, 0, 0, false, by rw [HE.out]; rfl, Lib.hid (fun h => by rw [HE.out] at h; cases h), Z2.out.fin _ _ _ _ _ _ _⟩
  · have h64i : (64 : Int) < (vl.size : Int) := by omega
    go_wp2_with fail
    refine bodyPost_ret (v := .tuple #[.agg #[.string ⟨#[]⟩, .int .i64 0, .string ⟨#[]⟩, .slice none 0 0, .int .u64 0, .int .u64 0, .bool false], .int .i64 26]) (by simp [results, Tryd.results17, go_sem, y0, y1, y2, y3, y4, y5, y6]) rfl ?_
    exact ⟨⟨#[]⟩, 0, ⟨#[]⟩, none, 0, 0, 0, 0, false, by rw [HE.out]; rfl, Lib.hid (fun h => by rw [HE.out] at h; cases h), Z2.out.fin _ _ _ _ _ _ _⟩
set_option maxHeartbeats 4000000 in
theorem prep_fine (m : Mt) (w : World) (hT : Tab w) (hw : Wt m.nm ∧ Wt m.vl) (hop : ¬ (m.op < 0 ∨ 4 ≤ m.op)) (hok : ¬ (Lb.nameB m.nm = false ∨ 64 < m.vl.size)) : Calls Tryd.prog 17 #[mtV m] w (PrP m w) := by
  have HE0 := Lib.hid (fun h3 : ¬ 2 ≤ m.op => prep_0 hop hok h3)
  have HER := Lib.hid (fun h3 : 2 ≤ m.op => prep_r hop hok h3)
  obtain ⟨nm, op, vl⟩ := m
  obtain ⟨m, hm⟩ : ∃ m : Mt, m = ⟨nm, op, vl⟩ := ⟨_, rfl⟩
  obtain ⟨h, hh⟩ : ∃ h, w.heap.size = h := ⟨_, rfl⟩
  obtain ⟨W0, hW0⟩ : ∃ W0, w.alloc (.cells #[.string nm, .int .i64 op, .string vl] 40 (0, 0)) = W0 := ⟨_, rfl⟩
  obtain ⟨W, hW⟩ : ∃ W, W0.alloc (.cells #[.string ⟨#[]⟩, .int .i64 0, .string ⟨#[]⟩, .slice none 0 0, .int .u64 0, .int .u64 0, .bool false] 54 (0, 0)) = W := ⟨_, rfl⟩
  have s0 : W0.heap.size = h + 1 := by rw [← hW0, ← hh]; simp
  have b0 : Below w.heap.size w W0 := hW0 ▸ (Below.refl _ _).alloc (Nat.le_refl _) _
  have b1 : Below W0.heap.size W0 W := hW ▸ (Below.refl _ _).alloc (Nat.le_refl _) _
  have Z0 := Lib.hid (show PpS w ⟨nm, op, vl⟩ h W from ⟨(hh ▸ hW0 ▸ B3.new w _ _ _ : B3 W0 h nm op vl).below b1, s0 ▸ hW ▸ B7.new W0 _ _ _ _ _ _ 0 0 _, (hT.below b0).below b1, b0.trans (b1.mono b0.size), by omega⟩)
  obtain ⟨x0, x1, x2⟩ := Z0.out.b1.cells
  obtain ⟨⟨y0, y1, y2, y3, y4, y5, y6⟩, yf⟩ := Z0.out.b2.cells
  have f0 := yf 0
  have f1 := yf 1
  have f2 := yf 2
  have f3 := yf 3
  have f4 := yf 4
  have f5 := yf 5
  have f6 := yf 6
  unfold mtV
  clear b0 b1 yf hT hm m
  have h1 : ¬ op < 0 := fun h => hop (.inl h)
  have h2 : ¬ 4 ≤ op := fun h => hop (.inr h)
  have hw1 : Wt nm := hw.1
  have hz : Lb.nameB nm = true := by
    cases hz : Lb.nameB nm
    · exact absurd (.inl hz) hok
    · rfl
  have h64 : ¬ 64 < vl.size := fun h => hok (.inr h)
  have h64i : ¬ (64 : Int) < (vl.size : Int) := by omega
  obtain ⟨k, hk⟩ : ∃ k : Nat, op = (k : Int) := ⟨op.toNat, by omega⟩
  subst hk
  have hk4 : k < 4 := by omega
  have HZ := Lib.hid hz
  have HWN := Lib.hid hw1
  have hk4i : (k : Int) < 4 := by omega
  clear hok hop hw hz hw1 h64
  go_enter Tryd.func17, Tryd.ntmps17
  go_wp2_with fail
  clear hW hW0 hh s0
  refine (isName_any nm _ HWN.out).mono ?_
  rw [HZ.out]
  rintro y w2 ⟨rfl, hb⟩
  have Z2 := Lib.hid (Z0.out.below hb)
  obtain ⟨x0, x1, x2⟩ := Z2.out.b1.cells
  obtain ⟨W3, hW3⟩ : ∃ W3, w2.alloc (.cells #[.string nm, .int .i64 (k : Int), .string vl, .slice none 0 0, .int .u64 0, .int .u64 0, .bool false] 54 (0, 0)) = W3 := ⟨_, rfl⟩
  obtain ⟨g, hg⟩ : ∃ g, w2.heap.size = g := ⟨_, rfl⟩
  have b23 : Below w2.heap.size w2 W3 := hW3 ▸ (Below.refl _ _).alloc (Nat.le_refl _) _
  have Z3 := Lib.hid (Z2.out.below b23)
  have G3 := Lib.hid (show B7 W3 g nm (k : Int) vl none 0 0 0 0 false from hg ▸ hW3 ▸ B7.new w2 _ _ _ _ _ _ 0 0 _)
  have HG := Lib.hid (show h + 2 ≤ g by have := Z2.out.b2.hw; omega)
  obtain ⟨t0, t1, t2⟩ := Z3.out.tab.at k hk4
  obtain ⟨lk, hlk⟩ : ∃ lk, likeB k = lk := ⟨_, rfl⟩
  rw [hlk] at t1
  have HLK := Lib.hid hlk
  have HW3 := Lib.hid hW3
  clear hb b23 hlk hW3
  go_upto_region 6 with fail
  rw [HW3.out]
  clear hg
  have hgh : ¬ g = h + 1 := by have := HG.out; omega
  have hhg : ¬ h + 1 = g := by have := HG.out; omega
  obtain ⟨⟨p0, p1, p2, p3, p4, p5, p6⟩, pf⟩ := G3.out.cells
  obtain ⟨x0, x1, x2⟩ := Z3.out.b1.cells
  have hk0 : ¬ (k : Int) < 0 := by omega
  cases lk with
  | false =>
    have h2k : ¬ (2 : Int) ≤ (k : Int) := by
      have := HLK.out
      unfold likeB at this
      simpa using this
    have HE := Lib.hid (show prepE ⟨nm, (k : Int), vl⟩ = 0 from HE0.out (by omega))
    have HRD := Lib.hid (show rdR ⟨nm, (k : Int), vl⟩ = .err 0 from rdR_no h2k)
    obtain ⟨⟨y0, y1, y2, y3, y4, y5, y6⟩, yf⟩ := Z3.out.b2.cells
    have f0 := yf 0
    have f1 := yf 1
    have f2 := yf 2
    have f3 := yf 3
    have f4 := yf 4
    have f5 := yf 5
    have f6 := yf 6
    clear yf pf h2k
    go_wp2_with fail
    refine bodyPost_ret (v := .tuple #[.agg #[.string nm, .int .i64 (k : Int), .string vl, .slice none 0 0, .int .u64 0, .int .u64 0, .bool false], .int .i64 0]) (by simp [results, Tryd.results17, go_sem, y0, y1, y2, y3, y4, y5, y6]) rfl ?_
    exact ⟨nm, (k : Int), vl, none, 0, 0, 0, 0, false, by rw [HE.out]; rfl, Lib.hid (fun _ => ⟨rfl, rfl, rfl, by rw [HRD.out]; exact rg0 _, fun a ha => by cases ha⟩), Z3.out.fin _ _ _ _ _ _ _⟩
  | true =>
    have h2k : (2 : Int) ≤ (k : Int) := by
      have := HLK.out
      unfold likeB at this
      simpa using this
    obtain ⟨R, hR⟩ : ∃ R, parseF vl.data.toList = R := ⟨_, rfl⟩
    have HRD := Lib.hid (show rdR ⟨nm, (k : Int), vl⟩ = R from (rdR_yes h2k).trans hR)
    have HE := Lib.hid (show prepE ⟨nm, (k : Int), vl⟩ = errN R from by rw [HER.out (by omega), HRD.out])
    have HRR := Lib.hid hR
    obtain ⟨E, hE⟩ : ∃ E, errN R = E := ⟨_, rfl⟩
    have HEE := Lib.hid hE
    clear hR hE h2k pf
    go_wp2_with fail
    refine (parse_new vl _).mono ?_
    rw [HRR.out]
    rintro y w4 ⟨hp, hnew⟩
    obtain ⟨A, n, c, f, l, ee, rfl, HRG, HNE, hb⟩ := par_open hp
    have HNW := Lib.hid (hnew _ _ _ _ _ _ _ rfl)
    rw [HEE.out]
    obtain ⟨W5, hW5⟩ : ∃ W5, w4.alloc (.cells #[.slice A n c, .int .u64 (f : Nat), .int .u64 (l : Nat), .bool ee] 52 (0, 0)) = W5 := ⟨_, rfl⟩
    obtain ⟨b, hbq⟩ : ∃ b, w4.heap.size = b := ⟨_, rfl⟩
    have b45 : Below w4.heap.size w4 W5 := hW5 ▸ (Below.refl _ _).alloc (Nat.le_refl _) _
    have V5 := Lib.hid (show Vb W5 b A n c f l ee from hbq ▸ hW5 ▸ Vb.new w4 A n c f l ee)
    have Z5 := Lib.hid ((Z3.out.below hb).below b45)
    have G5 := Lib.hid ((G3.out.below hb).below b45)
    have RG5 := Lib.hid (HRG.out.below b45)
    have HBG := Lib.hid (show g < b by have := (G3.out.below hb).hw; omega)
    have HN5 := Lib.hid (show ∀ a, A = some a → w.heap.size ≤ a.block ∧ g < a.block ∧ a.block < W5.heap.size from fun a ha => by
      have h1 := HNW.out a ha
      have h2 := G3.out.hw
      have h3 := HG.out
      have h4 := Z3.out.hs
      have h5 := b45.size
      omega)
    obtain ⟨v0, v1, v2, v3⟩ := V5.out.cells
    obtain ⟨⟨y0, y1, y2, y3, y4, y5, y6⟩, yf⟩ := Z5.out.b2.cells
    obtain ⟨⟨p0, p1, p2, p3, p4, p5, p6⟩, pf⟩ := G5.out.cells
    have f0 := yf 0
    have f1 := yf 1
    have f2 := yf 2
    have f3 := yf 3
    have f4 := yf 4
    have f5 := yf 5
    have f6 := yf 6
    have e3 := pf 3
    have e4 := pf 4
    have e5 := pf 5
    have e6 := pf 6
    have hbg : ¬ b = g := by have := HBG.out; omega
    have hgb : ¬ g = b := by have := HBG.out; omega
    have hbh : ¬ b = h + 1 := by have := HBG.out; have := HG.out; omega
    have hhb : ¬ h + 1 = b := by have := HBG.out; have := HG.out; omega
    clear hp hb hnew b45 yf pf HRG
    by_cases hE0 : E = 0
    · subst hE0
      go_wp2_with fail
      clear hW5 hbq
      refine bodyPost_ret (v := .tuple #[.agg #[.string nm, .int .i64 (k : Int), .string vl, .slice A n c, .int .u64 (f : Nat), .int .u64 (l : Nat), .bool ee], .int .i64 0]) (by simp [results, Tryd.results17, go_sem, y0, y1, y2, y3, y4, y5, y6]) rfl ?_
      have hnb : ∀ B, B = g ∨ B = h + 1 → ∀ A' n' c' x y z, (Value.agg #[.slice A n c, .int .u64 ((f : Nat) : Int), .int .u64 ((l : Nat) : Int), .bool ee] : Value) = .agg #[.slice A' n' c', x, y, z] → ∀ a, A' = some a → a.block ≠ B := by
        intro B hB A' n' c' x y z he a ha
        injection he with he
        have h0 := congrArg Array.toList he
        simp at h0
        have h1 := HN5.out a (h0.1.1.trans ha)
        have h2 := HG.out
        omega
      refine ⟨nm, (k : Int), vl, A, n, c, f, l, ee, by rw [HE.out, HEE.out], Lib.hid (fun _ => ⟨rfl, rfl, rfl, ?_, fun a ha => ⟨(HN5.out a ha).1, by have := (HN5.out a ha).2.2; simp; omega⟩⟩), ?_⟩
      · rw [HRD.out]
        exact rg_fin (rg_four RG5.out _ _ _ _ (hnb g (.inl rfl))) _ _ _ _ _ _ _ (hnb (h + 1) (.inr rfl))
      · exact pp_fin2 Z5.out (by have := HG.out; omega) _ _ _ _ _ _ _ _ _ _ _
    · have hEb : (E != 0) = true := z_ne 0 hE0
      have HE0' := Lib.hid hE0
      clear hE0
      go_wp2_with fail
      clear hW5 hbq
      refine bodyPost_ret (v := .tuple #[.agg #[.string ⟨#[]⟩, .int .i64 0, .string ⟨#[]⟩, .slice none 0 0, .int .u64 0, .int .u64 0, .bool false], .int .i64 E]) (by simp [results, Tryd.results17, go_sem, y0, y1, y2, y3, y4, y5, y6]) rfl ?_
      exact ⟨⟨#[]⟩, 0, ⟨#[]⟩, none, 0, 0, 0, 0, false, by rw [HE.out, HEE.out]; rfl, Lib.hid (fun h => absurd ((HEE.out.symm.trans HE.out.symm).trans h) HE0'.out), Z5.out.fin _ _ _ _ _ _ _⟩
theorem prepare_any (m : Mt) (w : World) (hT : Tab w) (hw : Wt m.nm ∧ Wt m.vl) : Calls Tryd.prog 17 #[mtV m] w (PrP m w) := by
  by_cases h1 : m.op < 0 ∨ 4 ≤ m.op
  · exact prep_op m w hT h1
  by_cases h2 : Lb.nameB m.nm = false ∨ 64 < m.vl.size
  · exact prep_name m w hT hw h1 h2
  exact prep_fine m w hT hw h1 h2
end Go.Proofs.YtnabfganecghkaaDoor
