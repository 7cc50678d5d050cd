import Derived.Test.YtakomfnajeolcaaGreatDoorCtA13
import Derived.WideKeyEntry
import Derived.DeepKeys4
set_option linter.unusedVariables false
/- Where the next time is looked for. -/
namespace Go.Proofs.YtakomfnajeolcaaGreatDoor.Ch
open Go.RowKit Go.Sort Go.Proofs.YtakomfnajeolcaaGreatDoor.En
set_option linter.unusedVariables false

theorem two_last {α : Type} : ∀ {l : List α}, 2 ≤ l.length → ∃ R b a, l = R ++ [b, a]
  | [], h => by simp at h
  | [x], h => by simp at h
  | x :: y :: r, h => by
    cases r with
    | nil => exact ⟨[], x, y, rfl⟩
    | cons z t =>
      obtain ⟨R, b, a, e⟩ := two_last (l := y :: z :: t) (by simp)
      exact ⟨x :: R, b, a, by rw [e]; rfl⟩
set_option maxRecDepth 100000 in
theorem nexttime_any (D : Option Addr) (n cp : Nat) (l : List SV) (w : World) (hn : n = l.length) (hn9 : n ≤ 1000) (h : Sm w D l) (ht : ∀ s ∈ l, -10000000000000 ≤ s.t ∧ s.t ≤ 10000000000000) :
    Calls Tryz.prog 58 #[.slice D n cp] w fun e w' => e = .returned (.int .i64 (nextT (l.map (·.t)).reverse)) ∧ Below w.heap.size w w' := by
  by_cases h0 : n = 0
  · obtain rfl : l = [] := List.eq_nil_of_length_eq_zero (by omega)
    have h0' : ((n : Int) == 0) = true := by simp; exact h0
    clear h ht hn
    go_enter Tryz.func58, Tryz.ntmps58
    go_wp2_with fail
    go_ret
    exact ⟨rfl, Below.refl _ _⟩
  · by_cases h1 : n = 1
    · obtain rfl := h1
      obtain ⟨a, rfl⟩ : ∃ a, l = [a] := List.length_eq_one_iff.1 hn.symm
      obtain ⟨b, o, rfl, hs⟩ := h.at_ (j := 0) (s := a) rfl
      rw [Nat.zero_mul, Nat.add_zero] at hs
      obtain ⟨A, B, c, d, ⟨x0, _⟩, _⟩ := hs.cells
      obtain ⟨t0, t1⟩ := ht a (by simp)
      obtain ⟨T, hT⟩ : ∃ T, a.t = T := ⟨_, rfl⟩
      rw [hT] at x0 t0 t1
      have HT := Lib.hid hT
      clear hs h ht hT hn h0
      go_enter Tryz.func58, Tryz.ntmps58
      go_wp2_with fail
      go_ret
      exact ⟨by show _ = Ending.returned (.int .i64 (a.t + 1)); rw [HT.out]; rfl, Below.refl _ _⟩
    · obtain ⟨R, y, x, rfl⟩ := two_last (l := l) (by omega)
      have hl : n = R.length + 2 := by rw [hn]; simp
      obtain ⟨b, o, rfl, hx⟩ := h.at_ (j := R.length + 1) (s := x) (by simp)
      obtain ⟨b', o', e', hy⟩ := h.at_ (j := R.length) (s := y) (by simp)
      obtain ⟨rfl, rfl⟩ : b = b' ∧ o = o' := by simpa using e'
      obtain ⟨_, _, _, _, ⟨x0, _⟩, _⟩ := hx.cells
      obtain ⟨_, _, _, _, ⟨y0, _⟩, _⟩ := hy.cells
      obtain ⟨t0, t1⟩ := ht x (by simp)
      obtain ⟨u0, u1⟩ := ht y (by simp)
      obtain ⟨T, hT⟩ : ∃ T, x.t = T := ⟨_, rfl⟩
      obtain ⟨U, hU⟩ : ∃ U, y.t = U := ⟨_, rfl⟩
      rw [hT] at x0 t0 t1
      rw [hU] at y0 u0 u1
      have HN := Lib.hid (show nextT ((R ++ [y, x]).map (·.t)).reverse = 2 * T - U by rw [← hT, ← hU]; simp [nextT])
      obtain ⟨k, hk⟩ : ∃ k, R.length = k := ⟨_, rfl⟩
      rw [hk] at hl x0 y0
      subst hl
      have i1 : ((k + 2 : Nat) : Int) - 1 = ((k + 1 : Nat) : Int) := by omega
      have i2 : ((k + 2 : Nat) : Int) - 2 = (k : Int) := by omega
      clear hx hy h ht hT hU e' hn hk
      go_enter Tryz.func58, Tryz.ntmps58
      go_wp2_with fail
      go_region
      all_goals
        go_wp2_with fail
        go_ret
        exact ⟨by rw [HN.out]; rfl, by first | exact Below.refl _ _ | exact below_drewN (Below.refl _ _) _⟩
/-- rows of numbers lie in memory -/
def Rw (w : World) (D : Option Addr) (Q : List (List Int)) : Prop := Q = [] ∨ ∃ b o, D = some ⟨b, o, none⟩ ∧ ∀ j r, Q[j]? = some r → ∃ A c, w.cell? ⟨b, o + j, none⟩ = some (.slice A r.length c) ∧ Tk.Cl w A (Tk.intsC .u64 r)
theorem Rw.at_ {w : World} {D : Option Addr} {Q : List (List Int)} (h : Rw w D Q) {j : Nat} {r : List Int} (hj : Q[j]? = some r) : ∃ b o A c, D = some ⟨b, o, none⟩ ∧ w.cell? ⟨b, o + j, none⟩ = some (.slice A r.length c) ∧ Tk.Cl w A (Tk.intsC .u64 r) := by
  rcases h with rfl | ⟨b, o, rfl, hh⟩
  · simp at hj
  · obtain ⟨A, c, h1, h2⟩ := hh j r hj
    exact ⟨b, o, A, c, rfl, h1, h2⟩
theorem Rw.below {w w' : World} {D : Option Addr} {Q : List (List Int)} (h : Rw w D Q) (hb : Below w.heap.size w w') : Rw w' D Q := by
  rcases h with rfl | ⟨b, o, rfl, hh⟩
  · exact .inl rfl
  · refine .inr ⟨b, o, rfl, fun j r hj => ?_⟩
    obtain ⟨A, c, h1, h2⟩ := hh j r hj
    exact ⟨A, c, (hb.cell (block_lt_of_cell h1)).trans h1, h2.below hb⟩
theorem cl_num {w : World} {A : Option Addr} {r : List Int} (h : Tk.Cl w A (Tk.intsC .u64 r)) {i : Nat} {x : Int} (hi : r[i]? = some x) : ∃ b o, A = some ⟨b, o, none⟩ ∧ w.cell? ⟨b, o + i, none⟩ = some (.int .u64 x) := by
  have hl : i < r.length := (List.getElem?_eq_some_iff.1 hi).1
  obtain ⟨b, o, e, hc⟩ := h.some_ (by simp [Tk.intsC]; omega)
  exact ⟨b, o, e, hc i _ (by simp [Tk.intsC, hi])⟩
set_option maxRecDepth 100000 in
theorem nextnum_any (D : Option Addr) (n cp : Nat) (Q : List (List Int)) (m i : Nat) (z : Int) (w : World) (hn : n = Q.length) (hn9 : n ≤ 1000) (h : Rw w D Q) (hr : ∀ r ∈ Q, RowR m r) (hm : m ≤ 100000) (hi : (nextR m Q.reverse)[i]? = some z) :
    Calls Tryz.prog 61 #[.slice D n cp, .int .i64 (i : Int)] w fun e w' => e = .returned (.int .u64 z) ∧ Below w.heap.size w w' := by
  have him : i < m := by
    have := (List.getElem?_eq_some_iff.1 hi).1
    rw [nextR_length _ (fun r hrr => (hr r (by simpa using hrr)).1)] at this
    exact this
  by_cases h0 : n = 0
  · obtain rfl : Q = [] := List.eq_nil_of_length_eq_zero (by omega)
    have h0' : ((n : Int) == 0) = true := by simp; exact h0
    obtain rfl : z = 0 := by
      have hi' : (List.replicate m (0 : Int))[i]? = some z := hi
      rw [List.getElem?_replicate, if_pos him] at hi'
      exact (Option.some.inj hi').symm
    clear hi h hr hn
    go_enter Tryz.func61, Tryz.ntmps61
    go_wp2_with fail
    go_ret
    exact ⟨rfl, Below.refl _ _⟩
  · by_cases h1 : n = 1
    · obtain rfl := h1
      obtain ⟨r, rfl⟩ : ∃ r, Q = [r] := List.length_eq_one_iff.1 hn.symm
      obtain ⟨b, o, A, c, rfl, x0, hcl⟩ := h.at_ (j := 0) (r := r) rfl
      rw [Nat.add_zero] at x0
      have hz : r[i]? = some z := hi
      obtain ⟨b1, o1, rfl, y0⟩ := cl_num hcl hz
      have hrl := (hr r (by simp)).1
      rw [hrl] at x0
      clear hcl h hr hn h0 hi hz hrl
      go_enter Tryz.func61, Tryz.ntmps61
      go_wp2_with fail
      go_ret
      exact ⟨rfl, Below.refl _ _⟩
    · obtain ⟨R, y, x, rfl⟩ := two_last (l := Q) (by omega)
      have hl : n = R.length + 2 := by rw [hn]; simp
      obtain ⟨b, o, A, c, rfl, x0, hcx⟩ := h.at_ (j := R.length + 1) (r := x) (by simp)
      obtain ⟨b', o', A', c', e', y0, hcy⟩ := h.at_ (j := R.length) (r := y) (by simp)
      obtain ⟨rfl, rfl⟩ : b = b' ∧ o = o' := by simpa using e'
      have hrx := hr x (by simp)
      have hry := hr y (by simp)
      obtain ⟨X, ex⟩ : ∃ X, x[i]? = some X := ⟨_, List.getElem?_eq_getElem (by rw [hrx.1]; exact him)⟩
      obtain ⟨Y, ey⟩ : ∃ Y, y[i]? = some Y := ⟨_, List.getElem?_eq_getElem (by rw [hry.1]; exact him)⟩
      have hz : (nextR m (R ++ [y, x]).reverse)[i]? = some (um (2 * X - Y)) := by
        simp only [List.reverse_append, List.reverse_cons, List.reverse_nil, List.nil_append, List.cons_append, nextR, List.getElem?_map]
        rw [List.getElem?_zip_eq_some (z := (X, Y)) |>.2 ⟨ex, ey⟩]
        rfl
      have hxb := hrx.2 X (List.mem_of_getElem? ex)
      have hyb := hry.2 Y (List.mem_of_getElem? ey)
      obtain ⟨b1, o1, rfl, x1⟩ := cl_num hcx ex
      obtain ⟨b2, o2, rfl, y1⟩ := cl_num hcy ey
      have HW := Lib.hid (show IntKind.u64.wrap (IntKind.u64.wrap (2 * X) - Y) = z from by
        have e : um (2 * X - Y) = z := by rw [hz] at hi; exact Option.some.inj hi
        rw [← e, IntKind.wrap_u64, IntKind.wrap_u64]; unfold um; omega)
      rw [hrx.1] at x0
      rw [hry.1] at y0
      obtain ⟨k, hk⟩ : ∃ k, R.length = k := ⟨_, rfl⟩
      rw [hk] at hl x0 y0
      subst hl
      have i1 : ((k + 2 : Nat) : Int) - 1 = ((k + 1 : Nat) : Int) := by omega
      have i2 : ((k + 2 : Nat) : Int) - 2 = (k : Int) := by omega
      obtain ⟨x2, x3⟩ := hxb
      obtain ⟨y2, y3⟩ := hyb
      clear hcx hcy h hr e' hn hk hi hz hrx hry ex ey
      go_enter Tryz.func61, Tryz.ntmps61
      go_wp2_with fail
      go_region
      all_goals
        go_wp2_with fail
        go_ret
        exact ⟨by show Ending.returned (.int .u64 (IntKind.u64.wrap (IntKind.u64.wrap (2 * X) - Y))) = _; rw [HW.out], by first | exact Below.refl _ _ | exact below_drewN (Below.refl _ _) _⟩
/-- rows of numbers, in blocks of G -/
def RwG (G : Nat → Prop) (w : World) (D : Option Addr) (Q : List (List Int)) : Prop := Q = [] ∨ ∃ b o, D = some ⟨b, o, none⟩ ∧ G b ∧ ∀ j r, Q[j]? = some r → ∃ A c, w.cell? ⟨b, o + j, none⟩ = some (.slice A r.length c) ∧ Tk.Cl w A (Tk.intsC .u64 r) ∧ ∀ a, A = some a → G a.block
theorem RwG.rw {G : Nat → Prop} {w : World} {D : Option Addr} {Q : List (List Int)} (h : RwG G w D Q) : Rw w D Q := by
  rcases h with rfl | ⟨b, o, rfl, _, hh⟩
  · exact .inl rfl
  · refine .inr ⟨b, o, rfl, fun j r hj => ?_⟩
    obtain ⟨A, c, h1, h2, _⟩ := hh j r hj
    exact ⟨A, c, h1, h2⟩
theorem cl_g {G : Nat → Prop} {w w' : World} {A : Option Addr} {l : List Value} (h : Tk.Cl w A l) (hg : ∀ a, A = some a → G a.block) (k : KpG G w w') : Tk.Cl w' A l := by
  rcases h with rfl | ⟨b, o, rfl, hh⟩
  · exact Tk.Cl.nil _ _
  · exact .inr ⟨b, o, rfl, fun j v hj => (k.cell (a := ⟨b, o + j, none⟩) (hg ⟨b, o, none⟩ rfl)).trans (hh j v hj)⟩
theorem RwG.kept {G : Nat → Prop} {w w' : World} {D : Option Addr} {Q : List (List Int)} (h : RwG G w D Q) (k : KpG G w w') : RwG G w' D Q := by
  rcases h with rfl | ⟨b, o, rfl, hb, hh⟩
  · exact .inl rfl
  · refine .inr ⟨b, o, rfl, hb, fun j r hj => ?_⟩
    obtain ⟨A, c, h1, h2, h3⟩ := hh j r hj
    exact ⟨A, c, (k.cell (a := ⟨b, o + j, none⟩) hb).trans h1, cl_g h2 h3 k, h3⟩
theorem RwG.inc {G H : Nat → Prop} {w : World} {D : Option Addr} {Q : List (List Int)} (h : RwG G w D Q) (k : ∀ g, G g → H g) : RwG H w D Q := by
  rcases h with rfl | ⟨b, o, rfl, hb, hh⟩
  · exact .inl rfl
  · refine .inr ⟨b, o, rfl, k _ hb, fun j r hj => ?_⟩
    obtain ⟨A, c, h1, h2, h3⟩ := hh j r hj
    exact ⟨A, c, h1, h2, fun a ha => k _ (h3 a ha)⟩
end Go.Proofs.YtakomfnajeolcaaGreatDoor.Ch


/- What a map of counts holds, as a function; a look-up, a store, a range, adding to an entry. -/
/-! Maps whose keys are where a bucket is: what such a map holds, key by key; the laws of a look-up, a store, and of adding to an entry. -/
namespace Go.Proofs.YtakomfnajeolcaaGreatDoor
open Go.RowKit Go.Sort Go.Maps
open Go.ChangeMaps (setBlock heap_setBlock_same heap_setBlock_other)
open Go.WideElems (Fit)
set_option linter.unusedVariables false
set_option maxRecDepth 100000

theorem laidOutK : laidOutB Tryz.prog = true := by kernel_rfl
theorem rowK : (175 : TypeId) < Tryz.prog.types.size := of_decide_eq_true (by kernel_rfl)
theorem wideK : (match Tryz.prog.underlying 175 with | some (.array _ _) | some (.struct _) => true | _ => false) = true := by rw [Tryz.underlying175]
theorem lawK0 : WideMaps.KeyLaw Tryz.prog 175 := deep_law_laid laidOutK (m := 2) (by omega) rowK (by kernel_rfl) wideK
theorem lawK : Keyed Tryz.prog 175 := Keyed.of_law lawK0
theorem keyTypeK : Tryz.prog.keyType 175 = true := by kernel_rfl
theorem cellsK : Tryz.prog.cellsOf 175 = 3 := by kernel_rfl
theorem cellsI : Tryz.prog.cellsOf 3 = 1 := by kernel_rfl
/-- what an int has -/
def I64 (n : Int) : Prop := -9223372036854775808 ≤ n ∧ n ≤ 9223372036854775807
theorem wf_of {n : Int} (h : I64 n) : (Lit.int .i64 n).wf = true := by
  obtain ⟨h1, h2⟩ := h
  exact WalkArith.wf_i64 ⟨h1, h2⟩
def kL (s c i : Int) : Lit := .string (keyBytes [.int .i64 s, .int .i64 c, .int .i64 i])
theorem lits_int (d : Nat) {n : Int} (h : (Lit.int .i64 n).wf = true) : Tryz.prog.keyLits (d + 1) 3 [.int .i64 n] = some [.int .i64 n] := by
  unfold Program.keyLits
  simp [Tryz.underlying3, h]
theorem lits_key (d : Nat) {s c i : Int} (h1 : (Lit.int .i64 s).wf = true) (h2 : (Lit.int .i64 c).wf = true) (h3 : (Lit.int .i64 i).wf = true) : Tryz.prog.keyLits (d + 2) 175 [.int .i64 s, .int .i64 c, .int .i64 i] = some [.int .i64 s, .int .i64 c, .int .i64 i] := by
  unfold Program.keyLits
  simp [Tryz.underlying175, cellsK, cellsI, lits_int d h1, lits_int d h2, lits_int d h3]
theorem sizeK : ∃ m, Tryz.prog.types.size + 1 = m + 2 := by
  have h : (175 : Nat) < Tryz.prog.types.size := rowK
  exact ⟨Tryz.prog.types.size - 1, by omega⟩
theorem key_mk {s c i : Int} (hs : I64 s) (hc : I64 c) (hi : I64 i) : keyOf Tryz.prog 175 (.agg #[.int .i64 s, .int .i64 c, .int .i64 i]) = some (kL s c i) := by
  obtain ⟨m, hm⟩ := sizeK
  have hf : (Value.agg #[.int .i64 s, .int .i64 c, .int .i64 i]).formed Tryz.prog 175 = true := by simp [Value.formed, Tryz.underlying175, cellsK]
  unfold keyOf
  rw [Tryz.underlying175]
  simp only
  rw [keyTypeK, hf, hm]
  simp [Value.cells, lits_key m (wf_of hs) (wf_of hc) (wf_of hi), kL]
theorem of_wf {n : Int} (h : (Lit.int .i64 n).wf = true) : I64 n := by
  simp [Lit.wf, IntKind.min, IntKind.max, IntKind.signed, IntKind.bits] at h
  exact ⟨by omega, by omega⟩
theorem lits_int_inv (d : Nat) {cs : List Value} {l : List Lit} (h : Tryz.prog.keyLits d 3 cs = some l) : ∃ n, cs = [.int .i64 n] ∧ I64 n := by
  cases d with
  | zero => simp [Program.keyLits] at h
  | succ d =>
    unfold Program.keyLits at h
    rw [Tryz.underlying3] at h
    cases cs with
    | nil => simp at h
    | cons a r =>
      cases r with
      | cons b t => simp at h
      | nil =>
        cases a <;> simp at h
        obtain ⟨⟨rfl, hw⟩, _⟩ := h
        exact ⟨_, rfl, of_wf hw⟩
theorem key_inv {v : Value} {l : Lit} (h : keyOf Tryz.prog 175 v = some l) : ∃ s c i, v = .agg #[.int .i64 s, .int .i64 c, .int .i64 i] ∧ I64 s ∧ I64 c ∧ I64 i ∧ l = kL s c i := by
  obtain ⟨m, hm⟩ := sizeK
  have h0 := h
  unfold keyOf at h
  rw [Tryz.underlying175] at h
  simp only at h
  split at h
  · rename_i hc
    rw [keyTypeK, Bool.true_and] at hc
    cases v <;> simp [Value.formed, Tryz.underlying175, cellsK] at hc
    rename_i cs
    obtain ⟨ls, hl, hls⟩ := Option.map_eq_some_iff.1 h
    rw [hm] at hl
    unfold Program.keyLits at hl
    simp only [Tryz.underlying175] at hl
    have h3 : cs.toList.length = 3 := by simpa using hc
    obtain ⟨l0⟩ := cs
    match l0, h3 with
    | [a, b, c], _ =>
      simp [Value.cells, cellsK, cellsI] at hl
      cases hx : Tryz.prog.keyLits (m + 1) 3 [a] with
      | none => simp [hx] at hl
      | some x =>
        cases hy : Tryz.prog.keyLits (m + 1) 3 [b] with
        | none => simp [hx, hy] at hl
        | some y =>
          cases hz : Tryz.prog.keyLits (m + 1) 3 [c] with
          | none => simp [hx, hy, hz] at hl
          | some z =>
            obtain ⟨n0, e0, w0⟩ := lits_int_inv _ hx
            obtain ⟨n1, e1, w1⟩ := lits_int_inv _ hy
            obtain ⟨n2, e2, w2⟩ := lits_int_inv _ hz
            simp at e0 e1 e2
            subst e0 e1 e2
            refine ⟨n0, n1, n2, rfl, w0, w1, w2, ?_⟩
            rw [key_mk w0 w1 w2] at h0
            exact (Option.some.inj h0).symm
  · cases h
theorem kL_inj {s c i s' c' i' : Int} (hs : I64 s) (hc : I64 c) (hi : I64 i) (hs' : I64 s') (hc' : I64 c') (hi' : I64 i') (h : kL s c i = kL s' c' i') : s = s' ∧ c = c' ∧ i = i' := by
  have h1 := key_mk hs hc hi
  rw [h] at h1
  have h2 := lawK.inj h1 (key_mk hs' hc' hi')
  simpa using h2
theorem kL_key (s c i : Int) : WideAt.IsKeyLit (kL s c i) := trivial
end Go.Proofs.YtakomfnajeolcaaGreatDoor

/-! What a map of counts holds, as a function; a look-up, a store, a range, adding to an entry. -/
namespace Go.Proofs.YtakomfnajeolcaaGreatDoor
open Go.RowKit Go.Sort Go.Maps
open Go.ChangeMaps (setBlock heap_setBlock_same heap_setBlock_other)
open Go.WideElems (Fit entry_then_store)
set_option linter.unusedVariables false
set_option maxRecDepth 100000

/-- what a uint64 has -/
def U64 (n : Int) : Prop := 0 ≤ n ∧ n ≤ 18446744073709551615
theorem wfu_of {n : Int} (h : U64 n) : (Lit.int .u64 n).wf = true := WalkArith.wf_u64 h
abbrev F3 := Int → Int → Int → Int
def upd (f : F3) (s c i n : Int) : F3 := fun s' c' i' => if s' = s ∧ c' = c ∧ i' = i then n else f s' c' i'
/-- what a map of counts holds, by the key's side, schema and index: nought where it has none -/
def Rd (D : DataW Unit) (f : F3) : Prop :=
  Tidy D ∧ (∀ s c i, I64 s → I64 c → I64 i → D.atKey (kL s c i) (.lit (.int .u64 0)) = .lit (.int .u64 (f s c i)) ∧ (has D (kL s c i) = true ↔ f s c i ≠ 0)) ∧
  ∃ L : List (Int × Int × Int), L.Nodup ∧ (∀ k ∈ L, I64 k.1 ∧ I64 k.2.1 ∧ I64 k.2.2) ∧ (∀ s c i, I64 s → I64 c → I64 i → (f s c i ≠ 0 ↔ (s, c, i) ∈ L)) ∧ size D = L.length
theorem Rd.empty : Rd (.map []) (fun _ _ _ => 0) :=
  ⟨tidy_empty, fun s c i _ _ _ => ⟨rfl, by simp [has]⟩, [], List.nodup_nil, by simp, by simp, rfl⟩
theorem Rd.put {D : DataW Unit} {f : F3} (h : Rd D f) {s c i n : Int} (hs : I64 s) (hc : I64 c) (hi : I64 i) (hn : n ≠ 0) : Rd (D.put (kL s c i) (.lit (.int .u64 n))) (upd f s c i n) := by
  obtain ⟨ht, hr, L, hL1, hL2, hL3, hL4⟩ := h
  refine ⟨ht.put (kL_key s c i) _, fun s' c' i' hs' hc' hi' => ?_, ?_⟩
  · by_cases he : s' = s ∧ c' = c ∧ i' = i
    · obtain ⟨rfl, rfl, rfl⟩ := he
      rw [atKey_put_same ht.isMap (kL_key _ _ _), has_put_same ht.isMap (kL_key _ _ _)]
      simp [upd, hn]
    · have hne : kL s' c' i' ≠ kL s c i := fun e => he (kL_inj hs' hc' hi' hs hc hi e)
      rw [atKey_put_other hne, has_put_other hne]
      simp only [upd, if_neg he]
      exact hr s' c' i' hs' hc' hi'
  · rw [size_put ht]
    by_cases hh : has D (kL s c i) = true
    · rw [if_pos hh]
      have hm : (s, c, i) ∈ L := (hL3 s c i hs hc hi).1 ((hr s c i hs hc hi).2.1 hh)
      refine ⟨L, hL1, hL2, fun s' c' i' hs' hc' hi' => ?_, hL4⟩
      by_cases he : s' = s ∧ c' = c ∧ i' = i
      · obtain ⟨rfl, rfl, rfl⟩ := he
        simp [upd, hn, hm]
      · simp only [upd, if_neg he]
        exact hL3 s' c' i' hs' hc' hi'
    · rw [if_neg hh]
      have hm : (s, c, i) ∉ L := fun hm => hh ((hr s c i hs hc hi).2.2 ((hL3 s c i hs hc hi).2 hm))
      refine ⟨(s, c, i) :: L, List.nodup_cons.2 ⟨hm, hL1⟩, fun k hk => ?_, fun s' c' i' hs' hc' hi' => ?_, by simp [hL4]⟩
      · rcases List.mem_cons.1 hk with rfl | hk
        · exact ⟨hs, hc, hi⟩
        · exact hL2 k hk
      · by_cases he : s' = s ∧ c' = c ∧ i' = i
        · obtain ⟨rfl, rfl, rfl⟩ := he
          simp [upd, hn]
        · simp only [upd, List.mem_cons, Prod.mk.injEq, he, false_or]
          exact hL3 s' c' i' hs' hc' hi'
theorem Rd.ext {D : DataW Unit} {f g : F3} (h : Rd D f) (e : ∀ s c i, f s c i = g s c i) : Rd D g := by
  have : f = g := funext fun s => funext fun c => funext fun i => e s c i
  rw [← this]; exact h
/-- a map of counts -/
def Cm (w : World) (b n : Nat) (f : F3) : Prop := ∃ D : DataW Unit, w.ownsMap Tryz.prog 175 (plainElem Tryz.prog 36) b n D ∧ Rd D f
theorem zeroU (w : World) : (zeroValue 36).run Tryz.prog w = .ok (.int .u64 0) w := by kernel_rfl

theorem entry_own {w : World} {b n : Nat} {D : DataW Unit} (h : w.ownsMap Tryz.prog 175 (plainElem Tryz.prog 36) b n D) (hn : n < maxLen) {key : Value} {kl : Lit} (hkey : keyOf Tryz.prog 175 key = some kl) (hkl : WideAt.IsKeyLit kl) {c : Int} (hc : D.atKey kl (.lit (.int .u64 0)) = .lit (.int .u64 c)) :
    ∃ (v0 : Value) (st : Nat) (w1 : World), (Instr.mapEntry 164 (.map (some b)) key).run Tryz.prog w = .ok (.tuple #[v0, .int .i64 (st : Int)]) w1 ∧ (Instr.lookup 164 (.map (some b)) key false).run Tryz.prog w1 = .ok (.int .u64 c) w1 ∧
      ∀ x, U64 x → ∃ w2, (Instr.entryStore 164 (.map (some b)) (.int .i64 (st : Int)) (.int .u64 x)).run Tryz.prog w1 = .ok () w2 ∧ w2.ownsMap Tryz.prog 175 (plainElem Tryz.prog 36) b (n + 1) (D.put kl (.lit (.int .u64 x))) ∧ w.grownBy w2 (some b) := by
  have hown := h
  obtain ⟨es, clock, hb, F, hs, hD⟩ := h
  obtain ⟨v0, st, es1, clock1, hrun, hwho, hst⟩ := entry_then_store lawK0 Tryz.underlying164 zeroU hb F hkey
  refine ⟨v0, st, setBlock w b (.map es1 clock1), hrun, ?_, fun x hx => ?_⟩
  · have hw1 : ∃ D1 : DataW Unit, (setBlock w b (.map es1 clock1)).ownsMap Tryz.prog 175 (plainElem Tryz.prog 36) b (n + 1) D1 ∧ D1.atKey kl (.lit (.int .u64 0)) = .lit (.int .u64 c) := by
      rcases lawK0.find w hkey es.toList F.keys with ⟨f1, f2⟩ | ⟨j, e0, f1, f2, f3⟩
      · have hA : (Instr.mapEntry 164 (.map (some b)) key).run Tryz.prog w = .ok (.tuple #[.int .u64 0, goInt clock]) (setBlock w b (.map (es.push ⟨key, .int .u64 0, clock⟩) (clock + 1))) := by
          simp [Instr.mapEntry, run_underlying Tryz.underlying164, MapKept.run_getObj_map hb, lawK0.check w false hkey, f1, MapKept.run_setObj_map _ hb, Result.andThen, setBlock]
        have hU : (Instr.mapUpdate 164 (.map (some b)) key (.int .u64 0)).run Tryz.prog w = .ok () (setBlock w b (.map (es.push ⟨key, .int .u64 0, clock⟩) (clock + 1))) := by
          simp [Instr.mapUpdate, run_underlying Tryz.underlying164, MapKept.run_getObj_map hb, lawK0.check w false hkey, f1, MapKept.run_setObj_map _ hb, Result.andThen, setBlock]
        have hl0 : (Instr.lookup 164 (.map (some b)) key false).run Tryz.prog w = .ok (.int .u64 0) w := by
          simp [Instr.lookup, run_underlying Tryz.underlying164, MapKept.run_getObj_map hb, lawK0.check w _ hkey, f1, Result.andThen]
        obtain ⟨c', hr', hat', _⟩ := hown.lookup_int lawK Tryz.underlying164 Tryz.underlying36 (zeroU _) hkey
        rw [hl0] at hr'
        have hc0 : c = 0 := by
          rw [hat'] at hc
          simp at hc hr'
          omega
        obtain ⟨w', hu, ho, _⟩ := hown.update lawK Tryz.underlying164 hn hkey (plainElem_int Tryz.underlying36 (wfu_of (n := 0) ⟨by decide, by decide⟩))
        rw [hrun] at hA
        rw [hU] at hu
        have e1 : setBlock w b (.map es1 clock1) = w' := by
          simp at hA hu
          rw [hA.2, hu]
        rw [e1]
        exact ⟨_, ho, by rw [atKey_put_same hown.isMap hkl, hc0]⟩
      · have hj : es[j]? = some e0 := by simpa using f2
        have hA : ∃ v, (Instr.mapEntry 164 (.map (some b)) key).run Tryz.prog w = .ok v (setBlock w b (.map es clock)) := by
          have hsame : es.modify j (fun e => { e with key := key }) = es := by
            apply Array.ext_getElem?
            intro k
            rw [Array.getElem?_modify]
            split
            · rename_i hk
              subst hk
              rw [hj, ← f3]; rfl
            · rfl
          exact ⟨.tuple #[e0.val, goInt e0.born], by simp [Instr.mapEntry, run_underlying Tryz.underlying164, MapKept.run_getObj_map hb, lawK0.check w false hkey, f1, hj, f3, lawK0.stays w hkey, hsame, MapKept.run_setObj_map _ hb, Result.andThen, setBlock]⟩
        obtain ⟨v, hA⟩ := hA
        rw [hrun] at hA
        have e1 : setBlock w b (.map es1 clock1) = setBlock w b (.map es clock) := by
          simp at hA
          exact hA.2
        rw [e1]
        exact ⟨D, ⟨es, clock, heap_setBlock_same hb _, F, by omega, hD⟩, hc⟩
    obtain ⟨D1, ho, hat⟩ := hw1
    obtain ⟨c', hr', hat', _⟩ := ho.lookup_int lawK Tryz.underlying164 Tryz.underlying36 (zeroU _) hkey
    rw [hat] at hat'
    have : c = c' := by simpa using hat'
    rw [hr', this]
  · obtain ⟨es', clock', h1, h2⟩ := hst (setBlock w b (.map es1 clock1)) (.int .u64 x) (heap_setBlock_same hb _)
    obtain ⟨w', hu, ho, hg⟩ := hown.update lawK Tryz.underlying164 hn hkey (plainElem_int Tryz.underlying36 (wfu_of hx))
    rw [h2] at hu
    have e1 : w' = setBlock w b (.map es' clock') := by simpa using hu.symm
    have e2 : setBlock (setBlock w b (.map es1 clock1)) b (.map es' clock') = setBlock w b (.map es' clock') := by simp [setBlock]
    refine ⟨setBlock w b (.map es' clock'), ?_, e1 ▸ ho, e1 ▸ hg⟩
    rw [← e2]
    exact h1
end Go.Proofs.YtakomfnajeolcaaGreatDoor
