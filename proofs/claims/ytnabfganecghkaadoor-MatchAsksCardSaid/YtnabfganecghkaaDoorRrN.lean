/- The document's Ends at any node, its Match. -/
import Derived.Test.YtnabfganecghkaaDoorRrM
import Derived.Test.YtnabfganecghkaaDoorRxX
namespace Go.Proofs.YtnabfganecghkaaDoor
open Go.RowKit Go.Sort
set_option linter.unusedVariables false

theorem ends_all (nd : Nd) : (isN nd = true → EnQ nd) ∧ ∀ k, k ∈ kidsL nd → isN k = true → EnQ k := by
  induction nd with
  | byte X => exact ⟨fun _ => ends_bytes X, fun k h => by simp [kidsL] at h⟩
  | nil => exact ⟨fun h => by simp [isN] at h, fun k h => by simp [kidsL] at h⟩
  | snoc l n ihl ihn =>
    refine ⟨fun h => by simp [isN] at h, fun k h hk => ?_⟩
    simp only [kidsL, List.mem_append, List.mem_singleton] at h
    rcases h with h | h
    · exact ihl.2 k h hk
    · subst h; exact ihn.1 hk
  | row l ih => exact ⟨fun _ => ends_row l ih.2, fun k h => by simp [kidsL] at h⟩
  | either l ih => exact ⟨fun _ => ends_either l ih.2, fun k h => by simp [kidsL] at h⟩
  | star l ih => exact ⟨fun _ => ends_star1 l ih.2, fun k h => by simp [kidsL] at h⟩
  | plus l ih => exact ⟨fun _ => ends_plus1 l ih.2, fun k h => by simp [kidsL] at h⟩
  | opt l ih => exact ⟨fun _ => ends_opt1 l ih.2, fun k h => by simp [kidsL] at h⟩
/-- a node's box, and what it means -/
structure Nx (w : World) (g : Nat) (kd : ByteArray) (a1 : Option Addr) (n1 m1 : Nat) (a2 : Option Addr) (n2 m2 : Nat) (x : Rx) : Prop where
  b : Nb w g kd (.slice a1 n1 m1) (.slice a2 n2 m2)
  v : ∃ U nd, isN nd = true ∧ NdV w U nd (.agg #[.string kd, .slice a1 n1 m1, .slice a2 n2 m2]) ∧ ∀ s, (Ln nd).1 s ↔ Lang x s
theorem Nx.below {w w' : World} {g : Nat} {kd : ByteArray} {a1 a2 : Option Addr} {n1 m1 n2 m2 : Nat} {x : Rx} (p : Nx w g kd a1 n1 m1 a2 n2 m2 x) (k : Below w.heap.size w w') : Nx w' g kd a1 n1 m1 a2 n2 m2 x := by
  obtain ⟨U, nd, h1, h2, h3⟩ := p.v
  exact ⟨p.b.below k, U, nd, h1, h2.below k, h3⟩
set_option maxHeartbeats 2000000 in
set_option maxRecDepth 100000 in
theorem rmt_any (nd : Nd) (U : Nat → Prop) (kd : ByteArray) (a1 a2 : Option Addr) (n1 m1 n2 m2 : Nat) (t : ByteArray) (w : World) (hN : isN nd = true) (hV : NdV w U nd (.agg #[.string kd, .slice a1 n1 m1, .slice a2 n2 m2])) (ht : t.size ≤ 1000) :
    Calls Tryd.prog 22 #[.agg #[.string kd, .slice a1 n1 m1, .slice a2 n2 m2], .string t] w fun y w' => ∃ q, y = .returned (.bool q) ∧ (q = true ↔ (Ln nd).1 t.data.toList) ∧ Below w.heap.size w w' := by
  obtain ⟨L, hL⟩ : ∃ L, t.data.toList = L := ⟨_, rfl⟩
  have htx : t = tx L := by rw [← hL, tx_of]
  rw [hL]
  obtain ⟨S, hS⟩ : ∃ S, L.length = S := ⟨_, rfl⟩
  have hsz : t.size = S := by rw [htx, tx_size, hS]
  obtain ⟨h, hh⟩ : ∃ h, w.heap.size = h := ⟨_, rfl⟩
  obtain ⟨W1, hW1⟩ : ∃ W1, w.alloc (.cells #[.string kd, .slice a1 n1 m1, .slice a2 n2 m2] 60 (0, 0)) = W1 := ⟨_, rfl⟩
  obtain ⟨W2, hW2⟩ : ∃ W2, W1.alloc (.cells (boA (S + 1)) 4) = W2 := ⟨_, rfl⟩
  have s1 : W1.heap.size = h + 1 := by rw [← hW1, ← hh]; simp
  have B1 : Below w.heap.size w W1 := hW1 ▸ (Below.refl _ _).alloc (Nat.le_refl _) _
  have B2 : Below W1.heap.size W1 W2 := hW2 ▸ (Below.refl _ _).alloc (Nat.le_refl _) _
  have n1' : Nb W1 h kd (.slice a1 n1 m1) (.slice a2 n2 m2) := hh ▸ hW1 ▸ Nb.new w _ _ _
  have n2' := n1'.below B2
  have P2 := new_bools W1 (S + 1)
  rw [hW2, s1] at P2
  have BB := B1.trans (B2.mono B1.size)
  have hc0 := P2.1 0 (by omega)
  have hf0 := P2.2 0
  have PZ := Lib.hid (show Pb (W2.setCell ⟨h + 1, 0, none⟩ (.bool true)) (h + 1) (S + 1) (fun i => i == 0) from fun j hj => pb_put (K := 0) (Q := fun i => i == 0) (v := true) P2.1 (by omega) (fun j _ hj => by simpa using hj) rfl j hj)
  have B3 := Lib.hid (show Below w.heap.size w (W2.setCell ⟨h + 1, 0, none⟩ (.bool true)) from BB.setCell (p := ⟨h + 1, 0, none⟩) (by show w.heap.size ≤ h + 1; omega) _)
  have N3 := Lib.hid (n2'.other (a := ⟨h + 1, 0, none⟩) (by show h ≠ h + 1; omega) (.bool true))
  obtain ⟨⟨z0, z1, z2⟩, zf0, zf1, zf2⟩ := n2'.cells
  have hmk : ∀ W : World, (Instr.makeSlice 57 (.int .i64 ((S : Int) + 1)) (.int .i64 ((S : Int) + 1))).run Tryd.prog W = .ok (.slice (some ⟨W.heap.size, 0, none⟩) (S + 1) (S + 1)) (W.alloc (.cells (boA (S + 1)) 4)) := fun W => make_bools (S + 1) (by omega) W
  have hS2 : S ≤ 1000 := by omega
  have HCALL := Lib.hid (ends_all nd |>.1 hN _ U _ t L (fun i => i == 0) (h + 1) (S + 1) (hV.below B3.out) htx (by omega) (by rw [hS]; exact PZ.out))
  rw [hS] at HCALL
  have HSS := Lib.hid hS
  have hk1 : (0 : Int) < (S : Int) + 1 := by omega
  have hk2 : ¬ (S : Int) + 1 ≤ 0 := by omega
  clear P2 BB n1' n2' B1 B2 hS hL htx hV hN
  go_enter Tryd.func22, Tryd.ntmps22
  go_wp2_with fail
  clear hW1 hW2 hmk s1 hh
  refine HCALL.out.mono ?_
  rintro y w3 ⟨g3, c3, G3, rfl, hp3, he3, hb3⟩
  rw [HSS.out] at hp3
  have hcS := hp3 S (by omega)
  have HE3 := Lib.hid he3
  have HB3 := Lib.hid hb3
  rw [HSS.out]
  have hk3 : (S : Int) < (S : Int) + 1 := by omega
  have hk4 : ¬ (S : Int) + 1 ≤ (S : Int) := by omega
  clear hp3 he3 hb3 z0 z1 z2 zf0 zf1 zf2 hc0 hf0
  go_wp2_with fail
  go_ret
  refine ⟨_, rfl, ?_, B3.out.trans (HB3.out.mono B3.out.size)⟩
  rw [HE3.out S (by rw [HSS.out]; exact Nat.le_refl _)]
  constructor
  · rintro ⟨i, _, hi, hl⟩
    have hi0 : i = 0 := by simpa using hi
    subst hi0
    rw [← HSS.out, sub_all] at hl
    exact hl
  · intro hl
    exact ⟨0, by omega, rfl, by rw [← HSS.out, sub_all]; exact hl⟩
theorem Nx.m {w : World} {g : Nat} {kd : ByteArray} {a1 a2 : Option Addr} {n1 m1 n2 m2 : Nat} {x : Rx} (p : Nx w g kd a1 n1 m1 a2 n2 m2 x) (t : ByteArray) (ht : t.size ≤ 1000) (z : Bool) (hz : mtR (.ok x []) t.data.toList = z) :
    Calls Tryd.prog 22 #[.agg #[.string kd, .slice a1 n1 m1, .slice a2 n2 m2], .string t] w fun y w' => y = .returned (.bool z) ∧ Below w.heap.size w w' := by
  obtain ⟨U, nd, h1, h2, h3⟩ := p.v
  refine (rmt_any nd U kd a1 a2 n1 m1 n2 m2 t w h1 h2 ht).mono ?_
  rintro y w' ⟨q, rfl, hq, hb⟩
  refine ⟨?_, hb⟩
  have e : q = z := by
    rw [← hz]
    apply Bool.eq_iff_iff.2
    rw [hq, h3, mtR_ok]
  rw [e]
theorem Nx.q {w : World} {g d : Nat} {os : Array Obj} {kd : ByteArray} {a1 a2 : Option Addr} {n1 m1 n2 m2 : Nat} {x : Rx} (p : Nx w g kd a1 n1 m1 a2 n2 m2 x) (t : ByteArray) (ht : t.size ≤ 1000) (z : Bool) (hz : mtR (.ok x []) t.data.toList = z) :
    Calls Tryd.prog 22 #[.agg #[.string kd, .slice a1 n1 m1, .slice a2 n2 m2], .string t] (grow (redrawn w d) os) fun y w'' => y = .returned (.bool z) ∧ ∃ p : Regrown, w'' = grow (redrawn w p.d) p.os :=
  Calls.regrown_of ((p.below (below_regrown w d os)).m t ht z hz)
end Go.Proofs.YtnabfganecghkaaDoor
