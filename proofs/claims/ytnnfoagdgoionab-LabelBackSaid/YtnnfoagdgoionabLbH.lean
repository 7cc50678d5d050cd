/- Labels compared: the program's compare. -/
import Derived.Test.YtnnfoagdgoionabLbK
import Derived.Test.YtnnfoagdgoionabShelfS
import Derived.Deep.RegionHeld3
import Derived.Deep.CutRange
namespace Go.Proofs.Ytnnfoagdgoionab
open Go.RowKit
set_option linter.unusedVariables false

def or2 (a b : Int) : Int := if a ≠ 0 then a else b
/-- two labels compared: by their names, then by their values -/
def cmpP (p q : Lab) : Int := or2 (Lib.compareBytes p.1.data.toList q.1.data.toList) (Lib.compareBytes p.2.data.toList q.2.data.toList)
theorem or_any (g c : Nat) (x y : Int) (w : World) (h0 : w.cell? ⟨g, 0, none⟩ = some (.int .i64 x)) (h1 : w.cell? ⟨g, 1, none⟩ = some (.int .i64 y)) :
    Calls Try.prog 46 #[.slice (some ⟨g, 0, none⟩) 2 c] w fun e w' => e = .returned (.int .i64 (or2 x y)) ∧ w = w' := by
  by_cases hx : x = 0
  · by_cases hy : y = 0
    · have HE := Lib.hid (show or2 x y = 0 by simp [or2, hx, hy])
      rw [HE.out]
      have hx' : (x != 0) = false := by simp [hx]
      have hy' : (y != 0) = false := by simp [hy]
      clear hx hy
      go_enter Try.func46, Try.ntmps46
      go_wp2_with fail
      refine wp_loop_rounds 3 ?_
      rw [rounds_succ]
      go_wp2_with fail
      rw [rounds_succ]
      go_wp2_with fail
      rw [rounds_succ]
      go_wp2_with fail
      go_ret
      exact ⟨rfl, rfl⟩
    · have HE := Lib.hid (show or2 x y = y by simp [or2, hx])
      rw [HE.out]
      have hx' : (x != 0) = false := by simp [hx]
      have hy' : (y != 0) = true := by simp [hy]
      clear hx hy
      go_enter Try.func46, Try.ntmps46
      go_wp2_with fail
      refine wp_loop_rounds 2 ?_
      rw [rounds_succ]
      go_wp2_with fail
      rw [rounds_succ]
      go_wp2_with fail
      go_ret
      exact ⟨rfl, rfl⟩
  · have HE := Lib.hid (show or2 x y = x by simp [or2, hx])
    rw [HE.out]
    have hx' : (x != 0) = true := by simp [hx]
    clear hx
    go_enter Try.func46, Try.ntmps46
    go_wp2_with fail
    refine wp_loop_rounds 1 ?_
    rw [rounds_succ]
    go_wp2_with fail
    go_ret
    exact ⟨rfl, rfl⟩
theorem scmp_any (a b : ByteArray) (w : World) (z : Int) (h : Lib.compareBytes a.data.toList b.data.toList = z) : Calls Try.prog 47 #[.string a, .string b] w fun e w' => e = .returned (.int .i64 z) ∧ w = w' :=
  (Try.strings_Compare a b w).mono fun e w' ⟨he, hw⟩ => ⟨by rw [he, h], hw.symm⟩
theorem new_twoD (w : World) (u v : Value) (t : TypeId) : ((w.alloc (.cells #[u, v] t)).drew).cell? ⟨w.heap.size, 0, none⟩ = some u ∧ ((w.alloc (.cells #[u, v] t)).drew).cell? ⟨w.heap.size, 1, none⟩ = some v := new_two w u v t
/-- only draws and new blocks -/
def Gw (w w' : World) : Prop := ∃ (q : Nat) (os : Array Obj), w' = Go.Sort.grow (w.drewN q) os
theorem Gw.refl (w : World) : Gw w w := ⟨0, #[], by simp [Go.Sort.grow]; rfl⟩
theorem Gw.drew {w w' : World} (h : Gw w w') : Gw w w'.drew := by
  obtain ⟨q, os, rfl⟩ := h
  exact ⟨q + 1, os, rfl⟩
theorem Gw.alloc {w w' : World} (h : Gw w w') (o : Obj) : Gw w (w'.alloc o) := by
  obtain ⟨q, os, rfl⟩ := h
  exact ⟨q, os ++ #[o], by rw [Go.Sort.alloc_eq_grow, Go.Sort.grow_grow]⟩
theorem Gw.trans {a b c : World} (h : Gw a b) (k : Gw b c) : Gw a c := by
  obtain ⟨q, os, rfl⟩ := h
  obtain ⟨r, us, rfl⟩ := k
  exact ⟨q + r, os ++ us, by rw [← Go.Sort.grow_grow]; simp [Go.Sort.grow, World.drewN, Nat.add_assoc]⟩
theorem Gw.below {w w' : World} (h : Gw w w') : Below w.heap.size w w' := by
  obtain ⟨q, os, rfl⟩ := h
  refine ⟨rfl, rfl, rfl, by simp [Go.Sort.grow, World.drewN], fun k hk => ?_⟩
  show (w.heap ++ os)[k]? = w.heap[k]?
  rw [Array.getElem?_append_left hk]
def CmpR (z : Int) (w : World) (v : Value) (w' : World) : Prop := v = .int .i64 z ∧ Gw w w'
set_option maxHeartbeats 4000000 in
theorem compare_any (p q : Lab) (w : World) : Calls Try.prog 31 #[.agg #[.string p.1, .string p.2], .agg #[.string q.1, .string q.2]] w fun e w' => e = .returned (.int .i64 (cmpP p q)) ∧ Gw w w' := by
  obtain ⟨X, hX⟩ : ∃ X, Lib.compareBytes p.1.data.toList q.1.data.toList = X := ⟨_, rfl⟩
  obtain ⟨Y, hY⟩ : ∃ Y, Lib.compareBytes p.2.data.toList q.2.data.toList = Y := ⟨_, rfl⟩
  have HE := Lib.hid (show cmpP p q = or2 X Y by unfold cmpP; rw [hX, hY])
  rw [HE.out]
  have HX := Lib.hid (fun W => scmp_any p.1 q.1 W X hX)
  have HY := Lib.hid (fun W => scmp_any p.2 q.2 W Y hY)
  obtain ⟨Z, hZ⟩ : ∃ Z, or2 X Y = Z := ⟨_, rfl⟩
  rw [hZ]
  have HO := Lib.hid (fun (W : World) (g : Nat) (h0 : W.cell? ⟨g, 0, none⟩ = some (.int .i64 X)) (h1 : W.cell? ⟨g, 1, none⟩ = some (.int .i64 Y)) => hZ ▸ or_any g 2 X Y W h0 h1)
  clear hX hY hZ
  go_enter Try.func31, Try.ntmps31
  go_wp2_with fail
  obtain ⟨w2, hw2⟩ : ∃ W, (w.alloc (.cells #[.string p.1, .string p.2] 36)).alloc (.cells #[.string q.1, .string q.2] 36) = W := ⟨_, rfl⟩
  obtain ⟨g1, hg1⟩ : ∃ g, w.heap.size = g := ⟨_, rfl⟩
  have hb1 : w2.heap[g1]? = some (.cells #[.string p.1, .string p.2] 36 (0, 0)) := by
    rw [← hw2, ← hg1]
    exact (Below.heap_alloc _ _ _ (by simp)).trans (heap_alloc_new w _)
  have hb2 : w2.heap[g1 + 1]? = some (.cells #[.string q.1, .string q.2] 36 (0, 0)) := by
    rw [← hw2, ← hg1]
    have := heap_alloc_new (w.alloc (.cells #[.string p.1, .string p.2] 36)) (.cells #[.string q.1, .string q.2] 36)
    simpa using this
  have HB := Lib.hid (show Gw w w2 from by rw [← hw2]; exact ((Gw.refl _).alloc _).alloc _)
  have HP := Lib.hid (box2b hb1)
  have HQ := Lib.hid (box2b hb2)
  rw [hw2, hg1]
  have HG := Lib.hid hg1
  clear hb1 hb2 hw2 hg1
  have HK := Lib.hid (fun W W' (hW : Gw w2 W) (hb : Gw W W') => show Gw w2 W' ∧ (W'.cell? ⟨g1, 0, none⟩ = some (.string p.1) ∧ W'.cell? ⟨g1, 1, none⟩ = some (.string p.2)) ∧ (W'.cell? ⟨g1 + 1, 0, none⟩ = some (.string q.1) ∧ W'.cell? ⟨g1 + 1, 1, none⟩ = some (.string q.2)) from
    have h := hW.trans hb
    ⟨h, HP.out W' h.below, HQ.out W' h.below⟩)
  obtain ⟨x0, x1⟩ := HP.out w2 (Below.refl _ _)
  obtain ⟨y0, y1⟩ := HQ.out w2 (Below.refl _ _)
  go_cut [4] from 5 (fun v wx => CmpR Z w2 v wx)
  case first =>
    go_region_held3 (fun W' => Gw w2 W' ∧ (W'.cell? ⟨g1, 0, none⟩ = some (.string p.1) ∧ W'.cell? ⟨g1, 1, none⟩ = some (.string p.2)) ∧ (W'.cell? ⟨g1 + 1, 0, none⟩ = some (.string q.1) ∧ W'.cell? ⟨g1 + 1, 1, none⟩ = some (.string q.2)))
      (first | assumption | exact HK.out w2 _ (Gw.refl _) ((Gw.refl _).drew) | exact HK.out _ _ (And.left (by assumption)) ((Gw.refl _).drew) | exact HK.out _ _ (And.left (by assumption)) ((Gw.refl _).alloc _))
      (first
        | (go_at_call 47; first
          | ((with_reducible refine (HX.out _).mono ?_); rintro e w9 ⟨rfl, rfl⟩)
          | ((with_reducible refine (HY.out _).mono ?_); rintro e w9 ⟨rfl, rfl⟩))
        | (go_at_call 46; (refine (HO.out _ _ (new_twoD _ _ _ _).1 (new_twoD _ _ _ _).2).mono ?_); rintro e w9 ⟨rfl, rfl⟩))
    all_goals (go_wp2_with fail)
    all_goals go_meet
    all_goals exact ⟨rfl, And.left (by assumption)⟩
  case rest =>
    obtain ⟨rfl, hb⟩ := hcut
    go_wp2_with fail
    go_ret
    exact ⟨rfl, HB.out.trans hb⟩
end Go.Proofs.Ytnnfoagdgoionab
