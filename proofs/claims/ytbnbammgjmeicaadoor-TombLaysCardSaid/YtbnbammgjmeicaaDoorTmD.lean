/- One range more behind others: and. -/
import Derived.Test.YtbnbammgjmeicaaDoorTmC
import Derived.BigRegion
namespace Go.Proofs.YtbnbammgjmeicaaDoor.Tm
open Go.RowKit Go.Sort
set_option linter.unusedVariables false

theorem twoC_set (r : List Rg) (p : Rg) (n : Int) : (twoC .i64 (r ++ [p])).set (r.length * 2 + 1) (.int .i64 n) = twoC .i64 (r ++ [(p.1, n)]) := by
  rw [twoC_append, twoC_append, List.set_append_right _ _ (by rw [twoC_length]; omega), twoC_length]
  congr 1
  rw [show r.length * 2 + 1 - r.length * 2 = 1 by omega]
  rfl
def AndP (base : Nat) (W : World) (X : List Rg) (e : Ending) (w' : World) : Prop := ∃ A n c, e = .returned (.slice A n c) ∧ w'.ownsRow base 32 2 (.slice A n c) n (twoC .i64 X) ∧ Below base W w' ∧ base ≤ w'.heap.size
set_option maxHeartbeats 1000000 in
theorem and_nil (base c : Nat) (A : Option Addr) (a b : Int) (W w : World) (hown : w.ownsRow base 32 2 (.slice A 0 c) 0 (twoC .i64 [])) (hb : Below base W w) (hbase : base ≤ w.heap.size) :
    Calls Tryd.prog 29 #[.slice A 0 c, .agg #[.int .i64 a, .int .i64 b]] w (AndP base W [(a, b)]) := by
  have hb0 : Below w.heap.size w (w.alloc (.cells #[.int .i64 a, .int .i64 b] 32)) := (Below.refl _ _).alloc (Nat.le_refl _) _
  have HO := Lib.hid (own_below hown hb0)
  have HB := Lib.hid (hb.trans (hb0.mono hbase))
  have HZ := Lib.hid (show base ≤ (w.alloc (.cells #[.int .i64 a, .int .i64 b] 32)).heap.size by simp; omega)
  clear hown hb hbase hb0
  go_enter Tryd.func29, Tryd.ntmps29
  go_wp2_with fail
  go_quiet (fail)
  go_wp2_with (at_builtin; refine put_rg (W := W) rfl _ _ rfl base A 0 c [] rfl (own_drewN HO.out nq) (below_drewN HB.out nq) HZ.out (by omega) (w.heap.size + 1) (by simp [World.drewN]) rfl (a, b) ?_; intro A2 c2 w3 hown3 hb3 hw3; have HP := Lib.hid (show AndP base W [(a, b)] (.returned (.slice A2 1 c2)) w3 from ⟨A2, 1, c2, rfl, hown3, hb3, hw3⟩); clear hown3 hb3 hw3)
  go_ret
  exact HP.out
set_option maxHeartbeats 1000000 in
theorem and_new (base n c : Nat) (A : Option Addr) (s : List Rg) (p : Rg) (a b : Int) (W w : World) (hown : w.ownsRow base 32 2 (.slice A n c) n (twoC .i64 (s ++ [p]))) (hb : Below base W w) (hbase : base ≤ w.heap.size) (hp : RightP p) (hc : p.2 + 2 ≤ a) (hn : n ≤ 10000) :
    Calls Tryd.prog 29 #[.slice A n c, .agg #[.int .i64 a, .int .i64 b]] w (AndP base W (s ++ [p] ++ [(a, b)])) := by
  obtain ⟨k, hk⟩ : ∃ k, s.length = k := ⟨_, rfl⟩
  obtain rfl : n = k + 1 := by rw [own_len hown, List.length_append, hk]; rfl
  have hb0 : Below w.heap.size w (w.alloc (.cells #[.int .i64 a, .int .i64 b] 32)) := (Below.refl _ _).alloc (Nat.le_refl _) _
  have ho := own_below hown hb0
  obtain ⟨g, c2, hv, _, _⟩ := ho.form (by omega)
  injection hv with e1 e2 e3
  subst e1
  obtain ⟨x0, x1⟩ := twoC_at (k := .i64) (l := s ++ [p]) (j := k) (p := p) (by rw [← hk]; simp)
  have q0 := ho.cellAt (k * 2) (by omega)
  have q1 := ho.cellAt (k * 2 + 1) (by omega)
  rw [x0] at q0
  rw [x1] at q1
  obtain ⟨p1, p2⟩ := p
  obtain ⟨r1, r2, r3⟩ := hp
  simp only at q0 q1 r1 r2 r3 hc
  have HO := Lib.hid ho
  have HB := Lib.hid (hb.trans (hb0.mono hbase))
  have HZ := Lib.hid (show base ≤ (w.alloc (.cells #[.int .i64 a, .int .i64 b] 32)).heap.size by simp; omega)
  have hkd : decide ((k : Int) < 0) = false := by simp
  have hk1 : (k : Int) < (k : Int) + 1 := by omega
  clear hown hb hbase hb0 ho e2 e3 x0 x1 hk
  go_enter Tryd.func29, Tryd.ntmps29
  go_wp2_with fail
  go_quiet (fail)
  go_wp2_with (at_builtin; refine put_rg (W := W) rfl _ _ rfl base (some ⟨g, 0, none⟩) (k + 1) c (s ++ [(p1, p2)]) rfl (own_drewN HO.out nq) (below_drewN HB.out nq) HZ.out (by omega) (w.heap.size + 1) (by simp [World.drewN]) rfl (a, b) ?_; intro A2 c2 w3 hown3 hb3 hw3; have HP := Lib.hid (show AndP base W (s ++ [(p1, p2)] ++ [(a, b)]) (.returned (.slice A2 (k + 1 + 1) c2)) w3 from ⟨A2, k + 1 + 1, c2, rfl, hown3, hb3, hw3⟩); clear hown3 hb3 hw3)
  go_ret
  exact HP.out
set_option maxHeartbeats 1000000 in
theorem and_in (base n c : Nat) (A : Option Addr) (s : List Rg) (p : Rg) (a b : Int) (W w : World) (hown : w.ownsRow base 32 2 (.slice A n c) n (twoC .i64 (s ++ [p]))) (hb : Below base W w) (hbase : base ≤ w.heap.size) (hp : RightP p) (hc : ¬ p.2 + 2 ≤ a) (hn : n ≤ 10000) :
    Calls Tryd.prog 29 #[.slice A n c, .agg #[.int .i64 a, .int .i64 b]] w (AndP base W (s ++ [(p.1, max p.2 b)])) := by
  obtain ⟨k, hk⟩ : ∃ k, s.length = k := ⟨_, rfl⟩
  obtain rfl : n = k + 1 := by rw [own_len hown, List.length_append, hk]; rfl
  have hb0 : Below w.heap.size w (w.alloc (.cells #[.int .i64 a, .int .i64 b] 32)) := (Below.refl _ _).alloc (Nat.le_refl _) _
  have ho := own_below hown hb0
  obtain ⟨g, c2, hv, _, _⟩ := ho.form (by omega)
  injection hv with e1 e2 e3
  subst e1
  obtain ⟨x0, x1⟩ := twoC_at (k := .i64) (l := s ++ [p]) (j := k) (p := p) (by rw [← hk]; simp)
  have q0 := ho.cellAt (k * 2) (by omega)
  have q1 := ho.cellAt (k * 2 + 1) (by omega)
  rw [x0] at q0
  rw [x1] at q1
  have hfz := ho.frozenAt (k * 2 + 1)
  have hst := (ho.stored (k * 2 + 1) (.int .i64 (max p.2 b))).1
  have hset := twoC_set s p (max p.2 b)
  rw [hk] at hset
  rw [hset] at hst
  have hgl := ho.lt g rfl
  obtain ⟨p1, p2⟩ := p
  obtain ⟨r1, r2, r3⟩ := hp
  simp only at q0 q1 r1 r2 r3 hc hst
  have hbb := (hb.trans (hb0.mono hbase)).setCell (show base ≤ (⟨g, k * 2 + 1, none⟩ : Addr).block from hgl.1) (.int .i64 (max p2 b))
  have hzz : base ≤ ((w.alloc (.cells #[.int .i64 a, .int .i64 b] 32)).setCell ⟨g, k * 2 + 1, none⟩ (.int .i64 (max p2 b))).heap.size := by simp; omega
  have HPF := Lib.hid (fun (v : Int) (hv : max p2 b = v) (q : Nat) => show AndP base W (s ++ [(p1, max p2 b)]) (.returned (.slice (some ⟨g, 0, none⟩) (k + 1) c)) (((w.alloc (.cells #[.int .i64 a, .int .i64 b] 32)).drewN q).setCell ⟨g, k * 2 + 1, none⟩ (.int .i64 v)) from by
    subst hv
    exact ⟨_, _, _, rfl, own_drewN hst q, below_drewN hbb q, hzz⟩)
  have hkd : decide ((k : Int) < 0) = false := by simp
  have hk1 : (k : Int) < (k : Int) + 1 := by omega
  have hgw : g ≠ w.heap.size := fun e => by
    have := (hown.lt g rfl).2
    omega
  clear hown hb hbase hb0 ho e2 e3 x0 x1 hk hst hset hgl hbb hzz
  go_enter Tryd.func29, Tryd.ntmps29
  go_wp2_with fail
  go_quiet (fail)
  go_wp2_with fail
  go_region
  all_goals (go_wp2_with fail)
  all_goals
    go_ret
    exact HPF.out _ (by omega) _
theorem and_any (base n c : Nat) (A : Option Addr) (X : List Rg) (a b : Int) (W w : World) (hown : w.ownsRow base 32 2 (.slice A n c) n (twoC .i64 X)) (hb : Below base W w) (hbase : base ≤ w.heap.size) (hX : ∀ p ∈ X, RightP p) (hn : n ≤ 10000) :
    Calls Tryd.prog 29 #[.slice A n c, .agg #[.int .i64 a, .int .i64 b]] w (AndP base W (andL X (a, b))) := by
  by_cases h0 : X = []
  · subst h0
    obtain rfl : n = 0 := own_len hown
    exact and_nil base c A a b W w hown hb hbase
  · obtain ⟨s, p, rfl⟩ := split_end h0
    have hp := hX p (by simp)
    by_cases hc : p.2 + 2 ≤ a
    · rw [andL_new s p (a, b) hc]
      exact and_new base n c A s p a b W w hown hb hbase hp hc hn
    · rw [andL_in s p (a, b) hc]
      exact and_in base n c A s p a b W w hown hb hbase hp hc hn
end Go.Proofs.YtbnbammgjmeicaaDoor.Tm
