/- The document's example. -/
import Derived.Test.YtpfceebmiolpeaaPlM
namespace Go.Proofs.Ytpfceebmiolpeaa.Pl
open Go.RowKit Go.Sort
set_option linter.unusedVariables false

def exL : List It := [⟨1, 0, 64, 0⟩, ⟨2, 64, 128, 0⟩]
theorem exR : ∀ x ∈ exL, RightI x := fun x hx => by
  simp [exL] at hx
  rcases hx with rfl | rfl
  · exact ⟨by decide, by decide, by decide, by decide, by decide, by decide⟩
  · exact ⟨by decide, by decide, by decide, by decide, by decide, by decide⟩
theorem ex_next : NextR exL (some (1, [1, 2])) := by
  refine ⟨by decide, by decide, fun j h0 h1 v => ?_, 0, ⟨by decide, fun u hu => ?_⟩, by decide⟩
  · have : j = 0 := by omega
    subst this
    have e0 : lowF 0 0 = 0 := by decide
    have e1 : lowF 0 64 = 64 := by decide
    unfold exL
    rw [cnt_cons, cnt_cons]
    simp only [e0, e1, cnt, List.filter_nil, List.length_nil]
    split <;> split <;> omega
  · obtain ⟨x, hx, _, e⟩ := cnt_pos (Nat.le_trans (by omega) hu)
    rw [← e]
    exact lowF_nonneg (exR x hx).o0
theorem new_rf2 (w : World) (p q : It) (t : TypeId) : Cl (w.alloc (.cells #[.int .i64 p.q, .int .i64 p.lv, .int .i64 p.lo, .int .i64 p.hi, .int .i64 q.q, .int .i64 q.lv, .int .i64 q.lo, .int .i64 q.hi] t)) (some ⟨w.heap.size, 0, none⟩) (fC rfA [p, q]) := by
  refine .inr ⟨w.heap.size, 0, rfl, fun j v hj => ?_⟩
  have e : fC rfA [p, q] = #[Value.int .i64 p.q, .int .i64 p.lv, .int .i64 p.lo, .int .i64 p.hi, .int .i64 q.q, .int .i64 q.lv, .int .i64 q.lo, .int .i64 q.hi].toList := rfl
  rw [e] at hj
  rw [Nat.zero_add, cell_of_row _ _ _ _ _ _ (heap_alloc_new w _)]
  simpa using hj
/-- Next told by a step that is known -/
theorem next_is {w w' : World} {l : List It} {e : Ending} {k : Int} {S : List Int} (h : NxP w l e w') (hn : NextR l (some (k, S))) : ∃ v, e = .returned (.tuple #[.agg #[v, .int .i64 k], .bool true]) ∧ IntP w S v w' := by
  rcases h with ⟨h1, _⟩ | ⟨k', S', v, h1, h2, h3⟩
  · exact absurd (NextR.unique h1 hn) (by simp)
  · have := NextR.unique h1 hn
    injection this with this
    injection this with e1 e2
    subst e1 e2
    exact ⟨v, h2, h3⟩
set_option maxHeartbeats 4000000 in
set_option maxRecDepth 100000 in
theorem awake_any (w : World) : Calls Try.prog 14 #[] w fun e w' => e = .returned (.bool true) ∧ Below w.heap.size w w' := by
  have hb1 : Below w.heap.size w (w.alloc (.cells #[.int .i64 1, .int .i64 0, .int .i64 0, .int .i64 64, .int .i64 2, .int .i64 0, .int .i64 64, .int .i64 128] 45)) := (Below.refl _ _).alloc (Nat.le_refl _) _
  have HT := Lib.hid (to_any (some ⟨w.heap.size, 0, none⟩) 2 2 exL _ rfl (new_rf2 w ⟨1, 0, 64, 0⟩ ⟨2, 64, 128, 0⟩ 45) (by decide))
  have HB1 := Lib.hid hb1
  clear hb1
  go_enter Try.func14, Try.ntmps14
  go_wp2_with (first
    | (go_at_call 15; refine HT.out.mono ?_; rintro e w2 ⟨v, rfl, A, c, rfl, ho, hb⟩; have HB2 := Lib.hid (HB1.out.trans (hb.mono HB1.out.size)); have HC2 := Lib.hid (own_cl ho); clear ho hb)
    | (go_at_call 16; refine (next_any A 2 c exL w2 rfl HC2.out exR (by decide)).mono ?_; intro e w3 hnx; obtain ⟨v, rfl, B, d, rfl, ho, hb⟩ := next_is hnx ex_next; have HB3 := Lib.hid (HB2.out.trans (hb.mono HB2.out.size)); have HC3 := Lib.hid (own_cl ho); clear hnx ho hb))
  have hb3 := (HB3.out.alloc HB3.out.size (.cells #[.slice B 2 d, .int .i64 1] 36))
  have hb4 := hb3.alloc hb3.size (.cells #[.int .i64 1, .int .i64 2] 3)
  have hb34 : Below w3.heap.size w3 ((w3.alloc (.cells #[.slice B 2 d, .int .i64 1] 36)).alloc (.cells #[.int .i64 1, .int .i64 2] 3)) := ((Below.refl _ _).alloc (Nat.le_refl _) _).alloc (by simp) _
  have hz : (w3.alloc (.cells #[.slice B 2 d, .int .i64 1] 36)).heap.size = w3.heap.size + 1 := by simp
  have hcl := new_ints (w3.alloc (.cells #[.slice B 2 d, .int .i64 1] 36)) #[.int .i64 1, .int .i64 2] [1, 2] 3 rfl
  rw [hz] at hcl
  refine (ints_any B (some ⟨w3.heap.size + 1, 0, none⟩) 2 d 2 2 [1, 2] [1, 2] _ rfl rfl (HC3.out.below hb34) hcl (by decide) (by decide)).mono ?_
  rintro e w5 ⟨rfl, hb5⟩
  have HB5 := Lib.hid (hb4.trans (hb5.mono hb4.size))
  clear hb3 hb4 hb34 hz hcl hb5
  go_wp2_with fail
  go_ret
  exact ⟨rfl, HB5.out⟩
end Go.Proofs.Ytpfceebmiolpeaa.Pl
