/- Make, By and Compare of labels. -/
import Derived.Test.YtnnfoagdgoionabLbL
namespace Go.Proofs.Ytnnfoagdgoionab
open Go.RowKit
set_option linter.unusedVariables false

theorem own_lw2 {W w : World} {n c : Nat} {A : Option Addr} {X : List Lab} (h : w.ownsRow W.heap.size 36 2 (.slice A n c) n (labC X)) (hw : Wl X) (hx : X.length ≤ 4398046511104) : Lw w A X := ⟨by omega, hw, own_cl h⟩
theorem wl_perm {X Y : List Lab} (h : Y.Perm X) (hw : Wl X) : Wl Y := fun p hp => hw p (h.mem_iff.1 hp)
theorem wl_filter {X : List Lab} {f : Lab → Bool} (hw : Wl X) : Wl (X.filter f) := fun p hp => hw p (List.mem_filter.1 hp).1
/-- what Make hands back -/
def MakeP (l : List Lab) (e : Ending) (w' : World) : Prop := ∃ Y, Y.Perm (l.filter hasV) ∧ Sorted Y ∧
  ((chk Y = 0 ∧ ∃ A n c, e = .returned (.tuple #[.slice A n c, .int .i64 0]) ∧ n = Y.length ∧ Lw w' A Y) ∨ (chk Y ≠ 0 ∧ e = .returned (.tuple #[.slice none 0 0, .int .i64 (chk Y)])))
set_option maxHeartbeats 1000000 in
theorem make_any (A : Option Addr) (n c : Nat) (l : List Lab) (w : World) (hn : n = l.length) (h : Lw w A l) (hl : l.length ≤ 4398046511104) :
    Calls Try.prog 13 #[.slice A n c] w fun e w' => MakeP l e w' ∧ Below w.heap.size w w' := by
  have HL := Lib.hid h
  have HN := Lib.hid hn
  clear h hn
  go_enter Try.func13, Try.ntmps13
  go_wp2_with fail
  refine (onlyV_any A n c l _ HN.out HL.out hl).mono ?_
  rintro e w1 ⟨A1, n1, c1, rfl, hn1, hown, hb1⟩
  have hfl := List.length_filter_le hasV l
  have HO := Lib.hid hown
  have HB := Lib.hid hb1
  have HF := Lib.hid hfl
  have hw1 := hb1.size
  have HN0 := Lib.hid hn1
  clear hown hb1 hfl hn1
  go_wp2_with fail
  refine (sort_any w.heap.size n1 c1 A1 (l.filter hasV) _ HO.out (by have := HF.out; omega)).mono ?_
  rintro e w2 ⟨rfl, Y, hp, hs, hown2, hg⟩
  have hlen := hp.length_eq
  rw [← HN0.out] at hown2
  have HB2 := Lib.hid (HB.out.grown hg hw1 (fun k hk => (HO.out.lt k hk).1))
  have HY := Lib.hid (own_lw2 hown2 (wl_perm hp (wl_filter HL.out.2.1)) (by have := HF.out; omega))
  have HP := Lib.hid (And.intro hp hs)
  have HN1 := Lib.hid (show n1 = Y.length by have := HN0.out; omega)
  obtain ⟨E, hE⟩ : ∃ E, chk Y = E := ⟨_, rfl⟩
  have HE := Lib.hid hE
  clear hown2 hg hp hs hlen
  go_wp2_with fail
  refine (check_any A1 n1 c1 Y _ HN1.out HY.out).mono ?_
  rw [hE]
  clear hE
  rintro e w3 ⟨rfl, hb3⟩
  have HY3 := Lib.hid (HY.out.below hb3)
  have HB3 := Lib.hid (HB2.out.trans (hb3.mono HB2.out.size))
  clear hb3
  by_cases h0 : E = 0
  · subst h0
    go_wp2_with fail
    go_ret2
    exact ⟨⟨Y, HP.out.1, HP.out.2, .inl ⟨HE.out, A1, n1, c1, rfl, HN1.out, HY3.out⟩⟩, HB3.out⟩
  · have h0' : (E != 0) = true := by simp [h0]
    go_wp2_with fail
    go_ret2
    exact ⟨⟨Y, HP.out.1, HP.out.2, .inr ⟨by rw [HE.out]; exact h0, by rw [HE.out]; rfl⟩⟩, HB3.out⟩
def ByP (w : World) (L : List Lab) (e : Ending) (w' : World) : Prop := ∃ A n c, e = .returned (.slice A n c) ∧ n = L.length ∧ Lw w' A L ∧ Below w.heap.size w w'
theorem by_any (A : Option Addr) (n c : Nat) (l : List Lab) (NA : Option Addr) (nn nc : Nat) (ns : List ByteArray) (w : World) (hn : n = l.length) (h : Lw w A l) (hl : l.length ≤ 4398046511104)
    (hnn : nn = ns.length) (hns : Cl w NA (stC ns)) (hnl : ns.length ≤ 9223372036854775807) :
    Calls Try.prog 17 #[.slice A n c, .slice NA nn nc] w fun e w' => ByP w (l.filter (inN ns)) e w' := by
  have hb1 : Below w.heap.size w (w.alloc (.cells #[.slice NA nn nc] 23)) := (Below.refl _ _).alloc (Nat.le_refl _) _
  have HL := Lib.hid (h.below hb1)
  have HN := Lib.hid hn
  have HNN := Lib.hid hnn
  have HNS := Lib.hid (hns.below hb1)
  have HB1 := Lib.hid hb1
  clear h hn hnn hns hb1
  go_enter Try.func17, Try.ntmps17
  go_wp2_with fail
  refine (onlyN_any w.heap.size NA nn nc ns A n c l _ HN.out HL.out hl HNN.out (new_one _ _ _) HNS.out hnl).mono ?_
  rintro e w1 ⟨A1, n1, c1, rfl, hn1, hown, hb⟩
  have HB := Lib.hid (HB1.out.trans (hb.mono HB1.out.size))
  have hfl := List.length_filter_le (inN ns) l
  have HR := Lib.hid (show ByP w (l.filter (inN ns)) (.returned (.slice A1 n1 c1)) w1 from ⟨A1, n1, c1, rfl, hn1, own_lw2 hown (wl_filter HL.out.2.1) (by omega), HB.out⟩)
  clear hown hb hn1 hfl
  go_wp2_with fail
  go_ret
  exact HR.out
/-- labels compared one by one -/
def cmpLs : List Lab → List Lab → Int
  | [], [] => 0
  | [], _ :: _ => -1
  | _ :: _, [] => 1
  | a :: r, b :: s => if cmpP a b ≠ 0 then cmpP a b else cmpLs r s
theorem cmpLs_zero : ∀ a b : List Lab, cmpLs a b = 0 ↔ a = b
  | [], [] => by simp [cmpLs]
  | [], _ :: _ => by simp [cmpLs]
  | _ :: _, [] => by simp [cmpLs]
  | x :: a, y :: b => by
    have ih := cmpLs_zero a b
    unfold cmpLs
    by_cases h : cmpP x y = 0
    · rw [if_neg (by simp [h]), ih]
      have := (cmpP_zero x y).1 h
      simp [this]
    · rw [if_pos h]
      constructor
      · intro e; exact absurd e h
      · intro e
        injection e with e1 e2
        exact absurd ((cmpP_zero x y).2 e1) h
theorem cmpLs_neg : ∀ a b : List Lab, cmpLs b a = - cmpLs a b
  | [], [] => by simp [cmpLs]
  | [], _ :: _ => by simp [cmpLs]
  | _ :: _, [] => by simp [cmpLs]
  | x :: a, y :: b => by
    have ih := cmpLs_neg a b
    unfold cmpLs
    rw [cmpP_neg x y]
    by_cases h : cmpP x y = 0
    · rw [if_neg (by simp [h]), if_neg (by simp [h]), ih]
    · rw [if_pos (by simpa using h), if_pos h]
theorem cmpLs_at {a b : List Lab} {k : Nat} {p q : Lab} (hp : a[k]? = some p) (hq : b[k]? = some q) : cmpLs (a.drop k) (b.drop k) = if cmpP p q ≠ 0 then cmpP p q else cmpLs (a.drop (k + 1)) (b.drop (k + 1)) := by
  obtain ⟨h1, e1⟩ := List.getElem?_eq_some_iff.1 hp
  obtain ⟨h2, e2⟩ := List.getElem?_eq_some_iff.1 hq
  rw [List.drop_eq_getElem_cons h1, List.drop_eq_getElem_cons h2, e1, e2]
  rfl
theorem cmpLs_more {a b : List Lab} {k : Nat} (h1 : k < a.length) (h2 : b.length ≤ k) : cmpLs (a.drop k) (b.drop k) = 1 := by
  rw [List.drop_eq_getElem_cons h1, List.drop_eq_nil_of_le h2]; rfl
theorem cmpLs_end {a b : List Lab} {k : Nat} (h1 : a.length ≤ k) : cmpLs (a.drop k) (b.drop k) = if k < b.length then -1 else 0 := by
  rw [List.drop_eq_nil_of_le h1]
  by_cases h : k < b.length
  · rw [if_pos h, List.drop_eq_getElem_cons h]; rfl
  · rw [if_neg h, List.drop_eq_nil_of_le (by omega)]; rfl
theorem cmpP_three (p q : Lab) : cmpP p q = -1 ∨ cmpP p q = 0 ∨ cmpP p q = 1 := by
  unfold cmpP or2
  split
  · exact cmp_three _ _
  · exact cmp_three _ _
end Go.Proofs.Ytnnfoagdgoionab
