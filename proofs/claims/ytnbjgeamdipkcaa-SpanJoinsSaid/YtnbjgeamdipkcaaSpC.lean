/- The contract of Counts. -/
import Derived.Test.YtnbjgeamdipkcaaSpGa
namespace Go.Proofs.Ytnbjgeamdipkcaa
open Go.RowKit Go.Sort
set_option linter.unusedVariables false

/-- what is left of buckets from an index on -/
def dropW (x : Int) : List (Int × Int) → List (Int × Int)
  | [] => []
  | p :: r => if p.1 < x then dropW x r else p :: r
def headC (x : Int) : List (Int × Int) → Int
  | [] => 0
  | p :: _ => if p.1 = x then p.2 else 0
/-- of each index what the bucket has -/
def cntF : List Int → List (Int × Int) → List Int
  | [], _ => []
  | x :: r, l => headC x (dropW x l) :: cntF r (dropW x l)
theorem cntF_length (ids : List Int) (l : List (Int × Int)) : (cntF ids l).length = ids.length := by
  induction ids generalizing l with
  | nil => rfl
  | cons x r ih => simp [cntF, ih]
theorem drop_at {α : Type} {l : List α} {k : Nat} {x : α} (h : l[k]? = some x) : l.drop k = x :: l.drop (k + 1) := by
  obtain ⟨hk, rfl⟩ := List.getElem?_eq_some_iff.1 h
  exact List.drop_eq_getElem_cons hk
theorem cntF_step {ids : List Int} {F : List Int} {l : List (Int × Int)} {k : Nat} {x : Int} (hx : ids[k]? = some x) (h : cntF (ids.drop k) l = F.drop k) : F.take (k + 1) = F.take k ++ [headC x (dropW x l)] ∧ cntF (ids.drop (k + 1)) (dropW x l) = F.drop (k + 1) := by
  rw [drop_at hx] at h
  have hk : k < F.length := by
    have := congrArg List.length h
    simp [cntF] at this
    omega
  have e := drop_at (List.getElem?_eq_getElem hk)
  rw [e] at h
  simp only [cntF, List.cons.injEq] at h
  exact ⟨by rw [take_snoc F k _ (List.getElem?_eq_getElem hk), h.1], h.2⟩
theorem doneL_zero (xs : List Int) (n : Nat) (h : xs.length < n) : doneL (xs ++ [0]) n = doneL xs n := by
  unfold doneL
  obtain ⟨m, hm⟩ : ∃ m, n - xs.length = m + 1 := ⟨n - xs.length - 1, by omega⟩
  rw [hm, show n - (xs ++ [(0 : Int)]).length = m by simp; omega, List.replicate_succ, List.append_assoc]
  rfl
theorem cl_tail {w : World} {b o : Nat} {k : IntKind} {p : Int × Int} {r : List (Int × Int)} (h : Cl w (some ⟨b, o, none⟩) (twoC k (p :: r))) : Cl w (some ⟨b, o + 2, none⟩) (twoC k r) := by
  obtain ⟨b', o', e, hc⟩ := h.some_ (by rw [twoC_length]; simp)
  obtain ⟨rfl, rfl⟩ : b = b' ∧ o = o' := by simpa using e
  refine .inr ⟨b, o + 2, rfl, fun j v hj => ?_⟩
  have := hc (j + 2) v (by
    have e : twoC k (p :: r) = .int .i64 p.1 :: .int k p.2 :: twoC k r := rfl
    rw [e]
    simpa using hj)
  rw [show o + 2 + j = o + (j + 2) by omega]
  exact this
def CtPost (w : World) (ids : List Int) (n : Nat) (l : List (Int × Int)) (e : Ending) (w' : World) : Prop := ∃ g, e = .returned (.slice (some ⟨g, 0, none⟩) n n) ∧ Cl w' (some ⟨g, 0, none⟩) (intsC .u64 (cntF ids l)) ∧ Below w.heap.size w w'
/-- a slice with room that reads as buckets -/
def Br (w : World) (v : Value) (l : List (Int × Int)) : Prop := ∃ A c, v = .slice A l.length c ∧ l.length ≤ c ∧ c ≤ 9223372036854775807 ∧ Cl w A (twoC .u64 l)
def CtRel (F : List Int) (ids : List Int) (w : World) (g : Nat) (v1 i : Value) (wr : World) : Prop :=
  ∃ (k : Nat) (l' : List (Int × Int)), k ≤ ids.length ∧ i = .int .i64 k ∧ Br w v1 l' ∧ cntF (ids.drop k) l' = F.drop k ∧ wr.ownsRow w.heap.size 39 1 (.slice (some ⟨g, 0, none⟩) ids.length ids.length) ids.length (intsC .u64 (doneL (F.take k) ids.length)) ∧ Below w.heap.size w wr
def CiRel (x : Int) (L : List (Int × Int)) (w wo : World) (v1 : Value) (wr : World) : Prop := ∃ l', Br w v1 l' ∧ dropW x l' = L ∧ wr = wo
def lenV : Value → Nat
  | .slice _ n _ => n
  | _ => 0
set_option maxHeartbeats 2000000 in
set_option maxRecDepth 100000 in
theorem counts_any (A B : Option Addr) (c m d n : Nat) (f : Int) (ids : List Int) (l : List (Int × Int)) (w : World) (hn : n = ids.length) (hf : f = fstL ids) (hm : m = (runsL ids).length) (hS : Ly w A ids) (ha : Asc ids) (hi : Inb ids) (hl : ids.length ≤ 10000) (hB : Cl w B (twoC .u64 l)) (hld : l.length ≤ d) (hd : d ≤ 9223372036854775807) :
    Calls Try.prog 13 #[.agg #[.int .i64 f, .slice A m c], .slice B l.length d] w (CtPost w ids n l) := by
  have hb0 : Below w.heap.size w (w.alloc (.cells #[.int .i64 f, .slice A m c] 33)) := (Below.refl _ _).alloc (Nat.le_refl _) _
  have HCI := Lib.hid (indices_at A n c m f ids _ hn hf hm (hS.below hb0) ha hi hl)
  have HB0 := Lib.hid hb0
  have HBB := Lib.hid hB
  obtain ⟨F, hF⟩ : ∃ F, cntF ids l = F := ⟨_, rfl⟩
  have HF := Lib.hid hF
  have HFL := Lib.hid (show F.length = n by rw [← hF, cntF_length, hn])
  have HN := Lib.hid hn
  have hn9 : n ≤ 10000 := by omega
  have hmk := make_u64 n (by omega)
  clear hb0 hS ha hi hB hF hf hm hn hl
  go_enter Try.func13, Try.ntmps13
  go_wp2_with fail
  refine HCI.out.mono ?_
  rintro e w1 ⟨A1, c1, rfl, hx1, hb1⟩
  have HX1 := Lib.hid hx1
  have HB1 := Lib.hid (HB0.out.trans (hb1.mono HB0.out.size))
  clear hx1 hb1
  obtain ⟨w2, hw2⟩ : ∃ W, w1.alloc (.cells (madeCells #[.int .u64 0] n) 39) = W := ⟨_, rfl⟩
  obtain ⟨g, hg⟩ : ∃ g, w1.heap.size = g := ⟨_, rfl⟩
  have R0 : Hid (CtRel F ids w1 g (.slice B l.length d) (.int .i64 0) w2) := by
    refine ⟨0, l, by omega, rfl, ⟨B, d, rfl, hld, hd, HBB.out.below HB1.out⟩, HF.out, ?_, ?_⟩
    · have := made_own .u64 39 n (by omega) w1 w1.heap.size (Nat.le_refl _)
      rw [List.take_zero, doneL_nil, ← hw2, ← hg, ← HN.out]
      exact this
    · rw [← hw2]; exact (Below.refl _ _).alloc (Nat.le_refl _) _
  have hWW := Lib.hid hw2
  have hGG := Lib.hid hg
  have hg1 : w1.heap.size ≤ g := by omega
  clear hw2 hg
  go_wp2_with fail
  rw [hWW.out, hGG.out]
  clear hmk
  go_loopw [1, 16] (fun v1 i wr => CtRel F ids w1 g v1 i wr) (fun _ i _ => n - (intOf i).toNat)
  case atStart => exact R0.out
  case round =>
    obtain ⟨k, l', hk, rfl, hv1, hF, ho, hb⟩ := hrel
    rw [← HN.out] at ho hk
    have HBR := Lib.hid hv1
    have HO := Lib.hid ho
    have HB := Lib.hid hb
    have HFF := Lib.hid hF
    by_cases hlt : k < n
    · obtain ⟨x, hx⟩ := getElem?_lt (l := ids) (k := k) (by rw [← HN.out]; exact hlt)
      obtain ⟨bb, off, rfl, hc⟩ := (HX1.out.below hb).ints (by rw [← HN.out]; omega)
      have hxc := hc k x hx
      obtain ⟨s1, s2⟩ := cntF_step hx hF
      have hFk : (F.take k).length = k := by rw [List.length_take, HFL.out]; omega
      have hdc := done_cell ho (by rw [hFk]; exact hlt)
      rw [hFk] at hdc
      have hst := fun y => (show (wr.setCell ⟨g, k, none⟩ (.int .u64 y)).ownsRow w1.heap.size 39 1 (.slice (some ⟨g, 0, none⟩) n n) n (intsC .u64 (doneL (F.take k ++ [y]) n)) from by
        have h := (ho.stored (F.take k).length (.int .u64 y)).1
        rw [doneL_set _ _ _ _ (by rw [hFk]; exact hlt), hFk] at h
        exact h)
      have HS1 := Lib.hid (And.intro s1 s2)
      have HST := Lib.hid hst
      have HDC := Lib.hid hdc
      have HFK := Lib.hid hFk
      have hki : (k : Int) < (n : Int) := by omega
      obtain ⟨A', c', rfl, hlc, hcm, hcl⟩ := hv1
      clear hc hx s1 s2 hdc hst hFk ho hb hF
      go_wp2_with fail
      obtain ⟨wo, hwo⟩ : ∃ W, W = wr := ⟨_, rfl⟩
      subst hwo
      go_loopw [1] (fun v1 wr => CiRel x (dropW x l') w1 wo v1 wr) (fun v1 _ => lenV v1)
      case atStart => exact ⟨l', HBR.out, rfl, rfl⟩
      case round =>
        obtain ⟨l2, ⟨A2, c2, rfl, hlc2, hcm2, hcl2⟩, hd2, rfl⟩ := hrel
        have HD := Lib.hid hd2
        clear hd2
        cases l2 with
        | nil =>
          have hF0 := HS1.out
          have hL : dropW x l' = [] := HD.out.symm
          rw [hL] at hF0
          have HNX := Lib.hid (show CtRel F ids w1 g (.slice A2 0 c2) (.int .i64 ((k + 1 : Nat) : Int)) wr from by
            refine ⟨k + 1, [], by rw [← HN.out]; omega, rfl, ⟨A2, c2, rfl, by simp, hcm2, Cl.nil _ _⟩, hF0.2, ?_, HB.out⟩
            rw [← HN.out, hF0.1, show headC x [] = 0 from rfl, doneL_zero _ _ (by rw [HFK.out]; exact hlt)]
            exact HO.out)
          simp only [List.length_nil]
          clear hcl2 hF0 hL
          go_wp2_with fail
          go_roundw
          case rel => exact HNX.out
          case measure => simp [intOf]; omega
        | cons p r =>
          obtain ⟨b2, o2, rfl, hc2⟩ := (hcl2.below HB.out).twos (by simp)
          obtain ⟨p1, p2⟩ := hc2 0 p rfl
          simp only [Nat.zero_mul, Nat.add_zero] at p1 p2
          obtain ⟨pi, pc⟩ := p
          simp only at p1 p2
          have HCL2 := Lib.hid hcl2
          have hlen2 : ((((pi, pc) :: r : List (Int × Int)).length : Nat) : Int) = (r.length : Int) + 1 := by simp
          obtain ⟨q, hq⟩ : ∃ q, r.length = q := ⟨_, rfl⟩
          have hq1 : ((pi, pc) :: r : List (Int × Int)).length = q + 1 := by simp [hq]
          rw [hq1] at hlc2 ⊢
          have HQ := Lib.hid hq
          clear hc2 hcl2 hlen2 hq1 hq
          by_cases hpx : pi < x
          · have HDR := Lib.hid (show dropW x r = dropW x l' by have h := HD.out; simp only [dropW] at h; rw [if_pos hpx] at h; exact h)
            have hpx' : decide (pi < x) = true := by simpa using hpx
            by_cases hc1 : c2 = 1
            · obtain rfl : q = 0 := by omega
              subst hc1
              have hr : r = [] := List.eq_nil_of_length_eq_zero HQ.out
              have HNX := Lib.hid (show CiRel x (dropW x l') w1 wr (.slice (some ⟨b2, o2, none⟩) 0 0) wr from ⟨r, ⟨some ⟨b2, o2, none⟩, 0, by rw [hr]; rfl, by rw [hr]; simp, by omega, by rw [hr]; exact Cl.nil _ _⟩, HDR.out, rfl⟩)
              clear hr
              go_wp2_with fail
              go_roundw
              case rel => exact HNX.out
              case measure => simp [lenV]
            · have hc2 : 2 ≤ c2 := by omega
              have HNX := Lib.hid (show CiRel x (dropW x l') w1 wr (.slice (some ⟨b2, o2 + 2, none⟩) q (c2 - 1)) wr from ⟨r, ⟨some ⟨b2, o2 + 2, none⟩, c2 - 1, by rw [HQ.out], by rw [HQ.out]; omega, by omega, cl_tail HCL2.out⟩, HDR.out, rfl⟩)
              go_wp2_with fail
              go_roundw
              case rel => exact HNX.out
              case measure => simp [lenV]
          · have hpx' : decide (pi < x) = false := by simpa using hpx
            have hL : dropW x l' = (pi, pc) :: r := by have h := HD.out; simp only [dropW] at h; rw [if_neg hpx] at h; exact h.symm
            have hF0 := HS1.out
            rw [hL] at hF0
            obtain ⟨dc1, dc2⟩ := HDC.out
            by_cases hpe : pi = x
            · have hpe' : (pi == x) = true := by simpa using hpe
              have HNX := Lib.hid (show CtRel F ids w1 g (.slice (some ⟨b2, o2, none⟩) (q + 1) c2) (.int .i64 ((k + 1 : Nat) : Int)) (wr.setCell ⟨g, k, none⟩ (.int .u64 pc)) from by
                refine ⟨k + 1, (pi, pc) :: r, by rw [← HN.out]; omega, rfl, ⟨_, c2, by simp [HQ.out], by simp [HQ.out]; exact hlc2, hcm2, HCL2.out⟩, hF0.2, ?_, ?_⟩
                · rw [← HN.out, hF0.1]
                  simp only [headC, if_pos hpe]
                  exact HST.out pc
                · exact HB.out.setCell hg1 _)
              clear hF0 hL hpx hpe
              go_wp2_with fail
              go_roundw
              case rel => exact HNX.out
              case measure => simp [intOf]; omega
            · have hpe' : (pi == x) = false := by simpa using hpe
              have HNX := Lib.hid (show CtRel F ids w1 g (.slice (some ⟨b2, o2, none⟩) (q + 1) c2) (.int .i64 ((k + 1 : Nat) : Int)) wr from by
                refine ⟨k + 1, (pi, pc) :: r, by rw [← HN.out]; omega, rfl, ⟨_, c2, by simp [HQ.out], by simp [HQ.out]; exact hlc2, hcm2, HCL2.out⟩, hF0.2, ?_, HB.out⟩
                rw [← HN.out, hF0.1]
                simp only [headC, if_neg hpe]
                rw [doneL_zero _ _ (by rw [HFK.out]; exact hlt)]
                exact HO.out)
              clear hF0 hL hpx hpe dc1 dc2
              go_wp2_with fail
              go_roundw
              case rel => exact HNX.out
              case measure => simp [intOf]; omega
    · obtain rfl : k = n := by omega
      have hki : ¬ ((k : Int) < (k : Int)) := by omega
      have hall : doneL (F.take k) k = F := by
        rw [List.take_of_length_le (by rw [HFL.out]; exact Nat.le_refl _)]
        exact doneL_all _ _ HFL.out
      have hcl := own_cl ho
      rw [hall] at hcl
      have HEND := Lib.hid (show CtPost w ids k l (.returned (.slice (some ⟨g, 0, none⟩) k k)) wr from ⟨g, rfl, by rw [HF.out]; exact hcl, HB1.out.trans (hb.mono HB1.out.size)⟩)
      obtain ⟨A', c', rfl, _, _, _⟩ := hv1
      clear ho hb hF hall hcl
      go_wp2_with fail
      go_ret
      exact HEND.out
end Go.Proofs.Ytnbjgeamdipkcaa
