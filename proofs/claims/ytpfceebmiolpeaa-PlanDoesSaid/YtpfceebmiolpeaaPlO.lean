/- The law PlanDoes. -/
import Derived.Test.YtpfceebmiolpeaaPlN
import Derived.Test.YtpfceebmiolpeaaPlW
namespace Go.Proofs.Ytpfceebmiolpeaa.Pl
open Go.RowKit Go.Sort
set_option linter.unusedVariables false

theorem rnot_any (A : Option Addr) (n c : Nat) (l : List It) (w : World) (hn : n = l.length) (h : Cl w A (fC rfA l)) (hl : l.length ≤ 100000) (z : Bool) (hz : rightB l = z) :
    Calls Try.prog 13 #[.slice A n c] w fun e w' => e = .returned (.bool z) ∧ Below w.heap.size w w' := by
  rw [← hz]
  exact rright_any A n c l w hn h hl
/-- To, then From: the same items -/
theorem filter_at {p : It → Bool} : ∀ {l : List It} {j : Nat} {x : It}, l[j]? = some x → p x = true → (l.filter p)[((l.take j).filter p).length]? = some x
  | [], j, x, h, _ => by simp at h
  | a :: r, 0, x, h, hp => by
    simp at h
    subst h
    rw [List.filter_cons, if_pos hp]
    rfl
  | a :: r, j + 1, x, h, hp => by
    have ih := filter_at (l := r) (j := j) (x := x) (by simpa using h) hp
    rw [List.take_succ_cons, List.filter_cons, List.filter_cons]
    cases hpa : p a
    · simpa using ih
    · simpa using ih
theorem filter_take_le (p : It → Bool) (l : List It) (j : Nat) : ((l.take j).filter p).length ≤ (l.filter p).length :=
  ((List.take_sublist j l).filter p).length_le
/-- the earliest step so far, -1 if there is none -/
def LowI (S : List Int) (k : Int) (l : List It) (z : Int) : Prop := (z = -1 ∧ l.filter (isIn S) = []) ∨ ∃ m, IsMin (l.filter (isIn S)) m ∧ z = lowF k m
theorem LowI.skip {S : List Int} {k z : Int} {l : List It} {x : It} (h : LowI S k l z) (hx : isIn S x = false) : LowI S k (l ++ [x]) z := by
  have e : (l ++ [x]).filter (isIn S) = l.filter (isIn S) := by rw [List.filter_append, List.filter_cons, hx]; simp
  unfold LowI
  rw [e]
  exact h
theorem LowI.take {S : List Int} {k z : Int} {l : List It} {x : It} (h : LowI S k l z) (hx : isIn S x = true) (hz : z < 0 ∨ lowF k x.lo < z) (h0 : 0 ≤ x.lo) (hl : ∀ y ∈ l, 0 ≤ y.lo) : LowI S k (l ++ [x]) (lowF k x.lo) := by
  have e : (l ++ [x]).filter (isIn S) = l.filter (isIn S) ++ [x] := by rw [List.filter_append, List.filter_cons, hx]; simp
  unfold LowI
  rw [e]
  refine .inr ⟨x.lo, ⟨⟨x, by simp, rfl⟩, fun y hy => ?_⟩, rfl⟩
  rcases List.mem_append.1 hy with hy | hy
  · rcases h with ⟨_, h2⟩ | ⟨m, h1, h2⟩
    · rw [h2] at hy; cases hy
    · have h3 := h1.2 y hy
      rcases Int.lt_or_le m x.lo with h4 | h4
      · have h5 := lowF_mono k (Int.le_of_lt h4)
        rcases hz with hz | hz
        · obtain ⟨⟨u, hu, hum⟩, _⟩ := h1
          have h6 := lowF_le k m
          rw [h2] at hz
          have := hl u (List.mem_filter.1 hu).1
          have := lowF_nonneg (k := k) (show 0 ≤ m by omega)
          omega
        · omega
      · omega
  · simp at hy
    rw [hy]
    exact Int.le_refl _
theorem LowI.keep {S : List Int} {k z : Int} {l : List It} {x : It} (h : LowI S k l z) (hx : isIn S x = true) (hz : 0 ≤ z) (hle : z ≤ lowF k x.lo) : LowI S k (l ++ [x]) z := by
  have e : (l ++ [x]).filter (isIn S) = l.filter (isIn S) ++ [x] := by rw [List.filter_append, List.filter_cons, hx]; simp
  unfold LowI
  rw [e]
  rcases h with ⟨h1, _⟩ | ⟨m, h1, h2⟩
  · omega
  · by_cases hm : m ≤ x.lo
    · refine .inr ⟨m, ⟨?_, fun y hy => ?_⟩, h2⟩
      · obtain ⟨⟨u, hu, hum⟩, _⟩ := h1
        exact ⟨u, List.mem_append.2 (.inl hu), hum⟩
      · rcases List.mem_append.1 hy with hy | hy
        · exact h1.2 y hy
        · simp at hy; rw [hy]; exact hm
    · refine .inr ⟨x.lo, ⟨⟨x, by simp, rfl⟩, fun y hy => ?_⟩, ?_⟩
      · rcases List.mem_append.1 hy with hy | hy
        · have := h1.2 y hy; omega
        · simp at hy; rw [hy]; exact Int.le_refl _
      · have := lowF_mono k (show x.lo ≤ m by omega)
        omega
theorem LowI.end_ {S : List Int} {k z seq : Int} {l r : List It} (h : LowI S k l z) (hr : ∀ x ∈ l, 0 ≤ x.lo) (hd : DoR l S k seq r) :
    (z < 0 → r = l.filter fun x => !isIn S x) ∧ (0 ≤ z → r = (l.filter fun x => !isIn S x) ++ [⟨seq, z, z + wd k, k⟩]) := by
  rcases h with ⟨h1, h2⟩ | ⟨m, h1, h2⟩
  · refine ⟨fun _ => ?_, fun h => by omega⟩
    rcases hd with ⟨_, h3⟩ | ⟨m, ⟨⟨u, hu, _⟩, _⟩, _⟩
    · exact h3
    · rw [h2] at hu; cases hu
  · obtain ⟨⟨u, hu, hum⟩, hm2⟩ := h1
    have h0 := hr u (List.mem_filter.1 hu).1
    have h3 := lowF_nonneg (k := k) (show 0 ≤ m by omega)
    refine ⟨fun h => by omega, fun _ => ?_⟩
    rcases hd with ⟨h4, _⟩ | ⟨m', ⟨⟨u', hu', hum'⟩, hm2'⟩, h5⟩
    · rw [h4] at hu; cases hu
    · have e1 := hm2 u' hu'
      have e2 := hm2' u hu
      have e3 : m' = m := by omega
      rw [h5, e3, ← h2]
theorem doR_at {l r : List It} {S : List Int} {k seq : Int} {j : Nat} {x : It} (h : DoR l S k seq r) (hx : l[j]? = some x) (hi : isIn S x = false) : r[((l.take j).filter fun x => !isIn S x).length]? = some x := by
  have h1 := filter_at (p := fun x => !isIn S x) hx (by simp [hi])
  rcases h with ⟨_, rfl⟩ | ⟨m, _, rfl⟩
  · exact h1
  · rw [List.getElem?_append_left (List.getElem?_eq_some_iff.1 h1).1]
    exact h1
theorem LowI.range {S : List Int} {k z : Int} {l : List It} (h : LowI S k l z) (hr : ∀ x ∈ l, RightI x) : -1 ≤ z ∧ z ≤ 1099511627776 := by
  rcases h with ⟨h1, _⟩ | ⟨m, ⟨⟨u, hu, hum⟩, _⟩, h2⟩
  · omega
  · have h0 := (hr u (List.mem_filter.1 hu).1).o0
    have h1 := (hr u (List.mem_filter.1 hu).1).o1
    have h3 := lowF_nonneg (k := k) (show 0 ≤ m by omega)
    have h4 := lowF_le k m
    omega
theorem doR_len {l r : List It} {S : List Int} {k seq : Int} (h : DoR l S k seq r) (hl : l.length ≤ 900) : r.length ≤ 1000 := by
  have h1 := List.length_filter_le (fun x => !isIn S x) l
  rcases h with ⟨_, rfl⟩ | ⟨m, _, rfl⟩
  · omega
  · rw [List.length_append, List.length_singleton]; omega
set_option maxHeartbeats 8000000 in
set_option maxRecDepth 100000 in
theorem does_main (A B : Option Addr) (n c m d : Nat) (l : List It) (S : List Int) (u seq : Int) (w : World) (hn : n = l.length) (h : Cl w A (fC rfA l)) (hl : l.length ≤ 60) (hm : m = S.length) (hB : Cl w B (intsC .i64 S)) (hS : S.length ≤ 60) (hu : 0 ≤ u ∧ u < 256) (hr : RightL l) :
    Calls Try.prog 6 #[.slice A n c, .slice B m d, .int .u8 u, .int .i64 seq] w fun e w' => e = .returned (.bool true) ∧ Below w.heap.size w w' := by
  subst hn hm
  obtain ⟨n, hn⟩ : ∃ n, l.length = n := ⟨_, rfl⟩
  obtain ⟨m, hm⟩ : ∃ m, S.length = m := ⟨_, rfl⟩
  have HN := Lib.hid hn
  have HM := Lib.hid hm
  have HL := Lib.hid h
  have HS := Lib.hid hB
  have HR := Lib.hid hr
  have HRT := Lib.hid (rnot_any A n c l w hn.symm h (by omega) true (rightB_true hr))
  rw [hn] at hl ⊢
  rw [hm] at hS ⊢
  have hn60 : ¬ (60 : Int) < (n : Int) := by omega
  have hm60 : ¬ (60 : Int) < (m : Int) := by omega
  obtain ⟨k, hk⟩ : ∃ k, u % 5 = k := ⟨_, rfl⟩
  have hk0 : 0 ≤ k ∧ k ≤ 4 := by omega
  have hku : u.tmod 5 = k := by rw [← hk]; exact Int.tmod_eq_emod_of_nonneg hu.1
  have hk64 : I64 k := ⟨by omega, by omega⟩
  clear h hn hm hB hr hk
  go_enter Try.func6, Try.ntmps6
  go_wp2_with (first
    | (go_at_call 13; refine HRT.out.mono ?_; rintro e w1 ⟨rfl, hb1⟩; have HB1 := Lib.hid hb1; have HT := Lib.hid (to_any A n c l w1 HN.out.symm (HL.out.below hb1) (by rw [HN.out]; omega)); clear hb1)
    | (go_at_call 15; refine HT.out.mono ?_; rintro e w2 ⟨v, rfl, A2, c2, rfl, ho, hb⟩; have HB2 := Lib.hid (HB1.out.trans (hb.mono HB1.out.size)); have HC2 := Lib.hid (own_cl ho); rw [HN.out]; have HD := Lib.hid (do_any A2 B n c2 m d l S k seq w2 HN.out.symm HC2.out HR.out.1 (by rw [HN.out]; omega) HM.out.symm (HS.out.below HB2.out) (by rw [HM.out]; omega) hk0); clear ho hb)
    | (go_at_call 24; refine HD.out.mono ?_; rintro e w3 ⟨r, v, rfl, hdo, A3, c3, rfl, ho, hb⟩; have HB3 := Lib.hid (HB2.out.trans (hb.mono HB2.out.size)); have HC3 := Lib.hid (own_cl ho); have HDR := Lib.hid hdo; have hrl : r.length ≤ 1000 := doR_len hdo (by rw [HN.out]; omega); have HF := Lib.hid (from_any A3 r.length c3 r w3 rfl HC3.out hrl); clear ho hb hdo)
    | (go_at_call 25; refine HF.out.mono ?_; rintro e w4 ⟨v, rfl, A4, c4, rfl, ho, hb⟩; have HB4 := Lib.hid (HB3.out.trans (hb.mono HB3.out.size)); have HC4 := Lib.hid (own_cl ho); clear ho hb))
  have HE := Lib.hid (LowI.end_ (seq := seq) (S := S) (k := k) (l := l) (r := r) (z := 0))
  clear HE
  have HWD := Lib.hid (fun w => rwidth_any k hk64 w)
  obtain ⟨dd, hd⟩ : ∃ d, wd k = d := ⟨_, rfl⟩
  have hwp := wd_pos k
  have HTD := Lib.hid (fun (t : Int) (h : 0 ≤ t) => tdiv_low (k := k) h)
  simp only [hd] at HWD hwp HTD
  have hd0 : ¬ dd = 0 := by omega
  have hdb : (dd == 0) = false := by simpa using hd0
  have hd1 : ¬ dd = -1 := by omega
  have HDD := Lib.hid hd
  obtain ⟨R, hR⟩ : ∃ R, r.length = R := ⟨_, rfl⟩
  have HRL := Lib.hid hR
  rw [hR]
  clear hd hR
  go_loopw [11, 12, 46] (fun v u i wr => ∃ (j nn : Nat) (z : Int), j ≤ n ∧ v = .int .i64 nn ∧ u = .int .i64 z ∧ i = .int .i64 j ∧ Hid (nn = ((l.take j).filter fun x => !isIn S x).length ∧ LowI S k (l.take j) z ∧ Below w4.heap.size w4 wr)) (fun _ _ i _ => n - (intOf i).toNat)
  case atStart => exact ⟨0, 0, -1, by omega, rfl, rfl, rfl, Lib.hid ⟨by simp, .inl ⟨rfl, by simp⟩, Below.refl _ _⟩⟩
  case round =>
    obtain ⟨j, nn, z, hj, rfl, rfl, rfl, HI⟩ := hrel
    have HBR := Lib.hid (HB4.out.trans (HI.out.2.2.mono HB4.out.size))
    by_cases hlt : j < n
    · have hji : (j : Int) < (n : Int) := by omega
      obtain ⟨x, hx⟩ := getElem?_lt (l := l) (k := j) (by rw [HN.out]; exact hlt)
      obtain ⟨b, off, rfl, hcell⟩ := (HL.out.below HBR.out).rfs (by rw [HN.out]; omega)
      obtain ⟨p0, p1, p2, p3⟩ := hcell j x hx
      have HX := Lib.hid hx
      have HXR := Lib.hid (HR.out.1 x (mem_of_at hx))
      have HT1 := Lib.hid (take_snoc l j x hx)
      obtain ⟨W1, hW1⟩ : ∃ W1, wr.alloc (.cells #[.int .i64 x.q, .int .i64 x.lv, .int .i64 x.lo, .int .i64 x.hi] 45) = W1 := ⟨_, rfl⟩
      obtain ⟨g, hg⟩ : ∃ g, wr.heap.size = g := ⟨_, rfl⟩
      have hb1 : Below wr.heap.size wr W1 := hW1 ▸ (Below.refl _ _).alloc (Nat.le_refl _) _
      have HXC := Lib.hid (show W1.heap[g]? = some (.cells #[.int .i64 x.q, .int .i64 x.lv, .int .i64 x.lo, .int .i64 x.hi] 45 (0, 0)) from hg ▸ hW1 ▸ heap_alloc_new wr _)
      have HGL := Lib.hid (Array.getElem?_eq_some_iff.1 HXC.out).1
      have HB1W := Lib.hid (HI.out.2.2.trans (hb1.mono HI.out.2.2.size))
      have HBW := Lib.hid (HBR.out.trans (hb1.mono HBR.out.size))
      have HNN := Lib.hid HI.out.1
      have HLO := Lib.hid HI.out.2.1
      clear hcell hx hb1 HI
      go_wp2_with fail
      clear hW1 hg p0 p1 p2 p3
      go_loopw [15, 52] (fun v i w' => ∃ a : Nat, a ≤ m ∧ i = .int .i64 a ∧ v = .bool (decide (x.q ∈ S.take a)) ∧ Hid (Below W1.heap.size W1 w')) (fun _ i _ => m - (intOf i).toNat)
      case atStart => exact ⟨0, by omega, rfl, by simp, Lib.hid (Below.refl _ _)⟩
      case round =>
        obtain ⟨a, ha, rfl, rfl, HW⟩ := hrel
        obtain ⟨y0, y1, y2, y3⟩ := box4 ((HW.out.block g HGL.out).trans HXC.out)
        have HBX := Lib.hid (HBW.out.trans (HW.out.mono HBW.out.size))
        obtain ⟨nm, hnm⟩ : ∃ nm, decide (x.q ∈ S.take a) = nm := ⟨_, rfl⟩
        rw [hnm]
        by_cases ham : a < m
        · have hai : (a : Int) < (m : Int) := by omega
          obtain ⟨s, hs⟩ := getElem?_lt (l := S) (k := a) (by rw [HM.out]; exact ham)
          obtain ⟨b2, off2, rfl, hc2⟩ := (HS.out.below HBX.out).ints (by rw [HM.out]; omega)
          have q0 := hc2 a s hs
          have HTS := Lib.hid (take_snoc S a s hs)
          clear hc2 hs
          cases nm with
          | true =>
            have HD2 := Lib.hid (show decide (x.q ∈ S.take (a + 1)) = true by
              rw [HTS.out, decide_eq_true_eq, List.mem_append]; exact .inl (by simpa using hnm))
            clear hnm
            go_wp2_with fail
            go_roundw
            case rel => exact ⟨a + 1, by omega, by go_num, by rw [HD2.out], Lib.hid HW.out⟩
            case measure => simp [intOf]; omega
          | false =>
            have HD2 := Lib.hid (show decide (x.q ∈ S.take (a + 1)) = (s == x.q) by
              rw [HTS.out, Bool.eq_iff_iff, decide_eq_true_eq, List.mem_append, beq_iff_eq]
              have h1 : ¬ x.q ∈ S.take a := by simpa using hnm
              simp [h1, eq_comm])
            clear hnm
            go_wp2_with fail
            go_roundw
            case rel => exact ⟨a + 1, by omega, by go_num, by rw [HD2.out], Lib.hid HW.out⟩
            case measure => simp [intOf]; omega
        · obtain rfl : a = m := by omega
          have hai : ¬ ((a : Int) < (a : Int)) := by omega
          have hin : isIn S x = nm := by
            unfold isIn
            rw [← hnm, List.take_of_length_le (by rw [HM.out]; exact Nat.le_refl _)]
          have HIN := Lib.hid hin
          clear hnm hin
          cases nm with
          | true =>
            have HF2 := Lib.hid (show nn = ((l.take (j + 1)).filter fun x => !isIn S x).length by rw [HT1.out, List.filter_append, List.filter_cons, HIN.out, HNN.out]; simp)
            have hx0 := HXR.out.o0
            have hx1 := HXR.out.o1
            obtain ⟨e0, he0⟩ : ∃ e0, x.lo.tdiv dd = e0 := ⟨_, rfl⟩
            obtain ⟨e1, he1⟩ : ∃ e1, lowF k x.lo = e1 := ⟨_, rfl⟩
            have hde : e0 * dd = e1 := by rw [← he0, ← he1]; exact HTD.out x.lo hx0
            have hrg : 0 ≤ e1 ∧ e1 ≤ 1099511627776 := by
              have h1 := lowF_nonneg (k := k) hx0
              have h2 := lowF_le k x.lo
              omega
            have hq0 : -9223372036854775808 ≤ e0 ∧ e0 ≤ 9223372036854775807 := by
              rw [← he0, Int.tdiv_eq_ediv_of_nonneg hx0]
              have h1 := Int.ediv_nonneg hx0 (Int.le_of_lt hwp.1)
              have h2 := Int.ediv_le_self dd hx0
              omega
            have hws : wrap64 e0 = e0 := IntWalk.wrap64_in _ ⟨by omega, by omega⟩
            have hwm : wrap64 (e0 * dd) = e1 := by rw [hde]; exact IntWalk.wrap64_in _ ⟨by omega, by omega⟩
            have HE1 := Lib.hid he1
            have HALL := Lib.hid (show ∀ y ∈ l.take j, 0 ≤ y.lo from fun y hy => (HR.out.1 y (List.mem_of_mem_take hy)).o0)
            clear hde he1
            go_wp2_with fail
            go_quiet (first | (go_at_call 26; refine Calls.quiet_of_same ((HWD.out _).mono fun e w' h => ⟨h.1, h.2.symm⟩)))
            have HW2 := Lib.hid (HB1W.out.trans ((below_drewN HW.out nq).mono HB1W.out.size))
            by_cases gz : z < 0
            · have HL2 := Lib.hid (show LowI S k (l.take (j + 1)) e1 by rw [HT1.out, ← HE1.out]; exact HLO.out.take HIN.out (.inl gz) hx0 HALL.out)
              go_wp2_with fail
              go_roundw
              case rel => exact ⟨j + 1, nn, e1, by omega, rfl, by rw [hwm], by go_num, Lib.hid ⟨HF2.out, HL2.out, HW2.out⟩⟩
              case measure => simp [intOf]; omega
            · by_cases ge : e1 < z
              · have HL2 := Lib.hid (show LowI S k (l.take (j + 1)) e1 by rw [HT1.out, ← HE1.out]; exact HLO.out.take HIN.out (.inr (by rw [HE1.out]; exact ge)) hx0 HALL.out)
                go_wp2_with fail
                go_roundw
                case rel => exact ⟨j + 1, nn, e1, by omega, rfl, by rw [hwm], by go_num, Lib.hid ⟨HF2.out, HL2.out, HW2.out⟩⟩
                case measure => simp [intOf]; omega
              · have HL2 := Lib.hid (show LowI S k (l.take (j + 1)) z by rw [HT1.out]; exact HLO.out.keep HIN.out (by omega) (by rw [HE1.out]; omega))
                go_wp2_with fail
                go_roundw
                case rel => exact ⟨j + 1, nn, z, by omega, rfl, rfl, by go_num, Lib.hid ⟨HF2.out, HL2.out, HW2.out⟩⟩
                case measure => simp [intOf]; omega
          | false =>
            have HF2 := Lib.hid (show nn + 1 = ((l.take (j + 1)).filter fun x => !isIn S x).length by rw [HT1.out, List.filter_append, List.filter_cons, HIN.out, HNN.out]; simp)
            have hget := doR_at HDR.out HX.out HIN.out
            rw [← HNN.out] at hget
            have hnR : nn < R := by rw [← HRL.out]; exact (List.getElem?_eq_some_iff.1 hget).1
            have hnI : (nn : Int) < (R : Int) := by omega
            have hnJ : ¬ ((R : Int) ≤ (nn : Int)) := by omega
            have hnK : decide ((R : Int) ≤ (nn : Int)) = false := by simpa using hnJ
            have hR1 : R ≤ 1000 := by rw [← HRL.out]; exact hrl
            have HW4 := Lib.hid (HB1W.out.trans (HW.out.mono HB1W.out.size))
            obtain ⟨b4, off4, rfl, hc4⟩ := (HC4.out.below HW4.out).rfs (by rw [HRL.out]; omega)
            obtain ⟨z0, z1, z2, z3⟩ := hc4 nn x hget
            have HL2 := Lib.hid (show LowI S k (l.take (j + 1)) z by rw [HT1.out]; exact HLO.out.skip HIN.out)
            clear hc4 hget
            go_wp2_with fail
            go_quiet (fail)
            go_wp2_with fail
            go_roundw
            case rel => exact ⟨j + 1, nn + 1, z, by omega, by go_num, rfl, by go_num, Lib.hid ⟨HF2.out, HL2.out, below_drewN HW4.out _⟩⟩
            case measure => simp [intOf]; omega
    · obtain rfl : j = n := by omega
      have hji : ¬ ((j : Int) < (j : Int)) := by omega
      have htk : l.take j = l := List.take_of_length_le (by rw [HN.out]; exact Nat.le_refl _)
      have hlo := HI.out.2.1
      have hnn := HI.out.1
      rw [htk] at hlo hnn
      have hrng := hlo.range HR.out.1
      obtain ⟨hz1, hz2⟩ := hlo.end_ (fun x hx => (HR.out.1 x hx).o0) HDR.out
      have hnn1 : nn ≤ 60 := by rw [hnn]; exact Nat.le_trans (List.length_filter_le _ _) (by rw [HN.out]; exact hl)
      by_cases gz : z < 0
      · have HRN := Lib.hid (show R = nn by rw [← HRL.out, hz1 gz, hnn])
        clear hlo hnn hz1 hz2 HI
        go_wp2_with (go_at_call 14; refine (awake_any _).mono ?_; rintro e w5 ⟨rfl, hb5⟩; have HB5 := Lib.hid (HBR.out.trans (hb5.mono HBR.out.size)); rw [HRN.out]; clear hb5)
        go_ret
        exact ⟨by simp, HB5.out⟩
      · have hre := hz2 (by omega)
        rw [HDD.out] at hre
        have hRn : R = nn + 1 := by rw [← HRL.out, hre, hnn, List.length_append]; rfl
        have hget : r[nn]? = some ⟨seq, z, z + dd, k⟩ := by rw [hre, hnn]; simp
        subst hRn
        have hnI : (nn : Int) < ((nn + 1 : Nat) : Int) := by omega
        have hsm : wrap64 (z + dd) = z + dd := IntWalk.wrap64_in _ ⟨by omega, by omega⟩
        have HGET := Lib.hid hget
        have HW4 := Lib.hid (HI.out.2.2)
        obtain ⟨b4, off4, rfl, hc4⟩ := (HC4.out.below HW4.out).rfs (by rw [HRL.out]; omega)
        have HC5 := Lib.hid (fun (W : World) (hb : Below wr.heap.size wr W) => rf_cells ((HC4.out.below HW4.out).below hb) HGET.out)
        clear hlo hnn hz1 hz2 HI hre hget hc4
        go_wp2_with fail
        refine Rg.wp_region_inv (R := fun sl v w => match sl with
            | 105 => v = .bool true
            | 106 => v = .bool true
            | 107 => v = .slice (some ⟨b4, off4, none⟩) (nn + 1) c4
            | 108 => v = .int .i64 ((nn + 1 : Nat) : Int)
            | 109 => v = .int .i64 (nn : Int)
            | 110 => v = .int .i64 ((nn : Int) + 1)
            | 111 => v = .bool true
            | 112 => v = .bool true
            | 113 => v = .bool true
            | 114 => v = .slice (some ⟨b4, off4, none⟩) (nn + 1) c4
            | 115 => v = .int .i64 (nn : Int)
            | 116 => v = .pointer (some ⟨b4, off4 + nn * 4, none⟩)
            | 117 => v = .agg #[.int .i64 seq, .int .i64 k, .int .i64 z, .int .i64 (z + dd)]
            | 118 => v = .int .i64 seq
            | 119 => v = .int .i64 k
            | 120 => v = .int .i64 z
            | 121 => v = .int .i64 z
            | 122 => v = .int .i64 k
            | 123 => v = .int .i64 dd
            | 124 => v = .int .i64 (z + dd)
            | 125 => v = .agg #[.int .i64 seq, .int .i64 k, .int .i64 z, .int .i64 (z + dd)]
            | 126 => v = .bool true
            | 127 => v = .bool true
            | 8 => v = .bool true
            | _ => True) [105, 106, 107, 108, 109, 110, 111, 112, 113, 114, 115, 116, 117, 118, 119, 120, 121, 122, 123, 124, 125, 126, 127, 8] 128 [false, false, false, false, false, false, false, false, true, false, false, false, false, false, false, false, false, false, false, false, false, false, false, false, false, false, false, false, false, false, false, false, false, false, false, false, false, false, false, false, false, false, false, false, false, false, false, false, false, false, false, false, false, false, false, false, false, false, false, false, false, false, false, false, false, false, false, false, false, false, false, false, false, false, false, false, false, false, false, false, false, false, false, false, false, false, false, false, false, false, false, false, false, false, false, false, false, false, false, false, false, false, false, false, false, true, true, true, true, true, true, true, true, true, true, true, true, true, true, true, true, true, true, true, true, true, true, true] (by kernel_rfl) rfl (by kernel_rfl) (by kernel_rfl) (by kernel_rfl) (by kernel_rfl) (by kernel_rfl) ?mono ?good ?done
        case mono =>
          refine List.forall_mem_cons.2 ⟨fun _ _ _ _ _ h => h, ?_⟩
          refine List.forall_mem_cons.2 ⟨fun _ _ _ _ _ h => h, ?_⟩
          refine List.forall_mem_cons.2 ⟨fun _ _ _ _ _ h => h, ?_⟩
          refine List.forall_mem_cons.2 ⟨fun _ _ _ _ _ h => h, ?_⟩
          refine List.forall_mem_cons.2 ⟨fun _ _ _ _ _ h => h, ?_⟩
          refine List.forall_mem_cons.2 ⟨fun _ _ _ _ _ h => h, ?_⟩
          refine List.forall_mem_cons.2 ⟨fun _ _ _ _ _ h => h, ?_⟩
          refine List.forall_mem_cons.2 ⟨fun _ _ _ _ _ h => h, ?_⟩
          refine List.forall_mem_cons.2 ⟨fun _ _ _ _ _ h => h, ?_⟩
          refine List.forall_mem_cons.2 ⟨fun _ _ _ _ _ h => h, ?_⟩
          refine List.forall_mem_cons.2 ⟨fun _ _ _ _ _ h => h, ?_⟩
          refine List.forall_mem_cons.2 ⟨fun _ _ _ _ _ h => h, ?_⟩
          refine List.forall_mem_cons.2 ⟨fun _ _ _ _ _ h => h, ?_⟩
          refine List.forall_mem_cons.2 ⟨fun _ _ _ _ _ h => h, ?_⟩
          refine List.forall_mem_cons.2 ⟨fun _ _ _ _ _ h => h, ?_⟩
          refine List.forall_mem_cons.2 ⟨fun _ _ _ _ _ h => h, ?_⟩
          refine List.forall_mem_cons.2 ⟨fun _ _ _ _ _ h => h, ?_⟩
          refine List.forall_mem_cons.2 ⟨fun _ _ _ _ _ h => h, ?_⟩
          refine List.forall_mem_cons.2 ⟨fun _ _ _ _ _ h => h, ?_⟩
          refine List.forall_mem_cons.2 ⟨fun _ _ _ _ _ h => h, ?_⟩
          refine List.forall_mem_cons.2 ⟨fun _ _ _ _ _ h => h, ?_⟩
          refine List.forall_mem_cons.2 ⟨fun _ _ _ _ _ h => h, ?_⟩
          refine List.forall_mem_cons.2 ⟨fun _ _ _ _ _ h => h, ?_⟩
          refine List.forall_mem_cons.2 ⟨fun _ _ _ _ _ h => h, ?_⟩
          exact fun _ h => absurd h (by simp)
        case good =>
          refine Rg.good_cons ?_ ?_
          · intro ac w' cx hn
            refine .inl ⟨(Rg.wanted_none rfl), fun K hK => ?_⟩
            go_simp
            refine (awake_any w').mono ?_
            rintro e w2 ⟨rfl, hb⟩
            exact hK _ _ hb (fun t ht => by injection ht with ht; subst ht; exact rfl)
          refine Rg.good_cons ?_ ?_
          · intro ac w' cx hn
            obtain ⟨v105, e105, r105⟩ := hn 105 (Rg.mem_of (by kernel_rfl))
            obtain rfl : v105 = .bool true := r105
            refine .inl ⟨(Rg.wanted_none rfl), fun K hK => ?_⟩
            go_simp
            exact hK _ _ (Below.refl _ _) (fun t ht => by injection ht with ht; subst ht; exact rfl)
          refine Rg.good_cons ?_ ?_
          · intro ac w' cx hn
            have e10 := cx.at_ 10 (by kernel_rfl) rfl
            obtain ⟨v106, e106, r106⟩ := hn 106 (Rg.mem_of (by kernel_rfl))
            obtain rfl : v106 = .bool true := r106
            refine .inl ⟨((Rg.wanted_some (t := 106) rfl (by kernel_rfl) e106).trans rfl), fun K hK => ?_⟩
            go_simp
            exact hK _ _ (Below.refl _ _) (fun t ht => by injection ht with ht; subst ht; exact rfl)
          refine Rg.good_cons ?_ ?_
          · intro ac w' cx hn
            obtain ⟨v107, e107, r107⟩ := hn 107 (Rg.mem_of (by kernel_rfl))
            obtain rfl : v107 = .slice (some ⟨b4, off4, none⟩) (nn + 1) c4 := r107
            obtain ⟨v106, e106, r106⟩ := hn 106 (Rg.mem_of (by kernel_rfl))
            obtain rfl : v106 = .bool true := r106
            refine .inl ⟨((Rg.wanted_some (t := 106) rfl (by kernel_rfl) e106).trans rfl), fun K hK => ?_⟩
            go_simp
            exact hK _ _ (Below.refl _ _) (fun t ht => by injection ht with ht; subst ht; exact rfl)
          refine Rg.good_cons ?_ ?_
          · intro ac w' cx hn
            have e11 := cx.at_ 11 (by kernel_rfl) rfl
            obtain ⟨v106, e106, r106⟩ := hn 106 (Rg.mem_of (by kernel_rfl))
            obtain rfl : v106 = .bool true := r106
            refine .inl ⟨((Rg.wanted_some (t := 106) rfl (by kernel_rfl) e106).trans rfl), fun K hK => ?_⟩
            go_simp
            exact hK _ _ (Below.refl _ _) (fun t ht => by injection ht with ht; subst ht; exact rfl)
          refine Rg.good_cons ?_ ?_
          · intro ac w' cx hn
            obtain ⟨v109, e109, r109⟩ := hn 109 (Rg.mem_of (by kernel_rfl))
            obtain rfl : v109 = .int .i64 (nn : Int) := r109
            obtain ⟨v106, e106, r106⟩ := hn 106 (Rg.mem_of (by kernel_rfl))
            obtain rfl : v106 = .bool true := r106
            refine .inl ⟨((Rg.wanted_some (t := 106) rfl (by kernel_rfl) e106).trans rfl), fun K hK => ?_⟩
            have hwn : IntKind.i64.wrap ((nn : Int) + 1) = (nn : Int) + 1 := by rw [IntWalk.i64_left]; exact IntWalk.wrap64_in _ ⟨by omega, by omega⟩
            go_simp
            exact hK _ _ (Below.refl _ _) (fun t ht => by injection ht with ht; subst ht; exact rfl)
          refine Rg.good_cons ?_ ?_
          · intro ac w' cx hn
            obtain ⟨v108, e108, r108⟩ := hn 108 (Rg.mem_of (by kernel_rfl))
            obtain rfl : v108 = .int .i64 ((nn + 1 : Nat) : Int) := r108
            obtain ⟨v110, e110, r110⟩ := hn 110 (Rg.mem_of (by kernel_rfl))
            obtain rfl : v110 = .int .i64 ((nn : Int) + 1) := r110
            obtain ⟨v106, e106, r106⟩ := hn 106 (Rg.mem_of (by kernel_rfl))
            obtain rfl : v106 = .bool true := r106
            refine .inl ⟨((Rg.wanted_some (t := 106) rfl (by kernel_rfl) e106).trans rfl), fun K hK => ?_⟩
            have he : (((nn + 1 : Nat) : Int) == (nn : Int) + 1) = true := by simp
            go_simp
            exact hK _ _ (Below.refl _ _) (fun t ht => by injection ht with ht; subst ht; exact rfl)
          refine Rg.good_cons ?_ ?_
          · intro ac w' cx hn
            obtain ⟨v106, e106, r106⟩ := hn 106 (Rg.mem_of (by kernel_rfl))
            obtain rfl : v106 = .bool true := r106
            obtain ⟨v111, e111, r111⟩ := hn 111 (Rg.mem_of (by kernel_rfl))
            obtain rfl : v111 = .bool true := r111
            refine .inl ⟨(Rg.wanted_none rfl), fun K hK => ?_⟩
            go_simp
            exact hK _ _ (Below.refl _ _) (fun t ht => by injection ht with ht; subst ht; exact rfl)
          refine Rg.good_cons ?_ ?_
          · intro ac w' cx hn
            obtain ⟨v112, e112, r112⟩ := hn 112 (Rg.mem_of (by kernel_rfl))
            obtain rfl : v112 = .bool true := r112
            refine .inl ⟨(Rg.wanted_none rfl), fun K hK => ?_⟩
            go_simp
            exact hK _ _ (Below.refl _ _) (fun t ht => by injection ht with ht; subst ht; exact rfl)
          refine Rg.good_cons ?_ ?_
          · intro ac w' cx hn
            have e10 := cx.at_ 10 (by kernel_rfl) rfl
            obtain ⟨v113, e113, r113⟩ := hn 113 (Rg.mem_of (by kernel_rfl))
            obtain rfl : v113 = .bool true := r113
            refine .inl ⟨((Rg.wanted_some (t := 113) rfl (by kernel_rfl) e113).trans rfl), fun K hK => ?_⟩
            go_simp
            exact hK _ _ (Below.refl _ _) (fun t ht => by injection ht with ht; subst ht; exact rfl)
          refine Rg.good_cons ?_ ?_
          · intro ac w' cx hn
            have e11 := cx.at_ 11 (by kernel_rfl) rfl
            obtain ⟨v113, e113, r113⟩ := hn 113 (Rg.mem_of (by kernel_rfl))
            obtain rfl : v113 = .bool true := r113
            refine .inl ⟨((Rg.wanted_some (t := 113) rfl (by kernel_rfl) e113).trans rfl), fun K hK => ?_⟩
            go_simp
            exact hK _ _ (Below.refl _ _) (fun t ht => by injection ht with ht; subst ht; exact rfl)
          refine Rg.good_cons ?_ ?_
          · intro ac w' cx hn
            obtain ⟨v114, e114, r114⟩ := hn 114 (Rg.mem_of (by kernel_rfl))
            obtain rfl : v114 = .slice (some ⟨b4, off4, none⟩) (nn + 1) c4 := r114
            obtain ⟨v115, e115, r115⟩ := hn 115 (Rg.mem_of (by kernel_rfl))
            obtain rfl : v115 = .int .i64 (nn : Int) := r115
            obtain ⟨v113, e113, r113⟩ := hn 113 (Rg.mem_of (by kernel_rfl))
            obtain rfl : v113 = .bool true := r113
            refine .inl ⟨((Rg.wanted_some (t := 113) rfl (by kernel_rfl) e113).trans rfl), fun K hK => ?_⟩
            have hii : (nn : Int) < (nn : Int) + 1 := by omega
            go_simp
            exact hK _ _ (Below.refl _ _) (fun t ht => by injection ht with ht; subst ht; exact rfl)
          refine Rg.good_cons ?_ ?_
          · intro ac w' cx hn
            obtain ⟨v116, e116, r116⟩ := hn 116 (Rg.mem_of (by kernel_rfl))
            obtain rfl : v116 = .pointer (some ⟨b4, off4 + nn * 4, none⟩) := r116
            obtain ⟨z0, z1, z2, z3⟩ := HC5.out _ cx.bel
            obtain ⟨v113, e113, r113⟩ := hn 113 (Rg.mem_of (by kernel_rfl))
            obtain rfl : v113 = .bool true := r113
            refine .inl ⟨((Rg.wanted_some (t := 113) rfl (by kernel_rfl) e113).trans rfl), fun K hK => ?_⟩
            go_simp
            exact hK _ _ (Below.refl _ _) (fun t ht => by injection ht with ht; subst ht; exact rfl)
          refine Rg.good_cons ?_ ?_
          · intro ac w' cx hn
            have e3 := cx.at_ 3 (by kernel_rfl) rfl
            obtain ⟨v113, e113, r113⟩ := hn 113 (Rg.mem_of (by kernel_rfl))
            obtain rfl : v113 = .bool true := r113
            refine .inl ⟨((Rg.wanted_some (t := 113) rfl (by kernel_rfl) e113).trans rfl), fun K hK => ?_⟩
            go_simp
            exact hK _ _ (Below.refl _ _) (fun t ht => by injection ht with ht; subst ht; exact rfl)
          refine Rg.good_cons ?_ ?_
          · intro ac w' cx hn
            have e9 := cx.at_ 9 (by kernel_rfl) rfl
            obtain ⟨v113, e113, r113⟩ := hn 113 (Rg.mem_of (by kernel_rfl))
            obtain rfl : v113 = .bool true := r113
            refine .inl ⟨((Rg.wanted_some (t := 113) rfl (by kernel_rfl) e113).trans rfl), fun K hK => ?_⟩
            go_simp
            exact hK _ _ (Below.refl _ _) (fun t ht => by injection ht with ht; subst ht; exact rfl)
          refine Rg.good_cons ?_ ?_
          · intro ac w' cx hn
            have e12 := cx.at_ 12 (by kernel_rfl) rfl
            obtain ⟨v113, e113, r113⟩ := hn 113 (Rg.mem_of (by kernel_rfl))
            obtain rfl : v113 = .bool true := r113
            refine .inl ⟨((Rg.wanted_some (t := 113) rfl (by kernel_rfl) e113).trans rfl), fun K hK => ?_⟩
            go_simp
            exact hK _ _ (Below.refl _ _) (fun t ht => by injection ht with ht; subst ht; exact rfl)
          refine Rg.good_cons ?_ ?_
          · intro ac w' cx hn
            have e12 := cx.at_ 12 (by kernel_rfl) rfl
            obtain ⟨v113, e113, r113⟩ := hn 113 (Rg.mem_of (by kernel_rfl))
            obtain rfl : v113 = .bool true := r113
            refine .inl ⟨((Rg.wanted_some (t := 113) rfl (by kernel_rfl) e113).trans rfl), fun K hK => ?_⟩
            go_simp
            exact hK _ _ (Below.refl _ _) (fun t ht => by injection ht with ht; subst ht; exact rfl)
          refine Rg.good_cons ?_ ?_
          · intro ac w' cx hn
            have e9 := cx.at_ 9 (by kernel_rfl) rfl
            obtain ⟨v113, e113, r113⟩ := hn 113 (Rg.mem_of (by kernel_rfl))
            obtain rfl : v113 = .bool true := r113
            refine .inl ⟨((Rg.wanted_some (t := 113) rfl (by kernel_rfl) e113).trans rfl), fun K hK => ?_⟩
            go_simp
            exact hK _ _ (Below.refl _ _) (fun t ht => by injection ht with ht; subst ht; exact rfl)
          refine Rg.good_cons ?_ ?_
          · intro ac w' cx hn
            obtain ⟨v122, e122, r122⟩ := hn 122 (Rg.mem_of (by kernel_rfl))
            obtain rfl : v122 = .int .i64 k := r122
            obtain ⟨v113, e113, r113⟩ := hn 113 (Rg.mem_of (by kernel_rfl))
            obtain rfl : v113 = .bool true := r113
            refine .inl ⟨((Rg.wanted_some (t := 113) rfl (by kernel_rfl) e113).trans rfl), fun K hK => ?_⟩
            go_simp
            refine (HWD.out w').mono ?_
            rintro e w2 ⟨rfl, rfl⟩
            exact hK _ _ (Below.refl _ _) (fun t ht => by injection ht with ht; subst ht; exact rfl)
          refine Rg.good_cons ?_ ?_
          · intro ac w' cx hn
            obtain ⟨v121, e121, r121⟩ := hn 121 (Rg.mem_of (by kernel_rfl))
            obtain rfl : v121 = .int .i64 z := r121
            obtain ⟨v123, e123, r123⟩ := hn 123 (Rg.mem_of (by kernel_rfl))
            obtain rfl : v123 = .int .i64 dd := r123
            obtain ⟨v113, e113, r113⟩ := hn 113 (Rg.mem_of (by kernel_rfl))
            obtain rfl : v113 = .bool true := r113
            refine .inl ⟨((Rg.wanted_some (t := 113) rfl (by kernel_rfl) e113).trans rfl), fun K hK => ?_⟩
            have hwn : IntKind.i64.wrap (z + dd) = z + dd := by rw [IntWalk.i64_left]; exact hsm
            go_simp
            exact hK _ _ (Below.refl _ _) (fun t ht => by injection ht with ht; subst ht; exact rfl)
          refine Rg.good_cons ?_ ?_
          · intro ac w' cx hn
            obtain ⟨v118, e118, r118⟩ := hn 118 (Rg.mem_of (by kernel_rfl))
            obtain rfl : v118 = .int .i64 seq := r118
            obtain ⟨v119, e119, r119⟩ := hn 119 (Rg.mem_of (by kernel_rfl))
            obtain rfl : v119 = .int .i64 k := r119
            obtain ⟨v120, e120, r120⟩ := hn 120 (Rg.mem_of (by kernel_rfl))
            obtain rfl : v120 = .int .i64 z := r120
            obtain ⟨v124, e124, r124⟩ := hn 124 (Rg.mem_of (by kernel_rfl))
            obtain rfl : v124 = .int .i64 (z + dd) := r124
            obtain ⟨v113, e113, r113⟩ := hn 113 (Rg.mem_of (by kernel_rfl))
            obtain rfl : v113 = .bool true := r113
            refine .inl ⟨((Rg.wanted_some (t := 113) rfl (by kernel_rfl) e113).trans rfl), fun K hK => ?_⟩
            go_simp
            exact hK _ _ (Below.refl _ _) (fun t ht => by injection ht with ht; subst ht; exact rfl)
          refine Rg.good_cons ?_ ?_
          · intro ac w' cx hn
            obtain ⟨v117, e117, r117⟩ := hn 117 (Rg.mem_of (by kernel_rfl))
            obtain rfl : v117 = .agg #[.int .i64 seq, .int .i64 k, .int .i64 z, .int .i64 (z + dd)] := r117
            obtain ⟨v125, e125, r125⟩ := hn 125 (Rg.mem_of (by kernel_rfl))
            obtain rfl : v125 = .agg #[.int .i64 seq, .int .i64 k, .int .i64 z, .int .i64 (z + dd)] := r125
            obtain ⟨v113, e113, r113⟩ := hn 113 (Rg.mem_of (by kernel_rfl))
            obtain rfl : v113 = .bool true := r113
            refine .inl ⟨((Rg.wanted_some (t := 113) rfl (by kernel_rfl) e113).trans rfl), fun K hK => ?_⟩
            go_simp
            exact hK _ _ (Below.refl _ _) (fun t ht => by injection ht with ht; subst ht; exact rfl)
          refine Rg.good_cons ?_ ?_
          · intro ac w' cx hn
            obtain ⟨v113, e113, r113⟩ := hn 113 (Rg.mem_of (by kernel_rfl))
            obtain rfl : v113 = .bool true := r113
            obtain ⟨v126, e126, r126⟩ := hn 126 (Rg.mem_of (by kernel_rfl))
            obtain rfl : v126 = .bool true := r126
            refine .inl ⟨(Rg.wanted_none rfl), fun K hK => ?_⟩
            go_simp
            exact hK _ _ (Below.refl _ _) (fun t ht => by injection ht with ht; subst ht; exact rfl)
          refine Rg.good_cons ?_ ?_
          · intro ac w' cx hn
            obtain ⟨v127, e127, r127⟩ := hn 127 (Rg.mem_of (by kernel_rfl))
            obtain rfl : v127 = .bool true := r127
            refine .inl ⟨(Rg.wanted_none rfl), fun K hK => ?_⟩
            go_simp
            exact hK _ _ (Below.refl _ _) (fun t ht => by injection ht with ht; subst ht; exact rfl)
          exact Rg.good_nil
        case done =>
          intro u w6 hb6 hr
          have q8 : u 8 = .bool true := hr 8 (by simp)
          simp only [Rg.fillL_cons, Rg.fillL_nil, if_true, if_false, Bool.false_eq_true, q8]
          have HB6 := Lib.hid (HBR.out.trans (hb6.mono HBR.out.size))
          clear hr hb6
          go_wp2_with fail
          go_ret
          exact ⟨rfl, HB6.out⟩
theorem not_le {n : Nat} {z : Int} (h : ¬ (n : Int) ≤ z) : z < (n : Int) := by omega
set_option maxRecDepth 100000 in
theorem does_long (A B : Option Addr) (n c m d : Nat) (l : List It) (S : List Int) (u seq : Int) (w : World) (hn : n = l.length) (h : Cl w A (fC rfA l)) (hnm : n ≤ 9223372036854775807) (hmm : m ≤ 9223372036854775807) (hc : 60 < n ∨ (n ≤ 60 ∧ 60 < m) ∨ (n ≤ 60 ∧ m ≤ 60 ∧ ¬ RightL l)) :
    Calls Try.prog 6 #[.slice A n c, .slice B m d, .int .u8 u, .int .i64 seq] w fun e w' => e = .returned (.bool true) ∧ Below w.heap.size w w' := by
  rcases hc with h1 | ⟨h1, h2⟩ | ⟨h1, h2, h3⟩
  · have hn60 : (60 : Int) < (n : Int) := by omega
    clear hn h h1
    go_enter Try.func6, Try.ntmps6
    go_wp2_with (go_at_call 14; refine (awake_any _).mono ?_; rintro e w5 ⟨rfl, hb5⟩; have HB5 := Lib.hid hb5; clear hb5)
    go_ret
    exact ⟨rfl, HB5.out⟩
  · have hn60 : ¬ (60 : Int) < (n : Int) := by omega
    have hm60 : (60 : Int) < (m : Int) := by omega
    clear hn h h1 h2
    go_enter Try.func6, Try.ntmps6
    go_wp2_with (go_at_call 14; refine (awake_any _).mono ?_; rintro e w5 ⟨rfl, hb5⟩; have HB5 := Lib.hid hb5; clear hb5)
    go_ret
    exact ⟨rfl, HB5.out⟩
  · have hn60 : ¬ (60 : Int) < (n : Int) := by omega
    have hm60 : ¬ (60 : Int) < (m : Int) := by omega
    have HRT := Lib.hid (rnot_any A n c l w hn h (by omega) false (rightB_false h3))
    clear hn h h1 h2 h3
    go_enter Try.func6, Try.ntmps6
    go_wp2_with (first
      | (go_at_call 13; refine HRT.out.mono ?_; rintro e w1 ⟨rfl, hb1⟩; have HB1 := Lib.hid hb1; clear hb1)
      | (go_at_call 14; refine (awake_any _).mono ?_; rintro e w5 ⟨rfl, hb5⟩; have HB5 := Lib.hid (HB1.out.trans (hb5.mono HB1.out.size)); clear hb5))
    go_ret
    exact ⟨rfl, HB5.out⟩
theorem does_walk (A B : Option Addr) (n c m d : Nat) (l : List It) (S : List Int) (u seq : Int) (w : World) (hn : n = l.length) (h : Cl w A (fC rfA l)) (hnm : l.length ≤ 9223372036854775807) (hm : S.length = m) (hB : Cl w B (intsC .i64 S)) (hmm : m ≤ 9223372036854775807) (hu : 0 ≤ u ∧ u < 256) :
    Calls Try.prog 6 #[.slice A n c, .slice B m d, .int .u8 u, .int .i64 seq] w fun e w' => e = .returned (.bool true) ∧ Below w.heap.size w w' := by
  by_cases h1 : n ≤ 60
  · by_cases h2 : m ≤ 60
    · by_cases h3 : RightL l
      · exact does_main A B n c m d l S u seq w hn h (by omega) hm.symm hB (by omega) hu h3
      · exact does_long A B n c m d l S u seq w hn h (by omega) hmm (.inr (.inr ⟨h1, h2, h3⟩))
    · exact does_long A B n c m d l S u seq w hn h (by omega) hmm (.inr (.inl ⟨h1, by omega⟩))
  · exact does_long A B n c m d l S u seq w hn h (by omega) hmm (.inl (by omega))
end Go.Proofs.Ytpfceebmiolpeaa.Pl
