/- The law SpanGaps' walk. -/
import Derived.Test.YtnbjgeamdipkcaaSpG
import Derived.Test.YtnbjgeamdipkcaaSpV
namespace Go.Proofs.Ytnbjgeamdipkcaa
open Go.RowKit Go.Sort
set_option linter.unusedVariables false

theorem runs_count (l : List Int) (x : Int) : (runsL (l ++ [x])).length = (runsL l).length + (if l = [] ∨ x ≠ endL l then 1 else 0) := by
  rw [runsL_snoc]
  by_cases hl : l = []
  · subst hl; rfl
  · by_cases hx : x = endL l
    · rw [if_neg (by simp [hl, hx])]
      obtain ⟨r, p, hr⟩ := split_last (runsL_ne hl)
      rw [hr, hx, addIx_more]; simp
    · rw [if_pos (.inr hx), addIx_new _ _ _ (runsL_ne hl) hx]; simp
def addB (b : Int) (l : List Int) : List Int := l.map (· + b)
theorem addB_runs (b : Int) (l : List Int) : runsL (addB b l) = runsL l ∧ (l ≠ [] → endL (addB b l) = endL l + b) := by
  refine snoc_ind (P := fun l => runsL (addB b l) = runsL l ∧ (l ≠ [] → endL (addB b l) = endL l + b)) ⟨rfl, fun h => absurd rfl h⟩ (fun l x ih => ?_) l
  obtain ⟨h1, h2⟩ := ih
  have e : addB b (l ++ [x]) = addB b l ++ [x + b] := by simp [addB]
  rw [e, runsL_snoc, runsL_snoc, endL_snoc, endL_snoc, h1]
  refine ⟨?_, fun _ => by omega⟩
  by_cases hl : l = []
  · subst hl; rfl
  · rw [h2 hl]
    obtain ⟨r, p, hr⟩ := split_last (runsL_ne hl)
    by_cases hx : x = endL l
    · rw [hx, hr, addIx_more, addIx_more]
    · rw [addIx_new _ _ _ (runsL_ne hl) hx, addIx_new _ _ _ (runsL_ne hl) (by omega)]
      congr 3
      omega
theorem addB_fst (b : Int) {l : List Int} (h : l ≠ []) : fstL (addB b l) = fstL l + b := by
  cases l with
  | nil => exact absurd rfl h
  | cons a r => rfl
theorem addB_asc (b : Int) {l : List Int} (h : Asc l) : Asc (addB b l) := by
  unfold Asc addB at *
  rw [List.pairwise_map]
  exact h.imp (fun h => by omega)
def movL (b : Int) (l : List Int) : List (Int × Int) := l.map fun x => (x + b, 0)
theorem movL_ids (b : Int) (l : List Int) : idsL (movL b l) = addB b l := by simp [idsL, movL, addB]
theorem movL_snoc (b : Int) (l : List Int) (x : Int) : movL b (l ++ [x]) = movL b l ++ [(x + b, 0)] := by simp [movL]
theorem indices_at (A : Option Addr) (n c m : Nat) (f : Int) (l : List Int) (w : World) (hn : n = l.length) (hf : f = fstL l) (hm : m = (runsL l).length) (hS : Ly w A l) (ha : Asc l) (hi : Inb l) (hl : l.length ≤ 10000) :
    Calls Try.prog 10 #[.agg #[.int .i64 f, .slice A m c]] w fun e w' => ∃ A c, e = .returned (.slice A n c) ∧ Cl w' A (intsC .i64 l) ∧ Below w.heap.size w w' := by
  subst hn hf hm
  refine (indices_any A c l w hS ha hi hl).mono ?_
  rintro e w' ⟨A', c', rfl, ho, hb⟩
  exact ⟨A', c', rfl, own_cl ho, hb⟩
theorem of_at (A : Option Addr) (n c : Nat) (l : List (Int × Int)) (ids : List Int) (w : World) (hn : n = l.length) (hid : idsL l = ids) (hS : Cl w A (twoC .u64 l)) (ha : Asc ids) (hi : Inb ids) (hl : l.length ≤ 10000) :
    Calls Try.prog 8 #[.slice A n c] w (RunsPost w ids) := by
  subst hn hid
  exact of_any A c l w hS ha hi hl
def GaRel (b : Int) (ids : List Int) (w3 : World) (v11 v12 i : Value) (wr : World) : Prop :=
  ∃ (k : Nat) (A : Option Addr) (c : Nat), k ≤ ids.length ∧ i = .int .i64 k ∧ v11 = .int .i64 ((runsL (ids.take k)).length : Int) ∧ v12 = .slice A k c ∧ wr.ownsRow w3.heap.size 41 2 (.slice A k c) k (twoC .u64 (movL b (ids.take k))) ∧ Below w3.heap.size w3 wr
def GbRel (n : Nat) (w5 : World) (i : Value) (wr : World) : Prop := ∃ (k : Nat), k ≤ n ∧ i = .int .i64 k ∧ ∃ q, wr = w5.drewN q
set_option maxHeartbeats 2000000 in
set_option maxRecDepth 100000 in
theorem gaps_main (A : Option Addr) (c : Nat) (l : List Int) (f b : Int) (w : World) (hS : Cl w A (intsC .u8 l)) (hb : ∀ x ∈ l, 0 ≤ x ∧ x ≤ 255) (hl : l.length ≤ 200) (f0 : -32768 ≤ f) (f1 : f ≤ 32767) (b0 : -32768 ≤ b) (b1 : b ≤ 32767) :
    Calls Try.prog 5 #[.slice A l.length c, .int .i16 f, .int .i16 b] w fun e w' => e = .returned (.bool true) ∧ Below w.heap.size w w' := by
  obtain ⟨hasc, hinb0⟩ := risB_fine (f := f) (cs := []) (fun x hx => (hb x hx).1) hl (by omega) (by omega)
  obtain ⟨_, hbd, hbd2, hbd3⟩ := risB_rise f [] l (fun x hx => (hb x hx).1)
  have hlen : (idsL (risB f l [])).length = l.length := by simp [idsL, risB_length]
  have hxl := risB_length f l []
  obtain ⟨X, hX⟩ : ∃ X, risB f l [] = X := ⟨_, rfl⟩
  have HR := Lib.hid (rising_any A none c 0 f l [] w hS (Cl.nil _ _) hb hl (by simp) f0 f1)
  rw [hX] at HR hasc hinb0 hbd hlen hxl
  obtain ⟨ids, hids⟩ : ∃ ids, idsL X = ids := ⟨_, rfl⟩
  rw [hids] at hasc hinb0 hbd hlen
  have HIB := Lib.hid (fun x (hx : x ∈ ids) => show -32768 < x ∧ x ≤ 34200 from by have := hbd x hx; omega)
  have HAS := Lib.hid (And.intro hasc hinb0)
  have HLEN := Lib.hid hlen
  have HID := Lib.hid hids
  have HXL := Lib.hid hxl
  have HAB := Lib.hid (addB_runs b ids)
  have HAI := Lib.hid (show Inb (addB b ids) from fun y hy => by
    obtain ⟨x, hx, rfl⟩ := List.mem_map.1 hy
    have := hbd x hx
    omega)
  have HAC := Lib.hid (addB_asc b hasc)
  clear hX hids hasc hinb0 hbd hbd2 hbd3 hlen hxl hS hb
  go_enter Try.func5, Try.ntmps5
  go_wp2_with fail
  refine HR.out.mono ?_
  rintro e w1 ⟨A1, c1, B1, d1, rfl, _, _, hx1, _, hb1⟩
  rw [HXL.out]
  have HX1 := Lib.hid hx1
  have HB1 := Lib.hid hb1
  clear hx1 hb1
  go_wp2_with fail
  refine (of_at A1 l.length c1 X ids w1 HXL.out.symm HID.out HX1.out HAS.out.1 HAS.out.2 (by rw [HXL.out]; omega)).mono ?_
  rintro e w2 ⟨A2, c2, rfl, hly, _, hb2⟩
  obtain ⟨F, hF⟩ : ∃ F, fstL ids = F := ⟨_, rfl⟩
  obtain ⟨M, hM⟩ : ∃ M, (runsL ids).length = M := ⟨_, rfl⟩
  rw [hF, hM]
  have HF := Lib.hid hF
  have HM := Lib.hid hM
  have HL2 := Lib.hid hly
  have HB2 := Lib.hid (HB1.out.trans (hb2.mono HB1.out.size))
  clear hly hb2 hF hM
  obtain ⟨w3, hw3⟩ : ∃ W, w2.alloc (.cells #[.int .i64 F, .slice A2 M c2] 33) = W := ⟨_, rfl⟩
  obtain ⟨g9, hg9⟩ : ∃ g, w2.heap.size = g := ⟨_, rfl⟩
  have HB3 := Lib.hid (show Below w.heap.size w w3 by rw [← hw3]; exact HB2.out.alloc HB2.out.size _)
  have HBX := Lib.hid (box2b (show w3.heap[g9]? = some (.cells #[.int .i64 F, .slice A2 M c2] 33 (0, 0)) by rw [← hw3, ← hg9]; exact heap_alloc_new w2 _))
  have HL3 := Lib.hid (show Ly w3 A2 ids by rw [← hw3]; exact HL2.out.below ((Below.refl _ _).alloc (Nat.le_refl _) _))
  have hWW := Lib.hid hw3
  have hGG := Lib.hid hg9
  clear hw3 hg9
  have HCI := Lib.hid (indices_at A2 l.length c2 M F ids w3 HLEN.out.symm HF.out.symm HM.out.symm HL3.out HAS.out.1 HAS.out.2 (by rw [HLEN.out]; omega))
  go_wp2_with fail
  rw [hWW.out, hGG.out]
  refine HCI.out.mono ?_
  rintro e w4 ⟨A4, c4, rfl, hx4, hb4⟩
  have HX4 := Lib.hid hx4
  have HB4 := Lib.hid hb4
  have HF4 := Lib.hid (HB3.out.trans (hb4.mono HB3.out.size))
  clear hx4 hb4 HCI
  go_wp2_with fail
  go_loopw [11, 12, 33] (fun v11 v12 i wr => GaRel b ids w4 v11 v12 i wr) (fun _ _ i _ => l.length - (intOf i).toNat)
  case atStart => exact ⟨0, none, 0, by omega, rfl, rfl, rfl, World.ownsRow_nil _ _ _ _, Below.refl _ _⟩
  case round =>
    obtain ⟨k, A5, c5, hk, rfl, rfl, rfl, ho, hb⟩ := hrel
    have HO := Lib.hid ho
    have HB := Lib.hid hb
    by_cases hlt : k < l.length
    · obtain ⟨x, hx⟩ := getElem?_lt (l := ids) (k := k) (by rw [HLEN.out]; exact hlt)
      obtain ⟨bb, off, rfl, hc⟩ := (HX4.out.below hb).ints (by rw [HLEN.out]; omega)
      have hxc := hc k x hx
      obtain ⟨xb1, xb2⟩ := HIB.out x (mem_of_at hx)
      have HTK := Lib.hid (take_snoc ids k x hx)
      have HMV := Lib.hid (show movL b (ids.take (k + 1)) = movL b (ids.take k) ++ [(x + b, 0)] by rw [HTK.out, movL_snoc])
      have hki : (k : Int) < (l.length : Int) := by omega
      have hk6 : k + 1 ≤ 1000000 := by omega
      have hsz := hb.size
      have HCN := Lib.hid (show (runsL (ids.take (k + 1))).length = (runsL (ids.take k)).length + (if ids.take k = [] ∨ x ≠ endL (ids.take k) then 1 else 0) by rw [HTK.out, runs_count])
      have hrl := runsL_le (ids.take k)
      have hrk := List.length_take_le k ids
      obtain ⟨R, hR⟩ : ∃ R, (runsL (ids.take k)).length = R := ⟨_, rfl⟩
      rw [hR] at HCN hrl ⊢
      have hr9 : R ≤ 1000 := by omega
      clear ho hb hR hrl hrk
      by_cases h0 : k = 0
      · have h0' : ((k : Int) == 0) = true := by simp; exact h0
        have HN1 := Lib.hid (show (runsL (ids.take (k + 1))).length = R + 1 by rw [HCN.out, if_pos (.inl (by rw [h0]; rfl))])
        clear hc hx h0
        go_wp2_with (at_builtin; refine app_bkt rfl _ _ rfl w4.heap.size _ _ _ _ rfl (HO.out.alloc _) _ rfl (x + b, 0) (new_two _ _ _ _).1 (new_two _ _ _ _).2 hk6 ?d1 ?_)
        case d1 => (first | omega | (simp; omega))
        intro A6 c6 w6 ho6 hg6
        have HNX := Lib.hid (show GaRel b ids w4 (.int .i64 ((R : Int) + 1)) (.slice A6 (k + 1) c6) (.int .i64 ((k + 1 : Nat) : Int)) w6 from
          ⟨k + 1, A6, c6, by rw [HLEN.out]; omega, rfl, by rw [HN1.out]; go_num, rfl, by rw [HMV.out]; exact ho6, below_app HB.out hsz HO.out (Nat.le_refl _) hg6⟩)
        clear ho6 hg6
        go_wp2_with fail
        go_roundw
        case rel => exact HNX.out
        case measure => simp [intOf]; omega
      · obtain ⟨k', rfl⟩ : ∃ k', k = k' + 1 := ⟨k - 1, by omega⟩
        obtain ⟨y, hy⟩ := getElem?_lt (l := ids) (k := k') (by rw [HLEN.out]; omega)
        have hyc := hc k' y hy
        have hyb := HIB.out y (mem_of_at hy)
        have HEN := Lib.hid (show endL (ids.take (k' + 1)) = y + 1 by rw [take_snoc ids k' y hy, endL_snoc])
        have hne : ids.take (k' + 1) ≠ [] := fun e => by
          have := congrArg List.length e
          rw [List.length_take, HLEN.out] at this
          simp only [List.length_nil] at this
          omega
        have h0' : (((k' + 1 : Nat) : Int) == 0) = false := by simp; omega
        obtain ⟨yb1, yb2⟩ := hyb
        by_cases hxy : x = y + 1
        · have hxy' : ((y + 1 : Int) != x) = false := by simp [hxy]
          have HN1 := Lib.hid (show (runsL (ids.take (k' + 1 + 1))).length = R by rw [HCN.out, if_neg (by rw [HEN.out]; simp [hne, hxy])]; rfl)
          clear hc hx hy h0 hxy hne
          go_wp2_with (at_builtin; refine app_bkt rfl _ _ rfl w4.heap.size _ _ _ _ rfl (HO.out.alloc _) _ rfl (x + b, 0) (new_two _ _ _ _).1 (new_two _ _ _ _).2 hk6 ?d1 ?_)
          case d1 => (first | omega | (simp; omega))
          intro A6 c6 w6 ho6 hg6
          have HNX := Lib.hid (show GaRel b ids w4 (.int .i64 (R : Int)) (.slice A6 (k' + 1 + 1) c6) (.int .i64 ((k' + 1 + 1 : Nat) : Int)) w6 from
            ⟨k' + 1 + 1, A6, c6, by rw [HLEN.out]; omega, rfl, by rw [HN1.out], rfl, by rw [HMV.out]; exact ho6, below_app HB.out hsz HO.out (Nat.le_refl _) hg6⟩)
          clear ho6 hg6
          go_wp2_with fail
          go_roundw
          case rel => exact HNX.out
          case measure => simp [intOf]; omega
        · have hxy' : ((y + 1 : Int) != x) = true := bne_iff_ne.2 (fun e => hxy e.symm)
          have HN1 := Lib.hid (show (runsL (ids.take (k' + 1 + 1))).length = R + 1 by rw [HCN.out, if_pos (.inr (by rw [HEN.out]; exact hxy))])
          clear hc hx hy h0 hxy hne
          go_wp2_with (at_builtin; refine app_bkt rfl _ _ rfl w4.heap.size _ _ _ _ rfl (HO.out.alloc _) _ rfl (x + b, 0) (new_two _ _ _ _).1 (new_two _ _ _ _).2 hk6 ?d1 ?_)
          case d1 => (first | omega | (simp; omega))
          intro A6 c6 w6 ho6 hg6
          have HNX := Lib.hid (show GaRel b ids w4 (.int .i64 ((R : Int) + 1)) (.slice A6 (k' + 1 + 1) c6) (.int .i64 ((k' + 1 + 1 : Nat) : Int)) w6 from
            ⟨k' + 1 + 1, A6, c6, by rw [HLEN.out]; omega, rfl, by rw [HN1.out]; go_num, rfl, by rw [HMV.out]; exact ho6, below_app HB.out hsz HO.out (Nat.le_refl _) hg6⟩)
          clear ho6 hg6
          go_wp2_with fail
          go_roundw
          case rel => exact HNX.out
          case measure => simp [intOf]; omega
    · obtain rfl : k = l.length := by have := HLEN.out; omega
      have hki : ¬ ((l.length : Int) < (l.length : Int)) := by omega
      have hall : ids.take l.length = ids := List.take_of_length_le (by rw [HLEN.out]; exact Nat.le_refl _)
      rw [hall] at HO ⊢
      have hcl := own_cl HO.out
      have HCL := Lib.hid hcl
      rw [HM.out]
      have hsz := hb.size
      clear ho hb hall hcl
      go_wp2_with fail
      refine (of_at A5 l.length c5 (movL b ids) (addB b ids) wr (by simp [movL, HLEN.out]) (movL_ids _ _) HCL.out HAC.out HAI.out (by simp [movL, HLEN.out]; omega)).mono ?_
      rintro e w5 ⟨A6, c6, rfl, hly, _, hb5⟩
      unfold Ly at hly
      rw [HAB.out.1] at hly ⊢
      rw [HM.out]
      obtain ⟨G, hG⟩ : ∃ G, fstL (addB b ids) = G := ⟨_, rfl⟩
      rw [hG]
      have HG := Lib.hid hG
      obtain ⟨s, hs⟩ : ∃ s, runsL ids = s := ⟨_, rfl⟩
      have HB5 := Lib.hid (HB.out.trans (hb5.mono HB.out.size))
      have HQ := Lib.hid hly
      rw [hs] at HQ
      have HMs := Lib.hid (show s.length = M by rw [← hs]; exact HM.out)
      have hM9 : M ≤ 1000 := by have := HM.out; have := runsL_le ids; have := HLEN.out; omega
      have HPs := Lib.hid (show Cl w3 A2 (twoC .i64 s) by rw [← hs]; exact HL3.out)
      obtain ⟨w6, hw6⟩ : ∃ W, w5.alloc (.cells #[.int .i64 G, .slice A6 M c6] 33) = W := ⟨_, rfl⟩
      obtain ⟨g6, hg6⟩ : ∃ g, w5.heap.size = g := ⟨_, rfl⟩
      have HB6 := Lib.hid (show Below w3.heap.size w3 w6 from by rw [← hw6]; exact (HB4.out.trans (HB5.out.mono HB4.out.size)).alloc (Nat.le_trans HB4.out.size HB5.out.size) _)
      have hbx6 : w6.heap[g6]? = some (.cells #[.int .i64 G, .slice A6 M c6] 33 (0, 0)) := by rw [← hw6, ← hg6]; exact heap_alloc_new w5 _
      have HBY := Lib.hid (box2b hbx6)
      have HQ6 := Lib.hid (show Cl w6 A6 (twoC .i64 s) by rw [← hw6]; exact HQ.out.below ((Below.refl _ _).alloc (Nat.le_refl _) _))
      have HP6 := Lib.hid (HPs.out.below HB6.out)
      have hWW6 := Lib.hid hw6
      have hGG6 := Lib.hid hg6
      obtain ⟨x0, x1⟩ := HBX.out w6 HB6.out
      obtain ⟨y0, y1⟩ := HBY.out w6 (Below.refl _ _)
      obtain ⟨q0, q1⟩ := HBX.out w5 (HB4.out.trans (HB5.out.mono HB4.out.size))
      have hgl : g9 < w5.heap.size := block_lt_of_cell q0
      clear hly hb5 hG hs hw6 hg6 hbx6
      have hgd := guardS
      go_wp2_with fail
      rw [hWW6.out, hGG6.out]
      clear q0 q1 hgl
      go_loopw [85] (fun i wr => GbRel M w6 i wr) (fun i _ => M - (intOf i).toNat)
      case atStart => exact ⟨0, by omega, rfl, 0, rfl⟩
      case round =>
        obtain ⟨k, hk, rfl, nd, rfl⟩ := hrel
        by_cases hlt : k < M
        · obtain ⟨b1', o1, rfl, h1⟩ := HP6.out.twos (by rw [HMs.out]; omega)
          obtain ⟨b2', o2, rfl, h2⟩ := HQ6.out.twos (by rw [HMs.out]; omega)
          obtain ⟨p, hp⟩ := getElem?_lt (l := s) (k := k) (by rw [HMs.out]; exact hlt)
          obtain ⟨p1, p2⟩ := h1 k p hp
          obtain ⟨r1, r2⟩ := h2 k p hp
          obtain ⟨pi, pc⟩ := p
          simp only at p1 p2 r1 r2
          have hne := neqS pi pc pi pc
          simp only [beq_self_eq_true, Bool.and_self, Bool.not_true] at hne
          have hki2 : (k : Int) < (M : Int) := by omega
          clear h1 h2 hp
          go_wp2_with fail
          go_quiet (fail)
          go_wp2_with fail
          go_roundw
          case rel => exact ⟨k + 1, by omega, by go_num, _, rfl⟩
          case measure => simp [intOf]; omega
        · obtain rfl : k = M := by omega
          have hki2 : ¬ ((k : Int) < (k : Int)) := by omega
          go_wp2_with fail
          refine (awake06 _).mono ?_
          rintro e w7 ⟨rfl, hb7⟩
          have hb67 : Below w6.heap.size w6 w7 := (below_drewN (Below.refl _ _) nd).trans (hb7.mono (Nat.le_refl _))
          obtain ⟨z0, z1⟩ := HBX.out w7 (HB6.out.trans (hb67.mono HB6.out.size))
          obtain ⟨v0, v1⟩ := HBY.out w7 hb67
          have HEND := Lib.hid (HB3.out.trans ((HB6.out.trans (hb67.mono HB6.out.size)).mono HB3.out.size))
          clear x0 x1 y0 y1 hb7 hb67
          by_cases hz : l.length = 0
          · have hz' : ((l.length : Int) == 0) = true := by simp; exact List.eq_nil_of_length_eq_zero hz
            clear hz
            go_wp2_with fail
            go_ret
            exact ⟨rfl, HEND.out⟩
          · have hz' : ((l.length : Int) == 0) = false := by simp; exact fun e => hz (by rw [e]; rfl)
            have hfb : G = F + b := by
              rw [← HG.out, ← HF.out]
              exact addB_fst b (fun e => hz (by rw [← HLEN.out, e]; rfl))
            have hFb : -32768 < F ∧ F ≤ 34200 := by
              refine HIB.out F ?_
              rw [← HF.out]
              cases hi : ids with
              | nil => exact absurd (by rw [← HLEN.out, hi]; rfl) hz
              | cons a r => simp [fstL]
            obtain ⟨hF1, hF2⟩ := hFb
            subst hfb
            clear hz
            go_wp2_with fail
            go_ret
            exact ⟨rfl, HEND.out⟩
theorem gaps_long (A : Option Addr) (n c : Nat) (f b : Int) (w : World) (hl : 200 < n) (hn : n ≤ 9223372036854775807) :
    Calls Try.prog 5 #[.slice A n c, .int .i16 f, .int .i16 b] w fun e w' => e = .returned (.bool true) ∧ Below w.heap.size w w' := by
  have hli : (200 : Int) < (n : Int) := by omega
  go_enter Try.func5, Try.ntmps5
  go_wp2_with fail
  refine (awake06 _).mono ?_
  rintro e w7 ⟨rfl, hb7⟩
  have HB := Lib.hid hb7
  clear hb7
  go_wp2_with fail
  go_ret
  exact ⟨rfl, HB.out⟩
end Go.Proofs.Ytnbjgeamdipkcaa
