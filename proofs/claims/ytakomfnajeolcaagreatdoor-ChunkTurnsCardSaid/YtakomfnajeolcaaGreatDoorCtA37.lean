import Derived.Test.YtakomfnajeolcaaGreatDoorCtA36
set_option linter.unusedVariables false
/- The document's side of a histogram; all indices of a side of samples, plainly. -/
namespace Go.Proofs.YtakomfnajeolcaaGreatDoor.Ch
open Go.RowKit Go.Sort Go.Proofs.YtakomfnajeolcaaGreatDoor.En
set_option linter.unusedVariables false

set_option maxRecDepth 100000 in
theorem side_any (h : HV) (A B : Option Addr) (c d : Nat) (k : Int) (w : World) (hk : k = 0 ∨ k = 1) :
    Calls Tryz.prog 68 #[hvA h A B c d, .int .i64 k] w fun e w' => e = .returned (if k = 0 then .slice A h.P.length c else .slice B h.Q.length d) ∧ Below w.heap.size w w' := by
  unfold hvA
  have x1 := heap_alloc_new w (.cells (hvC h A B c d) 39)
  have hb : Below w.heap.size w (w.alloc (.cells (hvC h A B c d) 39)) := (Below.refl _ _).alloc (Nat.le_refl _) _
  have p6 := bx x1 6 _ rfl
  have p7 := bx x1 7 _ rfl
  have HB := Lib.hid hb
  clear x1 hb
  unfold hvC at p6 p7 HB
  go_enter Tryz.func68, Tryz.ntmps68
  rcases hk with rfl | rfl
  · go_wp2_with fail
    go_ret
    exact ⟨rfl, HB.out⟩
  · go_wp2_with fail
    go_ret
    exact ⟨rfl, HB.out⟩
theorem mem_ids {l : List (Int × Int)} {z : Int} : z ∈ Tk.idsL l ↔ ∃ p ∈ l, p.1 = z := by
  unfold Tk.idsL
  exact List.mem_map
theorem xs_fold (f : SV → List Int) : ∀ (l : List SV) (a : List Int), Tk.Asc a → Tk.Asc (l.foldl (fun a s => Tk.uni a (f s)) a) ∧ ∀ z, z ∈ l.foldl (fun a s => Tk.uni a (f s)) a ↔ z ∈ a ∨ ∃ s ∈ l, z ∈ f s
  | [], a, h => ⟨h, fun z => by simp⟩
  | s :: r, a, h => by
    obtain ⟨h1, h2⟩ := xs_fold f r (Tk.uni a (f s)) (Tk.uni_uni a (f s)).1
    refine ⟨h1, fun z => (h2 z).trans ?_⟩
    rw [(Tk.uni_uni a (f s)).2.1 z]
    constructor
    · rintro ((h | h) | ⟨x, hx, hz⟩)
      · exact .inl h
      · exact .inr ⟨s, List.mem_cons_self .., h⟩
      · exact .inr ⟨x, List.mem_cons_of_mem _ hx, hz⟩
    · rintro (h | ⟨x, hx, hz⟩)
      · exact .inl (.inl h)
      · rcases List.mem_cons.1 hx with rfl | hx
        · exact .inl (.inr hz)
        · exact .inr ⟨x, hx, hz⟩
theorem at_mem {l : List (Int × Int)} (h : ∀ p ∈ l, p.2 = 1) (z : Int) : 0 ≤ atI l z ∧ (z ∈ Tk.idsL l → 0 < atI l z) := by
  induction l with
  | nil => exact ⟨by simp [atI], fun h => by cases h⟩
  | cons p r ih =>
    obtain ⟨i1, i2⟩ := ih (fun q hq => h q (List.mem_cons_of_mem _ hq))
    have hp := h p (List.mem_cons_self ..)
    have e : atI (p :: r) z = (if p.1 = z then p.2 else 0) + atI r z := by first | rfl | simp [atI]
    rw [e]
    by_cases hz : p.1 = z
    · rw [if_pos hz, hp]
      exact ⟨by omega, fun _ => by omega⟩
    · rw [if_neg hz]
      refine ⟨by omega, fun hm => ?_⟩
      have : z ∈ Tk.idsL r := by
        obtain ⟨q, hq, hqz⟩ := mem_ids.1 hm
        rcases List.mem_cons.1 hq with rfl | hq
        · exact absurd hqz hz
        · exact mem_ids.2 ⟨q, hq, hqz⟩
      have := i2 this
      omega
end Go.Proofs.YtakomfnajeolcaaGreatDoor.Ch


/- The contract of the law's own Rising: buckets of rising indices, out of any bytes. -/
namespace Go.Proofs.YtakomfnajeolcaaGreatDoor.Tk
open Go.RowKit Go.Sort
set_option linter.unusedVariables false

theorem own_cap {w : World} {base : Nat} {e : TypeId} {size n c : Nat} {A : Option Addr} {xs : List Value} (h : w.ownsRow base e size (.slice A n c) n xs) : n ≤ c ∧ c ≤ 9223372036854775807 := by
  rcases h.2 with ⟨hv, h0⟩ | ⟨g, cap, cur, hv, _, _, h1, h2, _⟩
  · injection hv with e1 e2 e3
    omega
  · injection hv with e1 e2 e3
    unfold maxLen at h2
    omega
end Go.Proofs.YtakomfnajeolcaaGreatDoor.Tk


/- The law SpanGaps' walk. -/
namespace Go.Proofs.YtakomfnajeolcaaGreatDoor.Tk
open Go.RowKit Go.Sort
set_option linter.unusedVariables false

theorem indices_at (A : Option Addr) (n c m : Nat) (f : Int) (l : List Int) (w : World) (hn : n = l.length) (hf : f = fstL l) (hm : m = (runsL l).length) (hS : Ly w A l) (ha : Asc l) (hi : Inw l) (hl : l.length ≤ 10000) :
    Calls Tryz.prog 91 #[.agg #[.int .i64 f, .slice A m c]] w fun e w' => ∃ A c, e = .returned (.slice A n c) ∧ Cl w' A (intsC .i64 l) ∧ Below w.heap.size w w' := by
  subst hn hf hm
  refine (indices_any A c l w hS ha hi hl).mono ?_
  rintro e w' ⟨A', c', rfl, ho, hb⟩
  exact ⟨A', c', rfl, own_cl ho, hb⟩
end Go.Proofs.YtakomfnajeolcaaGreatDoor.Tk


/- The contract of Counts. -/
namespace Go.Proofs.YtakomfnajeolcaaGreatDoor.Tk
open Go.RowKit Go.Sort
set_option linter.unusedVariables false

/-- what is left of buckets from an index on -/
def dropW (x : Int) : List (Int × Int) → List (Int × Int)
  | [] => []
  | p :: r => if p.1 < x then dropW x r else p :: r
def headC (x : Int) : List (Int × Int) → Int
  | [] => 0
  | p :: _ => if p.1 = x then p.2 else 0
/-- of each index what the bucket has -/
def cntF : List Int → List (Int × Int) → List Int
  | [], _ => []
  | x :: r, l => headC x (dropW x l) :: cntF r (dropW x l)
theorem cntF_length (ids : List Int) (l : List (Int × Int)) : (cntF ids l).length = ids.length := by
  induction ids generalizing l with
  | nil => rfl
  | cons x r ih => simp [cntF, ih]
theorem drop_at {α : Type} {l : List α} {k : Nat} {x : α} (h : l[k]? = some x) : l.drop k = x :: l.drop (k + 1) := by
  obtain ⟨hk, rfl⟩ := List.getElem?_eq_some_iff.1 h
  exact List.drop_eq_getElem_cons hk
theorem cntF_step {ids : List Int} {F : List Int} {l : List (Int × Int)} {k : Nat} {x : Int} (hx : ids[k]? = some x) (h : cntF (ids.drop k) l = F.drop k) : F.take (k + 1) = F.take k ++ [headC x (dropW x l)] ∧ cntF (ids.drop (k + 1)) (dropW x l) = F.drop (k + 1) := by
  rw [drop_at hx] at h
  have hk : k < F.length := by
    have := congrArg List.length h
    simp [cntF] at this
    omega
  have e := drop_at (List.getElem?_eq_getElem hk)
  rw [e] at h
  simp only [cntF, List.cons.injEq] at h
  exact ⟨by rw [take_snoc F k _ (List.getElem?_eq_getElem hk), h.1], h.2⟩
theorem doneL_zero (xs : List Int) (n : Nat) (h : xs.length < n) : doneL (xs ++ [0]) n = doneL xs n := by
  unfold doneL
  obtain ⟨m, hm⟩ : ∃ m, n - xs.length = m + 1 := ⟨n - xs.length - 1, by omega⟩
  rw [hm, show n - (xs ++ [(0 : Int)]).length = m by simp; omega, List.replicate_succ, List.append_assoc]
  rfl
theorem cl_tail {w : World} {b o : Nat} {k : IntKind} {p : Int × Int} {r : List (Int × Int)} (h : Cl w (some ⟨b, o, none⟩) (twoC k (p :: r))) : Cl w (some ⟨b, o + 2, none⟩) (twoC k r) := by
  obtain ⟨b', o', e, hc⟩ := h.some_ (by rw [twoC_length]; simp)
  obtain ⟨rfl, rfl⟩ : b = b' ∧ o = o' := by simpa using e
  refine .inr ⟨b, o + 2, rfl, fun j v hj => ?_⟩
  have := hc (j + 2) v (by
    have e : twoC k (p :: r) = .int .i64 p.1 :: .int k p.2 :: twoC k r := rfl
    rw [e]
    simpa using hj)
  rw [show o + 2 + j = o + (j + 2) by omega]
  exact this
def CtPost (w : World) (ids : List Int) (n : Nat) (l : List (Int × Int)) (e : Ending) (w' : World) : Prop := ∃ g, e = .returned (.slice (some ⟨g, 0, none⟩) n n) ∧ Cl w' (some ⟨g, 0, none⟩) (intsC .u64 (cntF ids l)) ∧ Below w.heap.size w w'
/-- a slice with room that reads as buckets -/
def Br (w : World) (v : Value) (l : List (Int × Int)) : Prop := ∃ A c, v = .slice A l.length c ∧ l.length ≤ c ∧ c ≤ 9223372036854775807 ∧ Cl w A (twoC .u64 l)
def CnRel (F : List Int) (ids : List Int) (w : World) (g : Nat) (v1 i : Value) (wr : World) : Prop :=
  ∃ (k : Nat) (l' : List (Int × Int)), k ≤ ids.length ∧ i = .int .i64 k ∧ Br w v1 l' ∧ cntF (ids.drop k) l' = F.drop k ∧ wr.ownsRow w.heap.size 36 1 (.slice (some ⟨g, 0, none⟩) ids.length ids.length) ids.length (intsC .u64 (doneL (F.take k) ids.length)) ∧ Below w.heap.size w wr
def CiRel (x : Int) (L : List (Int × Int)) (w wo : World) (v1 : Value) (wr : World) : Prop := ∃ l', Br w v1 l' ∧ dropW x l' = L ∧ wr = wo
def lenV : Value → Nat
  | .slice _ n _ => n
  | _ => 0
set_option maxHeartbeats 2000000 in
set_option maxRecDepth 100000 in
theorem counts_any (A B : Option Addr) (c m d n : Nat) (f : Int) (ids : List Int) (l : List (Int × Int)) (w : World) (hn : n = ids.length) (hf : f = fstL ids) (hm : m = (runsL ids).length) (hS : Ly w A ids) (ha : Asc ids) (hi : Inw ids) (hl : ids.length ≤ 10000) (hB : Cl w B (twoC .u64 l)) (hld : l.length ≤ d) (hd : d ≤ 9223372036854775807) :
    Calls Tryz.prog 60 #[.agg #[.int .i64 f, .slice A m c], .slice B l.length d] w (CtPost w ids n l) := by
  have hb0 : Below w.heap.size w (w.alloc (.cells #[.int .i64 f, .slice A m c] 52)) := (Below.refl _ _).alloc (Nat.le_refl _) _
  have HCI := Lib.hid (indices_at A n c m f ids _ hn hf hm (hS.below hb0) ha hi hl)
  have HB0 := Lib.hid hb0
  have HBB := Lib.hid hB
  obtain ⟨F, hF⟩ : ∃ F, cntF ids l = F := ⟨_, rfl⟩
  have HF := Lib.hid hF
  have HFL := Lib.hid (show F.length = n by rw [← hF, cntF_length, hn])
  have HN := Lib.hid hn
  have hn9 : n ≤ 10000 := by omega
  have hmk := make_u64 n (by omega)
  clear hb0 hS ha hi hB hF hf hm hn hl
  go_enter Tryz.func60, Tryz.ntmps60
  go_wp2_with fail
  refine HCI.out.mono ?_
  rintro e w1 ⟨A1, c1, rfl, hx1, hb1⟩
  have HX1 := Lib.hid hx1
  have HB1 := Lib.hid (HB0.out.trans (hb1.mono HB0.out.size))
  clear hx1 hb1
  obtain ⟨w2, hw2⟩ : ∃ W, w1.alloc (.cells (madeCells #[.int .u64 0] n) 36) = W := ⟨_, rfl⟩
  obtain ⟨g, hg⟩ : ∃ g, w1.heap.size = g := ⟨_, rfl⟩
  have R0 : Hid (CnRel F ids w1 g (.slice B l.length d) (.int .i64 0) w2) := by
    refine ⟨0, l, by omega, rfl, ⟨B, d, rfl, hld, hd, HBB.out.below HB1.out⟩, HF.out, ?_, ?_⟩
    · have := made_own .u64 36 n (by omega) w1 w1.heap.size (Nat.le_refl _)
      rw [List.take_zero, doneL_nil, ← hw2, ← hg, ← HN.out]
      exact this
    · rw [← hw2]; exact (Below.refl _ _).alloc (Nat.le_refl _) _
  have hWW := Lib.hid hw2
  have hGG := Lib.hid hg
  have hg1 : w1.heap.size ≤ g := by omega
  clear hw2 hg
  go_wp2_with fail
  rw [hWW.out, hGG.out]
  clear hmk
  go_loopw [1, 16] (fun v1 i wr => CnRel F ids w1 g v1 i wr) (fun _ i _ => n - (intOf i).toNat)
  case atStart => exact R0.out
  case round =>
    obtain ⟨k, l', hk, rfl, hv1, hF, ho, hb⟩ := hrel
    rw [← HN.out] at ho hk
    have HBR := Lib.hid hv1
    have HO := Lib.hid ho
    have HB := Lib.hid hb
    have HFF := Lib.hid hF
    by_cases hlt : k < n
    · obtain ⟨x, hx⟩ := getElem?_lt (l := ids) (k := k) (by rw [← HN.out]; exact hlt)
      obtain ⟨bb, off, rfl, hc⟩ := (HX1.out.below hb).ints (by rw [← HN.out]; omega)
      have hxc := hc k x hx
      obtain ⟨s1, s2⟩ := cntF_step hx hF
      have hFk : (F.take k).length = k := by rw [List.length_take, HFL.out]; omega
      have hdc := done_cell ho (by rw [hFk]; exact hlt)
      rw [hFk] at hdc
      have hst := fun y => (show (wr.setCell ⟨g, k, none⟩ (.int .u64 y)).ownsRow w1.heap.size 36 1 (.slice (some ⟨g, 0, none⟩) n n) n (intsC .u64 (doneL (F.take k ++ [y]) n)) from by
        have h := (ho.stored (F.take k).length (.int .u64 y)).1
        rw [doneL_set _ _ _ _ (by rw [hFk]; exact hlt), hFk] at h
        exact h)
      have HS1 := Lib.hid (And.intro s1 s2)
      have HST := Lib.hid hst
      have HDC := Lib.hid hdc
      have HFK := Lib.hid hFk
      have hki : (k : Int) < (n : Int) := by omega
      obtain ⟨A', c', rfl, hlc, hcm, hcl⟩ := hv1
      clear hc hx s1 s2 hdc hst hFk ho hb hF
      go_wp2_with fail
      obtain ⟨wo, hwo⟩ : ∃ W, W = wr := ⟨_, rfl⟩
      subst hwo
      go_loopw [1] (fun v1 wr => CiRel x (dropW x l') w1 wo v1 wr) (fun v1 _ => lenV v1)
      case atStart => exact ⟨l', HBR.out, rfl, rfl⟩
      case round =>
        obtain ⟨l2, ⟨A2, c2, rfl, hlc2, hcm2, hcl2⟩, hd2, rfl⟩ := hrel
        have HD := Lib.hid hd2
        clear hd2
        cases l2 with
        | nil =>
          have hF0 := HS1.out
          have hL : dropW x l' = [] := HD.out.symm
          rw [hL] at hF0
          have HNX := Lib.hid (show CnRel F ids w1 g (.slice A2 0 c2) (.int .i64 ((k + 1 : Nat) : Int)) wr from by
            refine ⟨k + 1, [], by rw [← HN.out]; omega, rfl, ⟨A2, c2, rfl, by simp, hcm2, Cl.nil _ _⟩, hF0.2, ?_, HB.out⟩
            rw [← HN.out, hF0.1, show headC x [] = 0 from rfl, doneL_zero _ _ (by rw [HFK.out]; exact hlt)]
            exact HO.out)
          simp only [List.length_nil]
          clear hcl2 hF0 hL
          go_wp2_with fail
          go_roundw
          case rel => exact HNX.out
          case measure => simp [intOf]; omega
        | cons p r =>
          obtain ⟨b2, o2, rfl, hc2⟩ := (hcl2.below HB.out).twos (by simp)
          obtain ⟨p1, p2⟩ := hc2 0 p rfl
          simp only [Nat.zero_mul, Nat.add_zero] at p1 p2
          obtain ⟨pi, pc⟩ := p
          simp only at p1 p2
          have HCL2 := Lib.hid hcl2
          have hlen2 : ((((pi, pc) :: r : List (Int × Int)).length : Nat) : Int) = (r.length : Int) + 1 := by simp
          obtain ⟨q, hq⟩ : ∃ q, r.length = q := ⟨_, rfl⟩
          have hq1 : ((pi, pc) :: r : List (Int × Int)).length = q + 1 := by simp [hq]
          rw [hq1] at hlc2 ⊢
          have HQ := Lib.hid hq
          clear hc2 hcl2 hlen2 hq1 hq
          by_cases hpx : pi < x
          · have HDR := Lib.hid (show dropW x r = dropW x l' by have h := HD.out; simp only [dropW] at h; rw [if_pos hpx] at h; exact h)
            have hpx' : decide (pi < x) = true := by simpa using hpx
            by_cases hc1 : c2 = 1
            · obtain rfl : q = 0 := by omega
              subst hc1
              have hr : r = [] := List.eq_nil_of_length_eq_zero HQ.out
              have HNX := Lib.hid (show CiRel x (dropW x l') w1 wr (.slice (some ⟨b2, o2, none⟩) 0 0) wr from ⟨r, ⟨some ⟨b2, o2, none⟩, 0, by rw [hr]; rfl, by rw [hr]; simp, by omega, by rw [hr]; exact Cl.nil _ _⟩, HDR.out, rfl⟩)
              clear hr
              go_wp2_with fail
              go_roundw
              case rel => exact HNX.out
              case measure => simp [lenV]
            · have hc2 : 2 ≤ c2 := by omega
              have HNX := Lib.hid (show CiRel x (dropW x l') w1 wr (.slice (some ⟨b2, o2 + 2, none⟩) q (c2 - 1)) wr from ⟨r, ⟨some ⟨b2, o2 + 2, none⟩, c2 - 1, by rw [HQ.out], by rw [HQ.out]; omega, by omega, cl_tail HCL2.out⟩, HDR.out, rfl⟩)
              go_wp2_with fail
              go_roundw
              case rel => exact HNX.out
              case measure => simp [lenV]
          · have hpx' : decide (pi < x) = false := by simpa using hpx
            have hL : dropW x l' = (pi, pc) :: r := by have h := HD.out; simp only [dropW] at h; rw [if_neg hpx] at h; exact h.symm
            have hF0 := HS1.out
            rw [hL] at hF0
            obtain ⟨dc1, dc2⟩ := HDC.out
            by_cases hpe : pi = x
            · have hpe' : (pi == x) = true := by simpa using hpe
              have HNX := Lib.hid (show CnRel F ids w1 g (.slice (some ⟨b2, o2, none⟩) (q + 1) c2) (.int .i64 ((k + 1 : Nat) : Int)) (wr.setCell ⟨g, k, none⟩ (.int .u64 pc)) from by
                refine ⟨k + 1, (pi, pc) :: r, by rw [← HN.out]; omega, rfl, ⟨_, c2, by simp [HQ.out], by simp [HQ.out]; exact hlc2, hcm2, HCL2.out⟩, hF0.2, ?_, ?_⟩
                · rw [← HN.out, hF0.1]
                  simp only [headC, if_pos hpe]
                  exact HST.out pc
                · exact HB.out.setCell hg1 _)
              clear hF0 hL hpx hpe
              go_wp2_with fail
              go_roundw
              case rel => exact HNX.out
              case measure => simp [intOf]; omega
            · have hpe' : (pi == x) = false := by simpa using hpe
              have HNX := Lib.hid (show CnRel F ids w1 g (.slice (some ⟨b2, o2, none⟩) (q + 1) c2) (.int .i64 ((k + 1 : Nat) : Int)) wr from by
                refine ⟨k + 1, (pi, pc) :: r, by rw [← HN.out]; omega, rfl, ⟨_, c2, by simp [HQ.out], by simp [HQ.out]; exact hlc2, hcm2, HCL2.out⟩, hF0.2, ?_, HB.out⟩
                rw [← HN.out, hF0.1]
                simp only [headC, if_neg hpe]
                rw [doneL_zero _ _ (by rw [HFK.out]; exact hlt)]
                exact HO.out)
              clear hF0 hL hpx hpe dc1 dc2
              go_wp2_with fail
              go_roundw
              case rel => exact HNX.out
              case measure => simp [intOf]; omega
    · obtain rfl : k = n := by omega
      have hki : ¬ ((k : Int) < (k : Int)) := by omega
      have hall : doneL (F.take k) k = F := by
        rw [List.take_of_length_le (by rw [HFL.out]; exact Nat.le_refl _)]
        exact doneL_all _ _ HFL.out
      have hcl := own_cl ho
      rw [hall] at hcl
      have HEND := Lib.hid (show CtPost w ids k l (.returned (.slice (some ⟨g, 0, none⟩) k k)) wr from ⟨g, rfl, by rw [HF.out]; exact hcl, HB1.out.trans (hb.mono HB1.out.size)⟩)
      obtain ⟨A', c', rfl, _, _, _⟩ := hv1
      clear ho hb hF hall hcl
      go_wp2_with fail
      go_ret
      exact HEND.out
end Go.Proofs.YtakomfnajeolcaaGreatDoor.Tk


/- Counts by a layout that has all buckets: those of the buckets, and 0 elsewhere. -/
namespace Go.Proofs.YtakomfnajeolcaaGreatDoor.Tk
open Go.RowKit Go.Sort
set_option linter.unusedVariables false

/-- of each index the next bucket's count, if it is that one's -/
def wantF : List Int → List (Int × Int) → List Int
  | [], _ => []
  | x :: r, [] => 0 :: wantF r []
  | x :: r, p :: l => if p.1 = x then p.2 :: wantF r l else 0 :: wantF r (p :: l)
theorem cntF_skip {x : Int} {p : Int × Int} {r : List Int} {t : List (Int × Int)} (h : ∀ y ∈ r, p.1 < y) : cntF r (p :: t) = cntF r t := by
  cases r with
  | nil => rfl
  | cons y s =>
    have e : dropW y (p :: t) = dropW y t := by simp only [dropW]; rw [if_pos (h y (by simp))]
    simp only [cntF, e]
theorem cntF_want : ∀ (ids : List Int) (l : List (Int × Int)), Asc ids → Asc (idsL l) → (∀ i ∈ idsL l, i ∈ ids) → cntF ids l = wantF ids l
  | [], l, _, _, _ => by simp [cntF, wantF]
  | x :: r, [], ha, hl, hm => by
    have ih := cntF_want r [] (by unfold Asc at *; exact (List.pairwise_cons.1 ha).2) hl (fun i hi => by simp [idsL] at hi)
    simp only [cntF, dropW, headC, wantF, ih]
  | x :: r, p :: t, ha, hl, hm => by
    unfold Asc at ha hl
    obtain ⟨a1, a2⟩ := List.pairwise_cons.1 ha
    have hl' : (p.1 :: idsL t).Pairwise fun a b => a < b := hl
    obtain ⟨l1, l2⟩ := List.pairwise_cons.1 hl'
    have hp : p.1 = x ∨ p.1 ∈ r := by
      have := hm p.1 (by simp [idsL])
      simpa using this
    have hnl : ¬ p.1 < x := by
      rcases hp with h | h
      · omega
      · have := a1 _ h; omega
    have e : dropW x (p :: t) = p :: t := by simp only [dropW]; rw [if_neg hnl]
    have ht : ∀ i ∈ idsL t, i ∈ r := fun i hi => by
      have h1 := l1 i hi
      have h2 := hm i (by simp [idsL] at hi ⊢; exact .inr hi)
      simp only [List.mem_cons] at h2
      rcases h2 with rfl | h2
      · omega
      · exact h2
    simp only [cntF, e, headC, wantF]
    by_cases hx : p.1 = x
    · rw [if_pos hx, if_pos hx, cntF_skip (x := x) (fun y hy => by have := a1 y hy; omega), cntF_want r t a2 l2 ht]
    · rw [if_neg hx, if_neg hx, cntF_want r (p :: t) a2 hl (fun i hi => by
        have hi' : i = p.1 ∨ i ∈ idsL t := by simpa [idsL] using hi
        rcases hi' with rfl | hi'
        · rcases hp with h | h
          · exact absurd h hx
          · exact h
        · exact ht i hi')]
end Go.Proofs.YtakomfnajeolcaaGreatDoor.Tk


/- The contract of Buckets. -/
namespace Go.Proofs.YtakomfnajeolcaaGreatDoor.Tk
open Go.RowKit Go.Sort
set_option linter.unusedVariables false

/-- the buckets of indices with counts, but for empty ones -/
def bktF : List Int → List Int → List (Int × Int)
  | [], _ => []
  | _ :: _, [] => []
  | x :: r, y :: s => if y = 0 then bktF r s else (x, y) :: bktF r s
theorem bktF_nil (l : List Int) : bktF l [] = [] := by cases l <;> rfl
theorem bktF_snoc {l m : List Int} {k : Nat} {x y : Int} (hx : l[k]? = some x) (hy : m[k]? = some y) : bktF (l.take (k + 1)) (m.take (k + 1)) = bktF (l.take k) (m.take k) ++ (if y = 0 then [] else [(x, y)]) := by
  induction k generalizing l m with
  | zero =>
    cases l with
    | nil => simp at hx
    | cons a r =>
      cases m with
      | nil => simp at hy
      | cons b s =>
        simp at hx hy
        subst hx hy
        simp only [List.take_succ_cons, List.take_zero, bktF, List.nil_append]
  | succ k ih =>
    cases l with
    | nil => simp at hx
    | cons a r =>
      cases m with
      | nil => simp at hy
      | cons b s =>
        have := ih (l := r) (m := s) (by simpa using hx) (by simpa using hy)
        rw [List.take_succ_cons, List.take_succ_cons, List.take_succ_cons, List.take_succ_cons]
        simp only [bktF]
        by_cases hb : b = 0
        · rw [if_pos hb, if_pos hb]; exact this
        · rw [if_neg hb, if_neg hb, this, List.cons_append]
theorem bktF_take {l m : List Int} (k : Nat) (h : l.length ≤ k ∨ m.length ≤ k) : bktF (l.take k) (m.take k) = bktF l m := by
  induction k generalizing l m with
  | zero =>
    rcases h with h | h
    · have : l = [] := List.eq_nil_of_length_eq_zero (by omega)
      subst this; rfl
    · have : m = [] := List.eq_nil_of_length_eq_zero (by omega)
      subst this
      rw [bktF_nil]; simp [bktF]
  | succ k ih =>
    cases l with
    | nil => simp [bktF]
    | cons a r =>
      cases m with
      | nil => simp [bktF]
      | cons b s =>
        have := ih (l := r) (m := s) (by simpa using h)
        simp only [List.take_succ_cons, bktF, this]
theorem bktF_le (l m : List Int) : (bktF l m).length ≤ l.length := by
  induction l generalizing m with
  | nil => simp [bktF]
  | cons a r ih =>
    cases m with
    | nil => simp [bktF]
    | cons b s =>
      have := ih s
      simp only [bktF]
      by_cases hb : b = 0
      · simp only [if_pos hb, List.length_cons]; omega
      · simp only [if_neg hb, List.length_cons]; omega
/-- append of one bucket, at a step of a region -/
theorem step_app_bkt {ops : Array Oper} {o : Oper} {a : Act} {w : World} {K : Act → World → Prop} {Q : Exit → Act → World → Prop} {E : Prop} (hgd : o.guard = none) (s x : Operand)
    (ho : o.op = .call { callee := .builtin .append, args := #[s, x], argTypes := #[37, 37] })
    (base : Nat) (A : Option Addr) (n c : Nat) (l : List (Int × Int)) (hs : a.eval s = .slice A n c) (hown : w.ownsRow base 86 2 (.slice A n c) n (twoC .u64 l))
    (g : Nat) (hx : a.eval x = .slice (some ⟨g, 0, none⟩) 1 1) (y : Int × Int) (hy0 : w.cell? ⟨g, 0, none⟩ = some (.int .i64 y.1)) (hy1 : w.cell? ⟨g, 1, none⟩ = some (.int .u64 y.2)) (hl : n + 1 ≤ 1000000) (hbase : base ≤ w.heap.size)
    (h : ∀ A' c' w', w'.ownsRow base 86 2 (.slice A' (n + 1) c') (n + 1) (twoC .u64 (l ++ [y])) → w.grownBy w' (Value.slice A n c).ownBlock → K (a.put o.dst (.slice A' (n + 1) c')) w') :
    if Region.wanted o (yielded ops a.tmps) = true then Oper.wp Tryz.prog o a w K Q else E := by
  have hw : Region.wanted o (yielded ops a.tmps) = true := by simp [Region.wanted, hgd]
  rw [if_pos hw]
  obtain ⟨i0, hi, hz0, hz1, hz2⟩ := info_parts infoB
  refine wp_append_own w s x 37 ho base 86 i0 (.agg #[.int .i64 0, .int .u64 0]) 2 16 Tryz.underlying37 hi hz0 hz1 hz2 rfl (by decide) _ n (twoC .u64 l) hs hown ⟨g, 0, none⟩ 1 1 [.int .i64 y.1, .int .u64 y.2] hx rfl ?_ (by simp [Value.oneCell']) (by unfold maxLen; omega) (by omega) hbase ?_
  · intro j u hu
    have hj : j < 2 := (List.getElem?_eq_some_iff.1 hu).1
    rw [addr_at]
    rcases (show j = 0 ∨ j = 1 by omega) with rfl | rfl
    · simp at hu; subst hu; exact hy0
    · simp at hu; subst hu; exact hy1
  · intro v' w' h1 h2 _
    obtain ⟨A', c', rfl⟩ := own_shape h1
    have e : twoC .u64 l ++ [.int .i64 y.1, .int .u64 y.2] = twoC .u64 (l ++ [y]) := by simp [twoC, twoE]
    rw [e] at h1
    exact h A' c' w' h1 h2
def BkPost (w : World) (ids cs : List Int) (e : Ending) (w' : World) : Prop := ∃ A c, e = .returned (.slice A (bktF ids cs).length c) ∧ Cl w' A (twoC .u64 (bktF ids cs)) ∧ Below w.heap.size w w'
def BkRel (ids cs : List Int) (M : Nat) (w : World) (v i : Value) (wr : World) : Prop :=
  ∃ (k : Nat) (A : Option Addr) (c n : Nat), k ≤ M ∧ i = .int .i64 k ∧ n = (bktF (ids.take k) (cs.take k)).length ∧ v = .slice A n c ∧ wr.ownsRow w.heap.size 86 2 (.slice A n c) n (twoC .u64 (bktF (ids.take k) (cs.take k))) ∧ Below w.heap.size w wr
set_option maxHeartbeats 2000000 in
set_option maxRecDepth 100000 in
theorem buckets_any (A B : Option Addr) (c m d n : Nat) (f : Int) (ids cs : List Int) (w : World) (hn : n = ids.length) (hf : f = fstL ids) (hm : m = (runsL ids).length) (hS : Ly w A ids) (ha : Asc ids) (hi : Inw ids) (hl : ids.length ≤ 10000) (hB : Cl w B (intsC .u64 cs)) (hcl : cs.length ≤ 9223372036854775807) :
    Calls Tryz.prog 100 #[.agg #[.int .i64 f, .slice A m c], .slice B cs.length d] w (BkPost w ids cs) := by
  have hb0 : Below w.heap.size w (w.alloc (.cells #[.int .i64 f, .slice A m c] 52)) := (Below.refl _ _).alloc (Nat.le_refl _) _
  have HCI := Lib.hid (indices_at A n c m f ids _ hn hf hm (hS.below hb0) ha hi hl)
  have HB0 := Lib.hid hb0
  have HBB := Lib.hid hB
  have HN := Lib.hid hn
  have hn9 : n ≤ 10000 := by omega
  clear hb0 hS ha hi hB hf hm hn hl
  obtain ⟨M, hM⟩ : ∃ M, min n cs.length = M := ⟨_, rfl⟩
  have HM := Lib.hid hM
  have hMn : M ≤ n := by omega
  have hMc : M ≤ cs.length := by omega
  have hmin : min (n : Int) (cs.length : Int) = (M : Int) := by omega
  have HMI := Lib.hid hmin
  clear hM hmin
  go_enter Tryz.func100, Tryz.ntmps100
  go_wp2_with fail
  refine HCI.out.mono ?_
  rintro e w1 ⟨A1, c1, rfl, hx1, hb1⟩
  have HX1 := Lib.hid hx1
  have HB1 := Lib.hid (HB0.out.trans (hb1.mono HB0.out.size))
  have HBB1 := Lib.hid (HBB.out.below HB1.out)
  clear hx1 hb1
  go_wp2_with fail
  rw [HMI.out]
  go_loopw [5, 15] (fun v i wr => BkRel ids cs M w1 v i wr) (fun _ i _ => M - (intOf i).toNat)
  case atStart => exact ⟨0, none, 0, 0, by omega, rfl, rfl, rfl, World.ownsRow_nil _ _ _ _, Below.refl _ _⟩
  case round =>
    obtain ⟨k, A2, c2, n2, hk, rfl, hn2, rfl, ho, hb⟩ := hrel
    have HO := Lib.hid ho
    have HB := Lib.hid hb
    have HN2 := Lib.hid hn2
    by_cases hlt : k < M
    · obtain ⟨x, hx⟩ := getElem?_lt (l := ids) (k := k) (by rw [← HN.out]; omega)
      obtain ⟨y, hy⟩ := getElem?_lt (l := cs) (k := k) (by omega)
      obtain ⟨bx, ox, rfl, hcx⟩ := (HX1.out.below hb).ints (by rw [← HN.out]; omega)
      obtain ⟨by_, oy, rfl, hcy⟩ := (HBB1.out.below hb).ints (by omega)
      have hxc := hcx k x hx
      have hyc := hcy k y hy
      have HSN := Lib.hid (bktF_snoc hx hy)
      have hle := bktF_le (ids.take k) (cs.take k)
      have hlk := List.length_take_le k ids
      have hn29 : n2 ≤ 10000 := by omega
      have hki : (k : Int) < (M : Int) := by omega
      have hkn : (k : Int) < (n : Int) := by omega
      have hkc : (k : Int) < (cs.length : Int) := by omega
      have hsz := hb.size
      clear hx hy hcx hcy ho hb hn2 hle hlk
      by_cases hy0 : y = 0
      · have hy0' : (y != 0) = false := by simp [hy0]
        have HNX := Lib.hid (show BkRel ids cs M w1 (.slice A2 n2 c2) (.int .i64 ((k + 1 : Nat) : Int)) wr from by
          have h := HSN.out
          rw [if_pos hy0, List.append_nil] at h
          exact ⟨k + 1, A2, c2, n2, by omega, rfl, by rw [h]; exact HN2.out, rfl, by rw [h]; exact HO.out, HB.out⟩)
        clear hy0
        go_wp2_with fail
        go_roundw
        case rel => exact HNX.out
        case measure => simp [intOf]; omega
      · have hy0' : (y != 0) = true := by simpa using hy0
        have HSN2 := Lib.hid (show bktF (ids.take (k + 1)) (cs.take (k + 1)) = bktF (ids.take k) (cs.take k) ++ [(x, y)] by rw [HSN.out, if_neg hy0])
        have HO1 := Lib.hid (show (wr.drewN 1).ownsRow w1.heap.size 86 2 (.slice A2 n2 c2) n2 (twoC .u64 (bktF (ids.take k) (cs.take k))) from HO.out)
        have HO2 := Lib.hid (show (wr.drew).ownsRow w1.heap.size 86 2 (.slice A2 n2 c2) n2 (twoC .u64 (bktF (ids.take k) (cs.take k))) from HO.out)
        have hn210 : n2 + 1 ≤ 1000000 := by omega
        clear hy0
        go_wp2_with fail
        go_region_law (refine step_app_bkt rfl (.tmp 23) (.tmp 33) rfl w1.heap.size _ _ _ (bktF (ids.take k) (cs.take k)) rfl (by first | exact HO1.out.alloc _ | exact HO2.out.alloc _) _ rfl (x, y) (new_two _ _ _ _).1 (new_two _ _ _ _).2 hn210 (by first | exact Nat.le_succ_of_le hsz | (simp; omega)) ?_; intro A6 c6 w6 ho6 hg6; have HO6 := Lib.hid ho6; have HB6 := Lib.hid (below_app (below_drewN HB.out 1) hsz HO1.out (Nat.le_refl _) hg6); clear ho6 hg6)
        all_goals
          go_wp2_with fail
          go_roundw
          case rel => exact ⟨k + 1, A6, c6, n2 + 1, by omega, by go_num, by rw [HSN2.out, List.length_append, ← HN2.out]; rfl, rfl, by rw [HSN2.out]; exact HO6.out, HB6.out⟩
          case measure => simp [intOf]; omega
    · obtain rfl : k = M := by omega
      have hki : ¬ ((k : Int) < (k : Int)) := by omega
      have hall : bktF (ids.take k) (cs.take k) = bktF ids cs := bktF_take k (by have := HM.out; have := HN.out; omega)
      have HEND := Lib.hid (show BkPost w ids cs (.returned (.slice A2 n2 c2)) wr from by
        rw [hall] at hn2 ho
        subst hn2
        exact ⟨A2, c2, rfl, own_cl ho, HB1.out.trans (hb.mono HB1.out.size)⟩)
      clear ho hb hn2 hall
      go_wp2_with fail
      go_ret
      exact HEND.out
end Go.Proofs.YtakomfnajeolcaaGreatDoor.Tk
