/- The contract of Buckets. -/
import Derived.Test.YtnbjgeamdipkcaaSpCm
import Derived.Deep.RegionLaw
namespace Go.Proofs.Ytnbjgeamdipkcaa
open Go.RowKit Go.Sort
set_option linter.unusedVariables false

/-- the buckets of indices with counts, but for empty ones -/
def bktF : List Int → List Int → List (Int × Int)
  | [], _ => []
  | _ :: _, [] => []
  | x :: r, y :: s => if y = 0 then bktF r s else (x, y) :: bktF r s
theorem bktF_nil (l : List Int) : bktF l [] = [] := by cases l <;> rfl
theorem bktF_snoc {l m : List Int} {k : Nat} {x y : Int} (hx : l[k]? = some x) (hy : m[k]? = some y) : bktF (l.take (k + 1)) (m.take (k + 1)) = bktF (l.take k) (m.take k) ++ (if y = 0 then [] else [(x, y)]) := by
  induction k generalizing l m with
  | zero =>
    cases l with
    | nil => simp at hx
    | cons a r =>
      cases m with
      | nil => simp at hy
      | cons b s =>
        simp at hx hy
        subst hx hy
        simp only [List.take_succ_cons, List.take_zero, bktF, List.nil_append]
  | succ k ih =>
    cases l with
    | nil => simp at hx
    | cons a r =>
      cases m with
      | nil => simp at hy
      | cons b s =>
        have := ih (l := r) (m := s) (by simpa using hx) (by simpa using hy)
        rw [List.take_succ_cons, List.take_succ_cons, List.take_succ_cons, List.take_succ_cons]
        simp only [bktF]
        by_cases hb : b = 0
        · rw [if_pos hb, if_pos hb]; exact this
        · rw [if_neg hb, if_neg hb, this, List.cons_append]
theorem bktF_take {l m : List Int} (k : Nat) (h : l.length ≤ k ∨ m.length ≤ k) : bktF (l.take k) (m.take k) = bktF l m := by
  induction k generalizing l m with
  | zero =>
    rcases h with h | h
    · have : l = [] := List.eq_nil_of_length_eq_zero (by omega)
      subst this; rfl
    · have : m = [] := List.eq_nil_of_length_eq_zero (by omega)
      subst this
      rw [bktF_nil]; simp [bktF]
  | succ k ih =>
    cases l with
    | nil => simp [bktF]
    | cons a r =>
      cases m with
      | nil => simp [bktF]
      | cons b s =>
        have := ih (l := r) (m := s) (by simpa using h)
        simp only [List.take_succ_cons, bktF, this]
theorem bktF_le (l m : List Int) : (bktF l m).length ≤ l.length := by
  induction l generalizing m with
  | nil => simp [bktF]
  | cons a r ih =>
    cases m with
    | nil => simp [bktF]
    | cons b s =>
      have := ih s
      simp only [bktF]
      by_cases hb : b = 0
      · simp only [if_pos hb, List.length_cons]; omega
      · simp only [if_neg hb, List.length_cons]; omega
/-- append of one bucket, at a step of a region -/
theorem step_app_bkt {ops : Array Oper} {o : Oper} {a : Act} {w : World} {K : Act → World → Prop} {Q : Exit → Act → World → Prop} {E : Prop} (hgd : o.guard = none) (s x : Operand)
    (ho : o.op = .call { callee := .builtin .append, args := #[s, x], argTypes := #[26, 26] })
    (base : Nat) (A : Option Addr) (n c : Nat) (l : List (Int × Int)) (hs : a.eval s = .slice A n c) (hown : w.ownsRow base 41 2 (.slice A n c) n (twoC .u64 l))
    (g : Nat) (hx : a.eval x = .slice (some ⟨g, 0, none⟩) 1 1) (y : Int × Int) (hy0 : w.cell? ⟨g, 0, none⟩ = some (.int .i64 y.1)) (hy1 : w.cell? ⟨g, 1, none⟩ = some (.int .u64 y.2)) (hl : n + 1 ≤ 1000000) (hbase : base ≤ w.heap.size)
    (h : ∀ A' c' w', w'.ownsRow base 41 2 (.slice A' (n + 1) c') (n + 1) (twoC .u64 (l ++ [y])) → w.grownBy w' (Value.slice A n c).ownBlock → K (a.put o.dst (.slice A' (n + 1) c')) w') :
    if Region.wanted o (yielded ops a.tmps) = true then Oper.wp Try.prog o a w K Q else E := by
  have hw : Region.wanted o (yielded ops a.tmps) = true := by simp [Region.wanted, hgd]
  rw [if_pos hw]
  obtain ⟨i0, hi, hz0, hz1, hz2⟩ := info_parts infoB
  refine wp_append_own w s x 26 ho base 41 i0 (.agg #[.int .i64 0, .int .u64 0]) 2 16 Try.underlying26 hi hz0 hz1 hz2 rfl (by decide) _ n (twoC .u64 l) hs hown ⟨g, 0, none⟩ 1 1 [.int .i64 y.1, .int .u64 y.2] hx rfl ?_ (by simp [Value.oneCell']) (by unfold maxLen; omega) (by omega) hbase ?_
  · intro j u hu
    have hj : j < 2 := (List.getElem?_eq_some_iff.1 hu).1
    rw [addr_at]
    rcases (show j = 0 ∨ j = 1 by omega) with rfl | rfl
    · simp at hu; subst hu; exact hy0
    · simp at hu; subst hu; exact hy1
  · intro v' w' h1 h2 _
    obtain ⟨A', c', rfl⟩ := own_shape h1
    have e : twoC .u64 l ++ [.int .i64 y.1, .int .u64 y.2] = twoC .u64 (l ++ [y]) := by simp [twoC, twoE]
    rw [e] at h1
    exact h A' c' w' h1 h2
def BkPost (w : World) (ids cs : List Int) (e : Ending) (w' : World) : Prop := ∃ A c, e = .returned (.slice A (bktF ids cs).length c) ∧ Cl w' A (twoC .u64 (bktF ids cs)) ∧ Below w.heap.size w w'
def BkRel (ids cs : List Int) (M : Nat) (w : World) (v i : Value) (wr : World) : Prop :=
  ∃ (k : Nat) (A : Option Addr) (c n : Nat), k ≤ M ∧ i = .int .i64 k ∧ n = (bktF (ids.take k) (cs.take k)).length ∧ v = .slice A n c ∧ wr.ownsRow w.heap.size 41 2 (.slice A n c) n (twoC .u64 (bktF (ids.take k) (cs.take k))) ∧ Below w.heap.size w wr
set_option maxHeartbeats 2000000 in
set_option maxRecDepth 100000 in
theorem buckets_any (A B : Option Addr) (c m d n : Nat) (f : Int) (ids cs : List Int) (w : World) (hn : n = ids.length) (hf : f = fstL ids) (hm : m = (runsL ids).length) (hS : Ly w A ids) (ha : Asc ids) (hi : Inb ids) (hl : ids.length ≤ 10000) (hB : Cl w B (intsC .u64 cs)) (hcl : cs.length ≤ 9223372036854775807) :
    Calls Try.prog 14 #[.agg #[.int .i64 f, .slice A m c], .slice B cs.length d] w (BkPost w ids cs) := by
  have hb0 : Below w.heap.size w (w.alloc (.cells #[.int .i64 f, .slice A m c] 33)) := (Below.refl _ _).alloc (Nat.le_refl _) _
  have HCI := Lib.hid (indices_at A n c m f ids _ hn hf hm (hS.below hb0) ha hi hl)
  have HB0 := Lib.hid hb0
  have HBB := Lib.hid hB
  have HN := Lib.hid hn
  have hn9 : n ≤ 10000 := by omega
  clear hb0 hS ha hi hB hf hm hn hl
  obtain ⟨M, hM⟩ : ∃ M, min n cs.length = M := ⟨_, rfl⟩
  have HM := Lib.hid hM
  have hMn : M ≤ n := by omega
  have hMc : M ≤ cs.length := by omega
  have hmin : min (n : Int) (cs.length : Int) = (M : Int) := by omega
  have HMI := Lib.hid hmin
  clear hM hmin
  go_enter Try.func14, Try.ntmps14
  go_wp2_with fail
  refine HCI.out.mono ?_
  rintro e w1 ⟨A1, c1, rfl, hx1, hb1⟩
  have HX1 := Lib.hid hx1
  have HB1 := Lib.hid (HB0.out.trans (hb1.mono HB0.out.size))
  have HBB1 := Lib.hid (HBB.out.below HB1.out)
  clear hx1 hb1
  go_wp2_with fail
  rw [HMI.out]
  go_loopw [5, 15] (fun v i wr => BkRel ids cs M w1 v i wr) (fun _ i _ => M - (intOf i).toNat)
  case atStart => exact ⟨0, none, 0, 0, by omega, rfl, rfl, rfl, World.ownsRow_nil _ _ _ _, Below.refl _ _⟩
  case round =>
    obtain ⟨k, A2, c2, n2, hk, rfl, hn2, rfl, ho, hb⟩ := hrel
    have HO := Lib.hid ho
    have HB := Lib.hid hb
    have HN2 := Lib.hid hn2
    by_cases hlt : k < M
    · obtain ⟨x, hx⟩ := getElem?_lt (l := ids) (k := k) (by rw [← HN.out]; omega)
      obtain ⟨y, hy⟩ := getElem?_lt (l := cs) (k := k) (by omega)
      obtain ⟨bx, ox, rfl, hcx⟩ := (HX1.out.below hb).ints (by rw [← HN.out]; omega)
      obtain ⟨by_, oy, rfl, hcy⟩ := (HBB1.out.below hb).ints (by omega)
      have hxc := hcx k x hx
      have hyc := hcy k y hy
      have HSN := Lib.hid (bktF_snoc hx hy)
      have hle := bktF_le (ids.take k) (cs.take k)
      have hlk := List.length_take_le k ids
      have hn29 : n2 ≤ 10000 := by omega
      have hki : (k : Int) < (M : Int) := by omega
      have hkn : (k : Int) < (n : Int) := by omega
      have hkc : (k : Int) < (cs.length : Int) := by omega
      have hsz := hb.size
      clear hx hy hcx hcy ho hb hn2 hle hlk
      by_cases hy0 : y = 0
      · have hy0' : (y != 0) = false := by simp [hy0]
        have HNX := Lib.hid (show BkRel ids cs M w1 (.slice A2 n2 c2) (.int .i64 ((k + 1 : Nat) : Int)) wr from by
          have h := HSN.out
          rw [if_pos hy0, List.append_nil] at h
          exact ⟨k + 1, A2, c2, n2, by omega, rfl, by rw [h]; exact HN2.out, rfl, by rw [h]; exact HO.out, HB.out⟩)
        clear hy0
        go_wp2_with fail
        go_roundw
        case rel => exact HNX.out
        case measure => simp [intOf]; omega
      · have hy0' : (y != 0) = true := by simpa using hy0
        have HSN2 := Lib.hid (show bktF (ids.take (k + 1)) (cs.take (k + 1)) = bktF (ids.take k) (cs.take k) ++ [(x, y)] by rw [HSN.out, if_neg hy0])
        have HO1 := Lib.hid (show (wr.drewN 1).ownsRow w1.heap.size 41 2 (.slice A2 n2 c2) n2 (twoC .u64 (bktF (ids.take k) (cs.take k))) from HO.out)
        have HO2 := Lib.hid (show (wr.drew).ownsRow w1.heap.size 41 2 (.slice A2 n2 c2) n2 (twoC .u64 (bktF (ids.take k) (cs.take k))) from HO.out)
        have hn210 : n2 + 1 ≤ 1000000 := by omega
        clear hy0
        go_wp2_with fail
        go_region_law (refine step_app_bkt rfl (.tmp 23) (.tmp 33) rfl w1.heap.size _ _ _ (bktF (ids.take k) (cs.take k)) rfl (by first | exact HO1.out.alloc _ | exact HO2.out.alloc _) _ rfl (x, y) (new_two _ _ _ _).1 (new_two _ _ _ _).2 hn210 (by first | exact Nat.le_succ_of_le hsz | (simp; omega)) ?_; intro A6 c6 w6 ho6 hg6; have HO6 := Lib.hid ho6; have HB6 := Lib.hid (below_app (below_drewN HB.out 1) hsz HO1.out (Nat.le_refl _) hg6); clear ho6 hg6)
        all_goals
          go_wp2_with fail
          go_roundw
          case rel => exact ⟨k + 1, A6, c6, n2 + 1, by omega, by go_num, by rw [HSN2.out, List.length_append, ← HN2.out]; rfl, rfl, by rw [HSN2.out]; exact HO6.out, HB6.out⟩
          case measure => simp [intOf]; omega
    · obtain rfl : k = M := by omega
      have hki : ¬ ((k : Int) < (k : Int)) := by omega
      have hall : bktF (ids.take k) (cs.take k) = bktF ids cs := bktF_take k (by have := HM.out; have := HN.out; omega)
      have HEND := Lib.hid (show BkPost w ids cs (.returned (.slice A2 n2 c2)) wr from by
        rw [hall] at hn2 ho
        subst hn2
        exact ⟨A2, c2, rfl, own_cl ho, HB1.out.trans (hb.mono HB1.out.size)⟩)
      clear ho hb hn2 hall
      go_wp2_with fail
      go_ret
      exact HEND.out
end Go.Proofs.Ytnbjgeamdipkcaa
