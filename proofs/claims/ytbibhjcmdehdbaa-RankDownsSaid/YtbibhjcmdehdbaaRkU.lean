/- Compare; keys and cells that are one; the laws' own cell. -/
import Derived.Test.YtbibhjcmdehdbaaRkR
import Derived.Test.YtbibhjcmdehdbaaHsI
import Derived.Laws.StructEq
import Derived.Deep.CutRange
/-! Buckets in order: which is higher, and at which place the n-th observation is. Plain data. -/
namespace Go.Proofs.Ytbibhjcmdehdbaa
open Go.RowKit Go.Sort
set_option linter.unusedVariables false

def cmpK (a b : Cel) : Int := if a.d ≠ b.d then cmpV a.d b.d else if a.d < 0 then cmpV b.i a.i else cmpV a.i b.i
theorem cmpK_d {a b : Cel} (h : a.d < b.d) : cmpK a b = -1 ∧ cmpK b a = 1 := by
  unfold cmpK cmpV
  rw [if_pos (by omega), if_pos h, if_pos (by omega), if_neg (by omega), if_pos h]; exact ⟨rfl, rfl⟩
theorem cmpK_self (a : Cel) : cmpK a a = 0 := by
  unfold cmpK cmpV
  rw [if_neg (by simp)]
  split <;> rw [if_neg (by omega), if_neg (by omega)]
theorem negL_d {h : HV} {p : Cel} (hp : p ∈ negL h) : p.d = -1 := by
  unfold negL at hp; obtain ⟨q, _, rfl⟩ := List.mem_map.1 hp; rfl
theorem posL_d {h : HV} {p : Cel} (hp : p ∈ posL h) : p.d = 1 := by
  unfold posL at hp; obtain ⟨q, _, rfl⟩ := List.mem_map.1 hp; rfl
theorem zeroL_d {h : HV} {p : Cel} (hp : p ∈ zeroL h) : p.d = 0 := by
  unfold zeroL at hp
  split at hp
  · rw [List.mem_singleton.1 hp]
  · exact absurd hp (by simp)
theorem ord_up {h : HV} (o : Ok h) : (ordF h).Pairwise fun a b => cmpK a b = -1 ∧ cmpK b a = 1 := by
  unfold ordF
  refine List.pairwise_append.2 ⟨?_, List.pairwise_append.2 ⟨?_, ?_, ?_⟩, ?_⟩
  · unfold negL
    refine List.pairwise_map.2 (List.pairwise_reverse.2 (o.aQ.imp fun {a b} hab => ?_))
    unfold cmpK celF cmpV
    rw [if_neg (by simp), if_pos (by simp), if_pos hab, if_neg (by simp), if_pos (by simp), if_neg (by simp only; omega), if_pos hab]
    exact ⟨rfl, rfl⟩
  · unfold zeroL
    split
    · exact List.pairwise_singleton _ _
    · exact List.Pairwise.nil
  · unfold posL
    refine List.pairwise_map.2 (o.aP.imp fun {a b} hab => ?_)
    unfold cmpK celF cmpV
    rw [if_neg (by simp), if_neg (by simp), if_pos hab, if_neg (by simp), if_neg (by simp), if_neg (by simp only; omega), if_pos hab]
    exact ⟨rfl, rfl⟩
  · intro a ha b hb
    have h1 := zeroL_d ha
    have h2 := posL_d hb
    exact cmpK_d (by omega)
  · intro a ha b hb
    have h1 := negL_d ha
    rcases List.mem_append.1 hb with hb | hb
    · have h2 := zeroL_d hb
      exact cmpK_d (by omega)
    · have h2 := posL_d hb
      exact cmpK_d (by omega)
theorem ord_lt {h : HV} (o : Ok h) {i j : Nat} {p q : Cel} (hi : (ordF h)[i]? = some p) (hj : (ordF h)[j]? = some q) (hij : i < j) : cmpK p q = -1 ∧ cmpK q p = 1 := by
  obtain ⟨a1, rfl⟩ := List.getElem?_eq_some_iff.1 hi
  obtain ⟨a2, rfl⟩ := List.getElem?_eq_some_iff.1 hj
  exact List.pairwise_iff_getElem.1 (ord_up o) i j a1 a2 hij
theorem ord_le {h : HV} (o : Ok h) {i j : Nat} {p q : Cel} (hi : (ordF h)[i]? = some p) (hj : (ordF h)[j]? = some q) (hij : i ≤ j) : cmpK p q ≤ 0 := by
  by_cases e : i = j
  · subst e
    have e2 : p = q := Option.some.inj (hi.symm.trans hj)
    rw [e2, cmpK_self]; exact Int.le_refl _
  · rw [(ord_lt o hi hj (by omega)).1]; decide
theorem ord_pos {h : HV} (o : Ok h) : ∀ p ∈ ordF h, 0 < p.n := fun p hp => by
  have h0 := (ord_cel o p hp).2
  have h1 : p.n ≠ 0 := by
    unfold ordF at hp
    rcases List.mem_append.1 hp with hp | hp
    · exact neg_ne o p hp
    · rcases List.mem_append.1 hp with hp | hp
      · unfold zeroL at hp
        split at hp
        · rw [List.mem_singleton.1 hp]; simp only; omega
        · exact absurd hp (by simp)
      · exact pos_ne o p hp
  omega
theorem totC_nn {l : List Cel} (h : ∀ p ∈ l, 0 ≤ p.n) : 0 ≤ totC l := by
  have h1 := sumB_bd (fun _ => true) h
  omega
theorem totC_cons (c : Cel) (l : List Cel) : totC (c :: l) = c.n + totC l := by simp [totC]
theorem totC_take {l : List Cel} (h : ∀ p ∈ l, 0 ≤ p.n) {i j : Nat} (hij : i ≤ j) : totC (l.take i) ≤ totC (l.take j) := by
  obtain ⟨m, rfl⟩ := Nat.exists_eq_add_of_le hij
  rw [List.take_add, totC_append]
  have h1 := totC_nn (l := (l.drop i).take m) fun p hp => h p (List.mem_of_mem_drop (List.mem_of_mem_take hp))
  omega
theorem totC_all {l : List Cel} (h : ∀ p ∈ l, 0 ≤ p.n) (i : Nat) : totC (l.take i) ≤ totC l := by
  have h1 := totC_take h (i := i) (j := max i l.length) (by omega)
  rw [List.take_of_length_le (i := max i l.length) (by omega)] at h1
  exact h1
theorem totC_succ {l : List Cel} {k : Nat} {p : Cel} (h : l[k]? = some p) : totC (l.take (k + 1)) = totC (l.take k) + p.n := by
  rw [take_snoc l k p h, totC_snoc]
theorem find_spec : ∀ (l : List Cel) (n : Int), (∀ p ∈ l, 0 ≤ p.n) → 0 < n → n ≤ totC l → ∃ (k : Nat) (p : Cel), l[k]? = some p ∧ findC l n = some p ∧ totC (l.take k) < n ∧ n ≤ totC (l.take k) + p.n
  | [], n, _, h0, h1 => by simp [totC] at h1; omega
  | c :: l, n, hp, h0, h1 => by
    rw [totC_cons] at h1
    by_cases e : n ≤ c.n
    · exact ⟨0, c, rfl, by simp [findC, e], by simp [totC]; omega, by simp [totC]; omega⟩
    · obtain ⟨k, p, h2, h3, h4, h5⟩ := find_spec l (n - c.n) (fun p h => hp p (List.mem_cons_of_mem _ h)) (by omega) (by omega)
      refine ⟨k + 1, p, by simpa using h2, by simp [findC, e, h3], ?_, ?_⟩
      · rw [List.take_succ_cons, totC_cons]; omega
      · rw [List.take_succ_cons, totC_cons]; omega
theorem find_of {l : List Cel} (h : ∀ p ∈ l, 0 ≤ p.n) {n : Int} {k : Nat} {p : Cel} (hk : l[k]? = some p) (h0 : totC (l.take k) < n) (h1 : n ≤ totC (l.take k) + p.n) : findC l n = some p := by
  have hs := totC_succ hk
  have h2 := totC_nn (l := l.take k) fun p hp => h p (List.mem_of_mem_take hp)
  have h3 := totC_all h (k + 1)
  obtain ⟨j, q, e1, e2, e3, e4⟩ := find_spec l n h (by omega) (by omega)
  have hs' := totC_succ e1
  have e : k = j := by
    rcases Nat.lt_trichotomy k j with e | e | e
    · have h4 := totC_take h (i := k + 1) (j := j) (by omega)
      omega
    · exact e
    · have h4 := totC_take h (i := j + 1) (j := k) (by omega)
      omega
  subst e
  rw [e2]
  exact e1.symm.trans hk
theorem find_mono {l : List Cel} (h : ∀ p ∈ l, 0 ≤ p.n) {n m : Int} (h0 : 0 < n) (hnm : n ≤ m) (h1 : m ≤ totC l) :
    ∃ (i j : Nat) (p q : Cel), l[i]? = some p ∧ l[j]? = some q ∧ i ≤ j ∧ findC l n = some p ∧ findC l m = some q := by
  obtain ⟨i, p, a1, a2, a3, a4⟩ := find_spec l n h h0 (by omega)
  obtain ⟨j, q, b1, b2, b3, b4⟩ := find_spec l m h (by omega) h1
  refine ⟨i, j, p, q, a1, b1, ?_, a2, b2⟩
  rcases Nat.lt_or_ge j i with e | e
  · have h4 := totC_take h (i := j + 1) (j := i) (by omega)
    have hs' := totC_succ b1
    omega
  · exact e
theorem qN_bd {ct a n : Int} (a0 : 0 ≤ a) (an : a ≤ n) (n0 : 0 < n) (c1 : 0 < ct) : 1 ≤ qN ct a n ∧ qN ct a n ≤ ct := by
  have hm : a * ct ≤ ct * n := by rw [Int.mul_comm]; exact Int.mul_le_mul_of_nonneg_left an (by omega)
  have h1 := up_le n0 hm
  unfold qN
  omega
theorem qN_mono {ct a b n : Int} (c0 : 0 ≤ ct) (ab : a ≤ b) (n0 : 0 < n) : qN ct a n ≤ qN ct b n := by
  have h1 : a * ct ≤ b * ct := Int.mul_le_mul_of_nonneg_right ab c0
  have h2 := up_ge n0 (Int.le_refl (-(-(b * ct) / n)))
  have h3 := up_le (m := -(-(b * ct) / n)) n0 (Int.le_trans h1 h2)
  unfold qN
  omega
theorem qN_zero (ct n : Int) : qN ct 0 n = 1 := by
  have h1 : -(-(0 * ct) / n) = 0 := by simp
  unfold qN
  rw [h1]; rfl
theorem qN_all {ct n : Int} (n0 : 0 < n) (c1 : 0 < ct) : qN ct n n = ct := by
  have h1 : -(n * ct) / n = -ct := by rw [← Int.mul_neg]; exact Int.mul_ediv_cancel_left _ (by omega)
  unfold qN
  rw [h1]
  omega
theorem ct_nn {h : HV} (o : Ok h) : 0 ≤ h.ct := by
  have g := o.toGood; have h1 := g.zc; have h2 := g.nP.cnt; have h3 := g.nQ.cnt; have h4 := g.ct; omega
theorem at_spec {h : HV} (o : Ok h) {n : Int} (n0 : 0 < n) (n1 : n ≤ h.ct) : atE h n = 0 ∧ findC (ordF h) n = some (atC h n) := by
  have hc := ct_nn o
  obtain ⟨e1, e2⟩ := atE_yes (h := h) (n := n) (by omega) (by omega)
  obtain ⟨k, p, h1, h2, _⟩ := find_spec (ordF h) n (fun p hp => (ord_cel o p hp).2) n0 (by rw [tot_ord o]; exact n1)
  refine ⟨e1, ?_⟩
  rw [e2, h2]; rfl
theorem qu_eq {h : HV} {a n : Int} (n0 : 0 < n) (an : a ≤ n) : quE h a n = atE h (qN h.ct a n) ∧ quC h a n = atC h (qN h.ct a n) :=
  ⟨if_neg (by omega), if_neg (by omega)⟩
theorem rises_plain {h : HV} (o : Ok h) (hc : h.ct ≠ 0) {a b n : Int} (a0 : 0 ≤ a) (ab : a ≤ b) (bn : b ≤ n) (n0 : 0 < n) :
    (quE h a n = 0 ∧ quE h b n = 0 ∧ quE h 0 n = 0 ∧ quE h n n = 0) ∧ 0 < (ordF h).length ∧ cmpK (quC h a n) (quC h b n) ≤ 0 ∧ (ordF h)[0]? = some (quC h 0 n) ∧ (ordF h)[(ordF h).length - 1]? = some (quC h n n) := by
  have hc0 := ct_nn o
  have hnn := fun p hp => (ord_cel o p hp).2
  have hps := ord_pos o
  have htot := tot_ord o
  obtain ⟨a1, a2⟩ := qN_bd a0 (Int.le_trans ab bn) n0 (show 0 < h.ct by omega)
  obtain ⟨b1, b2⟩ := qN_bd (Int.le_trans a0 ab) bn n0 (show 0 < h.ct by omega)
  have hab := qN_mono (ct := h.ct) hc0 ab n0
  have z1 := qN_zero h.ct n
  have l1 := qN_all n0 (show 0 < h.ct by omega)
  obtain ⟨ea1, ea2⟩ := at_spec o (n := qN h.ct a n) (by omega) a2
  obtain ⟨eb1, eb2⟩ := at_spec o (n := qN h.ct b n) (by omega) b2
  obtain ⟨ez1, ez2⟩ := at_spec o (n := qN h.ct 0 n) (by omega) (by omega)
  obtain ⟨el1, el2⟩ := at_spec o (n := qN h.ct n n) (by omega) (by omega)
  obtain ⟨i, j, p, q, f1, f2, f3, f4, f5⟩ := find_mono hnn (show 0 < qN h.ct a n by omega) hab (by omega)
  have hlen : 0 < (ordF h).length := by obtain ⟨a1, _⟩ := List.getElem?_eq_some_iff.1 f1; omega
  rw [(qu_eq n0 (Int.le_trans ab bn)).1, (qu_eq n0 bn).1, (qu_eq n0 (Int.le_trans a0 (Int.le_trans ab bn))).1, (qu_eq n0 (Int.le_refl n)).1, (qu_eq n0 (Int.le_trans ab bn)).2, (qu_eq n0 bn).2, (qu_eq n0 (Int.le_trans a0 (Int.le_trans ab bn))).2, (qu_eq n0 (Int.le_refl n)).2]
  refine ⟨⟨ea1, eb1, ez1, el1⟩, hlen, ?_, ?_, ?_⟩
  · rw [← Option.some.inj (f4.symm.trans ea2), ← Option.some.inj (f5.symm.trans eb2)]
    exact ord_le o f1 f2 f3
  · have e0 : (ordF h)[0]? = some (ordF h)[0] := List.getElem?_eq_getElem hlen
    have hp0 := hps _ (List.getElem_mem hlen)
    have e1 := find_of hnn (n := 1) e0 (by simp [totC]) (by simp [totC]; omega)
    rw [z1] at ez2 ⊢
    rw [e0, ← e1, ez2]
  · have hl : (ordF h).length - 1 < (ordF h).length := by omega
    have e0 : (ordF h)[(ordF h).length - 1]? = some (ordF h)[(ordF h).length - 1] := List.getElem?_eq_getElem hl
    have hp0 := hps _ (List.getElem_mem hl)
    have hs := totC_succ e0
    rw [Nat.sub_add_cancel hlen, List.take_of_length_le (Nat.le_refl _)] at hs
    have e1 := find_of hnn (n := h.ct) e0 (by omega) (by omega)
    rw [l1] at el2 ⊢
    rw [e0, ← e1, el2]
theorem num_higher {pd pu qd qu : Int} (hp : plB pd pu = true) (hq : plB qd qu = true) (hh : pd < qd ∨ (qd = pd ∧ pd * pu ≤ qd * qu)) : numF pd pu ≤ numF qd qu := by
  obtain ⟨d1, a1, a2, a3⟩ := plU_of hp
  obtain ⟨d2, b1, b2, b3⟩ := plU_of hq
  unfold numF
  rcases d1 with rfl | rfl | rfl <;> rcases d2 with rfl | rfl | rfl <;> omega
end Go.Proofs.Ytbibhjcmdehdbaa

/-! Compare; keys and cells that are one; the laws' own cell. -/
namespace Go.Proofs.Ytbibhjcmdehdbaa
open Go.RowKit Go.Sort
set_option linter.unusedVariables false

theorem compare_any (a b : Cel) (w : World) :
    Calls Try.prog 29 #[.agg #[.int .i64 a.d, .int .i64 a.s, .int .i64 a.i], .agg #[.int .i64 b.d, .int .i64 b.s, .int .i64 b.i]] w fun e w' => e = .returned (.int .i64 (cmpK a b)) ∧ Below w.heap.size w w' := by
  by_cases h1 : a.d = b.d
  · have h2 : (a.d != b.d) = false := by simpa using h1
    by_cases h3 : a.d < 0
    · have HE := Lib.hid (show cmpV b.i a.i = cmpK a b by unfold cmpK; rw [if_neg (by simpa using h1), if_pos h3])
      clear h1
      go_enter Try.func29, Try.ntmps29
      go_wp2_with (go_at_call 62; refine (cmp_any _ _ _).mono ?_; rintro e w' ⟨rfl, rfl⟩)
      go_ret
      exact ⟨ret_i HE.out, ((Below.refl _ _).alloc (Nat.le_refl _) _).alloc (by simp) _⟩
    · have HE := Lib.hid (show cmpV a.i b.i = cmpK a b by unfold cmpK; rw [if_neg (by simpa using h1), if_neg h3])
      clear h1
      go_enter Try.func29, Try.ntmps29
      go_wp2_with (go_at_call 62; refine (cmp_any _ _ _).mono ?_; rintro e w' ⟨rfl, rfl⟩)
      go_ret
      exact ⟨ret_i HE.out, ((Below.refl _ _).alloc (Nat.le_refl _) _).alloc (by simp) _⟩
  · have h2 : (a.d != b.d) = true := by simpa using h1
    have HE := Lib.hid (show cmpV a.d b.d = cmpK a b by unfold cmpK; rw [if_pos h1])
    clear h1
    go_enter Try.func29, Try.ntmps29
    go_wp2_with (go_at_call 62; refine (cmp_any _ _ _).mono ?_; rintro e w' ⟨rfl, rfl⟩)
    go_ret
    exact ⟨ret_i HE.out, ((Below.refl _ _).alloc (Nat.le_refl _) _).alloc (by simp) _⟩
theorem eqK (a b c : Int) (w : World) : (Op.equalIn 10000 48 (.agg #[.int .i64 a, .int .i64 b, .int .i64 c]) (.agg #[.int .i64 a, .int .i64 b, .int .i64 c])).run Try.prog w = .ok true w := by
  have u3 := Try.underlying3
  have a3 := Try.isAgg3
  have z3 := Try.sizeOf3
  have hS : Try.prog.underlying 48 = some (.struct (Try.prog.fieldsOf 48)) := by kernel_rfl
  have hp : Try.prog.stoodInHeld 48 = false := by kernel_rfl
  rw [show (10000 : Nat) = 9999 + 1 from rfl, run_equalIn_agg w 9999 48 _ _ hS hp]
  simp only [Program.fieldsOf, Try.underlying48]
  go_simp
theorem eqR (a b c n : Int) (w : World) : (Op.equalIn 10000 45 (.agg #[.int .i64 a, .int .i64 b, .int .i64 c, .int .u64 n]) (.agg #[.int .i64 a, .int .i64 b, .int .i64 c, .int .u64 n])).run Try.prog w = .ok true w := by
  have u3 := Try.underlying3
  have a3 := Try.isAgg3
  have z3 := Try.sizeOf3
  have u2 := Try.underlying22
  have a2 := Try.isAgg22
  have z2 := Try.sizeOf22
  have hS : Try.prog.underlying 45 = some (.struct (Try.prog.fieldsOf 45)) := by kernel_rfl
  have hp : Try.prog.stoodInHeld 45 = false := by kernel_rfl
  rw [show (10000 : Nat) = 9999 + 1 from rfl, run_equalIn_agg w 9999 45 _ _ hS hp]
  simp only [Program.fieldsOf, Try.underlying45]
  go_simp
theorem guardK (op : BinOp) (x y : Operand) (xs ys : Array Value) (w : World) : (eqGuard op 48 x y (.agg xs) (.agg ys)).run Try.prog w = .ok () w := run_eqGuard_agg w op _ x y xs ys (by kernel_rfl)
theorem guardR (op : BinOp) (x y : Operand) (xs ys : Array Value) (w : World) : (eqGuard op 45 x y (.agg xs) (.agg ys)).run Try.prog w = .ok () w := run_eqGuard_agg w op _ x y xs ys (by kernel_rfl)
theorem lcell_any (d s i n : Int) (w : World) :
    Calls Try.prog 28 #[.agg #[.int .i64 d, .int .i64 s, .int .i64 i], .int .u64 n] w fun e w' => e = .returned (.agg #[.int .i64 d, .int .i64 s, .int .i64 i, .int .u64 n]) ∧ Below w.heap.size w w' := by
  go_enter Try.func28, Try.ntmps28
  go_wp2
  exact bodyPost_ret (v := .agg #[.int .i64 d, .int .i64 s, .int .i64 i, .int .u64 n]) (by simp [results, Try.results28, go_sem]) rfl ⟨rfl, ((Below.refl _ _).alloc (Nat.le_refl _) _).alloc (by simp) _⟩
end Go.Proofs.Ytbibhjcmdehdbaa
