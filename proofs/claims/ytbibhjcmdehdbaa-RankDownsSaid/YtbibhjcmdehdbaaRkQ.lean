/- The law RankDowns: its walk. -/
import Derived.Test.YtbibhjcmdehdbaaRkU
import Derived.Test.YtbibhjcmdehdbaaMdS
import Derived.Deep.QuietTactic
import Derived.BigQuiet
import Derived.Lib.QuietBelow
/-! A histogram by a coarser schema: where its observations are. Plain data. -/
namespace Go.Proofs.Ytbibhjcmdehdbaa
open Go.RowKit Go.Sort
set_option linter.unusedVariables false

/-- where a bucket stands in order, as a number -/
def kiN (d i : Int) : Int := d * (i + 1099511627776)
def KI (c : Cel) : Int := kiN c.d c.i
/-- the index of the coarser bucket -/
def tvI (f t d i : Int) : Int := if d = 0 then i else toV f t i
def KG (f t : Int) (c : Cel) : Int := kiN c.d (tvI f t c.d c.i)
theorem sumB_cons (f : Cel → Bool) (a : Cel) (l : List Cel) : sumB f (a :: l) = (if f a = true then a.n else 0) + sumB f l := by
  rcases hf : f a with _ | _ <;> simp [sumB, hf]
theorem sumB_app (f : Cel → Bool) (l m : List Cel) : sumB f (l ++ m) = sumB f l + sumB f m := by simp [sumB]
theorem sumB_congr {f g : Cel → Bool} : ∀ {l : List Cel}, (∀ p ∈ l, f p = g p) → sumB f l = sumB g l
  | [], _ => rfl
  | a :: l, h => by
    rw [sumB_cons, sumB_cons, h a (List.mem_cons_self ..), sumB_congr fun p hp => h p (List.mem_cons_of_mem _ hp)]
theorem cw_rev (G : Int → Bool) (l : List (Int × Int)) : cw G l.reverse = cw G l := by
  unfold cw; rw [List.filter_reverse, cnt_rev]
theorem sumB_celF (F : Int → Int → Bool) (d s : Int) (l : List (Int × Int)) : sumB (fun c => F c.d c.i) (l.map (celF d s)) = cw (F d) l := by
  induction l with
  | nil => rfl
  | cons p l ih => rw [List.map_cons, sumB_cons, cw_cons, ih]; rfl
theorem sumB_ord {h : HV} (z0 : 0 ≤ h.zc) (F : Int → Int → Bool) : sumB (fun c => F c.d c.i) (ordF h) = cw (F (-1)) h.Q + ((if F 0 0 = true then h.zc else 0) + cw (F 1) h.P) := by
  unfold ordF negL posL
  rw [sumB_app, sumB_app, sumB_celF, sumB_celF, cw_rev]
  have e : sumB (fun c => F c.d c.i) (zeroL h) = if F 0 0 = true then h.zc else 0 := by
    unfold zeroL
    split
    · rw [sumB_cons]; simp [sumB]
    · have e0 : h.zc = 0 := by omega
      rw [e0]; simp [sumB]
  rw [e]
theorem toV_mono {f t i j : Int} (h : i ≤ j) : toV f t i ≤ toV f t j := by
  unfold toV upv
  have h1 := Int.ediv_le_ediv (two_pow_pos' (f - t).toNat) (show -j ≤ -i by omega)
  omega
theorem toV_same (s i : Int) : toV s s i = i := by
  unfold toV upv
  rw [Int.sub_self]
  simp
theorem mv_same (s : Int) (l : List (Int × Int)) : mv s s l = l := by
  unfold mv
  conv => rhs; rw [← List.map_id l]
  exact List.map_congr_left fun p _ => by rw [toV_same]; rfl
theorem coarse_same {h : HV} (o : Ok h) : coarseH h h.s = h := by
  unfold coarseH
  rw [mv_same, mv_same, tidy_self o.aP o.pP, tidy_self o.aQ o.pQ]
theorem down_coarse {h : HV} (o : Ok h) (hz : h.z = -524288) {t : Int} (ht : rightB t = true) (hle : t ≤ h.s) : downF h t = coarseH h t := by
  unfold downF
  split
  · rename_i e
    rw [e, coarse_same o]
  · have hex : un t (cl t (-524288)) = -524288 := by
      rw [cl_eq]; unfold un
      rcases uw_cases ht with e | e | e | e | e | e | e | e | e | e | e | e | e <;> rw [e] <;> decide
    have hin : ∀ (L : List (Int × Int)), (∀ p ∈ L, inB h.s p.1 = true) → ∀ p ∈ tidy (mv h.s t L), -524288 ≤ un t (p.1 - 1) := by
      intro L hL p hp
      have h1 : inB t p.1 = true := by
        have h2 : ∀ q ∈ mv h.s t L, inB t q.1 = true := fun q hq => by
          obtain ⟨r, hr, rfl⟩ := mem_mv hq
          exact to_in o.s ht hle (hL r hr)
        obtain ⟨q, hq, e⟩ := mem_tidy hp
        rw [← e]; exact h2 q hq
      have h2 := ((in_iff ht).1 h1).1
      rw [un_pred]
      have := uw_bd ht
      omega
    have e1 : outF (coarseH h t).s ((coarseH h t).P ++ (coarseH h t).Q) h.z = -524288 := by
      unfold outF
      rw [hz]
      exact if_neg fun g => g.2 hex.symm
    unfold swF
    rw [e1]
    unfold cutTo
    have k1 := keep_all ht (hin h.P o.iP)
    have k2 := keep_all ht (hin h.Q o.iQ)
    show HV.mk h.k t (-524288) (h.zc + goneN t (-524288) (tidy (mv h.s t h.P)) + goneN t (-524288) (tidy (mv h.s t h.Q))) h.ct h.sm (keepL t (-524288) (tidy (mv h.s t h.P))) (keepL t (-524288) (tidy (mv h.s t h.Q))) = HV.mk h.k t h.z h.zc h.ct h.sm (tidy (mv h.s t h.P)) (tidy (mv h.s t h.Q))
    rw [k1.1, k1.2, k2.1, k2.2, hz, Int.add_zero, Int.add_zero]
/-- what a coarser one has, told by what the finer one has -/
theorem sumB_down {h : HV} (z0 : 0 ≤ h.zc) (t : Int) (F : Int → Int → Bool) : sumB (fun c => F c.d c.i) (ordF (coarseH h t)) = sumB (fun c => F c.d (tvI h.s t c.d c.i)) (ordF h) := by
  rw [sumB_ord (h := coarseH h t) z0, sumB_ord z0 fun d i => F d (tvI h.s t d i)]
  have e1 : cw (F (-1)) (coarseH h t).Q = cw (fun i => F (-1) (tvI h.s t (-1) i)) h.Q := by
    show cw (F (-1)) (tidy (mv h.s t h.Q)) = _
    rw [cw_tidy, mv, cw_map]; rfl
  have e2 : cw (F 1) (coarseH h t).P = cw (fun i => F 1 (tvI h.s t 1 i)) h.P := by
    show cw (F 1) (tidy (mv h.s t h.P)) = _
    rw [cw_tidy, mv, cw_map]; rfl
  rw [e1, e2]; rfl
theorem ord_kd {h : HV} (o : Ok h) : ∀ p ∈ ordF h, (p.d = 0 ∧ p.i = 0 ∧ p.s = 0) ∨ ((p.d = -1 ∨ p.d = 1) ∧ p.s = h.s ∧ inB h.s p.i = true) := fun p hp => by
  unfold ordF at hp
  rcases List.mem_append.1 hp with hp | hp
  · unfold negL at hp
    obtain ⟨q, hq, rfl⟩ := List.mem_map.1 hp
    exact Or.inr ⟨Or.inl rfl, rfl, o.iQ q (List.mem_reverse.1 hq)⟩
  · rcases List.mem_append.1 hp with hp | hp
    · unfold zeroL at hp
      split at hp
      · rw [List.mem_singleton.1 hp]; exact Or.inl ⟨rfl, rfl, rfl⟩
      · exact absurd hp (by simp)
    · unfold posL at hp
      obtain ⟨q, hq, rfl⟩ := List.mem_map.1 hp
      exact Or.inr ⟨Or.inr rfl, rfl, o.iP q hq⟩
theorem ord_bd {h : HV} (o : Ok h) {p : Cel} (hp : p ∈ ordF h) : (p.d = -1 ∨ p.d = 0 ∨ p.d = 1) ∧ -262144 ≤ p.i ∧ p.i ≤ 262144 := by
  rcases ord_kd o p hp with ⟨h1, h2, _⟩ | ⟨h1, _, h3⟩
  · omega
  · have := in_bd h3
    omega
theorem ord_ki {h : HV} (o : Ok h) : (ordF h).Pairwise fun a b => KI a < KI b := by
  refine List.Pairwise.imp_of_mem (fun {a b} ha hb hab => ?_) (ord_up o)
  obtain ⟨d1, a1, a2⟩ := ord_bd o ha
  obtain ⟨d2, b1, b2⟩ := ord_bd o hb
  have h1 := hab.1
  have key : ∀ {x y : Int}, cmpV x y = -1 → x < y := fun {x y} g => by
    unfold cmpV at g
    by_cases g1 : x < y
    · exact g1
    · rw [if_neg g1] at g
      by_cases g2 : y < x
      · rw [if_pos g2] at g; omega
      · rw [if_neg g2] at g; omega
  unfold cmpK at h1
  unfold KI kiN
  by_cases e : a.d = b.d
  · rw [if_neg (by simpa using e)] at h1
    by_cases e' : a.d < 0
    · rw [if_pos e'] at h1
      have := key h1
      have e1 : a.d = -1 := by omega
      rw [← e, e1]; omega
    · rw [if_neg e'] at h1
      have := key h1
      rcases d1 with e1 | e1 | e1
      · omega
      · have := (ord_kd o a ha); have := (ord_kd o b hb); omega
      · rw [← e, e1]; omega
  · rw [if_pos e] at h1
    have := key h1
    rcases d1 with e1 | e1 | e1 <;> rcases d2 with e2 | e2 | e2 <;> rw [e1, e2] <;> omega
theorem take_lt : ∀ {l : List Cel}, (l.Pairwise fun a b => KI a < KI b) → ∀ {k : Nat} {p : Cel}, l[k]? = some p → totC (l.take k) = sumB (fun c => decide (KI c < KI p)) l
  | [], _, k, p, h => by simp at h
  | a :: l, hs, 0, p, h => by
    obtain rfl : a = p := by simpa using h
    have h1 := (List.pairwise_cons.1 hs).1
    rw [sumB_cons, if_neg (by simp), sumB_none fun c hc => by rw [decide_eq_false_iff_not]; have := h1 c hc; omega]
    rfl
  | a :: l, hs, k + 1, p, h => by
    obtain ⟨h1, h2⟩ := List.pairwise_cons.1 hs
    have h3 : l[k]? = some p := by simpa using h
    rw [List.take_succ_cons, totC_cons, sumB_cons, take_lt h2 h3, if_pos (by rw [decide_eq_true_eq]; exact h1 p (mem_of_at h3))]
theorem take_le : ∀ {l : List Cel}, (l.Pairwise fun a b => KI a < KI b) → ∀ {k : Nat} {p : Cel}, l[k]? = some p → totC (l.take k) + p.n = sumB (fun c => decide (KI c ≤ KI p)) l
  | [], _, k, p, h => by simp at h
  | a :: l, hs, 0, p, h => by
    obtain rfl : a = p := by simpa using h
    have h1 := (List.pairwise_cons.1 hs).1
    rw [sumB_cons, if_pos (by simp), sumB_none fun c hc => by rw [decide_eq_false_iff_not]; have := h1 c hc; omega]
    simp [totC]
  | a :: l, hs, k + 1, p, h => by
    obtain ⟨h1, h2⟩ := List.pairwise_cons.1 hs
    have h3 : l[k]? = some p := by simpa using h
    rw [List.take_succ_cons, totC_cons, sumB_cons, ← take_le h2 h3, if_pos (by rw [decide_eq_true_eq]; have := h1 p (mem_of_at h3); omega)]
    omega
theorem kg_mono {h : HV} (o : Ok h) {t : Int} {a b : Cel} (ha : a ∈ ordF h) (hb : b ∈ ordF h) (hk : KI a ≤ KI b) : KG h.s t a ≤ KG h.s t b := by
  have bd : ∀ {c : Cel}, c ∈ ordF h → c.d ≠ 0 → -262144 ≤ toV h.s t c.i ∧ toV h.s t c.i ≤ 262144 := fun {c} hc hd => by
    rcases ord_kd o c hc with ⟨h1, _⟩ | ⟨_, _, h3⟩
    · exact absurd h1 hd
    · have := to_bd (f := h.s) (t := t) h3
      omega
  obtain ⟨d1, a1, a2⟩ := ord_bd o ha
  obtain ⟨d2, b1, b2⟩ := ord_bd o hb
  have ta := bd ha
  have tb := bd hb
  have m1 := @toV_mono h.s t a.i b.i
  have m2 := @toV_mono h.s t b.i a.i
  unfold KI kiN at hk
  unfold KG kiN tvI
  rcases d1 with e1 | e1 | e1 <;> rcases d2 with e2 | e2 | e2 <;> rw [e1, e2] at hk ⊢ <;> simp [e1] at ta <;> simp [e2] at tb <;> simp at hk ⊢ <;> omega
theorem downs_at {h : HV} (o : Ok h) {t : Int} (ht : rightB t = true) (hle : t ≤ h.s) (od : Ok (coarseH h t)) {n : Int} (n0 : 0 < n) (n1 : n ≤ h.ct) :
    (atC (coarseH h t) n).d = (atC h n).d ∧ ((atC h n).d = 0 ∨ ((atC (coarseH h t) n).s = t ∧ (atC (coarseH h t) n).i = toV h.s t (atC h n).i ∧ (atC h n).s = h.s ∧ inB h.s (atC h n).i = true)) := by
  have hct : (coarseH h t).ct = h.ct := rfl
  obtain ⟨_, e2⟩ := at_spec o n0 n1
  obtain ⟨_, f2⟩ := at_spec od n0 (by rw [hct]; exact n1)
  obtain ⟨k, p, a1, a2, a3, a4⟩ := find_spec (ordF h) n (fun p hp => (ord_cel o p hp).2) n0 (by rw [tot_ord o]; exact n1)
  obtain ⟨j, q, b1, b2, b3, b4⟩ := find_spec (ordF (coarseH h t)) n (fun p hp => (ord_cel od p hp).2) n0 (by rw [tot_ord od, hct]; exact n1)
  rw [Option.some.inj (e2.symm.trans a2), Option.some.inj (f2.symm.trans b2)]
  have hp := mem_of_at a1
  have hq := mem_of_at b1
  rw [take_lt (ord_ki o) a1] at a3
  rw [take_le (ord_ki o) a1] at a4
  rw [take_lt (ord_ki od) b1, show sumB (fun c : Cel => decide (KI c < KI q)) (ordF (coarseH h t)) = _ from sumB_down o.zc t fun d i => decide (kiN d i < KI q)] at b3
  rw [take_le (ord_ki od) b1, show sumB (fun c : Cel => decide (KI c ≤ KI q)) (ordF (coarseH h t)) = _ from sumB_down o.zc t fun d i => decide (kiN d i ≤ KI q)] at b4
  have hnn := fun (p : Cel) (hp : p ∈ ordF h) => (ord_cel o p hp).2
  have hkey : KG h.s t p = KI q := by
    rcases Int.lt_trichotomy (KG h.s t p) (KI q) with g | g | g
    · exfalso
      have := sumB_mono hnn (f := fun c => decide (KI c ≤ KI p)) (g := fun c => decide (kiN c.d (tvI h.s t c.d c.i) < KI q)) fun c hc hcp => by
        rw [decide_eq_true_eq] at hcp ⊢
        have := kg_mono o (t := t) hc hp hcp
        unfold KG at this g
        omega
      omega
    · exact g
    · exfalso
      have := sumB_mono hnn (f := fun c => decide (kiN c.d (tvI h.s t c.d c.i) ≤ KI q)) (g := fun c => decide (KI c < KI p)) fun c hc hcp => by
        rw [decide_eq_true_eq] at hcp ⊢
        rcases Int.lt_or_le (KI c) (KI p) with g' | g'
        · exact g'
        · have := kg_mono o (t := t) hp hc g'
          unfold KG at this g
          omega
      omega
  have kp := ord_kd o p hp
  have kq := ord_kd od q hq
  have hs : (coarseH h t).s = t := rfl
  rw [hs] at kq
  unfold KG KI kiN tvI at hkey
  rcases kp with ⟨p1, p2, p3⟩ | ⟨p1, p2, p3⟩
  · rcases kq with ⟨q1, q2, q3⟩ | ⟨q1, q2, q3⟩
    · exact ⟨by rw [p1, q1], Or.inl p1⟩
    · have := in_bd q3
      rw [p1] at hkey
      rcases q1 with e | e <;> rw [e] at hkey <;> simp at hkey <;> omega
  · have tb := to_bd (f := h.s) (t := t) p3
    rcases kq with ⟨q1, q2, q3⟩ | ⟨q1, q2, q3⟩
    · rw [q1] at hkey
      rcases p1 with e | e <;> rw [e] at hkey <;> simp at hkey <;> omega
    · have tq := in_bd q3
      rcases p1 with e | e <;> rcases q1 with e' | e' <;> rw [e, e'] at hkey <;> simp at hkey <;> first | (exfalso; omega) | exact ⟨by rw [e, e'], Or.inr ⟨q2, by omega, p2, p3⟩⟩
end Go.Proofs.Ytbibhjcmdehdbaa

/-! How much lies below a coarser bound, of a histogram and of it by that schema. Plain data. -/
namespace Go.Proofs.Ytbibhjcmdehdbaa
open Go.RowKit Go.Sort
set_option linter.unusedVariables false

theorem uw_dvd {s t : Int} (hs : rightB s = true) (ht : rightB t = true) (h : t ≤ s) : ∃ m, uw t = uw s * m := by
  have bs := right_yes hs
  have bt := right_yes ht
  have e : (8 - t).toNat = (8 - s).toNat + (s - t).toNat := by omega
  exact ⟨2 ^ (s - t).toNat, by unfold uw; rw [e, Int.pow_add]⟩
/-- of two multiples one is less just if it is a step less -/
theorem step_le {a b w : Int} (hw : 0 < w) (h : a * w < b * w) : a * w ≤ b * w - w := by
  have h1 := Int.lt_of_mul_lt_mul_right h (Int.le_of_lt hw)
  have h2 : a * w ≤ (b - 1) * w := Int.mul_le_mul_of_nonneg_right (by omega) (Int.le_of_lt hw)
  rw [Int.sub_mul, Int.one_mul] at h2
  exact h2
theorem beg_bd {s i : Int} (h : inB s i = true) (hs : rightB s = true) : -262144 < un s i ∧ un s i ≤ 262144 ∧ -262144 ≤ un s (i - 1) ∧ un s (i - 1) < un s i := by
  obtain ⟨h1, h2⟩ := (in_iff hs).1 h
  have hw := uw_bd hs
  refine ⟨h1, h2, ?_, by rw [un_pred]; omega⟩
  rw [un_pred]
  unfold un at h1 ⊢
  rcases uw_cases hs with e | e | e | e | e | e | e | e | e | e | e | e | e <;> rw [e] at h1 ⊢ <;> omega
/-- no bucket of a schema has a bound of a coarser one in its midst -/
theorem mid_none {s t j z pd : Int} (hz : z = -524288) (hs : rightB s = true) (ht : rightB t = true) (hle : t ≤ s) {c : Cel} (hc : (c.d = 0 ∧ c.i = 0 ∧ c.s = 0) ∨ ((c.d = -1 ∨ c.d = 1) ∧ c.s = s ∧ inB s c.i = true)) (hp : pd = 1 ∨ pd = -1) (u0 : -262144 < un t j) (u1 : un t j ≤ 262144) :
    midB z pd (un t j) c = false := by
  obtain ⟨m, hm⟩ := uw_dvd hs ht hle
  have hw := uw_bd hs
  have hu : un t j = (j * m) * uw s := by unfold un; rw [hm, Int.mul_comm (uw s), Int.mul_assoc]
  unfold midB belB
  rcases hc with ⟨c1, c2, c3⟩ | ⟨c1, c2, c3⟩
  · have e1 : hiD c z = 0 ∧ hiU c z = 0 ∧ loD c z = 0 ∧ loU c z = 0 := by unfold hiD hiU loD loU; simp [c1, hz]
    rw [e1.1, e1.2.1, e1.2.2.1, e1.2.2.2]
    by_cases g : numF 0 0 ≤ numF pd (un t j)
    · simp [g]
    · have : ¬ numF 0 0 < numF pd (un t j) := by omega
      simp [g, this]
  · obtain ⟨b1, b2, b3, b4⟩ := beg_bd c3 hs
    have hpr := un_pred s c.i
    have hst : un t j < un s c.i → un t j ≤ un s (c.i - 1) := fun g => by
      rw [hpr]
      rw [hu] at g ⊢
      exact step_le (by omega) g
    have hst2 : un s (c.i - 1) < un t j → un s c.i ≤ un t j := fun g => by
      have g2 : (c.i - 1) * uw s < (j * m) * uw s := by rw [← hu]; exact g
      have := step_le (show 0 < uw s by omega) g2
      rw [← hu] at this
      have e : (c.i - 1) * uw s = un s (c.i - 1) := rfl
      rw [e] at this
      omega
    rcases c1 with e | e
    · have e1 : hiD c z = -1 ∧ hiU c z = un s (c.i - 1) ∧ loD c z = -1 ∧ loU c z = un s c.i := by unfold hiD hiU loD loU; simp [e, c2]
      rw [e1.1, e1.2.1, e1.2.2.1, e1.2.2.2]
      unfold numF
      rcases hp with rfl | rfl
      · rw [show decide (-1 * (un s (c.i - 1) + 262144 + 1) ≤ 1 * (un t j + 262144 + 1)) = true from by rw [decide_eq_true_eq]; omega]; rfl
      · by_cases g : un t j ≤ un s (c.i - 1)
        · rw [show decide (-1 * (un s (c.i - 1) + 262144 + 1) ≤ -1 * (un t j + 262144 + 1)) = true from by rw [decide_eq_true_eq]; omega]; rfl
        · have := hst2 (by omega)
          rw [show decide (-1 * (un s c.i + 262144 + 1) < -1 * (un t j + 262144 + 1)) = false from by rw [decide_eq_false_iff_not]; omega, Bool.and_false]
    · have e1 : hiD c z = 1 ∧ hiU c z = un s c.i ∧ loD c z = 1 ∧ loU c z = un s (c.i - 1) := by unfold hiD hiU loD loU; simp [e, c2]
      rw [e1.1, e1.2.1, e1.2.2.1, e1.2.2.2]
      unfold numF
      rcases hp with rfl | rfl
      · by_cases g : un s c.i ≤ un t j
        · rw [show decide (1 * (un s c.i + 262144 + 1) ≤ 1 * (un t j + 262144 + 1)) = true from by rw [decide_eq_true_eq]; omega]; rfl
        · have := hst (by omega)
          rw [show decide (1 * (un s (c.i - 1) + 262144 + 1) < 1 * (un t j + 262144 + 1)) = false from by rw [decide_eq_false_iff_not]; omega, Bool.and_false]
      · rw [show decide (1 * (un s (c.i - 1) + 262144 + 1) < -1 * (un t j + 262144 + 1)) = false from by rw [decide_eq_false_iff_not]; omega, Bool.and_false]
/-- a bucket lies below a coarser bound just if the coarser bucket does -/
theorem bel_down {s t j z pd : Int} (hz : z = -524288) (hs : rightB s = true) (ht : rightB t = true) (hle : t ≤ s) {c : Cel} (hc : (c.d = 0 ∧ c.i = 0 ∧ c.s = 0) ∨ ((c.d = -1 ∨ c.d = 1) ∧ c.s = s ∧ inB s c.i = true)) (hp : pd = 1 ∨ pd = -1) (u0 : -262144 < un t j) (u1 : un t j ≤ 262144) :
    belB z pd (un t j) c = belB z pd (un t j) ⟨c.d, t, tvI s t c.d c.i, 0⟩ := by
  obtain ⟨m, hm⟩ := uw_dvd hs ht hle
  have hw := uw_bd hs
  have hwt := uw_bd ht
  unfold belB
  rcases hc with ⟨c1, c2, c3⟩ | ⟨c1, c2, c3⟩
  · have e1 : hiD c z = 0 ∧ hiU c z = 0 := by unfold hiD hiU; simp [c1, hz]
    have e2 : hiD ⟨c.d, t, tvI s t c.d c.i, 0⟩ z = 0 ∧ hiU ⟨c.d, t, tvI s t c.d c.i, 0⟩ z = 0 := by unfold hiD hiU; simp [c1, hz]
    rw [e1.1, e1.2, e2.1, e2.2]
  · obtain ⟨b1, b2, b3, b4⟩ := beg_bd c3 hs
    obtain ⟨J, hJ⟩ : ∃ J, toV s t c.i = J := ⟨_, rfl⟩
    have htc := to_cl (i := c.i) hs ht hle
    rw [hJ] at htc
    have hbt := cl_bounds ht (un s c.i)
    rw [← htc] at hbt
    have hJin : inB t J = true := by rw [← hJ]; exact to_in hs ht hle c3
    obtain ⟨d1, d2, d3, d4⟩ := beg_bd hJin ht
    have hpr := un_pred s c.i
    have hprJ := un_pred t J
    -- the coarser one's beginning is at or below the finer one's
    have hbeg : un t (J - 1) ≤ un s (c.i - 1) := by
      rw [hpr]
      have e : un t (J - 1) = ((J - 1) * m) * uw s := by unfold un; rw [hm, Int.mul_comm (uw s), Int.mul_assoc]
      have g := hbt.1
      rw [e] at g ⊢
      exact step_le (by omega) g
    have up : ∀ {a b : Int}, a ≤ b → un t a ≤ un t b := fun {a b} g => Int.mul_le_mul_of_nonneg_right g (by omega)
    have lo : ∀ {a b : Int}, un t a < un t b → a < b := fun {a b} g => Int.lt_of_mul_lt_mul_right g (by omega)
    have tv : tvI s t c.d c.i = J := by
      unfold tvI
      rw [if_neg (by omega)]; exact hJ
    rw [tv]
    rcases c1 with e | e
    · have e1 : hiD c z = -1 ∧ hiU c z = un s (c.i - 1) := by unfold hiD hiU; simp [e, c2]
      have e2 : hiD ⟨c.d, t, J, 0⟩ z = -1 ∧ hiU ⟨c.d, t, J, 0⟩ z = un t (J - 1) := by unfold hiD hiU; simp [e]
      rw [e1.1, e1.2, e2.1, e2.2]
      unfold numF
      have key : un t j ≤ un s (c.i - 1) ↔ un t j ≤ un t (J - 1) := ⟨fun g => up (by have := lo (a := j) (b := J) (by omega); omega), fun g => by omega⟩
      rcases hp with rfl | rfl
      · rw [decide_eq_decide]; omega
      · rw [decide_eq_decide]; omega
    · have e1 : hiD c z = 1 ∧ hiU c z = un s c.i := by unfold hiD hiU; simp [e, c2]
      have e2 : hiD ⟨c.d, t, J, 0⟩ z = 1 ∧ hiU ⟨c.d, t, J, 0⟩ z = un t J := by unfold hiD hiU; simp [e]
      rw [e1.1, e1.2, e2.1, e2.2]
      unfold numF
      have key : un s c.i ≤ un t j ↔ un t J ≤ un t j := ⟨fun g => up (by have := lo (a := J - 1) (b := j) (by omega); omega), fun g => by omega⟩
      rcases hp with rfl | rfl
      · rw [decide_eq_decide]; omega
      · rw [decide_eq_decide]; omega
theorem downs_below {h : HV} (o : Ok h) (hz : h.z = -524288) {t : Int} (ht : rightB t = true) (hle : t ≤ h.s) (od : Ok (coarseH h t)) {pd j : Int} (hp : pd = 1 ∨ pd = -1) :
    belE (coarseH h t) pd (un t j) = belE h pd (un t j) ∧ belX (coarseH h t) pd (un t j) = belX h pd (un t j) ∧ belM (coarseH h t) pd (un t j) = belM h pd (un t j) ∧ belA (coarseH h t) pd (un t j) = belA h pd (un t j) := by
  have e0 : belE (coarseH h t) pd (un t j) = belE h pd (un t j) := rfl
  refine ⟨e0, ?_, ?_, by unfold belA; rw [e0]; rfl⟩
  · unfold belX
    rw [e0]
    split
    · rename_i he
      have hpl : plB pd (un t j) = true := by
        rcases hb : plB pd (un t j) with _ | _
        · rw [(belE_no (h := h) hb).1] at he; cases he
        · rfl
      obtain ⟨_, u0, u1, _⟩ := plU_of hpl
      have u2 : -262144 < un t j := by
        unfold plB at hpl
        rw [if_neg (by omega), if_pos (by omega), decide_eq_true_eq] at hpl
        exact hpl.1
      have hzc : (coarseH h t).z = h.z := rfl
      rw [hzc]
      have a1 : sumB (belB h.z pd (un t j)) (ordF (coarseH h t)) = sumB (fun c => (fun d i => belB h.z pd (un t j) ⟨d, t, i, 0⟩) c.d c.i) (ordF (coarseH h t)) := sumB_congr fun c hc => by
        rcases ord_kd od c hc with ⟨c1, c2, c3⟩ | ⟨c1, c2, c3⟩
        · unfold belB hiD hiU; simp [c1, hz]
        · have c4 : c.s = t := c2
          unfold belB hiD hiU; simp [c4]
      refine a1.trans ((sumB_down o.zc t fun d i => belB h.z pd (un t j) ⟨d, t, i, 0⟩).trans ?_)
      exact sumB_congr fun c hc => (bel_down hz o.s ht hle (ord_kd o c hc) hp u2 u1).symm
    · rfl
  · unfold belM
    rw [e0]
    split
    · rename_i he
      have hpl : plB pd (un t j) = true := by
        rcases hb : plB pd (un t j) with _ | _
        · rw [(belE_no (h := h) hb).1] at he; cases he
        · rfl
      obtain ⟨_, u0, u1, _⟩ := plU_of hpl
      have u2 : -262144 < un t j := by
        unfold plB at hpl
        rw [if_neg (by omega), if_pos (by omega), decide_eq_true_eq] at hpl
        exact hpl.1
      have hzc : (coarseH h t).z = h.z := rfl
      rw [hzc, sumB_none (f := midB h.z pd (un t j)) (l := ordF (coarseH h t)) fun c hc => mid_none (s := t) hz ht ht (Int.le_refl t) (ord_kd od c hc) hp u2 u1]
      exact (sumB_none fun c hc => mid_none hz o.s ht hle (ord_kd o c hc) hp u2 u1).symm
    · rfl
end Go.Proofs.Ytbibhjcmdehdbaa

/-! The law RankDowns: its walk. -/
namespace Go.Proofs.Ytbibhjcmdehdbaa
open Go.RowKit Go.Sort
set_option linter.unusedVariables false

theorem has_yes (a s i b t k : Int) (w : World) (ho : okTo t s = true) (hk : inB t k = true) :
    Calls Try.prog 37 #[.agg #[.int .i64 a, .int .i64 s, .int .i64 i], .agg #[.int .i64 b, .int .i64 t, .int .i64 k]] w fun e w' => e = .returned (.bool (hasB a s i b t k)) ∧ Below w.heap.size w w' := by
  by_cases h : a = b
  · have h1 : (a == b) = true := by simpa using h
    have hE := Lib.hid (show (i == toV t s k) = hasB a s i b t k by unfold hasB; rw [ho, hk, decide_eq_true h]; rfl)
    clear h
    go_enter Try.func37, Try.ntmps37
    go_wp2_with (go_at_call 76; refine (to_yes _ _ _ _ ho hk).mono ?_; rintro e w' ⟨rfl, rfl⟩)
    go_ret
    exact ⟨ret_bool hE.out, ((Below.refl _ _).alloc (Nat.le_refl _) _).alloc (by simp) _⟩
  · have h1 : (a == b) = false := by simpa using h
    have hE := Lib.hid (show false = hasB a s i b t k by unfold hasB; rw [ho, hk, decide_eq_false h]; rfl)
    clear h
    go_enter Try.func37, Try.ntmps37
    go_wp2_with (go_at_call 76; refine (to_yes _ _ _ _ ho hk).mono ?_; rintro e w' ⟨rfl, rfl⟩)
    go_ret
    exact ⟨ret_bool hE.out, ((Below.refl _ _).alloc (Nat.le_refl _) _).alloc (by simp) _⟩
theorem eqP3 (a b c : Int) (w : World) : (Op.equalIn 10000 62 (.agg #[.int .u64 a, .int .u64 b, .int .u64 c]) (.agg #[.int .u64 a, .int .u64 b, .int .u64 c])).run Try.prog w = .ok true w := by
  have u2 := Try.underlying22
  have a2 := Try.isAgg22
  have z2 := Try.sizeOf22
  have hS : Try.prog.underlying 62 = some (.struct (Try.prog.fieldsOf 62)) := by kernel_rfl
  have hp : Try.prog.stoodInHeld 62 = false := by kernel_rfl
  rw [show (10000 : Nat) = 9999 + 1 from rfl, run_equalIn_agg w 9999 62 _ _ hS hp]
  simp only [Program.fieldsOf, Try.underlying62]
  go_simp
set_option maxHeartbeats 4000000 in
set_option maxRecDepth 100000 in
theorem rankDowns_walk (h : HV) (A B : Option Addr) (c d : Nat) (t n : Int) (sd : Bool) (ix : Int) (w : World) (hP : Bk w A h.P) (hQ : Bk w B h.Q) (z0 : 0 ≤ h.zc) (z1 : h.zc ≤ 18446744073709551615) (hsm : inI64 h.sm) (n0 : 0 ≤ n) (n1 : n ≤ 18446744073709551615) (i0 : -32768 ≤ ix) (i1 : ix ≤ 32767) :
    Calls Try.prog 10 #[.agg #[.int .i64 h.k, .int .i64 h.s, .int .i64 h.z, .int .u64 h.zc, .int .u64 h.ct, .int .i64 h.sm, .slice A h.P.length c, .slice B h.Q.length d], .int .i64 t, .int .u64 n, .bool sd, .int .i16 ix] w fun e w' => e = .returned (.bool true) ∧ Below w.heap.size w w' := by
  have hb0 : Below w.heap.size w (w.alloc (.cells #[.int .i64 h.k, .int .i64 h.s, .int .i64 h.z, .int .u64 h.zc, .int .u64 h.ct, .int .i64 h.sm, .slice A h.P.length c, .slice B h.Q.length d] 25)) := (Below.refl _ _).alloc (Nat.le_refl _) _
  have HB0 := Lib.hid hb0
  have HX0 := Lib.hid (Rb.new w w.heap.size rfl 25 #[.int .i64 h.k, .int .i64 h.s, .int .i64 h.z, .int .u64 h.zc, .int .u64 h.ct, .int .i64 h.sm, .slice A h.P.length c, .slice B h.Q.length d])
  have HK0 := Lib.hid (And.intro (hP.below hb0) (hQ.below hb0))
  have HW := Lib.hid (And.intro hP.2.1 hQ.2.1)
  have HK := Lib.hid (And.intro hP hQ)
  have HZ := Lib.hid (And.intro (And.intro z0 z1) hsm)
  clear hP hQ hb0 z0 z1 hsm
  go_enter Try.func10, Try.ntmps10
  go_upto_region 1 with fail
  generalize (w.alloc (.cells #[.int .i64 h.k, .int .i64 h.s, .int .i64 h.z, .int .u64 h.zc, .int .u64 h.ct, .int .i64 h.sm, .slice A h.P.length c, .slice B h.Q.length d] 25)) = w0 at *
  obtain ⟨x0, x1, x2, x3, x4, x5, x6, x7⟩ := HX0.out.eight
  have xl := HX0.out.lt
  go_wp2_with fail
  refine (right08 h A B c d w0 HK0.out.1 HK0.out.2 HZ.out.1.1 HZ.out.1.2).mono ?_
  rintro e w1 ⟨rfl, hb1⟩
  clear x0 x1 x2 x3 x4 x5 x6 x7 xl
  have HX1 := Lib.hid (HX0.out.below hb1)
  have HB1 := Lib.hid (HB0.out.trans (hb1.mono HB0.out.size))
  have HK1 := Lib.hid (And.intro (HK0.out.1.below hb1) (HK0.out.2.below hb1))
  clear HB0 HX0 HK0
  clear hb1
  rcases hf : fewK h with _ | _
  · clear hf
    go_wp2_with fail
    refine (awake08 w1).mono ?_
    rintro e wz ⟨rfl, hbz⟩
    have HBz := Lib.hid (HB1.out.trans (hbz.mono HB1.out.size))
    clear hbz
    go_wp2_with fail
    go_ret
    exact ⟨rfl, HBz.out⟩
  · have HO := Lib.hid (fewK_ok hf HZ.out.1.1 HZ.out.2 HW.out.1 HW.out.2)
    clear hf
    obtain ⟨x0, x1, x2, x3, x4, x5, x6, x7⟩ := HX1.out.eight
    have xl := HX1.out.lt
    by_cases hz : h.z = -524288
    · have hz1 : (h.z != -524288) = false := by simpa using hz
      have HZE := Lib.hid hz
      clear hz
      go_wp2_with fail
      refine (down_full h t A B c d w1 HK1.out.1 HK1.out.2 HO.out).mono ?_
      intro e w2 hR
      rcases downE_cases h.s t with ⟨hE, ht, hle⟩ | ⟨hE, hno⟩
      · have hdo : downO h t = coarseH h t := by unfold downO; rw [if_pos hE]; exact down_coarse HO.out HZE.out ht hle
        have HOD := Lib.hid (show Ok (coarseH h t) from by rw [← down_coarse HO.out HZE.out ht hle]; exact down_ok HO.out ht hle)
        have HT := Lib.hid (And.intro ht hle)
        obtain ⟨A1, B1, c1, d1, rfl, hA1, hB1, hb2, nA, nB⟩ := hR.as hdo hE
        simp only [hvA]
        obtain ⟨D, hD⟩ : ∃ D, coarseH h t = D := ⟨_, rfl⟩
        rw [hD] at hA1 hB1 HOD
        have HDE := Lib.hid hD
        rw [hD]
        have HKD := Lib.hid (And.intro hA1 hB1)
        clear hR hdo hE ht hle hA1 hB1 nA nB hD
        clear x0 x1 x2 x3 x4 x5 x6 x7 xl
        have HX2 := Lib.hid (HX1.out.below hb2)
        have HB2 := Lib.hid (HB1.out.trans (hb2.mono HB1.out.size))
        have HK2 := Lib.hid (And.intro (HK1.out.1.below hb2) (HK1.out.2.below hb2))
        clear HB1 HX1 HK1
        clear hb2
        have HKD2 := HKD
        clear HKD
        go_upto_region 4 with fail
        have hb3 : Below w2.heap.size w2 (w2.alloc (.cells #[.int .i64 D.k, .int .i64 D.s, .int .i64 D.z, .int .u64 D.zc, .int .u64 D.ct, .int .i64 D.sm, .slice A1 D.P.length c1, .slice B1 D.Q.length d1] 25)) := (Below.refl _ _).alloc (Nat.le_refl _) _
        obtain ⟨gJ, hgJ⟩ : ∃ g, w2.heap.size = g := ⟨_, rfl⟩
        have HNJ := Lib.hid (Rb.new w2 gJ hgJ 25 #[.int .i64 D.k, .int .i64 D.s, .int .i64 D.z, .int .u64 D.zc, .int .u64 D.ct, .int .i64 D.sm, .slice A1 D.P.length c1, .slice B1 D.Q.length d1])
        have HX3 := Lib.hid (HX2.out.below hb3)
        have HB3 := Lib.hid (HB2.out.trans (hb3.mono HB2.out.size))
        have HK3 := Lib.hid (And.intro (HK2.out.1.below hb3) (HK2.out.2.below hb3))
        have HKD3 := Lib.hid (And.intro (HKD2.out.1.below hb3) (HKD2.out.2.below hb3))
        clear HB2 HX2 HK2 HKD2
        rw [hgJ]
        clear hb3 hgJ
        have HJ3 := HNJ
        clear HNJ
        generalize w2.alloc (.cells #[.int .i64 D.k, .int .i64 D.s, .int .i64 D.z, .int .u64 D.zc, .int .u64 D.ct, .int .i64 D.sm, .slice A1 D.P.length c1, .slice B1 D.Q.length d1] 25) = w3 at *
        obtain ⟨x0, x1, x2, x3, x4, x5, x6, x7⟩ := HX3.out.eight
        have xl := HX3.out.lt
        obtain ⟨j0, j1, j2, j3, j4, j5, j6, j7⟩ := HJ3.out.eight
        have jl := HJ3.out.lt
        go_wp2_with fail
        refine (at_any h A B c d n _ HK3.out.1 HK3.out.2 HO.out n0 n1).mono ?_
        rintro e w4 ⟨rfl, hb4⟩
        clear x0 x1 x2 x3 x4 x5 x6 x7 xl j0 j1 j2 j3 j4 j5 j6 j7 jl
        have HX4 := Lib.hid (HX3.out.below hb4)
        have HJ4 := Lib.hid (HJ3.out.below hb4)
        have HB4 := Lib.hid (HB3.out.trans (hb4.mono HB3.out.size))
        have HK4 := Lib.hid (And.intro (HK3.out.1.below hb4) (HK3.out.2.below hb4))
        have HKD4 := Lib.hid (And.intro (HKD3.out.1.below hb4) (HKD3.out.2.below hb4))
        clear HB3 HX3 HJ3 HK3 HKD3
        clear hb4
        obtain ⟨u, hu⟩ : ∃ q_, atC h n = q_ := ⟨_, rfl⟩
        obtain ⟨Eu, hEu⟩ : ∃ q_, atE h n = q_ := ⟨_, rfl⟩
        have HVu := Lib.hid (And.intro hu hEu)
        rw [hu, hEu]
        clear hu hEu
        obtain ⟨x0, x1, x2, x3, x4, x5, x6, x7⟩ := HX4.out.eight
        have xl := HX4.out.lt
        obtain ⟨j0, j1, j2, j3, j4, j5, j6, j7⟩ := HJ4.out.eight
        have jl := HJ4.out.lt
        go_wp2_with fail
        clear x0 x1 x2 x3 x4 x5 x6 x7 xl j0 j1 j2 j3 j4 j5 j6 j7 jl
        have hb5 : Below w4.heap.size w4 (w4.alloc (.cells #[.int .i64 u.d, .int .i64 u.s, .int .i64 u.i] 48)) := (Below.refl _ _).alloc (Nat.le_refl _) _
        obtain ⟨ga, hga⟩ : ∃ g, w4.heap.size = g := ⟨_, rfl⟩
        have HNa := Lib.hid (Rb.new w4 ga hga 48 #[.int .i64 u.d, .int .i64 u.s, .int .i64 u.i])
        have HX5 := Lib.hid (HX4.out.below hb5)
        have HJ5 := Lib.hid (HJ4.out.below hb5)
        have HB5 := Lib.hid (HB4.out.trans (hb5.mono HB4.out.size))
        have HK5 := Lib.hid (And.intro (HK4.out.1.below hb5) (HK4.out.2.below hb5))
        have HKD5 := Lib.hid (And.intro (HKD4.out.1.below hb5) (HKD4.out.2.below hb5))
        clear HB4 HX4 HJ4 HK4 HKD4
        rw [hga]
        clear hb5 hga
        have Ha5 := HNa
        clear HNa
        generalize w4.alloc (.cells #[.int .i64 u.d, .int .i64 u.s, .int .i64 u.i] 48) = w5 at *
        refine (at_any D A1 B1 c1 d1 n _ HKD5.out.1 HKD5.out.2 HOD.out n0 n1).mono ?_
        rintro e w6 ⟨rfl, hb6⟩
        have HX6 := Lib.hid (HX5.out.below hb6)
        have HJ6 := Lib.hid (HJ5.out.below hb6)
        have Ha6 := Lib.hid (Ha5.out.below hb6)
        have HB6 := Lib.hid (HB5.out.trans (hb6.mono HB5.out.size))
        have HK6 := Lib.hid (And.intro (HK5.out.1.below hb6) (HK5.out.2.below hb6))
        have HKD6 := Lib.hid (And.intro (HKD5.out.1.below hb6) (HKD5.out.2.below hb6))
        clear HB5 HX5 HJ5 Ha5 HK5 HKD5
        clear hb6
        have hEE : atE D n = Eu := by rw [← HDE.out, ← HVu.out.2]; rfl
        rw [hEE]
        clear hEE
        obtain ⟨v, hv⟩ : ∃ q_, atC D n = q_ := ⟨_, rfl⟩
        have HVv := Lib.hid hv
        rw [hv]
        clear hv
        have HAT := Lib.hid (fun (g : Eu = 0) => show v.d = u.d ∧ (u.d = 0 ∨ (v.s = t ∧ v.i = toV h.s t u.i ∧ u.s = h.s ∧ inB h.s u.i = true)) from by
          have h1 := HVu.out.2
          have h2 := ct_nn HO.out
          have hn : 0 < n ∧ n ≤ h.ct := by
            by_cases g1 : h.ct = 0
            · rw [(atE_nil n g1).1] at h1; omega
            · by_cases g2 : n = 0 ∨ h.ct < n
              · rw [(atE_out g1 g2).1] at h1; omega
              · omega
          have := downs_at HO.out HT.out.1 HT.out.2 (by rw [HDE.out]; exact HOD.out) hn.1 hn.2
          rw [HDE.out, HVv.out, HVu.out.1] at this
          exact this)
        obtain ⟨a0, a1, a2, _, _, _⟩ := Ha6.out.three
        have al := Ha6.out.lt
        go_upto_region 8 with fail
        clear a0 a1 a2 al
        have hb7 : Below w6.heap.size w6 (w6.alloc (.cells #[.int .i64 v.d, .int .i64 v.s, .int .i64 v.i] 48)) := (Below.refl _ _).alloc (Nat.le_refl _) _
        obtain ⟨gb, hgb⟩ : ∃ g, w6.heap.size = g := ⟨_, rfl⟩
        have HNb := Lib.hid (Rb.new w6 gb hgb 48 #[.int .i64 v.d, .int .i64 v.s, .int .i64 v.i])
        have HX7 := Lib.hid (HX6.out.below hb7)
        have HJ7 := Lib.hid (HJ6.out.below hb7)
        have Ha7 := Lib.hid (Ha6.out.below hb7)
        have HB7 := Lib.hid (HB6.out.trans (hb7.mono HB6.out.size))
        have HK7 := Lib.hid (And.intro (HK6.out.1.below hb7) (HK6.out.2.below hb7))
        have HKD7 := Lib.hid (And.intro (HKD6.out.1.below hb7) (HKD6.out.2.below hb7))
        clear HB6 HX6 HJ6 Ha6 HK6 HKD6
        rw [hgb]
        clear hb7 hgb
        have Hb7 := HNb
        clear HNb
        generalize w6.alloc (.cells #[.int .i64 v.d, .int .i64 v.s, .int .i64 v.i] 48) = w7 at *
        go_cut [80] from 52 to 80 (fun v wx => v = .bool false ∧ Below w7.heap.size w7 wx)
        case first =>
          by_cases g : Eu = 0
          · have hAT := HAT.out g
            subst g
            by_cases g0 : u.d = 0
            · have g1 : v.d = 0 := hAT.1.trans g0
              have g3 : (u.d != v.d) = false := by rw [g0, g1]; rfl
              have g2 : (u.d != 0) = false := by rw [g0]; rfl
              clear hAT g0 g1
              obtain ⟨a0, a1, a2, _, _, _⟩ := Ha7.out.three
              have al := Ha7.out.lt
              obtain ⟨b0, b1, b2, _, _, _⟩ := Hb7.out.three
              have bl := Hb7.out.lt
              go_wp2_with fail
              go_meet
              exact ⟨rfl, Below.refl _ _⟩
            · have hAT2 := hAT.2.resolve_left g0
              have g1 : v.d = u.d := hAT.1
              have g2 : (u.d != 0) = true := by simpa using g0
              have hB : hasB u.d t (toV h.s t u.i) u.d h.s u.i = true := by
                unfold hasB okTo
                rw [decide_eq_true rfl, HO.out.s, HT.out.1, hAT2.2.2.2, decide_eq_true HT.out.2, decide_eq_true rfl]; rfl
              have HHA := Lib.hid (fun (W : World) => show Calls Try.prog 37 #[.agg #[.int .i64 v.d, .int .i64 v.s, .int .i64 v.i], .agg #[.int .i64 u.d, .int .i64 u.s, .int .i64 u.i]] W fun e w' => e = .returned (.bool true) ∧ Below W.heap.size W w' from by
                rw [g1, hAT2.1, hAT2.2.1, hAT2.2.2.1, ← hB]
                exact has_yes u.d t _ u.d h.s u.i W (by unfold okTo; rw [HO.out.s, HT.out.1, decide_eq_true HT.out.2]; rfl) hAT2.2.2.2)
              have g3 : (u.d != v.d) = false := by rw [g1]; simp
              clear hAT hAT2 hB g0 g1
              obtain ⟨a0, a1, a2, _, _, _⟩ := Ha7.out.three
              have al := Ha7.out.lt
              obtain ⟨b0, b1, b2, _, _, _⟩ := Hb7.out.three
              have bl := Hb7.out.lt
              go_wp2_with fail
              refine (HHA.out _).mono ?_
              rintro e wh ⟨rfl, hbh⟩
              have HBH := Lib.hid hbh
              clear hbh
              go_wp2_with fail
              go_meet
              exact ⟨rfl, HBH.out⟩
          · have g1 : (Eu == 0) = false := by simpa using g
            clear g
            obtain ⟨a0, a1, a2, _, _, _⟩ := Ha7.out.three
            have al := Ha7.out.lt
            obtain ⟨b0, b1, b2, _, _, _⟩ := Hb7.out.three
            have bl := Hb7.out.lt
            go_wp2_with fail
            go_meet
            exact ⟨rfl, Below.refl _ _⟩
        case rest =>
          obtain ⟨rfl, hbc⟩ := hcut
          obtain ⟨w8, hw8⟩ : ∃ W, W = wc := ⟨_, rfl⟩
          subst hw8
          have HX8 := Lib.hid (HX7.out.below hbc)
          have HJ8 := Lib.hid (HJ7.out.below hbc)
          have HB8 := Lib.hid (HB7.out.trans (hbc.mono HB7.out.size))
          have HK8 := Lib.hid (And.intro (HK7.out.1.below hbc) (HK7.out.2.below hbc))
          have HKD8 := Lib.hid (And.intro (HKD7.out.1.below hbc) (HKD7.out.2.below hbc))
          clear HB7 HX7 HJ7 HK7 HKD7
          clear hbc
          have hub := un_bd HT.out.1 32768 (i := ix) (by omega) (by omega)
          obtain ⟨U, hU⟩ : ∃ U, un t ix = U := ⟨_, rfl⟩
          have HUN := Lib.hid (fun (W : World) => units_yes t ix W HT.out.1 (by omega) (by omega))
          rw [hU] at hub HUN
          have HUE := Lib.hid hU
          clear hU
          go_wp2_with fail
          refine (HUN.out _).mono ?_
          rintro e wu ⟨rfl, hwu⟩
          subst hwu
          rcases sd with _ | _
          · go_upto_region 13 with fail
            have hb9 : Below w8.heap.size w8 (w8.alloc (.cells #[.int .i64 1, .int .i64 U] 60)) := (Below.refl _ _).alloc (Nat.le_refl _) _
            obtain ⟨gp, hgp⟩ : ∃ g, w8.heap.size = g := ⟨_, rfl⟩
            have HNp := Lib.hid (Rb.new w8 gp hgp 60 #[.int .i64 1, .int .i64 U])
            have HX9 := Lib.hid (HX8.out.below hb9)
            have HJ9 := Lib.hid (HJ8.out.below hb9)
            have HB9 := Lib.hid (HB8.out.trans (hb9.mono HB8.out.size))
            have HK9 := Lib.hid (And.intro (HK8.out.1.below hb9) (HK8.out.2.below hb9))
            have HKD9 := Lib.hid (And.intro (HKD8.out.1.below hb9) (HKD8.out.2.below hb9))
            clear HB8 HX8 HJ8 HK8 HKD8
            rw [hgp]
            clear hb9 hgp
            have Hp9 := HNp
            clear HNp
            generalize w8.alloc (.cells #[.int .i64 1, .int .i64 U] 60) = w9 at *
            have HDB := Lib.hid (downs_below HO.out HZE.out HT.out.1 HT.out.2 (by rw [HDE.out]; exact HOD.out) (j := ix) (pd := 1) (by omega))
            rw [HUE.out, HDE.out] at HDB
            obtain ⟨x0, x1, x2, x3, x4, x5, x6, x7⟩ := HX9.out.eight
            have xl := HX9.out.lt
            obtain ⟨p0, p1, _, _⟩ := Hp9.out.two
            have pl := Hp9.out.lt
            go_wp2_with fail
            refine (below_any h A B c d 1 U _ HK9.out.1 HK9.out.2 HO.out).mono ?_
            rintro e w10 ⟨rfl, hb10⟩
            clear x0 x1 x2 x3 x4 x5 x6 x7 xl p0 p1 pl
            have HX10 := Lib.hid (HX9.out.below hb10)
            have HJ10 := Lib.hid (HJ9.out.below hb10)
            have Hp10 := Lib.hid (Hp9.out.below hb10)
            have HB10 := Lib.hid (HB9.out.trans (hb10.mono HB9.out.size))
            have HK10 := Lib.hid (And.intro (HK9.out.1.below hb10) (HK9.out.2.below hb10))
            have HKD10 := Lib.hid (And.intro (HKD9.out.1.below hb10) (HKD9.out.2.below hb10))
            clear HB9 HX9 HJ9 Hp9 HK9 HKD9
            clear hb10
            obtain ⟨X, hX⟩ : ∃ q_, belX h 1 U = q_ := ⟨_, rfl⟩
            obtain ⟨M, hM⟩ : ∃ q_, belM h 1 U = q_ := ⟨_, rfl⟩
            obtain ⟨L, hL⟩ : ∃ q_, belA h 1 U = q_ := ⟨_, rfl⟩
            obtain ⟨E, hE⟩ : ∃ q_, belE h 1 U = q_ := ⟨_, rfl⟩
            rw [hX, hM, hL, hE] at HDB
            rw [hX, hM, hL, hE]
            clear hX hM hL hE
            obtain ⟨j0, j1, j2, j3, j4, j5, j6, j7⟩ := HJ10.out.eight
            have jl := HJ10.out.lt
            obtain ⟨p0, p1, _, _⟩ := Hp10.out.two
            have pl := Hp10.out.lt
            go_upto_region 14 with fail
            clear j0 j1 j2 j3 j4 j5 j6 j7 jl p0 p1 pl
            have hb11 : Below w10.heap.size w10 (w10.alloc (.cells #[.int .u64 X, .int .u64 M, .int .u64 L] 62)) := (Below.refl _ _).alloc (Nat.le_refl _) _
            obtain ⟨gx, hgx⟩ : ∃ g, w10.heap.size = g := ⟨_, rfl⟩
            have HNx := Lib.hid (Rb.new w10 gx hgx 62 #[.int .u64 X, .int .u64 M, .int .u64 L])
            have HX11 := Lib.hid (HX10.out.below hb11)
            have HJ11 := Lib.hid (HJ10.out.below hb11)
            have Hp11 := Lib.hid (Hp10.out.below hb11)
            have HB11 := Lib.hid (HB10.out.trans (hb11.mono HB10.out.size))
            have HK11 := Lib.hid (And.intro (HK10.out.1.below hb11) (HK10.out.2.below hb11))
            have HKD11 := Lib.hid (And.intro (HKD10.out.1.below hb11) (HKD10.out.2.below hb11))
            clear HB10 HX10 HJ10 Hp10 HK10 HKD10
            rw [hgx]
            clear hb11 hgx
            have Hx11 := HNx
            clear HNx
            generalize w10.alloc (.cells #[.int .u64 X, .int .u64 M, .int .u64 L] 62) = w11 at *
            obtain ⟨j0, j1, j2, j3, j4, j5, j6, j7⟩ := HJ11.out.eight
            have jl := HJ11.out.lt
            obtain ⟨p0, p1, _, _⟩ := Hp11.out.two
            have pl := Hp11.out.lt
            go_wp2_with fail
            refine (below_any D A1 B1 c1 d1 1 U _ HKD11.out.1 HKD11.out.2 HOD.out).mono ?_
            rintro e w12 ⟨rfl, hb12⟩
            clear j0 j1 j2 j3 j4 j5 j6 j7 jl p0 p1 pl
            have HX12 := Lib.hid (HX11.out.below hb12)
            have HJ12 := Lib.hid (HJ11.out.below hb12)
            have Hp12 := Lib.hid (Hp11.out.below hb12)
            have Hx12 := Lib.hid (Hx11.out.below hb12)
            have HB12 := Lib.hid (HB11.out.trans (hb12.mono HB11.out.size))
            have HK12 := Lib.hid (And.intro (HK11.out.1.below hb12) (HK11.out.2.below hb12))
            have HKD12 := Lib.hid (And.intro (HKD11.out.1.below hb12) (HKD11.out.2.below hb12))
            clear HB11 HX11 HJ11 Hp11 Hx11 HK11 HKD11
            clear hb12
            rw [HDB.out.1, HDB.out.2.1, HDB.out.2.2.1, HDB.out.2.2.2]
            go_upto_region 15 with fail
            have hb13 : Below w12.heap.size w12 (w12.alloc (.cells #[.int .u64 X, .int .u64 M, .int .u64 L] 62)) := (Below.refl _ _).alloc (Nat.le_refl _) _
            obtain ⟨gy, hgy⟩ : ∃ g, w12.heap.size = g := ⟨_, rfl⟩
            have HNy := Lib.hid (Rb.new w12 gy hgy 62 #[.int .u64 X, .int .u64 M, .int .u64 L])
            have HX13 := Lib.hid (HX12.out.below hb13)
            have HJ13 := Lib.hid (HJ12.out.below hb13)
            have Hp13 := Lib.hid (Hp12.out.below hb13)
            have Hx13 := Lib.hid (Hx12.out.below hb13)
            have HB13 := Lib.hid (HB12.out.trans (hb13.mono HB12.out.size))
            have HK13 := Lib.hid (And.intro (HK12.out.1.below hb13) (HK12.out.2.below hb13))
            have HKD13 := Lib.hid (And.intro (HKD12.out.1.below hb13) (HKD12.out.2.below hb13))
            clear HB12 HX12 HJ12 Hp12 Hx12 HK12 HKD12
            rw [hgy]
            clear hb13 hgy
            have Hy13 := HNy
            clear HNy
            generalize w12.alloc (.cells #[.int .u64 X, .int .u64 M, .int .u64 L] 62) = w13 at *
            go_wp2_with fail
            refine (awake08 w13).mono ?_
            rintro e w14 ⟨rfl, hb14⟩
            have HBz := Lib.hid (HB13.out.trans (hb14.mono HB13.out.size))
            have heq := eqP3 X M L w14
            obtain ⟨x0, x1, x2, _, _, _⟩ := (Hx13.out.below hb14).three
            have xl := (Hx13.out.below hb14).lt
            obtain ⟨y0, y1, y2, _, _, _⟩ := (Hy13.out.below hb14).three
            have yl := (Hy13.out.below hb14).lt
            clear hb14
            go_wp2_with fail
            go_ret
            exact ⟨rfl, HBz.out⟩
          · go_upto_region 13 with fail
            have hb9 : Below w8.heap.size w8 (w8.alloc (.cells #[.int .i64 (-1), .int .i64 U] 60)) := (Below.refl _ _).alloc (Nat.le_refl _) _
            obtain ⟨gp, hgp⟩ : ∃ g, w8.heap.size = g := ⟨_, rfl⟩
            have HNp := Lib.hid (Rb.new w8 gp hgp 60 #[.int .i64 (-1), .int .i64 U])
            have HX9 := Lib.hid (HX8.out.below hb9)
            have HJ9 := Lib.hid (HJ8.out.below hb9)
            have HB9 := Lib.hid (HB8.out.trans (hb9.mono HB8.out.size))
            have HK9 := Lib.hid (And.intro (HK8.out.1.below hb9) (HK8.out.2.below hb9))
            have HKD9 := Lib.hid (And.intro (HKD8.out.1.below hb9) (HKD8.out.2.below hb9))
            clear HB8 HX8 HJ8 HK8 HKD8
            rw [hgp]
            clear hb9 hgp
            have Hp9 := HNp
            clear HNp
            generalize w8.alloc (.cells #[.int .i64 (-1), .int .i64 U] 60) = w9 at *
            have HDB := Lib.hid (downs_below HO.out HZE.out HT.out.1 HT.out.2 (by rw [HDE.out]; exact HOD.out) (j := ix) (pd := (-1)) (by omega))
            rw [HUE.out, HDE.out] at HDB
            obtain ⟨x0, x1, x2, x3, x4, x5, x6, x7⟩ := HX9.out.eight
            have xl := HX9.out.lt
            obtain ⟨p0, p1, _, _⟩ := Hp9.out.two
            have pl := Hp9.out.lt
            go_wp2_with fail
            refine (below_any h A B c d (-1) U _ HK9.out.1 HK9.out.2 HO.out).mono ?_
            rintro e w10 ⟨rfl, hb10⟩
            clear x0 x1 x2 x3 x4 x5 x6 x7 xl p0 p1 pl
            have HX10 := Lib.hid (HX9.out.below hb10)
            have HJ10 := Lib.hid (HJ9.out.below hb10)
            have Hp10 := Lib.hid (Hp9.out.below hb10)
            have HB10 := Lib.hid (HB9.out.trans (hb10.mono HB9.out.size))
            have HK10 := Lib.hid (And.intro (HK9.out.1.below hb10) (HK9.out.2.below hb10))
            have HKD10 := Lib.hid (And.intro (HKD9.out.1.below hb10) (HKD9.out.2.below hb10))
            clear HB9 HX9 HJ9 Hp9 HK9 HKD9
            clear hb10
            obtain ⟨X, hX⟩ : ∃ q_, belX h (-1) U = q_ := ⟨_, rfl⟩
            obtain ⟨M, hM⟩ : ∃ q_, belM h (-1) U = q_ := ⟨_, rfl⟩
            obtain ⟨L, hL⟩ : ∃ q_, belA h (-1) U = q_ := ⟨_, rfl⟩
            obtain ⟨E, hE⟩ : ∃ q_, belE h (-1) U = q_ := ⟨_, rfl⟩
            rw [hX, hM, hL, hE] at HDB
            rw [hX, hM, hL, hE]
            clear hX hM hL hE
            obtain ⟨j0, j1, j2, j3, j4, j5, j6, j7⟩ := HJ10.out.eight
            have jl := HJ10.out.lt
            obtain ⟨p0, p1, _, _⟩ := Hp10.out.two
            have pl := Hp10.out.lt
            go_upto_region 14 with fail
            clear j0 j1 j2 j3 j4 j5 j6 j7 jl p0 p1 pl
            have hb11 : Below w10.heap.size w10 (w10.alloc (.cells #[.int .u64 X, .int .u64 M, .int .u64 L] 62)) := (Below.refl _ _).alloc (Nat.le_refl _) _
            obtain ⟨gx, hgx⟩ : ∃ g, w10.heap.size = g := ⟨_, rfl⟩
            have HNx := Lib.hid (Rb.new w10 gx hgx 62 #[.int .u64 X, .int .u64 M, .int .u64 L])
            have HX11 := Lib.hid (HX10.out.below hb11)
            have HJ11 := Lib.hid (HJ10.out.below hb11)
            have Hp11 := Lib.hid (Hp10.out.below hb11)
            have HB11 := Lib.hid (HB10.out.trans (hb11.mono HB10.out.size))
            have HK11 := Lib.hid (And.intro (HK10.out.1.below hb11) (HK10.out.2.below hb11))
            have HKD11 := Lib.hid (And.intro (HKD10.out.1.below hb11) (HKD10.out.2.below hb11))
            clear HB10 HX10 HJ10 Hp10 HK10 HKD10
            rw [hgx]
            clear hb11 hgx
            have Hx11 := HNx
            clear HNx
            generalize w10.alloc (.cells #[.int .u64 X, .int .u64 M, .int .u64 L] 62) = w11 at *
            obtain ⟨j0, j1, j2, j3, j4, j5, j6, j7⟩ := HJ11.out.eight
            have jl := HJ11.out.lt
            obtain ⟨p0, p1, _, _⟩ := Hp11.out.two
            have pl := Hp11.out.lt
            go_wp2_with fail
            refine (below_any D A1 B1 c1 d1 (-1) U _ HKD11.out.1 HKD11.out.2 HOD.out).mono ?_
            rintro e w12 ⟨rfl, hb12⟩
            clear j0 j1 j2 j3 j4 j5 j6 j7 jl p0 p1 pl
            have HX12 := Lib.hid (HX11.out.below hb12)
            have HJ12 := Lib.hid (HJ11.out.below hb12)
            have Hp12 := Lib.hid (Hp11.out.below hb12)
            have Hx12 := Lib.hid (Hx11.out.below hb12)
            have HB12 := Lib.hid (HB11.out.trans (hb12.mono HB11.out.size))
            have HK12 := Lib.hid (And.intro (HK11.out.1.below hb12) (HK11.out.2.below hb12))
            have HKD12 := Lib.hid (And.intro (HKD11.out.1.below hb12) (HKD11.out.2.below hb12))
            clear HB11 HX11 HJ11 Hp11 Hx11 HK11 HKD11
            clear hb12
            rw [HDB.out.1, HDB.out.2.1, HDB.out.2.2.1, HDB.out.2.2.2]
            go_upto_region 15 with fail
            have hb13 : Below w12.heap.size w12 (w12.alloc (.cells #[.int .u64 X, .int .u64 M, .int .u64 L] 62)) := (Below.refl _ _).alloc (Nat.le_refl _) _
            obtain ⟨gy, hgy⟩ : ∃ g, w12.heap.size = g := ⟨_, rfl⟩
            have HNy := Lib.hid (Rb.new w12 gy hgy 62 #[.int .u64 X, .int .u64 M, .int .u64 L])
            have HX13 := Lib.hid (HX12.out.below hb13)
            have HJ13 := Lib.hid (HJ12.out.below hb13)
            have Hp13 := Lib.hid (Hp12.out.below hb13)
            have Hx13 := Lib.hid (Hx12.out.below hb13)
            have HB13 := Lib.hid (HB12.out.trans (hb13.mono HB12.out.size))
            have HK13 := Lib.hid (And.intro (HK12.out.1.below hb13) (HK12.out.2.below hb13))
            have HKD13 := Lib.hid (And.intro (HKD12.out.1.below hb13) (HKD12.out.2.below hb13))
            clear HB12 HX12 HJ12 Hp12 Hx12 HK12 HKD12
            rw [hgy]
            clear hb13 hgy
            have Hy13 := HNy
            clear HNy
            generalize w12.alloc (.cells #[.int .u64 X, .int .u64 M, .int .u64 L] 62) = w13 at *
            go_wp2_with fail
            refine (awake08 w13).mono ?_
            rintro e w14 ⟨rfl, hb14⟩
            have HBz := Lib.hid (HB13.out.trans (hb14.mono HB13.out.size))
            have heq := eqP3 X M L w14
            obtain ⟨x0, x1, x2, _, _, _⟩ := (Hx13.out.below hb14).three
            have xl := (Hx13.out.below hb14).lt
            obtain ⟨y0, y1, y2, _, _, _⟩ := (Hy13.out.below hb14).three
            have yl := (Hy13.out.below hb14).lt
            clear hb14
            go_wp2_with fail
            go_ret
            exact ⟨rfl, HBz.out⟩
      · obtain ⟨A1, B1, c1, d1, rfl, hA1, hB1, hb2, nA, nB⟩ := hR.as (show downO h t = zeroV from by unfold downO; rw [hE, if_neg (by decide)]) hE
        simp only [hvA]
        clear hR hE hno hA1 hB1 nA nB
        clear x0 x1 x2 x3 x4 x5 x6 x7 xl
        have HX2 := Lib.hid (HX1.out.below hb2)
        have HB2 := Lib.hid (HB1.out.trans (hb2.mono HB1.out.size))
        have HK2 := Lib.hid (And.intro (HK1.out.1.below hb2) (HK1.out.2.below hb2))
        clear HB1 HX1 HK1
        clear hb2
        go_upto_region 4 with fail
        have hb3 : Below w2.heap.size w2 (w2.alloc (.cells #[.int .i64 zeroV.k, .int .i64 zeroV.s, .int .i64 zeroV.z, .int .u64 zeroV.zc, .int .u64 zeroV.ct, .int .i64 zeroV.sm, .slice A1 zeroV.P.length c1, .slice B1 zeroV.Q.length d1] 25)) := (Below.refl _ _).alloc (Nat.le_refl _) _
        have HX3 := Lib.hid (HX2.out.below hb3)
        have HB3 := Lib.hid (HB2.out.trans (hb3.mono HB2.out.size))
        have HK3 := Lib.hid (And.intro (HK2.out.1.below hb3) (HK2.out.2.below hb3))
        clear HB2 HX2 HK2
        clear hb3
        generalize w2.alloc (.cells #[.int .i64 zeroV.k, .int .i64 zeroV.s, .int .i64 zeroV.z, .int .u64 zeroV.zc, .int .u64 zeroV.ct, .int .i64 zeroV.sm, .slice A1 zeroV.P.length c1, .slice B1 zeroV.Q.length d1] 25) = w3 at *
        go_wp2_with fail
        refine (awake08 w3).mono ?_
        rintro e wz ⟨rfl, hbz⟩
        have HBz := Lib.hid (HB3.out.trans (hbz.mono HB3.out.size))
        clear hbz
        go_wp2_with fail
        go_ret
        exact ⟨rfl, HBz.out⟩
    · have hz1 : (h.z != -524288) = true := by simpa using hz
      clear hz
      go_wp2_with fail
      refine (awake08 w1).mono ?_
      rintro e wz ⟨rfl, hbz⟩
      have HBz := Lib.hid (HB1.out.trans (hbz.mono HB1.out.size))
      clear hbz
      go_wp2_with fail
      go_ret
      exact ⟨rfl, HBz.out⟩
end Go.Proofs.Ytbibhjcmdehdbaa
