/- The program's At. -/
import Derived.Test.YtbibhjcmdehdbaaRkG
import Derived.Deep.CutRange
namespace Go.Proofs.Ytbibhjcmdehdbaa
open Go.RowKit Go.Sort
set_option linter.unusedVariables false

/-- the bucket of the n-th -/
def findC : List Cel → Int → Option Cel
  | [], _ => none
  | c :: l, n => if n ≤ c.n then some c else findC l (n - c.n)
def c0 : Cel := ⟨0, 0, 0, 0⟩
def atE (h : HV) (n : Int) : Int := if h.ct = 0 then 30 else if n = 0 ∨ h.ct < n then 4 else 0
def atC (h : HV) (n : Int) : Cel := if atE h n = 0 then (findC (ordF h) n).getD c0 else c0
theorem atE_nil {h : HV} (n : Int) (e : h.ct = 0) : atE h n = 30 ∧ atC h n = c0 := by
  have h1 : atE h n = 30 := by unfold atE; rw [if_pos e]
  unfold atC; rw [h1]; exact ⟨rfl, rfl⟩
theorem atE_out {h : HV} {n : Int} (e : h.ct ≠ 0) (e2 : n = 0 ∨ h.ct < n) : atE h n = 4 ∧ atC h n = c0 := by
  have h1 : atE h n = 4 := by unfold atE; rw [if_neg e, if_pos e2]
  unfold atC; rw [h1]; exact ⟨rfl, rfl⟩
theorem atE_yes {h : HV} {n : Int} (e : h.ct ≠ 0) (e2 : ¬ (n = 0 ∨ h.ct < n)) : atE h n = 0 ∧ atC h n = (findC (ordF h) n).getD c0 := by
  have h1 : atE h n = 0 := by unfold atE; rw [if_neg e, if_neg e2]
  unfold atC; rw [h1]; exact ⟨rfl, if_pos rfl⟩
theorem findC_some : ∀ (l : List Cel) (n : Int), (∀ p ∈ l, 0 ≤ p.n) → 0 < n → n ≤ totC l → ∃ p, findC l n = some p ∧ p ∈ l
  | [], n, _, h0, h1 => by simp [totC] at h1; omega
  | c :: l, n, hp, h0, h1 => by
    by_cases e : n ≤ c.n
    · exact ⟨c, by simp [findC, e], List.mem_cons_self ..⟩
    · have h2 : totC (c :: l) = c.n + totC l := by simp [totC]
      obtain ⟨p, h3, h4⟩ := findC_some l (n - c.n) (fun p h => hp p (List.mem_cons_of_mem _ h)) (by omega) (by omega)
      exact ⟨p, by simp [findC, e, h3], List.mem_cons_of_mem _ h4⟩
theorem totC_snoc (l : List Cel) (p : Cel) : totC (l ++ [p]) = totC l + p.n := by
  induction l with
  | nil => simp [totC]
  | cons a l ih => simp [totC] at ih ⊢; omega
theorem findC_at {l : List Cel} {k : Nat} {p : Cel} (h : l[k]? = some p) (n : Int) : findC (l.drop k) n = if n ≤ p.n then some p else findC (l.drop (k + 1)) (n - p.n) := by
  have h1 : l.drop k = p :: l.drop (k + 1) := by
    obtain ⟨hk, he⟩ := List.getElem?_eq_some_iff.1 h
    rw [← he]; exact List.drop_eq_getElem_cons hk
  rw [h1]; rfl

def AtS (w : World) (hv : Array Value) (A1 : Option Addr) (l : List Cel) (wr : World) : Prop :=
  Rb wr w.heap.size 25 hv ∧ Rb wr (w.heap.size + 1) 48 #[.int .i64 0, .int .i64 0, .int .i64 0] ∧ Cs wr A1 l ∧ Below w.heap.size w wr
theorem AtS.below {w : World} {hv : Array Value} {A1 : Option Addr} {l : List Cel} {wr w2 : World} (h : AtS w hv A1 l wr) (hb : Below wr.heap.size wr w2) : AtS w hv A1 l w2 :=
  ⟨h.1.below hb, h.2.1.below hb, h.2.2.1.below hb, h.2.2.2.trans (hb.mono h.2.2.2.size)⟩
set_option maxHeartbeats 4000000 in
set_option maxRecDepth 100000 in
theorem at_any (h : HV) (A B : Option Addr) (c d : Nat) (n : Int) (w : World) (hP : Bk w A h.P) (hQ : Bk w B h.Q) (o : Ok h) (n0 : 0 ≤ n) (n1 : n ≤ 18446744073709551615) :
    Calls Try.prog 30 #[.agg #[.int .i64 h.k, .int .i64 h.s, .int .i64 h.z, .int .u64 h.zc, .int .u64 h.ct, .int .i64 h.sm, .slice A h.P.length c, .slice B h.Q.length d], .int .u64 n] w fun e w' => e = .returned (.tuple #[.agg #[.int .i64 (atC h n).d, .int .i64 (atC h n).s, .int .i64 (atC h n).i], .int .i64 (atE h n)]) ∧ Below w.heap.size w w' := by
  have hb0 : Below w.heap.size w ((w.alloc (.cells #[.int .i64 h.k, .int .i64 h.s, .int .i64 h.z, .int .u64 h.zc, .int .u64 h.ct, .int .i64 h.sm, .slice A h.P.length c, .slice B h.Q.length d] 25)).alloc (.cells #[.int .i64 0, .int .i64 0, .int .i64 0] 48)) := ((Below.refl _ _).alloc (Nat.le_refl _) _).alloc (by simp) _
  have HX0 := Lib.hid (And.intro ((Rb.new w w.heap.size rfl 25 #[.int .i64 h.k, .int .i64 h.s, .int .i64 h.z, .int .u64 h.zc, .int .u64 h.ct, .int .i64 h.sm, .slice A h.P.length c, .slice B h.Q.length d]).alloc (.cells #[.int .i64 0, .int .i64 0, .int .i64 0] 48)) (Rb.new (w.alloc (.cells #[.int .i64 h.k, .int .i64 h.s, .int .i64 h.z, .int .u64 h.zc, .int .u64 h.ct, .int .i64 h.sm, .slice A h.P.length c, .slice B h.Q.length d] 25)) (w.heap.size + 1) (by simp) 48 #[.int .i64 0, .int .i64 0, .int .i64 0]))
  have HB0 := Lib.hid hb0
  have HK0 := Lib.hid (And.intro (hP.below hb0) (hQ.below hb0))
  have HO := Lib.hid o
  have hct0 : 0 ≤ h.ct := by have g := o.toGood; have h1 := g.zc; have h2 := g.nP.cnt; have h3 := g.nQ.cnt; have h4 := g.ct; omega
  have hct1 := o.big
  clear hP hQ o hb0
  obtain ⟨vC, hvC⟩ : ∃ v, atC h n = v := ⟨_, rfl⟩
  obtain ⟨vE, hvE⟩ : ∃ v, atE h n = v := ⟨_, rfl⟩
  rw [hvC, hvE]
  have HV := Lib.hid (And.intro hvE hvC)
  clear hvC hvE
  go_enter Try.func30, Try.ntmps30
  go_upto_region 1 with fail
  generalize ((w.alloc (.cells #[.int .i64 h.k, .int .i64 h.s, .int .i64 h.z, .int .u64 h.zc, .int .u64 h.ct, .int .i64 h.sm, .slice A h.P.length c, .slice B h.Q.length d] 25)).alloc (.cells #[.int .i64 0, .int .i64 0, .int .i64 0] 48)) = w0 at *
  obtain ⟨x0, x1, x2, x3, x4, x5, x6, x7⟩ := HX0.out.1.eight
  have lx := HX0.out.1.lt
  obtain ⟨r0, r1, r2, f0, f1, f2⟩ := HX0.out.2.three
  have lr := HX0.out.2.lt
  by_cases hc : h.ct = 0
  · obtain ⟨e1, e2⟩ := atE_nil n hc
    rw [HV.out.1] at e1
    rw [HV.out.2] at e2
    subst e1 e2
    have hc1 : (h.ct == 0) = true := by simpa using hc
    clear hc HV
    go_wp2_with fail
    exact bodyPost_ret (v := .tuple #[.agg #[.int .i64 0, .int .i64 0, .int .i64 0], .int .i64 30]) (by simp [results, Try.results30, go_sem, r0, r1, r2]) rfl ⟨rfl, (((HB0.out.setCell (p := ⟨w.heap.size + 1, 0, none⟩) (by simp) _).setCell (p := ⟨w.heap.size + 1, 1, none⟩) (by simp) _).setCell (p := ⟨w.heap.size + 1, 2, none⟩) (by simp) _)⟩
  · have hc1 : (h.ct == 0) = false := by simpa using hc
    by_cases hn : n = 0 ∨ h.ct < n
    · obtain ⟨e1, e2⟩ := atE_out hc hn
      rw [HV.out.1] at e1
      rw [HV.out.2] at e2
      subst e1 e2
      clear hc HV
      by_cases hz : n = 0
      · subst hz
        clear hn
        go_wp2_with fail
        exact bodyPost_ret (v := .tuple #[.agg #[.int .i64 0, .int .i64 0, .int .i64 0], .int .i64 4]) (by simp [results, Try.results30, go_sem, r0, r1, r2]) rfl ⟨rfl, (((HB0.out.setCell (p := ⟨w.heap.size + 1, 0, none⟩) (by simp) _).setCell (p := ⟨w.heap.size + 1, 1, none⟩) (by simp) _).setCell (p := ⟨w.heap.size + 1, 2, none⟩) (by simp) _)⟩
      · have hz1 : (n == 0) = false := by simpa using hz
        have hz2 : decide (h.ct < n) = true := by simp; omega
        clear hz
        go_wp2_with fail
        exact bodyPost_ret (v := .tuple #[.agg #[.int .i64 0, .int .i64 0, .int .i64 0], .int .i64 4]) (by simp [results, Try.results30, go_sem, r0, r1, r2]) rfl ⟨rfl, (((HB0.out.setCell (p := ⟨w.heap.size + 1, 0, none⟩) (by simp) _).setCell (p := ⟨w.heap.size + 1, 1, none⟩) (by simp) _).setCell (p := ⟨w.heap.size + 1, 2, none⟩) (by simp) _)⟩
    · obtain ⟨e1, e2⟩ := atE_yes hc hn
      rw [HV.out.1] at e1
      rw [HV.out.2] at e2
      have HE := Lib.hid (And.intro e1 e2)
      have hz1 : (n == 0) = false := by simp; omega
      have hz2 : ¬ h.ct < n := by omega
      clear hc HV e1 e2 r0 r1 r2 f0 f1 f2 lr
      go_wp2_with fail
      refine (order_any h A B c d w0 HK0.out.1 HK0.out.2 HO.out).mono ?_
      rintro e w3 ⟨A1, c1, rfl, hcs, hb, hnw⟩
      obtain ⟨l, hl⟩ : ∃ l, ordF h = l := ⟨_, rfl⟩
      rw [hl] at hcs HE
      have HL := Lib.hid (show (∀ p ∈ l, CelOk p ∧ 0 ≤ p.n) ∧ totC l = h.ct ∧ l.length ≤ 1025 from by rw [← hl]; exact ⟨ord_cel HO.out, tot_ord HO.out, ord_len HO.out⟩)
      have HSt := Lib.hid (show AtS w #[.int .i64 h.k, .int .i64 h.s, .int .i64 h.z, .int .u64 h.zc, .int .u64 h.ct, .int .i64 h.sm, .slice A h.P.length c, .slice B h.Q.length d] A1 l w3 from ⟨HX0.out.1.below hb, HX0.out.2.below hb, hcs, HB0.out.trans (hb.mono HB0.out.size)⟩)
      rw [hl]
      have hll : (l.length : Int) ≤ 1025 := by have := HL.out.2.2; omega
      have HN := Lib.hid (show 0 < n ∧ n ≤ h.ct from by omega)
      clear x0 x1 x2 x3 x4 x5 x6 x7 lx hb hcs hnw hl HX0 HB0 HK0 hn hz1 hz2 hc1
      go_upto_region 5 with fail
      go_loopw [1, 24] (fun m i wr => ∃ (k : Nat) (x : Int), k ≤ l.length ∧ m = .int .u64 x ∧ i = .int .i64 k ∧ (0 < x ∧ x ≤ n) ∧ Hid (findC l n = findC (l.drop k) x ∧ x + totC (l.take k) = n) ∧ Hid (AtS w #[.int .i64 h.k, .int .i64 h.s, .int .i64 h.z, .int .u64 h.zc, .int .u64 h.ct, .int .i64 h.sm, .slice A h.P.length c, .slice B h.Q.length d] A1 l wr)) (fun _ i _ => l.length - (intOf i).toNat)
      case atStart => exact ⟨0, n, by omega, rfl, rfl, by have := HN.out; omega, Lib.hid ⟨rfl, by simp [totC]⟩, HSt⟩
      case round =>
        obtain ⟨k, x, hk, rfl, rfl, hx, HF, HS⟩ := hrel
        by_cases hlt : k < l.length
        · have hki : (k : Int) < (l.length : Int) := by omega
          obtain ⟨b, off, rfl, hcell⟩ := HS.out.2.2.1.some_ (by omega)
          obtain ⟨p, hp⟩ := getElem?_lt hlt
          obtain ⟨q0, q1, q2, q3⟩ := hcell k p hp
          have hpn := (HL.out.1 p (mem_of_at hp)).1.n
          have HT := Lib.hid (take_snoc l k p hp)
          have HFA := Lib.hid (findC_at hp x)
          have hlb := block_lt_of_cell q0
          simp only at hlb
          clear hcell hp
          go_upto_region 8 with fail
          clear q0 q1 q2 q3 hlb
          have hbA : Below wr.heap.size wr (wr.alloc (.cells #[.int .i64 p.d, .int .i64 p.s, .int .i64 p.i, .int .u64 p.n] 50)) := (Below.refl _ _).alloc (Nat.le_refl _) _
          obtain ⟨gc, hgc⟩ : ∃ g, wr.heap.size = g := ⟨_, rfl⟩
          have HCA := Lib.hid (Rb.new wr gc hgc 50 #[.int .i64 p.d, .int .i64 p.s, .int .i64 p.i, .int .u64 p.n])
          have HSA := Lib.hid (HS.out.below hbA)
          have hgn : ¬ gc = w.heap.size + 1 := by rw [← hgc]; have := HS.out.2.1.lt; omega
          rw [hgc]
          clear hbA hgc HS HSt
          generalize wr.alloc (.cells #[.int .i64 p.d, .int .i64 p.s, .int .i64 p.i, .int .u64 p.n] 50) = wA at *
          obtain ⟨c0_, c1_, c2_, c3_⟩ := HCA.out.four
          have lc := HCA.out.lt
          by_cases hle : x ≤ p.n
          · have hA := HFA.out
            rw [if_pos hle, ← HF.out.1] at hA
            have e2 := HE.out.2
            have e1 := HE.out.1
            rw [hA] at e2
            simp only [Option.getD_some] at e2
            subst e1 e2
            obtain ⟨r0, r1, r2, f0, f1, f2⟩ := HSA.out.2.1.three
            have lr := HSA.out.2.1.lt
            clear hA
            go_wp2_with fail
            have hfin := Lib.hid HSA.out.2.2.2
            exact bodyPost_ret (v := .tuple #[.agg #[.int .i64 vC.d, .int .i64 vC.s, .int .i64 vC.i], .int .i64 0]) (by simp [results, Try.results30, go_sem, r0, r1, r2]) rfl ⟨rfl, (((hfin.out.setCell (p := ⟨w.heap.size + 1, 0, none⟩) (by simp) _).setCell (p := ⟨w.heap.size + 1, 1, none⟩) (by simp) _).setCell (p := ⟨w.heap.size + 1, 2, none⟩) (by simp) _)⟩
          · go_wp2_with fail
            go_roundw
            case rel => exact ⟨k + 1, x - p.n, by omega, rfl, by go_num, by omega, Lib.hid ⟨by rw [HF.out.1, HFA.out, if_neg hle], by rw [HT.out, totC_snoc]; have := HF.out.2; omega⟩, HSA⟩
            case measure => simp [intOf]; omega
        · obtain rfl : k = l.length := by omega
          exfalso
          have h1 := HF.out.2
          rw [List.take_length, HL.out.2.1] at h1
          have := HN.out
          omega
end Go.Proofs.Ytbibhjcmdehdbaa
