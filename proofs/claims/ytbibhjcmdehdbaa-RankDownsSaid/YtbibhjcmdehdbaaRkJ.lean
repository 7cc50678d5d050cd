/- The program's Quantile. -/
import Derived.Test.YtbibhjcmdehdbaaRkG
import Derived.Deep.CutRange
import Derived.Test.YtbibhjcmdehdbaaRkO
/-! The program's At. -/
namespace Go.Proofs.Ytbibhjcmdehdbaa
open Go.RowKit Go.Sort
set_option linter.unusedVariables false

/-- the bucket of the n-th -/
def findC : List Cel → Int → Option Cel
  | [], _ => none
  | c :: l, n => if n ≤ c.n then some c else findC l (n - c.n)
def c0 : Cel := ⟨0, 0, 0, 0⟩
def atE (h : HV) (n : Int) : Int := if h.ct = 0 then 30 else if n = 0 ∨ h.ct < n then 4 else 0
def atC (h : HV) (n : Int) : Cel := if atE h n = 0 then (findC (ordF h) n).getD c0 else c0
theorem atE_nil {h : HV} (n : Int) (e : h.ct = 0) : atE h n = 30 ∧ atC h n = c0 := by
  have h1 : atE h n = 30 := by unfold atE; rw [if_pos e]
  unfold atC; rw [h1]; exact ⟨rfl, rfl⟩
theorem atE_out {h : HV} {n : Int} (e : h.ct ≠ 0) (e2 : n = 0 ∨ h.ct < n) : atE h n = 4 ∧ atC h n = c0 := by
  have h1 : atE h n = 4 := by unfold atE; rw [if_neg e, if_pos e2]
  unfold atC; rw [h1]; exact ⟨rfl, rfl⟩
theorem atE_yes {h : HV} {n : Int} (e : h.ct ≠ 0) (e2 : ¬ (n = 0 ∨ h.ct < n)) : atE h n = 0 ∧ atC h n = (findC (ordF h) n).getD c0 := by
  have h1 : atE h n = 0 := by unfold atE; rw [if_neg e, if_neg e2]
  unfold atC; rw [h1]; exact ⟨rfl, if_pos rfl⟩
theorem findC_some : ∀ (l : List Cel) (n : Int), (∀ p ∈ l, 0 ≤ p.n) → 0 < n → n ≤ totC l → ∃ p, findC l n = some p ∧ p ∈ l
  | [], n, _, h0, h1 => by simp [totC] at h1; omega
  | c :: l, n, hp, h0, h1 => by
    by_cases e : n ≤ c.n
    · exact ⟨c, by simp [findC, e], List.mem_cons_self ..⟩
    · have h2 : totC (c :: l) = c.n + totC l := by simp [totC]
      obtain ⟨p, h3, h4⟩ := findC_some l (n - c.n) (fun p h => hp p (List.mem_cons_of_mem _ h)) (by omega) (by omega)
      exact ⟨p, by simp [findC, e, h3], List.mem_cons_of_mem _ h4⟩
theorem totC_snoc (l : List Cel) (p : Cel) : totC (l ++ [p]) = totC l + p.n := by
  induction l with
  | nil => simp [totC]
  | cons a l ih => simp [totC] at ih ⊢; omega
theorem findC_at {l : List Cel} {k : Nat} {p : Cel} (h : l[k]? = some p) (n : Int) : findC (l.drop k) n = if n ≤ p.n then some p else findC (l.drop (k + 1)) (n - p.n) := by
  have h1 : l.drop k = p :: l.drop (k + 1) := by
    obtain ⟨hk, he⟩ := List.getElem?_eq_some_iff.1 h
    rw [← he]; exact List.drop_eq_getElem_cons hk
  rw [h1]; rfl

def AtS (w : World) (hv : Array Value) (A1 : Option Addr) (l : List Cel) (wr : World) : Prop :=
  Rb wr w.heap.size 25 hv ∧ Rb wr (w.heap.size + 1) 48 #[.int .i64 0, .int .i64 0, .int .i64 0] ∧ Cs wr A1 l ∧ Below w.heap.size w wr
theorem AtS.below {w : World} {hv : Array Value} {A1 : Option Addr} {l : List Cel} {wr w2 : World} (h : AtS w hv A1 l wr) (hb : Below wr.heap.size wr w2) : AtS w hv A1 l w2 :=
  ⟨h.1.below hb, h.2.1.below hb, h.2.2.1.below hb, h.2.2.2.trans (hb.mono h.2.2.2.size)⟩
set_option maxHeartbeats 4000000 in
set_option maxRecDepth 100000 in
theorem at_any (h : HV) (A B : Option Addr) (c d : Nat) (n : Int) (w : World) (hP : Bk w A h.P) (hQ : Bk w B h.Q) (o : Ok h) (n0 : 0 ≤ n) (n1 : n ≤ 18446744073709551615) :
    Calls Try.prog 30 #[.agg #[.int .i64 h.k, .int .i64 h.s, .int .i64 h.z, .int .u64 h.zc, .int .u64 h.ct, .int .i64 h.sm, .slice A h.P.length c, .slice B h.Q.length d], .int .u64 n] w fun e w' => e = .returned (.tuple #[.agg #[.int .i64 (atC h n).d, .int .i64 (atC h n).s, .int .i64 (atC h n).i], .int .i64 (atE h n)]) ∧ Below w.heap.size w w' := by
  have hb0 : Below w.heap.size w ((w.alloc (.cells #[.int .i64 h.k, .int .i64 h.s, .int .i64 h.z, .int .u64 h.zc, .int .u64 h.ct, .int .i64 h.sm, .slice A h.P.length c, .slice B h.Q.length d] 25)).alloc (.cells #[.int .i64 0, .int .i64 0, .int .i64 0] 48)) := ((Below.refl _ _).alloc (Nat.le_refl _) _).alloc (by simp) _
  have HX0 := Lib.hid (And.intro ((Rb.new w w.heap.size rfl 25 #[.int .i64 h.k, .int .i64 h.s, .int .i64 h.z, .int .u64 h.zc, .int .u64 h.ct, .int .i64 h.sm, .slice A h.P.length c, .slice B h.Q.length d]).alloc (.cells #[.int .i64 0, .int .i64 0, .int .i64 0] 48)) (Rb.new (w.alloc (.cells #[.int .i64 h.k, .int .i64 h.s, .int .i64 h.z, .int .u64 h.zc, .int .u64 h.ct, .int .i64 h.sm, .slice A h.P.length c, .slice B h.Q.length d] 25)) (w.heap.size + 1) (by simp) 48 #[.int .i64 0, .int .i64 0, .int .i64 0]))
  have HB0 := Lib.hid hb0
  have HK0 := Lib.hid (And.intro (hP.below hb0) (hQ.below hb0))
  have HO := Lib.hid o
  have hct0 : 0 ≤ h.ct := by have g := o.toGood; have h1 := g.zc; have h2 := g.nP.cnt; have h3 := g.nQ.cnt; have h4 := g.ct; omega
  have hct1 := o.big
  clear hP hQ o hb0
  obtain ⟨vC, hvC⟩ : ∃ v, atC h n = v := ⟨_, rfl⟩
  obtain ⟨vE, hvE⟩ : ∃ v, atE h n = v := ⟨_, rfl⟩
  rw [hvC, hvE]
  have HV := Lib.hid (And.intro hvE hvC)
  clear hvC hvE
  go_enter Try.func30, Try.ntmps30
  go_upto_region 1 with fail
  generalize ((w.alloc (.cells #[.int .i64 h.k, .int .i64 h.s, .int .i64 h.z, .int .u64 h.zc, .int .u64 h.ct, .int .i64 h.sm, .slice A h.P.length c, .slice B h.Q.length d] 25)).alloc (.cells #[.int .i64 0, .int .i64 0, .int .i64 0] 48)) = w0 at *
  obtain ⟨x0, x1, x2, x3, x4, x5, x6, x7⟩ := HX0.out.1.eight
  have lx := HX0.out.1.lt
  obtain ⟨r0, r1, r2, f0, f1, f2⟩ := HX0.out.2.three
  have lr := HX0.out.2.lt
  by_cases hc : h.ct = 0
  · obtain ⟨e1, e2⟩ := atE_nil n hc
    rw [HV.out.1] at e1
    rw [HV.out.2] at e2
    subst e1 e2
    have hc1 : (h.ct == 0) = true := by simpa using hc
    clear hc HV
    go_wp2_with fail
    exact bodyPost_ret (v := .tuple #[.agg #[.int .i64 0, .int .i64 0, .int .i64 0], .int .i64 30]) (by simp [results, Try.results30, go_sem, r0, r1, r2]) rfl ⟨rfl, (((HB0.out.setCell (p := ⟨w.heap.size + 1, 0, none⟩) (by simp) _).setCell (p := ⟨w.heap.size + 1, 1, none⟩) (by simp) _).setCell (p := ⟨w.heap.size + 1, 2, none⟩) (by simp) _)⟩
  · have hc1 : (h.ct == 0) = false := by simpa using hc
    by_cases hn : n = 0 ∨ h.ct < n
    · obtain ⟨e1, e2⟩ := atE_out hc hn
      rw [HV.out.1] at e1
      rw [HV.out.2] at e2
      subst e1 e2
      clear hc HV
      by_cases hz : n = 0
      · subst hz
        clear hn
        go_wp2_with fail
        exact bodyPost_ret (v := .tuple #[.agg #[.int .i64 0, .int .i64 0, .int .i64 0], .int .i64 4]) (by simp [results, Try.results30, go_sem, r0, r1, r2]) rfl ⟨rfl, (((HB0.out.setCell (p := ⟨w.heap.size + 1, 0, none⟩) (by simp) _).setCell (p := ⟨w.heap.size + 1, 1, none⟩) (by simp) _).setCell (p := ⟨w.heap.size + 1, 2, none⟩) (by simp) _)⟩
      · have hz1 : (n == 0) = false := by simpa using hz
        have hz2 : decide (h.ct < n) = true := by simp; omega
        clear hz
        go_wp2_with fail
        exact bodyPost_ret (v := .tuple #[.agg #[.int .i64 0, .int .i64 0, .int .i64 0], .int .i64 4]) (by simp [results, Try.results30, go_sem, r0, r1, r2]) rfl ⟨rfl, (((HB0.out.setCell (p := ⟨w.heap.size + 1, 0, none⟩) (by simp) _).setCell (p := ⟨w.heap.size + 1, 1, none⟩) (by simp) _).setCell (p := ⟨w.heap.size + 1, 2, none⟩) (by simp) _)⟩
    · obtain ⟨e1, e2⟩ := atE_yes hc hn
      rw [HV.out.1] at e1
      rw [HV.out.2] at e2
      have HE := Lib.hid (And.intro e1 e2)
      have hz1 : (n == 0) = false := by simp; omega
      have hz2 : ¬ h.ct < n := by omega
      clear hc HV e1 e2 r0 r1 r2 f0 f1 f2 lr
      go_wp2_with fail
      refine (order_any h A B c d w0 HK0.out.1 HK0.out.2 HO.out).mono ?_
      rintro e w3 ⟨A1, c1, rfl, hcs, hb, hnw⟩
      obtain ⟨l, hl⟩ : ∃ l, ordF h = l := ⟨_, rfl⟩
      rw [hl] at hcs HE
      have HL := Lib.hid (show (∀ p ∈ l, CelOk p ∧ 0 ≤ p.n) ∧ totC l = h.ct ∧ l.length ≤ 1025 from by rw [← hl]; exact ⟨ord_cel HO.out, tot_ord HO.out, ord_len HO.out⟩)
      have HSt := Lib.hid (show AtS w #[.int .i64 h.k, .int .i64 h.s, .int .i64 h.z, .int .u64 h.zc, .int .u64 h.ct, .int .i64 h.sm, .slice A h.P.length c, .slice B h.Q.length d] A1 l w3 from ⟨HX0.out.1.below hb, HX0.out.2.below hb, hcs, HB0.out.trans (hb.mono HB0.out.size)⟩)
      rw [hl]
      have hll : (l.length : Int) ≤ 1025 := by have := HL.out.2.2; omega
      have HN := Lib.hid (show 0 < n ∧ n ≤ h.ct from by omega)
      clear x0 x1 x2 x3 x4 x5 x6 x7 lx hb hcs hnw hl HX0 HB0 HK0 hn hz1 hz2 hc1
      go_upto_region 5 with fail
      go_loopw [1, 24] (fun m i wr => ∃ (k : Nat) (x : Int), k ≤ l.length ∧ m = .int .u64 x ∧ i = .int .i64 k ∧ (0 < x ∧ x ≤ n) ∧ Hid (findC l n = findC (l.drop k) x ∧ x + totC (l.take k) = n) ∧ Hid (AtS w #[.int .i64 h.k, .int .i64 h.s, .int .i64 h.z, .int .u64 h.zc, .int .u64 h.ct, .int .i64 h.sm, .slice A h.P.length c, .slice B h.Q.length d] A1 l wr)) (fun _ i _ => l.length - (intOf i).toNat)
      case atStart => exact ⟨0, n, by omega, rfl, rfl, by have := HN.out; omega, Lib.hid ⟨rfl, by simp [totC]⟩, HSt⟩
      case round =>
        obtain ⟨k, x, hk, rfl, rfl, hx, HF, HS⟩ := hrel
        by_cases hlt : k < l.length
        · have hki : (k : Int) < (l.length : Int) := by omega
          obtain ⟨b, off, rfl, hcell⟩ := HS.out.2.2.1.some_ (by omega)
          obtain ⟨p, hp⟩ := getElem?_lt hlt
          obtain ⟨q0, q1, q2, q3⟩ := hcell k p hp
          have hpn := (HL.out.1 p (mem_of_at hp)).1.n
          have HT := Lib.hid (take_snoc l k p hp)
          have HFA := Lib.hid (findC_at hp x)
          have hlb := block_lt_of_cell q0
          simp only at hlb
          clear hcell hp
          go_upto_region 8 with fail
          clear q0 q1 q2 q3 hlb
          have hbA : Below wr.heap.size wr (wr.alloc (.cells #[.int .i64 p.d, .int .i64 p.s, .int .i64 p.i, .int .u64 p.n] 50)) := (Below.refl _ _).alloc (Nat.le_refl _) _
          obtain ⟨gc, hgc⟩ : ∃ g, wr.heap.size = g := ⟨_, rfl⟩
          have HCA := Lib.hid (Rb.new wr gc hgc 50 #[.int .i64 p.d, .int .i64 p.s, .int .i64 p.i, .int .u64 p.n])
          have HSA := Lib.hid (HS.out.below hbA)
          have hgn : ¬ gc = w.heap.size + 1 := by rw [← hgc]; have := HS.out.2.1.lt; omega
          rw [hgc]
          clear hbA hgc HS HSt
          generalize wr.alloc (.cells #[.int .i64 p.d, .int .i64 p.s, .int .i64 p.i, .int .u64 p.n] 50) = wA at *
          obtain ⟨c0_, c1_, c2_, c3_⟩ := HCA.out.four
          have lc := HCA.out.lt
          by_cases hle : x ≤ p.n
          · have hA := HFA.out
            rw [if_pos hle, ← HF.out.1] at hA
            have e2 := HE.out.2
            have e1 := HE.out.1
            rw [hA] at e2
            simp only [Option.getD_some] at e2
            subst e1 e2
            obtain ⟨r0, r1, r2, f0, f1, f2⟩ := HSA.out.2.1.three
            have lr := HSA.out.2.1.lt
            clear hA
            go_wp2_with fail
            have hfin := Lib.hid HSA.out.2.2.2
            exact bodyPost_ret (v := .tuple #[.agg #[.int .i64 vC.d, .int .i64 vC.s, .int .i64 vC.i], .int .i64 0]) (by simp [results, Try.results30, go_sem, r0, r1, r2]) rfl ⟨rfl, (((hfin.out.setCell (p := ⟨w.heap.size + 1, 0, none⟩) (by simp) _).setCell (p := ⟨w.heap.size + 1, 1, none⟩) (by simp) _).setCell (p := ⟨w.heap.size + 1, 2, none⟩) (by simp) _)⟩
          · go_wp2_with fail
            go_roundw
            case rel => exact ⟨k + 1, x - p.n, by omega, rfl, by go_num, by omega, Lib.hid ⟨by rw [HF.out.1, HFA.out, if_neg hle], by rw [HT.out, totC_snoc]; have := HF.out.2; omega⟩, HSA⟩
            case measure => simp [intOf]; omega
        · obtain rfl : k = l.length := by omega
          exfalso
          have h1 := HF.out.2
          rw [List.take_length, HL.out.2.1] at h1
          have := HN.out
          omega
end Go.Proofs.Ytbibhjcmdehdbaa

/-! The document's At. -/
namespace Go.Proofs.Ytbibhjcmdehdbaa
open Go.RowKit Go.Sort
set_option linter.unusedVariables false

theorem Rb.fourF {W : World} {g : Nat} {t : TypeId} {u v x y : Value} (h : Rb W g t #[u, v, x, y]) : W.cell? ⟨g, 0, none⟩ = some u ∧ W.cell? ⟨g, 1, none⟩ = some v ∧ W.cell? ⟨g, 2, none⟩ = some x ∧ W.cell? ⟨g, 3, none⟩ = some y ∧ W.frozen? ⟨g, 0, none⟩ = false ∧ W.frozen? ⟨g, 1, none⟩ = false ∧ W.frozen? ⟨g, 2, none⟩ = false ∧ W.frozen? ⟨g, 3, none⟩ = false := ⟨h.cell 0, h.cell 1, h.cell 2, h.cell 3, h.frozen 0, h.frozen 1, h.frozen 2, h.frozen 3⟩
def RatS (w : World) (hv : Array Value) (A1 : Option Addr) (l : List Cel) (wr : World) : Prop :=
  Rb wr w.heap.size 25 hv ∧ Rb wr (w.heap.size + 1) 45 #[.int .i64 0, .int .i64 0, .int .i64 0, .int .u64 0] ∧ Cs wr A1 l ∧ Below w.heap.size w wr
theorem RatS.below {w : World} {hv : Array Value} {A1 : Option Addr} {l : List Cel} {wr w2 : World} (h : RatS w hv A1 l wr) (hb : Below wr.heap.size wr w2) : RatS w hv A1 l w2 :=
  ⟨h.1.below hb, h.2.1.below hb, h.2.2.1.below hb, h.2.2.2.trans (hb.mono h.2.2.2.size)⟩
set_option maxHeartbeats 4000000 in
set_option maxRecDepth 100000 in
theorem refat_any (h : HV) (A B : Option Addr) (c d : Nat) (n : Int) (w : World) (hP : Bk w A h.P) (hQ : Bk w B h.Q) (o : Ok h) (n0 : 0 ≤ n) (n1 : n ≤ 18446744073709551615) :
    Calls Try.prog 31 #[.agg #[.int .i64 h.k, .int .i64 h.s, .int .i64 h.z, .int .u64 h.zc, .int .u64 h.ct, .int .i64 h.sm, .slice A h.P.length c, .slice B h.Q.length d], .int .u64 n] w fun e w' => e = .returned (.tuple #[.agg #[.int .i64 (atC h n).d, .int .i64 (atC h n).s, .int .i64 (atC h n).i, .int .u64 (atC h n).n], .int .i64 (atE h n)]) ∧ Below w.heap.size w w' := by
  have hb0 : Below w.heap.size w ((w.alloc (.cells #[.int .i64 h.k, .int .i64 h.s, .int .i64 h.z, .int .u64 h.zc, .int .u64 h.ct, .int .i64 h.sm, .slice A h.P.length c, .slice B h.Q.length d] 25)).alloc (.cells #[.int .i64 0, .int .i64 0, .int .i64 0, .int .u64 0] 45)) := ((Below.refl _ _).alloc (Nat.le_refl _) _).alloc (by simp) _
  have HX0 := Lib.hid (And.intro ((Rb.new w w.heap.size rfl 25 #[.int .i64 h.k, .int .i64 h.s, .int .i64 h.z, .int .u64 h.zc, .int .u64 h.ct, .int .i64 h.sm, .slice A h.P.length c, .slice B h.Q.length d]).alloc (.cells #[.int .i64 0, .int .i64 0, .int .i64 0, .int .u64 0] 45)) (Rb.new (w.alloc (.cells #[.int .i64 h.k, .int .i64 h.s, .int .i64 h.z, .int .u64 h.zc, .int .u64 h.ct, .int .i64 h.sm, .slice A h.P.length c, .slice B h.Q.length d] 25)) (w.heap.size + 1) (by simp) 45 #[.int .i64 0, .int .i64 0, .int .i64 0, .int .u64 0]))
  have HB0 := Lib.hid hb0
  have HK0 := Lib.hid (And.intro (hP.below hb0) (hQ.below hb0))
  have HO := Lib.hid o
  have hct0 : 0 ≤ h.ct := by have g := o.toGood; have h1 := g.zc; have h2 := g.nP.cnt; have h3 := g.nQ.cnt; have h4 := g.ct; omega
  have hct1 := o.big
  clear hP hQ o hb0
  obtain ⟨vC, hvC⟩ : ∃ v, atC h n = v := ⟨_, rfl⟩
  obtain ⟨vE, hvE⟩ : ∃ v, atE h n = v := ⟨_, rfl⟩
  rw [hvC, hvE]
  have HV := Lib.hid (And.intro hvE hvC)
  clear hvC hvE
  go_enter Try.func31, Try.ntmps31
  go_upto_region 1 with fail
  generalize ((w.alloc (.cells #[.int .i64 h.k, .int .i64 h.s, .int .i64 h.z, .int .u64 h.zc, .int .u64 h.ct, .int .i64 h.sm, .slice A h.P.length c, .slice B h.Q.length d] 25)).alloc (.cells #[.int .i64 0, .int .i64 0, .int .i64 0, .int .u64 0] 45)) = w0 at *
  obtain ⟨x0, x1, x2, x3, x4, x5, x6, x7⟩ := HX0.out.1.eight
  have lx := HX0.out.1.lt
  obtain ⟨r0, r1, r2, r3, f0, f1, f2, f3⟩ := HX0.out.2.fourF
  have lr := HX0.out.2.lt
  by_cases hc : h.ct = 0
  · obtain ⟨e1, e2⟩ := atE_nil n hc
    rw [HV.out.1] at e1
    rw [HV.out.2] at e2
    subst e1 e2
    have hc1 : (h.ct == 0) = true := by simpa using hc
    clear hc HV
    go_wp2_with fail
    exact bodyPost_ret (v := .tuple #[.agg #[.int .i64 0, .int .i64 0, .int .i64 0, .int .u64 0], .int .i64 30]) (by simp [results, Try.results31, go_sem, r0, r1, r2, r3]) rfl ⟨rfl, ((((HB0.out.setCell (p := ⟨w.heap.size + 1, 0, none⟩) (by simp) _).setCell (p := ⟨w.heap.size + 1, 1, none⟩) (by simp) _).setCell (p := ⟨w.heap.size + 1, 2, none⟩) (by simp) _).setCell (p := ⟨w.heap.size + 1, 3, none⟩) (by simp) _)⟩
  · have hc1 : (h.ct == 0) = false := by simpa using hc
    by_cases hn : n = 0 ∨ h.ct < n
    · obtain ⟨e1, e2⟩ := atE_out hc hn
      rw [HV.out.1] at e1
      rw [HV.out.2] at e2
      subst e1 e2
      clear hc HV
      by_cases hz : n = 0
      · subst hz
        clear hn
        go_wp2_with fail
        exact bodyPost_ret (v := .tuple #[.agg #[.int .i64 0, .int .i64 0, .int .i64 0, .int .u64 0], .int .i64 4]) (by simp [results, Try.results31, go_sem, r0, r1, r2, r3]) rfl ⟨rfl, ((((HB0.out.setCell (p := ⟨w.heap.size + 1, 0, none⟩) (by simp) _).setCell (p := ⟨w.heap.size + 1, 1, none⟩) (by simp) _).setCell (p := ⟨w.heap.size + 1, 2, none⟩) (by simp) _).setCell (p := ⟨w.heap.size + 1, 3, none⟩) (by simp) _)⟩
      · have hz1 : (n == 0) = false := by simpa using hz
        have hz2 : decide (h.ct < n) = true := by simp; omega
        clear hz
        go_wp2_with fail
        exact bodyPost_ret (v := .tuple #[.agg #[.int .i64 0, .int .i64 0, .int .i64 0, .int .u64 0], .int .i64 4]) (by simp [results, Try.results31, go_sem, r0, r1, r2, r3]) rfl ⟨rfl, ((((HB0.out.setCell (p := ⟨w.heap.size + 1, 0, none⟩) (by simp) _).setCell (p := ⟨w.heap.size + 1, 1, none⟩) (by simp) _).setCell (p := ⟨w.heap.size + 1, 2, none⟩) (by simp) _).setCell (p := ⟨w.heap.size + 1, 3, none⟩) (by simp) _)⟩
    · obtain ⟨e1, e2⟩ := atE_yes hc hn
      rw [HV.out.1] at e1
      rw [HV.out.2] at e2
      have HE := Lib.hid (And.intro e1 e2)
      have hz1 : (n == 0) = false := by simp; omega
      have hz2 : ¬ h.ct < n := by omega
      clear hc HV e1 e2 r0 r1 r2 r3 f0 f1 f2 f3 lr
      go_wp2_with fail
      refine (reford_any h A B c d w0 HK0.out.1 HK0.out.2 HO.out).mono ?_
      rintro e w3 ⟨A1, c1, rfl, hcs, hb, hnw⟩
      obtain ⟨l, hl⟩ : ∃ l, ordF h = l := ⟨_, rfl⟩
      rw [hl] at hcs HE
      have HL := Lib.hid (show (∀ p ∈ l, CelOk p ∧ 0 ≤ p.n) ∧ totC l = h.ct ∧ l.length ≤ 1025 from by rw [← hl]; exact ⟨ord_cel HO.out, tot_ord HO.out, ord_len HO.out⟩)
      have HSt := Lib.hid (show RatS w #[.int .i64 h.k, .int .i64 h.s, .int .i64 h.z, .int .u64 h.zc, .int .u64 h.ct, .int .i64 h.sm, .slice A h.P.length c, .slice B h.Q.length d] A1 l w3 from ⟨HX0.out.1.below hb, HX0.out.2.below hb, hcs, HB0.out.trans (hb.mono HB0.out.size)⟩)
      rw [hl]
      have hll : (l.length : Int) ≤ 1025 := by have := HL.out.2.2; omega
      have HN := Lib.hid (show 0 < n ∧ n ≤ h.ct from by omega)
      clear x0 x1 x2 x3 x4 x5 x6 x7 lx hb hcs hnw hl HX0 HB0 HK0 hn hz1 hz2 hc1
      go_wp2_with fail
      go_loopw [7, 8] (fun m i wr => ∃ (k : Nat) (x : Int), k ≤ l.length ∧ m = .int .u64 x ∧ i = .int .i64 k ∧ (0 ≤ x ∧ x < n) ∧ Hid (findC l n = findC (l.drop k) (n - x) ∧ x = totC (l.take k)) ∧ Hid (RatS w #[.int .i64 h.k, .int .i64 h.s, .int .i64 h.z, .int .u64 h.zc, .int .u64 h.ct, .int .i64 h.sm, .slice A h.P.length c, .slice B h.Q.length d] A1 l wr)) (fun _ i _ => l.length - (intOf i).toNat)
      case atStart => exact ⟨0, 0, by omega, rfl, rfl, by have := HN.out; omega, Lib.hid ⟨by simp, by simp [totC]⟩, HSt⟩
      case round =>
        obtain ⟨k, x, hk, rfl, rfl, hx, HF, HS⟩ := hrel
        by_cases hlt : k < l.length
        · have hki : (k : Int) < (l.length : Int) := by omega
          obtain ⟨b, off, rfl, hcell⟩ := HS.out.2.2.1.some_ (by omega)
          obtain ⟨p, hp⟩ := getElem?_lt hlt
          obtain ⟨q0, q1, q2, q3⟩ := hcell k p hp
          have hpn := (HL.out.1 p (mem_of_at hp)).1.n
          have HT := Lib.hid (take_snoc l k p hp)
          have HFA := Lib.hid (findC_at hp (n - x))
          have hlb := block_lt_of_cell q0
          simp only at hlb
          clear hcell hp HSt
          by_cases hle : n - x ≤ p.n
          · have hA := HFA.out
            rw [if_pos hle, ← HF.out.1] at hA
            have e2 := HE.out.2
            have e1 := HE.out.1
            rw [hA] at e2
            simp only [Option.getD_some] at e2
            subst e1 e2
            obtain ⟨r0, r1, r2, r3, f0, f1, f2, f3⟩ := HS.out.2.1.fourF
            have lr := HS.out.2.1.lt
            have hfin := Lib.hid HS.out.2.2.2
            clear hA
            go_wp2_with fail
            exact bodyPost_ret (v := .tuple #[.agg #[.int .i64 vC.d, .int .i64 vC.s, .int .i64 vC.i, .int .u64 vC.n], .int .i64 0]) (by simp [results, Try.results31, go_sem, r0, r1, r2, r3]) rfl ⟨rfl, ((((hfin.out.setCell (p := ⟨w.heap.size + 1, 0, none⟩) (by simp) _).setCell (p := ⟨w.heap.size + 1, 1, none⟩) (by simp) _).setCell (p := ⟨w.heap.size + 1, 2, none⟩) (by simp) _).setCell (p := ⟨w.heap.size + 1, 3, none⟩) (by simp) _)⟩
          · go_wp2_with fail
            go_roundw
            case rel => exact ⟨k + 1, x + p.n, by omega, rfl, by go_num, by omega, Lib.hid ⟨by rw [HF.out.1, HFA.out, if_neg hle]; congr 1; omega, by rw [HT.out, totC_snoc, ← HF.out.2]⟩, HS⟩
            case measure => simp [intOf]; omega
        · obtain rfl : k = l.length := by omega
          exfalso
          have h1 := HF.out.2
          rw [List.take_length, HL.out.2.1] at h1
          have := HN.out
          omega
end Go.Proofs.Ytbibhjcmdehdbaa

/-! The program's Quantile. -/
namespace Go.Proofs.Ytbibhjcmdehdbaa
open Go.RowKit Go.Sort
set_option linter.unusedVariables false

/-- the rank of a part, at least 1 -/
def qN (ct part whole : Int) : Int := max (-(-(part * ct) / whole)) 1
def quE (h : HV) (part whole : Int) : Int := if whole = 0 ∨ whole < part then 1 else atE h (qN h.ct part whole)
def quC (h : HV) (part whole : Int) : Cel := if whole = 0 ∨ whole < part then c0 else atC h (qN h.ct part whole)
theorem up_le {x y m : Int} (hy : 0 < y) (h : x ≤ m * y) : -(-x / y) ≤ m := by
  have h1 : -m ≤ -x / y := (Int.le_ediv_iff_mul_le hy).2 (by rw [Int.neg_mul]; omega)
  omega
theorem up_ge {x y m : Int} (hy : 0 < y) (h : -(-x / y) ≤ m) : x ≤ m * y := by
  have h1 : -m * y ≤ -x := (Int.le_ediv_iff_mul_le hy).1 (by omega)
  rw [Int.neg_mul] at h1
  omega
theorem up_pos {x y : Int} (hy : 0 < y) (h : 0 ≤ x) : 0 ≤ -(-x / y) := by
  have h1 : -x / y < 1 := Int.ediv_lt_of_lt_mul hy (by omega)
  omega
theorem q_fits {part ct whole : Int} (p0 : 0 ≤ part) (p1 : part ≤ whole) (h0 : 0 < whole) (h1 : whole ≤ 18446744073709551615) (c0 : 0 ≤ ct) (c1 : ct ≤ 18446744073709551615) :
    ceilV (mulh part ct) (mull part ct) whole = -(-(part * ct) / whole) ∧ ceilE (mulh part ct) (mull part ct) whole = 0 ∧ 0 ≤ -(-(part * ct) / whole) ∧ -(-(part * ct) / whole) ≤ ct := by
  have hm : part * ct ≤ ct * whole := by rw [Int.mul_comm]; exact Int.mul_le_mul_of_nonneg_left p1 c0
  have hn : 0 ≤ part * ct := Int.mul_nonneg p0 c0
  have hw := mul_whole part ct
  have hl := mull_bd part ct
  have hc := up_le h0 hm
  have hp := up_pos h0 hn
  have hN : ceilN (mulh part ct) (mull part ct) whole = -(-(part * ct) / whole) := by unfold ceilN; rw [hw]
  have hcw : ct * whole ≤ 18446744073709551615 * whole := Int.mul_le_mul_of_nonneg_right c1 (by omega)
  have hlt : mulh part ct < whole := by unfold two64 at hw; omega
  obtain ⟨e1, e2⟩ := ceil_fits (h := mulh part ct) (l := mull part ct) hlt (by rw [hN]; omega)
  exact ⟨by rw [e1, hN], e2, hp, hc⟩

set_option maxHeartbeats 4000000 in
set_option maxRecDepth 100000 in
theorem quant_any (h : HV) (A B : Option Addr) (c d : Nat) (p o_ : Int) (w : World) (hP : Bk w A h.P) (hQ : Bk w B h.Q) (o : Ok h) (p0 : 0 ≤ p) (p1 : p ≤ 18446744073709551615) (o0 : 0 ≤ o_) (o1 : o_ ≤ 18446744073709551615) :
    Calls Try.prog 32 #[.agg #[.int .i64 h.k, .int .i64 h.s, .int .i64 h.z, .int .u64 h.zc, .int .u64 h.ct, .int .i64 h.sm, .slice A h.P.length c, .slice B h.Q.length d], .int .u64 p, .int .u64 o_] w fun e w' => e = .returned (.tuple #[.agg #[.int .i64 (quC h p o_).d, .int .i64 (quC h p o_).s, .int .i64 (quC h p o_).i], .int .i64 (quE h p o_)]) ∧ Below w.heap.size w w' := by
  have hb0 : Below w.heap.size w ((w.alloc (.cells #[.int .i64 h.k, .int .i64 h.s, .int .i64 h.z, .int .u64 h.zc, .int .u64 h.ct, .int .i64 h.sm, .slice A h.P.length c, .slice B h.Q.length d] 25)).alloc (.cells #[.int .i64 0, .int .i64 0, .int .i64 0] 48)) := ((Below.refl _ _).alloc (Nat.le_refl _) _).alloc (by simp) _
  have HX0 := Lib.hid (And.intro ((Rb.new w w.heap.size rfl 25 #[.int .i64 h.k, .int .i64 h.s, .int .i64 h.z, .int .u64 h.zc, .int .u64 h.ct, .int .i64 h.sm, .slice A h.P.length c, .slice B h.Q.length d]).alloc (.cells #[.int .i64 0, .int .i64 0, .int .i64 0] 48)) (Rb.new (w.alloc (.cells #[.int .i64 h.k, .int .i64 h.s, .int .i64 h.z, .int .u64 h.zc, .int .u64 h.ct, .int .i64 h.sm, .slice A h.P.length c, .slice B h.Q.length d] 25)) (w.heap.size + 1) (by simp) 48 #[.int .i64 0, .int .i64 0, .int .i64 0]))
  have HB0 := Lib.hid hb0
  have HK0 := Lib.hid (And.intro (hP.below hb0) (hQ.below hb0))
  have HO := Lib.hid o
  have hct0 : 0 ≤ h.ct := by have g := o.toGood; have h1 := g.zc; have h2 := g.nP.cnt; have h3 := g.nQ.cnt; have h4 := g.ct; omega
  have hct1 := o.big
  clear hP hQ o hb0
  by_cases hbad : o_ = 0 ∨ o_ < p
  · have e1 : quE h p o_ = 1 := if_pos hbad
    have e2 : quC h p o_ = c0 := if_pos hbad
    rw [e1, e2]
    clear e1 e2
    go_enter Try.func32, Try.ntmps32
    go_upto_region 1 with fail
    generalize ((w.alloc (.cells #[.int .i64 h.k, .int .i64 h.s, .int .i64 h.z, .int .u64 h.zc, .int .u64 h.ct, .int .i64 h.sm, .slice A h.P.length c, .slice B h.Q.length d] 25)).alloc (.cells #[.int .i64 0, .int .i64 0, .int .i64 0] 48)) = w0 at *
    obtain ⟨r0, r1, r2, f0, f1, f2⟩ := HX0.out.2.three
    have lr := HX0.out.2.lt
    by_cases hz : o_ = 0
    · subst hz
      clear hbad
      go_wp2_with fail
      exact bodyPost_ret (v := .tuple #[.agg #[.int .i64 0, .int .i64 0, .int .i64 0], .int .i64 1]) (by simp [results, Try.results32, go_sem, r0, r1, r2]) rfl ⟨rfl, (((HB0.out.setCell (p := ⟨w.heap.size + 1, 0, none⟩) (by simp) _).setCell (p := ⟨w.heap.size + 1, 1, none⟩) (by simp) _).setCell (p := ⟨w.heap.size + 1, 2, none⟩) (by simp) _)⟩
    · have hz1 : (o_ == 0) = false := by simpa using hz
      have hz2 : o_ < p := by omega
      clear hz hbad
      go_wp2_with fail
      exact bodyPost_ret (v := .tuple #[.agg #[.int .i64 0, .int .i64 0, .int .i64 0], .int .i64 1]) (by simp [results, Try.results32, go_sem, r0, r1, r2]) rfl ⟨rfl, (((HB0.out.setCell (p := ⟨w.heap.size + 1, 0, none⟩) (by simp) _).setCell (p := ⟨w.heap.size + 1, 1, none⟩) (by simp) _).setCell (p := ⟨w.heap.size + 1, 2, none⟩) (by simp) _)⟩
  · have e1 : quE h p o_ = atE h (qN h.ct p o_) := if_neg hbad
    have e2 : quC h p o_ = atC h (qN h.ct p o_) := if_neg hbad
    rw [e1, e2]
    obtain ⟨g1, g2, g3, g4⟩ := q_fits (part := p) (ct := h.ct) (whole := o_) p0 (by omega) (by omega) o1 hct0 hct1
    have HM := Lib.hid (mulh_bd p0 p1 hct0 hct1)
    have HML := Lib.hid (mull_bd p h.ct)
    obtain ⟨Q, hq⟩ : ∃ x, -(-(p * h.ct) / o_) = x := ⟨_, rfl⟩
    unfold qN
    rw [hq] at g1 g3 g4 ⊢
    have HG := Lib.hid (And.intro g1 g2)
    obtain ⟨vC, hvC⟩ : ∃ v, atC h (max Q 1) = v := ⟨_, rfl⟩
    obtain ⟨vE, hvE⟩ : ∃ v, atE h (max Q 1) = v := ⟨_, rfl⟩
    rw [hvC, hvE]
    have HVV := Lib.hid (And.intro hvC hvE)
    clear hvC hvE
    have hz1 : (o_ == 0) = false := by simp; omega
    have hz2 : ¬ o_ < p := by omega
    clear e1 e2 g1 g2 hq
    go_enter Try.func32, Try.ntmps32
    go_upto_region 1 with fail
    generalize ((w.alloc (.cells #[.int .i64 h.k, .int .i64 h.s, .int .i64 h.z, .int .u64 h.zc, .int .u64 h.ct, .int .i64 h.sm, .slice A h.P.length c, .slice B h.Q.length d] 25)).alloc (.cells #[.int .i64 0, .int .i64 0, .int .i64 0] 48)) = w0 at *
    obtain ⟨x0, x1, x2, x3, x4, x5, x6, x7⟩ := HX0.out.1.eight
    have lx := HX0.out.1.lt
    clear hbad
    go_wp2_with fail
    refine (mul_any p h.ct w0 p0 p1 hct0 hct1).mono ?_
    rintro e w1 ⟨rfl, hb1⟩
    have HX1 := Lib.hid (And.intro (HX0.out.1.below hb1) (HX0.out.2.below hb1))
    have HB1 := Lib.hid (HB0.out.trans (hb1.mono HB0.out.size))
    have HK1 := Lib.hid (And.intro (HK0.out.1.below hb1) (HK0.out.2.below hb1))
    clear hb1 HX0 HB0 HK0 x0 x1 x2 x3 x4 x5 x6 x7 lx
    go_wp2_with fail
    refine (ceil_any (mulh p h.ct) (mull p h.ct) o_ w1 HM.out.1 HML.out.1 HML.out.2 o1).mono ?_
    rintro e w2 ⟨rfl, hb2⟩
    rw [HG.out.1, HG.out.2]
    have HX2 := Lib.hid (And.intro (HX1.out.1.below hb2) (HX1.out.2.below hb2))
    have HB2 := Lib.hid (HB1.out.trans (hb2.mono HB1.out.size))
    have HK2 := Lib.hid (And.intro (HK1.out.1.below hb2) (HK1.out.2.below hb2))
    clear hb2 HX1 HB1 HK1
    obtain ⟨x0, x1, x2, x3, x4, x5, x6, x7⟩ := HX2.out.1.eight
    have lx := HX2.out.1.lt
    go_wp2_with fail
    refine (at_any h A B c d (max Q 1) w2 HK2.out.1 HK2.out.2 HO.out (by omega) (by omega)).mono ?_
    rintro e w3 ⟨rfl, hb3⟩
    rw [HVV.out.1, HVV.out.2]
    have HB3 := Lib.hid (HB2.out.trans (hb3.mono HB2.out.size))
    obtain ⟨r0, r1, r2, f0, f1, f2⟩ := (HX2.out.2.below hb3).three
    have lr := (HX2.out.2.below hb3).lt
    clear hb3 HX2 HB2 HK2 x0 x1 x2 x3 x4 x5 x6 x7 lx
    go_wp2_with fail
    exact bodyPost_ret (v := .tuple #[.agg #[.int .i64 vC.d, .int .i64 vC.s, .int .i64 vC.i], .int .i64 vE]) (by simp [results, Try.results32, go_sem, r0, r1, r2]) rfl ⟨rfl, (((HB3.out.setCell (p := ⟨w.heap.size + 1, 0, none⟩) (by simp) _).setCell (p := ⟨w.heap.size + 1, 1, none⟩) (by simp) _).setCell (p := ⟨w.heap.size + 1, 2, none⟩) (by simp) _)⟩
end Go.Proofs.Ytbibhjcmdehdbaa
