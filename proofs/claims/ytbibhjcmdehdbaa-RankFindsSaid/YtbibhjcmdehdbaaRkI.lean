/- The document's At. -/
import Derived.Test.YtbibhjcmdehdbaaRkH
namespace Go.Proofs.Ytbibhjcmdehdbaa
open Go.RowKit Go.Sort
set_option linter.unusedVariables false

theorem Rb.fourF {W : World} {g : Nat} {t : TypeId} {u v x y : Value} (h : Rb W g t #[u, v, x, y]) : W.cell? ⟨g, 0, none⟩ = some u ∧ W.cell? ⟨g, 1, none⟩ = some v ∧ W.cell? ⟨g, 2, none⟩ = some x ∧ W.cell? ⟨g, 3, none⟩ = some y ∧ W.frozen? ⟨g, 0, none⟩ = false ∧ W.frozen? ⟨g, 1, none⟩ = false ∧ W.frozen? ⟨g, 2, none⟩ = false ∧ W.frozen? ⟨g, 3, none⟩ = false := ⟨h.cell 0, h.cell 1, h.cell 2, h.cell 3, h.frozen 0, h.frozen 1, h.frozen 2, h.frozen 3⟩
def RatS (w : World) (hv : Array Value) (A1 : Option Addr) (l : List Cel) (wr : World) : Prop :=
  Rb wr w.heap.size 25 hv ∧ Rb wr (w.heap.size + 1) 45 #[.int .i64 0, .int .i64 0, .int .i64 0, .int .u64 0] ∧ Cs wr A1 l ∧ Below w.heap.size w wr
theorem RatS.below {w : World} {hv : Array Value} {A1 : Option Addr} {l : List Cel} {wr w2 : World} (h : RatS w hv A1 l wr) (hb : Below wr.heap.size wr w2) : RatS w hv A1 l w2 :=
  ⟨h.1.below hb, h.2.1.below hb, h.2.2.1.below hb, h.2.2.2.trans (hb.mono h.2.2.2.size)⟩
set_option maxHeartbeats 4000000 in
set_option maxRecDepth 100000 in
theorem refat_any (h : HV) (A B : Option Addr) (c d : Nat) (n : Int) (w : World) (hP : Bk w A h.P) (hQ : Bk w B h.Q) (o : Ok h) (n0 : 0 ≤ n) (n1 : n ≤ 18446744073709551615) :
    Calls Try.prog 31 #[.agg #[.int .i64 h.k, .int .i64 h.s, .int .i64 h.z, .int .u64 h.zc, .int .u64 h.ct, .int .i64 h.sm, .slice A h.P.length c, .slice B h.Q.length d], .int .u64 n] w fun e w' => e = .returned (.tuple #[.agg #[.int .i64 (atC h n).d, .int .i64 (atC h n).s, .int .i64 (atC h n).i, .int .u64 (atC h n).n], .int .i64 (atE h n)]) ∧ Below w.heap.size w w' := by
  have hb0 : Below w.heap.size w ((w.alloc (.cells #[.int .i64 h.k, .int .i64 h.s, .int .i64 h.z, .int .u64 h.zc, .int .u64 h.ct, .int .i64 h.sm, .slice A h.P.length c, .slice B h.Q.length d] 25)).alloc (.cells #[.int .i64 0, .int .i64 0, .int .i64 0, .int .u64 0] 45)) := ((Below.refl _ _).alloc (Nat.le_refl _) _).alloc (by simp) _
  have HX0 := Lib.hid (And.intro ((Rb.new w w.heap.size rfl 25 #[.int .i64 h.k, .int .i64 h.s, .int .i64 h.z, .int .u64 h.zc, .int .u64 h.ct, .int .i64 h.sm, .slice A h.P.length c, .slice B h.Q.length d]).alloc (.cells #[.int .i64 0, .int .i64 0, .int .i64 0, .int .u64 0] 45)) (Rb.new (w.alloc (.cells #[.int .i64 h.k, .int .i64 h.s, .int .i64 h.z, .int .u64 h.zc, .int .u64 h.ct, .int .i64 h.sm, .slice A h.P.length c, .slice B h.Q.length d] 25)) (w.heap.size + 1) (by simp) 45 #[.int .i64 0, .int .i64 0, .int .i64 0, .int .u64 0]))
  have HB0 := Lib.hid hb0
  have HK0 := Lib.hid (And.intro (hP.below hb0) (hQ.below hb0))
  have HO := Lib.hid o
  have hct0 : 0 ≤ h.ct := by have g := o.toGood; have h1 := g.zc; have h2 := g.nP.cnt; have h3 := g.nQ.cnt; have h4 := g.ct; omega
  have hct1 := o.big
  clear hP hQ o hb0
  obtain ⟨vC, hvC⟩ : ∃ v, atC h n = v := ⟨_, rfl⟩
  obtain ⟨vE, hvE⟩ : ∃ v, atE h n = v := ⟨_, rfl⟩
  rw [hvC, hvE]
  have HV := Lib.hid (And.intro hvE hvC)
  clear hvC hvE
  go_enter Try.func31, Try.ntmps31
  go_upto_region 1 with fail
  generalize ((w.alloc (.cells #[.int .i64 h.k, .int .i64 h.s, .int .i64 h.z, .int .u64 h.zc, .int .u64 h.ct, .int .i64 h.sm, .slice A h.P.length c, .slice B h.Q.length d] 25)).alloc (.cells #[.int .i64 0, .int .i64 0, .int .i64 0, .int .u64 0] 45)) = w0 at *
  obtain ⟨x0, x1, x2, x3, x4, x5, x6, x7⟩ := HX0.out.1.eight
  have lx := HX0.out.1.lt
  obtain ⟨r0, r1, r2, r3, f0, f1, f2, f3⟩ := HX0.out.2.fourF
  have lr := HX0.out.2.lt
  by_cases hc : h.ct = 0
  · obtain ⟨e1, e2⟩ := atE_nil n hc
    rw [HV.out.1] at e1
    rw [HV.out.2] at e2
    subst e1 e2
    have hc1 : (h.ct == 0) = true := by simpa using hc
    clear hc HV
    go_wp2_with fail
    exact bodyPost_ret (v := .tuple #[.agg #[.int .i64 0, .int .i64 0, .int .i64 0, .int .u64 0], .int .i64 30]) (by simp [results, Try.results31, go_sem, r0, r1, r2, r3]) rfl ⟨rfl, ((((HB0.out.setCell (p := ⟨w.heap.size + 1, 0, none⟩) (by simp) _).setCell (p := ⟨w.heap.size + 1, 1, none⟩) (by simp) _).setCell (p := ⟨w.heap.size + 1, 2, none⟩) (by simp) _).setCell (p := ⟨w.heap.size + 1, 3, none⟩) (by simp) _)⟩
  · have hc1 : (h.ct == 0) = false := by simpa using hc
    by_cases hn : n = 0 ∨ h.ct < n
    · obtain ⟨e1, e2⟩ := atE_out hc hn
      rw [HV.out.1] at e1
      rw [HV.out.2] at e2
      subst e1 e2
      clear hc HV
      by_cases hz : n = 0
      · subst hz
        clear hn
        go_wp2_with fail
        exact bodyPost_ret (v := .tuple #[.agg #[.int .i64 0, .int .i64 0, .int .i64 0, .int .u64 0], .int .i64 4]) (by simp [results, Try.results31, go_sem, r0, r1, r2, r3]) rfl ⟨rfl, ((((HB0.out.setCell (p := ⟨w.heap.size + 1, 0, none⟩) (by simp) _).setCell (p := ⟨w.heap.size + 1, 1, none⟩) (by simp) _).setCell (p := ⟨w.heap.size + 1, 2, none⟩) (by simp) _).setCell (p := ⟨w.heap.size + 1, 3, none⟩) (by simp) _)⟩
      · have hz1 : (n == 0) = false := by simpa using hz
        have hz2 : decide (h.ct < n) = true := by simp; omega
        clear hz
        go_wp2_with fail
        exact bodyPost_ret (v := .tuple #[.agg #[.int .i64 0, .int .i64 0, .int .i64 0, .int .u64 0], .int .i64 4]) (by simp [results, Try.results31, go_sem, r0, r1, r2, r3]) rfl ⟨rfl, ((((HB0.out.setCell (p := ⟨w.heap.size + 1, 0, none⟩) (by simp) _).setCell (p := ⟨w.heap.size + 1, 1, none⟩) (by simp) _).setCell (p := ⟨w.heap.size + 1, 2, none⟩) (by simp) _).setCell (p := ⟨w.heap.size + 1, 3, none⟩) (by simp) _)⟩
    · obtain ⟨e1, e2⟩ := atE_yes hc hn
      rw [HV.out.1] at e1
      rw [HV.out.2] at e2
      have HE := Lib.hid (And.intro e1 e2)
      have hz1 : (n == 0) = false := by simp; omega
      have hz2 : ¬ h.ct < n := by omega
      clear hc HV e1 e2 r0 r1 r2 r3 f0 f1 f2 f3 lr
      go_wp2_with fail
      refine (reford_any h A B c d w0 HK0.out.1 HK0.out.2 HO.out).mono ?_
      rintro e w3 ⟨A1, c1, rfl, hcs, hb, hnw⟩
      obtain ⟨l, hl⟩ : ∃ l, ordF h = l := ⟨_, rfl⟩
      rw [hl] at hcs HE
      have HL := Lib.hid (show (∀ p ∈ l, CelOk p ∧ 0 ≤ p.n) ∧ totC l = h.ct ∧ l.length ≤ 1025 from by rw [← hl]; exact ⟨ord_cel HO.out, tot_ord HO.out, ord_len HO.out⟩)
      have HSt := Lib.hid (show RatS w #[.int .i64 h.k, .int .i64 h.s, .int .i64 h.z, .int .u64 h.zc, .int .u64 h.ct, .int .i64 h.sm, .slice A h.P.length c, .slice B h.Q.length d] A1 l w3 from ⟨HX0.out.1.below hb, HX0.out.2.below hb, hcs, HB0.out.trans (hb.mono HB0.out.size)⟩)
      rw [hl]
      have hll : (l.length : Int) ≤ 1025 := by have := HL.out.2.2; omega
      have HN := Lib.hid (show 0 < n ∧ n ≤ h.ct from by omega)
      clear x0 x1 x2 x3 x4 x5 x6 x7 lx hb hcs hnw hl HX0 HB0 HK0 hn hz1 hz2 hc1
      go_wp2_with fail
      go_loopw [7, 8] (fun m i wr => ∃ (k : Nat) (x : Int), k ≤ l.length ∧ m = .int .u64 x ∧ i = .int .i64 k ∧ (0 ≤ x ∧ x < n) ∧ Hid (findC l n = findC (l.drop k) (n - x) ∧ x = totC (l.take k)) ∧ Hid (RatS w #[.int .i64 h.k, .int .i64 h.s, .int .i64 h.z, .int .u64 h.zc, .int .u64 h.ct, .int .i64 h.sm, .slice A h.P.length c, .slice B h.Q.length d] A1 l wr)) (fun _ i _ => l.length - (intOf i).toNat)
      case atStart => exact ⟨0, 0, by omega, rfl, rfl, by have := HN.out; omega, Lib.hid ⟨by simp, by simp [totC]⟩, HSt⟩
      case round =>
        obtain ⟨k, x, hk, rfl, rfl, hx, HF, HS⟩ := hrel
        by_cases hlt : k < l.length
        · have hki : (k : Int) < (l.length : Int) := by omega
          obtain ⟨b, off, rfl, hcell⟩ := HS.out.2.2.1.some_ (by omega)
          obtain ⟨p, hp⟩ := getElem?_lt hlt
          obtain ⟨q0, q1, q2, q3⟩ := hcell k p hp
          have hpn := (HL.out.1 p (mem_of_at hp)).1.n
          have HT := Lib.hid (take_snoc l k p hp)
          have HFA := Lib.hid (findC_at hp (n - x))
          have hlb := block_lt_of_cell q0
          simp only at hlb
          clear hcell hp HSt
          by_cases hle : n - x ≤ p.n
          · have hA := HFA.out
            rw [if_pos hle, ← HF.out.1] at hA
            have e2 := HE.out.2
            have e1 := HE.out.1
            rw [hA] at e2
            simp only [Option.getD_some] at e2
            subst e1 e2
            obtain ⟨r0, r1, r2, r3, f0, f1, f2, f3⟩ := HS.out.2.1.fourF
            have lr := HS.out.2.1.lt
            have hfin := Lib.hid HS.out.2.2.2
            clear hA
            go_wp2_with fail
            exact bodyPost_ret (v := .tuple #[.agg #[.int .i64 vC.d, .int .i64 vC.s, .int .i64 vC.i, .int .u64 vC.n], .int .i64 0]) (by simp [results, Try.results31, go_sem, r0, r1, r2, r3]) rfl ⟨rfl, ((((hfin.out.setCell (p := ⟨w.heap.size + 1, 0, none⟩) (by simp) _).setCell (p := ⟨w.heap.size + 1, 1, none⟩) (by simp) _).setCell (p := ⟨w.heap.size + 1, 2, none⟩) (by simp) _).setCell (p := ⟨w.heap.size + 1, 3, none⟩) (by simp) _)⟩
          · go_wp2_with fail
            go_roundw
            case rel => exact ⟨k + 1, x + p.n, by omega, rfl, by go_num, by omega, Lib.hid ⟨by rw [HF.out.1, HFA.out, if_neg hle]; congr 1; omega, by rw [HT.out, totC_snoc, ← HF.out.2]⟩, HS⟩
            case measure => simp [intOf]; omega
        · obtain rfl : k = l.length := by omega
          exfalso
          have h1 := HF.out.2
          rw [List.take_length, HL.out.2.1] at h1
          have := HN.out
          omega
end Go.Proofs.Ytbibhjcmdehdbaa
