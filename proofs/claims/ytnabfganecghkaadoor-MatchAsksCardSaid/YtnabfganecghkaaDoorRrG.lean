/- The document's part: brackets, and all together. -/
import Derived.Test.YtnabfganecghkaaDoorRrF
namespace Go.Proofs.YtnabfganecghkaaDoor
open Go.RowKit
set_option linter.unusedVariables false

def inR : Res → Res
  | .err e => .err e
  | .ok y q => if hd 41 q then .ok y (q.drop 1) else .err 27
theorem innF_in (n d : Nat) (r : List UInt8) : innF (fun r => patF n (d + 1) none .eps r) d r = inR (patR n d r) := by
  unfold innF patR
  by_cases h : 8 ≤ d
  · rw [if_pos h, if_pos h]; rfl
  · rw [if_neg h, if_neg h]
    show (match patF n (d + 1) none .eps r with
      | .err e => Res.err e
      | .ok y q => if hd 41 q then Res.ok y (q.drop 1) else Res.err 27) = inR (patF n (d + 1) none .eps r)
    generalize patF n (d + 1) none .eps r = R
    cases R <;> rfl
theorem PtS.alloc {w W : World} {q k d h : Nat} {L : List UInt8} {e : Int} (z : PtS w q L k d e h W) (o : Obj) : PtS w q L k d e h (W.alloc o) := z.below ((Below.refl _ _).alloc (Nat.le_refl _) _)
set_option maxHeartbeats 2000000 in
theorem part_paren (n : Nat) (H : PatR n) (hn : n ≤ 100) (q : Nat) (L r : List UInt8) (k d : Nat) (w : World) (p : Rr w q L k d 0) (hz : nxF L k = 40) (hr : L.drop (k + 1) = r) (hrn : r.length < n) (hL : L.length ≤ 64) (hd8 : d ≤ 8) (hk : k + 1 ≤ L.length) :
    Calls Tryd.prog 58 #[.pointer (some ⟨q, 0, none⟩)] w (RpP (inR (patR n d r)) (90 + 10 * n) w q L d) := by
  obtain ⟨h, hh⟩ : ∃ h, w.heap.size = h := ⟨_, rfl⟩
  obtain ⟨W, hW⟩ : ∃ W, w.alloc (.cells #[.string ⟨#[]⟩, .slice none 0 0, .slice none 0 0] 60 (0, 0)) = W := ⟨_, rfl⟩
  have Z0 := Lib.hid (PtS.first p hh hW)
  obtain ⟨R, hR⟩ : ∃ R, patR n d r = R := ⟨_, rfl⟩
  rw [hR]
  have HPT := Lib.hid (fun (W2 : World) (pp : Rr W2 q L (k + 1) d 0) => H q L r (k + 1) d W2 pp hr hrn hL (by omega) hd8 hn)
  rw [hR] at HPT
  clear p hR H
  go_enter Tryd.func58, Tryd.ntmps58
  go_wp2_with fail
  clear hW hh
  refine (rnext_any _ _ _ _ _ _ Z0.out.ro.1 (by omega) (by omega)).mono ?_
  rw [hz]
  rintro y w1 ⟨rfl, ho⟩
  have Z1 := Lib.hid (Z0.out.step ho)
  have Z2 := Lib.hid Z1.out.incK
  have c1 := Z1.out.ro.1.c1
  have f1 := Z1.out.ro.1.f1
  have HK := Lib.hid hk
  have HSZ := Lib.hid Z2.out.sz
  have hL1 : L.length ≤ 1000 := by omega
  have hkb : k ≤ 200 := by omega
  clear ho hz hk
  go_wp2_with fail
  refine (HPT.out _ Z2.out.ro.1).mono ?_
  rintro y w2 ⟨kd, hs, ks, k2, d2, e2, rfl, ⟨a1, n1, m1, rfl⟩, ⟨a2, n2, m2, rfl⟩, ho, hkb, hd1, hd2, hinf⟩
  have Z3 := Lib.hid (Z2.out.step ho)
  have HIN := hinf
  have HKB := Lib.hid hkb
  have HD := Lib.hid (And.intro hd1 hd2)
  obtain ⟨W4, hW4⟩ : ∃ W4, w2.alloc (.cells #[.string kd, .slice a1 n1 m1, .slice a2 n2 m2] 60 (0, 0)) = W4 := ⟨_, rfl⟩
  obtain ⟨b, hb⟩ : ∃ b, w2.heap.size = b := ⟨_, rfl⟩
  have Z4 := Lib.hid (show PtS w q L k2 d2 e2 h W4 from hW4 ▸ Z3.out.alloc _)
  have B4 := Lib.hid (show Nb W4 b kd (.slice a1 n1 m1) (.slice a2 n2 m2) from hb ▸ hW4 ▸ Nb.new w2 _ _ _)
  have BL4 := Lib.hid (show Below w2.heap.size w2 W4 from hW4 ▸ (Below.refl _ _).alloc (Nat.le_refl _) _)
  have HBH := Lib.hid (show h + 1 ≤ b ∧ q < b by have := Z3.out.sz; have := Z3.out.hq; omega)
  have hk2 : k2 ≤ 1080 := by omega
  clear ho hinf hkb hd1 hd2
  cases R with
  | err e0 =>
    obtain ⟨rfl, he0⟩ := HIN.out
    have heb : (e2 == 0) = false := z_no 0 he0
    have HE := Lib.hid he0
    have c3 := Z4.out.ro.1.c3
    have c1 := Z4.out.ro.1.c1
    have f1 := Z4.out.ro.1.f1
    obtain ⟨⟨z0, z1, z2⟩, zf0, zf1, zf2⟩ := Z4.out.nb.cells
    obtain ⟨⟨x0, x1, x2⟩, xf0, xf1, xf2⟩ := B4.out.cells
    have Z5 := Lib.hid Z4.out.incK
    have hqb : ¬ q = b := by have := HBH.out; omega
    have hbq : ¬ b = q := by have := HBH.out; omega
    have hqh : ¬ q = h := by have := Z4.out.hq; omega
    have hhq : ¬ h = q := by have := Z4.out.hq; omega
    clear he0
    go_wp2_with fail
    clear hW4 hb
    refine bodyPost_ret (v := .agg #[.string kd, .slice a1 n1 m1, .slice a2 n2 m2]) (by simp [results, Tryd.results58, go_sem, z0, z1, z2]) rfl ?_
    exact ⟨kd, _, _, k2 + 1, d2, e2, rfl, isS _ _ _, isS _ _ _, Z5.out.fin _ _ _, by have := HKB.out; omega, HD.out.1, HD.out.2, Lib.hid ⟨rfl, HE.out⟩⟩
  | ok y l =>
    obtain ⟨rfl, rfl, hl, hkl, nd, hnd, hnv, hln⟩ := HIN.out
    have NV := Lib.hid (show NdV W4 (fun b => h + 1 ≤ b) nd (.agg #[.string kd, .slice a1 n1 m1, .slice a2 n2 m2]) from (hnv.below BL4.out).mono (fun b hb _ => by have := HSZ.out; omega))
    have HKL := Lib.hid hkl
    have HND := Lib.hid (And.intro hnd hln)
    have c3 := Z4.out.ro.1.c3
    have hqb : ¬ q = b := by have := HBH.out; omega
    have hbq : ¬ b = q := by have := HBH.out; omega
    have hqh : ¬ q = h := by have := Z4.out.hq; omega
    have hhq : ¬ h = q := by have := Z4.out.hq; omega
    cases h41 : hd 41 l with
    | true =>
      obtain ⟨hn1, hn2, hn3⟩ := nx_yes hl h41
      have hn1' : nxF L k2 = 41 := hn1
      have HN2 := Lib.hid hn2
      have HN3 := Lib.hid hn3
      have HR := Lib.hid (show inR (.ok y l) = .ok y (l.drop 1) by show (if hd 41 l then Res.ok y (l.drop 1) else Res.err 27) = .ok y (l.drop 1); rw [h41]; rfl)
      clear hl hkl hnd hnv hln h41 hn2 hn1 hn3
      go_wp2_with fail
      clear hW4 hb
      refine (rnext_any _ _ _ _ _ _ Z4.out.ro.1 hL1 (by omega)).mono ?_
      rw [hn1']
      rintro y2 w5 ⟨rfl, ho⟩
      have Z5 := Lib.hid (Z4.out.step ho)
      have B5 := Lib.hid (B4.out.go ho.2 hbq)
      have NV5 := Lib.hid (NV.out.go ho.2 (fun b hb => by have := Z4.out.hq; omega))
      have c1 := Z5.out.ro.1.c1
      have f1 := Z5.out.ro.1.f1
      obtain ⟨⟨z0, z1, z2⟩, zf0, zf1, zf2⟩ := Z5.out.nb.cells
      obtain ⟨⟨x0, x1, x2⟩, xf0, xf1, xf2⟩ := B5.out.cells
      have Z6 := Lib.hid Z5.out.incK
      have NV6 := Lib.hid (NV5.out.other (a := ⟨q, 1, none⟩) (fun b hb => by have := Z4.out.hq; show b ≠ q; omega) (.int .i64 ((k2 : Int) + 1)))
      clear ho hn1'
      go_wp2_with fail
      refine bodyPost_ret (v := .agg #[.string kd, .slice a1 n1 m1, .slice a2 n2 m2]) (by simp [results, Tryd.results58, go_sem, z0, z1, z2]) rfl ?_
      rw [HR.out]
      exact ⟨kd, _, _, k2 + 1, d2, 0, rfl, isS _ _ _, isS _ _ _, Z6.out.fin _ _ _, by have := HKB.out; omega, HD.out.1, HD.out.2, Lib.hid ⟨rfl, rfl, HN2.out, by have := HN3.out; omega, nd, HND.out.1, NdV.fin Z6.out.hs _ _ _ NV6.out, HND.out.2⟩⟩
    | false =>
      have hn1 := nx_no hl h41
      obtain ⟨z, hz⟩ : ∃ z, nxF L k2 = z := ⟨_, rfl⟩
      rw [hz] at hn1
      have hzb : (z != 41) = true := z_ne 41 hn1
      have HR := Lib.hid (show inR (.ok y l) = .err 27 by show (if hd 41 l then Res.ok y (l.drop 1) else Res.err 27) = .err 27; rw [h41]; rfl)
      clear hl hkl hnd hnv hln h41 hn1
      go_wp2_with fail
      clear hW4 hb
      refine (rnext_any _ _ _ _ _ _ Z4.out.ro.1 hL1 (by omega)).mono ?_
      rw [hz]
      rintro y2 w5 ⟨rfl, ho⟩
      have Z5 := Lib.hid (Z4.out.step ho)
      have B5 := Lib.hid (B4.out.go ho.2 hbq)
      clear ho
      go_wp2_with fail
      refine (rwrong_any _ _ _ _ _ 27 _ Z5.out.ro.1).mono ?_
      rintro y3 w6 ⟨rfl, ho⟩
      have Z6 := Lib.hid (Z5.out.step (show RO _ q L k2 d2 27 w6 from ho))
      have B6 := Lib.hid (B5.out.go ho.2 hbq)
      have c1 := Z6.out.ro.1.c1
      have f1 := Z6.out.ro.1.f1
      obtain ⟨⟨z0, z1, z2⟩, zf0, zf1, zf2⟩ := Z6.out.nb.cells
      obtain ⟨⟨x0, x1, x2⟩, xf0, xf1, xf2⟩ := B6.out.cells
      have Z7 := Lib.hid Z6.out.incK
      clear ho hz hzb
      go_wp2_with fail
      refine bodyPost_ret (v := .agg #[.string kd, .slice a1 n1 m1, .slice a2 n2 m2]) (by simp [results, Tryd.results58, go_sem, z0, z1, z2]) rfl ?_
      rw [HR.out]
      exact ⟨kd, _, _, k2 + 1, d2, 27, rfl, isS _ _ _, isS _ _ _, Z7.out.fin _ _ _, by have := HKB.out; omega, HD.out.1, HD.out.2, Lib.hid ⟨rfl, by decide⟩⟩
theorem RpP.wide {R : Res} {bd bd' : Nat} {w w' : World} {q d : Nat} {L : List UInt8} {y : Ending} (h : RpP R bd w q L d y w') (hb : bd ≤ bd') : RpP R bd' w q L d y w' := by
  obtain ⟨kd, hs, ks, k, d2, e, h1, h2, h3, h4, h5, h6⟩ := h
  exact ⟨kd, hs, ks, k, d2, e, h1, h2, h3, h4, by omega, h6⟩
theorem u8_nat {a : UInt8} (n : Nat) (hn : n < 256) (h : ¬ a = UInt8.ofNat n) : a.toNat ≠ n := by
  intro e
  apply h
  apply u8_eq
  rw [e]
  simp
  omega
/-- a part, whatever stands there -/
theorem rpart_any (n : Nat) (H : PatR n) (hn : n ≤ 100) (q : Nat) (L r : List UInt8) (a : UInt8) (k d : Nat) (w : World) (p : Rr w q L k d 0) (hl : L.drop k = a :: r) (hrn : r.length < n) (hL : L.length ≤ 64) (hd8 : d ≤ 8) (h124 : ¬ a = 124) (h41 : ¬ a = 41) :
    Calls Tryd.prog 58 #[.pointer (some ⟨q, 0, none⟩)] w (RpP (bareF (fun r => patF n (d + 1) none .eps r) d a r) (90 + 10 * n) w q L d) := by
  obtain ⟨hz, hd1, hkl⟩ := drop_head hl
  have hk0 : k ≤ 200 := by omega
  by_cases h40 : a = 40
  · subst h40
    have e : bareF (fun r => patF n (d + 1) none .eps r) d 40 r = inR (patR n d r) := by
      rw [← innF_in]; rfl
    rw [e]
    exact part_paren n H hn q L r k d w p hz hd1 hrn hL hd8 (by omega)
  by_cases h91 : a = 91
  · subst h91
    have e : bareF (fun r => patF n (d + 1) none .eps r) d 91 r = clsR (classF r) := by
      unfold bareF
      rw [if_neg (by decide)]
      unfold atomF
      rw [if_neg (by decide), if_neg (by decide), if_neg (by decide), if_pos (by decide)]
      cases classF r <;> rfl
    rw [e]
    exact part_class q L r k d _ w p hz hd1 hL (by omega) (by omega)
  by_cases h46 : a = 46
  · subst h46
    have e : bareF (fun r => patF n (d + 1) none .eps r) d 46 r = .ok (.one (notX noX)) r := rfl
    rw [e]
    exact part_dot q L r k d _ w p hz hd1 hL (by omega) (by omega)
  by_cases h92 : a = 92
  · subst h92
    cases r with
    | nil =>
      have e : bareF (fun r => patF n (d + 1) none .eps r) d 92 [] = .err 27 := rfl
      rw [e]
      exact part_lone q L k d _ w p hz (drop_none hd1) hL (by omega) (by omega)
    | cons b s =>
      obtain ⟨hz2, hd2, hkl2⟩ := drop_head hd1
      have e : bareF (fun r => patF n (d + 1) none .eps r) d 92 (b :: s) = .ok (.one (withX noX b.toNat b.toNat)) s := rfl
      rw [e]
      exact part_back b.toNat q L s k d _ w p hz hz2 hd2 hL (by omega) (by omega)
  by_cases hs : a = 42 ∨ a = 43 ∨ a = 63 ∨ a = 93 ∨ a = 123 ∨ a = 125 ∨ a = 94 ∨ a = 36
  · have e : bareF (fun r => patF n (d + 1) none .eps r) d a r = .err 27 := by
      rcases hs with rfl | rfl | rfl | rfl | rfl | rfl | rfl | rfl <;> rfl
    rw [e]
    refine part_sign (nxF L k) ?_ q L k d _ w p rfl hL hk0 (by omega)
    rw [hz]
    rcases hs with rfl | rfl | rfl | rfl | rfl | rfl | rfl | rfl <;> decide
  · simp only [not_or] at hs
    obtain ⟨g1, g2, g3, g4, g5, g6, g7, g8⟩ := hs
    have hk1 : kindF a = 1 := by
      unfold kindF
      rw [if_neg (by simp only [not_or]; exact ⟨g1, g2, g3, h124, h41, g4, g5, g6, g7, g8⟩), if_neg h92, if_neg h46, if_neg h91, if_neg h40]
    have e : bareF (fun r => patF n (d + 1) none .eps r) d a r = .ok (.one (withX noX a.toNat a.toNat)) r := by
      unfold bareF atomF
      simp [hk1]
    rw [e]
    exact part_plain a.toNat ⟨u8_nat 40 (by omega) h40, u8_nat 91 (by omega) h91, u8_nat 46 (by omega) h46, u8_nat 42 (by omega) g1, u8_nat 43 (by omega) g2, u8_nat 63 (by omega) g3, u8_nat 93 (by omega) g4, u8_nat 123 (by omega) g5, u8_nat 125 (by omega) g6, u8_nat 94 (by omega) g7, u8_nat 36 (by omega) g8, u8_nat 92 (by omega) h92⟩ q L r k d _ w p hz hd1 hL (by omega) (by omega)
end Go.Proofs.YtnabfganecghkaaDoor
