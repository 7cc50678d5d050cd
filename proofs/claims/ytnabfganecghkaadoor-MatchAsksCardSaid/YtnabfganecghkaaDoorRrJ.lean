/- The document's pattern: rows with bars between; Parse. -/
import Derived.Test.YtnabfganecghkaaDoorRrI
import Derived.Deep.Cut
namespace Go.Proofs.YtnabfganecghkaaDoor
open Go.RowKit
set_option linter.unusedVariables false

theorem KxS.setD {w W : World} {q k d h n d' : Nat} {L : List UInt8} {e D : Int} {kd : ByteArray} {v : Value} {C : List Value} (z : KxS w q L k d e h kd v n C W) (hD : D = (d' : Int)) : KxS w q L k d' e h kd v n C (W.setCell ⟨q, 2, none⟩ (.int .i64 D)) :=
  z.step ⟨z.p.ro.1.setD d' _ hD, go1_set 2 _⟩
def altP : Option Rx → Bs → Prop
  | none => fun _ => False
  | some x => Lang x
theorem altP_on (o : Option Rx) (x : Rx) (s : Bs) : Lang (altO o x) s ↔ altP o s ∨ Lang x s := by
  cases o with
  | none => simp [altO, altP]
  | some y => exact Iff.rfl
/-- what a pattern says ahead of each row -/
def PnI (n D : Nat) (L l0 : List UInt8) (h : Nat) (v : Value) (C : List Value) (nn k d : Nat) (e : Int) (wr : World) : Prop :=
  (e = 0 ∧ d = D ∧ k ≤ L.length + 5 ∧ ∃ o m lst, patF n D none .eps l0 = patF m D o .eps (L.drop k) ∧ (L.drop k).length < m ∧ m ≤ n ∧ nn + (L.drop k).length ≤ l0.length ∧ isL lst = true ∧ NdV wr (KU h v wr) lst (.agg C.toArray) ∧ ∀ s, (Ln lst).2 s ↔ altP o s) ∨
  (e ≠ 0 ∧ patF n D none .eps l0 = .err e)
def RpnRel (n D : Nat) (L l0 : List UInt8) (w : World) (q h : Nat) (wr : World) : Prop :=
  ∃ A c nn C k d e, KxS w q L k d e h eitherB (.slice A nn c) nn C wr ∧ k ≤ 80 + 10 * n ∧ D ≤ d ∧ d ≤ D + 1 ∧ nn ≤ 70 ∧ Hid (PnI n D L l0 h (.slice A nn c) C nn k d e wr)
/-- behind a row -/
def PaI (n D : Nat) (L l0 : List UInt8) (h : Nat) (v : Value) (C : List Value) (nn k d : Nat) (e : Int) (wr : World) : Prop :=
  (e = 0 ∧ d = D ∧ k ≤ L.length + 5 ∧ ∃ o x m lst, patF n D none .eps l0 = patF m D o x (L.drop k) ∧ (L.drop k).length < m ∧ m ≤ n ∧ nn + (L.drop k).length ≤ l0.length + 1 ∧ stopF (L.drop k) ∧ isL lst = true ∧ NdV wr (KU h v wr) lst (.agg C.toArray) ∧ ∀ s, (Ln lst).2 s ↔ Lang (altO o x) s) ∨
  (e ≠ 0 ∧ patF n D none .eps l0 = .err e)
/-- at its end -/
def PxI (n D : Nat) (L l0 : List UInt8) (h : Nat) (v : Value) (C : List Value) (k d : Nat) (e : Int) (wr : World) : Prop :=
  (e = 0 ∧ d = D ∧ k ≤ L.length + 5 ∧ ∃ x lst, patF n D none .eps l0 = .ok x (L.drop k) ∧ isL lst = true ∧ NdV wr (KU h v wr) lst (.agg C.toArray) ∧ ∀ s, (Ln lst).2 s ↔ Lang x s) ∨
  (e ≠ 0 ∧ patF n D none .eps l0 = .err e)
theorem PaI.out {n D h nn k d : Nat} {L l0 : List UInt8} {v : Value} {C : List Value} {e : Int} {W : World} (z : PaI n D L l0 h v C nn k d e W) (hb : hd 124 (L.drop k) = false) : PxI n D L l0 h v C k d e W := by
  rcases z with ⟨h1, h2, h3, o, x, m, lst, h4, h5, h6, h7, h8, h9, h10, h11⟩ | z
  · exact .inl ⟨h1, h2, h3, altO o x, lst, by rw [h4]; exact stop_end h5 h8 hb, h9, h10, h11⟩
  · exact .inr z
theorem PaI.bar {n D h nn k d : Nat} {L l0 : List UInt8} {v : Value} {C : List Value} {e : Int} {W W' : World} (z : PaI n D L l0 h v C nn k d e W) (hb : hd 124 (L.drop k) = true) (hk : k < L.length) (hW : ∀ nd V, NdV W (KU h v W) nd V → NdV W' (KU h v W') nd V) : PnI n D L l0 h v C nn (k + 1) d e W' := by
  rcases z with ⟨h1, h2, h3, o, x, m, lst, h4, h5, h6, h7, h8, h9, h10, h11⟩ | z
  · have hd1 : L.drop (k + 1) = (L.drop k).drop 1 := by rw [List.drop_drop]
    have hl : (L.drop (k + 1)).length + 1 = (L.drop k).length := by simp; omega
    obtain ⟨m1, rfl⟩ : ∃ m1, m = m1 + 1 := ⟨m - 1, by omega⟩
    refine .inl ⟨h1, h2, by omega, some (altO o x), m1, lst, by rw [h4, patF_bar hb, hd1], by omega, by omega, by omega, h9, hW _ _ h10, h11⟩
  · exact .inr z
theorem PnI.dead {n D h nn k d : Nat} {L l0 : List UInt8} {v : Value} {C : List Value} {e : Int} {W : World} (z : PnI n D L l0 h v C nn k d e W) (he : e ≠ 0) : PxI n D L l0 h v C k d e W := by
  rcases z with ⟨h1, _⟩ | z
  · exact absurd h1 he
  · exact .inr z
theorem PxI.step {n D h k d d' : Nat} {L l0 : List UInt8} {v : Value} {C : List Value} {e : Int} {W W' : World} (z : PxI n D L l0 h v C k d e W) (hd : d = D → d' = D - 1) (hW : ∀ nd V, NdV W (KU h v W) nd V → NdV W' (KU h v W') nd V) :
    (e = 0 ∧ d' = D - 1 ∧ k ≤ L.length + 5 ∧ ∃ x lst, patF n D none .eps l0 = .ok x (L.drop k) ∧ isL lst = true ∧ NdV W' (KU h v W') lst (.agg C.toArray) ∧ ∀ s, (Ln lst).2 s ↔ Lang x s) ∨ (e ≠ 0 ∧ patF n D none .eps l0 = .err e) := by
  rcases z with ⟨h1, h2, h3, x, lst, h4, h5, h6, h7⟩ | z
  · exact .inl ⟨h1, hd h2, h3, x, lst, h4, h5, hW _ _ h6, h7⟩
  · exact .inr z
/-- the node comes back -/
theorem px_end {n D h q nn k d d' c : Nat} {L l0 : List UInt8} {w W W' : World} {A : Option Addr} {C : List Value} {e : Int} (z0 : KxS w q L k d e h eitherB (.slice A nn c) nn C W) (hi : PxI n D L l0 h (.slice A nn c) C k d e W) (hdd : (d : Int) - 1 = (d' : Int)) (hD : 1 ≤ D) (hR : patR n (D - 1) l0 = patF n D none .eps l0) (u0 u1 u2 : Value) (hkb : k ≤ 80 + 10 * n) (hd1 : D ≤ d) (hd2 : d ≤ D + 1) (hnn : nn ≤ 71) :
    RpP (patR n (D - 1) l0) (80 + 10 * n) w q L (D - 1) (.returned (.agg #[.string eitherB, nvo, .slice A nn c])) ((((W.setCell ⟨q, 2, none⟩ (.int .i64 ((d : Int) - 1))).setCell ⟨h, 0, none⟩ u0).setCell ⟨h, 1, none⟩ u1).setCell ⟨h, 2, none⟩ u2) := by
  have z := z0.setD hdd
  rw [hR]
  refine ⟨_, _, _, k, d', e, rfl, isS _ _ _, isS _ _ _, z.p.fin _ _ _, hkb, by omega, by omega, Lib.hid ?_⟩
  rcases hi with ⟨h1, h2, h3, x, lst, h4, h5, h6, h7⟩ | ⟨h1, h2⟩
  · rw [h4]
    refine ⟨h1, by omega, rfl, h3, .either lst, rfl, NdV.fin z.p.hs _ _ _ ?_, h7⟩
    have h6' := kids_other h6 2 (.int .i64 ((d : Int) - 1)) (b := q) (fun b hb => by have := hb.1; have := z.p.hq; omega)
    exact ⟨C, A, nn, c, rfl, h5, ⟨z.own.1, by omega⟩, (own_lies z.own).keep fun b i v hb hv => ⟨hv, by omega⟩, h6'.mono fun b hb _ => by have := hb.1; omega⟩
  · rw [h2]
    exact ⟨rfl, h1⟩
/-- a row's node comes to the list -/
theorem pn_push {n D m h q nn k k2 d d2 c c8 n1 m1 n2 m2 : Nat} {L l0 : List UInt8} {w W W5 W7 W8 : World} {A A8 a1 a2 : Option Addr} {C : List Value} {e : Int} {kd : ByteArray}
    (z : KxS w q L k d 0 h eitherB (.slice A nn c) nn C W) (hi : PnI n D L l0 h (.slice A nn c) C nn k d 0 W)
    (hro : RwO m D L (L.drop k) W W5 (.agg #[.string kd, .slice a1 n1 m1, .slice a2 n2 m2]) k2 d2 e) (ho : RO W q L k2 d2 e W5)
    (hm : ∀ o, patF n D none .eps l0 = patF m D o .eps (L.drop k) → True)
    (hA : Below W5.heap.size W5 W7) (hg : W7.grownBy W8 (Value.slice A nn c).ownBlock) (hv : Own (.slice A nn c) (.slice A8 (nn + 1) c8) W7)
    (hsel : ∃ o lst, patF n D none .eps l0 = patF m D o .eps (L.drop k) ∧ (L.drop k).length < m ∧ m ≤ n ∧ nn + (L.drop k).length ≤ l0.length ∧ isL lst = true ∧ NdV W (KU h (.slice A nn c) W) lst (.agg C.toArray) ∧ ∀ s, (Ln lst).2 s ↔ altP o s) :
    PaI n D L l0 h (.slice A8 (nn + 1) c8) (C ++ [.string kd, .slice a1 n1 m1, .slice a2 n2 m2]) (nn + 1) k2 d2 e (W8.setCell ⟨h + 1, 2, none⟩ (.slice A8 (nn + 1) c8)) := by
  obtain ⟨o, lst, g1, g2, g3, g4, g5, g6, g7⟩ := hsel
  rcases hro with ⟨h1, h2, h3, x, l, m', nd, h4, h5, h6, h7, h8, h9, h10, h11, h12⟩ | ⟨h1, h2⟩
  · have z7 := (z.step ho).below hA
    have k1 := kids_pushed z7 hg hv (kids_below hA (kids_step z ho g6))
    have k2' := kids_pushed z7 hg hv (kids_below hA (new_KU z h11))
    subst h7
    refine .inl ⟨h1, h2, h3, o, x, m', .snoc lst nd, by rw [g1, h4 o], h5, by omega, by omega, h9, by simp [isL, g5, h10], nd_snoc k1 k2', fun s => ?_⟩
    rw [altP_on, ← g7 s, ← h12 s]
    exact Iff.rfl
  · exact .inr ⟨h1, by rw [g1, h2 o]⟩
theorem patR_big {n d : Nat} {l : List UInt8} (h : 8 ≤ d) : patR n d l = .err 9 := by unfold patR; rw [if_pos h]
theorem patR_on {n d : Nat} {l : List UInt8} (h : ¬ 8 ≤ d) : patR n d l = patF n (d + 1) none .eps l := by unfold patR; rw [if_neg h]
set_option maxHeartbeats 8000000 in
set_option maxRecDepth 100000 in
theorem rpattern_deep (n : Nat) (q : Nat) (L l : List UInt8) (k d : Nat) (w : World) (p : Rr w q L k d 0) (hk : k ≤ L.length + 5) (hL : L.length ≤ 64) (hd8 : d = 8) :
    Calls Tryd.prog 29 #[.pointer (some ⟨q, 0, none⟩)] w (RpP (patR n d l) (80 + 10 * n) w q L d) := by
  subst hd8
  rw [patR_big (Nat.le_refl _)]
  obtain ⟨h, hh⟩ : ∃ h, w.heap.size = h := ⟨_, rfl⟩
  obtain ⟨W0, hW0⟩ : ∃ W0, w.alloc (.cells #[.string ⟨#[]⟩, .slice none 0 0, .slice none 0 0] 60 (0, 0)) = W0 := ⟨_, rfl⟩
  obtain ⟨W, hW⟩ : ∃ W, W0.alloc (.cells #[.string eitherB, .slice none 0 0, .slice none 0 0] 60 (0, 0)) = W := ⟨_, rfl⟩
  have s0 : W0.heap.size = h + 1 := by rw [← hW0, ← hh]; simp
  have z0 := PtS.first p hh hW0
  have K0 : KxS w q L k 8 0 h eitherB (.slice none 0 0) 0 [] W := ⟨hW ▸ z0.alloc _, s0 ▸ hW ▸ Nb.new W0 _ _ _, World.ownsRow_nil _ _ _ _⟩
  have KH := Lib.hid K0
  have HW := Lib.hid hW
  have c2 := K0.p.ro.1.c2
  have f2 := K0.p.ro.1.f2
  clear hW p z0 K0
  go_enter Tryd.func29, Tryd.ntmps29
  go_upto_region 2 with fail
  have hW := HW.out
  unfold eitherB at hW
  rw [hW]
  clear hW hW0 hh s0
  have Z1 := Lib.hid (KH.out.setD (D := 9) (d' := 9) rfl)
  have c2 : W.cell? ⟨q, 2, none⟩ = some (.int .i64 8) := c2
  go_wp2_with fail
  refine (rwrong_any _ _ _ _ _ 9 _ Z1.out.p.ro.1).mono ?_
  rintro y w2 ⟨rfl, ho⟩
  have Z2 := Lib.hid (Z1.out.step (show RO _ q L k 9 9 w2 from ho))
  obtain ⟨⟨z0, z1, z2⟩, zf0, zf1, zf2⟩ := Z2.out.p.nb.cells
  obtain ⟨⟨x0, x1, x2⟩, xf0, xf1, xf2⟩ := Z2.out.nb.cells
  clear ho c2 f2
  go_wp2_with fail
  refine bodyPost_ret (v := .agg #[.string eitherB, nvo, nvo]) (by simp [results, Tryd.results29, go_sem, z0, z1, z2]) rfl ?_
  exact ⟨_, _, _, k, 9, 9, rfl, isS _ _ _, isS _ _ _, Z2.out.p.fin _ _ _, by omega, by omega, by omega, Lib.hid ⟨rfl, by decide⟩⟩
set_option maxHeartbeats 8000000 in
set_option maxRecDepth 100000 in
theorem rpattern_any (n : Nat) (H : ∀ k, k < n → PatR k) : PatR n := by
  intro q L l0 k d w p hl hln hL hk hd8 hn
  by_cases hd : d = 8
  · exact rpattern_deep n q L l0 k d w p hk hL hd
  have HR := Lib.hid (show patR n (d + 1 - 1) l0 = patF n (d + 1) none .eps l0 from patR_on (by omega))
  obtain ⟨D, hD⟩ : ∃ D, d + 1 = D := ⟨_, rfl⟩
  rw [hD] at HR
  have hdD : d = D - 1 := by omega
  rw [show patR n d l0 = patR n (D - 1) l0 from by rw [hdD]]
  have hl64 : l0.length ≤ 64 := by rw [← hl, List.length_drop]; omega
  have HLN := Lib.hid hln
  have HL64 := Lib.hid hl64
  have hL1 : L.length ≤ 1000 := by omega
  have HLL := Lib.hid hL
  have HN := Lib.hid hn
  have HDD := Lib.hid (And.intro hD (show 1 ≤ D ∧ D ≤ 8 by omega))
  have HH := Lib.hid H
  have HDE := Lib.hid hdD
  have HKL := Lib.hid (And.intro hk hl)
  have hd7 : d ≤ 7 := by omega
  clear hl hln hk hl64 hL hn H hD hdD hd hd8
  obtain ⟨h, hh⟩ : ∃ h, w.heap.size = h := ⟨_, rfl⟩
  obtain ⟨W0, hW0⟩ : ∃ W0, w.alloc (.cells #[.string ⟨#[]⟩, .slice none 0 0, .slice none 0 0] 60 (0, 0)) = W0 := ⟨_, rfl⟩
  obtain ⟨W, hW⟩ : ∃ W, W0.alloc (.cells #[.string eitherB, .slice none 0 0, .slice none 0 0] 60 (0, 0)) = W := ⟨_, rfl⟩
  have s0 : W0.heap.size = h + 1 := by rw [← hW0, ← hh]; simp
  have z0 := PtS.first p hh hW0
  have K0 : KxS w q L k d 0 h eitherB (.slice none 0 0) 0 [] W := ⟨hW ▸ z0.alloc _, s0 ▸ hW ▸ Nb.new W0 _ _ _, World.ownsRow_nil _ _ _ _⟩
  have KH := Lib.hid K0
  have HW := Lib.hid hW
  have c2 := K0.p.ro.1.c2
  have f2 := K0.p.ro.1.f2
  clear hW p z0 K0
  go_enter Tryd.func29, Tryd.ntmps29
  go_upto_region 2 with fail
  have hW := HW.out
  unfold eitherB at hW
  rw [hW]
  clear hW hW0 hh s0
  have Z1 := Lib.hid (KH.out.setD (D := (d : Int) + 1) (d' := D) (by have := HDD.out.1; omega))
  have R0 := Lib.hid (show RpnRel n D L l0 w q h (W.setCell ⟨q, 2, none⟩ (.int .i64 ((d : Int) + 1))) from ⟨none, 0, 0, [], k, D, 0, Z1.out, by have := HKL.out.1; have := HLL.out; omega, Nat.le_refl _, by omega, by omega, Lib.hid (.inl ⟨rfl, rfl, HKL.out.1, none, n, .nil, by rw [HKL.out.2], by rw [HKL.out.2]; exact HLN.out, Nat.le_refl _, by rw [HKL.out.2]; omega, rfl, rfl, fun s => Iff.rfl⟩)⟩)
  clear Z1
  go_wp2_with fail
  clear c2 f2
  go_loopw [] (fun wr => Hid (RpnRel n D L l0 w q h wr)) (fun wr => rms q wr)
  case atStart => exact R0
  case round =>
    clear R0
    obtain ⟨A, c, nn, C, k, d2, e, hz, hkb, hd1, hd2, hnn, hi⟩ := hrel.out
    clear hrel
    have Z := Lib.hid hz
    have HI := hi
    have HB := Lib.hid (And.intro hkb (And.intro hd1 hd2))
    have HNN := Lib.hid hnn
    have MS := Lib.hid (rms_rr hz.p.ro.1)
    have c3 := hz.p.ro.1.c3
    have hkb2 : k ≤ 1080 := by have := HN.out; omega
    clear hz hi hkb hd1 hd2 hnn
    by_cases he : e = 0
    case neg =>
      have heb : (e == 0) = false := z_no 0 he
      have HX := Lib.hid (HI.out.dead he)
      clear he
      have HB2 := Lib.hid (And.intro HB.out.2.1 (And.intro HB.out.2.2 HB.out.1))
      obtain ⟨dz, hdz⟩ : ∃ dz : Nat, (d2 : Int) - 1 = (dz : Int) := ⟨d2 - 1, by have := HB2.out.1; have := HDD.out.2.1; omega⟩
      have hdb : d2 ≤ 100 := by have := HB2.out.2; have := HDD.out.2.2; omega
      have hdb1 : 1 ≤ d2 := by have := HB2.out.1; have := HDD.out.2.1; omega
      have HDZ := Lib.hid hdz
      have c2 := Z.out.p.ro.1.c2
      have f2 := Z.out.p.ro.1.f2
      obtain ⟨⟨z0, z1, z2⟩, zf0, zf1, zf2⟩ := Z.out.p.nb.cells
      obtain ⟨⟨x0, x1, x2⟩, xf0, xf1, xf2⟩ := Z.out.nb.cells
      have hqh : ¬ q = h := by have := Z.out.p.hq; omega
      have hhq : ¬ h = q := by have := Z.out.p.hq; omega
      have hqh1 : ¬ q = h + 1 := by have := Z.out.p.hq; omega
      have hhq1 : ¬ h + 1 = q := by have := Z.out.p.hq; omega
      clear hdz
      go_wp2_with fail
      refine bodyPost_ret (v := .agg #[.string eitherB, nvo, .slice A nn c]) (by simp [results, Tryd.results29, go_sem, z0, z1, z2]) rfl ?_
      rw [HDE.out]
      exact px_end (W' := wr) Z.out HX.out HDZ.out HDD.out.2.1 HR.out _ _ _ HB2.out.2.2 HB2.out.1 HB2.out.2.1 (by have := HNN.out; omega)
    case pos =>
      subst he
      rcases HI.out with ⟨_, g2, g3, o, m, lst, g4, g5, g6, g7, g8, g9, g10⟩ | ⟨g1, _⟩
      case inr => exact absurd rfl g1
      subst g2
      have HSEL := Lib.hid (show ∃ o lst, patF n d2 none .eps l0 = patF m d2 o .eps (L.drop k) ∧ (L.drop k).length < m ∧ m ≤ n ∧ nn + (L.drop k).length ≤ l0.length ∧ isL lst = true ∧ NdV wr (KU h (.slice A nn c) wr) lst (.agg C.toArray) ∧ ∀ s, (Ln lst).2 s ↔ altP o s from ⟨o, lst, g4, g5, g6, g7, g8, g9, g10⟩)
      have HRW := Lib.hid (fun (W2 : World) (pp : Rr W2 q L k d2 0) => rrow_any m (fun j hj => HH.out j (by omega)) (by have := HN.out; omega) q L (L.drop k) k d2 W2 pp rfl g5 HLL.out g3 HDD.out.2.1 HDD.out.2.2)
      have HG := Lib.hid (And.intro g6 g7)
      have ZD := Lib.hid Z.out.drew
      have HSELD := Lib.hid (show ∃ o lst, patF n d2 none .eps l0 = patF m d2 o .eps (L.drop k) ∧ (L.drop k).length < m ∧ m ≤ n ∧ nn + (L.drop k).length ≤ l0.length ∧ isL lst = true ∧ NdV wr.drew (KU h (.slice A nn c) wr.drew) lst (.agg C.toArray) ∧ ∀ s, (Ln lst).2 s ↔ altP o s from ⟨o, lst, g4, g5, g6, g7, g8, kids_step Z.out (drew_ro Z.out.p.ro.1) g9, g10⟩)
      have HID := Lib.hid (show PnI n d2 L l0 h (.slice A nn c) C nn k d2 0 wr.drew from .inl ⟨rfl, rfl, g3, o, m, lst, g4, g5, g6, g7, g8, kids_step Z.out (drew_ro Z.out.p.ro.1) g9, g10⟩)
      clear g3 g4 g5 g6 g7 g8 g9 g10
      obtain ⟨⟨x0, x1, x2⟩, xf0, xf1, xf2⟩ := Z.out.nb.cells
      have HNN1 := Lib.hid (show nn + 1 ≤ 1000 by have := HNN.out; omega)
      go_wp2_with fail
      go_region_law (first
        | (refine step_app_nd rfl (.tmp 26) (.tmp 29) rfl (h + 2) (.slice A nn c) nn C rfl O7.out.own we rfl (.string kd) (.slice a1 n1 m1) (.slice a2 n2 m2) N7.out.cells.1 ⟨rfl, rfl, rfl⟩ HNN1.out O7.out.sz ?_; intro v8 w8 ho8 hg8 hv8; obtain ⟨A8, c8, rfl⟩ := own_shape ho8; have HG8 := Lib.hid hg8; have HV8 := Lib.hid hv8; have Z8 := Lib.hid (O7.out.pushed ho8 hg8 hv8); obtain ⟨k8, f8⟩ := kx_cell O7.out hg8; clear ho8 hg8 hv8)
        | (go_simp; go_at_call 43; refine (HRW.out _ ZD.out.p.ro.1).mono ?_; rintro y w5 ⟨kd, hs, ks, k5, d5, e5, rfl, ⟨a1, n1, m1, rfl⟩, ⟨a2, n2, m2, rfl⟩, ho, hkb, hd1, hd2, hinf⟩; obtain ⟨we, hwe⟩ : ∃ we, w5.heap.size = we := ⟨_, rfl⟩; obtain ⟨W7, hW7⟩ : ∃ W7, w5.alloc (.cells #[.string kd, .slice a1 n1 m1, .slice a2 n2 m2] 60 (0, 0)) = W7 := ⟨_, rfl⟩; have A7 := Lib.hid (show Below w5.heap.size w5 W7 from hW7 ▸ (Below.refl _ _).alloc (Nat.le_refl _) _); have N7 := Lib.hid (show Nb W7 we kd (.slice a1 n1 m1) (.slice a2 n2 m2) from hwe ▸ hW7 ▸ Nb.new w5 _ _ _); have Z5 := Lib.hid (ZD.out.step ho); have O7 := Lib.hid (Z5.out.below A7.out); have HO := Lib.hid ho; have HRO := hinf; have HB5 := Lib.hid (And.intro hkb (And.intro hd1 hd2)); obtain ⟨⟨p0, p1, p2⟩, pf0, pf1, pf2⟩ := Z5.out.nb.cells; obtain ⟨⟨q0, q1, q2⟩, qf0, qf1, qf2⟩ := O7.out.nb.cells; clear ho hkb hd1 hd2 hinf; try dsimp only))
      all_goals
        have HPA := Lib.hid (pn_push ZD.out HID.out HRO.out HO.out (fun _ _ => trivial) A7.out HG8.out HV8.out HSELD.out)
        have hk5 : k5 ≤ 1080 := by have := HB5.out.1; have := HG.out.1; have := HN.out; omega
        have HB2 := Lib.hid (And.intro HB5.out.2.1 (And.intro HB5.out.2.2 (show k5 ≤ 80 + 10 * n by have := HB5.out.1; have := HG.out.1; omega)))
        obtain ⟨z, hz⟩ : ∃ z, nxF L k5 = z := ⟨_, rfl⟩
        obtain ⟨W8, hW8⟩ : ∃ W8, w8.setCell ⟨h + 1, 2, none⟩ (.slice A8 (nn + 1) c8) = W8 := ⟨_, rfl⟩
        rw [hW8] at Z8 HPA ⊢
        clear hW8
        go_wp2_with fail
        refine (rnext_any _ _ _ _ _ _ Z8.out.p.ro.1 hL1 (by omega)).mono ?_
        rw [hz]
        rintro y w9 ⟨rfl, ho⟩
        have Z9 := Lib.hid (Z8.out.step ho)
        have HKS := Lib.hid (fun (nd : Nd) (V : Value) (hh : NdV W8 (KU h (.slice A8 (nn + 1) c8) W8) nd V) => kids_step Z8.out ho hh)
        clear ho
        cases h124 : hd 124 (L.drop k5) with
        | false =>
          have hzb : (z != 124) = true := z_ne 124 (by rw [← hz]; exact nx_no rfl h124)
          have HX := Lib.hid (show PxI n d2 L l0 h (.slice A8 (nn + 1) c8) (C ++ [.string kd, .slice a1 n1 m1, .slice a2 n2 m2]) k5 d5 e5 w9 from by
            rcases HPA.out.out h124 with ⟨j1, j2, j3, x, lst, j4, j5, j6, j7⟩ | j
            · exact .inl ⟨j1, j2, j3, x, lst, j4, j5, HKS.out _ _ j6, j7⟩
            · exact .inr j)
          clear h124 hz
          obtain ⟨dz, hdz⟩ : ∃ dz : Nat, (d5 : Int) - 1 = (dz : Int) := ⟨d5 - 1, by have := HB2.out.1; have := HDD.out.2.1; omega⟩
          have hdb : d5 ≤ 100 := by have := HB2.out.2; have := HDD.out.2.2; omega
          have hdb1 : 1 ≤ d5 := by have := HB2.out.1; have := HDD.out.2.1; omega
          have HDZ := Lib.hid hdz
          have c2 := Z9.out.p.ro.1.c2
          have f2 := Z9.out.p.ro.1.f2
          obtain ⟨⟨z0, z1, z2⟩, zf0, zf1, zf2⟩ := Z9.out.p.nb.cells
          obtain ⟨⟨x0, x1, x2⟩, xf0, xf1, xf2⟩ := Z9.out.nb.cells
          have hqh : ¬ q = h := by have := Z9.out.p.hq; omega
          have hhq : ¬ h = q := by have := Z9.out.p.hq; omega
          have hqh1 : ¬ q = h + 1 := by have := Z9.out.p.hq; omega
          have hhq1 : ¬ h + 1 = q := by have := Z9.out.p.hq; omega
          clear hdz
          go_wp2_with fail
          refine bodyPost_ret (v := .agg #[.string eitherB, nvo, .slice A8 (nn + 1) c8]) (by simp [results, Tryd.results29, go_sem, z0, z1, z2]) rfl ?_
          rw [HDE.out]
          exact px_end (W' := wr) Z9.out HX.out HDZ.out HDD.out.2.1 HR.out _ _ _ HB2.out.2.2 HB2.out.1 HB2.out.2.1 (by have := HNN.out; omega)
        | true =>
          obtain ⟨hn1, hn2, hn3⟩ := nx_yes rfl h124
          have hz124 : z = 124 := by rw [← hz]; exact hn1
          subst hz124
          have c1 := Z9.out.p.ro.1.c1
          have f1 := Z9.out.p.ro.1.f1
          have Z10 := Lib.hid Z9.out.incK
          have HP10 := Lib.hid (HPA.out.bar h124 hn3 (W' := w9.setCell ⟨q, 1, none⟩ (.int .i64 ((k5 : Int) + 1))) (fun nd V hh => kids_other (HKS.out nd V hh) 1 _ (fun b hb => by have := hb.1; have := Z9.out.p.hq; omega)))
          have HN3 := Lib.hid hn3
          have HLEN := Lib.hid (show e5 = 0 → (L.drop k5).length ≤ (L.drop k).length from fun h5 => by
            rcases HRO.out with ⟨_, _, _, x, l, m', nd, _, _, _, h7, h8, _⟩ | ⟨h1, _⟩
            · rw [h7]; exact h8
            · exact absurd h5 h1)
          clear hn1 hn2 hn3 h124 hz
          go_wp2_with fail
          go_roundw
          case rel => exact Lib.hid ⟨A8, c8, nn + 1, _, k5 + 1, d5, e5, Z10.out, by have := HN3.out; have := HLL.out; omega, HB2.out.1, HB2.out.2.1, by have := HNN.out; have := HG.out.2; have := HL64.out; omega, HP10⟩
          case measure =>
            have hle := HLEN.out
            have h3 := HN3.out
            rw [MS.out, rms_rr Z10.out.p.ro.1]
            by_cases h5 : e5 = 0
            · have := hle h5
              simp [h5] at this ⊢
              have := HLL.out
              omega
            · simp [h5]
              have := HB.out.1
              have := HN.out
              omega
theorem rpat_any (n : Nat) : PatR n := by
  induction n using Nat.strongRecOn with
  | _ n ih => exact rpattern_any n ih
end Go.Proofs.YtnabfganecghkaaDoor
