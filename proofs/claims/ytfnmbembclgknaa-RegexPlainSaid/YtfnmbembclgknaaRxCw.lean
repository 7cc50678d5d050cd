/- The walk of the law RegexClasses. -/
import Derived.Test.YtfnmbembclgknaaRxZ
import Derived.Deep.DeepFit
namespace Go.Proofs.Ytfnmbembclgknaa
open Go.RowKit
set_option linter.unusedVariables false

theorem add_tx {s t : ByteArray} {X Y : List UInt8} (hs : s = tx X) (ht : t = tx Y) (h : X.length + Y.length ≤ 9223372036854775807) : ∃ u, u = tx (X ++ Y) ∧ ∀ W : World, (Op.stringOp .add s t).run Try.prog W = .ok (.string u) W := by
  refine ⟨tx (X ++ Y), rfl, fun W => ?_⟩
  subst hs ht
  refine (run_string_add_sum W (tx X) (tx Y) (by rw [tx_size, tx_size]; exact h)).trans ?_
  rw [show tx X ++ tx Y = tx (X ++ Y) by
    apply ByteArray.ext
    simp [tx, ByteArray.data_append]]
theorem conv_one (b : UInt8) (W : World) : (convert 45 9 (.slice (some ⟨W.heap.size, 0, none⟩) 1 1)).run Try.prog (W.alloc (.cells #[.int .u8 (b.toNat : Int)] 5 (0, 0))) = .ok (.string (tx [b])) (W.alloc (.cells #[.int .u8 (b.toNat : Int)] 5 (0, 0))) := by
  refine run_convert_bytes_back _ _ _ _ ⟨W.heap.size, 0, none⟩ 1 [b] Try.underlying45 Try.underlying5 Try.underlying9 fun j hj => ?_
  rw [addr_at, Nat.zero_add]
  obtain rfl : j = 0 := by simp at hj; omega
  simp [go_sem]
theorem conv_two (b c : UInt8) (W : World) : (convert 45 9 (.slice (some ⟨W.heap.size, 0, none⟩) 2 2)).run Try.prog (W.alloc (.cells #[.int .u8 (b.toNat : Int), .int .u8 (c.toNat : Int)] 5 (0, 0))) = .ok (.string (tx [b, c])) (W.alloc (.cells #[.int .u8 (b.toNat : Int), .int .u8 (c.toNat : Int)] 5 (0, 0))) := by
  refine run_convert_bytes_back _ _ _ _ ⟨W.heap.size, 0, none⟩ 2 [b, c] Try.underlying45 Try.underlying5 Try.underlying9 fun j hj => ?_
  rw [addr_at, Nat.zero_add]
  have hj2 : j < 2 := hj
  rcases (show j = 0 ∨ j = 1 by omega) with rfl | rfl
  · simp [go_sem]
  · simp [go_sem]
theorem conv_two' (b c : UInt8) (W : World) (o : Obj) : (convert 45 9 (.slice (some ⟨W.heap.size + 1, 0, none⟩) 2 2)).run Try.prog ((W.alloc o).alloc (.cells #[.int .u8 (b.toNat : Int), .int .u8 (c.toNat : Int)] 5 (0, 0))) = .ok (.string (tx [b, c])) ((W.alloc o).alloc (.cells #[.int .u8 (b.toNat : Int), .int .u8 (c.toNat : Int)] 5 (0, 0))) := by
  have h := conv_two b c (W.alloc o)
  rw [show (W.alloc o).heap.size = W.heap.size + 1 by simp] at h
  exact h
theorem esc_any (b : UInt8) (w : World) : Calls Try.prog 16 #[.int .u8 (b.toNat : Int)] w fun y w' => y = .returned (.string (tx [92, b])) ∧ Below w.heap.size w w' := by
  obtain ⟨u, hu, hadd⟩ := add_tx (s := ⟨#[92]⟩) (t := tx [b]) (X := [92]) (Y := [b]) rfl rfl (by simp)
  have hu2 : u = tx [92, b] := hu
  have HU := Lib.hid hu2
  have hc := conv_one b
  have HB := Lib.hid ((Below.refl w.heap.size w).alloc (Nat.le_refl _) (.cells #[.int .u8 (b.toNat : Int)] 5 (0, 0)))
  clear hu hu2
  go_enter Try.func16, Try.ntmps16
  go_wp2_with fail
  go_ret
  exact ⟨by rw [HU.out]; rfl, HB.out⟩
/-- a world behind another, with boxes kept -/
theorem bel_trans {B : Nat} {a b c : World} (h : Below B a b) (hB : B ≤ b.heap.size) (k : Below b.heap.size b c) : Below B a c := h.trans (k.mono hB)
set_option maxHeartbeats 4000000 in
set_option maxRecDepth 100000 in
theorem regexClasses_main (lo hi c d p q : UInt8) (hpq : (p = lo ∧ q = hi ∧ ¬ hi.toNat < lo.toNat) ∨ (p = hi ∧ q = lo ∧ lo.toNat < hi.toNat)) (w : World) :
    Calls Try.prog 7 #[.int .u8 (p.toNat : Int), .int .u8 (q.toNat : Int), .int .u8 (c.toNat : Int), .int .u8 (d.toNat : Int)] w fun e w' => e = .returned (.bool true) ∧ Below w.heap.size w w' := by
  have hlh : ¬ hi.toNat < lo.toNat := by rcases hpq with h | h <;> omega
  obtain ⟨u1, hu1, a1⟩ := add_tx (s := ⟨#[91]⟩) (t := tx [92, lo]) (X := [91]) (Y := [92, lo]) rfl rfl (by simp)
  obtain ⟨u2, hu2, a2⟩ := add_tx (s := u1) (t := ⟨#[45]⟩) (X := [91, 92, lo]) (Y := [45]) hu1 rfl (by simp)
  obtain ⟨u3, hu3, a3⟩ := add_tx (s := u2) (t := tx [92, hi]) (X := [91, 92, lo, 45]) (Y := [92, hi]) hu2 rfl (by simp)
  obtain ⟨u4, hu4, a4⟩ := add_tx (s := u3) (t := ⟨#[93]⟩) (X := [91, 92, lo, 45, 92, hi]) (Y := [93]) hu3 rfl (by simp)
  obtain ⟨v1, hv1, b1⟩ := add_tx (s := ⟨#[91, 94]⟩) (t := tx [92, lo]) (X := [91, 94]) (Y := [92, lo]) rfl rfl (by simp)
  obtain ⟨v2, hv2, b2⟩ := add_tx (s := v1) (t := ⟨#[45]⟩) (X := [91, 94, 92, lo]) (Y := [45]) hv1 rfl (by simp)
  obtain ⟨v3, hv3, b3⟩ := add_tx (s := v2) (t := tx [92, hi]) (X := [91, 94, 92, lo, 45]) (Y := [92, hi]) hv2 rfl (by simp)
  obtain ⟨v4, hv4, b4⟩ := add_tx (s := v3) (t := ⟨#[93]⟩) (X := [91, 94, 92, lo, 45, 92, hi]) (Y := [93]) hv3 rfl (by simp)
  obtain ⟨r1, hr1⟩ : ∃ r, parseF u4.data.toList = r := ⟨_, rfl⟩
  obtain ⟨r2, hr2⟩ : ∃ r, parseF v4.data.toList = r := ⟨_, rfl⟩
  have k1 : r1 = .ok (.cat .eps (.one (withX noX lo.toNat hi.toNat))) [] := by
    rw [← hr1, hu4, tx_data]
    exact parse_class hlh
  have k2 : r2 = .ok (.cat .eps (.one (notX (withX noX lo.toNat hi.toNat)))) [] := by
    rw [← hr2, hv4, tx_data]
    exact parse_not hlh
  have HR1 := Lib.hid hr1
  have HR2 := Lib.hid hr2
  have K1 := Lib.hid k1
  have K2 := Lib.hid k2
  have e1 := Lib.hid (show errN r1 = 0 by rw [k1]; rfl)
  have e2 := Lib.hid (show errN r2 = 0 by rw [k2]; rfl)
  have c1 := conv_one c
  have c2 := conv_two' c d
  have i1 := Lib.hid (mt_two k1 [c, d] (by simp))
  have i2 := Lib.hid (mt_two k2 [] (by simp))
  have i3 := Lib.hid (mt_two (show parseF [46] = _ from parse_dot) [] (by simp))
  have i4 := Lib.hid (show mtR (parseF [46]) [c] = true from mt_one (show parseF [46] = _ from parse_dot) c)
  have HLH := Lib.hid hlh
  have m1 := mt_one k1 c
  have m2 := mt_one k2 c
  obtain ⟨Z, hZ⟩ : ∃ Z, withX noX lo.toNat hi.toNat c.toNat = Z := ⟨_, rfl⟩
  have hZ2 : notX (withX noX lo.toNat hi.toNat) c.toNat = !Z := by rw [← hZ]; rfl
  rw [hZ] at m1
  rw [hZ2] at m2
  have M1 := Lib.hid m1
  have M2 := Lib.hid m2
  have hZ3 : (decide (lo.toNat ≤ c.toNat) && decide (c.toNat ≤ hi.toNat)) = Z := by rw [← hZ]; rfl
  have HPQ := Lib.hid hpq
  clear hu1 hu2 hu3 hu4 hv1 hv2 hv3 hv4 hr1 hr2 k1 k2 hZ hZ2 m1 m2 hpq
  have hsw : ((q.toNat : Int) < (p.toNat : Int) ∧ p = hi ∧ q = lo) ∨ (¬ (q.toNat : Int) < (p.toNat : Int) ∧ p = lo ∧ q = hi) := by
    rcases HPQ.out with ⟨h1, h2, h3⟩ | ⟨h1, h2, h3⟩
    · subst h1 h2; exact .inr ⟨by omega, rfl, rfl⟩
    · subst h1 h2; exact .inl ⟨by omega, rfl, rfl⟩
  have HZ3 := Lib.hid hZ3
  clear hZ3 HPQ
  rcases hsw with ⟨h1, hp1, hq1⟩ | ⟨h1, hp1, hq1⟩
  · rw [hp1, hq1] at h1 ⊢
    clear hp1 hq1
    have B0 := Lib.hid (Below.refl w.heap.size w)
    go_enter Try.func7, Try.ntmps7
    go_wp2_with fail
    refine (esc_any lo _).mono ?_
    rintro y x1 ⟨rfl, hb⟩
    have B1 := Lib.hid (B0.out.trans (hb.mono B0.out.size))
    clear hb
    go_wp2_with fail
    refine (esc_any hi _).mono ?_
    rintro y x2 ⟨rfl, hb⟩
    have B2 := Lib.hid (B1.out.trans (hb.mono B1.out.size))
    clear hb
    go_wp2_with fail
    refine (parse_any u4 _).mono ?_
    rw [HR1.out]
    intro y w3 hp
    obtain ⟨A3, n3, cc3, f3, l3, ee3, rfl, R3, _, hb⟩ := par_open hp
    rw [e1.out]
    obtain ⟨W3, hW3⟩ : ∃ W3, w3.alloc (.cells #[.slice A3 n3 cc3, .int .u64 (f3 : Nat), .int .u64 (l3 : Nat), .bool ee3] 28 (0, 0)) = W3 := ⟨_, rfl⟩
    obtain ⟨g3, hg3⟩ : ∃ g3, w3.heap.size = g3 := ⟨_, rfl⟩
    have V3 := Lib.hid (show Vb W3 g3 A3 n3 cc3 f3 l3 ee3 from hg3 ▸ hW3 ▸ Vb.new w3 A3 n3 cc3 f3 l3 ee3)
    have bb : Below w3.heap.size w3 W3 := hW3 ▸ (Below.refl _ _).alloc (Nat.le_refl _) _
    have S3 := Lib.hid (R3.out.below bb)
    have B3 := Lib.hid ((B2.out.trans (hb.mono B2.out.size)).trans (bb.mono (Nat.le_trans B2.out.size hb.size)))
    clear hp hb bb R3
    go_wp2_with fail
    clear hW3 hg3
    refine (esc_any lo _).mono ?_
    rintro y x4 ⟨rfl, hb⟩
    have B4 := Lib.hid (B3.out.trans (hb.mono B3.out.size))
    have V3a := Lib.hid (V3.out.below hb)
    have S3a := Lib.hid (S3.out.below hb)
    clear hb
    go_wp2_with fail
    refine (esc_any hi _).mono ?_
    rintro y x5 ⟨rfl, hb⟩
    have B5 := Lib.hid (B4.out.trans (hb.mono B4.out.size))
    have V3b := Lib.hid (V3a.out.below hb)
    have S3b := Lib.hid (S3a.out.below hb)
    clear hb
    go_wp2_with fail
    refine (parse_any v4 _).mono ?_
    rw [HR2.out]
    intro y w6 hp
    obtain ⟨A6, n6, cc6, f6, l6, ee6, rfl, R6, _, hb⟩ := par_open hp
    rw [e2.out]
    obtain ⟨W6, hW6⟩ : ∃ W6, w6.alloc (.cells #[.slice A6 n6 cc6, .int .u64 (f6 : Nat), .int .u64 (l6 : Nat), .bool ee6] 28 (0, 0)) = W6 := ⟨_, rfl⟩
    obtain ⟨g6, hg6⟩ : ∃ g6, w6.heap.size = g6 := ⟨_, rfl⟩
    have V6 := Lib.hid (show Vb W6 g6 A6 n6 cc6 f6 l6 ee6 from hg6 ▸ hW6 ▸ Vb.new w6 A6 n6 cc6 f6 l6 ee6)
    have bb : Below w6.heap.size w6 W6 := hW6 ▸ (Below.refl _ _).alloc (Nat.le_refl _) _
    have S6 := Lib.hid (R6.out.below bb)
    have B6 := Lib.hid ((B5.out.trans (hb.mono B5.out.size)).trans (bb.mono (Nat.le_trans B5.out.size hb.size)))
    have V3c := Lib.hid ((V3b.out.below hb).below bb)
    have S3c := Lib.hid ((S3b.out.below hb).below bb)
    clear hp hb bb R6
    go_wp2_with fail
    clear hW6 hg6
    refine (parse_any ⟨#[46]⟩ _).mono ?_

    intro y w7 hp
    obtain ⟨A7, n7, cc7, f7, l7, ee7, rfl, R7, _, hb⟩ := par_open hp
    rw [show errN (parseF (⟨#[46]⟩ : ByteArray).data.toList) = 0 from by decide]
    obtain ⟨W7, hW7⟩ : ∃ W7, w7.alloc (.cells #[.slice A7 n7 cc7, .int .u64 (f7 : Nat), .int .u64 (l7 : Nat), .bool ee7] 28 (0, 0)) = W7 := ⟨_, rfl⟩
    obtain ⟨g7, hg7⟩ : ∃ g7, w7.heap.size = g7 := ⟨_, rfl⟩
    have V7 := Lib.hid (show Vb W7 g7 A7 n7 cc7 f7 l7 ee7 from hg7 ▸ hW7 ▸ Vb.new w7 A7 n7 cc7 f7 l7 ee7)
    have bb : Below w7.heap.size w7 W7 := hW7 ▸ (Below.refl _ _).alloc (Nat.le_refl _) _
    have S7 := Lib.hid (R7.out.below bb)
    have B7 := Lib.hid ((B6.out.trans (hb.mono B6.out.size)).trans (bb.mono (Nat.le_trans B6.out.size hb.size)))
    have V3d := Lib.hid ((V3c.out.below hb).below bb)
    have S3d := Lib.hid ((S3c.out.below hb).below bb)
    have V6d := Lib.hid ((V6.out.below hb).below bb)
    have S6d := Lib.hid ((S6.out.below hb).below bb)
    clear hp hb bb R7
    have hdot : parseF (⟨#[46]⟩ : ByteArray).data.toList = parseF [46] := rfl
    rw [hdot] at S7
    clear hdot
    obtain ⟨q1, hd1⟩ : ∃ q1, decide (lo.toNat ≤ c.toNat) = q1 := ⟨_, rfl⟩
    obtain ⟨q2, hd2⟩ : ∃ q2, decide (c.toNat ≤ hi.toNat) = q2 := ⟨_, rfl⟩
    have hz : Z = (q1 && q2) := by rw [← hd1, ← hd2]; exact HZ3.out.symm
    clear HZ3
    cases q1 <;> cases q2
    all_goals
      simp at hz
      subst hz
      go_wp2_with fail
      clear hW7 hg7
      refine (awake_any _).mono ?_
      rintro y w8 ⟨rfl, hb⟩
      have b78 : Below W7.heap.size W7 w8 := (((Below.refl _ _).alloc (Nat.le_refl _) _).alloc (by simp) _).trans (hb.mono (by simp; omega))
      have B8 := Lib.hid (B7.out.trans (b78.mono B7.out.size))
      have V3e := Lib.hid (V3d.out.below b78)
      have S3e := Lib.hid (S3d.out.below b78)
      have V6e := Lib.hid (V6d.out.below b78)
      have S6e := Lib.hid (S6d.out.below b78)
      have V7e := Lib.hid (V7.out.below b78)
      have S7e := Lib.hid (S7.out.below b78)
      obtain ⟨z0, z1, z2, z3⟩ := V3e.out.cells
      clear hb b78 a1 a2 a3 a4 b1 b2 b3 b4 c1 c2
      go_wp2_with fail
      clear z0 z1 z2 z3
      refine (rmatch_any r1 _ (tx [c]) _ S3e.out (by rw [tx_size]; simp)).mono ?_
      rw [tx_data, M1.out]
      rintro y w9 ⟨rfl, hb⟩
      have B9 := Lib.hid (B8.out.trans (hb.mono B8.out.size))
      have V3f := Lib.hid (V3e.out.below hb)
      have S3f := Lib.hid (S3e.out.below hb)
      have V6f := Lib.hid (V6e.out.below hb)
      have S6f := Lib.hid (S6e.out.below hb)
      have V7f := Lib.hid (V7e.out.below hb)
      have S7f := Lib.hid (S7e.out.below hb)
      obtain ⟨z0, z1, z2, z3⟩ := V6f.out.cells
      clear hb
      go_wp2_with fail
      clear z0 z1 z2 z3
      refine (rmatch_any r2 _ (tx [c]) _ S6f.out (by rw [tx_size]; simp)).mono ?_
      rw [tx_data, M2.out]
      rintro y wa ⟨rfl, hb⟩
      have Ba := Lib.hid (B9.out.trans (hb.mono B9.out.size))
      have V3g := Lib.hid (V3f.out.below hb)
      have S3g := Lib.hid (S3f.out.below hb)
      have V6g := Lib.hid (V6f.out.below hb)
      have S6g := Lib.hid (S6f.out.below hb)
      have V7g := Lib.hid (V7f.out.below hb)
      have S7g := Lib.hid (S7f.out.below hb)
      obtain ⟨z0, z1, z2, z3⟩ := V7g.out.cells
      clear hb
      go_wp2_with fail
      clear z0 z1 z2 z3
      refine (rmatch_any (parseF [46]) _ (tx [c]) _ S7g.out (by rw [tx_size]; simp)).mono ?_
      rw [tx_data, i4.out]
      rintro y wb ⟨rfl, hb⟩
      have Bb := Lib.hid (Ba.out.trans (hb.mono Ba.out.size))
      have S3h := Lib.hid (S3g.out.below hb)
      have V6h := Lib.hid (V6g.out.below hb)
      have S6h := Lib.hid (S6g.out.below hb)
      have V7h := Lib.hid (V7g.out.below hb)
      have S7h := Lib.hid (S7g.out.below hb)
      obtain ⟨z0, z1, z2, z3⟩ := (V3g.out.below hb).cells
      clear hb
      go_wp2_with fail
      clear z0 z1 z2 z3
      refine (rmatch_any r1 _ (tx [c, d]) _ S3h.out (by rw [tx_size]; simp)).mono ?_
      rw [tx_data, i1.out]
      rintro y wc ⟨rfl, hb⟩
      have Bc := Lib.hid (Bb.out.trans (hb.mono Bb.out.size))
      have S6i := Lib.hid (S6h.out.below hb)
      have V7i := Lib.hid (V7h.out.below hb)
      have S7i := Lib.hid (S7h.out.below hb)
      obtain ⟨z0, z1, z2, z3⟩ := (V6h.out.below hb).cells
      clear hb
      go_wp2_with fail
      clear z0 z1 z2 z3
      refine (rmatch_any r2 _ ⟨#[]⟩ _ S6i.out (by decide)).mono ?_
      rw [show mtR r2 (⟨#[]⟩ : ByteArray).data.toList = false from i2.out]
      rintro y wd ⟨rfl, hb⟩
      have Bd := Lib.hid (Bc.out.trans (hb.mono Bc.out.size))
      have S7j := Lib.hid (S7i.out.below hb)
      obtain ⟨z0, z1, z2, z3⟩ := (V7i.out.below hb).cells
      clear hb
      go_wp2_with fail
      clear z0 z1 z2 z3
      refine (rmatch_any (parseF [46]) _ ⟨#[]⟩ _ S7j.out (by decide)).mono ?_
      rw [show mtR (parseF [46]) (⟨#[]⟩ : ByteArray).data.toList = false from i3.out]
      rintro y we ⟨rfl, hb⟩
      have Be := Lib.hid (Bd.out.trans (hb.mono Bd.out.size))
      clear hb
      go_wp2_with fail
      go_ret
      exact ⟨rfl, Be.out⟩
  · rw [hp1, hq1] at h1 ⊢
    clear hp1 hq1
    have B0 := Lib.hid (Below.refl w.heap.size w)
    go_enter Try.func7, Try.ntmps7
    go_wp2_with fail
    refine (esc_any lo _).mono ?_
    rintro y x1 ⟨rfl, hb⟩
    have B1 := Lib.hid (B0.out.trans (hb.mono B0.out.size))
    clear hb
    go_wp2_with fail
    refine (esc_any hi _).mono ?_
    rintro y x2 ⟨rfl, hb⟩
    have B2 := Lib.hid (B1.out.trans (hb.mono B1.out.size))
    clear hb
    go_wp2_with fail
    refine (parse_any u4 _).mono ?_
    rw [HR1.out]
    intro y w3 hp
    obtain ⟨A3, n3, cc3, f3, l3, ee3, rfl, R3, _, hb⟩ := par_open hp
    rw [e1.out]
    obtain ⟨W3, hW3⟩ : ∃ W3, w3.alloc (.cells #[.slice A3 n3 cc3, .int .u64 (f3 : Nat), .int .u64 (l3 : Nat), .bool ee3] 28 (0, 0)) = W3 := ⟨_, rfl⟩
    obtain ⟨g3, hg3⟩ : ∃ g3, w3.heap.size = g3 := ⟨_, rfl⟩
    have V3 := Lib.hid (show Vb W3 g3 A3 n3 cc3 f3 l3 ee3 from hg3 ▸ hW3 ▸ Vb.new w3 A3 n3 cc3 f3 l3 ee3)
    have bb : Below w3.heap.size w3 W3 := hW3 ▸ (Below.refl _ _).alloc (Nat.le_refl _) _
    have S3 := Lib.hid (R3.out.below bb)
    have B3 := Lib.hid ((B2.out.trans (hb.mono B2.out.size)).trans (bb.mono (Nat.le_trans B2.out.size hb.size)))
    clear hp hb bb R3
    go_wp2_with fail
    clear hW3 hg3
    refine (esc_any lo _).mono ?_
    rintro y x4 ⟨rfl, hb⟩
    have B4 := Lib.hid (B3.out.trans (hb.mono B3.out.size))
    have V3a := Lib.hid (V3.out.below hb)
    have S3a := Lib.hid (S3.out.below hb)
    clear hb
    go_wp2_with fail
    refine (esc_any hi _).mono ?_
    rintro y x5 ⟨rfl, hb⟩
    have B5 := Lib.hid (B4.out.trans (hb.mono B4.out.size))
    have V3b := Lib.hid (V3a.out.below hb)
    have S3b := Lib.hid (S3a.out.below hb)
    clear hb
    go_wp2_with fail
    refine (parse_any v4 _).mono ?_
    rw [HR2.out]
    intro y w6 hp
    obtain ⟨A6, n6, cc6, f6, l6, ee6, rfl, R6, _, hb⟩ := par_open hp
    rw [e2.out]
    obtain ⟨W6, hW6⟩ : ∃ W6, w6.alloc (.cells #[.slice A6 n6 cc6, .int .u64 (f6 : Nat), .int .u64 (l6 : Nat), .bool ee6] 28 (0, 0)) = W6 := ⟨_, rfl⟩
    obtain ⟨g6, hg6⟩ : ∃ g6, w6.heap.size = g6 := ⟨_, rfl⟩
    have V6 := Lib.hid (show Vb W6 g6 A6 n6 cc6 f6 l6 ee6 from hg6 ▸ hW6 ▸ Vb.new w6 A6 n6 cc6 f6 l6 ee6)
    have bb : Below w6.heap.size w6 W6 := hW6 ▸ (Below.refl _ _).alloc (Nat.le_refl _) _
    have S6 := Lib.hid (R6.out.below bb)
    have B6 := Lib.hid ((B5.out.trans (hb.mono B5.out.size)).trans (bb.mono (Nat.le_trans B5.out.size hb.size)))
    have V3c := Lib.hid ((V3b.out.below hb).below bb)
    have S3c := Lib.hid ((S3b.out.below hb).below bb)
    clear hp hb bb R6
    go_wp2_with fail
    clear hW6 hg6
    refine (parse_any ⟨#[46]⟩ _).mono ?_

    intro y w7 hp
    obtain ⟨A7, n7, cc7, f7, l7, ee7, rfl, R7, _, hb⟩ := par_open hp
    rw [show errN (parseF (⟨#[46]⟩ : ByteArray).data.toList) = 0 from by decide]
    obtain ⟨W7, hW7⟩ : ∃ W7, w7.alloc (.cells #[.slice A7 n7 cc7, .int .u64 (f7 : Nat), .int .u64 (l7 : Nat), .bool ee7] 28 (0, 0)) = W7 := ⟨_, rfl⟩
    obtain ⟨g7, hg7⟩ : ∃ g7, w7.heap.size = g7 := ⟨_, rfl⟩
    have V7 := Lib.hid (show Vb W7 g7 A7 n7 cc7 f7 l7 ee7 from hg7 ▸ hW7 ▸ Vb.new w7 A7 n7 cc7 f7 l7 ee7)
    have bb : Below w7.heap.size w7 W7 := hW7 ▸ (Below.refl _ _).alloc (Nat.le_refl _) _
    have S7 := Lib.hid (R7.out.below bb)
    have B7 := Lib.hid ((B6.out.trans (hb.mono B6.out.size)).trans (bb.mono (Nat.le_trans B6.out.size hb.size)))
    have V3d := Lib.hid ((V3c.out.below hb).below bb)
    have S3d := Lib.hid ((S3c.out.below hb).below bb)
    have V6d := Lib.hid ((V6.out.below hb).below bb)
    have S6d := Lib.hid ((S6.out.below hb).below bb)
    clear hp hb bb R7
    have hdot : parseF (⟨#[46]⟩ : ByteArray).data.toList = parseF [46] := rfl
    rw [hdot] at S7
    clear hdot
    obtain ⟨q1, hd1⟩ : ∃ q1, decide (lo.toNat ≤ c.toNat) = q1 := ⟨_, rfl⟩
    obtain ⟨q2, hd2⟩ : ∃ q2, decide (c.toNat ≤ hi.toNat) = q2 := ⟨_, rfl⟩
    have hz : Z = (q1 && q2) := by rw [← hd1, ← hd2]; exact HZ3.out.symm
    clear HZ3
    cases q1 <;> cases q2
    all_goals
      simp at hz
      subst hz
      go_wp2_with fail
      clear hW7 hg7
      refine (awake_any _).mono ?_
      rintro y w8 ⟨rfl, hb⟩
      have b78 : Below W7.heap.size W7 w8 := (((Below.refl _ _).alloc (Nat.le_refl _) _).alloc (by simp) _).trans (hb.mono (by simp; omega))
      have B8 := Lib.hid (B7.out.trans (b78.mono B7.out.size))
      have V3e := Lib.hid (V3d.out.below b78)
      have S3e := Lib.hid (S3d.out.below b78)
      have V6e := Lib.hid (V6d.out.below b78)
      have S6e := Lib.hid (S6d.out.below b78)
      have V7e := Lib.hid (V7.out.below b78)
      have S7e := Lib.hid (S7.out.below b78)
      obtain ⟨z0, z1, z2, z3⟩ := V3e.out.cells
      clear hb b78 a1 a2 a3 a4 b1 b2 b3 b4 c1 c2
      go_wp2_with fail
      clear z0 z1 z2 z3
      refine (rmatch_any r1 _ (tx [c]) _ S3e.out (by rw [tx_size]; simp)).mono ?_
      rw [tx_data, M1.out]
      rintro y w9 ⟨rfl, hb⟩
      have B9 := Lib.hid (B8.out.trans (hb.mono B8.out.size))
      have V3f := Lib.hid (V3e.out.below hb)
      have S3f := Lib.hid (S3e.out.below hb)
      have V6f := Lib.hid (V6e.out.below hb)
      have S6f := Lib.hid (S6e.out.below hb)
      have V7f := Lib.hid (V7e.out.below hb)
      have S7f := Lib.hid (S7e.out.below hb)
      obtain ⟨z0, z1, z2, z3⟩ := V6f.out.cells
      clear hb
      go_wp2_with fail
      clear z0 z1 z2 z3
      refine (rmatch_any r2 _ (tx [c]) _ S6f.out (by rw [tx_size]; simp)).mono ?_
      rw [tx_data, M2.out]
      rintro y wa ⟨rfl, hb⟩
      have Ba := Lib.hid (B9.out.trans (hb.mono B9.out.size))
      have V3g := Lib.hid (V3f.out.below hb)
      have S3g := Lib.hid (S3f.out.below hb)
      have V6g := Lib.hid (V6f.out.below hb)
      have S6g := Lib.hid (S6f.out.below hb)
      have V7g := Lib.hid (V7f.out.below hb)
      have S7g := Lib.hid (S7f.out.below hb)
      obtain ⟨z0, z1, z2, z3⟩ := V7g.out.cells
      clear hb
      go_wp2_with fail
      clear z0 z1 z2 z3
      refine (rmatch_any (parseF [46]) _ (tx [c]) _ S7g.out (by rw [tx_size]; simp)).mono ?_
      rw [tx_data, i4.out]
      rintro y wb ⟨rfl, hb⟩
      have Bb := Lib.hid (Ba.out.trans (hb.mono Ba.out.size))
      have S3h := Lib.hid (S3g.out.below hb)
      have V6h := Lib.hid (V6g.out.below hb)
      have S6h := Lib.hid (S6g.out.below hb)
      have V7h := Lib.hid (V7g.out.below hb)
      have S7h := Lib.hid (S7g.out.below hb)
      obtain ⟨z0, z1, z2, z3⟩ := (V3g.out.below hb).cells
      clear hb
      go_wp2_with fail
      clear z0 z1 z2 z3
      refine (rmatch_any r1 _ (tx [c, d]) _ S3h.out (by rw [tx_size]; simp)).mono ?_
      rw [tx_data, i1.out]
      rintro y wc ⟨rfl, hb⟩
      have Bc := Lib.hid (Bb.out.trans (hb.mono Bb.out.size))
      have S6i := Lib.hid (S6h.out.below hb)
      have V7i := Lib.hid (V7h.out.below hb)
      have S7i := Lib.hid (S7h.out.below hb)
      obtain ⟨z0, z1, z2, z3⟩ := (V6h.out.below hb).cells
      clear hb
      go_wp2_with fail
      clear z0 z1 z2 z3
      refine (rmatch_any r2 _ ⟨#[]⟩ _ S6i.out (by decide)).mono ?_
      rw [show mtR r2 (⟨#[]⟩ : ByteArray).data.toList = false from i2.out]
      rintro y wd ⟨rfl, hb⟩
      have Bd := Lib.hid (Bc.out.trans (hb.mono Bc.out.size))
      have S7j := Lib.hid (S7i.out.below hb)
      obtain ⟨z0, z1, z2, z3⟩ := (V7i.out.below hb).cells
      clear hb
      go_wp2_with fail
      clear z0 z1 z2 z3
      refine (rmatch_any (parseF [46]) _ ⟨#[]⟩ _ S7j.out (by decide)).mono ?_
      rw [show mtR (parseF [46]) (⟨#[]⟩ : ByteArray).data.toList = false from i3.out]
      rintro y we ⟨rfl, hb⟩
      have Be := Lib.hid (Bd.out.trans (hb.mono Bd.out.size))
      clear hb
      go_wp2_with fail
      go_ret
      exact ⟨rfl, Be.out⟩
theorem u8_of {a : Int} (h : (Lit.int .u8 a).wf = true) : ∃ b : UInt8, a = (b.toNat : Int) := by
  have h2 := bounds_u8 h
  refine ⟨UInt8.ofNat a.toNat, ?_⟩
  rw [UInt8.toNat_ofNat']
  omega
theorem regexClasses_walk (a0 a1 a2 a3 : Int) (w0 : (Lit.int .u8 a0).wf = true) (w1 : (Lit.int .u8 a1).wf = true) (w2 : (Lit.int .u8 a2).wf = true) (w3 : (Lit.int .u8 a3).wf = true) (w : World) :
    Calls Try.prog 7 #[.int .u8 a0, .int .u8 a1, .int .u8 a2, .int .u8 a3] w fun e w' => e = .returned (.bool true) ∧ Below w.heap.size w w' := by
  obtain ⟨p, rfl⟩ := u8_of w0
  obtain ⟨q, rfl⟩ := u8_of w1
  obtain ⟨c, rfl⟩ := u8_of w2
  obtain ⟨d, rfl⟩ := u8_of w3
  by_cases h : q.toNat < p.toNat
  · exact regexClasses_main q p c d p q (.inr ⟨rfl, rfl, h⟩) w
  · exact regexClasses_main p q c d p q (.inl ⟨rfl, rfl, h⟩) w
end Go.Proofs.Ytfnmbembclgknaa
