/- A piece behind another one: join. -/
import Derived.Test.YtnabfganecghkaaDoorRxG
namespace Go.Proofs.YtnabfganecghkaaDoor
open Go.RowKit
set_option linter.unusedVariables false

theorem link_any (g B : Nat) (l : List UInt8) (d : Nat) (v : Value) (P : List Pl) (e : Int) (a b : Pc) (w : World) (p : Ps w g B l d v P e) (ha : PcOk a) (hb : PcOk b) (hn : P.length ≤ 64) :
    Calls Tryd.prog 78 #[.pointer (some ⟨g, 0, none⟩), pcV a, pcV b] w fun y w' => y = .returned (.tuple #[]) ∧ Out g B d v w l (linkP P a.l b.f) e v w' := by
  obtain ⟨A, c, rfl⟩ := own_shape p.own
  exact link_at g B l d A P.length c P e a b w rfl p ha hb hn
theorem joinP_ok {a b : Pc} (ha : PcOk a) (hb : PcOk b) : PcOk (joinP a b) := by
  unfold joinP
  refine ⟨?_, ?_⟩
  · show (if a.e = true then a.f ||| b.f else a.f) < _
    split
    · exact Nat.or_lt_two_pow (n := 64) ha.1 hb.1
    · exact ha.1
  · show (if b.e = true then b.l ||| a.l else b.l) < _
    split
    · exact Nat.or_lt_two_pow (n := 64) hb.2 ha.2
    · exact hb.2
theorem eithP_ok {a b : Pc} (ha : PcOk a) (hb : PcOk b) : PcOk (eithP a b) :=
  ⟨Nat.or_lt_two_pow (n := 64) ha.1 hb.1, Nat.or_lt_two_pow (n := 64) ha.2 hb.2⟩
theorem Out.ox {W w w' : World} {h g B d : Nat} {v : Value} {l : List UInt8} {P : List Pl} {e : Int} {x : Pc} (o : Out g B d v w l P e v w') (b : Bx W h g v x) (hh : w.heap.size ≤ h) (i : Nat) (u : Value) : Out g B d v w l P e v (w'.setCell ⟨h, i, none⟩ u) :=
  ⟨o.1.other b.hg b.hv u, o.2.other (a := ⟨h, i, none⟩) hh u⟩
set_option maxHeartbeats 2000000 in
theorem join_any (g B : Nat) (l : List UInt8) (d : Nat) (v : Value) (P : List Pl) (e : Int) (a b : Pc) (w : World) (p : Ps w g B l d v P e) (ha : PcOk a) (hb : PcOk b) (hn : P.length ≤ 64) :
    Calls Tryd.prog 70 #[.pointer (some ⟨g, 0, none⟩), pcV a, pcV b] w fun y w' => y = .returned (pcV (joinP a b)) ∧ Out g B d v w l (linkP P a.l b.f) e v w' := by
  obtain ⟨W, hW⟩ : ∃ W, ((w.alloc (.cells #[.int .u64 (a.f : Nat), .int .u64 (a.l : Nat), .bool a.e] 50 (0, 0))).alloc (.cells #[.int .u64 (b.f : Nat), .int .u64 (b.l : Nat), .bool b.e] 50 (0, 0))).alloc (.cells #[.int .u64 0, .int .u64 0, .bool false] 50 (0, 0)) = W := ⟨_, rfl⟩
  obtain ⟨h, hh⟩ : ∃ h, w.heap.size = h := ⟨_, rfl⟩
  have p1 := p.alloc (.cells #[.int .u64 (a.f : Nat), .int .u64 (a.l : Nat), .bool a.e] 50 (0, 0))
  have p2 := p1.alloc (.cells #[.int .u64 (b.f : Nat), .int .u64 (b.l : Nat), .bool b.e] 50 (0, 0))
  have b1 := Bx.new p a
  have b2 := Bx.new p1 b
  have b3 := Bx.new p2 ⟨0, 0, false⟩
  have s1 : (w.alloc (.cells #[.int .u64 (a.f : Nat), .int .u64 (a.l : Nat), .bool a.e] 50 (0, 0))).heap.size = h + 1 := by simp [hh]
  have s2 : ((w.alloc (.cells #[.int .u64 (a.f : Nat), .int .u64 (a.l : Nat), .bool a.e] 50 (0, 0))).alloc (.cells #[.int .u64 (b.f : Nat), .int .u64 (b.l : Nat), .bool b.e] 50 (0, 0))).heap.size = h + 1 + 1 := by simp [hh]
  rw [hh] at b1
  rw [s1] at b2
  rw [s2] at b3
  have PW := Lib.hid (show Ps W g B l d v P e from hW ▸ p2.alloc _)
  have B1 := Lib.hid (show Bx W h g v a from hW ▸ (b1.alloc _).alloc _)
  have B2 := Lib.hid (show Bx W (h + 1) g v b from hW ▸ b2.alloc _)
  have B3 := Lib.hid (show Bx W (h + 1 + 1) g v ⟨0, 0, false⟩ from hW ▸ b3)
  have GW := Lib.hid (show Go1 g v v w W from hW ▸ (((Go1.refl _ _ _).alloc _).alloc _).alloc _)
  have HH := Lib.hid (show w.heap.size ≤ h by omega)
  have HA := Lib.hid ha
  have HB := Lib.hid hb
  have HN := Lib.hid hn
  clear p1 p2 b1 b2 b3 s1 s2 p hn
  obtain ⟨⟨c0, c1, c2, _⟩, d0, d1, d2, _⟩ := And.intro B1.out.cells B2.out.cells
  have h1 := u64_or_nat a.f b.f ha.1 hb.1
  have h2 := u64_or_nat b.l a.l hb.2 ha.2
  clear ha hb
  obtain ⟨F, hF⟩ : ∃ F, a.f ||| b.f = F := ⟨_, rfl⟩
  obtain ⟨L, hL⟩ : ∃ L, b.l ||| a.l = L := ⟨_, rfl⟩
  rw [hF] at h1
  rw [hL] at h2
  obtain ⟨J, hJ⟩ : ∃ J, joinP a b = J := ⟨_, rfl⟩
  have HJ := Lib.hid hJ
  rw [hJ]
  have HF := Lib.hid hF
  have HL := Lib.hid hL
  clear hF hL hJ
  unfold pcV
  go_enter Tryd.func70, Tryd.ntmps70
  go_wp2_with fail
  clear hW hh c0 c1 c2 d0 d1 d2
  refine (link_any _ _ _ _ _ _ _ a b _ PW.out HA.out HB.out HN.out).mono ?_
  rintro y w1 ⟨rfl, ho⟩
  have P1 := Lib.hid ho.1
  have G1 := Lib.hid (GW.out.trans ho.2)
  have HG1 := Lib.hid ho.2
  obtain ⟨c0', c1', c2', _⟩ := (B1.out.go ho.2).cells
  obtain ⟨d0', d1', d2', _⟩ := (B2.out.go ho.2).cells
  have B13 := Lib.hid (B3.out.go ho.2)
  have hs1 := (B3.out.go ho.2).hw
  clear ho
  obtain ⟨ae, hae⟩ : ∃ ae, a.e = ae := ⟨_, rfl⟩
  obtain ⟨be, hbe⟩ : ∃ be, b.e = be := ⟨_, rfl⟩
  have HAE := Lib.hid hae
  have HBE := Lib.hid hbe
  rw [hae] at c2'
  rw [hbe] at d2'
  clear hae hbe
  obtain ⟨E, hE⟩ : ∃ E, (ae && be) = E := ⟨_, rfl⟩
  obtain ⟨x, hx⟩ : ∃ x, w1.heap.size = x := ⟨_, rfl⟩
  obtain ⟨w2, hw2⟩ : ∃ w2, w1.alloc (.cells #[.int .u64 (a.f : Nat), .int .u64 (b.l : Nat), .bool E] 50 (0, 0)) = w2 := ⟨_, rfl⟩
  have P2 := Lib.hid (show Ps w2 g B l d v (linkP P a.l b.f) e from hw2 ▸ P1.out.alloc _)
  have G2 := Lib.hid (show Go1 g v v w w2 from hw2 ▸ G1.out.alloc _)
  have X2 := Lib.hid (show Bx w2 x g v ⟨a.f, b.l, E⟩ from hx ▸ hw2 ▸ Bx.new P1.out ⟨a.f, b.l, E⟩)
  have g12 : Go1 g v v w1 w2 := hw2 ▸ (Go1.refl _ _ _).alloc _
  have B12 := ((B1.out.go HG1.out).go g12)
  have B22 := ((B2.out.go HG1.out).go g12)
  have B32 := B13.out.go g12
  obtain ⟨c0, c1, c2, _⟩ := B12.cells
  obtain ⟨d0, d1, d2, _⟩ := B22.cells
  obtain ⟨z0, z1, z2, zf0, zf1, zf2⟩ := B32.cells
  obtain ⟨x0, x1, x2, xf0, xf1, xf2⟩ := X2.out.cells
  rw [HAE.out] at c2
  rw [HBE.out] at d2
  have n1 := B12.hw
  have m1 : ¬ h = x := by have := (B1.out.go HG1.out).hw; omega
  have m2 : ¬ h + 1 = x := by have := (B2.out.go HG1.out).hw; omega
  have m3 : ¬ h + 1 + 1 = x := by have := B13.out.hw; omega
  have m4 : ¬ x = h := fun h => m1 h.symm
  have m5 : ¬ x = h + 1 := fun h => m2 h.symm
  have m6 : ¬ x = h + 1 + 1 := fun h => m3 h.symm
  have B32' := Lib.hid B32
  have HX := Lib.hid (show w.heap.size ≤ x by have := G1.out.size; omega)
  have HH3 := Lib.hid (show w.heap.size ≤ h + 1 + 1 by have := HH.out; omega)
  clear g12 B12 B22 B32 n1 hs1
  have HJE := Lib.hid (show J = ⟨if ae = true then F else a.f, if be = true then L else b.l, E⟩ by rw [← HJ.out, ← hE]; unfold joinP; rw [HAE.out, HBE.out, HF.out, HL.out])
  have HO := Lib.hid (show Out g B d v w l (linkP P a.l b.f) e v w2 from ⟨P2.out, G2.out⟩)
  cases ae <;> cases be
  all_goals
    simp at hE
    subst hE
    simp only [if_true, Bool.false_eq_true, if_false] at HJE
    go_wp2_with fail
    rw [HJE.out]
    refine bodyPost_ret (by simp [results, Tryd.results70, go_sem, z0, z1, z2]) rfl ⟨rfl, ?_⟩
    repeat (first | exact HO.out | refine Out.ox ?_ B32'.out HH3.out _ _ | refine Out.ox ?_ X2.out HX.out _ _)
end Go.Proofs.YtnabfganecghkaaDoor
