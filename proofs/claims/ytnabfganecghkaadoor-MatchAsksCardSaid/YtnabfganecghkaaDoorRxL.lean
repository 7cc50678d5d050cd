/- What the recursion's calls pay; a dead parser's calls; what stands in brackets. -/
import Derived.Test.YtnabfganecghkaaDoorRxK
import Derived.Test.YtnabfganecghkaaDoorRxJ
namespace Go.Proofs.YtnabfganecghkaaDoor
open Go.RowKit
set_option linter.unusedVariables false

theorem Out.oy {W w w' : World} {h g B d : Nat} {v v' : Value} {l : List UInt8} {P : List Pl} {e : Int} {x : Pc} (o : Out g B d v w l P e v' w') (b : Bx W h g v' x) (hh : w.heap.size ≤ h) (i : Nat) (u : Value) : Out g B d v w l P e v' (w'.setCell ⟨h, i, none⟩ u) :=
  ⟨o.1.other b.hg b.hv u, o.2.other (a := ⟨h, i, none⟩) hh u⟩
/-- what a call that reads a pattern, or a part, pays -/
def PatP (R : Res) (g B d : Nat) (v : Value) (w : World) (P : List Pl) (y : Ending) (w' : World) : Prop := match R with
  | .ok x q => y = .returned (pcV (glu x P).1) ∧ PcOk (glu x P).1 ∧ (glu x P).2.length + q.length ≤ 64 ∧ ∃ v', Out g B d v w q (glu x P).2 0 v' w'
  | .err e => e ≠ 0 ∧ ∃ pc v' P', y = .returned (pcV pc) ∧ PcOk pc ∧ P'.length ≤ 64 ∧ Out g B d v w [] P' e v' w'
def Pat (n : Nat) : Prop := ∀ (g B d : Nat) (v : Value) (P : List Pl) (l : List UInt8) (w : World), Ps w g B l d v P 0 → l.length < n → P.length + l.length ≤ 64 → d ≤ 99 →
  Calls Tryd.prog 41 #[.pointer (some ⟨g, 0, none⟩)] w fun y w' => PatP (patF n d none .eps l) g B d v w P y w'
theorem pc0 : pcV ⟨0, 0, true⟩ = .agg #[.int .u64 0, .int .u64 0, .bool true] := rfl
/-- a dead parser's row: nothing -/
theorem row_dead (g B d : Nat) (v : Value) (P : List Pl) (e : Int) (w : World) (p : Ps w g B [] d v P e) :
    Calls Tryd.prog 55 #[.pointer (some ⟨g, 0, none⟩)] w fun y w' => y = .returned (pcV ⟨0, 0, true⟩) ∧ Out g B d v w [] P e v w' := by
  obtain ⟨W, hW⟩ : ∃ W, (w.alloc (.cells #[.int .u64 0, .int .u64 0, .bool false] 50 (0, 0))).alloc (.cells #[.int .u64 0, .int .u64 0, .bool true] 50 (0, 0)) = W := ⟨_, rfl⟩
  obtain ⟨h, hh⟩ : ∃ h, w.heap.size = h := ⟨_, rfl⟩
  have p1 := p.alloc (.cells #[.int .u64 0, .int .u64 0, .bool false] 50 (0, 0))
  have b1 := Bx.new p ⟨0, 0, false⟩
  have b2 := Bx.new p1 ⟨0, 0, true⟩
  have s1 : (w.alloc (.cells #[.int .u64 0, .int .u64 0, .bool false] 50 (0, 0))).heap.size = h + 1 := by simp [hh]
  rw [hh] at b1
  rw [s1] at b2
  have HO := Lib.hid (show Out g B d v w [] P e v W from ⟨hW ▸ p1.alloc _, hW ▸ ((Go1.refl _ _ _).alloc _).alloc _⟩)
  have B1 := Lib.hid (show Bx W h g v ⟨0, 0, false⟩ from hW ▸ b1.alloc _)
  have B2 := Lib.hid (show Bx W (h + 1) g v ⟨0, 0, true⟩ from hW ▸ b2)
  have HH := Lib.hid (show w.heap.size ≤ h by omega)
  have c0 := HO.out.1.c0
  rw [tx_nil] at c0
  obtain ⟨z0, z1, z2, zf0, zf1, zf2⟩ := B1.out.cells
  obtain ⟨x0, x1, x2, xf0, xf1, xf2⟩ := B2.out.cells
  clear p p1 b1 b2 s1
  go_enter Tryd.func55, Tryd.ntmps55
  go_wp2_with fail
  clear hW hh
  go_loopw [] (fun wr => Hid (wr = W)) (fun _ => 0)
  case atStart => exact Lib.hid rfl
  case round =>
    obtain rfl := hrel.out
    clear hrel
    go_wp2_with fail
    refine bodyPost_ret (v := pcV ⟨0, 0, true⟩) (by simp [results, Tryd.results55, go_sem, z0, z1, z2, pcV]) rfl ⟨rfl, ?_⟩
    exact ((HO.out.ox B1.out HH.out 0 _).ox B1.out HH.out 1 _).ox B1.out HH.out 2 _
/-- a dead parser's pattern: nothing -/
theorem pattern_dead (g B d : Nat) (v : Value) (P : List Pl) (e : Int) (w : World) (p : Ps w g B [] d v P e) :
    Calls Tryd.prog 41 #[.pointer (some ⟨g, 0, none⟩)] w fun y w' => y = .returned (pcV ⟨0, 0, true⟩) ∧ Out g B d v w [] P e v w' := by
  obtain ⟨W, hW⟩ : ∃ W, w.alloc (.cells #[.int .u64 0, .int .u64 0, .bool false] 50 (0, 0)) = W := ⟨_, rfl⟩
  obtain ⟨h, hh⟩ : ∃ h, w.heap.size = h := ⟨_, rfl⟩
  have PW := Lib.hid (show Ps W g B [] d v P e from hW ▸ p.alloc _)
  have GW := Lib.hid (show Go1 g v v w W from hW ▸ (Go1.refl _ _ _).alloc _)
  have B1 := Lib.hid (show Bx W h g v ⟨0, 0, false⟩ from hh ▸ hW ▸ Bx.new p ⟨0, 0, false⟩)
  have HH := Lib.hid (show w.heap.size ≤ h by omega)
  clear p
  go_enter Tryd.func41, Tryd.ntmps41
  go_wp2_with fail
  clear hW hh
  refine (row_dead _ _ _ _ _ _ _ PW.out).mono ?_
  rintro y w1 ⟨rfl, ho⟩
  obtain ⟨W2, hW2⟩ : ∃ W2, w1.alloc (.cells #[.int .u64 0, .int .u64 0, .bool true] 50 (0, 0)) = W2 := ⟨_, rfl⟩
  obtain ⟨b, hb⟩ : ∃ b, w1.heap.size = b := ⟨_, rfl⟩
  have HO := Lib.hid (show Out g B d v w [] P e v W2 from ⟨hW2 ▸ ho.1.alloc _, GW.out.trans (hW2 ▸ ho.2.alloc _)⟩)
  have B2 := Lib.hid (show Bx W2 h g v ⟨0, 0, false⟩ from hW2 ▸ (B1.out.go ho.2).alloc _)
  have B3 := Lib.hid (show Bx W2 b g v ⟨0, 0, true⟩ from hb ▸ hW2 ▸ Bx.new ho.1 ⟨0, 0, true⟩)
  clear ho
  simp only [pcV]
  go_wp2_with fail
  clear hW2 hb
  go_loopw [] (fun wr => Hid (wr = W2)) (fun _ => 0)
  case atStart => exact Lib.hid rfl
  case round =>
    obtain rfl := hrel.out
    clear hrel
    go_wp2_with fail
    refine (skip_any _ _ _ _ _ _ _ 124 _ HO.out.1 (by simp)).mono ?_
    rintro y w3 ⟨rfl, ho⟩
    have HO3 := Lib.hid (show Out g B d v w [] P e v w3 from HO.out.trans ho)
    have B23 := Lib.hid (B2.out.go ho.2)
    have B33 := Lib.hid (B3.out.go ho.2)
    clear ho
    obtain ⟨z0, z1, z2, zf0, zf1, zf2⟩ := B23.out.cells
    obtain ⟨x0, x1, x2, xf0, xf1, xf2⟩ := B33.out.cells
    simp only [hd]
    go_wp2_with fail
    refine bodyPost_ret (v := pcV ⟨0, 0, true⟩) (by simp [results, Tryd.results41, go_sem, z0, z1, z2, pcV]) rfl ⟨rfl, ?_⟩
    exact ((HO3.out.ox B23.out HH.out 0 _).ox B23.out HH.out 1 _).ox B23.out HH.out 2 _
end Go.Proofs.YtnabfganecghkaaDoor
