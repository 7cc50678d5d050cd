/- What Make answers, as a relation. -/
import Derived.Test.YtofaciagkkipbaaHsS
import Derived.Deep.RegionLaw
namespace Go.Proofs.Ytofaciagkkipbaa
open Go.RowKit Go.Sort Go.Maps
set_option linter.unusedVariables false

def MakeRes (w : World) (k s z zc sm : Int) (P Q : List (Int × Int)) (e : Ending) (w' : World) : Prop :=
  ∃ (k' s' z' zc' ct' sm' : Int) (A C : Option Addr) (c d : Nat) (X Y : List (Int × Int)) (E : Int), e = .returned (.tuple #[.agg #[.int .i64 k', .int .i64 s', .int .i64 z', .int .u64 zc', .int .u64 ct', .int .i64 sm', .slice A X.length c, .slice C Y.length d], .int .i64 E]) ∧
    MkOut k s z zc sm P Q k' s' z' zc' ct' sm' X Y E ∧ Bk w' A X ∧ Bk w' C Y ∧ I64 s' ∧ (0 ≤ zc' ∧ zc' ≤ 18446744073709551615) ∧ (NewA w A ∧ NewA w C) ∧ Below w.heap.size w w'
theorem newA_none (w : World) : NewA w none := fun a h => by cases h
theorem make_res (k s z zc ct sm : Int) (A0 B0 A B : Option Addr) (n0 c0 m0 d0 c d : Nat) (P Q : List (Int × Int)) (w : World) (hs : I64 s) (z0 : 0 ≤ zc) (z1 : zc ≤ 18446744073709551615) (hP : Bk w A P) (hQ : Bk w B Q) (hlp : P.length ≤ 1100) (hlq : Q.length ≤ 1100) :
    Calls Try.prog 33 #[.agg #[.int .i64 k, .int .i64 s, .int .i64 z, .int .u64 zc, .int .u64 ct, .int .i64 sm, .slice A0 n0 c0, .slice B0 m0 d0], .slice A P.length c, .slice B Q.length d] w (MakeRes w k s z zc sm P Q) := by
  refine (make_any k s z zc ct sm A0 B0 A B n0 c0 m0 d0 c d P Q w hs z0 z1 hP hQ hlp hlq).mono ?_
  rintro e w' ⟨hb, h⟩
  rcases h with ⟨h, rfl⟩ | ⟨hc, A', C', c', d', X, Y, hX, hY, aX, aY, sX, sY, hl, nA, nC, h⟩
  · exact ⟨0, 0, 0, 0, 0, 0, none, none, 0, 0, [], [], 5, rfl, .inl ⟨by decide, ⟨rfl, rfl, rfl, rfl, rfl, rfl, rfl, rfl⟩, .inl ⟨h, rfl⟩⟩, Bk.nil _ _, Bk.nil _ _, ⟨by decide, by decide⟩, ⟨by decide, by decide⟩, ⟨newA_none _, newA_none _⟩, hb⟩
  · rcases h with ⟨h, rfl⟩ | ⟨h, rfl⟩
    · exact ⟨0, 0, 0, 0, 0, 0, none, none, 0, 0, [], [], _, rfl, .inl ⟨h, ⟨rfl, rfl, rfl, rfl, rfl, rfl, rfl, rfl⟩, .inr ⟨hc, X, Y, aX, aY, sX, sY, rfl⟩⟩, Bk.nil _ _, Bk.nil _ _, ⟨by decide, by decide⟩, ⟨by decide, by decide⟩, ⟨newA_none _, newA_none _⟩, hb⟩
    · exact ⟨k, s, z, zc, _, sm, A', C', c', d', X, Y, 0, rfl, .inr ⟨rfl, hc, aX, aY, sX, sY, h, rfl, rfl, rfl, rfl, rfl, rfl⟩, hX, hY, hs, ⟨z0, z1⟩, ⟨nA, nC⟩, hb⟩
end Go.Proofs.Ytofaciagkkipbaa
