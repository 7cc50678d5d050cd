/- The law HistMakes: its walk. -/
import Derived.Test.YtoombgjjdkocjaaHsS
import Derived.Deep.RegionLaw
namespace Go.Proofs.Ytoombgjjdkocjaa
open Go.RowKit Go.Sort Go.Maps
set_option linter.unusedVariables false

def MakeRes (w : World) (k s z zc sm : Int) (P Q : List (Int × Int)) (e : Ending) (w' : World) : Prop :=
  ∃ (k' s' z' zc' ct' sm' : Int) (A C : Option Addr) (c d : Nat) (X Y : List (Int × Int)) (E : Int), e = .returned (.tuple #[.agg #[.int .i64 k', .int .i64 s', .int .i64 z', .int .u64 zc', .int .u64 ct', .int .i64 sm', .slice A X.length c, .slice C Y.length d], .int .i64 E]) ∧
    MkOut k s z zc sm P Q k' s' z' zc' ct' sm' X Y E ∧ Bk w' A X ∧ Bk w' C Y ∧ I64 s' ∧ (0 ≤ zc' ∧ zc' ≤ 18446744073709551615) ∧ (NewA w A ∧ NewA w C) ∧ Below w.heap.size w w'
theorem newA_none (w : World) : NewA w none := fun a h => by cases h
theorem make_res (k s z zc ct sm : Int) (A0 B0 A B : Option Addr) (n0 c0 m0 d0 c d : Nat) (P Q : List (Int × Int)) (w : World) (hs : I64 s) (z0 : 0 ≤ zc) (z1 : zc ≤ 18446744073709551615) (hP : Bk w A P) (hQ : Bk w B Q) (hlp : P.length ≤ 1000) (hlq : Q.length ≤ 1000) :
    Calls Try.prog 17 #[.agg #[.int .i64 k, .int .i64 s, .int .i64 z, .int .u64 zc, .int .u64 ct, .int .i64 sm, .slice A0 n0 c0, .slice B0 m0 d0], .slice A P.length c, .slice B Q.length d] w (MakeRes w k s z zc sm P Q) := by
  refine (make_any k s z zc ct sm A0 B0 A B n0 c0 m0 d0 c d P Q w hs z0 z1 hP hQ hlp hlq).mono ?_
  rintro e w' ⟨hb, h⟩
  rcases h with ⟨h, rfl⟩ | ⟨hc, A', C', c', d', X, Y, hX, hY, aX, aY, sX, sY, hl, nA, nC, h⟩
  · exact ⟨0, 0, 0, 0, 0, 0, none, none, 0, 0, [], [], 5, rfl, .inl ⟨by decide, ⟨rfl, rfl, rfl, rfl, rfl, rfl, rfl, rfl⟩, .inl ⟨h, rfl⟩⟩, Bk.nil _ _, Bk.nil _ _, ⟨by decide, by decide⟩, ⟨by decide, by decide⟩, ⟨newA_none _, newA_none _⟩, hb⟩
  · rcases h with ⟨h, rfl⟩ | ⟨h, rfl⟩
    · exact ⟨0, 0, 0, 0, 0, 0, none, none, 0, 0, [], [], _, rfl, .inl ⟨h, ⟨rfl, rfl, rfl, rfl, rfl, rfl, rfl, rfl⟩, .inr ⟨hc, X, Y, aX, aY, sX, sY, rfl⟩⟩, Bk.nil _ _, Bk.nil _ _, ⟨by decide, by decide⟩, ⟨by decide, by decide⟩, ⟨newA_none _, newA_none _⟩, hb⟩
    · exact ⟨k, s, z, zc, _, sm, A', C', c', d', X, Y, 0, rfl, .inr ⟨rfl, hc, aX, aY, sX, sY, h, rfl, rfl, rfl, rfl, rfl, rfl⟩, hX, hY, hs, ⟨z0, z1⟩, ⟨nA, nC⟩, hb⟩
/-- a list turned about -/
def rot (P : List (Int × Int)) (b : Nat) : List (Int × Int) := P.drop (b % P.length) ++ P.take (b % P.length)
theorem rot_length (P : List (Int × Int)) (b : Nat) : (rot P b).length = P.length := by
  unfold rot
  simp
  by_cases h : P.length = 0
  · omega
  · have := Nat.mod_lt b (show 0 < P.length by omega)
    omega
theorem rot_at (P : List (Int × Int)) (b k : Nat) (h : k < P.length) : (rot P b)[k]? = P[(k + b) % P.length]? := by
  have hm := Nat.mod_lt b (show 0 < P.length by omega)
  have hk : (k + b) % P.length = (k + b % P.length) % P.length := by rw [Nat.add_mod_mod]
  rw [hk]
  unfold rot
  obtain ⟨r, hr⟩ : ∃ r, b % P.length = r := ⟨_, rfl⟩
  rw [hr] at hm ⊢
  by_cases h1 : k < P.length - r
  · have e : (k + r) % P.length = k + r := Nat.mod_eq_of_lt (by omega)
    rw [List.getElem?_append_left (by simp; omega), List.getElem?_drop, e, Nat.add_comm]
  · have e : (k + r) % P.length = k + r - P.length := by rw [Nat.mod_eq_sub_mod (by omega)]; exact Nat.mod_eq_of_lt (by omega)
    rw [List.getElem?_append_right (by simp; omega), List.length_drop, List.getElem?_take_of_lt (by omega), e]
    congr 1
    omega
theorem rot_atI (P : List (Int × Int)) (b : Nat) (i : Int) : atI (rot P b) i = atI P i := by
  have : atI P i = atI (P.take (b % P.length)) i + atI (P.drop (b % P.length)) i := by rw [← atI_append, List.take_append_drop]
  unfold rot
  rw [atI_append, this]
  omega
theorem rot_cnt (P : List (Int × Int)) (b : Nat) : cnt (rot P b) = cnt P := by
  have : cnt P = cnt (P.take (b % P.length)) + cnt (P.drop (b % P.length)) := by rw [← cnt_append, List.take_append_drop]
  unfold rot
  rw [cnt_append, this]
  omega
theorem rot_mem (P : List (Int × Int)) (b : Nat) : ∀ p ∈ rot P b, p ∈ P := by
  intro p hp
  unfold rot at hp
  rcases List.mem_append.1 hp with h | h
  · exact List.mem_of_mem_drop h
  · exact List.mem_of_mem_take h
theorem turned_same {s : Int} (P Q : List (Int × Int)) (b : Nat) : cnt (P ++ Q) = cnt ((rot P b ++ [(1, 0)]) ++ Q) ∧ ∀ a c i, gF s P Q a c i = gF s (rot P b ++ [(1, 0)]) Q a c i := by
  refine ⟨?_, fun a c i => ?_⟩
  · rw [cnt_append, cnt_append, cnt_append, rot_cnt]
    simp [cnt]
  · unfold gF
    rw [atI_append, rot_atI]
    simp [atI]

theorem light_any (v0 v1 v2 v3 v4 v5 : Value) (A B : Option Addr) (n c m d : Nat) (w : World) (b : Bool) (hb : b = (decide (n ≤ 600) && decide (m ≤ 600))) :
    Calls Try.prog 7 #[.agg #[v0, v1, v2, v3, v4, v5, .slice A n c, .slice B m d]] w fun e w' => e = .returned (.bool b) ∧ Below w.heap.size w w' := by
  have HB := Lib.hid hb
  clear hb
  by_cases h1 : n ≤ 600
  · have d1 : decide ((n : Int) ≤ 600) = true := by simp; omega
    have HX := Lib.hid (show decide ((m : Int) ≤ 600) = b by
      rw [HB.out, decide_eq_true h1, Bool.true_and, decide_eq_decide]; omega)
    clear h1
    go_enter Try.func7, Try.ntmps7
    go_wp2_with fail
    go_ret
    exact ⟨ret_bool HX.out, (Below.refl _ _).alloc (Nat.le_refl _) _⟩
  · have d1 : decide ((n : Int) ≤ 600) = false := by simp; omega
    have HX := Lib.hid (show false = b by
      rw [HB.out, decide_eq_false h1]; rfl)
    clear h1
    go_enter Try.func7, Try.ntmps7
    go_wp2_with fail
    go_ret
    exact ⟨ret_bool HX.out, (Below.refl _ _).alloc (Nat.le_refl _) _⟩
end Go.Proofs.Ytoombgjjdkocjaa
