/- slices.Concat of rows of buckets. -/
import Derived.Test.YtofaciagkkipbaaMdD
namespace Go.Proofs.Ytofaciagkkipbaa
open Go.RowKit Go.Sort
set_option linter.unusedVariables false

/-- a slice of slices of buckets -/
def Ls (w : World) (P : Option Addr) (ls : List (List (Int × Int))) : Prop :=
  ls.length ≤ 9223372036854775807 ∧ (ls.length = 0 ∨ ∃ b off, P = some ⟨b, off, none⟩ ∧ ∀ (j : Nat) (l : List (Int × Int)), ls[j]? = some l → ∃ A c, w.cell? ⟨b, off + j, none⟩ = some (.slice A l.length c) ∧ Bk w A l)
theorem Ls.some_ {w : World} {P : Option Addr} {ls : List (List (Int × Int))} (h : Ls w P ls) (h0 : 0 < ls.length) : ∃ b off, P = some ⟨b, off, none⟩ ∧ ∀ (j : Nat) (l : List (Int × Int)), ls[j]? = some l → ∃ A c, w.cell? ⟨b, off + j, none⟩ = some (.slice A l.length c) ∧ Bk w A l := by
  rcases h.2 with h | h
  · omega
  · exact h
theorem Ls.kept {w w' : World} {P : Option Addr} {ls : List (List (Int × Int))} (h : Ls w P ls) (k : Kept w w') : Ls w' P ls := by
  refine ⟨h.1, ?_⟩
  rcases h.2 with h0 | ⟨b, off, e, hc⟩
  · exact .inl h0
  · refine .inr ⟨b, off, e, fun j l hj => ?_⟩
    obtain ⟨A, c, h1, h2⟩ := hc j l hj
    exact ⟨A, c, k _ _ h1, h2.kept k⟩
/-- the buckets of the first k parts -/
def flK (ls : List (List (Int × Int))) (k : Nat) : List (Int × Int) := (ls.take k).flatten
theorem flK_all (ls : List (List (Int × Int))) : flK ls ls.length = ls.flatten := by unfold flK; rw [List.take_length]
theorem flK_snoc {ls : List (List (Int × Int))} {k : Nat} {l : List (Int × Int)} (h : ls[k]? = some l) : flK ls (k + 1) = flK ls k ++ l := by
  unfold flK
  rw [take_snoc ls k l h, List.flatten_append]
  simp
theorem flK_le (ls : List (List (Int × Int))) (k : Nat) : (flK ls k).length ≤ (flK ls ls.length).length := by
  have : flK ls ls.length = flK ls k ++ (ls.drop k).flatten := by
    rw [flK_all]
    unfold flK
    rw [← List.flatten_append, List.take_append_drop]
  rw [this, List.length_append]
  exact Nat.le_add_right _ _
theorem Ls.wb {w : World} {P : Option Addr} {ls : List (List (Int × Int))} (h : Ls w P ls) : ∀ p ∈ ls.flatten, Wb p := by
  intro p hp
  obtain ⟨l, hl, hpl⟩ := List.mem_flatten.1 hp
  obtain ⟨k, hk, rfl⟩ := List.getElem_of_mem hl
  obtain ⟨b, off, e, hc⟩ := h.some_ (by omega)
  obtain ⟨A, c, _, hB⟩ := hc k ls[k] (List.getElem?_eq_getElem hk)
  exact hB.2.1 p hpl
def ConP (w : World) (Z : List (Int × Int)) (e : Ending) (w' : World) : Prop := ∃ A c', e = .returned (.slice A Z.length c') ∧ Bk w' A Z ∧ Below w.heap.size w w'
set_option maxHeartbeats 2000000 in
set_option maxRecDepth 100000 in
theorem concat_any (P : Option Addr) (c : Nat) (ls : List (List (Int × Int))) (w : World) (hS : Ls w P ls) (hn : (flK ls ls.length).length ≤ 100000) :
    Calls Try.prog 44 #[.slice P ls.length c] w (ConP w (flK ls ls.length)) := by
  have H0 := Lib.hid hS
  have hlen := hS.1
  have hwb := hS.wb
  have HLE := Lib.hid (flK_le ls)
  obtain ⟨N, hN⟩ : ∃ N, (flK ls ls.length).length = N := ⟨_, rfl⟩
  rw [hN] at hn HLE
  rw [← flK_all] at hwb
  have H8 := Lib.hid hwb
  have HN := Lib.hid hN
  have hNi : (N : Int) ≤ 100000 := by omega
  clear hS hwb hN
  go_enter Try.func44, Try.ntmps44
  go_wp2_with fail
  go_loopw [3, 11] (fun v i wr => ∃ k : Nat, k ≤ ls.length ∧ v = .int .i64 (((flK ls k).length : Nat) : Int) ∧ i = .int .i64 k ∧ w = wr) (fun _ i _ => ls.length - (intOf i).toNat)
  case atStart => exact ⟨0, by omega, rfl, rfl, rfl⟩
  case round =>
    obtain ⟨k, hk, rfl, rfl, rfl⟩ := hrel
    by_cases hlt : k < ls.length
    · have hki : (k : Int) < (ls.length : Int) := by omega
      obtain ⟨b, off, rfl, hc⟩ := H0.out.some_ (by omega)
      obtain ⟨l, hl⟩ := getElem?_lt hlt
      obtain ⟨A, cA, q1, q2⟩ := hc k l hl
      have hs : (flK ls (k + 1)).length = (flK ls k).length + l.length := by rw [flK_snoc hl, List.length_append]
      have hsl := HLE.out (k + 1)
      have hsm : (((flK ls k).length : Nat) : Int) + (l.length : Int) ≤ 100000 := by omega
      have HS := Lib.hid hs
      clear hc hl q2 hs hsl
      go_wp2_with fail
      go_roundw
      case rel => exact ⟨k + 1, by omega, ret_val (by rw [HS.out]; omega), ret_val (by omega), by simp⟩
      case measure => simp [intOf] <;> omega
    · obtain rfl : k = ls.length := by omega
      have hki : ¬ ((ls.length : Int) < (ls.length : Int)) := by omega
      rw [HN.out]
      go_wp2_with fail
      refine (grow_any N _ (by omega)).mono ?_
      rintro e w1 ⟨AG, cG, rfl, hown, hg1⟩
      obtain ⟨g0, hg0⟩ : ∃ v, Value.slice AG 0 cG = v := ⟨_, rfl⟩
      rw [hg0] at hown ⊢
      have HO := Lib.hid hown
      have HG := Lib.hid hg1
      clear hown hg1 hg0
      go_wp2_with fail
      go_loopw [6, 27] (fun v i wr => ∃ k : Nat, k ≤ ls.length ∧ i = .int .i64 k ∧ wr.ownsRow w.heap.size 54 2 v (flK ls k).length (cellsL (flK ls k)) ∧ Below w.heap.size w wr) (fun _ i _ => ls.length - (intOf i).toNat)
      case atStart => exact ⟨0, by omega, rfl, HO.out, HG.out⟩
      case round =>
        obtain ⟨k, hk, rfl, hown, hg⟩ := hrel
        have HO := Lib.hid hown
        clear hown
        by_cases hlt : k < ls.length
        · have hki : (k : Int) < (ls.length : Int) := by omega
          obtain ⟨b, off, rfl, hc⟩ := (H0.out.kept (Kept.of_below hg)).some_ (by omega)
          obtain ⟨l, hl⟩ := getElem?_lt hlt
          obtain ⟨A, cA, q1, q2⟩ := hc k l hl
          have HS := Lib.hid (flK_snoc hl)
          have Q2 := Lib.hid q2
          have HL1 := Lib.hid (HLE.out (k + 1))
          clear hc hl q2
          go_wp2_with (at_builtin; refine app_bks rfl _ _ rfl w.heap.size u6 (flK ls k).length (flK ls k) rfl ?c0 A l.length cA l rfl rfl ?c1 ?c2 ?c3 ?_)
          case c0 => exact HO.out
          case c1 => exact Q2.out
          case c2 =>
            have := HL1.out
            rw [HS.out, List.length_append] at this
            omega
          case c3 => exact hg.size
          intro A1 c1 w1 hown hgrow
          have hg1 : Below w.heap.size w w1 := below_own hg hg.size HO.out hgrow
          rw [← HS.out] at hown
          have hN : (flK ls k).length + l.length = (flK ls (k + 1)).length := by rw [HS.out, List.length_append]
          rw [hN] at hown
          rw [hN]
          have HO1 := Lib.hid hown
          clear hown hgrow hN
          go_wp2_with fail
          go_roundw
          case rel => exact ⟨k + 1, by omega, ret_val (by omega), HO1.out, hg1⟩
          case measure => simp [intOf] <;> omega
        · obtain rfl : k = ls.length := by omega
          have hki : ¬ ((ls.length : Int) < (ls.length : Int)) := by omega
          have hown := HO.out
          rw [HN.out] at hown
          obtain ⟨A, c', rfl⟩ := ownB_shape hown
          have HSS := Lib.hid (own_bk hown H8.out (by rw [HN.out]; omega))
          clear hown HO
          go_wp2_with fail
          go_ret
          exact ⟨A, c', by rw [HN.out]; rfl, HSS.out, hg⟩
theorem flK_two (X Y : List (Int × Int)) : flK [X, Y] 2 = X ++ Y := by simp [flK]
theorem ls_two {w : World} {g : Nat} {A B : Option Addr} {n m c d : Nat} {X Y : List (Int × Int)} (hn : n = X.length) (hm : m = Y.length) (hX : Bk w A X) (hY : Bk w B Y) (h0 : w.cell? ⟨g, 0, none⟩ = some (.slice A n c)) (h1 : w.cell? ⟨g, 1, none⟩ = some (.slice B m d)) : Ls w (some ⟨g, 0, none⟩) [X, Y] := by
  subst hn hm
  refine ⟨by simp, .inr ⟨g, 0, rfl, fun j l hj => ?_⟩⟩
  match j, hj with
  | 0, hj => simp at hj; subst hj; exact ⟨A, c, h0, hX⟩
  | 1, hj => simp at hj; subst hj; exact ⟨B, d, h1, hY⟩
theorem concat_two (g cap : Nat) (A B : Option Addr) (c d : Nat) (X Y Z : List (Int × Int)) (w : World) (hX : Bk w A X) (hY : Bk w B Y) (h0 : w.cell? ⟨g, 0, none⟩ = some (.slice A X.length c)) (h1 : w.cell? ⟨g, 1, none⟩ = some (.slice B Y.length d)) (hZ : X ++ Y = Z) (hl : Z.length ≤ 100000) :
    Calls Try.prog 44 #[.slice (some ⟨g, 0, none⟩) 2 cap] w (ConP w Z) := by
  have := concat_any (some ⟨g, 0, none⟩) cap [X, Y] w (ls_two rfl rfl hX hY h0 h1) (by show (flK [X, Y] 2).length ≤ _; rw [flK_two, hZ]; exact hl)
  have e : flK [X, Y] [X, Y].length = Z := by show flK [X, Y] 2 = Z; rw [flK_two, hZ]
  rw [e] at this
  exact this
end Go.Proofs.Ytofaciagkkipbaa
