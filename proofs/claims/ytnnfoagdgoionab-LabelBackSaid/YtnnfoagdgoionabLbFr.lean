/- The program's From. -/
import Derived.Test.YtnnfoagdgoionabLbFm
import Derived.Test.YtnnfoagdgoionabLbE
import Derived.Test.YtnnfoagdgoionabLbG
import Derived.Test.YtnnfoagdgoionabLbN
namespace Go.Proofs.Ytnnfoagdgoionab
open Go.RowKit
set_option linter.unusedVariables false

theorem piece_len (l : List UInt8) : (pieceF l).1.length ≤ l.length ∧ (pieceF l).2.length ≤ l.length := by
  unfold pieceF
  cases l with
  | nil => simp
  | cons c r =>
    simp only
    split
    · simp; omega
    · simp
def FRel (s0 : List UInt8) (w : World) (sv lv : Value) (wr : World) : Prop :=
  ∃ (m : List UInt8) (g : Nat) (P : List LabL) (A : Option Addr) (n c : Nat), sv = .string (tx m) ∧ lv = .slice A n c ∧ P.length + g = 17 ∧ m.length ≤ 4000 ∧ fromK 17 s0 = P ++ fromK g m ∧ Wl (P.map labT) ∧ wr.ownsRow w.heap.size 36 2 (.slice A n c) n (labC (P.map labT)) ∧ Below w.heap.size w wr
def FromP (l : List UInt8) (e : Ending) (w' : World) : Prop :=
  (chk ((fromK 17 l).map labT) = 0 ∧ ∃ A n c, e = .returned (.tuple #[.slice A n c, .int .i64 0]) ∧ n = (fromK 17 l).length ∧ Lw w' A ((fromK 17 l).map labT)) ∨
  (chk ((fromK 17 l).map labT) ≠ 0 ∧ e = .returned (.tuple #[.slice none 0 0, .int .i64 6]))
def sLen (v : Value) : Nat := match v with
  | .slice _ n _ => 17 - n
  | _ => 0
set_option maxHeartbeats 2000000 in
theorem from_any (s : ByteArray) (w : World) (hs : s.size ≤ 4000) : Calls Try.prog 20 #[.string s] w fun e w' => FromP s.data.toList e w' ∧ Below w.heap.size w w' := by
  obtain ⟨s0, hs0⟩ : ∃ m, s.data.toList = m := ⟨_, rfl⟩
  have hse : s = tx s0 := by rw [← hs0, tx_of]
  have hl0 : s0.length ≤ 4000 := by rw [← hs0, data_len]; exact hs
  rw [hs0]
  subst hse
  clear hs hs0
  obtain ⟨F, hF⟩ : ∃ F, fromK 17 s0 = F := ⟨_, rfl⟩
  have HF := Lib.hid hF
  have HFP := Lib.hid (show ∀ e w', FromP s0 e w' ↔ ((chk (F.map labT) = 0 ∧ ∃ A n c, e = .returned (.tuple #[.slice A n c, .int .i64 0]) ∧ n = F.length ∧ Lw w' A (F.map labT)) ∨ (chk (F.map labT) ≠ 0 ∧ e = .returned (.tuple #[.slice none 0 0, .int .i64 6]))) from fun e w' => by unfold FromP; rw [hF])
  clear hF
  go_enter Try.func20, Try.ntmps20
  go_wp2_with fail
  go_loopw [0, 4] (fun sv lv wr => Hid (FRel s0 w sv lv wr)) (fun _ lv _ => sLen lv)
  case atStart => exact Lib.hid ⟨s0, 17, [], none, 0, 0, rfl, rfl, rfl, hl0, by simp, fun p hp => by simp at hp, own_nil _ _ _ _, Below.refl _ _⟩
  case round =>
    obtain ⟨m, g, P, A, n, c, rfl, rfl, hg, hm, hf, hwl, hown, hb⟩ := hrel.out
    have hn := own_nl hown
    rw [List.length_map] at hn
    have HN := Lib.hid hn
    have HFF := Lib.hid hf
    have HWL := Lib.hid hwl
    have HO := Lib.hid hown
    have HB := Lib.hid hb
    have HG := Lib.hid hg
    have hw0 := hb.size
    have hn17 : n ≤ 17 := by omega
    clear hrel hf hwl hown hb
    by_cases hgo : m ≠ [] ∧ n ≤ 16
    · obtain ⟨hm0, hn16⟩ := hgo
      obtain ⟨g, rfl⟩ : ∃ k, g = k + 1 := ⟨g - 1, by omega⟩
      have hemp : (tx m).toList.isEmpty = false := by
        rw [Lib.toList_data, tx_data]
        cases m with
        | nil => exact absurd rfl hm0
        | cons _ _ => rfl
      have hn16i : (n : Int) ≤ 16 := by omega
      obtain ⟨a, r1, hp1⟩ : ∃ a r, pieceF m = (a, r) := ⟨_, _, rfl⟩
      obtain ⟨b, r2, hp2⟩ : ∃ a r, pieceF r1 = (a, r) := ⟨_, _, rfl⟩
      have l1 := piece_len m
      have l2 := piece_len r1
      rw [hp1] at l1
      rw [hp2] at l2
      simp only at l1 l2
      have HP1 := Lib.hid hp1
      have HP2 := Lib.hid hp2
      have HK := Lib.hid (show fromK (g + 1) m = (a, b) :: fromK g r2 by rw [fromK, if_neg hm0, hp1]; simp only; rw [hp2])
      have hm1 : m.length ≤ 4000 := hm
      have hr1 : r1.length ≤ 4000 := by omega
      have hr2 : r2.length ≤ 4000 := by omega
      have HL := Lib.hid (And.intro l1 l2)
      have HM := Lib.hid hm
      have HR2 := Lib.hid hr2
      have HZ1 := Lib.hid (show (tx m).size ≤ 4000 by rw [tx_size]; exact hm)
      have HZ2 := Lib.hid (show (tx r1).size ≤ 4000 by rw [tx_size]; exact hr1)
      clear hp1 hp2 l1 l2 hm0 hg hm hm1 hr1 hr2 hn
      go_wp2_with fail
      refine (piece_any (tx m) _ HZ1.out).mono ?_
      rw [tx_data, HP1.out]
      rintro e w2 ⟨rfl, hb2⟩
      simp only [pieceV]
      have HX2 := Lib.hid ((hb2.block wr.heap.size (by simp)).trans (heap_alloc_new wr (.cells #[.string ⟨#[]⟩, .string ⟨#[]⟩] 36)))
      obtain ⟨x0, x1, xf⟩ := box2 HX2.out
      have hz2 : wr.heap.size < w2.heap.size := by have := hb2.size; simp at this; omega
      have hbb : Below w.heap.size w w2 := (HB.out.alloc hw0 _).trans (hb2.mono (by simp; omega))
      have HB2 := Lib.hid (show Below wr.heap.size wr w2 from ((Below.refl _ _).alloc (Nat.le_refl _) _).trans (hb2.mono (by simp)))
      clear hb2 hbb
      go_wp2_with fail
      obtain ⟨w3, hw3⟩ : ∃ W, w2.setCell ⟨wr.heap.size, 0, none⟩ (.string (tx a)) = W := ⟨_, rfl⟩
      have HX3 := Lib.hid (show w3.heap[wr.heap.size]? = some (.cells #[.string (tx a), .string ⟨#[]⟩] 36 (0, 0)) by rw [← hw3]; have := heap_set_at (i := 0) HX2.out (.string (tx a)); simpa using this)
      have HB3 := Lib.hid (show Below wr.heap.size wr w3 by rw [← hw3]; exact HB2.out.setCell (p := ⟨wr.heap.size, 0, none⟩) (Nat.le_refl _) _)
      rw [hw3]
      clear hw3 x0 x1 xf hz2
      go_wp2_with fail
      refine (piece_any (tx r1) _ HZ2.out).mono ?_
      rw [tx_data, HP2.out]
      rintro e w4 ⟨rfl, hb4⟩
      simp only [pieceV]
      have hg3 : wr.heap.size < w3.heap.size := (Array.getElem?_eq_some_iff.1 HX3.out).1
      have HX4 := Lib.hid ((hb4.block wr.heap.size hg3).trans HX3.out)
      have HB4 := Lib.hid (HB3.out.trans (hb4.mono (Nat.le_of_lt hg3)))
      obtain ⟨y0, y1, yf⟩ := box2 HX4.out
      have hz4 : wr.heap.size < w4.heap.size := Nat.lt_of_lt_of_le hg3 hb4.size
      have HB5 := Lib.hid (HB4.out.setCell (p := ⟨wr.heap.size, 1, none⟩) (Nat.le_refl _) (.string (tx b)))
      have HO5 := Lib.hid (own_below HO.out HB5.out)
      have HW5 := Lib.hid (HB.out.trans (HB5.out.mono hw0))
      have HS5 := Lib.hid (show w.heap.size ≤ (w4.setCell ⟨wr.heap.size, 1, none⟩ (.string (tx b))).heap.size from Nat.le_trans hw0 HB5.out.size)
      have HPM := Lib.hid (show P.map labT ++ [(tx a, tx b)] = (P ++ [(a, b)]).map labT by simp [labT])
      clear hb4 hg3
      go_wp2_with (at_builtin; refine put_lab (W := w) rfl _ _ rfl w.heap.size A n c (P.map labT) rfl HO5.out HW5.out HS5.out (by omega) w4.heap.size (by simp [World.setCell]) rfl (tx a, tx b) ?_)
      intro A6 c6 w6 hown6 hb6 hw6
      rw [HPM.out] at hown6
      have HX := Lib.hid (show FRel s0 w (.string (tx r2)) (.slice A6 (n + 1) c6) w6 from ⟨r2, g, P ++ [(a, b)], A6, n + 1, c6, rfl, rfl, by rw [List.length_append, List.length_singleton]; have := HG.out; omega, HR2.out, by rw [HFF.out, HK.out]; simp, fun p hp => by
        rw [List.map_append] at hp
        rcases List.mem_append.1 hp with hp | hp
        · exact HWL.out p hp
        · simp at hp
          subst hp
          have h1 := HL.out.1.1
          have h2 := HL.out.2.1
          have h3 := HL.out.1.2
          have h4 := HM.out
          exact ⟨by show (tx a).size ≤ _; rw [tx_size]; omega, by show (tx b).size ≤ _; rw [tx_size]; omega⟩, hown6, hb6⟩)
      clear hown6 hb6 y0 y1 yf
      go_wp2_with fail
      go_roundw
      case rel => exact HX
      case measure => simp only [sLen]; omega
    · have HE := Lib.hid (show fromK 17 s0 = P by
        rw [HFF.out]
        by_cases hm0 : m = []
        · subst hm0
          cases g <;> simp [fromK]
        · have : g = 0 := by
            have h1 := HG.out
            have h2 : ¬ n ≤ 16 := fun h => hgo ⟨hm0, h⟩
            omega
          subst this
          simp [fromK])
      have HPF := Lib.hid (show P = F by rw [← HE.out, HF.out])
      obtain ⟨E, hE⟩ : ∃ E, chk (P.map labT) = E := ⟨_, rfl⟩
      have HEE := Lib.hid hE
      have HLW := Lib.hid (own_lw2 HO.out HWL.out (by rw [List.length_map]; have := HN.out; omega))
      have hx : ∀ (K : Prop), ((tx m).toList.isEmpty = true → K) → ((tx m).toList.isEmpty = false → ¬ ((n : Int) ≤ 16) → K) → K := fun K h1 h2 => by
        by_cases hm0 : m = []
        · exact h1 (by rw [Lib.toList_data, tx_data, hm0]; rfl)
        · refine h2 ?_ (fun h => hgo ⟨hm0, by omega⟩)
          rw [Lib.toList_data, tx_data]
          cases m with
          | nil => exact absurd rfl hm0
          | cons _ _ => rfl
      clear hE hn hg hm hgo
      refine hx _ (fun he => ?_) (fun he hn16 => ?_)
      all_goals
        clear hx
        go_wp2_with fail
        refine (check_any A n c (P.map labT) _ (by rw [List.length_map]; exact HN.out) HLW.out).mono ?_
        rw [HEE.out]
        rintro e w2 ⟨rfl, hb2⟩
        have HLW2 := Lib.hid (HLW.out.below hb2)
        have HB2 := Lib.hid (HB.out.trans (hb2.mono hw0))
        clear hb2
        by_cases h0 : E = 0
        · subst h0
          go_wp2_with fail
          go_ret2
          refine ⟨(HFP.out _ _).2 (.inl ?_), HB2.out⟩
          rw [← HPF.out]
          exact ⟨HEE.out, A, n, c, rfl, HN.out, HLW2.out⟩
        · have h0' : (E != 0) = true := by simp [h0]
          go_wp2_with fail
          go_ret2
          refine ⟨(HFP.out _ _).2 (.inr ?_), HB2.out⟩
          rw [← HPF.out]
          exact ⟨by rw [HEE.out]; exact h0, rfl⟩
end Go.Proofs.Ytnnfoagdgoionab
