/- The document's Key of labels. -/
import Derived.Test.YtnnfoagdgoionabLbPr
import Derived.BigRegion
namespace Go.Proofs.Ytnnfoagdgoionab
open Go.RowKit
set_option linter.unusedVariables false

theorem conv_one (W : World) (g : Nat) (y : UInt8) (yi : Int) (hy : (y.toNat : Int) = yi) (h : W.cell? ⟨g, 0, none⟩ = some (.int .u8 yi)) : (convert 57 9 (.slice (some ⟨g, 0, none⟩) 1 1)).run Try.prog W = .ok (.string (tx [y])) W := by
  refine run_convert_bytes_back W _ _ _ ⟨g, 0, none⟩ 1 [y] Try.underlying57 Try.underlying5 Try.underlying9 fun j hj => ?_
  obtain rfl : j = 0 := by simp at hj; omega
  rw [addr_at]
  simp only [Nat.add_zero]
  rw [h, ← hy]
  rfl
theorem wrap8 (n : Nat) (h : n ≤ 64) : IntKind.u8.wrap (n : Int) = (n : Int) := by
  unfold IntKind.wrap
  simp [IntKind.bits, IntKind.signed]
  omega
def KvR (U : ByteArray) (w : World) (v : Value) (w' : World) : Prop := v = .string U ∧ Below w.heap.size w w'
set_option maxRecDepth 100000 in
set_option maxHeartbeats 20000000 in
theorem rkey_any (A : Option Addr) (n c : Nat) (l : List Lab) (w : World) (hn : n = l.length) (h : Lw w A l) (h16 : l.length ≤ 16) (hsm : Small l) :
    Calls Try.prog 22 #[.slice A n c] w fun e w' => e = .returned (.string (tx (keyL l))) ∧ Below w.heap.size w w' := by
  subst hn
  have HL := Lib.hid h
  have HSM := Lib.hid hsm
  clear h hsm
  go_enter Try.func22, Try.ntmps22
  go_wp2_with fail
  go_loopw [3, 4] (fun v i wr => ∃ (k : Nat) (T : ByteArray), k ≤ l.length ∧ i = .int .i64 k ∧ v = .string T ∧ Hid (T = tx (keyL (l.take k))) ∧ Hid (Below w.heap.size w wr)) (fun _ i _ => l.length - (intOf i).toNat)
  case atStart => exact ⟨0, _, by omega, rfl, rfl, Lib.hid rfl, Lib.hid (Below.refl _ _)⟩
  case round =>
    obtain ⟨k, T, hk, rfl, rfl, HT, HB⟩ := hrel
    have hkl := keyL_len (l := l.take k) (fun p hp => HSM.out p (List.mem_of_mem_take hp))
    have hkl2 : (keyL (l.take k)).length ≤ 130 * 16 := by rw [List.length_take] at hkl; omega
    by_cases hlt : k < l.length
    · have hki : (k : Int) < (l.length : Int) := by omega
      obtain ⟨p, hp⟩ := getElem?_lt hlt
      obtain ⟨s1, s2⟩ := HSM.out p (mem_of_at hp)
      obtain ⟨b, off, rfl, hcell⟩ := (HL.out.below HB.out).some_ (by omega)
      obtain ⟨c0, c1⟩ := hcell k p hp
      have HS := Lib.hid (keyL_snoc l k p hp)
      obtain ⟨wo, rfl⟩ : ∃ wo : World, wo = wr := ⟨_, rfl⟩
      have HC := Lib.hid (fun W (hW : Below wo.heap.size wo W) => show W.cell? ⟨b, off + k * 2, none⟩ = some (.string p.1) ∧ W.cell? ⟨b, off + k * 2 + 1, none⟩ = some (.string p.2) from ⟨(hW.cell (block_lt_of_cell c0)).trans c0, (hW.cell (block_lt_of_cell c1)).trans c1⟩)
      have HK := Lib.hid (fun W W' (hW : Below wo.heap.size wo W) (hb : Below W.heap.size W W') => show Below wo.heap.size wo W' ∧ W'.cell? ⟨b, off + k * 2, none⟩ = some (.string p.1) ∧ W'.cell? ⟨b, off + k * 2 + 1, none⟩ = some (.string p.2) from
        have h := hW.trans (hb.mono hW.size)
        ⟨h, HC.out W' h⟩)
      have m1 := wrap8 p.1.size s1
      have m2 := wrap8 p.2.size s2
      have s1i : (p.1.size : Int) ≤ 64 := by omega
      have s2i : (p.2.size : Int) ≤ 64 := by omega
      have hv1 := fun W g => conv_one W g (UInt8.ofNat p.1.size) (p.1.size : Int) (u8_of _ s1)
      have hv2 := fun W g => conv_one W g (UInt8.ofNat p.2.size) (p.2.size : Int) (u8_of _ s2)
      obtain ⟨C1, hC1⟩ : ∃ C, tx [UInt8.ofNat p.1.size] = C := ⟨_, rfl⟩
      obtain ⟨C2, hC2⟩ : ∃ C, tx [UInt8.ofNat p.2.size] = C := ⟨_, rfl⟩
      rw [hC1] at hv1
      rw [hC2] at hv2
      obtain ⟨U1, hU1, hadd1⟩ := add_tx (s := T) (t := C1) (Y := [UInt8.ofNat p.1.size]) HT.out hC1.symm (by simp; omega)
      obtain ⟨U2, hU2, hadd2⟩ := add_tx (s := U1) (t := p.1) (Y := p.1.data.toList) hU1 (tx_of _).symm (by simp; omega)
      obtain ⟨U3, hU3, hadd3⟩ := add_tx (s := U2) (t := C2) (Y := [UInt8.ofNat p.2.size]) hU2 hC2.symm (by simp; omega)
      obtain ⟨U4, hU4, hadd4⟩ := add_tx (s := U3) (t := p.2) (Y := p.2.data.toList) hU3 (tx_of _).symm (by simp; omega)
      have HU := Lib.hid (show U4 = tx (keyL (l.take (k + 1))) by rw [hU4, HS.out]; unfold keyB; simp)
      have hlb := block_lt_of_cell c0
      simp only at hlb
      clear hcell hp hU1 hU2 hU3 hU4 hC1 hC2 hkl hkl2 s1 s2
      go_wp2_with fail
      go_region
      all_goals (go_wp2_with fail)
      all_goals
        go_roundw
        case rel => exact ⟨k + 1, U4, by omega, by go_num, rfl, HU, Lib.hid (HB.out.trans (Below.mono (by first | exact ((Below.refl _ _).alloc (Nat.le_refl _) _).alloc (by simp) _ | exact (((Below.refl _ _).alloc (Nat.le_refl _) _).alloc (by simp) _).drew) HB.out.size))⟩
        case measure => simp [intOf]; omega
    · obtain rfl : k = l.length := by omega
      have hki : ¬ ((l.length : Int) < (l.length : Int)) := by omega
      have HV := Lib.hid (show T = tx (keyL l) by rw [HT.out, List.take_length])
      clear hkl hkl2
      go_wp2_with fail
      go_ret
      exact ⟨by rw [HV.out]; rfl, HB.out⟩
end Go.Proofs.Ytnnfoagdgoionab
