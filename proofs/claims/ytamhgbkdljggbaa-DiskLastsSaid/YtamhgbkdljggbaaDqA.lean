/- Names; the law's cutKeep. -/
import Derived.Test.YtamhgbkdljggbaaDkQ
import Derived.Test.YtamhgbkdljggbaaDkZ
namespace Go.Proofs.Ytamhgbkdljggbaa.Dk
open Go.RowKit Go.Maps Go.Sort Go.Proofs
set_option linter.unusedVariables false

theorem row_nms {w : World} {b0 k : Nat} {v : Value} {ss : List Nm} (h : w.ownsRow b0 9 1 v k (ss.map encStr)) (hk : k = ss.length) : ∃ A c, v = .slice A ss.length c ∧ NmsAt w b0 A ss := by
  subst hk
  rcases row_parts h rfl with ⟨rfl, rfl⟩ | ⟨g, c, cur, rfl, hb, hh, r1, r2, r3, r4⟩
  · exact ⟨none, 0, rfl, fun i x hx => by cases hx⟩
  · refine ⟨_, c, rfl, fun i x hx => ⟨g, rfl, hb, ?_⟩⟩
    have hi := (List.getElem?_eq_some_iff.1 hx).1
    rw [h.cellAt i (by omega), List.getElem?_map, hx]
    rfl
def NamP (w : World) (M : Nat) (S : PD) (e : Ending) (w' : World) : Prop := ∃ A c ss, e = .returned (.slice A ss.length c) ∧ Ns S.now ss ∧ ss.length ≤ M ∧ NmsAt w' w.heap.size A ss ∧ Below w.heap.size w w'
set_option maxHeartbeats 1000000 in
theorem names_any (O : Nat → Prop) (d M : Nat) (S : PD) (w : World) (h : DK O w d M S) (hd : S.down = false) (hM : M ≤ 1000000) : Calls Try.prog 19 #[.pointer (some ⟨d, 0, none⟩)] w (NamP w M S) := by
  show Calls Try.prog 19 #[.pointer (some ⟨d, 0, none⟩)] w fun e w' => NamP w M S e w'
  have HP := Lib.hid (power_any O d M S w h)
  rw [hd, if_neg (by simp)] at HP
  obtain ⟨⟨c0, c1, c2, c3, c4, c5⟩, _⟩ := h.cells
  obtain ⟨nb, hnb⟩ : ∃ nb, S.nb = nb := ⟨_, rfl⟩
  have HN := Lib.hid (show MapP w nb S.now M from hnb ▸ h.now)
  rw [hnb] at c1
  have HK := Lib.hid (keys_any nb w)
  obtain ⟨W1, hW1⟩ : ∃ W1, w.alloc (.cells #[.map nb] 54) = W1 := ⟨_, rfl⟩
  have hb1 : Below w.heap.size w W1 := hW1 ▸ grows w _
  have hx : W1.cell? ⟨w.heap.size, 0, none⟩ = some (.map nb) := by rw [← hW1, cell_of_row _ _ _ _ _ _ (heap_alloc_new w _)]; rfl
  have hlt : w.heap.size < W1.heap.size := by rw [← hW1]; simp
  have HS := Lib.hid (sorted_any (HN.out.keep (w' := W1) (fun b e => hb1.block b (HN.out.lt b e))) hlt hx hM)
  have HB := Lib.hid hb1
  rw [hW1] at HK
  clear h hd hnb hb1 hx hlt
  go_enter Try.func19, Try.ntmps19
  go_wp2_with fail
  refine HP.out.mono ?_
  rintro e w' ⟨rfl, rfl⟩
  go_wp2_with fail
  refine HK.out.mono ?_
  rintro e w2 ⟨rfl, rfl⟩
  go_wp2_with fail
  refine HS.out.mono ?_
  rintro e w3 ⟨v, ss, rfl, hn, hl, hrow, hb⟩
  have hlen : (srt ss).length = ss.length := List.length_mergeSort _
  rw [← hlen] at hrow
  obtain ⟨A, c, rfl, hA⟩ := row_nms hrow rfl
  have HX := Lib.hid (show NamP w' M S (.returned (.slice A ss.length c)) w3 from ⟨A, c, srt ss, by rw [hlen], hn.perm (List.mergeSort_perm _ _), by rw [hlen]; exact hl, fun i x hx => by
    obtain ⟨b, h1, h2, h3⟩ := hA i x hx
    exact ⟨b, h1, Nat.le_trans HB.out.size h2, h3⟩, HB.out.trans (hb.mono HB.out.size)⟩)
  clear hn hl hrow hb hA
  go_wp2_with fail
  go_ret
  exact HX.out
theorem infoB : (Try.prog.info? 4).map (fun i => (i.zero, i.size, i.bytes)) = some (some (.bool false), 1, 1) := by kernel_rfl
def CkR (w : World) (k : Nat) (v3 : Value) (wr : World) : Prop := ∃ (A : Option Addr) (c : Nat) (ks : List Bool), ks.length = k ∧ v3 = .slice A k c ∧ wr.ownsRow w.heap.size 4 1 (.slice A k c) k (ks.map Value.bool) ∧ Below w.heap.size w wr
def CkP (w : World) (n : Nat) (e : Ending) (w' : World) : Prop := ∃ (A : Option Addr) (c : Nat) (ks : List Bool), ks.length = n ∧ e = .returned (.slice A n c) ∧ Tk.Cl w' A (ks.map Value.bool) ∧ Below w.heap.size w w'
set_option maxHeartbeats 1000000 in
theorem cutKeep_any (Bu : Option Addr) (mu cu : Nat) (us : List Nat) (w : World) (hu : Tk.Cl w Bu (us.map fun u : Nat => Value.int .u16 (u : Int))) (hmu : mu = us.length) (hu16 : ∀ u ∈ us, u < 65536) (hl : us.length ≤ 70368744177664) :
    Calls Try.prog 23 #[.slice Bu mu cu] w (CkP w mu) := by
  show Calls Try.prog 23 #[.slice Bu mu cu] w fun e w' => CkP w mu e w'
  have HU := Lib.hid hu
  have HU16 := Lib.hid hu16
  have HL := Lib.hid (And.intro hmu hl)
  obtain ⟨i0, hi, hz0, hz1, hz2⟩ := info_parts infoB
  have hni : (mu : Int) ≤ 70368744177664 := by omega
  have S0 := Lib.hid (show CkR w 0 (.slice none 0 0) w from ⟨none, 0, [], rfl, rfl, ⟨rfl, .inl ⟨rfl, rfl⟩⟩, Below.refl _ _⟩)
  clear hu hu16 hmu hl
  go_enter Try.func23, Try.ntmps23
  go_wp2_with fail
  go_loopw [3, 5, 8] (fun v3 _ v8 wr => ∃ k : Nat, k ≤ mu ∧ v8 = .int .i64 k ∧ Hid (CkR w k v3 wr)) (fun _ _ v8 _ => mu - (intOf v8).toNat)
  case atStart => exact ⟨0, Nat.zero_le _, rfl, S0⟩
  case round =>
    clear S0
    obtain ⟨k, hk, rfl, HR⟩ := hrel
    obtain ⟨A, c, ks, hkl, rfl, hrow, hb⟩ := HR.out
    clear HR
    by_cases hlt : k < mu
    · have hki : (k : Int) < (mu : Int) := by omega
      obtain ⟨b, off, rfl, hcu⟩ := HU.out.some_ (by rw [List.length_map]; have := HL.out; omega)
      have hlk : k < us.length := by have := HL.out; omega
      have hc1 : wr.cell? ⟨b, off + k, none⟩ = some (.int .u16 ((us[k] : Nat) : Int)) := cb (hcu k _ (by rw [List.getElem?_map, List.getElem?_eq_getElem hlk]; rfl)) hb
      obtain ⟨u, hu⟩ : ∃ u, us[k] = u := ⟨_, rfl⟩
      rw [hu] at hc1
      have HW := Lib.hid (And.intro hkl (And.intro hrow hb))
      have HLT := Lib.hid hlt
      clear hcu hlk hu hkl hrow hb
      go_wp2_with (
        at_builtin
        refine wpList_append_own _ rfl _ _ 23 rfl w.heap.size 4 i0 (.bool false) 1 1 Try.underlying23 hi hz0 hz1 hz2 rfl (by decide) (.slice A k c) k (ks.map Value.bool) rfl (HW.out.2.1.alloc _) ⟨wr.heap.size, 0, none⟩ 1 1 [_] rfl rfl (cell_one_new _ _ _) (by simp [Value.oneCell']) (by unfold maxLen; omega) (by omega) (by have := HW.out.2.2.size; simp; omega) ?_
        intro v' w3 hr3 hg3 _)
      obtain ⟨A', c', rfl⟩ : ∃ A' c', v' = .slice A' (k + 1) c' := by
        rcases hr3.2 with ⟨hv, hz⟩ | ⟨g', cap, cur, hv, _⟩
        · omega
        · exact ⟨_, _, hv⟩
      have hb3 := (HW.out.2.2.alloc HW.out.2.2.size _).grown hg3 (by have := HW.out.2.2.size; simp; omega) (fun j hj => (HW.out.2.1.lt j hj).1)
      refine ⟨⟨k + 1, by have := HLT.out; omega, by go_num, Lib.hid ⟨A', c', ks ++ [_], by rw [List.length_append, HW.out.1]; rfl, rfl, by rw [List.map_append]; exact hr3, hb3⟩⟩, ?_⟩
      simp [intOf]
      have := HLT.out
      omega
    · have hki : ¬ (k : Int) < (mu : Int) := by omega
      have hkm : k = mu := by omega
      subst hkm
      have HX := Lib.hid (show CkP w k (.returned (.slice A k c)) wr from ⟨A, c, ks, hkl, rfl, Tk.own_cl hrow, hb⟩)
      clear hkl hrow hb
      go_wp2_with fail
      go_ret
      exact HX.out
end Go.Proofs.Ytamhgbkdljggbaa.Dk
