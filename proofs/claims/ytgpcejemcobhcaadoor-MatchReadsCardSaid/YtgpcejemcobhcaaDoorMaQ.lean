/- The walk of the law MatchReads. -/
import Derived.Test.YtgpcejemcobhcaaDoorMaP
import Derived.Test.YtgpcejemcobhcaaDoorMaT
namespace Go.Proofs.YtgpcejemcobhcaaDoor
open Go.RowKit Go.Sort
set_option linter.unusedVariables false

theorem prep_parts {m : Mt} (h0 : 0 ≤ m.op ∧ m.op < 4) (h : prepE m = 0) : Lb.nameB m.nm = true ∧ m.vl.size ≤ 64 := by
  unfold prepE at h
  rw [if_neg (by omega)] at h
  by_cases h1 : Lb.nameB m.nm = false ∨ 64 < m.vl.size
  · rw [if_pos h1] at h; cases h
  · refine ⟨?_, by omega⟩
    cases hn : Lb.nameB m.nm with
    | true => rfl
    | false => exact absurd (.inl hn) h1
theorem prT_mem : ∀ {l : List Mt} {m : Mt}, m ∈ l → m.nm.size ≤ (prT l).length
  | a :: r, m, h => by
    rcases List.mem_cons.1 h with rfl | h
    · rw [prT, List.length_append]
      have : m.nm.size ≤ (oneT m).length := by unfold oneT; rw [List.length_append]; have : m.nm.data.toList.length = m.nm.size := by rw [Array.length_toList]; rfl
                                               omega
      omega
    · have ih := prT_mem h
      have hr : r ≠ [] := by intro e; rw [e] at h; simp at h
      rw [prT_cons a hr, List.length_append, List.length_cons]
      omega
def ReRel (w : World) (ms : List Mt) (v5 v29 : Value) (wr : World) : Prop := ∃ (i c : Nat) (A : Option Addr), v5 = .slice A i c ∧ v29 = .int .i64 (i : Int) ∧ i ≤ ms.length ∧ wr.ownsRow w.heap.size 39 3 (.slice A i c) i (mtC (ms.take i)) ∧ Below w.heap.size w wr
set_option maxHeartbeats 4000000 in
set_option maxRecDepth 100000 in
theorem reads_main (s : ByteArray) (w : World) (hT : Tab w) (hs : s.size ≤ 500) :
    Calls Tryd.prog 4 #[.string s] w fun e w' => e = .returned (.bool true) ∧ Below w.heap.size w w' := by
  obtain ⟨l, hl⟩ : ∃ l, s.data.toList = l := ⟨_, rfl⟩
  have HLS := Lib.hid (show l.length ≤ 500 by rw [← hl, Array.length_toList]; exact hs)
  have HSX := Lib.hid (show s = Lb.tx l by rw [← hl, Lb.tx_of])
  have HP := Lib.hid (mparse_any s w hT (by omega))
  rw [hl] at HP
  have HT := Lib.hid hT
  have h500 : ¬ (500 : Int) < (s.size : Int) := by omega
  have h501 : ¬ 500 < s.size := by omega
  clear hT hl
  go_enter Tryd.func4, Tryd.ntmps4
  go_wp2_with fail
  refine HP.out.mono ?_
  rintro y w2 ⟨p, rfl, hp, hb⟩
  have HPP := hp
  have B2 := Lib.hid hb
  clear hb hp
  by_cases h0 : parE l = 0
  case neg =>
    have hE : (parE l != 0) = true := z_ne 0 h0
    have hpn : p = .pointer none := by
      rcases HPP.out with ⟨h1, _⟩ | ⟨_, h2⟩
      · exact absurd h1 h0
      · exact h2
    subst hpn
    obtain ⟨E, hEE⟩ : ∃ E, parE l = E := ⟨_, rfl⟩
    rw [hEE] at hE ⊢
    clear h0 HPP hEE
    go_wp2_with fail
    refine (awake_any _ (HT.out.below B2.out)).mono ?_
    rintro y w3 ⟨rfl, hb3⟩
    have B3' := Lib.hid (B2.out.trans (hb3.mono B2.out.size))
    clear hb3
    go_wp2_with fail
    go_ret
    exact ⟨rfl, B3'.out⟩
  obtain ⟨g, ms, hr, rfl, hsel⟩ : ∃ g ms, readF l = some ms ∧ p = .pointer (some ⟨g, 0, none⟩) ∧ Sel w2 g ms := by
    rcases HPP.out with ⟨_, h2⟩ | ⟨h1, _⟩
    · exact h2
    · exact absurd h0 h1
  rw [h0]
  have hpf := readF_text hr
  have hop : ∀ m ∈ ms, (0 ≤ m.op ∧ m.op < 4) ∧ prepE m = 0 := by obtain ⟨_, _, _, _, _, _, _, h5, _⟩ := hsel; exact h5
  have hn16 : ms.length ≤ 16 := by obtain ⟨_, _, _, _, _, _, _, _, h6⟩ := hsel; exact h6
  have hprl : (prT ms).length ≤ 500 := by
    have h1 := HLS.out
    rw [← hpf] at h1
    simp [printF] at h1
    omega
  have hwm : Wm ms := fun m hm => ⟨by have := prT_mem hm; unfold Wt; omega, by have := (prep_parts (hop m hm).1 (hop m hm).2).2; unfold Wt; omega⟩
  have HM := Lib.hid (matchers_any g ms w2 hsel hwm)
  have HNE := Lib.hid (show newE ms = 0 from newE_ok hn16 (fun m hm => (hop m hm).2))
  have HPR := Lib.hid (fun (A : Option Addr) (n c : Nat) (W : World) (hn : n = ms.length) (h : Mq W A ms) => rprint_any A n c ms W hn h hn16 (fun m hm => (hop m hm).1) (fun m hm => by have := (prep_parts (hop m hm).1 (hop m hm).2).2; omega) (by omega))
  rw [hpf, ← HSX.out] at HPR
  have HWM := Lib.hid hwm
  have H16 := Lib.hid hn16
  clear h0 HPP hr hsel hpf hop hn16 hprl hwm HP
  go_wp2_with fail
  refine HM.out.mono ?_
  rintro y w3 ⟨B, d, rfl, hmq, hb3⟩
  obtain ⟨N, hN⟩ : ∃ N, ms.length = N := ⟨_, rfl⟩
  have HN := Lib.hid hN
  have HMQ := Lib.hid hmq
  have B3' := Lib.hid (B2.out.trans (hb3.mono B2.out.size))
  have hN16 : N ≤ 16 := by have := H16.out; omega
  have R0 := Lib.hid (show ReRel w3 ms (.slice none 0 0) (.int .i64 ((0 : Nat) : Int)) w3 from ⟨0, 0, none, rfl, rfl, by omega, World.ownsRow_nil _ _ _ _, Below.refl _ _⟩)
  rw [hN]
  clear hmq hb3 hN HM
  go_wp2_with fail
  go_loopw [5, 29] (fun v5 v29 wr => Hid (ReRel w3 ms v5 v29 wr)) (fun _ v29 _ => N - (intOf v29).toNat)
  case atStart => exact R0
  case round =>
    clear R0
    obtain ⟨i, c1, A1, rfl, rfl, hi, hown, hb⟩ := hrel.out
    clear hrel
    have HOWN := Lib.hid hown
    have HB := Lib.hid hb
    by_cases hlt : i < N
    · have hki : (i : Int) < (N : Int) := by omega
      have hi16 : i ≤ 16 := by omega
      obtain ⟨x, hx⟩ : ∃ x, ms[i]? = some x := ⟨_, List.getElem?_eq_getElem (by rw [HN.out]; exact hlt)⟩
      obtain ⟨b, off, hB, hc⟩ := (HMQ.out.below HB.out).some_ (by rw [HN.out]; omega)
      subst hB
      obtain ⟨q0, q1, q2⟩ := hc i x hx
      have HMI := Lib.hid (Lb.take_snoc _ _ _ hx)
      obtain ⟨nm, op, vl⟩ := x
      obtain ⟨W5, hW5⟩ : ∃ W5, wr.alloc (.cells #[.string nm, .int .i64 op, .string vl] 40 (0, 0)) = W5 := ⟨_, rfl⟩
      obtain ⟨g5, hg5⟩ : ∃ g5, wr.heap.size = g5 := ⟨_, rfl⟩
      obtain ⟨W6, hW6⟩ : ∃ W6, W5.alloc (.cells #[.string nm, .int .i64 op, .string vl] 39 (0, 0)) = W6 := ⟨_, rfl⟩
      obtain ⟨g6, hg6⟩ : ∃ g6, W5.heap.size = g6 := ⟨_, rfl⟩
      have b5 : Below wr.heap.size wr W5 := hW5 ▸ (Below.refl _ _).alloc (Nat.le_refl _) _
      have b6 : Below W5.heap.size W5 W6 := hW6 ▸ (Below.refl _ _).alloc (Nat.le_refl _) _
      have X5 := Lib.hid (show B3 W5 g5 nm op vl from hg5 ▸ hW5 ▸ B3.new wr _ _ _)
      have O6 := Lib.hid (own_below (own_below HOWN.out b5) b6)
      have B6 := Lib.hid (HB.out.trans ((b5.trans (b6.mono b5.size)).mono HB.out.size))
      have HY := Lib.hid (new_d3 hg6 hW6)
      obtain ⟨p0, p1, p2⟩ := X5.out.cells
      have HLT := Lib.hid hlt
      clear hown hb hc hx b5 b6 hlt hi
      simp only at q0 q1 q2
      go_wp2_with (at_builtin; refine app_dm rfl _ _ rfl w3.heap.size A1 i c1 (ms.take i) rfl O6.out g6 rfl ⟨nm, op, vl⟩ HY.out (by have := HLT.out; omega) B6.out.size ?_; intro A7 c7 w7 ho7 hg7; have HO7 := Lib.hid ho7; have HB7 := Lib.hid (B6.out.grown hg7 B6.out.size (fun k hk => (O6.out.lt k hk).1)); clear ho7 hg7)
      clear hW5 hg5 hW6 hg6
      go_roundw
      case rel => exact Lib.hid ⟨i + 1, c7, A7, rfl, by go_num, by have := HLT.out; have := HN.out; omega, by rw [HMI.out]; exact HO7.out, HB7.out⟩
      case measure => simp [intOf]; have := HLT.out; omega
    · obtain rfl : i = N := by have := HN.out; omega
      have hki : ¬ ((i : Nat) : Int) < (i : Int) := by omega
      have hfull : ms.take i = ms := List.take_of_length_le (by have := HN.out; omega)
      rw [hfull] at hown
      have HMD := Lib.hid (show Mq wr A1 ms from ⟨by rw [HN.out]; omega, HWM.out, own_cl hown⟩)
      have BW := Lib.hid (B3'.out.trans (hb.mono B3'.out.size))
      clear hown hb hfull HOWN
      go_wp2_with fail
      refine (awake_any _ (HT.out.below BW.out)).mono ?_
      rintro y w5 ⟨rfl, hb5⟩
      have B5 := Lib.hid (BW.out.trans (hb5.mono BW.out.size))
      have HM5 := Lib.hid (HMD.out.below hb5)
      have HCK := Lib.hid (rcheck_any A1 i c1 ms w5 HN.out.symm HM5.out)
      rw [HNE.out] at HCK
      clear hb5
      go_wp2_with fail
      refine HCK.out.mono ?_
      rintro y w6 ⟨rfl, hb6⟩
      have B6 := Lib.hid (B5.out.trans (hb6.mono B5.out.size))
      have HPP := Lib.hid (HPR.out A1 i c1 w6 HN.out.symm (HM5.out.below hb6))
      clear hb6
      go_wp2_with fail
      refine HPP.out.mono ?_
      rintro y w7 ⟨rfl, hb7⟩
      have B7' := Lib.hid (B6.out.trans (hb7.mono B6.out.size))
      clear hb7
      go_wp2_with fail
      go_ret
      exact ⟨rfl, B7'.out⟩
theorem matchReads_walk (s : ByteArray) (w : World) (hT : Tab w) (hs : s.size ≤ 9223372036854775807) :
    Calls Tryd.prog 4 #[.string s] w fun e w' => e = .returned (.bool true) ∧ Below w.heap.size w w' := by
  by_cases h : s.size ≤ 500
  · exact reads_main s w hT h
  · have HA := Lib.hid (awake_any w hT)
    have h500 : (500 : Int) < (s.size : Int) := by omega
    have h501 : 500 < s.size := by omega
    clear h hT
    go_enter Tryd.func4, Tryd.ntmps4
    go_wp2_with fail
    refine HA.out.mono ?_
    rintro e w2 ⟨rfl, hb⟩
    go_wp2_with fail
    go_ret
    exact ⟨rfl, hb⟩
end Go.Proofs.YtgpcejemcobhcaaDoor
