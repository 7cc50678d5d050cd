/- Crash. -/
import Derived.Test.YtamhgbkdljggbaaDkN
namespace Go.Proofs.Ytamhgbkdljggbaa.Dk
open Go.RowKit Go.Maps Go.Sort Go.Proofs
set_option linter.unusedVariables false

def CrR (S : PD) (l : List Nm) (ks : List Bool) (us : List Nat) (M d : Nat) (w2 : World) (v23 : Value) (wr : World) : Prop := ∃ i T, v23 = .int .i64 ((i : Nat) : Int) ∧ i ≤ l.length ∧ CrW S l ks us M d w2 i T wr
def CrP (w : World) (M : Nat) (S : PD) (ks : List Bool) (us : List Nat) (e : Ending) (w' : World) : Prop := ∃ d' s1 s2 l T, l = Lib.compact (srt (srt s1 ++ s2)) ∧ Ns S.now s1 ∧ Ns S.sure s2 ∧ s1.length ≤ M ∧ s2.length ≤ M ∧ e = .returned (.pointer (some ⟨d', 0, none⟩)) ∧ w.heap.size ≤ d' ∧
  CrI S l ks us l.length T ∧ T.sure = T.now ∧ DK (fun k => w.heap.size ≤ k ∧ k < w'.heap.size) w' d' (M + l.length) T ∧ Below w.heap.size w w'
theorem keep_case (ks : List Bool) (i : Nat) : (i < ks.length ∧ ks[i]? = some true) ∨ (i < ks.length ∧ ks[i]? = some false) ∨ ks.length ≤ i := by
  rcases Nat.lt_or_ge i ks.length with h | h
  · rw [List.getElem?_eq_getElem h]
    cases ks[i] with
    | true => exact .inl ⟨h, rfl⟩
    | false => exact .inr (.inl ⟨h, rfl⟩)
  · exact .inr (.inr h)
theorem cut_case (us : List Nat) (i : Nat) : (i < us.length ∧ us[i]? = some (ct us i)) ∨ (us.length ≤ i ∧ ct us i = 0) := by
  unfold ct
  rcases Nat.lt_or_ge i us.length with h | h
  · exact .inl ⟨h, by rw [List.getElem?_eq_getElem h]; rfl⟩
  · exact .inr ⟨h, by rw [List.getElem?_eq_none h]; rfl⟩
theorem cr_end {w W1 w2 wr w' : World} {M : Nat} {S T : PD} {l : List Nm} {ks : List Bool} {us : List Nat} {i : Nat} {sb : Option Nat} (hb1 : Below w.heap.size w W1) (hb2 : Below W1.heap.size W1 w2) (hd : w.heap.size < W1.heap.size) (h : CrW S l ks us M w.heap.size w2 i T wr)
    (h2 : DK (On (O2 w.heap.size w2.heap.size wr) wr w') w' w.heap.size (M + i) { T with sb := sb, sure := T.now }) (hf : Fr (O2 w.heap.size w2.heap.size wr) wr w') :
    CrI S l ks us i { T with sb := sb, sure := T.now } ∧ DK (fun k => w.heap.size ≤ k ∧ k < w'.heap.size) w' w.heap.size (M + i) { T with sb := sb, sure := T.now } ∧ Below w.heap.size w w' := by
  have s1 := hb1.size
  have s2 := hb2.size
  have s3 := h.fr.size
  have s4 := hf.size
  refine ⟨⟨h.cri.room, h.cri.fuse, h.cri.steps, h.cri.down, h.cri.fwd, h.cri.bwd⟩, h2.mono (fun k hk => ?_) (fun k hk => hk.2) (Nat.le_refl _), ?_⟩
  · rcases hk with (hk | ⟨h1, h2⟩) | ⟨h1, h2⟩
    · have hk' : k = w.heap.size := hk
      omega
    · omega
    · omega
  · have b2 : Below w.heap.size w w2 := hb1.trans (hb2.mono s1)
    have b3 : Below w.heap.size w wr := h.fr.below b2 b2.size (fun x hx => Nat.le_of_eq (Eq.symm hx))
    refine hf.below b3 b3.size (fun x hx => ?_)
    rcases hx with hx | ⟨h1, _⟩
    · exact Nat.le_of_eq (Eq.symm hx)
    · omega
set_option maxHeartbeats 4000000 in
set_option maxRecDepth 100000 in
theorem crash_any (O : Nat → Prop) (d M : Nat) (S : PD) (w : World) (h : DK O w d M S) (hM : M ≤ 200000) (Bk : Option Addr) (mk ck : Nat) (ks : List Bool) (hk : Tk.Cl w Bk (ks.map Value.bool)) (hmk : mk = ks.length)
    (Bu : Option Addr) (mu cu : Nat) (us : List Nat) (hu : Tk.Cl w Bu (us.map fun u : Nat => Value.int .u16 (u : Int))) (hmu : mu = us.length) (hu16 : ∀ u ∈ us, u < 65536) :
    Calls Try.prog 14 #[.pointer (some ⟨d, 0, none⟩), .slice Bk mk ck, .slice Bu mu cu] w (CrP w M S ks us) := by
  show Calls Try.prog 14 #[.pointer (some ⟨d, 0, none⟩), .slice Bk mk ck, .slice Bu mu cu] w fun e w' => CrP w M S ks us e w'
  obtain ⟨⟨c0, c1, c2, c3, c4, c5⟩, _⟩ := h.cells
  obtain ⟨room, hroom⟩ : ∃ room, S.room = room := ⟨_, rfl⟩
  rw [hroom] at c0
  obtain ⟨W1, hW1⟩ : ∃ W1, w.alloc (.cells #[.int .i64 room, .map none, .map none, .int .i64 (-1), .bool false, .int .i64 0] 56 (0, 0)) = W1 := ⟨_, rfl⟩
  obtain ⟨d', hd'⟩ : ∃ d', w.heap.size = d' := ⟨_, rfl⟩
  have hb1 : Below w.heap.size w W1 := hW1 ▸ grows w _
  have hbx : W1.heap[d']? = some (.cells #[.int .i64 room, .map none, .map none, .int .i64 (-1), .bool false, .int .i64 0] 56 (0, 0)) := hd' ▸ hW1 ▸ heap_alloc_new w _
  have hnew : DK (fun k => k = d') W1 d' M (newS S.room) := hroom ▸ DK.new M hbx
  have HN := Lib.hid hnew
  have HE := Lib.hid (either_any O d M S W1 (h.below hb1) (by omega))
  have HB1 := Lib.hid hb1
  have H := Lib.hid h
  have HK := Lib.hid hk
  have HU := Lib.hid hu
  have HU16 := Lib.hid hu16
  have HD1 := Lib.hid (show w.heap.size < W1.heap.size by rw [← hW1]; simp)
  subst hmk hmu
  clear h hk hu hu16 hb1 hbx hnew hroom
  go_enter Try.func14, Try.ntmps14
  go_wp2_with fail
  refine HE.out.mono ?_
  rintro e w2 ⟨A, c, s1, s2, l, hl, hn1, hn2, hl1, hl2, rfl, hA, hb2⟩
  have HL := Lib.hid (And.intro hl (And.intro hn1 (And.intro hn2 (And.intro hl1 hl2))))
  have HA := Lib.hid hA
  have HB2 := Lib.hid hb2
  have HD' := Lib.hid hd'
  have HLL := Lib.hid (show l.length ≤ 2 * M by
    have h1 := Lib.compact_length_le (srt (srt s1 ++ s2))
    rw [← hl] at h1
    simp only [srt, List.length_mergeSort, List.length_append] at h1
    omega)
  obtain ⟨n, hn⟩ : ∃ n, l.length = n := ⟨_, rfl⟩
  rw [hn] at HLL ⊢
  have HNL := Lib.hid hn
  have S0 := Lib.hid (show CrR S l ks us M d' w2 (.int .i64 0) w2 from ⟨0, newS S.room, rfl, Nat.zero_le _, CrI.start S l ks us, (HN.out.below HB2.out).mono (fun k hk => .inl hk) (fun k hk => by
    rcases hk with hk | ⟨_, hk⟩
    · have := HN.out.bound k hk
      exact Nat.lt_of_lt_of_le this hb2.size
    · exact hk) (Nat.le_refl _), Fr.refl _ _⟩)
  clear hl hn1 hn2 hl1 hl2 hA hb2 hn hW1 hd'
  go_wp2_with fail
  go_loopw [8, 9, 10, 11, 23] (fun v8 v9 v10 v11 v23 wr => Hid (CrR S l ks us M d' w2 v23 wr)) (fun _ _ _ _ v23 _ => n - (intOf v23).toNat)
  case atStart => exact S0
  case round =>
    clear S0
    obtain ⟨i, T, rfl, hi, hcw⟩ := hrel.out
    clear hrel
    rw [HNL.out] at hi
    have HC := Lib.hid hcw
    have hbr : Below w.heap.size w wr := hcw.fr.below (HB1.out.trans (HB2.out.mono HB1.out.size)) (HB1.out.trans (HB2.out.mono HB1.out.size)).size (fun x hx => by have hx' : x = d' := hx; rw [hx', HD'.out]; exact Nat.le_refl _)
    have HBR := Lib.hid hbr
    by_cases hlt : i < n
    · have hki : (i : Int) < (n : Int) := by omega
      have hnn : (n : Int) ≤ 400000 := by have := HLL.out; omega
      obtain ⟨x, hx⟩ : ∃ x, l[i]? = some x := ⟨_, List.getElem?_eq_getElem (by rw [HNL.out]; exact hlt)⟩
      obtain ⟨b, rfl, hbb, hcell⟩ := HA.out i x hx
      obtain ⟨s, hs, hsx⟩ : ∃ s : ByteArray, encStr x = .string s ∧ s.data.toList = x := ⟨_, rfl, by simp⟩
      rw [hs] at hcell
      have hcx : wr.cell? ⟨b, i, none⟩ = some (.string s) := by
        have hbl := block_lt_of_cell hcell
        rw [World.cell?_of_block (w := w2) (hcw.fr.block b hbl (fun e => by have e' : b = d' := e; have := HD1.out; rw [HD'.out] at this; omega))]
        exact hcell
      have hr := H.out.below hbr
      obtain ⟨⟨c0, c1, c2, c3, c4, c5⟩, _⟩ := hr.cells
      have HX := Lib.hid (show l[i]? = some s.data.toList by rw [hsx]; exact hx)
      have HR := Lib.hid hr
      have HLT := Lib.hid hlt
      have hxb : s.data.toList ∈ l := List.mem_of_getElem? HX.out
      have hks : Ks s := by
        have hl := HL.out
        rw [hl.1, compact_mem] at hxb
        have hxc : s.data.toList ∈ s1 ∨ s.data.toList ∈ s2 := by simpa [srt, List.mem_mergeSort] using hxb
        show s.size ≤ maxLen
        rcases hxc with hx1 | hx1
        · have := hr.now.kb ((hl.2.1.2 _).1 hx1)
          simpa using this
        · have := hr.sure.kb ((hl.2.2.1.2 _).1 hx1)
          simpa using this
      have hlkS := hr.sure.look hks
      have hlkN := hr.now.look hks
      have HKS := Lib.hid hks
      obtain ⟨gs, hgs⟩ : ∃ gs, S.sure s.data.toList = gs := ⟨_, rfl⟩
      obtain ⟨gn, hgn⟩ : ∃ gn, S.now s.data.toList = gn := ⟨_, rfl⟩
      rw [hgs] at hlkS
      rw [hgn] at hlkN
      have HGS := Lib.hid hgs
      have HGN := Lib.hid hgn
      clear hx hs hsx hcell hbb hr hxb hks hgs hgn hcw hbr
      rcases keep_case ks i with ⟨hik, hkb⟩ | ⟨hik, hkb⟩ | hik
      · have hik' : (i : Int) < (ks.length : Int) := by omega
        have HP := Lib.hid (show pk S ks i s.data.toList = gn by unfold pk; rw [if_pos hkb, HGN.out])
        obtain ⟨bk, ok, rfl, hck2⟩ := HK.out.some_ (by rw [List.length_map]; omega)
        have hck3 : wr.cell? ⟨bk, ok + i, none⟩ = some (.bool true) := cb (hck2 i _ (by rw [List.getElem?_map, hkb]; rfl)) HBR.out
        clear hkb hck2
        obtain ⟨pv, hpv⟩ : ∃ pv, ptrV gs = pv := ⟨_, rfl⟩
        rw [hpv] at hlkS
        clear hpv
        cases gn with
        | zero =>
          simp only [ptrV] at hlkN
          go_wp2_with fail
          go_roundw
          case rel => exact Lib.hid ⟨i + 1, T, by go_num, by rw [HNL.out]; have := HLT.out; omega, HC.out.skip HX.out HP.out⟩
          case measure => simp [intOf]; have := HLT.out; omega
        | succ gp =>
          simp only [ptrV] at hlkN
          have HVD := Lib.hid (show Vd S (gp + 1) from ⟨by omega, s.data.toList, .inl HGN.out⟩)
          rcases cut_case us i with ⟨hiu, hu⟩ | ⟨hiu, hu⟩
          · have hiu' : (i : Int) < (us.length : Int) := by omega
            have hul : ct us i ≤ 65535 := by have := HU16.out _ (List.mem_of_getElem? hu); omega
            obtain ⟨u, hcu⟩ : ∃ u, ct us i = u := ⟨_, rfl⟩
            rw [hcu] at hu hul
            have HCT := Lib.hid hcu
            obtain ⟨bu, ou, rfl, hcu2⟩ := HU.out.some_ (by rw [List.length_map]; omega)
            have hcu3 : wr.cell? ⟨bu, ou + i, none⟩ = some (.int .u16 (u : Int)) := cb (hcu2 i _ (by rw [List.getElem?_map, hu]; rfl)) HBR.out
            clear hu hcu hcu2
            have HLF := Lib.hid (left_any O M gp (u) (S.F (gp + 1)) wr (HR.out.file (gp + 1) (HVD.out)) (by omega) (hul))
            go_wp2_with fail
            refine HLF.out.mono ?_
            rintro e w4 ⟨g', fl', rfl, hfk, hfb, hff, hb4⟩
            obtain ⟨hd4, hf4, ha4, hv4⟩ := HC.out.new hb4 hff
            have HG := Lib.hid (give_any _ d' (M + i) T s (g' + 1) fl' w4 hd4 HKS.out (by have := HLT.out; have := HLL.out; omega) (by omega) hf4 ha4)
            have HF4 := Lib.hid (And.intro hfk (And.intro hfb (And.intro hb4 hv4)))
            simp only [ptrV] at HG ⊢
            clear hfk hfb hff hb4 hd4 hf4 ha4 hv4
            go_wp2_with fail
            refine HG.out.mono ?_
            rintro e w5 ⟨rfl, nb, h5, hf5⟩
            have HC5 := Lib.hid (HC.out.give HF4.out.2.2.1 HX.out (by rw [HP.out]; omega) (show g' + 1 ≠ 0 by omega) HF4.out.2.2.2 (by rw [HP.out, HCT.out]; exact HF4.out.1) (by rw [HP.out]; exact HF4.out.2.1) h5 hf5)
            clear h5 hf5
            go_wp2_with fail
            go_roundw
            case rel => exact Lib.hid ⟨i + 1, _, by go_num, by rw [HNL.out]; have := HLT.out; omega, HC5.out⟩
            case measure => simp [intOf]; have := HLT.out; omega
          · have hiu' : ¬ (i : Int) < (us.length : Int) := by omega
            have HCT := Lib.hid hu
            clear hu
            have HLF := Lib.hid (left_any O M gp (0) (S.F (gp + 1)) wr (HR.out.file (gp + 1) (HVD.out)) (by omega) (by omega))
            go_wp2_with fail
            refine HLF.out.mono ?_
            rintro e w4 ⟨g', fl', rfl, hfk, hfb, hff, hb4⟩
            obtain ⟨hd4, hf4, ha4, hv4⟩ := HC.out.new hb4 hff
            have HG := Lib.hid (give_any _ d' (M + i) T s (g' + 1) fl' w4 hd4 HKS.out (by have := HLT.out; have := HLL.out; omega) (by omega) hf4 ha4)
            have HF4 := Lib.hid (And.intro hfk (And.intro hfb (And.intro hb4 hv4)))
            simp only [ptrV] at HG ⊢
            clear hfk hfb hff hb4 hd4 hf4 ha4 hv4
            go_wp2_with fail
            refine HG.out.mono ?_
            rintro e w5 ⟨rfl, nb, h5, hf5⟩
            have HC5 := Lib.hid (HC.out.give HF4.out.2.2.1 HX.out (by rw [HP.out]; omega) (show g' + 1 ≠ 0 by omega) HF4.out.2.2.2 (by rw [HP.out, HCT.out]; exact HF4.out.1) (by rw [HP.out]; exact HF4.out.2.1) h5 hf5)
            clear h5 hf5
            go_wp2_with fail
            go_roundw
            case rel => exact Lib.hid ⟨i + 1, _, by go_num, by rw [HNL.out]; have := HLT.out; omega, HC5.out⟩
            case measure => simp [intOf]; have := HLT.out; omega
      · have hik' : (i : Int) < (ks.length : Int) := by omega
        have HP := Lib.hid (show pk S ks i s.data.toList = gs by unfold pk; rw [hkb, if_neg (by simp), HGS.out])
        obtain ⟨bk, ok, rfl, hck2⟩ := HK.out.some_ (by rw [List.length_map]; omega)
        have hck3 : wr.cell? ⟨bk, ok + i, none⟩ = some (.bool false) := cb (hck2 i _ (by rw [List.getElem?_map, hkb]; rfl)) HBR.out
        clear hkb hck2
        obtain ⟨pv, hpv⟩ : ∃ pv, ptrV gn = pv := ⟨_, rfl⟩
        rw [hpv] at hlkN
        clear hpv
        cases gs with
        | zero =>
          simp only [ptrV] at hlkS
          go_wp2_with fail
          go_roundw
          case rel => exact Lib.hid ⟨i + 1, T, by go_num, by rw [HNL.out]; have := HLT.out; omega, HC.out.skip HX.out HP.out⟩
          case measure => simp [intOf]; have := HLT.out; omega
        | succ gp =>
          simp only [ptrV] at hlkS
          have HVD := Lib.hid (show Vd S (gp + 1) from ⟨by omega, s.data.toList, .inr HGS.out⟩)
          rcases cut_case us i with ⟨hiu, hu⟩ | ⟨hiu, hu⟩
          · have hiu' : (i : Int) < (us.length : Int) := by omega
            have hul : ct us i ≤ 65535 := by have := HU16.out _ (List.mem_of_getElem? hu); omega
            obtain ⟨u, hcu⟩ : ∃ u, ct us i = u := ⟨_, rfl⟩
            rw [hcu] at hu hul
            have HCT := Lib.hid hcu
            obtain ⟨bu, ou, rfl, hcu2⟩ := HU.out.some_ (by rw [List.length_map]; omega)
            have hcu3 : wr.cell? ⟨bu, ou + i, none⟩ = some (.int .u16 (u : Int)) := cb (hcu2 i _ (by rw [List.getElem?_map, hu]; rfl)) HBR.out
            clear hu hcu hcu2
            have HLF := Lib.hid (left_any O M gp (u) (S.F (gp + 1)) wr (HR.out.file (gp + 1) (HVD.out)) (by omega) (hul))
            go_wp2_with fail
            refine HLF.out.mono ?_
            rintro e w4 ⟨g', fl', rfl, hfk, hfb, hff, hb4⟩
            obtain ⟨hd4, hf4, ha4, hv4⟩ := HC.out.new hb4 hff
            have HG := Lib.hid (give_any _ d' (M + i) T s (g' + 1) fl' w4 hd4 HKS.out (by have := HLT.out; have := HLL.out; omega) (by omega) hf4 ha4)
            have HF4 := Lib.hid (And.intro hfk (And.intro hfb (And.intro hb4 hv4)))
            simp only [ptrV] at HG ⊢
            clear hfk hfb hff hb4 hd4 hf4 ha4 hv4
            go_wp2_with fail
            refine HG.out.mono ?_
            rintro e w5 ⟨rfl, nb, h5, hf5⟩
            have HC5 := Lib.hid (HC.out.give HF4.out.2.2.1 HX.out (by rw [HP.out]; omega) (show g' + 1 ≠ 0 by omega) HF4.out.2.2.2 (by rw [HP.out, HCT.out]; exact HF4.out.1) (by rw [HP.out]; exact HF4.out.2.1) h5 hf5)
            clear h5 hf5
            go_wp2_with fail
            go_roundw
            case rel => exact Lib.hid ⟨i + 1, _, by go_num, by rw [HNL.out]; have := HLT.out; omega, HC5.out⟩
            case measure => simp [intOf]; have := HLT.out; omega
          · have hiu' : ¬ (i : Int) < (us.length : Int) := by omega
            have HCT := Lib.hid hu
            clear hu
            have HLF := Lib.hid (left_any O M gp (0) (S.F (gp + 1)) wr (HR.out.file (gp + 1) (HVD.out)) (by omega) (by omega))
            go_wp2_with fail
            refine HLF.out.mono ?_
            rintro e w4 ⟨g', fl', rfl, hfk, hfb, hff, hb4⟩
            obtain ⟨hd4, hf4, ha4, hv4⟩ := HC.out.new hb4 hff
            have HG := Lib.hid (give_any _ d' (M + i) T s (g' + 1) fl' w4 hd4 HKS.out (by have := HLT.out; have := HLL.out; omega) (by omega) hf4 ha4)
            have HF4 := Lib.hid (And.intro hfk (And.intro hfb (And.intro hb4 hv4)))
            simp only [ptrV] at HG ⊢
            clear hfk hfb hff hb4 hd4 hf4 ha4 hv4
            go_wp2_with fail
            refine HG.out.mono ?_
            rintro e w5 ⟨rfl, nb, h5, hf5⟩
            have HC5 := Lib.hid (HC.out.give HF4.out.2.2.1 HX.out (by rw [HP.out]; omega) (show g' + 1 ≠ 0 by omega) HF4.out.2.2.2 (by rw [HP.out, HCT.out]; exact HF4.out.1) (by rw [HP.out]; exact HF4.out.2.1) h5 hf5)
            clear h5 hf5
            go_wp2_with fail
            go_roundw
            case rel => exact Lib.hid ⟨i + 1, _, by go_num, by rw [HNL.out]; have := HLT.out; omega, HC5.out⟩
            case measure => simp [intOf]; have := HLT.out; omega
      · have hik' : ¬ (i : Int) < (ks.length : Int) := by omega
        have HP := Lib.hid (show pk S ks i s.data.toList = gs by unfold pk; rw [List.getElem?_eq_none hik, if_neg (by simp), HGS.out])
        obtain ⟨pv, hpv⟩ : ∃ pv, ptrV gn = pv := ⟨_, rfl⟩
        rw [hpv] at hlkN
        clear hpv
        cases gs with
        | zero =>
          simp only [ptrV] at hlkS
          go_wp2_with fail
          go_roundw
          case rel => exact Lib.hid ⟨i + 1, T, by go_num, by rw [HNL.out]; have := HLT.out; omega, HC.out.skip HX.out HP.out⟩
          case measure => simp [intOf]; have := HLT.out; omega
        | succ gp =>
          simp only [ptrV] at hlkS
          have HVD := Lib.hid (show Vd S (gp + 1) from ⟨by omega, s.data.toList, .inr HGS.out⟩)
          rcases cut_case us i with ⟨hiu, hu⟩ | ⟨hiu, hu⟩
          · have hiu' : (i : Int) < (us.length : Int) := by omega
            have hul : ct us i ≤ 65535 := by have := HU16.out _ (List.mem_of_getElem? hu); omega
            obtain ⟨u, hcu⟩ : ∃ u, ct us i = u := ⟨_, rfl⟩
            rw [hcu] at hu hul
            have HCT := Lib.hid hcu
            obtain ⟨bu, ou, rfl, hcu2⟩ := HU.out.some_ (by rw [List.length_map]; omega)
            have hcu3 : wr.cell? ⟨bu, ou + i, none⟩ = some (.int .u16 (u : Int)) := cb (hcu2 i _ (by rw [List.getElem?_map, hu]; rfl)) HBR.out
            clear hu hcu hcu2
            have HLF := Lib.hid (left_any O M gp (u) (S.F (gp + 1)) wr (HR.out.file (gp + 1) (HVD.out)) (by omega) (hul))
            go_wp2_with fail
            refine HLF.out.mono ?_
            rintro e w4 ⟨g', fl', rfl, hfk, hfb, hff, hb4⟩
            obtain ⟨hd4, hf4, ha4, hv4⟩ := HC.out.new hb4 hff
            have HG := Lib.hid (give_any _ d' (M + i) T s (g' + 1) fl' w4 hd4 HKS.out (by have := HLT.out; have := HLL.out; omega) (by omega) hf4 ha4)
            have HF4 := Lib.hid (And.intro hfk (And.intro hfb (And.intro hb4 hv4)))
            simp only [ptrV] at HG ⊢
            clear hfk hfb hff hb4 hd4 hf4 ha4 hv4
            go_wp2_with fail
            refine HG.out.mono ?_
            rintro e w5 ⟨rfl, nb, h5, hf5⟩
            have HC5 := Lib.hid (HC.out.give HF4.out.2.2.1 HX.out (by rw [HP.out]; omega) (show g' + 1 ≠ 0 by omega) HF4.out.2.2.2 (by rw [HP.out, HCT.out]; exact HF4.out.1) (by rw [HP.out]; exact HF4.out.2.1) h5 hf5)
            clear h5 hf5
            go_wp2_with fail
            go_roundw
            case rel => exact Lib.hid ⟨i + 1, _, by go_num, by rw [HNL.out]; have := HLT.out; omega, HC5.out⟩
            case measure => simp [intOf]; have := HLT.out; omega
          · have hiu' : ¬ (i : Int) < (us.length : Int) := by omega
            have HCT := Lib.hid hu
            clear hu
            have HLF := Lib.hid (left_any O M gp (0) (S.F (gp + 1)) wr (HR.out.file (gp + 1) (HVD.out)) (by omega) (by omega))
            go_wp2_with fail
            refine HLF.out.mono ?_
            rintro e w4 ⟨g', fl', rfl, hfk, hfb, hff, hb4⟩
            obtain ⟨hd4, hf4, ha4, hv4⟩ := HC.out.new hb4 hff
            have HG := Lib.hid (give_any _ d' (M + i) T s (g' + 1) fl' w4 hd4 HKS.out (by have := HLT.out; have := HLL.out; omega) (by omega) hf4 ha4)
            have HF4 := Lib.hid (And.intro hfk (And.intro hfb (And.intro hb4 hv4)))
            simp only [ptrV] at HG ⊢
            clear hfk hfb hff hb4 hd4 hf4 ha4 hv4
            go_wp2_with fail
            refine HG.out.mono ?_
            rintro e w5 ⟨rfl, nb, h5, hf5⟩
            have HC5 := Lib.hid (HC.out.give HF4.out.2.2.1 HX.out (by rw [HP.out]; omega) (show g' + 1 ≠ 0 by omega) HF4.out.2.2.2 (by rw [HP.out, HCT.out]; exact HF4.out.1) (by rw [HP.out]; exact HF4.out.2.1) h5 hf5)
            clear h5 hf5
            go_wp2_with fail
            go_roundw
            case rel => exact Lib.hid ⟨i + 1, _, by go_num, by rw [HNL.out]; have := HLT.out; omega, HC5.out⟩
            case measure => simp [intOf]; have := HLT.out; omega
    · have e : i = n := by omega
      subst e
      have hlt2 : ¬ (i : Int) < (i : Int) := by omega
      have hdk := HC.out.dk
      obtain ⟨⟨e0, e1, e2, e3, e4, e5⟩, fz⟩ := hdk.cells
      have f2 := fz 2
      have HDE := Lib.hid HD'.out
      have HEND := Lib.hid (fun (w' : World) (sb : Option Nat) (h2 : DK (On (O2 d' w2.heap.size wr) wr w') w' d' (M + i) { T with sb := sb, sure := T.now }) (hf : Fr (O2 d' w2.heap.size wr) wr w') => show CrP w M S ks us (.returned (.pointer (some ⟨d', 0, none⟩))) w' from by
        have hq := HC.out
        have he := HDE.out
        subst he
        obtain ⟨q1, q2, q3⟩ := cr_end HB1.out HB2.out HD1.out hq h2 hf
        have hl := HL.out
        have hnl := HNL.out
        exact ⟨_, s1, s2, l, _, hl.1, hl.2.1, hl.2.2.1, hl.2.2.2.1, hl.2.2.2.2, rfl, Nat.le_refl _, hnl ▸ q1, rfl, hnl ▸ q2, q3⟩)
      cases hnb : T.nb with
      | none =>
        rw [hnb] at e1
        have HCL := Lib.hid (clone_none wr)
        have HS := Lib.hid (show DK (On (O2 d' w2.heap.size wr) wr (wr.setCell ⟨d', 2, none⟩ (.map none))) (wr.setCell ⟨d', 2, none⟩ (.map none)) d' (M + i) { T with sb := none, sure := T.now } from hdk.sures (b := 0) none (.inl ⟨rfl, hnb⟩) (by simp) (fun k _ hk => Below.heap_setCell _ _ _ _ hk) (by have := heap_set_at (i := 2) hdk.box (.map none); rw [this]; rfl) (by
          have hm := hdk.now
          rw [hnb] at hm
          exact hm.keep fun b hb => (by cases hb)))
        have HFR := Lib.hid (Fr.set (O := O2 d' w2.heap.size wr) wr ⟨d', 2, none⟩ (.map none) hdk.od)
        clear hdk hnb fz
        go_wp2_with fail
        refine HCL.out.mono ?_
        rintro e w' ⟨rfl, rfl⟩
        go_wp2_with fail
        go_ret
        exact HEND.out _ _ HS.out HFR.out
      | some b =>
        rw [hnb] at e1
        have hm := hdk.now
        rw [hnb] at hm
        obtain ⟨es, clock, hh⟩ := hm.isMap
        have hdlt : d' < wr.heap.size := hdk.bound d' hdk.od
        have HCL := Lib.hid (clone_some b es clock wr hh)
        obtain ⟨W2, hW2⟩ : ∃ W2, wr.alloc (.map es clock) = W2 := ⟨_, rfl⟩
        obtain ⟨nb, hnb2⟩ : ∃ nb, wr.heap.size = nb := ⟨_, rfl⟩
        have hW2d : W2.heap[d']? = wr.heap[d']? := by rw [← hW2]; exact Below.heap_alloc wr _ d' hdlt
        have hW2n : W2.heap[nb]? = some (.map es clock) := by rw [← hW2, ← hnb2]; exact (MapKept.heap_alloc wr _).1
        have HP := Lib.hid (show OpP (O2 d' w2.heap.size wr) wr d' (M + i) { T with sb := some nb, sure := T.now } (W2.setCell ⟨d', 2, none⟩ (.map (some nb))) from by
          refine ⟨hdk.sures (b := nb) (some nb) (.inr ⟨rfl, by omega, by simp; rw [← hW2]; simp; omega⟩) (by simp; rw [← hW2]; simp) (fun k hk hkd => by rw [Below.heap_setCell _ _ _ _ hkd, ← hW2]; exact Below.heap_alloc wr _ k hk) (by have := heap_set_at (i := 2) (hW2d.trans hdk.box) (.map (some nb)); rw [this]; rfl) ?_, ?_⟩
          · rcases hm with ⟨hm, _⟩ | ⟨b', D, e1, hown, hview⟩
            · cases hm
            · injection e1 with e1
              subst e1
              obtain ⟨es', clock', hh', F, hsz, hD⟩ := hown
              rw [hh] at hh'
              injection hh' with hh'
              injection hh' with e1 e2
              subst e1 e2
              refine .inr ⟨nb, D, rfl, ⟨es, clock, ?_, F, hsz, hD⟩, hview⟩
              rw [Below.heap_setCell _ _ _ _ (by simp; omega)]
              exact hW2n
          · exact (Fr.of_below (hW2 ▸ grows wr _)).trans (Fr.set (O := O2 d' w2.heap.size wr) W2 _ _ hdk.od) (fun x hx => .inl hx))
        have q2 : W2.cell? ⟨d', 2, none⟩ = some (.map T.sb) := by rw [cell_of_row _ _ _ _ _ _ (hW2d.trans hdk.box)]; rfl
        have f2' : W2.frozen? ⟨d', 2, none⟩ = false := by simp [World.frozen?, hW2d, hdk.box]
        rw [hnb2, hW2] at HCL
        have HW2 := Lib.hid hW2
        clear hdk fz hnb hm hh hdlt hW2d hW2n hW2 hnb2
        go_wp2_with fail
        refine HCL.out.mono ?_
        rintro e w' ⟨rfl, rfl⟩
        go_wp2_with fail
        go_ret
        exact HEND.out _ _ HP.out.1 HP.out.2
end Go.Proofs.Ytamhgbkdljggbaa.Dk
