/- The document's example, walked. -/
import Derived.Test.YtamhgbkdljggbaaDkP
namespace Go.Proofs.Ytamhgbkdljggbaa.Dk
open Go.RowKit Go.Maps Go.Proofs
set_option linter.unusedVariables false

theorem fS_list : fS.data.toList = [102] := rfl
theorem fS_key : Ks fS := by unfold Ks maxLen; decide
theorem fS_ok : okName fS = true := by decide
theorem i64_m1 : I64 (-1) := by unfold I64; omega
theorem ct_nil (i : Nat) : ct [] i = 0 := by simp [ct]
def BtP (W : World) (A : Option Addr) (n c : Nat) (bs : List Nat) (C : Int) : Prop := C = 0 ∧ n = bs.length ∧ Tk.Sl W A c bs
/-- Crash and Read behind one another: what the one file reads as -/
theorem one_left {O : Nat → Prop} {M : Nat} {S : PD} (hM : M ≤ 100) {bs : List Nat} {k : Nat} (ho : One S [102] bs k) (hs : S.sure [102] = S.now [102]) (hso : ∀ z, S.sure z ≠ 0 → z = [102])
    {us : List Nat} {d' : Nat} {s1 s2 l : List Nm} {T : PD} {w' : World} (hl : l = Lib.compact (srt (srt s1 ++ s2))) (h1 : Ns S.now s1) (h2 : Ns S.sure s2) (hl1 : s1.length ≤ M) (hl2 : s2.length ≤ M) (hc : CrI S l [] us l.length T) (hd : DK O w' d' (M + l.length) T) :
    Calls Try.prog 15 #[.pointer (some ⟨d', 0, none⟩), .string fS] w' (ReadQ w' 0 (bs.take (k + ct us 0 % (bs.length - k + 1)))) := by
  obtain ⟨q1, q2, q3⟩ := one_crash ho hs hso h1 h2 hl hc
  have hll : l.length ≤ 200 := by
    have h3 := Lib.compact_length_le (srt (srt s1 ++ s2))
    rw [← hl] at h3
    simp only [srt, List.length_mergeSort, List.length_append] at h3
    omega
  have hr := read_any _ d' (M + l.length) T fS w' hd fS_key (by omega)
  unfold ReadP readC at hr
  rw [fS_list, q3, if_neg (by simp), if_neg q1, q2] at hr
  exact hr
/-- []byte("..") of a constant -/
theorem lit_bytes (w : World) (C : Array Value) (xs : List Nat) (n : Nat) (hC : C.toList = Tk.cellsB xs) (hn : n = xs.length) (h8 : ∀ x ∈ xs, x < 256) (hl : xs.length ≤ 1000) :
    ∃ W0 W1, w.alloc (.cells C 5 (0, 0)) = W0 ∧ (convert 31 31 (.slice (some ⟨w.heap.size, 0, none⟩) n n)).run Try.prog W0 = .ok (.slice (some ⟨w.heap.size, 0, none⟩) n n) W1 ∧ Below w.heap.size w W1 ∧ Tk.Sl W1 (some ⟨w.heap.size, 0, none⟩) n xs := by
  subst hn
  refine ⟨_, w.alloc (.cells C 5 (C.size, C.size + 1)), rfl, Lib.run_convert_bytes_const (P := Try.prog) w 31 5 C _ _ Try.underlying31 Try.underlying5, grows w _, by omega, by omega, (fun e => by cases e), h8, by omega, .inr ⟨w.heap.size, 0, rfl, fun j x hj => ?_⟩⟩
  rw [cell_of_row _ _ _ _ _ _ (heap_alloc_new w _), ← Array.getElem?_toList, hC]
  unfold Tk.cellsB
  rw [Nat.zero_add, List.getElem?_map, hj]
  rfl
theorem ob_to {base d M : Nat} {S : PD} {w w1 w' : World} (h : OpP (OB base w1) w d M S w') (h1 : Below w1.heap.size w1 w) (hb : base ≤ w1.heap.size) : DK (OB base w') w' d M S ∧ Below base w w' := by
  have hs := h.2.size
  have hs1 := h1.size
  refine ⟨h.1.mono (fun k hk => ?_) (fun k hk => hk.2) (Nat.le_refl _), h.2.below (Below.refl _ _) (by omega) (fun x hx => hx.1)⟩
  rcases hk with hk | hk
  · have := hk.2
    exact ⟨hk.1, by omega⟩
  · exact ⟨by omega, hk.2⟩
set_option maxHeartbeats 2000000 in
set_option maxRecDepth 100000 in
theorem awake13 (w : World) : Calls Try.prog 7 #[] w fun e w' => e = .returned (.bool true) ∧ Below w.heap.size w w' := by
  obtain ⟨base, hbase⟩ : ∃ base, w.heap.size = base := ⟨_, rfl⟩
  have HN := Lib.hid (new_any 9 w (by omega) (by omega))
  rw [hbase] at HN ⊢
  go_enter Try.func7, Try.ntmps7
  go_wp2_with fail
  refine HN.out.mono ?_
  rintro e w1 ⟨rfl, hd1, hb1, hz1⟩
  have D1 := Lib.hid (show DK (OB base w1) w1 base 0 (newS 9) from hd1.mono (fun k hk => by have hk' : k = base := hk; exact ⟨by omega, by omega⟩) (fun k hk => hk.2) (Nat.le_refl _))
  have B1 := Lib.hid hb1
  obtain ⟨W0, W1, hW0, hcv, hg1, hsl⟩ := lit_bytes w1 #[.int .u8 97, .int .u8 98] [97, 98] 2 rfl rfl (by simp) (by simp)
  have HA := Lib.hid (append_any (OB base w1) base 0 (newS 9) fS (some ⟨w1.heap.size, 0, none⟩) 2 2 [97, 98] W1 (D1.out.below hg1) fS_key i64_m1 (by omega) hsl rfl (fun b off e _ hO => by
    injection e with e
    injection e with e _
    have := hO.2
    omega) (by simp) ⟨by show (0 : Int) ≤ 9; omega, by show (9 : Int) ≤ 1048576; omega⟩)
  have G1 := Lib.hid hg1
  have HZ1 := Lib.hid hz1
  clear hd1 hb1 hg1 hz1 hsl
  go_wp2_with fail
  refine HA.out.mono ?_
  rintro e w2 ⟨C, S2, rfl, hop, _, h0, _, hfit⟩
  obtain rfl : C = 0 := hfit (step_on rfl rfl).1 fS_ok (.inl ⟨by rw [(step_on (S := newS 9) rfl rfl).2]; exact fun _ => rfl, by rw [(step_on (S := newS 9) rfl rfl).2]; show ((2 : Nat) : Int) ≤ 9; omega⟩)
  obtain ⟨_, _, happ⟩ := h0 rfl
  obtain ⟨ho2, hs2⟩ := one_first happ
  rw [fS_list] at ho2
  have hz1' : base ≤ w1.heap.size := by have := HZ1.out; omega
  obtain ⟨hd2, hb2⟩ := ob_to hop G1.out hz1'
  have B2 := Lib.hid (show Below base w w2 from (B1.out.trans (G1.out.mono hz1')).trans hb2)
  have hz2 : base ≤ w2.heap.size := Nat.le_trans hz1' (Nat.le_trans G1.out.size hb2.size)
  have HS := Lib.hid (sync_any (OB base w2) base 4 S2 fS w2 (hd2.mono (fun _ h => h) hd2.bound (by simp)) fS_key (by rw [ho2.fuse]; exact i64_m1))
  have HO2 := Lib.hid (And.intro ho2 (And.intro hs2 hz2))
  rw [fS_list] at HS
  clear hop h0 hfit happ ho2 hs2 hd2 hb2 hz1' hz2 HA
  go_wp2_with fail
  refine HS.out.mono ?_
  rintro e w3 ⟨rfl, hop⟩
  obtain ⟨_, ho3, hn3, hs3⟩ := one_sync HO2.out.1
  obtain ⟨S3, hS3⟩ : ∃ S3, syncS S2 [102] = S3 := ⟨_, rfl⟩
  rw [hS3] at hop ho3 hn3 hs3
  obtain ⟨hd3, hb3⟩ := ob_to hop (Below.refl _ _) HO2.out.2.2
  have hz3 : base ≤ w3.heap.size := Nat.le_trans HO2.out.2.2 hb3.size
  have B3 := Lib.hid (show Below base w w3 from B2.out.trans hb3)
  have HSN := Lib.hid (syncnames_any (OB base w3) base 4 S3 w3 hd3 (by rw [ho3.fuse]; exact i64_m1))
  have HO3 := Lib.hid (And.intro ho3 hz3)
  clear hop ho3 hn3 hs3 hd3 hb3 hz3 hS3 HS HO2
  go_wp2_with fail
  refine HSN.out.mono ?_
  rintro e w4 ⟨rfl, _, hz⟩
  obtain ⟨sb, hop⟩ := hz (one_names HO3.out.1 none).1
  have ho4 := (one_names HO3.out.1 sb).2
  obtain ⟨S4, hS4⟩ : ∃ S4 : PD, { stepS S3 with sb := sb, sure := (stepS S3).now } = S4 := ⟨_, rfl⟩
  have hsu : S4.sure = S4.now := by rw [← hS4]
  rw [hS4] at hop ho4
  obtain ⟨hd4, hb4⟩ := ob_to hop (Below.refl _ _) HO3.out.2
  have hz4 : base ≤ w4.heap.size := Nat.le_trans HO3.out.2 hb4.size
  have B4 := Lib.hid (show Below base w w4 from B3.out.trans hb4)
  obtain ⟨W4, W5, hW4, hcv4, hg4, hsl4⟩ := lit_bytes w4 #[.int .u8 99] [99] 1 rfl rfl (by simp) (by simp)
  have HA := Lib.hid (append_any (OB base w4) base 4 S4 fS (some ⟨w4.heap.size, 0, none⟩) 1 1 [99] W5 (hd4.below hg4) fS_key (by rw [ho4.fuse]; exact i64_m1) (by omega) hsl4 rfl (fun b off e _ hO => by
    injection e with e
    injection e with e _
    have := hO.2
    omega) (by simp) ⟨by rw [ho4.room]; omega, by rw [ho4.room]; omega⟩)
  have HO4 := Lib.hid (And.intro ho4 (And.intro hsu (And.intro hz4 hg4)))
  clear hop ho4 hsu hd4 hb4 hz4 hS4 HSN HO3 hz hsl4 hg4 hW0 hcv
  go_wp2_with fail
  refine HA.out.mono ?_
  rintro e w5 ⟨C, S5, rfl, hop, _, h0, _, hfit⟩
  obtain ⟨ho4, hsu, hz4, hg4⟩ := HO4.out
  obtain ⟨e1, e2⟩ := step_on ho4.down ho4.fuse
  obtain rfl : C = 0 := hfit e1 fS_ok (.inr (by
    rw [e2, fS_list]
    refine ⟨ho4.now, ho4.only, ?_⟩
    have h1 := ho4.bs
    have h2 := ho4.room
    show ((S4.F (S4.now [102])).bs.length : Int) + ((1 : Nat) : Int) ≤ S4.room
    rw [h1, h2]
    decide))
  obtain ⟨_, _, happ⟩ := h0 rfl
  rw [fS_list] at happ
  obtain ⟨ho5, hn5, hs5⟩ := one_app ho4 happ
  obtain ⟨hd5, hb5⟩ := ob_to hop hg4 hz4
  have hz5 : base ≤ w5.heap.size := Nat.le_trans hz4 (Nat.le_trans hg4.size hb5.size)
  have B5 := Lib.hid (show Below base w w5 from (B4.out.trans (hg4.mono hz4)).trans hb5)
  have hsn : S5.sure [102] = S5.now [102] := by rw [hs5, hsu, hn5]
  have hso : ∀ z, S5.sure z ≠ 0 → z = [102] := fun z hz => by
    rw [hs5, hsu] at hz
    exact ho4.only z hz
  have hd5' : DK (OB base w5) w5 base 7 S5 := hd5.mono (fun _ h => h) hd5.bound (by simp)
  have HC1 := Lib.hid (crash_any (OB base w5) base 7 S5 w5 hd5' (by omega) none 0 0 [] (.inl rfl) rfl none 0 0 [] (.inl rfl) rfl (by simp))
  have HO5 := Lib.hid (And.intro ho5 (And.intro hsn (And.intro hso (And.intro hz5 hd5'))))
  clear hop h0 hfit happ ho4 hsu hz4 hg4 e1 e2 ho5 hn5 hs5 hd5 hb5 hz5 hsn hso hd5' HA HO4 hW4 hcv4
  go_wp2_with fail
  refine HC1.out.mono ?_
  rintro e w6 ⟨d6, s1, s2, l, T, hl, hn1, hn2, hl1, hl2, rfl, _, hci, _, hdk, hb6⟩
  obtain ⟨ho5, hsn, hso, hz5, hd5⟩ := HO5.out
  have HR1 := Lib.hid (one_left (by omega) ho5 hsn hso hl hn1 hn2 hl1 hl2 hci hdk)
  have HB6 := Lib.hid hb6
  clear hl hn1 hn2 hl1 hl2 hci hdk hb6 ho5 hsn hso hz5 hd5 HC1
  go_wp2_with fail
  refine HR1.out.mono ?_
  rintro e w7 ⟨A7, n7, c7, rfl, hb7, hr7⟩
  have HB7 := Lib.hid hb7
  obtain ⟨hn7, hsl7⟩ := hr7 rfl
  replace hn7 : n7 = ([97, 98] : List Nat).length := hn7
  replace hsl7 : Tk.Sl w7 A7 c7 [97, 98] := hsl7
  have HS7 := Lib.hid (And.intro hn7 hsl7)
  obtain ⟨ho5, hsn, hso, hz5, hd5⟩ := HO5.out
  obtain ⟨W8, hW8⟩ : ∃ W8, w7.alloc (.cells #[.int .u16 1] 52 (0, 0)) = W8 := ⟨_, rfl⟩
  have hg8 : Below w7.heap.size w7 W8 := hW8 ▸ grows w7 _
  have hx8 : W8.heap[w7.heap.size]? = some (.cells #[.int .u16 1] 52 (0, 0)) := hW8 ▸ heap_alloc_new w7 _
  have b58 : Below w5.heap.size w5 W8 := ((HB6.out.trans (HB7.out.mono HB6.out.size))).trans (hg8.mono (by have := HB6.out.size; have := HB7.out.size; omega))
  have HC2 := Lib.hid (crash_any (OB base w5) base 7 S5 W8 (hd5.below b58) (by omega) none 0 0 [] (.inl rfl) rfl (some ⟨w7.heap.size, 0, none⟩) 1 1 [1] (.inr ⟨w7.heap.size, 0, rfl, fun j v hj => by
    rw [cell_of_row _ _ _ _ _ _ hx8]
    match j, hj with
    | 0, hj => exact hj⟩) rfl (by simp))
  have HG8 := Lib.hid hg8
  have B8 := Lib.hid (show Below base w W8 from B5.out.trans (b58.mono hz5))
  clear hn7 hsl7 hr7 hb7 ho5 hsn hso hz5 hd5 hg8 hx8 b58 HR1
  go_wp2_with fail
  refine HC2.out.mono ?_
  rintro e w9 ⟨d9, s1, s2, l, T, hl, hn1, hn2, hl1, hl2, rfl, _, hci, _, hdk, hb9⟩
  obtain ⟨ho5, hsn, hso, hz5, hd5⟩ := HO5.out
  have HR2 := Lib.hid (one_left (by omega) ho5 hsn hso hl hn1 hn2 hl1 hl2 hci hdk)
  have HB9 := Lib.hid hb9
  clear hl hn1 hn2 hl1 hl2 hci hdk hb9 ho5 hsn hso hz5 hd5 HC2
  go_wp2_with fail
  refine HR2.out.mono ?_
  rintro e w10 ⟨A10, n10, c10, rfl, hb10, hr10⟩
  obtain ⟨hn10, hsl10⟩ := hr10 rfl
  replace hn10 : n10 = ([97, 98, 99] : List Nat).length := hn10
  replace hsl10 : Tk.Sl w10 A10 c10 [97, 98, 99] := hsl10
  have b710 : Below w7.heap.size w7 w10 := (HG8.out.trans (HB9.out.mono HG8.out.size)).trans (hb10.mono (by have := HG8.out.size; have := HB9.out.size; omega))
  have cv7 := sl_text (HS7.out.2.kept (Tk.Kept.of_below b710)) HS7.out.1
  have cv10 := sl_text hsl10 hn10
  have t7 : txt [97, 98] = ⟨#[97, 98]⟩ := rfl
  have t10 : txt [97, 98, 99] = ⟨#[97, 98, 99]⟩ := rfl
  rw [t7] at cv7
  rw [t10] at cv10
  have B10 := Lib.hid (show Below base w w10 from B8.out.trans ((HB9.out.trans (hb10.mono HB9.out.size)).mono (by rw [← hbase]; exact B8.out.size)))
  clear hn10 hsl10 hr10 hb10 b710 t7 t10 HR2 hW8
  go_wp2_with fail
  go_ret
  exact ⟨rfl, B10.out⟩
end Go.Proofs.Ytamhgbkdljggbaa.Dk
