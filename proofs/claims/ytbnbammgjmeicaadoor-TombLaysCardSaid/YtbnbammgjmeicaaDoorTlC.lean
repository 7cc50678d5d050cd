/- A writer's bits as a list; a set laid, walked. -/
import Derived.Test.YtbnbammgjmeicaaDoorTlB
import Derived.Test.YtbnbammgjmeicaaDoorTmD
namespace Go.Proofs.YtbnbammgjmeicaaDoor.Tl
open Go.RowKit Go.Sort
set_option linter.unusedVariables false

theorem tab_eq {w : World} (h : Tk.Tab w) : Bw.Tab w := h
theorem tab_below {w w' : World} (h : Tk.Tab w) (hb : Below w.heap.size w w') : Tk.Tab w' := by
  obtain ⟨h0, h1, h2, h3, h4, h5, h6⟩ := h
  exact ⟨Tm.cell_below h0 hb, Tm.cell_below h1 hb, Tm.cell_below h2 hb, Tm.cell_below h3 hb, Tm.cell_below h4 hb, Tm.cell_below h5 hb, Tm.cell_below h6 hb⟩
theorem tab_pos {w : World} (h : Tk.Tab w) : 0 < w.heap.size := by
  have := block_lt_of_cell h.1
  omega
/-- the writer at block p has laid l, all behind the world W0 -/
def WS (W0 : World) (p B : Nat) (l : List Bool) (w : World) : Prop := (∃ v bs, Bw.Wr w p B v bs l.length ∧ LaidL bs l) ∧ Below W0.heap.size W0 w
/-- .. and its bytes don't lie in block g -/
def WX (W0 : World) (p B g : Nat) (l : List Bool) (w : World) : Prop := (∃ v bs, Bw.Wr w p B v bs l.length ∧ LaidL bs l ∧ v.ownBlock ≠ some g) ∧ Below W0.heap.size W0 w
theorem WX.out {W0 w : World} {p B g : Nat} {l : List Bool} (h : WX W0 p B g l w) : WS W0 p B l w := by
  obtain ⟨⟨v, bs, h1, h2, _⟩, h3⟩ := h
  exact ⟨⟨v, bs, h1, h2⟩, h3⟩
theorem WS.box {W0 w : World} {p B : Nat} {l : List Bool} (h : WS W0 p B l w) (o : Obj) : WX W0 p B w.heap.size l (w.alloc o) := by
  obtain ⟨⟨v, bs, h1, h2⟩, h3⟩ := h
  refine ⟨⟨v, bs, h1.below ((Below.refl _ _).alloc (Nat.le_refl _) o), h2, fun e => ?_⟩, h3.alloc h3.size o⟩
  have := (h1.own.lt _ e).2
  omega
theorem WS.below {W0 w w' : World} {p B : Nat} {l : List Bool} (h : WS W0 p B l w) (hb : Below w.heap.size w w') : WS W0 p B l w' := by
  obtain ⟨⟨v, bs, h1, h2⟩, h3⟩ := h
  exact ⟨⟨v, bs, h1.below hb, h2⟩, h3.trans (hb.mono h3.size)⟩
theorem count_x (y : Int) (W0 : World) (p B g : Nat) (l : List Bool) (w : World) (h : WX W0 p B g l w) (hp : W0.heap.size ≤ p) (hT : Tk.Tab W0) (hg : g < w.heap.size) (hgp : g ≠ p) (hn : l.length ≤ 800000) (y0 : 0 ≤ y) (y1 : y ≤ 18446744073709551615) :
    Calls Tryd.prog 30 #[.pointer (some ⟨p, 0, none⟩), .int .u64 y] w fun e w' => e = .returned (.tuple #[]) ∧ WX W0 p B g (l ++ Tk.codeL y.toNat) w' ∧ w'.heap[g]? = w.heap[g]? ∧ w.heap.size ≤ w'.heap.size := by
  obtain ⟨⟨v, bs, h1, h2, h4⟩, h3⟩ := h
  obtain ⟨x, rfl⟩ := Int.eq_ofNat_of_zero_le y0
  have hx : x ≤ 18446744073709551615 := by omega
  obtain ⟨c1, c2, _⟩ := codeL_parts x hx
  have hz := tab_pos hT
  refine (Bw.count_any x p B l.length (valB l) v bs w h1 h2 (tab_eq (tab_below hT h3)) (by omega) hn hx).mono ?_
  rintro e w' ⟨rfl, v', bs', r1, r2, r3, r4⟩
  rw [Int.toNat_natCast]
  rw [← c1, ← c2] at r2
  rw [← c1] at r1
  refine ⟨rfl, ⟨⟨v', bs', by rw [List.length_append]; exact r1, LaidL.step r2, fun e => ?_⟩, ⟨r3.os.trans h3.os, r3.tape.trans h3.tape, r3.output.trans h3.output, Nat.le_trans h3.size r3.size, fun k hk => ?_⟩⟩, r3.block g hg hgp h4, r3.size⟩
  · rcases r4 g e with h | h
    · exact h4 h
    · omega
  · rw [r3.block k (Nat.lt_of_lt_of_le hk h3.size) (by omega) (fun e => by have := (h1.own.lt k e).1; have := h1.pb; omega)]
    exact h3.block k hk
theorem count_s (y : Int) (W0 : World) (p B : Nat) (l : List Bool) (w : World) (h : WS W0 p B l w) (hp : W0.heap.size ≤ p) (hT : Tk.Tab W0) (hn : l.length ≤ 800000) (y0 : 0 ≤ y) (y1 : y ≤ 18446744073709551615) :
    Calls Tryd.prog 30 #[.pointer (some ⟨p, 0, none⟩), .int .u64 y] w fun e w' => e = .returned (.tuple #[]) ∧ WS W0 p B (l ++ Tk.codeL y.toNat) w' := by
  obtain ⟨⟨v, bs, h1, h2⟩, h3⟩ := h
  obtain ⟨x, rfl⟩ := Int.eq_ofNat_of_zero_le y0
  have hx : x ≤ 18446744073709551615 := by omega
  obtain ⟨c1, c2, _⟩ := codeL_parts x hx
  have hz := tab_pos hT
  refine (Bw.count_any x p B l.length (valB l) v bs w h1 h2 (tab_eq (tab_below hT h3)) (by omega) hn hx).mono ?_
  rintro e w' ⟨rfl, v', bs', r1, r2, r3, r4⟩
  rw [Int.toNat_natCast]
  rw [← c1, ← c2] at r2
  rw [← c1] at r1
  refine ⟨rfl, ⟨v', bs', by rw [List.length_append]; exact r1, LaidL.step r2⟩, ⟨r3.os.trans h3.os, r3.tape.trans h3.tape, r3.output.trans h3.output, Nat.le_trans h3.size r3.size, fun k hk => ?_⟩⟩
  rw [r3.block k (Nat.lt_of_lt_of_le hk h3.size) (by omega) (fun e => by have := (h1.own.lt k e).1; have := h1.pb; omega)]
  exact h3.block k hk

set_option maxHeartbeats 1000000 in
theorem lay_any (v : Value) (X : List Tm.Rg) (p B : Nat) (W0 w : World) (l : List Bool) (hs : Tm.St W0 v X) (hT : Tk.Tab W0) (hc : Tm.Can X) (hX : X.length ≤ 1000) (h : WS W0 p B l w) (hp : W0.heap.size ≤ p) (hl : l.length ≤ 1000) :
    Calls Tryd.prog 10 #[v, .pointer (some ⟨p, 0, none⟩)] w fun e w' => e = .returned (.tuple #[]) ∧ WS W0 p B (l ++ layT X) w' := by
  obtain ⟨A, c, rfl, ha, hcl⟩ := hs
  obtain ⟨n, hn⟩ : ∃ n, X.length = n := ⟨_, rfl⟩
  have HN := Lib.hid hn
  have HCL := Lib.hid hcl
  have HC := Lib.hid ((can_iff X).1 hc)
  have HT := Lib.hid hT
  have HP := Lib.hid hp
  have HL := Lib.hid hl
  have hpB : p < w.heap.size := by obtain ⟨⟨v, bs, h1, _⟩, _⟩ := h; have := h1.pb; have := h1.bw; omega
  rw [hn] at hX ⊢
  have hX2 := Lib.hid hX
  have hni : (n : Int) ≤ 1000 := by omega
  obtain ⟨W1, hW1⟩ : ∃ W1, w.alloc (.cells #[.slice A n c] 27 (0, 0)) = W1 := ⟨_, rfl⟩
  obtain ⟨g1, hg1⟩ : ∃ g1, w.heap.size = g1 := ⟨_, rfl⟩
  have X1 := Lib.hid (show WX W0 p B g1 l W1 from hg1 ▸ hW1 ▸ h.box _)
  have hbx : W1.heap[g1]? = some (.cells #[.slice A n c] 27 (0, 0)) := hg1 ▸ hW1 ▸ heap_alloc_new w _
  have L1 := Lib.hid (show g1 < W1.heap.size by rw [← hW1, ← hg1]; simp)
  have P1 := Lib.hid (show g1 ≠ p by omega)
  have q0 : W1.cell? ⟨g1, 0, none⟩ = some (.slice A n c) := by rw [cell_of_row _ _ _ _ _ _ hbx]; rfl
  have HBX := Lib.hid hbx
  clear hcl hc hT hp hl hpB hn ha h hX hbx
  go_enter Tryd.func10, Tryd.ntmps10
  go_wp2_with fail
  refine (count_x (n : Int) W0 p B g1 l _ X1.out HP.out HT.out L1.out P1.out (by have := HL.out; omega) (by omega) (by omega)).mono ?_
  rintro e w2 ⟨rfl, hx2, hb2, _⟩
  rw [Int.toNat_natCast] at hx2
  have q2 : w2.cell? ⟨g1, 0, none⟩ = some (.slice A n c) := by rw [cell_of_row _ _ _ _ _ _ (hb2.trans HBX.out)]; rfl
  have HS := Lib.hid hx2.out
  clear hx2 hb2 q0 hW1 hg1
  go_wp2_with fail
  go_loopw [4, 16] (fun f i wr => ∃ k : Nat, k ≤ n ∧ i = .int .i64 k ∧ f = .int .i64 (endF 0 (X.take k)) ∧ Hid (WS W0 p B ((l ++ Tk.codeL n) ++ layR 0 (X.take k)) wr)) (fun _ i _ => n - (intOf i).toNat)
  case atStart => exact ⟨0, by omega, rfl, rfl, by rw [show layR 0 (X.take 0) = [] from rfl, List.append_nil]; exact HS⟩
  case round =>
    clear HS q2
    obtain ⟨k, hk, rfl, rfl, HR⟩ := hrel
    by_cases hlt : k < n
    · have hki : (k : Int) < (n : Int) := by omega
      obtain ⟨r, hr⟩ := Tm.getElem?_lt (l := X) (k := k) (by rw [HN.out]; exact hlt)
      obtain ⟨b, off, rfl, hcell⟩ := (HCL.out.below HR.out.2).twos (by rw [HN.out]; omega)
      obtain ⟨z0, z1⟩ := hcell k r hr
      have hat := canF_at X 0 k r HC.out hr
      have hge := endF_ge (X.take k) 0 (canF_take X 0 k HC.out)
      have hts := Tm.take_snoc X k r hr
      have hsn := layR_snoc (X.take k) 0 r
      have hes := endF_snoc (X.take k) 0 r
      rw [← hts] at hsn hes
      have hlen := layR_len (X.take k) 0
      rw [List.length_take, HN.out] at hlen
      have hcode := Tk.codeL_length n
      obtain ⟨F, hF⟩ : ∃ F, endF 0 (X.take k) = F := ⟨_, rfl⟩
      rw [hF] at hat hge hsn ⊢
      obtain ⟨M, hM⟩ : ∃ M, (l ++ Tk.codeL n) ++ layR 0 (X.take k) = M := ⟨_, rfl⟩
      have HML := Lib.hid (show M.length ≤ 150000 by rw [← hM, List.length_append, List.length_append]; have := hX2.out; have := HL.out; omega)
      rw [hM] at HR
      obtain ⟨r1, r2⟩ := r
      obtain ⟨a1, a2, a3⟩ := hat
      simp only at z0 z1 a1 a2 a3 hsn hes
      have HSN := Lib.hid (show (l ++ Tk.codeL n) ++ layR 0 (X.take (k + 1)) = (M ++ Tk.codeL (r1 - F).toNat) ++ Tk.codeL (r2 - r1).toNat by rw [hsn, ← hM]; simp only [List.append_assoc])
      have HES := Lib.hid hes
      have HLT := Lib.hid hlt
      obtain ⟨W4, hW4⟩ : ∃ W4, wr.alloc (.cells #[.int .i64 r1, .int .i64 r2] 32 (0, 0)) = W4 := ⟨_, rfl⟩
      obtain ⟨g4, hg4⟩ : ∃ g4, wr.heap.size = g4 := ⟨_, rfl⟩
      have X4 := Lib.hid (show WX W0 p B g4 M W4 from hg4 ▸ hW4 ▸ HR.out.box _)
      have hb4 : W4.heap[g4]? = some (.cells #[.int .i64 r1, .int .i64 r2] 32 (0, 0)) := hg4 ▸ hW4 ▸ heap_alloc_new wr _
      have L4 := Lib.hid (show g4 < W4.heap.size by rw [← hW4, ← hg4]; simp)
      have P4 := Lib.hid (show g4 ≠ p by obtain ⟨⟨v, bs, h1, _⟩, _⟩ := HR.out; have := h1.pb; have := h1.bw; omega)
      obtain ⟨y0, y1, _⟩ := Tm.box2 hb4
      have HB4 := Lib.hid hb4
      clear hcell hr hts hsn hes hlen hcode hF hM hb4 hlt
      go_wp2_with fail
      clear z0 z1
      refine (count_x (r1 - F) W0 p B g4 M W4 X4.out HP.out HT.out L4.out P4.out (by have := HML.out; omega) (by omega) (by omega)).mono ?_
      rintro e w5 ⟨rfl, hx5, hb5, hs5⟩
      obtain ⟨u0, u1, _⟩ := Tm.box2 (hb5.trans HB4.out)
      have X5 := Lib.hid hx5
      have HB5 := Lib.hid (hb5.trans HB4.out)
      have L5 := Lib.hid (show g4 < w5.heap.size by have := L4.out; omega)
      clear hx5 hb5 hs5 y0 y1 hW4 hg4
      go_wp2_with fail
      refine (count_x (r2 - r1) W0 p B g4 _ w5 X5.out HP.out HT.out L5.out P4.out (by rw [List.length_append]; have := HML.out; have := Tk.codeL_length (r1 - F).toNat; omega) (by omega) (by omega)).mono ?_
      rintro e w6 ⟨rfl, hx6, hb6, hs6⟩
      obtain ⟨t0, t1, _⟩ := Tm.box2 (hb6.trans HB5.out)
      have HS6 := Lib.hid hx6.out
      clear hx6 hb6 hs6 u0 u1
      go_wp2_with fail
      go_roundw
      case rel => exact ⟨k + 1, HLT.out, by go_num, by rw [HES.out], by rw [HSN.out]; exact HS6⟩
      case measure => simp [intOf]; have := HLT.out; omega
    · obtain rfl : k = n := by omega
      have hki : ¬ ((k : Int) < (k : Int)) := by omega
      have HF := Lib.hid (show WS W0 p B (l ++ layT X) wr from by
        have := HR.out
        rw [List.take_of_length_le (by rw [HN.out]; omega), List.append_assoc] at this
        unfold layT
        rw [HN.out]
        exact this)
      clear HR
      go_wp2_with fail
      go_end0
      exact ⟨rfl, HF.out⟩
end Go.Proofs.YtbnbammgjmeicaaDoor.Tl
