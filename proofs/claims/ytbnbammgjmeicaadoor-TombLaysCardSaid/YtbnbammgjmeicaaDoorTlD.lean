/- A set taken of any bytes, walked. -/
import Derived.Test.YtbnbammgjmeicaaDoorTlC
namespace Go.Proofs.YtbnbammgjmeicaaDoor.Tl
open Go.RowKit Go.Sort
set_option linter.unusedVariables false

open Tk in
set_option maxHeartbeats 1000000 in
theorem small_neg (m : Int) (q l c : Nat) (a : Option Addr) (bs : List Nat) (s : Nat × Int) (w : World) (h : Rd w q a l c bs s) (hT : Tab w) (hq : q ≠ 0) (hm : m < 0) (hm2 : -9223372036854775808 ≤ m) :
    Calls Tryd.prog 32 #[.pointer (some ⟨q, 0, none⟩), .int .i64 m] w (TakePost q a l c bs (.int .i64 (((smallI bs m s).1 : Nat) : Int)) (smallI bs m s).2 w) := by
  have H := Lib.hid h
  have HT := Lib.hid hT
  have c1 := h.c1
  have tl := h.tl
  obtain ⟨t, x⟩ := s
  dsimp only at c1 tl
  obtain ⟨G, hG⟩ : ∃ G, smallI bs m (t, x) = G := ⟨_, rfl⟩
  rw [hG]
  unfold smallI at hG
  dsimp only at hG
  clear h hT
  by_cases hx : x = 0
  · subst hx
    rw [if_neg (by simp)] at hG
    obtain ⟨n, s2, hn⟩ : ∃ n s2, countF bs (t, 0) = (n, s2) := ⟨_, _, rfl⟩
    rw [hn] at hG
    dsimp only at hG
    have HN := Lib.hid hn
    have HGG := Lib.hid hG
    clear hn hG
    go_enter Tryd.func32, Tryd.ntmps32
    go_wp2_with fail
    refine (err_any _ _ _ _ _ _ _ H.out).mono ?_
    rintro e w' ⟨rfl, rfl⟩
    go_wp2_with fail
    refine (count_any q l c a bs (t, 0) _ H.out HT.out hq).mono ?_
    rintro e w1 ⟨rfl, q1, q2⟩
    rw [HN.out] at q1 ⊢
    dsimp only at q1 ⊢
    have c2 := q1.c2
    have Q1 := Lib.hid q1
    have Q2 := Lib.hid q2
    clear q1 q2
    obtain ⟨u, y⟩ := s2
    dsimp only at c2
    by_cases hy : y = 0
    · subst hy
      have hG : G = (0, (t, 9)) := by have := HGG.out; rw [if_neg (by simp), if_pos (.inl hm)] at this; exact this.symm
      have hd0 : decide (m < 0) = true := by simpa using hm
      go_wp2_with fail
      refine (fail_any q l c t a bs (u, 0) 9 _ Q1.out tl).mono ?_
      rintro e w3 ⟨rfl, r1, r2⟩
      have R : Hid (TakePost q a l c bs (.int .i64 (G.1 : Int)) G.2 w (.returned (.int .i64 0)) w3) := by rw [hG]; exact ⟨rfl, r1, Q2.out.trans0 r2⟩
      clear r1 r2
      go_wp2_with fail
      go_ret
      exact R.out
    · have hG : G = (0, (u, y)) := by have := HGG.out; rw [if_pos (by simpa using hy)] at this; exact this.symm
      have R : Hid (TakePost q a l c bs (.int .i64 (G.1 : Int)) G.2 w (.returned (.int .i64 0)) w1) := by rw [hG]; exact ⟨rfl, Q1.out, Q2.out⟩
      clear hG
      have hb : (y != 0) = true := by simpa using hy
      go_wp2_with fail
      go_ret
      exact R.out
  · rw [if_pos (by simpa using hx)] at hG
    subst hG
    have hb : (x != 0) = true := by simpa using hx
    go_enter Tryd.func32, Tryd.ntmps32
    go_wp2_with fail
    refine (err_any _ _ _ _ _ _ _ H.out).mono ?_
    rintro e w' ⟨rfl, rfl⟩
    go_wp2_with fail
    go_ret
    exact ⟨rfl, H.out, Step.refl _ _ _⟩
theorem small_i (m : Int) (q l c : Nat) (a : Option Addr) (bs : List Nat) (s : Nat × Int) (w : World) (h : Tk.Rd w q a l c bs s) (hT : Tk.Tab w) (hq : q ≠ 0) (hm : m ≤ 1099511627776) (hm2 : -9223372036854775808 ≤ m) :
    Calls Tryd.prog 32 #[.pointer (some ⟨q, 0, none⟩), .int .i64 m] w (Tk.TakePost q a l c bs (.int .i64 (((smallI bs m s).1 : Nat) : Int)) (smallI bs m s).2 w) := by
  by_cases h0 : m < 0
  · exact small_neg m q l c a bs s w h hT hq h0 hm2
  · obtain ⟨k, rfl⟩ := Int.eq_ofNat_of_zero_le (show 0 ≤ m by omega)
    rw [smallI_nat]
    exact Tk.small_any k q l c a bs s w h hT hq (by omega)

theorem own_abide {w w' : World} {B : Nat} {e : TypeId} {size n : Nat} {v : Value} {xs : List Value} (h : w.ownsRow B e size v n xs) (hb : ∀ k, v.ownBlock = some k → w'.heap[k]? = w.heap[k]?) : w'.ownsRow B e size v n xs := by
  rcases h.2 with h1 | ⟨g, cap, cur, hv, hB, hh, r⟩
  · exact ⟨h.1, .inl h1⟩
  · exact ⟨h.1, .inr ⟨g, cap, cur, hv, hB, (hb g (by rw [hv]; rfl)).trans hh, r⟩⟩
theorem rd_elsewhere {w w' : World} {B q l c : Nat} {a : Option Addr} {bs : List Nat} {s : Nat × Int} (h : Tk.Rd w q a l c bs s) (hlt : 0 < l → ∀ r o, a = some ⟨r, o, none⟩ → r < B) (hq : q < B) (hb : Below B w w') : Tk.Rd w' q a l c bs s := by
  have hc : ∀ (r j : Nat), r < B → w'.cell? ⟨r, j, none⟩ = w.cell? ⟨r, j, none⟩ := fun r j hr => hb.cell (p := ⟨r, j, none⟩) hr
  have hf : ∀ (r j : Nat), r < B → w'.frozen? ⟨r, j, none⟩ = w.frozen? ⟨r, j, none⟩ := fun r j hr => by unfold World.frozen?; rw [hb.block r hr]
  refine ⟨Nat.lt_of_lt_of_le h.qw hb.size, (hc _ _ hq).trans h.c0, (hc _ _ hq).trans h.c1, (hc _ _ hq).trans h.c2, (hf _ _ hq).trans h.f1, (hf _ _ hq).trans h.f2, h.len, h.byte, fun h0 => ?_, h.tl, h.lb⟩
  obtain ⟨r, o, e, hr, hcc⟩ := h.lies h0
  exact ⟨r, o, e, hr, fun j b hj => (hc _ _ (hlt h0 r o e)).trans (hcc j b hj)⟩
theorem rd_src {w : World} {q l c : Nat} {a : Option Addr} {bs : List Nat} {s : Nat × Int} (h : Tk.Rd w q a l c bs s) : 0 < l → ∀ r o, a = some ⟨r, o, none⟩ → r < w.heap.size := fun h0 r o e => by
  obtain ⟨r', o', e', hr, hc⟩ := h.lies h0
  have hl : 0 < bs.length := by rw [← h.len]; exact h0
  have := block_lt_of_cell (hc 0 _ (List.getElem?_eq_getElem hl))
  rw [e'] at e
  simp at e
  rw [← e.1]
  exact this
theorem rd_below {w w' : World} {q l c : Nat} {a : Option Addr} {bs : List Nat} {s : Nat × Int} (h : Tk.Rd w q a l c bs s) (hb : Below w.heap.size w w') : Tk.Rd w' q a l c bs s := rd_elsewhere h (rd_src h) h.qw hb
theorem step_more {q : Nat} {w wr wr' : World} (h : Tk.Step q none w wr) (hb : Below w.heap.size wr wr') : Tk.Step q none w wr' :=
  ⟨hb.os.trans h.os, hb.tape.trans h.tape, hb.output.trans h.output, Nat.le_trans h.size hb.size, fun k hk hq hn => (hb.block k hk).trans (h.block k hk hq hn)⟩
/-- Take's memory between two rounds -/
structure TS (w wr : World) (q : Nat) (a : Option Addr) (l c : Nat) (bs : List Nat) (s : Nat × Int) (A : Option Addr) (d : Nat) (L : List Tm.Rg) : Prop where
  rd : Tk.Rd wr q a l c bs s
  own : wr.ownsRow (w.heap.size + 1) 32 2 (.slice A L.length d) L.length (Tm.twoC .i64 L)
  res : wr.heap[w.heap.size]? = some (.cells #[.slice none 0 0] 27 (0, 0))
  step : Tk.Step q none w wr
  qlt : q < w.heap.size
  src : 0 < l → ∀ r o, a = some ⟨r, o, none⟩ → r < w.heap.size
section
variable {w wr : World} {q : Nat} {a : Option Addr} {l c : Nat} {bs : List Nat} {s : Nat × Int} {A : Option Addr} {d : Nat} {L : List Tm.Rg}
theorem TS.start (h : Tk.Rd w q a l c bs s) : TS w (w.alloc (.cells #[.slice none 0 0] 27 (0, 0))) q a l c bs s none 0 [] := by
  have hb : Below w.heap.size w (w.alloc (.cells #[.slice none 0 0] 27 (0, 0))) := (Below.refl _ _).alloc (Nat.le_refl _) _
  exact ⟨rd_below h hb, Tm.own_nil _ _ _ _, heap_alloc_new w _, step_more (Tk.Step.refl _ _ _) hb, h.qw, rd_src h⟩
theorem TS.lt (h : TS w wr q a l c bs s A d L) : w.heap.size < wr.heap.size := (Array.getElem?_eq_some_iff.1 h.res).1
theorem TS.call (h : TS w wr q a l c bs s A d L) {wr' : World} {s' : Nat × Int} (hr : Tk.Rd wr' q a l c bs s') (st : Tk.Step q none wr wr') : TS w wr' q a l c bs s' A d L := by
  have h1 := h.lt
  have hq := h.qlt
  have hb : ∀ k, w.heap.size ≤ k → k < wr.heap.size → wr'.heap[k]? = wr.heap[k]? := fun k hk hl => st.block k hl (by omega) (by simp)
  refine ⟨hr, ?_, ?_, h.step.trans0 st, hq, h.src⟩
  · exact own_abide h.own fun k hk => hb k (by have := (h.own.lt k hk).1; omega) (h.own.lt k hk).2
  · rw [hb _ (by omega) (by omega)]; exact h.res
theorem TS.app (h : TS w wr q a l c bs s A d L) {w2 : World} {A2 : Option Addr} {d2 : Nat} {p : Tm.Rg} (ho : w2.ownsRow (w.heap.size + 1) 32 2 (.slice A2 (L.length + 1) d2) (L.length + 1) (Tm.twoC .i64 (L ++ [p]))) (hb : Below (w.heap.size + 1) wr w2) :
    TS w w2 q a l c bs s A2 d2 (L ++ [p]) := by
  have hlen : (L ++ [p]).length = L.length + 1 := by simp
  have hq := h.qlt
  refine ⟨rd_elsewhere h.rd (fun h0 r o e => by have := h.src h0 r o e; omega) (by omega) hb, by rw [hlen]; exact ho, ?_, step_more h.step (hb.mono (by omega)), hq, h.src⟩
  rw [hb.block _ (by omega)]
  exact h.res
end
/-- what Take leaves -/
def TakeP (w : World) (q : Nat) (a : Option Addr) (l c : Nat) (bs : List Nat) (m : Int) (e : Ending) (w' : World) : Prop :=
  ∃ v, e = .returned v ∧ Tm.St w' v (takeF bs m (0, 0)).1 ∧ Tk.Rd w' q a l c bs (takeF bs m (0, 0)).2 ∧ Tk.Step q none w w'
theorem TS.done {w wr : World} {q : Nat} {a : Option Addr} {l c : Nat} {bs : List Nat} {s : Nat × Int} {A : Option Addr} {d : Nat} {L : List Tm.Rg} {m : Int} (h : TS w wr q a l c bs s A d L) (he : takeF bs m (0, 0) = (L, s)) :
    TakeP w q a l c bs m (.returned (.agg #[.slice A L.length d])) (wr.setCell ⟨w.heap.size, 0, none⟩ (.slice A L.length d)) := by
  have hb : Below w.heap.size wr (wr.setCell ⟨w.heap.size, 0, none⟩ (.slice A L.length d)) := (Below.refl _ _).setCell (by simp) _
  refine ⟨_, rfl, ?_, ?_, step_more h.step hb⟩
  · rw [he]
    have ho := ownsRow_setCell_below h.own (a := ⟨w.heap.size, 0, none⟩) (by simp) (.slice A L.length d)
    exact ⟨A, d, rfl, Tm.own_none ho, Tm.own_cl ho⟩
  · rw [he]
    exact rd_elsewhere h.rd h.src h.qlt hb
theorem TS.none_ {w wr : World} {q : Nat} {a : Option Addr} {l c : Nat} {bs : List Nat} {s : Nat × Int} {A : Option Addr} {d : Nat} {L : List Tm.Rg} {m : Int} (h : TS w wr q a l c bs s A d L) (he : takeF bs m (0, 0) = ([], s)) :
    TakeP w q a l c bs m (.returned (.agg #[.slice none 0 0])) (wr.setCell ⟨w.heap.size, 0, none⟩ (.slice none 0 0)) := by
  have hb : Below w.heap.size wr (wr.setCell ⟨w.heap.size, 0, none⟩ (.slice none 0 0)) := (Below.refl _ _).setCell (by simp) _
  refine ⟨_, rfl, ?_, ?_, step_more h.step hb⟩
  · rw [he]
    exact Tm.St.nil _
  · rw [he]
    exact rd_elsewhere h.rd h.src h.qlt hb
def TkRel (w : World) (q : Nat) (a : Option Addr) (l c : Nat) (bs : List Nat) (m : Int) (n : Nat) (v5 v6 v11 : Value) (wr : World) : Prop :=
  ∃ (k : Nat) (s : Nat × Int) (A : Option Addr) (d : Nat) (L : List Tm.Rg) (f : Int), v11 = .int .i64 (k : Int) ∧ k ≤ n ∧ v5 = .slice A L.length d ∧ v6 = .int .i64 f ∧ L.length = k ∧ TS w wr q a l c bs s A d L ∧ (0 < n → s.2 = 0 ∧ s.1 ≤ 8 * bs.length) ∧ takeF bs m (0, 0) = takeL bs (n - k) f L s ∧ 0 ≤ f ∧ f ≤ 1099511627778
theorem smallI_some {bs : List Nat} {m : Int} {s : Nat × Int} {n : Nat} {s1 : Nat × Int} (hn : smallI bs m s = (n, s1)) (h0 : 0 < n) : s1.2 = 0 := by
  have e := hn
  unfold smallI at e
  split at e
  · injection e with e1 _; omega
  split at e
  · injection e with e1 _; omega
  split at e
  · injection e with e1 _; omega
  · rename_i g1 g2 g3
    rw [e] at g2
    exact Decidable.not_not.1 g2
set_option maxHeartbeats 2000000 in
theorem take_any (m : Int) (q l c : Nat) (a : Option Addr) (bs : List Nat) (w : World) (h : Tk.Rd w q a l c bs (0, 0)) (hT : Tk.Tab w) (hq0 : q ≠ 0) (hm : m ≤ 1000) (hm0 : 0 ≤ m) :
    Calls Tryd.prog 14 #[.pointer (some ⟨q, 0, none⟩), .int .i64 m] w (TakeP w q a l c bs m) := by
  have hz := tab_pos hT
  have HB8 := Lib.hid h.byte
  have HTAB := Lib.hid (fun (W : World) (st : Tk.Step q none w W) => hT.step st hz hq0 (by simp))
  obtain ⟨n, s1, hn⟩ : ∃ n s1, smallI bs m (0, 0) = (n, s1) := ⟨_, _, rfl⟩
  have hnl : n ≤ 1000 := by have := smallI_le bs m (0, 0); rw [hn] at this; simp only at this; omega
  have HTF := Lib.hid (show takeF bs m (0, 0) = takeL bs n 0 [] s1 from by unfold takeF; rw [hn])
  have HS1 := Lib.hid (show 0 < n → s1.2 = 0 ∧ s1.1 ≤ 8 * bs.length from fun h0 => by
    have e0 := smallI_some hn h0
    obtain ⟨_, _, u, e1, _, e3, _⟩ := smallI_ok HB8.out (m := m) (s := (0, 0)) (by rw [hn]; exact e0) (Nat.zero_le _)
    rw [hn] at e1
    simp only at e1
    rw [e1]
    exact ⟨rfl, e3⟩)
  obtain ⟨W0, hW0⟩ : ∃ W0, w.alloc (.cells #[.slice none 0 0] 27 (0, 0)) = W0 := ⟨_, rfl⟩
  have S0 := Lib.hid (show TS w W0 q a l c bs (0, 0) none 0 [] from hW0 ▸ TS.start h)
  have HN := Lib.hid hn
  clear h hT hn
  go_enter Tryd.func14, Tryd.ntmps14
  go_wp2_with fail
  refine (small_i m q l c a bs (0, 0) _ S0.out.rd (HTAB.out _ S0.out.step) hq0 (by omega) (by omega)).mono ?_
  rintro e w3 ⟨rfl, r1, r2⟩
  rw [HN.out] at r1 ⊢
  dsimp only at r1 ⊢
  have S1 := Lib.hid (S0.out.call r1 r2)
  clear r1 r2 hW0
  go_wp2_with fail
  go_loopw [5, 6, 11] (fun v5 v6 v11 wr => Hid (TkRel w q a l c bs m n v5 v6 v11 wr)) (fun _ _ v11 _ => n - (intOf v11).toNat)
  case atStart => exact Lib.hid ⟨0, s1, none, 0, [], 0, rfl, by omega, rfl, rfl, rfl, S1.out, HS1.out, HTF.out, by omega, by omega⟩
  case round =>
    clear S1
    obtain ⟨k, s, A, d, L, f, rfl, hk, rfl, rfl, hLk, hst, hs, htf, hf0, hf1⟩ := hrel.out
    clear hrel
    have S1 := Lib.hid hst
    have HTF1 := Lib.hid htf
    obtain ⟨r0, _⟩ : wr.cell? ⟨w.heap.size, 0, none⟩ = some (.slice none 0 0) ∧ True := ⟨by rw [cell_of_row _ _ _ _ _ _ hst.res]; rfl, trivial⟩
    have rf : wr.frozen? ⟨w.heap.size, 0, none⟩ = false := by simp [World.frozen?, hst.res]
    by_cases hlt : k < n
    · have hki : (k : Int) < (n : Int) := by omega
      obtain ⟨hs0, hs8⟩ := hs (by omega)
      have HLK := Lib.hid hLk
      have HLT := Lib.hid hlt
      obtain ⟨x, s2, hx⟩ : ∃ x s2, smallI bs 1099511627776 s = (x, s2) := ⟨_, _, rfl⟩
      have hxl : (x : Int) ≤ 1099511627776 := by have := smallI_le bs 1099511627776 s; rw [hx] at this; simp only at this; omega
      obtain ⟨F, hF⟩ : ∃ F, f + (x : Int) = F := ⟨_, rfl⟩
      obtain ⟨G, hG⟩ : ∃ G, 1099511627776 - F = G := ⟨_, rfl⟩
      obtain ⟨y, s3, hy⟩ : ∃ y s3, smallI bs G s2 = (y, s3) := ⟨_, _, rfl⟩
      have hyl : (y : Int) ≤ max G 0 := by have := smallI_le bs G s2; rw [hy] at this; exact this
      have hG1 : G ≤ 1099511627776 := by omega
      have hG2 : -9223372036854775808 ≤ G := by omega
      have HX := Lib.hid hx
      have HY := Lib.hid hy
      have HF := Lib.hid hF
      have HG := Lib.hid hG
      have e1 : n - k = (n - (k + 1)) + 1 := by omega
      have HBAD := Lib.hid (show s3.2 ≠ 0 → takeF bs m (0, 0) = ([], s3) from fun hb => by rw [htf, e1]; exact takeL_bad hx (by rw [hF, hG]; exact hy) hb)
      have HON := Lib.hid (show s3.2 = 0 → takeF bs m (0, 0) = takeL bs (n - (k + 1)) (F + (y : Int) + 2) (L ++ [(F, F + (y : Int))]) s3 from fun hb => by rw [htf, e1, takeL_on hx (by rw [hF, hG]; exact hy) hb, hF])
      have HRM := Lib.hid (show s3.2 = 0 → s3.1 ≤ 8 * bs.length ∧ (y : Int) ≤ G ∧ 0 ≤ G from fun hb => by
        have hs2 : s2.2 = 0 := by
          refine Decidable.byContradiction fun hne => ?_
          have := smallI_wrong (bs := bs) (m := G) hne
          rw [hy] at this
          injection this with _ this
          rw [this] at hb
          exact hne hb
        obtain ⟨_, _, u1, a2, _, a4, _⟩ := smallI_ok HB8.out (m := 1099511627776) (s := s) (by rw [hx]; exact hs2) hs8
        rw [hx] at a2
        simp only at a2
        subst a2
        obtain ⟨_, b1, u2, b2, _, b4, _⟩ := smallI_ok HB8.out (m := G) (s := (u1, 0)) (by rw [hy]; exact hb) a4
        rw [hy] at b1 b2
        simp only at b1 b2
        rw [b2]
        exact ⟨b4, b1, by omega⟩)
      have hF0 : 0 ≤ F := by omega
      have hF1 : F ≤ 2199023255554 := by omega
      have hy9 : (y : Int) ≤ 1099511627776 := by omega
      have hL9 : L.length ≤ 1000 := by omega
      clear hst htf hs hx hy hG hs0 hs8 e1 hlt hxl hyl
      go_wp2_with fail
      refine (small_i 1099511627776 q l c a bs s _ S1.out.rd (HTAB.out _ S1.out.step) hq0 (by omega) (by omega)).mono ?_
      rintro e w4 ⟨rfl, q1, q2⟩
      rw [HX.out] at q1 ⊢
      dsimp only at q1 ⊢
      have S2 := Lib.hid (S1.out.call q1 q2)
      clear q1 q2 r0 rf
      go_wp2_with fail
      try rw [HG.out]
      refine (small_i G q l c a bs s2 _ S2.out.rd (HTAB.out _ S2.out.step) hq0 hG1 hG2).mono ?_
      rintro e w5 ⟨rfl, q1, q2⟩
      rw [HY.out] at q1 ⊢
      dsimp only at q1 ⊢
      have S3 := Lib.hid (S2.out.call q1 q2)
      have R3 := S3.out.res
      have r0 : w5.cell? ⟨w.heap.size, 0, none⟩ = some (.slice none 0 0) := by rw [cell_of_row _ _ _ _ _ _ R3]; rfl
      have rf : w5.frozen? ⟨w.heap.size, 0, none⟩ = false := by simp [World.frozen?, R3]
      have hw5 := Lib.hid S3.out.lt
      clear q1 q2 R3
      go_wp2_with fail
      refine (Tk.err_any q l c a bs s3 _ S3.out.rd).mono ?_
      rintro e w6 ⟨rfl, rfl⟩
      obtain ⟨u3, x3⟩ := s3
      dsimp only
      by_cases hx3 : x3 = 0
      · subst hx3
        have HON1 := Lib.hid (HON.out rfl)
        have HRM1 := Lib.hid (HRM.out rfl)
        have hfb : F + (y : Int) ≤ 1099511627776 := by have := HRM1.out; have := HG.out; omega
        clear r0 rf
        go_wp2_with (at_builtin; refine Tm.put_rg (W := w5) rfl _ _ rfl (w.heap.size + 1) A L.length d L rfl S3.out.own (Below.refl _ _) hw5.out (by omega) w5.heap.size rfl rfl (F, F + (y : Int)) ?_; intro A2 d2 w7 hown7 hb7 _; have S4 := Lib.hid (S3.out.app hown7 hb7); clear hown7 hb7)
        go_roundw
        case rel => exact Lib.hid ⟨k + 1, (u3, 0), A2, d2, L ++ [(F, F + (y : Int))], F + (y : Int) + 2, by go_num, by have := HLT.out; omega, by have := HLK.out; simp; omega, rfl, by have := HLK.out; simp; omega, S4.out, fun _ => ⟨rfl, HRM1.out.1⟩, HON1.out, by omega, by omega⟩
        case measure => simp [intOf]; have := HLT.out; omega
      · have hx3' : (x3 != 0) = true := by simpa using hx3
        have HEND := Lib.hid (S3.out.none_ (m := m) (HBAD.out hx3))
        go_wp2_with fail
        exact bodyPost_ret (v := .agg #[.slice none 0 0]) (by simp [results, Tryd.results14, go_sem, r0]) rfl HEND.out
    · obtain rfl : k = n := by omega
      have hki : ¬ ((k : Int) < (k : Int)) := by omega
      have HEND := Lib.hid (hst.done (m := m) (by rw [htf, Nat.sub_self]; rfl))
      clear hst htf hs hLk
      go_wp2_with fail
      exact bodyPost_ret (v := .agg #[.slice A L.length d]) (by simp [results, Tryd.results14, go_sem, r0]) rfl HEND.out
end Go.Proofs.YtbnbammgjmeicaaDoor.Tl
