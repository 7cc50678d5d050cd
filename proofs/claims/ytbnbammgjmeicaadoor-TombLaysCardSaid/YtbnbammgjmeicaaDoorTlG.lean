/- The walk of the law TombLays. -/
import Derived.Test.YtbnbammgjmeicaaDoorTlF
import Derived.Lib.Strings
namespace Go.Proofs.YtbnbammgjmeicaaDoor.Tl
open Go.RowKit Go.Sort
set_option linter.unusedVariables false

theorem bytes_l (v : Value) (p B : Nat) (l : List Bool) (bs : List Nat) (w : World) (hw : Bw.Wr w p B v bs l.length) (hla : LaidL bs l) (hl : l.length ≤ 100000) :
    Calls Tryd.prog 11 #[.pointer (some ⟨p, 0, none⟩)] w fun e w' => ∃ A c, e = .returned (.slice A bs.length c) ∧ Tk.Sl w' A c bs ∧ Below w.heap.size w w' := by
  have own : w.ownsRow B 5 1 v bs.length (Tk.cellsB bs) := hw.own
  have hbl : bs.length ≤ 100000 := by have := hla.1; omega
  obtain ⟨_, A, c, rfl, hS⟩ := Tk.own_sl own hla.2.1 (by omega)
  have c0 := hw.c0
  have HC := Lib.hid (Tk.clone_any A bs.length c bs w hS rfl (by omega))
  clear own hw hla hS hl
  go_enter Tryd.func11, Tryd.ntmps11
  go_wp2_with fail
  refine HC.out.mono ?_
  rintro e w' ⟨A2, c2, rfl, hs, hb⟩
  have HS := Lib.hid (And.intro hs hb)
  clear hs hb
  go_wp2_with fail
  go_ret
  exact ⟨A2, c2, rfl, HS.out.1, HS.out.2⟩
def strB (bs : List Nat) : ByteArray := ⟨(bs.map UInt8.ofNat).toArray⟩
theorem sl_string (w : World) (A : Option Addr) (c : Nat) (bs : List Nat) (h : Tk.Sl w A c bs) (h0 : 0 < bs.length) :
    (convert 23 9 (.slice A bs.length c)).run Tryd.prog w = .ok (.string (strB bs)) w := by
  obtain ⟨b, off, rfl, hc⟩ := h.2.2.2.some_ h0
  have hl : (bs.map UInt8.ofNat).length = bs.length := by simp
  rw [← hl]
  refine run_convert_bytes_back (P := Tryd.prog) w 23 9 5 ⟨b, off, none⟩ c (bs.map UInt8.ofNat) Tryd.underlying23 Tryd.underlying5 Tryd.underlying9 (fun j hj => ?_)
  have hj' : j < bs.length := by simpa using hj
  have hm : bs[j] < 256 := h.b8 _ (List.getElem_mem hj')
  rw [Tk.addr_add, hc j bs[j] (List.getElem?_eq_getElem hj')]
  congr 2
  simp
  omega
def RowB (bs : List Nat) (v : Value) (w : World) : Prop := ∃ A c, v = .slice A bs.length c ∧ Tk.Sl w A c bs
theorem sl_below {w w' : World} {A : Option Addr} {c : Nat} {bs : List Nat} (h : Tk.Sl w A c bs) (hb : Below w.heap.size w w') : Tk.Sl w' A c bs := h.kept (Tk.Kept.of_below hb)
theorem RowB.below {bs : List Nat} {v : Value} {w w' : World} (h : RowB bs v w) (hb : Below w.heap.size w w') : RowB bs v w' := by
  obtain ⟨A, c, h1, h2⟩ := h
  exact ⟨A, c, h1, sl_below h2 hb⟩
theorem T_ext (l : List Bool) (k : Nat) : (Tk.T l).extract 0 k = Tk.T (l.take k) := by
  rw [Lib.extract_eq]
  unfold Tk.T
  simp [List.map_take]
theorem step_below {q : Nat} {w0 w w' : World} (h : Tk.Step q none w w') (hb : Below w0.heap.size w0 w) (hq : w0.heap.size ≤ q) : Below w0.heap.size w0 w' :=
  ⟨h.os.trans hb.os, h.tape.trans hb.tape, h.output.trans hb.output, Nat.le_trans hb.size h.size, fun k hk => (h.block k (Nat.lt_of_lt_of_le hk hb.size) (by omega) (by simp)).trans (hb.block k hk)⟩
theorem lays_long (A B : Option Addr) (n m c d : Nat) (most : Int) (w : World) (hn : n ≤ 9223372036854775807) (hm : m ≤ 9223372036854775807) (h : 60 < n ∨ 300 < m) :
    Calls Tryd.prog 3 #[.slice A n c, .slice B m d, .int .u8 most] w fun e w' => e = .returned (.bool true) ∧ Below w.heap.size w w' := by
  have HA := Lib.hid (Tm.awake14 w)
  by_cases h1 : 60 < n
  · have hn60 : (60 : Int) < (n : Int) := by omega
    clear h h1
    go_enter Tryd.func3, Tryd.ntmps3
    go_wp2_with fail
    refine HA.out.mono ?_
    rintro e w2 ⟨rfl, hb⟩
    go_wp2_with fail
    go_ret
    exact ⟨rfl, hb⟩
  · have hn60 : ¬ (60 : Int) < (n : Int) := by omega
    have hm60 : (300 : Int) < (m : Int) := by omega
    clear h h1
    go_enter Tryd.func3, Tryd.ntmps3
    go_wp2_with fail
    refine HA.out.mono ?_
    rintro e w2 ⟨rfl, hb⟩
    go_wp2_with fail
    go_ret
    exact ⟨rfl, hb⟩
set_option maxHeartbeats 8000000 in
set_option maxRecDepth 100000 in
theorem lays_main (A B : Option Addr) (n m c d : Nat) (a : List Tm.Rg) (bb : List Nat) (most : Int) (w : World) (hn : n = a.length) (hm : m = bb.length) (hA : Tm.Cl w A (Tm.twoC .i64 a)) (hB : Tk.Sl w B d bb) (hT : Tk.Tab w) (hla : a.length ≤ 60) (hlb : bb.length ≤ 300) (hm0 : 0 ≤ most) (hm1 : most ≤ 255) :
    Calls Tryd.prog 3 #[.slice A n c, .slice B m d, .int .u8 most] w fun e w' => e = .returned (.bool true) ∧ Below w.heap.size w w' := by
  obtain ⟨hn60, hm300⟩ : ¬ (60 : Int) < (n : Int) ∧ ¬ (300 : Int) < (m : Int) := by omega
  have HA := Lib.hid hA
  have HSB := Lib.hid hB
  have HTAB := Lib.hid (fun (W : World) (hb : Below w.heap.size w W) => tab_below hT hb)
  have HZ := Lib.hid (tab_pos hT)
  have HTO := Lib.hid (Tm.to_any A n c a w hn hA (by omega))
  have HLA := Lib.hid hla
  have HLB := Lib.hid hlb
  have HNM := Lib.hid (And.intro hn hm)
  have HM0 := Lib.hid (And.intro hm0 hm1)
  clear hA hB hT hn hm hla hlb
  go_enter Tryd.func3, Tryd.ntmps3
  go_wp2_with fail
  refine HTO.out.mono ?_
  rintro e w2 ⟨A2, c2, rfl, hown2, hb2⟩
  have HOF := Lib.hid (Tm.of_any A2 a.length c2 a w2 rfl (Tm.own_cl hown2) (by have := HLA.out; omega))
  have HB2 := Lib.hid hb2
  clear hown2 hb2 HTO
  go_wp2_with fail
  refine HOF.out.mono ?_
  rintro e w3 ⟨v3, X, rfl, hIs, hXl, hst, hb3⟩
  have HXC := Lib.hid hIs.1
  have HXL := Lib.hid (show X.length ≤ 60 by have := HLA.out; omega)
  obtain ⟨A3, c3, rfl, h30, h3c⟩ := hst
  have HB3 := Lib.hid (HB2.out.trans (hb3.mono HB2.out.size))
  obtain ⟨k3, hk3⟩ : ∃ k3, X.length = k3 := ⟨_, rfl⟩
  rw [hk3]
  have HK3 := Lib.hid hk3
  have HST3 := Lib.hid (show Tm.St w3 (.agg #[.slice A3 k3 c3]) X from ⟨A3, c3, by rw [hk3], h30, h3c⟩)
  obtain ⟨W4, hW4⟩ : ∃ W4, w3.alloc (.cells #[.slice A3 k3 c3] 27 (0, 0)) = W4 := ⟨_, rfl⟩
  obtain ⟨g8, hg8⟩ : ∃ g8, w3.heap.size = g8 := ⟨_, rfl⟩
  have hb4 : Below w3.heap.size w3 W4 := hW4 ▸ (Below.refl _ _).alloc (Nat.le_refl _) _
  have q8 : W4.cell? ⟨g8, 0, none⟩ = some (.slice A3 k3 c3) := by rw [← hW4, ← hg8, cell_of_row _ _ _ _ _ _ (heap_alloc_new w3 _)]; rfl
  have HST4 := Lib.hid (HST3.out.below hb4)
  have HB4 := Lib.hid (HB3.out.trans (hb4.mono HB3.out.size))
  obtain ⟨W5, hW5⟩ : ∃ W5, W4.alloc (.cells #[.slice none 0 0, .int .i64 0] 38 (0, 0)) = W5 := ⟨_, rfl⟩
  obtain ⟨p, hp⟩ : ∃ p, W4.heap.size = p := ⟨_, rfl⟩
  have hb5 : Below W4.heap.size W4 W5 := hW5 ▸ (Below.refl _ _).alloc (Nat.le_refl _) _
  have hbx5 : W5.heap[p]? = some (.cells #[.slice none 0 0, .int .i64 0] 38 (0, 0)) := hp ▸ hW5 ▸ heap_alloc_new W4 _
  have HWS := Lib.hid (show WS W4 p (p + 1) [] W5 from ⟨⟨.slice none 0 0, [], by
    obtain ⟨y0, y1, yf⟩ := Tm.box2 hbx5
    exact Bw.Wr.fresh (by omega) (by rw [← hW5, ← hp]; simp) y0 y1 (yf 0) (yf 1), LaidL.nil⟩, hb5⟩)
  have q85 : W5.cell? ⟨g8, 0, none⟩ = some (.slice A3 k3 c3) := Tm.cell_below q8 hb5
  have HP := Lib.hid hp
  clear hIs hXl h30 h3c hb3 hb4 hb5 hbx5 hk3 HOF
  go_wp2_with fail
  clear hW4 hW5 hg8 hp
  refine (lay_any _ X p (p + 1) W4 W5 [] HST4.out (HTAB.out _ HB4.out) HXC.out (by have := HXL.out; omega) HWS.out (by have := HP.out; omega) (by simp)).mono ?_
  rintro e w6 ⟨rfl, hws6⟩
  rw [List.nil_append] at hws6
  obtain ⟨⟨v6, bs, hwr6, hla6⟩, hb6⟩ := hws6
  obtain ⟨L, hL⟩ : ∃ L, layT X = L := ⟨_, rfl⟩
  have HLL := Lib.hid (show L.length ≤ 10000 by have := layT_len X; have := HXL.out; rw [← hL]; omega)
  have hL0 : 0 < L.length := by rw [← hL]; unfold layT; rw [List.length_append]; have := codeL_pos X.length (by have := HXL.out; omega); omega
  have hsub : Tk.sub bs 0 L.length = L := by rw [← hL]; exact hla6.sub.2.2
  have hbb : L.length ≤ 8 * bs.length := by rw [← hL]; exact hla6.sub.1
  have hbl0 : 0 < bs.length := by omega
  have HBL0 := Lib.hid hbl0
  have HBB := Lib.hid hbb
  have HSUB := Lib.hid (show Tk.sub bs 0 (layT X).length = layT X by rw [hL]; exact hsub)
  have HEQ := Lib.hid hL
  rw [hL] at hwr6 hla6
  have HLA6 := Lib.hid hla6
  have HB8 := Lib.hid hla6.2.1
  have HBN := Lib.hid (show bs.length ≤ 10000 by have := hla6.1; have := HLL.out; omega)
  have HBY := Lib.hid (fun (W : World) (hb : Below w6.heap.size w6 W) => bytes_l v6 p (p + 1) L bs W (hwr6.below hb) hla6 (by have := HLL.out; omega))
  have HST6 := Lib.hid (HST4.out.below hb6)
  have HB6 := Lib.hid (HB4.out.trans (hb6.mono HB4.out.size))
  have HLY := Lib.hid (fun (W : World) (hb : Below w6.heap.size w6 W) => show Calls Tryd.prog 5 #[.agg #[.slice A3 k3 c3]] W fun e w' => e = .returned (.string (Tk.T L)) ∧ Below W.heap.size W w' from by
    rw [← HEQ.out]
    exact rlay_any _ X W (HST6.out.below hb) HXC.out (by have := HXL.out; omega))
  have HRB := Lib.hid (fun (W : World) => show Calls Tryd.prog 12 #[.string (Tk.T L)] W fun e w' => ∃ A c, e = .returned (.slice A bs.length c) ∧ Tk.Sl w' A c bs ∧ Below W.heap.size W w' from by
    refine (rbytes_any L W (by have := HLL.out; omega)).mono ?_
    rintro e w' ⟨A5, n5, c5, bs5, rfl, rfl, h1, h2, h3⟩
    obtain rfl := h2.inj HLA6.out
    exact ⟨A5, c5, rfl, h1, h3⟩)
  obtain ⟨TL, hTL⟩ : ∃ TL, Tk.T L = TL := ⟨_, rfl⟩
  rw [hTL] at HLY HRB
  obtain ⟨SX, hSX⟩ : ∃ SX, strB bs = SX := ⟨_, rfl⟩
  have q86 : w6.cell? ⟨g8, 0, none⟩ = some (.slice A3 k3 c3) := Tm.cell_below q8 hb6
  clear hwr6 hla6 hb6 hsub hbb hL hTL q8 q85 HST3 HST4 hL0
  have q8 := q86
  clear q86
  go_wp2_with fail
  refine Rg.wp_region_inv (R := fun sl v w => match sl with
      | 32 => v = .pointer (some ⟨p, 0, none⟩)
      | 33 => RowB bs v w
      | 34 => v = .string SX
      | 35 => v = .func (.func 5) #[] #[]
      | 36 => v = .agg #[.slice A3 k3 c3]
      | 37 => v = .string TL
      | 38 => RowB bs v w
      | 39 => v = .string SX
      | 40 => v = .bool false
      | _ => True) [32, 33, 34, 35, 36, 37, 38, 39, 40] 113 [false, false, false, false, false, false, false, false, false, false, false, false, false, false, false, false, false, false, false, false, false, false, false, false, false, false, false, false, false, false, false, false, true, true, true, true, true, true, true, true, true, false, false, false, false, false, false, false, false, false, false, false, false, false, false, false, false, false, false, false, false, false, false, false, false, false, false, false, false, false, false, false, false, false, false, false, false, false, false, false, false, false, false, false, false, false, false, false, false, false, false, false, false, false, false, false, false, false, false, false, false, false, false, false, false, false, false, false, false, false, false, false, false] (by kernel_rfl) rfl (by kernel_rfl) (by kernel_rfl) (by kernel_rfl) (by kernel_rfl) (by kernel_rfl) ?mono ?good ?done
  case mono =>
    refine List.forall_mem_cons.2 ⟨fun _ _ _ _ _ h => h, ?_⟩
    refine List.forall_mem_cons.2 ⟨fun _ _ _ _ hb h => RowB.below h hb, ?_⟩
    refine List.forall_mem_cons.2 ⟨fun _ _ _ _ _ h => h, ?_⟩
    refine List.forall_mem_cons.2 ⟨fun _ _ _ _ _ h => h, ?_⟩
    refine List.forall_mem_cons.2 ⟨fun _ _ _ _ _ h => h, ?_⟩
    refine List.forall_mem_cons.2 ⟨fun _ _ _ _ _ h => h, ?_⟩
    refine List.forall_mem_cons.2 ⟨fun _ _ _ _ hb h => RowB.below h hb, ?_⟩
    refine List.forall_mem_cons.2 ⟨fun _ _ _ _ _ h => h, ?_⟩
    refine List.forall_mem_cons.2 ⟨fun _ _ _ _ _ h => h, ?_⟩
    exact fun _ h => absurd h (by simp)
  case good =>
    refine Rg.good_cons ?_ ?_
    · intro ac w' cx hn
      have e9 := cx.at_ 9 (by kernel_rfl) rfl
      refine .inl ⟨(Rg.wanted_none rfl), fun K hK => ?_⟩
      go_simp
      exact hK _ _ (Below.refl _ _) (fun t ht => by injection ht with ht; subst ht; exact rfl)
    refine Rg.good_cons ?_ ?_
    · intro ac w' cx hn
      obtain ⟨v32, e32, r32⟩ := hn 32 (Rg.mem_of (by kernel_rfl))
      obtain rfl : v32 = .pointer (some ⟨p, 0, none⟩) := r32
      refine .inl ⟨(Rg.wanted_none rfl), fun K hK => ?_⟩
      go_simp
      refine (HBY.out _ cx.bel).mono ?_
      rintro y w5 ⟨A5, c5, rfl, hs5, hb5⟩
      exact hK _ _ hb5 (fun t ht => by injection ht with ht; subst ht; exact ⟨A5, c5, rfl, hs5⟩)
    refine Rg.good_cons ?_ ?_
    · intro ac w' cx hn
      obtain ⟨v33, e33, r33⟩ := hn 33 (Rg.mem_of (by kernel_rfl))
      replace r33 : RowB bs v33 w' := r33
      refine .inl ⟨(Rg.wanted_none rfl), fun K hK => ?_⟩
      obtain ⟨A33, c33, rfl, s33⟩ := r33
      have hcv := sl_string w' A33 c33 bs s33 hbl0
      rw [hSX] at hcv
      go_simp
      exact hK _ _ (Below.refl _ _) (fun t ht => by injection ht with ht; subst ht; exact rfl)
    refine Rg.good_cons ?_ ?_
    · intro ac w' cx hn
      have e7 := cx.at_ 7 (by kernel_rfl) rfl
      refine .inl ⟨(Rg.wanted_none rfl), fun K hK => ?_⟩
      go_simp
      exact hK _ _ (Below.refl _ _) (fun t ht => by injection ht with ht; subst ht; exact rfl)
    refine Rg.good_cons ?_ ?_
    · intro ac w' cx hn
      have e8 := cx.at_ 8 (by kernel_rfl) rfl
      refine .inl ⟨(Rg.wanted_none rfl), fun K hK => ?_⟩
      have hx := Tm.cell_below q8 cx.bel
      go_simp
      exact hK _ _ (Below.refl _ _) (fun t ht => by injection ht with ht; subst ht; exact rfl)
    refine Rg.good_cons ?_ ?_
    · intro ac w' cx hn
      obtain ⟨v35, e35, r35⟩ := hn 35 (Rg.mem_of (by kernel_rfl))
      obtain rfl : v35 = .func (.func 5) #[] #[] := r35
      obtain ⟨v36, e36, r36⟩ := hn 36 (Rg.mem_of (by kernel_rfl))
      obtain rfl : v36 = .agg #[.slice A3 k3 c3] := r36
      refine .inl ⟨(Rg.wanted_none rfl), fun K hK => ?_⟩
      go_simp
      refine (HLY.out _ cx.bel).mono ?_
      rintro y w5 ⟨rfl, hb5⟩
      exact hK _ _ hb5 (fun t ht => by injection ht with ht; subst ht; exact rfl)
    refine Rg.good_cons ?_ ?_
    · intro ac w' cx hn
      obtain ⟨v37, e37, r37⟩ := hn 37 (Rg.mem_of (by kernel_rfl))
      obtain rfl : v37 = .string TL := r37
      refine .inl ⟨(Rg.wanted_none rfl), fun K hK => ?_⟩
      go_simp
      refine (HRB.out _).mono ?_
      rintro y w5 ⟨A5, c5, rfl, hs5, hb5⟩
      exact hK _ _ hb5 (fun t ht => by injection ht with ht; subst ht; exact ⟨A5, c5, rfl, hs5⟩)
    refine Rg.good_cons ?_ ?_
    · intro ac w' cx hn
      obtain ⟨v38, e38, r38⟩ := hn 38 (Rg.mem_of (by kernel_rfl))
      replace r38 : RowB bs v38 w' := r38
      refine .inl ⟨(Rg.wanted_none rfl), fun K hK => ?_⟩
      obtain ⟨A38, c38, rfl, s38⟩ := r38
      have hcv := sl_string w' A38 c38 bs s38 hbl0
      rw [hSX] at hcv
      go_simp
      exact hK _ _ (Below.refl _ _) (fun t ht => by injection ht with ht; subst ht; exact rfl)
    refine Rg.good_cons ?_ ?_
    · intro ac w' cx hn
      obtain ⟨v34, e34, r34⟩ := hn 34 (Rg.mem_of (by kernel_rfl))
      obtain rfl : v34 = .string SX := r34
      obtain ⟨v39, e39, r39⟩ := hn 39 (Rg.mem_of (by kernel_rfl))
      obtain rfl : v39 = .string SX := r39
      refine .inl ⟨(Rg.wanted_none rfl), fun K hK => ?_⟩
      go_simp
      exact hK _ _ (Below.refl _ _) (fun t ht => by injection ht with ht; subst ht; exact rfl)
    exact Rg.good_nil
  case done =>
    intro u w10 hb10 hr
    have q40 : u 40 = .bool false := hr 40 (by simp)
    simp only [Rg.fillL_cons, Rg.fillL_nil, if_true, if_false, Bool.false_eq_true, q40]
    have HB10 := Lib.hid hb10
    clear hr hb10 q40
    clear hSX HLY HRB
    have D10 := Lib.hid (HB6.out.trans (HB10.out.mono HB6.out.size))
    go_wp2_with fail
    refine (HBY.out _ HB10.out).mono ?_
    rintro e w11 ⟨A11, c11, rfl, hs11, hb11⟩
    have C11 := Lib.hid (HB10.out.trans (hb11.mono HB10.out.size))
    have HRD := Lib.hid (Tk.read_any A11 bs.length c11 bs w11 hs11 rfl (by have := HBN.out; omega))
    clear hs11 hb11 HB10 HBY
    go_wp2_with fail
    refine HRD.out.mono ?_
    rintro e w12 ⟨q, a12, c12, rfl, hrd12, hq12, hb12⟩
    have C12 := Lib.hid (C11.out.trans (hb12.mono C11.out.size))
    have D12 := Lib.hid (HB6.out.trans (C12.out.mono HB6.out.size))
    have Q12 := Lib.hid (show w6.heap.size ≤ q from Nat.le_trans C11.out.size hq12)
    have QZ := Lib.hid (show q ≠ 0 by have := Q12.out; have := HZ.out; have := HB6.out.size; omega)
    have HTK := Lib.hid (take_any 60 q bs.length c12 a12 bs w12 hrd12 (HTAB.out _ D12.out) QZ.out (by omega) (by omega))
    clear hrd12 hq12 hb12 HRD
    go_wp2_with fail
    refine HTK.out.mono ?_
    rintro e w13 ⟨v13, rfl, hst13, hrd13, hstep13⟩
    have htk : takeF bs 60 (0, 0) = (X, (L.length, 0)) := by
      rw [← HEQ.out]
      exact takeF_back HB8.out HXC.out (by have := HXL.out; omega) (by have := HXL.out; omega) (by rw [HEQ.out]; exact HBB.out) HSUB.out
    rw [htk] at hst13 hrd13
    obtain ⟨A13, d13, rfl, h130, h13c⟩ := hst13
    rw [HK3.out]
    have C13 := Lib.hid (step_below hstep13 C12.out Q12.out)
    obtain ⟨W14, hW14⟩ : ∃ W14, w13.alloc (.cells #[.slice A13 k3 d13] 27 (0, 0)) = W14 := ⟨_, rfl⟩
    obtain ⟨g11, hg11⟩ : ∃ g11, w13.heap.size = g11 := ⟨_, rfl⟩
    have hb14 : Below w13.heap.size w13 W14 := hW14 ▸ (Below.refl _ _).alloc (Nat.le_refl _) _
    have q11 : W14.cell? ⟨g11, 0, none⟩ = some (.slice A13 k3 d13) := by rw [← hW14, ← hg11, cell_of_row _ _ _ _ _ _ (heap_alloc_new w13 _)]; rfl
    have HST14 := Lib.hid (show Tm.St W14 (.agg #[.slice A13 k3 d13]) X from ⟨A13, d13, by rw [HK3.out], h130, h13c.below hb14⟩)
    have C14 := Lib.hid (C13.out.trans (hb14.mono C13.out.size))
    have q84 : W14.cell? ⟨g8, 0, none⟩ = some (.slice A3 k3 c3) := Tm.cell_below q8 C14.out
    have HRD14 := Lib.hid (rd_below hrd13 hb14)
    have HSM := Lib.hid (Tm.same_any (.agg #[.slice A3 k3 c3]) (.agg #[.slice A13 k3 d13]) X X W14 (HST6.out.below C14.out) HST14.out (by have := HXL.out; omega) (by have := HXL.out; omega))
    have D14 := Lib.hid (HB6.out.trans (C14.out.mono HB6.out.size))
    rw [Tm.eqL_self] at HSM
    clear hrd13 hstep13 htk h130 h13c hb14 HTK q8
    go_wp2_with fail
    clear hW14 hg11
    refine HSM.out.mono ?_
    rintro e w15 ⟨rfl, hb15⟩
    have HEN := Lib.hid (end_any q bs.length c12 L.length (valB L) a12 bs w15 (rd_below HRD14.out hb15) HLA6.out HBL0.out)
    have D15 := Lib.hid (D14.out.trans (hb15.mono D14.out.size))
    clear hb15 q11 q84
    go_wp2_with fail
    refine HEN.out.mono ?_
    rintro e w16 ⟨rfl, hb16⟩
    have D16 := Lib.hid (D15.out.trans (hb16.mono D15.out.size))
    clear hb16 HEN HSM hbl0
    go_wp2_with fail
    refine (Tk.read_any B m d bb w16 (sl_below HSB.out D16.out) HNM.out.2 (by have := HLB.out; omega)).mono ?_
    rintro e w17 ⟨q2, a17, c17, rfl, hrd17, hq17, hb17⟩
    have D17 := Lib.hid (D16.out.trans (hb17.mono D16.out.size))
    have Q17 := Lib.hid (show w.heap.size ≤ q2 from Nat.le_trans D16.out.size hq17)
    have QZ2 := Lib.hid (show q2 ≠ 0 by have := Q17.out; have := HZ.out; omega)
    obtain ⟨hmo0, hmo1⟩ := HM0.out
    have HB8b := Lib.hid hrd17.byte
    have HLEN := Lib.hid hrd17.len
    have HTK := Lib.hid (take_any most q2 m c17 a17 bb w17 hrd17 (HTAB.out _ D17.out) QZ2.out (by omega) hmo0)
    clear hrd17 hq17 hb17
    go_wp2_with fail
    refine HTK.out.mono ?_
    rintro e w18 ⟨v18, rfl, hst18, hrd18, hstep18⟩
    obtain ⟨ZS, hZS⟩ : ∃ ZS, takeF bb most (0, 0) = ZS := ⟨_, rfl⟩
    rw [hZS] at hst18 hrd18
    have HZS := Lib.hid hZS
    obtain ⟨Z, s18, x18⟩ := ZS
    simp only at hst18 hrd18
    obtain ⟨A18, d18, rfl, h180, h18c⟩ := hst18
    have D18 := Lib.hid (step_below hstep18 D17.out Q17.out)
    obtain ⟨kz, hkz⟩ : ∃ kz, Z.length = kz := ⟨_, rfl⟩
    rw [hkz]
    have HKZ := Lib.hid hkz
    obtain ⟨W19, hW19⟩ : ∃ W19, w18.alloc (.cells #[.slice A18 kz d18] 27 (0, 0)) = W19 := ⟨_, rfl⟩
    obtain ⟨g12, hg12⟩ : ∃ g12, w18.heap.size = g12 := ⟨_, rfl⟩
    have hb19 : Below w18.heap.size w18 W19 := hW19 ▸ (Below.refl _ _).alloc (Nat.le_refl _) _
    have q12 : W19.cell? ⟨g12, 0, none⟩ = some (.slice A18 kz d18) := by rw [← hW19, ← hg12, cell_of_row _ _ _ _ _ _ (heap_alloc_new w18 _)]; rfl
    have HST19 := Lib.hid (show Tm.St W19 (.agg #[.slice A18 kz d18]) Z from ⟨A18, d18, by rw [hkz], h180, h18c.below hb19⟩)
    have D19 := Lib.hid (D18.out.trans (hb19.mono D18.out.size))
    have HRD19 := Lib.hid (rd_below hrd18 hb19)
    clear hZS hrd18 hstep18 hkz h180 h18c hb19 HTK
    go_wp2_with fail
    clear hW19 hg12
    refine (Tk.err_any q2 m c17 a17 bb (s18, x18) _ HRD19.out).mono ?_
    rintro e w19' ⟨rfl, rfl⟩
    dsimp only
    by_cases hx : x18 = 0
    case neg =>
      have hx2 : (x18 != 0) = true := by simpa using hx
      have hZ0 : Z = [] := by
        have := takeF_no (bs := bb) (m := most) (by rw [HZS.out]; exact hx)
        rw [HZS.out] at this
        exact this
      subst hZ0
      clear hx
      go_wp2_with fail
      refine (Tm.awake14 _).mono ?_
      rintro e w20 ⟨rfl, hb20⟩
      have q20 := Tm.cell_below q12 hb20
      have HST20 := Lib.hid (HST19.out.below hb20)
      have D20 := Lib.hid (D19.out.trans (hb20.mono D19.out.size))
      clear hb20 q12
      go_wp2_with fail
      refine (Tm.empty_any _ [] w20 HST20.out).mono ?_
      rintro e w21 ⟨rfl, hb21⟩
      have D21 := Lib.hid (D20.out.trans (hb21.mono D20.out.size))
      clear hb21
      go_wp2_with fail
      go_ret
      exact ⟨rfl, D21.out⟩
    subst hx
    obtain ⟨Z', hz1, hzc, hzm, hzl, hzs⟩ := takeF_ok HB8b.out (m := most) (by rw [HZS.out])
    rw [HZS.out] at hz1
    injection hz1 with hz1 hz2
    injection hz2 with hz2 _
    subst hz1 hz2
    have hkm : (kz : Int) ≤ most := by rw [← HKZ.out]; exact hzm
    have hz255 : Z.length ≤ 255 := by omega
    obtain ⟨N13, hN13⟩ : ∃ N13, (layT Z).length = N13 := ⟨_, rfl⟩
    rw [hN13] at hzl hzs
    have hle : N13 ≤ 8 * m := by rw [HLEN.out]; exact hzl
    have htake : (Tk.textL bb).take N13 = layT Z := by
      have := hzs
      unfold Tk.sub at this
      rw [List.drop_zero, Nat.sub_zero] at this
      exact this
    have HLY := Lib.hid (rlay_any _ Z W19 HST19.out hzc (by omega))
    have HTX := Lib.hid (fun (W : World) (hb : Below w.heap.size w W) => Tk.reftext_any B m d bb W (sl_below HSB.out hb).2.2.2 HNM.out.2 (by have := HLB.out; omega))
    have hext := T_ext (Tk.textL bb) N13
    rw [htake] at hext
    have hs13 : (Tk.T (layT Z)).size = N13 := by rw [Tk.T_size]; exact hN13
    have hs14 : (Tk.T (Tk.textL bb)).size = 8 * m := by rw [Tk.T_size, Tk.textL_length, HLEN.out]
    obtain ⟨S13, hS13⟩ : ∃ S13, Tk.T (layT Z) = S13 := ⟨_, rfl⟩
    obtain ⟨S14, hS14⟩ : ∃ S14, Tk.T (Tk.textL bb) = S14 := ⟨_, rfl⟩
    rw [hS13] at HLY hext hs13
    rw [hS14] at HTX hext hs14
    obtain ⟨N14, hN14⟩ : ∃ N14, 8 * m = N14 := ⟨_, rfl⟩
    rw [hN14] at hs14 hle
    have hdl : ((m : Int) * 8 - (N13 : Int) == (N14 : Int) - (N13 : Int)) = true := by simp; omega
    have hi13 : (N13 : Int) ≤ (N14 : Int) := by omega
    have hb13 : (N14 : Int) ≤ 100000 := by have := HLB.out; have := HLEN.out; omega
    rw [hN13] at HRD19
    have HZC := Lib.hid hzc
    have HZL := Lib.hid hz255
    clear hzm hzl hzs htake hzc hz255 hN13 hS13 hS14 hN14 hle
    go_wp2_with fail
    refine HLY.out.mono ?_
    rintro e w20 ⟨rfl, hb20⟩
    have q20 := Tm.cell_below q12 hb20
    have HST20 := Lib.hid (HST19.out.below hb20)
    have D20 := Lib.hid (D19.out.trans (hb20.mono D19.out.size))
    have HRD20 := Lib.hid (rd_below HRD19.out hb20)
    clear hb20 q12
    go_wp2_with fail
    refine (HTX.out _ D20.out).mono ?_
    rintro e w20' ⟨rfl, rfl⟩
    go_wp2_with fail
    refine (Tm.awake14 _).mono ?_
    rintro e w21 ⟨rfl, hb21⟩
    have q21 := Tm.cell_below q20 hb21
    have HST21 := Lib.hid (HST20.out.below hb21)
    have D21 := Lib.hid (D20.out.trans (hb21.mono D20.out.size))
    have HRD21 := Lib.hid (rd_below HRD20.out hb21)
    clear hb21 q20
    go_wp2_with fail
    refine (Tm.ranges_any _ Z w21 HST21.out (by have := HZL.out; omega)).mono ?_
    rintro e w22 ⟨A22, c22, rfl, hown22, hb22⟩
    have HCL22 := Lib.hid (Tm.own_cl hown22)
    have q22 := Tm.cell_below q21 hb22
    have HST22 := Lib.hid (HST21.out.below hb22)
    have D22 := Lib.hid (D21.out.trans (hb22.mono D21.out.size))
    have HRD22 := Lib.hid (rd_below HRD21.out hb22)
    rw [HKZ.out]
    clear hown22 hb22 q21
    go_wp2_with fail
    refine (Tm.apart_any A22 kz c22 Z w22 HKZ.out.symm HCL22.out HZC.out (by have := HZL.out; omega)).mono ?_
    rintro e w23 ⟨rfl, hb23⟩
    have q23 := Tm.cell_below q22 hb23
    have HST23 := Lib.hid (HST22.out.below hb23)
    have D23 := Lib.hid (D22.out.trans (hb23.mono D22.out.size))
    have HRD23 := Lib.hid (rd_below HRD22.out hb23)
    clear hb23 q22
    go_wp2_with fail
    refine (Tm.ranges_any _ Z w23 HST23.out (by have := HZL.out; omega)).mono ?_
    rintro e w24 ⟨A24, c24, rfl, hown24, hb24⟩
    rw [HKZ.out]
    have D24 := Lib.hid (D23.out.trans (hb24.mono D23.out.size))
    have HRD24 := Lib.hid (rd_below HRD23.out hb24)
    clear hown24 hb24 q23
    go_wp2_with fail
    refine (Tk.left_any q2 m c17 a17 bb (N13, 0) w24 HRD24.out).mono ?_
    rintro e w25 ⟨rfl, nq, rfl⟩
    dsimp only
    go_wp2_with fail
    go_ret
    exact ⟨rfl, by (repeat apply Tm.below_drewN); exact D24.out⟩
theorem tombLays_walk (A B : Option Addr) (n m c d : Nat) (a : List Tm.Rg) (bb : List Nat) (most : Int) (w : World) (hn : n = a.length) (hm : m = bb.length) (hA : Tm.Cl w A (Tm.twoC .i64 a)) (hB : Tk.Sl w B d bb) (hT : Tk.Tab w) (zn : a.length ≤ 9223372036854775807) (zm : bb.length ≤ 9223372036854775807) (hm0 : 0 ≤ most) (hm1 : most ≤ 255) :
    Calls Tryd.prog 3 #[.slice A n c, .slice B m d, .int .u8 most] w fun e w' => e = .returned (.bool true) ∧ Below w.heap.size w w' := by
  by_cases hl : a.length ≤ 60
  · by_cases hk : bb.length ≤ 300
    · exact lays_main A B n m c d a bb most w hn hm hA hB hT hl hk hm0 hm1
    · exact lays_long A B n m c d most w (by omega) (by omega) (.inr (by omega))
  · exact lays_long A B n m c d most w (by omega) (by omega) (.inl (by omega))
end Go.Proofs.YtbnbammgjmeicaaDoor.Tl
