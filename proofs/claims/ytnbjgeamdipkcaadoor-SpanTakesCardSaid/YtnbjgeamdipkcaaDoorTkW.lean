/- The contract of span.Take: of any bytes only a layout that is right, or none; and its bits are what was read. -/
import Derived.Test.YtnbjgeamdipkcaaDoorTkS
namespace Go.Proofs.YtnbjgeamdipkcaaDoor
open Go.RowKit Go.Sort
set_option linter.unusedVariables false

theorem small_at (m : Nat) (mi : Int) (hmi : mi = (m : Int)) (q l c : Nat) (a : Option Addr) (bs : List Nat) (s : Nat × Int) (w : World) (h : Rd w q a l c bs s) (hT : Tab w) (hq : q ≠ 0) (hm : m ≤ 1000000) :
    Calls Tryd.prog 14 #[.pointer (some ⟨q, 0, none⟩), .int .i64 mi] w (TakePost q a l c bs (.int .i64 (((smallF bs m s).1 : Nat) : Int)) (smallF bs m s).2 w) := by
  subst hmi
  exact small_any m q l c a bs s w h hT hq hm
theorem sb_snoc {L : List (Int × Int)} {o n : Int} (h : Sb L) (ho : I64 o) (hn : I64 n) : Sb (L ++ [(o, n)]) := by
  intro p hp
  rcases List.mem_append.1 hp with hp | hp
  · exact h p hp
  · simp at hp; subst hp; exact ⟨ho, hn⟩
/-- what Take leaves -/
def TakeOut (w : World) (q : Nat) (a : Option Addr) (l c : Nat) (bs : List Nat) (M : Int) (e : Ending) (w' : World) : Prop :=
  ∃ f A d L s, e = .returned (.agg #[.int .i64 f, .slice A (L : List (Int × Int)).length d]) ∧ Cl w' A (twoC .i64 L) ∧ Step q none w w' ∧ Rd w' q a l c bs s ∧ (L = [] → f = 0) ∧ (L ≠ [] → s.2 = 0 ∧ rightF f L M = true ∧ sub bs 0 s.1 = layL f L)
def TkRel (w : World) (q : Nat) (a : Option Addr) (l c : Nat) (bs : List Nat) (n : Nat) (i : Value) (wr : World) : Prop :=
  ∃ (k : Nat) (s : Nat × Int) (f : Int) (A : Option Addr) (d : Nat) (L : List (Int × Int)), i = .int .i64 (k : Int) ∧ k ≤ n ∧ L.length = k ∧ LSt w wr q a l c bs s f A d L ∧
    (0 < n → s.2 = 0 ∧ s.1 ≤ 8 * bs.length ∧ TxT bs n f L s.1) ∧ (L = [] → f = 0) ∧ Sb L ∧ I64 f

set_option maxHeartbeats 2000000 in
set_option maxRecDepth 100000 in
theorem take_any (M0 : Nat) (Mi : Int) (hMi : Mi - 1 = (M0 : Int)) (hM0 : M0 ≤ 1000) (q l c : Nat) (a : Option Addr) (bs : List Nat) (w : World) (h : Rd w q a l c bs (0, 0)) (hT : Tab w) (hq0 : q ≠ 0) :
    Calls Tryd.prog 6 #[.pointer (some ⟨q, 0, none⟩), .int .i64 Mi] w (TakeOut w q a l c bs Mi) := by
  have hqw := h.qw
  have hz : 0 < w.heap.size := hT.pos
  have HB8 := Lib.hid h.byte
  have hmax : max Mi 1 = Mi := by omega
  have HTAB := Lib.hid (fun (W : World) (st : Step q none w W) => hT.step st hz hq0 (by simp))
  have hsrc : 0 < l → ∀ r o, a = some ⟨r, o, none⟩ → r < w.heap.size := fun h0 r o e => by
    obtain ⟨r', o', e', hr, hc⟩ := h.lies h0
    have hl : 0 < bs.length := by rw [← h.len]; exact h0
    have := block_lt_of_cell (hc 0 _ (List.getElem?_eq_getElem hl))
    rw [e'] at e
    simp at e
    rw [← e.1]
    exact this
  have hL0 : LSt w ((w.alloc (.cells #[.int .i64 0, .slice none 0 0] 29)).alloc (.cells #[.int .i64 0, .slice none 0 0] 29)) q a l c bs (0, 0) 0 none 0 [] := by
    have hb : Below w.heap.size w ((w.alloc (.cells #[.int .i64 0, .slice none 0 0] 29)).alloc (.cells #[.int .i64 0, .slice none 0 0] 29)) := ((Below.refl _ _).alloc (Nat.le_refl _) _).alloc (by simp) _
    refine ⟨h.elsewhere hsrc hqw hb, ?_, World.ownsRow_nil _ _ _ _, ?_, (Step.refl q none w).more hb, hqw, hsrc⟩
    · have := heap_alloc_new (w.alloc (.cells #[.int .i64 0, .slice none 0 0] 29)) (.cells #[.int .i64 0, .slice none 0 0] 29)
      simpa using this
    · rw [Below.heap_alloc _ _ _ (by simp)]; exact heap_alloc_new w _
  have HZERO := Lib.hid (fun (W : World) (s : Nat × Int) {f : Int} {A : Option Addr} {d : Nat} {L : List (Int × Int)} (hl : LSt w W q a l c bs s f A d L) =>
    show TakeOut w q a l c bs Mi (.returned (.agg #[.int .i64 0, .slice none 0 0])) ((W.setCell ⟨w.heap.size, 0, none⟩ (.int .i64 0)).setCell ⟨w.heap.size, 1, none⟩ (.slice none 0 0)) from by
      have hb0 : Below w.heap.size W (W.setCell ⟨w.heap.size, 0, none⟩ (.int .i64 0)) := (Below.refl _ _).setCell (by simp) _
      have hb : Below w.heap.size W ((W.setCell ⟨w.heap.size, 0, none⟩ (.int .i64 0)).setCell ⟨w.heap.size, 1, none⟩ (.slice none 0 0)) := hb0.setCell (by simp) _
      exact ⟨0, none, 0, [], s, rfl, Cl.nil _ _, hl.step.more hb, hl.rd.elsewhere hl.src hl.qlt hb, fun _ => rfl, fun e => absurd rfl e⟩)
  have HMI := Lib.hid hMi
  obtain ⟨n, s1, hn⟩ : ∃ n s1, smallF bs (M0 + 1) (0, 0) = (n, s1) := ⟨_, _, rfl⟩
  have hnl : n ≤ M0 + 1 := by have := smallF_le bs (M0 + 1) (0, 0); rw [hn] at this; exact this
  have HTX0 := Lib.hid (show 0 < n → s1.2 = 0 ∧ s1.1 ≤ 8 * bs.length ∧ TxT bs n 0 [] s1.1 from fun h0 => by
    have h1 : (smallF bs (M0 + 1) (0, 0)).2.2 = 0 := by
      have e := hn
      unfold smallF at e ⊢
      by_cases c1 : (countF bs (0, 0)).2.2 ≠ 0
      · rw [if_neg (by simp), if_pos c1] at e; simp at e; omega
      · rw [if_neg (by simp), if_neg c1] at e ⊢
        by_cases c2 : M0 + 1 < (countF bs (0, 0)).1
        · rw [if_pos c2] at e; simp at e; omega
        · rw [if_neg c2]; exact Decidable.not_not.1 c1
    obtain ⟨_, u, e1, e2, e3, e4⟩ := smallF_ok HB8.out h1 (Nat.zero_le _)
    rw [hn] at e1 e4
    simp only at e1 e4
    rw [e1]
    exact ⟨rfl, e3, by unfold TxT; rw [e4]; simp⟩)
  have HN := Lib.hid hn
  have HL0 := Lib.hid hL0
  have hqlt := hqw
  have HQ := Lib.hid hqw
  clear h hT hMi hL0 hsrc hn hqw hqlt
  have hmi9 : Mi ≤ 1001 := by have := HMI.out; omega
  go_enter Tryd.func6, Tryd.ntmps6
  go_wp2_with fail
  refine (small_at (M0 + 1) _ (by have := HMI.out; omega) q l c a bs (0, 0) _ HL0.out.rd (HTAB.out _ HL0.out.step) hq0 (by omega)).mono ?_
  rintro e w3 ⟨rfl, r1, r2⟩
  rw [HN.out] at r1 ⊢
  dsimp only at r1 ⊢
  have HL1 := Lib.hid (show LSt w w3 q a l c bs s1 0 none 0 [] from by
    obtain ⟨k1, k2, k3, k4, k5, k6, k7⟩ := HL0.out
    have hsz := k5.size
    have hb : ∀ k, w.heap.size ≤ k → k < ((w.alloc (.cells #[.int .i64 0, .slice none 0 0] 29)).alloc (.cells #[.int .i64 0, .slice none 0 0] 29)).heap.size → w3.heap[k]? = ((w.alloc (.cells #[.int .i64 0, .slice none 0 0] 29)).alloc (.cells #[.int .i64 0, .slice none 0 0] 29)).heap[k]? := fun k hk hl => r2.block k hl (by omega) (by simp)
    exact ⟨r1, (hb _ (by omega) (by simp)).trans k2, World.ownsRow_nil _ _ _ _, (hb _ (Nat.le_refl _) (by simp; omega)).trans k4, k5.trans0 r2, k6, k7⟩)
  clear r1 r2
  go_wp2_with fail
  go_loopw [13] (fun i wr => TkRel w q a l c bs n i wr) (fun i _ => n - (intOf i).toNat)
  case atStart => exact ⟨0, s1, 0, none, 0, [], rfl, Nat.zero_le _, rfl, HL1.out, HTX0.out, fun _ => rfl, fun p hp => by simp at hp, ⟨by omega, by omega⟩⟩
  case round =>
    obtain ⟨k, s, f, A, d, L, rfl, hk, hLk, hst, htx, hf0, hsb, hfb⟩ := hrel
    have HST := Lib.hid hst
    have HSB := Lib.hid hsb
    have HLK := Lib.hid hLk
    have hlL : L.length ≤ 1001 := by omega
    by_cases hlt : k < n
    · obtain ⟨hs0, hs8, ht3⟩ := htx (by omega)
      obtain ⟨u, x⟩ := s
      dsimp only at hs0 hs8 ht3
      subst hs0
      have HT1 := Lib.hid hst.begin
      obtain ⟨gS, hgS⟩ : ∃ g, wr.heap.size = g := ⟨_, rfl⟩
      obtain ⟨W1, hW1⟩ : ∃ W, wr.alloc (.cells #[.int .i64 0, .int .i64 0] 44) = W := ⟨_, rfl⟩
      rw [hW1, hgS] at HT1
      have HW1 := Lib.hid hW1
      have HGS := Lib.hid hgS
      have hL9 : L.length ≤ 1001 := by omega
      clear hst hsb hW1 hgS htx hf0
      by_cases h0 : k = 0
      · obtain rfl : L = [] := List.eq_nil_of_length_eq_zero (by omega)
        have h0' : ((k : Int) == 0) = true := by simp; exact h0
        clear hLk
        obtain ⟨m, S2, hm⟩ : ∃ m S2, countF bs (u, 0) = (m, S2) := ⟨_, _, rfl⟩
        have hm64 : m ≤ 18446744073709551615 := by have := countF_u64 bs (u, 0); rw [hm] at this; exact this
        have hzb := zag_bd (c := (m : Int)) (by omega) (by omega)
        obtain ⟨O2, hO2⟩ : ∃ O : Int, O = 0 := ⟨0, rfl⟩
        have HTX := Lib.hid (fun (v u3 : Nat) (hv : smallF bs M0 S2 = (v, (u3, 0))) => show u3 ≤ 8 * bs.length ∧ TxT bs n (zagv (m : Int)) ([] ++ [(O2, (v : Int) + 1)]) u3 from by
          rw [hO2]
          have hs : (smallF bs M0 S2).2.2 = 0 := by rw [hv]
          have hS20 : S2.2 = 0 := by
            unfold smallF at hs
            by_cases c0 : S2.2 ≠ 0
            · rw [if_pos c0] at hs; exact hs
            · exact Decidable.not_not.1 c0
          obtain ⟨_, u1, e1, e2, e3, e4⟩ := countF_ok HB8.out (s := (u, 0)) (by rw [hm]; exact hS20) hs8
          rw [hm] at e1 e4
          simp only at e1 e2 e4
          subst e1
          obtain ⟨_, u2, b1, b2, b3, b4⟩ := smallF_ok HB8.out hs e3
          rw [hv] at b1 b4
          simp only at b1 b2 b4
          obtain rfl : u3 = u2 := by simpa using b1
          exact ⟨b3, ht3.first e2 b2 e4 b4⟩)
        obtain ⟨F2, hF2⟩ : ∃ F, zagv (m : Int) = F := ⟨_, rfl⟩
        rw [hF2] at hzb HTX
        have HF2 := Lib.hid (show I64 F2 from hzb)
        have HM := Lib.hid hm
        have HFE := Lib.hid hF2
        have HO2 := Lib.hid (show I64 O2 by rw [hO2]; exact ⟨by omega, by omega⟩)
        have HOE := Lib.hid hO2
        clear hm hzb hF2 ht3 hO2
        go_wp2_with fail
        simp only [HW1.out, HGS.out]
        refine (int_any q l c a bs (u, 0) _ HT1.out.rest.rd (HTAB.out _ HT1.out.rest.step) hq0).mono ?_
        rintro e w4 ⟨rfl, r4, st4⟩
        rw [HM.out] at r4 ⊢
        dsimp only at r4 ⊢
        rw [HFE.out]
        have HTa := Lib.hid (HT1.out.call r4 st4)
        obtain ⟨x0, x1, xf⟩ := box2 HTa.out.rest.box
        have xf0 := xf 0
        clear r4 st4 xf
        go_wp2_with fail
        have HT2 := Lib.hid (show TSt w (w4.setCell ⟨w.heap.size + 1, 0, none⟩ (.int .i64 F2)) gS q a l c bs S2 F2 A d [] O2 0 from by rw [HOE.out]; exact HTa.out.putF F2)
        obtain ⟨W2, hW2⟩ : ∃ W, w4.setCell ⟨w.heap.size + 1, 0, none⟩ (.int .i64 F2) = W := ⟨_, rfl⟩
        rw [hW2] at HT2 ⊢
        clear hW2 x0 x1 xf0
        simp only [HMI.out]
        have T2b := HT2.out.rest.box
        obtain ⟨y0, y1, yf⟩ := box2 HT2.out.sbox
        obtain ⟨g1, g2⟩ := HT2.out.lt
        clear T2b y0 y1 yf
        refine (small_at M0 _ rfl q l c a bs _ _ HT2.out.rest.rd (HTAB.out _ HT2.out.rest.step) hq0 (by omega)).mono ?_
        rintro e w5 ⟨rfl, r5, st5⟩
        obtain ⟨v, s3, hv⟩ : ∃ v s3, smallF bs M0 S2 = (v, s3) := ⟨_, _, rfl⟩
        have hvl : v ≤ M0 := by have := smallF_le bs M0 S2; rw [hv] at this; exact this
        have HV := Lib.hid hv
        rw [hv] at r5 ⊢
        dsimp only at r5 ⊢
        have HT3 := Lib.hid (HT2.out.call r5 st5)
        obtain ⟨y0, y1, yf⟩ := box2 HT3.out.sbox
        have yf1 := yf 1
        have hv9 : v ≤ 1000000 := by omega
        clear hv r5 st5 yf
        go_wp2_with fail
        have HT4 := Lib.hid (HT3.out.put 1 ((v : Int) + 1) O2 ((v : Int) + 1) rfl)
        obtain ⟨W4, hW4⟩ : ∃ W, w5.setCell ⟨gS, 1, none⟩ (.int .i64 ((v : Int) + 1)) = W := ⟨_, rfl⟩
        rw [hW4] at HT4 ⊢
        clear hW4 y0 y1 yf1
        refine (err_any q l c a bs s3 _ HT4.out.rest.rd).mono ?_
        rintro e w6 ⟨rfl, rfl⟩
        obtain ⟨u3, x3⟩ := s3
        dsimp only
        by_cases hx3 : x3 = 0
        · subst hx3
          obtain ⟨x0, x1, xf⟩ := box2 HT4.out.rest.box
          have xf1 := xf 1
          obtain ⟨y0, y1, yf⟩ := box2 HT4.out.sbox
          have hgl : w.heap.size + 2 ≤ W4.heap.size := by have := HT4.out.lt; omega
          have hl9 : ([] : List (Int × Int)).length + 1 ≤ 1000000 := by omega
          clear xf yf
          go_wp2_with (at_builtin; refine app_span rfl _ _ rfl (w.heap.size + 2) _ _ _ [] rfl (HT4.out.rest.own.alloc _) _ rfl (O2, (v : Int) + 1) (new_two _ _ _ _).1 (new_two _ _ _ _).2 hl9 ?d1 ?_)
          case d1 => simp; omega
          intro A3 d3 w7 ho7 hg7
          have HNX := Lib.hid (HT4.out.next ho7 hg7)
          have hk7 := keep_app HT4.out.rest.own HT4.out.rest.box (by decide) hg7
          obtain ⟨z0, z1, zf⟩ := box2 hk7
          have zf1 := zf 1
          have HFIN := Lib.hid (HTX.out v u3 HV.out)
          clear ho7 hg7 hk7 zf x0 x1 xf1 y0 y1
          go_wp2_with fail
          go_roundw
          case rel => exact ⟨k + 1, (u3, 0), F2, A3, d3, [] ++ [(O2, (v : Int) + 1)], by go_num, by omega, by have := HLK.out; simp at this ⊢; omega, HNX.out, fun _ => ⟨rfl, HFIN.out.1, HFIN.out.2⟩, fun e => absurd e (by simp), sb_snoc HSB.out HO2.out ⟨by omega, by omega⟩, HF2.out⟩
          case measure => simp [intOf]; omega
        · have hx3' : (x3 != 0) = true := by simpa using hx3
          obtain ⟨z0, z1, zf⟩ := box2 HT4.out.rest.res
          have zf0 := zf 0
          have zf1 := zf 1
          clear zf
          have HEND := Lib.hid (HZERO.out W4 (u3, x3) HT4.out.rest)
          go_wp2_with fail
          exact bodyPost_ret (v := .agg #[.int .i64 0, .slice none 0 0]) (by simp [results, Tryd.results6, go_sem, z0, z1]) rfl HEND.out
      · have hne : L ≠ [] := fun e => by rw [e] at hLk; simp at hLk; omega
        have h0' : ((k : Int) == 0) = false := by simp; exact h0
        clear hLk
        obtain ⟨x, S2, hx⟩ : ∃ x S2, smallF bs 524287 (u, 0) = (x, S2) := ⟨_, _, rfl⟩
        have hxl : x ≤ 524287 := by have := smallF_le bs 524287 (u, 0); rw [hx] at this; exact this
        have HTX := Lib.hid (fun (v u3 : Nat) (hv : smallF bs M0 S2 = (v, (u3, 0))) => show u3 ≤ 8 * bs.length ∧ TxT bs n f (L ++ [((x : Int) + 1, (v : Int) + 1)]) u3 from by
          have hs : (smallF bs M0 S2).2.2 = 0 := by rw [hv]
          have hS20 : S2.2 = 0 := by
            unfold smallF at hs
            by_cases c0 : S2.2 ≠ 0
            · rw [if_pos c0] at hs; exact hs
            · exact Decidable.not_not.1 c0
          obtain ⟨_, u1, e1, e2, e3, e4⟩ := smallF_ok HB8.out (s := (u, 0)) (m := 524287) (by rw [hx]; exact hS20) hs8
          rw [hx] at e1 e4
          simp only at e1 e2 e4
          subst e1
          obtain ⟨_, u2, b1, b2, b3, b4⟩ := smallF_ok HB8.out hs e3
          rw [hv] at b1 b4
          simp only at b1 b2 b4
          obtain rfl : u3 = u2 := by simpa using b1
          exact ⟨b3, ht3.more hne e2 b2 e4 b4⟩)
        obtain ⟨F2, hF2⟩ : ∃ F, f = F := ⟨_, rfl⟩
        have HF2 := Lib.hid (show I64 F2 by rw [← hF2]; exact hfb)
        rw [hF2] at HTX HT1
        have HXE := Lib.hid hx
        obtain ⟨O2, hO2⟩ : ∃ O : Int, (x : Int) + 1 = O := ⟨_, rfl⟩
        have HO2 := Lib.hid (show I64 O2 by rw [← hO2]; exact ⟨by omega, by omega⟩)
        rw [hO2] at HTX
        have HOE := Lib.hid hO2
        clear hx ht3 hO2 hfb hF2
        go_wp2_with fail
        simp only [HW1.out, HGS.out]
        refine (small_at 524287 _ rfl q l c a bs (u, 0) _ HT1.out.rest.rd (HTAB.out _ HT1.out.rest.step) hq0 (by omega)).mono ?_
        rintro e w4 ⟨rfl, r4, st4⟩
        rw [HXE.out] at r4 ⊢
        dsimp only at r4 ⊢
        have HTa := Lib.hid (HT1.out.call r4 st4)
        obtain ⟨y0, y1, yf⟩ := box2 HTa.out.sbox
        have yf0 := yf 0
        clear r4 st4 yf
        go_wp2_with fail
        have HT2 := Lib.hid (HTa.out.put 0 ((x : Int) + 1) ((x : Int) + 1) 0 rfl)
        obtain ⟨W2, hW2⟩ : ∃ W, w4.setCell ⟨gS, 0, none⟩ (.int .i64 ((x : Int) + 1)) = W := ⟨_, rfl⟩
        rw [hW2, HOE.out] at HT2
        rw [hW2]
        clear hW2 y0 y1 yf0
        simp only [HMI.out]
        have T2b := HT2.out.rest.box
        obtain ⟨y0, y1, yf⟩ := box2 HT2.out.sbox
        obtain ⟨g1, g2⟩ := HT2.out.lt
        clear T2b y0 y1 yf
        refine (small_at M0 _ rfl q l c a bs _ _ HT2.out.rest.rd (HTAB.out _ HT2.out.rest.step) hq0 (by omega)).mono ?_
        rintro e w5 ⟨rfl, r5, st5⟩
        obtain ⟨v, s3, hv⟩ : ∃ v s3, smallF bs M0 S2 = (v, s3) := ⟨_, _, rfl⟩
        have hvl : v ≤ M0 := by have := smallF_le bs M0 S2; rw [hv] at this; exact this
        have HV := Lib.hid hv
        rw [hv] at r5 ⊢
        dsimp only at r5 ⊢
        have HT3 := Lib.hid (HT2.out.call r5 st5)
        obtain ⟨y0, y1, yf⟩ := box2 HT3.out.sbox
        have yf1 := yf 1
        have hv9 : v ≤ 1000000 := by omega
        clear hv r5 st5 yf
        go_wp2_with fail
        have HT4 := Lib.hid (HT3.out.put 1 ((v : Int) + 1) O2 ((v : Int) + 1) rfl)
        obtain ⟨W4, hW4⟩ : ∃ W, w5.setCell ⟨gS, 1, none⟩ (.int .i64 ((v : Int) + 1)) = W := ⟨_, rfl⟩
        rw [hW4] at HT4 ⊢
        clear hW4 y0 y1 yf1
        refine (err_any q l c a bs s3 _ HT4.out.rest.rd).mono ?_
        rintro e w6 ⟨rfl, rfl⟩
        obtain ⟨u3, x3⟩ := s3
        dsimp only
        by_cases hx3 : x3 = 0
        · subst hx3
          obtain ⟨x0, x1, xf⟩ := box2 HT4.out.rest.box
          have xf1 := xf 1
          obtain ⟨y0, y1, yf⟩ := box2 HT4.out.sbox
          have hgl : w.heap.size + 2 ≤ W4.heap.size := by have := HT4.out.lt; omega
          have hl9 : L.length + 1 ≤ 1000000 := by omega
          clear xf yf
          go_wp2_with (at_builtin; refine app_span rfl _ _ rfl (w.heap.size + 2) _ _ _ L rfl (HT4.out.rest.own.alloc _) _ rfl (O2, (v : Int) + 1) (new_two _ _ _ _).1 (new_two _ _ _ _).2 hl9 ?d1 ?_)
          case d1 => simp; omega
          intro A3 d3 w7 ho7 hg7
          have HNX := Lib.hid (HT4.out.next ho7 hg7)
          have hk7 := keep_app HT4.out.rest.own HT4.out.rest.box (by decide) hg7
          obtain ⟨z0, z1, zf⟩ := box2 hk7
          have zf1 := zf 1
          have HFIN := Lib.hid (HTX.out v u3 HV.out)
          clear ho7 hg7 hk7 zf x0 x1 xf1 y0 y1
          go_wp2_with fail
          go_roundw
          case rel => exact ⟨k + 1, (u3, 0), F2, A3, d3, L ++ [(O2, (v : Int) + 1)], by go_num, by omega, by have := HLK.out; simp at this ⊢; omega, HNX.out, fun _ => ⟨rfl, HFIN.out.1, HFIN.out.2⟩, fun e => absurd e (by simp), sb_snoc HSB.out HO2.out ⟨by omega, by omega⟩, HF2.out⟩
          case measure => simp [intOf]; omega
        · have hx3' : (x3 != 0) = true := by simpa using hx3
          obtain ⟨z0, z1, zf⟩ := box2 HT4.out.rest.res
          have zf0 := zf 0
          have zf1 := zf 1
          clear zf
          have HEND := Lib.hid (HZERO.out W4 (u3, x3) HT4.out.rest)
          go_wp2_with fail
          exact bodyPost_ret (v := .agg #[.int .i64 0, .slice none 0 0]) (by simp [results, Tryd.results6, go_sem, z0, z1]) rfl HEND.out
    · obtain rfl : k = n := by omega
      have HFZ := Lib.hid hf0
      have HTXE := Lib.hid htx
      obtain ⟨x0, x1, xf⟩ := box2 hst.box
      clear hst hsb htx hf0 xf hLk
      go_wp2_with fail
      refine (right_any f Mi A d L _ (own_cl HST.out.own) HSB.out ⟨by have := HMI.out; omega, by omega⟩ (by omega)).mono ?_
      rintro e w4 ⟨rfl, hb4⟩
      obtain ⟨R, hR⟩ : ∃ R, rightF f L Mi = R := ⟨_, rfl⟩
      have HRR := Lib.hid hR
      have hsz : w.heap.size ≤ wr.heap.size := HST.out.step.size
      have hb4' := hb4.mono hsz
      have hbx := (hb4.block _ (Array.getElem?_eq_some_iff.1 HST.out.box).1).trans HST.out.box
      have hrx := (hb4.block _ (Array.getElem?_eq_some_iff.1 HST.out.res).1).trans HST.out.res
      have HST4 := Lib.hid (show LSt w w4 q a l c bs s f A d L from ⟨HST.out.rd.elsewhere HST.out.src HST.out.qlt hb4', hbx, own_abide HST.out.own fun k hk => hb4.block k (HST.out.own.lt k hk).2, hrx, HST.out.step.more hb4', HST.out.qlt, HST.out.src⟩)
      obtain ⟨z0, z1, zf⟩ := box2 hrx
      have zf0 := zf 0
      have zf1 := zf 1
      obtain ⟨v0, v1, vf⟩ := box2 hbx
      rw [hR]
      clear zf vf hbx hrx hb4 hb4' hR
      cases R
      · have HEND := Lib.hid (HZERO.out w4 s HST4.out)
        go_wp2_with fail
        exact bodyPost_ret (v := .agg #[.int .i64 0, .slice none 0 0]) (by simp [results, Tryd.results6, go_sem, z0, z1]) rfl HEND.out
      · have HEND := Lib.hid (show TakeOut w q a l c bs Mi (.returned (.agg #[.int .i64 f, .slice A L.length d])) ((w4.setCell ⟨w.heap.size, 0, none⟩ (.int .i64 f)).setCell ⟨w.heap.size, 1, none⟩ (.slice A L.length d)) from by
          have hb0 : Below w.heap.size w4 (w4.setCell ⟨w.heap.size, 0, none⟩ (.int .i64 f)) := (Below.refl _ _).setCell (by simp) _
          have hb : Below w.heap.size w4 ((w4.setCell ⟨w.heap.size, 0, none⟩ (.int .i64 f)).setCell ⟨w.heap.size, 1, none⟩ (.slice A L.length d)) := hb0.setCell (by simp) _
          have ho := ownsRow_setCell_below (ownsRow_setCell_below HST4.out.own (a := ⟨w.heap.size, 0, none⟩) (by simp) (.int .i64 f)) (a := ⟨w.heap.size, 1, none⟩) (by simp) (.slice A L.length d)
          refine ⟨f, A, d, L, s, rfl, own_cl ho, HST4.out.step.more hb, HST4.out.rd.elsewhere HST4.out.src HST4.out.qlt hb, HFZ.out, fun hne => ?_⟩
          obtain ⟨t1, t2, t3⟩ := HTXE.out (by have := List.length_pos_iff.2 hne; have := HLK.out; omega)
          refine ⟨t1, HRR.out, ?_⟩
          unfold TxT at t3
          unfold layL
          rw [t3, if_neg hne, if_neg hne, HLK.out, List.append_assoc])
        go_wp2_with fail
        exact bodyPost_ret (v := .agg #[.int .i64 f, .slice A L.length d]) (by simp [results, Tryd.results6, go_sem, z0, z1]) rfl HEND.out
end Go.Proofs.YtnbjgeamdipkcaaDoor
