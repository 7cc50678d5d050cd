import Derived.Test.YtakomfnajeolcaaGreatDoorCtA9
import Derived.Lib.Strings
set_option linter.unusedVariables false
/- span.Take from any place of the reader. -/
namespace Go.Proofs.YtakomfnajeolcaaGreatDoor.Tk
open Go.RowKit Go.Sort
set_option linter.unusedVariables false

/-- what Take leaves -/
def TakesOut (w : World) (q : Nat) (a : Option Addr) (l c : Nat) (bs : List Nat) (M0 : Nat) (Mi : Int) (s0 : Nat × Int) (e : Ending) (w' : World) : Prop :=
  ∃ f A d L s, Ch.takeS (fun f L => rightF f L Mi) bs M0 s0 = ((f, L), s) ∧ e = .returned (.agg #[.int .i64 f, .slice A (L : List (Int × Int)).length d]) ∧ Cl w' A (twoC .i64 L) ∧ Step q none w w' ∧ Rd w' q a l c bs s ∧ ∀ x, A = some x → w.heap.size ≤ x.block
def TsRel (w : World) (q : Nat) (a : Option Addr) (l c : Nat) (bs : List Nat) (M0 n : Nat) (R : Option (Int × List (Int × Int)) × (Nat × Int)) (i : Value) (wr : World) : Prop :=
  ∃ (k : Nat) (s : Nat × Int) (f : Int) (A : Option Addr) (d : Nat) (L : List (Int × Int)), i = .int .i64 (k : Int) ∧ k ≤ n ∧ L.length = k ∧ LSt w wr q a l c bs s f A d L ∧
    Ch.spanL bs M0 (n - k) k f L s = R ∧ Sb L ∧ I64 f
/-- one round of it -/
theorem spanL_round {bs : List Nat} {M0 n k : Nat} {f F O : Int} {L : List (Int × Int)} {s S2 : Nat × Int} {R : Option (Int × List (Int × Int)) × (Nat × Int)} (h : Ch.spanL bs M0 (n - k) k f L s = R) (hk : k < n) (hs : Ch.spF bs k f s = (F, O, S2)) (v : Nat) (s3 : Nat × Int) (hv : smallF bs M0 S2 = (v, s3)) :
    (s3.2 ≠ 0 → R = (none, s3)) ∧ (s3.2 = 0 → Ch.spanL bs M0 (n - (k + 1)) (k + 1) F (L ++ [(O, (v : Int) + 1)]) s3 = R) := by
  obtain ⟨r, hr⟩ : ∃ r, n - k = r + 1 := ⟨n - k - 1, by omega⟩
  rw [hr] at h
  have hr' : n - (k + 1) = r := by omega
  rw [hr']
  unfold Ch.spanL at h
  rw [hs] at h
  simp only at h
  rw [hv] at h
  simp only at h
  refine ⟨fun hx => ?_, fun hx => ?_⟩
  · rw [if_pos hx] at h; exact h.symm
  · rw [if_neg (by simpa using hx)] at h; exact h
/-- what is made of the runs -/
def endS (right : Int → List (Int × Int) → Bool) : Option (Int × List (Int × Int)) × (Nat × Int) → (Int × List (Int × Int)) × (Nat × Int)
  | (none, s') => ((0, []), s')
  | (some (f, L), s') => (if right f L then (f, L) else (0, []), s')
theorem takeS_at {right : Int → List (Int × Int) → Bool} {bs : List Nat} {M0 n : Nat} {s0 s1 : Nat × Int} (hn : smallF bs (M0 + 1) s0 = (n, s1)) : Ch.takeS right bs M0 s0 = endS right (Ch.spanL bs M0 n 0 0 [] s1) := by
  unfold Ch.takeS endS
  rw [hn]
  rfl

set_option maxHeartbeats 2000000 in
set_option maxRecDepth 100000 in
theorem takes_any (M0 : Nat) (Mi : Int) (hMi : Mi - 1 = (M0 : Int)) (hM0 : M0 ≤ 1000) (q l c : Nat) (a : Option Addr) (bs : List Nat) (s0 : Nat × Int) (w : World) (h : Rd w q a l c bs s0) (hT : Tab w) (hq0 : q ≠ 0) :
    Calls Tryz.prog 95 #[.pointer (some ⟨q, 0, none⟩), .int .i64 Mi] w (TakesOut w q a l c bs M0 Mi s0) := by
  have hqw := h.qw
  have hz : 0 < w.heap.size := hT.pos
  have HB8 := Lib.hid h.byte
  have hmax : max Mi 1 = Mi := by omega
  have HTAB := Lib.hid (fun (W : World) (st : Step q none w W) => hT.step st hz hq0 (by simp))
  have hsrc : 0 < l → ∀ r o, a = some ⟨r, o, none⟩ → r < w.heap.size := fun h0 r o e => by
    obtain ⟨r', o', e', hr, hc⟩ := h.lies h0
    have hl : 0 < bs.length := by rw [← h.len]; exact h0
    have := block_lt_of_cell (hc 0 _ (List.getElem?_eq_getElem hl))
    rw [e'] at e
    simp at e
    rw [← e.1]
    exact this
  have hL0 : LSt w ((w.alloc (.cells #[.int .i64 0, .slice none 0 0] 52)).alloc (.cells #[.int .i64 0, .slice none 0 0] 52)) q a l c bs s0 0 none 0 [] := by
    have hb : Below w.heap.size w ((w.alloc (.cells #[.int .i64 0, .slice none 0 0] 52)).alloc (.cells #[.int .i64 0, .slice none 0 0] 52)) := ((Below.refl _ _).alloc (Nat.le_refl _) _).alloc (by simp) _
    refine ⟨h.elsewhere hsrc hqw hb, ?_, World.ownsRow_nil _ _ _ _, ?_, (Step.refl q none w).more hb, hqw, hsrc⟩
    · have := heap_alloc_new (w.alloc (.cells #[.int .i64 0, .slice none 0 0] 52)) (.cells #[.int .i64 0, .slice none 0 0] 52)
      simpa using this
    · rw [Below.heap_alloc _ _ _ (by simp)]; exact heap_alloc_new w _
  have HZERO := Lib.hid (fun (W : World) (s : Nat × Int) {f : Int} {A : Option Addr} {d : Nat} {L : List (Int × Int)} (hl : LSt w W q a l c bs s f A d L) (hts : Ch.takeS (fun f L => rightF f L Mi) bs M0 s0 = ((0, []), s)) =>
    show TakesOut w q a l c bs M0 Mi s0 (.returned (.agg #[.int .i64 0, .slice none 0 0])) ((W.setCell ⟨w.heap.size, 0, none⟩ (.int .i64 0)).setCell ⟨w.heap.size, 1, none⟩ (.slice none 0 0)) from by
      have hb0 : Below w.heap.size W (W.setCell ⟨w.heap.size, 0, none⟩ (.int .i64 0)) := (Below.refl _ _).setCell (by simp) _
      have hb : Below w.heap.size W ((W.setCell ⟨w.heap.size, 0, none⟩ (.int .i64 0)).setCell ⟨w.heap.size, 1, none⟩ (.slice none 0 0)) := hb0.setCell (by simp) _
      exact ⟨0, none, 0, [], s, hts, rfl, Cl.nil _ _, hl.step.more hb, hl.rd.elsewhere hl.src hl.qlt hb, fun x hx => by cases hx⟩)
  have HMI := Lib.hid hMi
  obtain ⟨n, s1, hn⟩ : ∃ n s1, smallF bs (M0 + 1) s0 = (n, s1) := ⟨_, _, rfl⟩
  have hnl : n ≤ M0 + 1 := by have := smallF_le bs (M0 + 1) s0; rw [hn] at this; exact this
  obtain ⟨R, hR0⟩ : ∃ R, Ch.spanL bs M0 n 0 0 [] s1 = R := ⟨_, rfl⟩
  have HTS := Lib.hid (show Ch.takeS (fun f L => rightF f L Mi) bs M0 s0 = endS (fun f L => rightF f L Mi) R from by rw [← hR0]; exact takeS_at hn)
  have HR0 := Lib.hid hR0
  clear hR0
  have HN := Lib.hid hn
  have HL0 := Lib.hid hL0
  have hqlt := hqw
  have HQ := Lib.hid hqw
  clear h hT hMi hL0 hsrc hn hqw hqlt
  have hmi9 : Mi ≤ 1001 := by have := HMI.out; omega
  go_enter Tryz.func95, Tryz.ntmps95
  go_wp2_with fail
  refine (small_at (M0 + 1) _ (by have := HMI.out; omega) q l c a bs s0 _ HL0.out.rd (HTAB.out _ HL0.out.step) hq0 (by omega)).mono ?_
  rintro e w3 ⟨rfl, r1, r2⟩
  rw [HN.out] at r1 ⊢
  dsimp only at r1 ⊢
  have HL1 := Lib.hid (show LSt w w3 q a l c bs s1 0 none 0 [] from by
    obtain ⟨k1, k2, k3, k4, k5, k6, k7⟩ := HL0.out
    have hsz := k5.size
    have hb : ∀ k, w.heap.size ≤ k → k < ((w.alloc (.cells #[.int .i64 0, .slice none 0 0] 52)).alloc (.cells #[.int .i64 0, .slice none 0 0] 52)).heap.size → w3.heap[k]? = ((w.alloc (.cells #[.int .i64 0, .slice none 0 0] 52)).alloc (.cells #[.int .i64 0, .slice none 0 0] 52)).heap[k]? := fun k hk hl => r2.block k hl (by omega) (by simp)
    exact ⟨r1, (hb _ (by omega) (by simp)).trans k2, World.ownsRow_nil _ _ _ _, (hb _ (Nat.le_refl _) (by simp; omega)).trans k4, k5.trans0 r2, k6, k7⟩)
  clear r1 r2
  go_wp2_with fail
  go_loopw [13] (fun i wr => TsRel w q a l c bs M0 n R i wr) (fun i _ => n - (intOf i).toNat)
  case atStart => exact ⟨0, s1, 0, none, 0, [], rfl, Nat.zero_le _, rfl, HL1.out, HR0.out, fun p hp => by simp at hp, ⟨by omega, by omega⟩⟩
  case round =>
    obtain ⟨k, s, f, A, d, L, rfl, hk, hLk, hst, htx, hsb, hfb⟩ := hrel
    have HST := Lib.hid hst
    have HSB := Lib.hid hsb
    have HLK := Lib.hid hLk
    have hlL : L.length ≤ 1001 := by omega
    by_cases hlt : k < n
    · have HT1 := Lib.hid hst.begin
      obtain ⟨gS, hgS⟩ : ∃ g, wr.heap.size = g := ⟨_, rfl⟩
      obtain ⟨W1, hW1⟩ : ∃ W, wr.alloc (.cells #[.int .i64 0, .int .i64 0] 130) = W := ⟨_, rfl⟩
      rw [hW1, hgS] at HT1
      have HW1 := Lib.hid hW1
      have HGS := Lib.hid hgS
      have hL9 : L.length ≤ 1001 := by omega
      clear hst hsb hW1 hgS
      by_cases h0 : k = 0
      · obtain rfl : L = [] := List.eq_nil_of_length_eq_zero (by omega)
        have h0' : ((k : Int) == 0) = true := by simp; exact h0
        clear hLk
        obtain ⟨m, S2, hm⟩ : ∃ m S2, countF bs s = (m, S2) := ⟨_, _, rfl⟩
        have hm64 : m ≤ 18446744073709551615 := by have := countF_u64 bs s; rw [hm] at this; exact this
        have hzb := zag_bd (c := (m : Int)) (by omega) (by omega)
        obtain ⟨O2, hO2⟩ : ∃ O : Int, O = 0 := ⟨0, rfl⟩
        have HTX := Lib.hid (fun (v : Nat) (s3 : Nat × Int) (hv : smallF bs M0 S2 = (v, s3)) => spanL_round (F := zagv (m : Int)) (O := O2) htx hlt (by unfold Ch.spF; rw [if_pos h0]; unfold Ch.intF; rw [hm, hO2]) v s3 hv)
        obtain ⟨F2, hF2⟩ : ∃ F, zagv (m : Int) = F := ⟨_, rfl⟩
        rw [hF2] at hzb HTX
        have HF2 := Lib.hid (show I64 F2 from hzb)
        have HM := Lib.hid hm
        have HFE := Lib.hid hF2
        have HO2 := Lib.hid (show I64 O2 by rw [hO2]; exact ⟨by omega, by omega⟩)
        have HOE := Lib.hid hO2
        clear hm hzb hF2 htx hO2
        go_wp2_with fail
        simp only [HW1.out, HGS.out]
        refine (int_any q l c a bs s _ HT1.out.rest.rd (HTAB.out _ HT1.out.rest.step) hq0).mono ?_
        rintro e w4 ⟨rfl, r4, st4⟩
        rw [HM.out] at r4 ⊢
        dsimp only at r4 ⊢
        rw [HFE.out]
        have HTa := Lib.hid (HT1.out.call r4 st4)
        obtain ⟨x0, x1, xf⟩ := box2 HTa.out.rest.box
        have xf0 := xf 0
        clear r4 st4 xf
        go_wp2_with fail
        have HT2 := Lib.hid (show TSt w (w4.setCell ⟨w.heap.size + 1, 0, none⟩ (.int .i64 F2)) gS q a l c bs S2 F2 A d [] O2 0 from by rw [HOE.out]; exact HTa.out.putF F2)
        obtain ⟨W2, hW2⟩ : ∃ W, w4.setCell ⟨w.heap.size + 1, 0, none⟩ (.int .i64 F2) = W := ⟨_, rfl⟩
        rw [hW2] at HT2 ⊢
        clear hW2 x0 x1 xf0
        simp only [HMI.out]
        have T2b := HT2.out.rest.box
        obtain ⟨y0, y1, yf⟩ := box2 HT2.out.sbox
        obtain ⟨g1, g2⟩ := HT2.out.lt
        clear T2b y0 y1 yf
        refine (small_at M0 _ rfl q l c a bs _ _ HT2.out.rest.rd (HTAB.out _ HT2.out.rest.step) hq0 (by omega)).mono ?_
        rintro e w5 ⟨rfl, r5, st5⟩
        obtain ⟨v, s3, hv⟩ : ∃ v s3, smallF bs M0 S2 = (v, s3) := ⟨_, _, rfl⟩
        have hvl : v ≤ M0 := by have := smallF_le bs M0 S2; rw [hv] at this; exact this
        have HV := Lib.hid hv
        rw [hv] at r5 ⊢
        dsimp only at r5 ⊢
        have HT3 := Lib.hid (HT2.out.call r5 st5)
        obtain ⟨y0, y1, yf⟩ := box2 HT3.out.sbox
        have yf1 := yf 1
        have hv9 : v ≤ 1000000 := by omega
        clear hv r5 st5 yf
        go_wp2_with fail
        have HT4 := Lib.hid (HT3.out.put 1 ((v : Int) + 1) O2 ((v : Int) + 1) rfl)
        obtain ⟨W4, hW4⟩ : ∃ W, w5.setCell ⟨gS, 1, none⟩ (.int .i64 ((v : Int) + 1)) = W := ⟨_, rfl⟩
        rw [hW4] at HT4 ⊢
        clear hW4 y0 y1 yf1
        refine (err_any q l c a bs s3 _ HT4.out.rest.rd).mono ?_
        rintro e w6 ⟨rfl, rfl⟩
        by_cases hx3 : s3.2 = 0
        · rw [hx3]
          obtain ⟨x0, x1, xf⟩ := box2 HT4.out.rest.box
          have xf1 := xf 1
          obtain ⟨y0, y1, yf⟩ := box2 HT4.out.sbox
          have hgl : w.heap.size + 2 ≤ W4.heap.size := by have := HT4.out.lt; omega
          have hl9 : ([] : List (Int × Int)).length + 1 ≤ 1000000 := by omega
          clear xf yf
          go_wp2_with (at_builtin; refine app_span rfl _ _ rfl (w.heap.size + 2) _ _ _ [] rfl (HT4.out.rest.own.alloc _) _ rfl (O2, (v : Int) + 1) (new_two _ _ _ _).1 (new_two _ _ _ _).2 hl9 ?d1 ?_)
          case d1 => simp; omega
          intro A3 d3 w7 ho7 hg7
          have HNX := Lib.hid (HT4.out.next ho7 hg7)
          have hk7 := keep_app HT4.out.rest.own HT4.out.rest.box (by decide) hg7
          obtain ⟨z0, z1, zf⟩ := box2 hk7
          have zf1 := zf 1
          have HFIN := Lib.hid ((HTX.out v s3 HV.out).2 hx3)
          clear ho7 hg7 hk7 zf x0 x1 xf1 y0 y1
          go_wp2_with fail
          go_roundw
          case rel => exact ⟨k + 1, s3, F2, A3, d3, [] ++ [(O2, (v : Int) + 1)], by go_num, by omega, by have := HLK.out; simp at this ⊢; omega, HNX.out, HFIN.out, sb_snoc HSB.out HO2.out ⟨by omega, by omega⟩, HF2.out⟩
          case measure => simp [intOf]; omega
        · have hx3' : (s3.2 != 0) = true := by simpa using hx3
          obtain ⟨z0, z1, zf⟩ := box2 HT4.out.rest.res
          have zf0 := zf 0
          have zf1 := zf 1
          clear zf
          have HEND := Lib.hid (HZERO.out W4 s3 HT4.out.rest (by rw [HTS.out, (HTX.out v s3 HV.out).1 hx3]; rfl))
          go_wp2_with fail
          exact bodyPost_ret (v := .agg #[.int .i64 0, .slice none 0 0]) (by simp [results, Tryz.results95, go_sem, z0, z1]) rfl HEND.out
      · have hne : L ≠ [] := fun e => by rw [e] at hLk; simp at hLk; omega
        have h0' : ((k : Int) == 0) = false := by simp; exact h0
        clear hLk
        obtain ⟨x, S2, hx⟩ : ∃ x S2, smallF bs 524287 s = (x, S2) := ⟨_, _, rfl⟩
        have hxl : x ≤ 524287 := by have := smallF_le bs 524287 s; rw [hx] at this; exact this
        have HTX := Lib.hid (fun (v : Nat) (s3 : Nat × Int) (hv : smallF bs M0 S2 = (v, s3)) => spanL_round (F := f) (O := (x : Int) + 1) htx hlt (by unfold Ch.spF; rw [if_neg h0, hx]) v s3 hv)
        obtain ⟨F2, hF2⟩ : ∃ F, f = F := ⟨_, rfl⟩
        have HF2 := Lib.hid (show I64 F2 by rw [← hF2]; exact hfb)
        rw [hF2] at HTX HT1
        have HXE := Lib.hid hx
        obtain ⟨O2, hO2⟩ : ∃ O : Int, (x : Int) + 1 = O := ⟨_, rfl⟩
        have HO2 := Lib.hid (show I64 O2 by rw [← hO2]; exact ⟨by omega, by omega⟩)
        rw [hO2] at HTX
        have HOE := Lib.hid hO2
        clear hx htx hO2 hfb hF2
        go_wp2_with fail
        simp only [HW1.out, HGS.out]
        refine (small_at 524287 _ rfl q l c a bs s _ HT1.out.rest.rd (HTAB.out _ HT1.out.rest.step) hq0 (by omega)).mono ?_
        rintro e w4 ⟨rfl, r4, st4⟩
        rw [HXE.out] at r4 ⊢
        dsimp only at r4 ⊢
        have HTa := Lib.hid (HT1.out.call r4 st4)
        obtain ⟨y0, y1, yf⟩ := box2 HTa.out.sbox
        have yf0 := yf 0
        clear r4 st4 yf
        go_wp2_with fail
        have HT2 := Lib.hid (HTa.out.put 0 ((x : Int) + 1) ((x : Int) + 1) 0 rfl)
        obtain ⟨W2, hW2⟩ : ∃ W, w4.setCell ⟨gS, 0, none⟩ (.int .i64 ((x : Int) + 1)) = W := ⟨_, rfl⟩
        rw [hW2, HOE.out] at HT2
        rw [hW2]
        clear hW2 y0 y1 yf0
        simp only [HMI.out]
        have T2b := HT2.out.rest.box
        obtain ⟨y0, y1, yf⟩ := box2 HT2.out.sbox
        obtain ⟨g1, g2⟩ := HT2.out.lt
        clear T2b y0 y1 yf
        refine (small_at M0 _ rfl q l c a bs _ _ HT2.out.rest.rd (HTAB.out _ HT2.out.rest.step) hq0 (by omega)).mono ?_
        rintro e w5 ⟨rfl, r5, st5⟩
        obtain ⟨v, s3, hv⟩ : ∃ v s3, smallF bs M0 S2 = (v, s3) := ⟨_, _, rfl⟩
        have hvl : v ≤ M0 := by have := smallF_le bs M0 S2; rw [hv] at this; exact this
        have HV := Lib.hid hv
        rw [hv] at r5 ⊢
        dsimp only at r5 ⊢
        have HT3 := Lib.hid (HT2.out.call r5 st5)
        obtain ⟨y0, y1, yf⟩ := box2 HT3.out.sbox
        have yf1 := yf 1
        have hv9 : v ≤ 1000000 := by omega
        clear hv r5 st5 yf
        go_wp2_with fail
        have HT4 := Lib.hid (HT3.out.put 1 ((v : Int) + 1) O2 ((v : Int) + 1) rfl)
        obtain ⟨W4, hW4⟩ : ∃ W, w5.setCell ⟨gS, 1, none⟩ (.int .i64 ((v : Int) + 1)) = W := ⟨_, rfl⟩
        rw [hW4] at HT4 ⊢
        clear hW4 y0 y1 yf1
        refine (err_any q l c a bs s3 _ HT4.out.rest.rd).mono ?_
        rintro e w6 ⟨rfl, rfl⟩
        by_cases hx3 : s3.2 = 0
        · rw [hx3]
          obtain ⟨x0, x1, xf⟩ := box2 HT4.out.rest.box
          have xf1 := xf 1
          obtain ⟨y0, y1, yf⟩ := box2 HT4.out.sbox
          have hgl : w.heap.size + 2 ≤ W4.heap.size := by have := HT4.out.lt; omega
          have hl9 : L.length + 1 ≤ 1000000 := by omega
          clear xf yf
          go_wp2_with (at_builtin; refine app_span rfl _ _ rfl (w.heap.size + 2) _ _ _ L rfl (HT4.out.rest.own.alloc _) _ rfl (O2, (v : Int) + 1) (new_two _ _ _ _).1 (new_two _ _ _ _).2 hl9 ?d1 ?_)
          case d1 => simp; omega
          intro A3 d3 w7 ho7 hg7
          have HNX := Lib.hid (HT4.out.next ho7 hg7)
          have hk7 := keep_app HT4.out.rest.own HT4.out.rest.box (by decide) hg7
          obtain ⟨z0, z1, zf⟩ := box2 hk7
          have zf1 := zf 1
          have HFIN := Lib.hid ((HTX.out v s3 HV.out).2 hx3)
          clear ho7 hg7 hk7 zf x0 x1 xf1 y0 y1
          go_wp2_with fail
          go_roundw
          case rel => exact ⟨k + 1, s3, F2, A3, d3, L ++ [(O2, (v : Int) + 1)], by go_num, by omega, by have := HLK.out; simp at this ⊢; omega, HNX.out, HFIN.out, sb_snoc HSB.out HO2.out ⟨by omega, by omega⟩, HF2.out⟩
          case measure => simp [intOf]; omega
        · have hx3' : (s3.2 != 0) = true := by simpa using hx3
          obtain ⟨z0, z1, zf⟩ := box2 HT4.out.rest.res
          have zf0 := zf 0
          have zf1 := zf 1
          clear zf
          have HEND := Lib.hid (HZERO.out W4 s3 HT4.out.rest (by rw [HTS.out, (HTX.out v s3 HV.out).1 hx3]; rfl))
          go_wp2_with fail
          exact bodyPost_ret (v := .agg #[.int .i64 0, .slice none 0 0]) (by simp [results, Tryz.results95, go_sem, z0, z1]) rfl HEND.out
    · obtain rfl : k = n := by omega
      have HTXE := Lib.hid (show R = (some (f, L), s) by rw [← htx, Nat.sub_self]; rfl)
      obtain ⟨x0, x1, xf⟩ := box2 hst.box
      clear hst hsb htx xf hLk
      go_wp2_with fail
      refine (right_any f Mi A d L _ (own_cl HST.out.own) HSB.out ⟨by have := HMI.out; omega, by omega⟩ (by omega)).mono ?_
      rintro e w4 ⟨rfl, hb4⟩
      obtain ⟨R, hR⟩ : ∃ R, rightF f L Mi = R := ⟨_, rfl⟩
      have HRR := Lib.hid hR
      have hsz : w.heap.size ≤ wr.heap.size := HST.out.step.size
      have hb4' := hb4.mono hsz
      have hbx := (hb4.block _ (Array.getElem?_eq_some_iff.1 HST.out.box).1).trans HST.out.box
      have hrx := (hb4.block _ (Array.getElem?_eq_some_iff.1 HST.out.res).1).trans HST.out.res
      have HST4 := Lib.hid (show LSt w w4 q a l c bs s f A d L from ⟨HST.out.rd.elsewhere HST.out.src HST.out.qlt hb4', hbx, own_abide HST.out.own fun k hk => hb4.block k (HST.out.own.lt k hk).2, hrx, HST.out.step.more hb4', HST.out.qlt, HST.out.src⟩)
      obtain ⟨z0, z1, zf⟩ := box2 hrx
      have zf0 := zf 0
      have zf1 := zf 1
      obtain ⟨v0, v1, vf⟩ := box2 hbx
      rw [hR]
      clear zf vf hbx hrx hb4 hb4' hR
      cases R
      · have HEND := Lib.hid (HZERO.out w4 s HST4.out (by rw [HTS.out, HTXE.out]; show ((if rightF f L Mi = true then (f, L) else (0, [])), s) = _; rw [if_neg (by rw [HRR.out]; decide)]))
        go_wp2_with fail
        exact bodyPost_ret (v := .agg #[.int .i64 0, .slice none 0 0]) (by simp [results, Tryz.results95, go_sem, z0, z1]) rfl HEND.out
      · have HEND := Lib.hid (show TakesOut w q a l c bs M0 Mi s0 (.returned (.agg #[.int .i64 f, .slice A L.length d])) ((w4.setCell ⟨w.heap.size, 0, none⟩ (.int .i64 f)).setCell ⟨w.heap.size, 1, none⟩ (.slice A L.length d)) from by
          have hb0 : Below w.heap.size w4 (w4.setCell ⟨w.heap.size, 0, none⟩ (.int .i64 f)) := (Below.refl _ _).setCell (by simp) _
          have hb : Below w.heap.size w4 ((w4.setCell ⟨w.heap.size, 0, none⟩ (.int .i64 f)).setCell ⟨w.heap.size, 1, none⟩ (.slice A L.length d)) := hb0.setCell (by simp) _
          have ho := ownsRow_setCell_below (ownsRow_setCell_below HST4.out.own (a := ⟨w.heap.size, 0, none⟩) (by simp) (.int .i64 f)) (a := ⟨w.heap.size, 1, none⟩) (by simp) (.slice A L.length d)
          exact ⟨f, A, d, L, s, by rw [HTS.out, HTXE.out]; show ((if rightF f L Mi = true then (f, L) else (0, [])), s) = _; rw [if_pos HRR.out], rfl, own_cl ho, HST4.out.step.more hb, HST4.out.rd.elsewhere HST4.out.src HST4.out.qlt hb, fun x hx => by have := (ho.lt x.block (by subst hx; rfl)).1; omega⟩)
        go_wp2_with fail
        exact bodyPost_ret (v := .agg #[.int .i64 f, .slice A L.length d]) (by simp [results, Tryz.results95, go_sem, z0, z1]) rfl HEND.out
end Go.Proofs.YtakomfnajeolcaaGreatDoor.Tk


/- A writer's bits as a list. -/
namespace Go.Proofs.YtakomfnajeolcaaGreatDoor.Tl
open Go.RowKit Go.Sort
set_option linter.unusedVariables false

theorem cell_belowW {w w' : World} {a : Addr} {v : Value} (h : w.cell? a = some v) (hb : Below w.heap.size w w') : w'.cell? a = some v := (hb.cell (block_lt_of_cell h)).trans h
theorem tab_eq {w : World} (h : Tk.Tab w) : Bw.Tab w := h
theorem tab_below {w w' : World} (h : Tk.Tab w) (hb : Below w.heap.size w w') : Tk.Tab w' := by
  obtain ⟨h0, h1, h2, h3, h4, h5, h6⟩ := h
  exact ⟨cell_belowW h0 hb, cell_belowW h1 hb, cell_belowW h2 hb, cell_belowW h3 hb, cell_belowW h4 hb, cell_belowW h5 hb, cell_belowW h6 hb⟩
theorem tab_pos {w : World} (h : Tk.Tab w) : 0 < w.heap.size := by
  have := block_lt_of_cell h.1
  omega
/-- the writer at block p has laid l, all behind the world W0 -/
def WS (W0 : World) (p B : Nat) (l : List Bool) (w : World) : Prop := (∃ v bs, Bw.Wr w p B v bs l.length ∧ LaidL bs l) ∧ Below W0.heap.size W0 w
/-- .. and its bytes don't lie in block g -/
def WX (W0 : World) (p B g : Nat) (l : List Bool) (w : World) : Prop := (∃ v bs, Bw.Wr w p B v bs l.length ∧ LaidL bs l ∧ v.ownBlock ≠ some g) ∧ Below W0.heap.size W0 w
theorem WX.out {W0 w : World} {p B g : Nat} {l : List Bool} (h : WX W0 p B g l w) : WS W0 p B l w := by
  obtain ⟨⟨v, bs, h1, h2, _⟩, h3⟩ := h
  exact ⟨⟨v, bs, h1, h2⟩, h3⟩
theorem WS.box {W0 w : World} {p B : Nat} {l : List Bool} (h : WS W0 p B l w) (o : Obj) : WX W0 p B w.heap.size l (w.alloc o) := by
  obtain ⟨⟨v, bs, h1, h2⟩, h3⟩ := h
  refine ⟨⟨v, bs, h1.below ((Below.refl _ _).alloc (Nat.le_refl _) o), h2, fun e => ?_⟩, h3.alloc h3.size o⟩
  have := (h1.own.lt _ e).2
  omega
theorem WS.below {W0 w w' : World} {p B : Nat} {l : List Bool} (h : WS W0 p B l w) (hb : Below w.heap.size w w') : WS W0 p B l w' := by
  obtain ⟨⟨v, bs, h1, h2⟩, h3⟩ := h
  exact ⟨⟨v, bs, h1.below hb, h2⟩, h3.trans (hb.mono h3.size)⟩
end Go.Proofs.YtakomfnajeolcaaGreatDoor.Tl


/- Put and Bytes of a writer whose bits are a list; bytes.Equal. -/
namespace Go.Proofs.YtakomfnajeolcaaGreatDoor.En
open Go.RowKit Go.Sort
set_option linter.unusedVariables false
open Tl (WS WX valB LaidL tab_below tab_pos)

/-- a new writer -/
theorem ws_new (W0 : World) : WS W0 W0.heap.size (W0.heap.size + 1) [] (W0.alloc (.cells #[.slice none 0 0, .int .i64 0] 58 (0, 0))) := by
  obtain ⟨W1, hW1⟩ : ∃ W1, W0.alloc (.cells #[.slice none 0 0, .int .i64 0] 58 (0, 0)) = W1 := ⟨_, rfl⟩
  have hbx : W1.heap[W0.heap.size]? = some (.cells #[.slice none 0 0, .int .i64 0] 58 (0, 0)) := hW1 ▸ heap_alloc_new W0 _
  rw [hW1]
  refine ⟨⟨.slice none 0 0, [], Bw.Wr.fresh (by omega) (by rw [← hW1]; simp) ?_ ?_ ?_ ?_, LaidL.nil⟩, hW1 ▸ (Below.refl _ _).alloc (Nat.le_refl _) _⟩
  · rw [cell_of_row _ _ _ _ _ _ hbx]; rfl
  · rw [cell_of_row _ _ _ _ _ _ hbx]; rfl
  · simp [World.frozen?, hbx]
  · simp [World.frozen?, hbx]
theorem bytes_l (v : Value) (p B : Nat) (l : List Bool) (bs : List Nat) (w : World) (hw : Bw.Wr w p B v bs l.length) (hla : LaidL bs l) (hl : l.length ≤ 7900000) :
    Calls Tryz.prog 28 #[.pointer (some ⟨p, 0, none⟩)] w fun e w' => ∃ A c, e = .returned (.slice A bs.length c) ∧ Tk.Sl w' A c bs ∧ Below w.heap.size w w' := by
  have own : w.ownsRow B 5 1 v bs.length (Tk.cellsB bs) := hw.own
  have hbl : bs.length ≤ 1000000 := by have := hla.1; omega
  obtain ⟨_, A, c, rfl, hS⟩ := Tk.own_sl own hla.2.1 (by omega)
  have c0 := hw.c0
  have HC := Lib.hid (Tk.clone_any A bs.length c bs w hS rfl (by omega))
  clear own hw hla hS hl
  go_enter Tryz.func28, Tryz.ntmps28
  go_wp2_with fail
  refine HC.out.mono ?_
  rintro e w' ⟨A2, c2, rfl, hs, hb⟩
  have HS := Lib.hid (And.intro hs hb)
  clear hs hb
  go_wp2_with fail
  go_ret
  exact ⟨A2, c2, rfl, HS.out.1, HS.out.2⟩
theorem bytes_s (W0 : World) (p B : Nat) (l : List Bool) (w : World) (h : WS W0 p B l w) (hl : l.length ≤ 7900000) :
    Calls Tryz.prog 28 #[.pointer (some ⟨p, 0, none⟩)] w fun e w' => ∃ A c bs, e = .returned (.slice A bs.length c) ∧ Tk.Sl w' A c bs ∧ LaidL bs l ∧ Below W0.heap.size W0 w' := by
  obtain ⟨⟨v, bs, h1, h2⟩, h3⟩ := h
  refine (bytes_l v p B l bs w h1 h2 hl).mono ?_
  rintro e w' ⟨A, c, rfl, h4, h5⟩
  exact ⟨A, c, bs, rfl, h4, h2, h3.trans (h5.mono h3.size)⟩
theorem ret_boolF {a b : Bool} (h : a = b) : Ending.returned (.bool a) = .returned (.bool b) := by rw [h]
/-- bytes as a text -/
def txB (bs : List Nat) : ByteArray := ⟨(bs.map UInt8.ofNat).toArray⟩
theorem sl_txt {w : World} {A : Option Addr} {c : Nat} {bs : List Nat} (h : Tk.Sl w A c bs) : (convert 26 9 (.slice A bs.length c)).run Tryz.prog w = .ok (.string (txB bs)) w := by
  have hl : (bs.map UInt8.ofNat).length = bs.length := by simp
  cases A with
  | none =>
    have hc := h.2.2.1 rfl
    have hb : bs = [] := List.eq_nil_of_length_eq_zero (by have := h.1; omega)
    subst hb
    exact run_convert_bytes_nil w _ _ Tryz.underlying26 Tryz.underlying5 0 c _ Tryz.underlying9
  | some ad =>
    rw [← hl]
    refine run_convert_bytes_back (P := Tryz.prog) w 26 9 5 ad c (bs.map UInt8.ofNat) Tryz.underlying26 Tryz.underlying5 Tryz.underlying9 (fun j hj => ?_)
    have hj' : j < bs.length := by simpa using hj
    have hm : bs[j] < 256 := h.b8 _ (List.getElem_mem hj')
    exact h.2.2.2.src' j _ (by unfold Tk.cellsB; simp [hj', Nat.mod_eq_of_lt hm])
theorem txB_eq {a b : List Nat} (ha : ∀ x ∈ a, x < 256) (hb : ∀ x ∈ b, x < 256) : ((txB a).toList == (txB b).toList) = decide (a = b) := by
  rw [Lib.toList_data, Lib.toList_data]
  exact Bw.toList_eq a b ha hb
theorem equal_any (A B : Option Addr) (c d : Nat) (a b : List Nat) (w : World) (hA : Tk.Sl w A c a) (hB : Tk.Sl w B d b) :
    Calls Tryz.prog 31 #[.slice A a.length c, .slice B b.length d] w fun e w' => e = .returned (.bool (decide (a = b))) ∧ w' = w := by
  have e1 := sl_txt hA
  have e2 := sl_txt hB
  have HE := Lib.hid (txB_eq hA.b8 hB.b8)
  obtain ⟨n, hn⟩ : ∃ n, a.length = n := ⟨_, rfl⟩
  obtain ⟨m, hm⟩ : ∃ m, b.length = m := ⟨_, rfl⟩
  rw [hn] at e1 ⊢
  rw [hm] at e2 ⊢
  obtain ⟨S, hS⟩ : ∃ S, txB a = S := ⟨_, rfl⟩
  obtain ⟨T, hT⟩ : ∃ T, txB b = T := ⟨_, rfl⟩
  rw [hS] at e1 HE
  rw [hT] at e2 HE
  obtain ⟨z, hz⟩ : ∃ z, decide (a = b) = z := ⟨_, rfl⟩
  rw [hz] at HE ⊢
  clear hA hB hn hm hS hT hz
  go_enter Tryz.func31, Tryz.ntmps31
  go_wp2_with fail
  go_ret
  refine ⟨ret_boolF ?_, rfl⟩
  first | exact HE.out | (rw [← HE.out]; simp)
end Go.Proofs.YtakomfnajeolcaaGreatDoor.En
