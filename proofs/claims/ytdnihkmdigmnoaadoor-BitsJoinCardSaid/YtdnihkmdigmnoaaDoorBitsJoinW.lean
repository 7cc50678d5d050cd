/- The law BitsJoin's walk, where at least one count is laid. -/
import Derived.Test.YtdnihkmdigmnoaaDoorBitsE
namespace Go.Proofs.YtdnihkmdigmnoaaDoor
open Go.RowKit

theorem Rd.below {w w' : World} {q r l c t : Nat} {bs : List Nat} (h : Rd w q r l c bs t) (hb : Below w.heap.size w w') : Rd w' q r l c bs t :=
  ⟨h.qr, Nat.lt_of_lt_of_le h.qw hb.size, (hb.cell (p := ⟨q, 0, none⟩) h.qw).trans h.c0, (hb.cell (p := ⟨q, 1, none⟩) h.qw).trans h.c1, (hb.cell (p := ⟨q, 2, none⟩) h.qw).trans h.c2, (hb.frozen (p := ⟨q, 1, none⟩) h.qw).trans h.f1, h.bytes.below hb, h.tl, h.lb⟩
theorem Step.belowQ {q H : Nat} {w0 w w' : World} (s : Step q none w w') (b : Below H w0 w) (hq : H ≤ q) (hH : H ≤ w.heap.size) : Below H w0 w' :=
  b.trans ⟨s.os, s.tape, s.output, s.size, fun k hk => s.block k (by omega) (by omega) (by simp)⟩
theorem Wr.keepQ {w w' : World} {p B n q : Nat} {v : Value} {bs : List Nat} (h : Wr w p B v bs n) (s : Step q none w w') (hp : p ≠ q) (hv : ∀ g, v.ownBlock = some g → g ≠ q) : Wr w' p B v bs n := by
  have h1 := h.pb
  have h2 := h.bw
  exact h.keep s.size (s.block p (by omega) hp (by simp)) (fun g hg => s.block g (h.own.lt g hg).2 (hv g hg) (by simp))

/-- the counts that a slice gives, place by place -/
def Gives (w : World) (a : Option Addr) (n : Nat) (A : Nat → Nat) : Prop :=
  ∀ k, k < n → ∃ b off, a = some ⟨b, off, none⟩ ∧ w.cell? ⟨b, off + k, none⟩ = some (.int .u64 ((A k : Nat) : Int)) ∧ A k ≤ 18446744073709551615

def J1 (w : World) (C : Nat → Nat) (la : Nat) (i : Value) (wr : World) : Prop :=
  ∃ k : Nat, k ≤ la ∧ i = .int .i64 (k : Int) ∧ Two w.heap.size w (encLen C k) (encVal C k) 0 0 wr
def J2 (w : World) (C B : Nat → Nat) (la lb : Nat) (i : Value) (wr : World) : Prop :=
  ∃ j : Nat, j ≤ lb ∧ i = .int .i64 (j : Int) ∧ Two w.heap.size w (encLen C (la + j)) (encVal C (la + j)) (encLen B j) (encVal B j) wr
def J3 (w : World) (C : Nat → Nat) (la q r l c n2 : Nat) (bs1 bs2 : List Nat) (v2 : Value) (i : Value) (wr : World) : Prop :=
  ∃ k : Nat, k ≤ la ∧ i = .int .i64 (k : Int) ∧ Rd wr q r l c bs1 (encLen C k) ∧ Below w.heap.size w wr ∧ Wr wr (w.heap.size + 1) (w.heap.size + 2) v2 bs2 n2
def J4 (w : World) (C : Nat → Nat) (la lb q r l c : Nat) (bs1 : List Nat) (i : Value) (wr : World) : Prop :=
  ∃ j : Nat, j ≤ lb ∧ i = .int .i64 (j : Int) ∧ Rd wr q r l c bs1 (encLen C (la + j)) ∧ Below w.heap.size w wr

set_option maxRecDepth 100000 in
set_option maxHeartbeats 2000000 in
theorem join_any (a b : Option Addr) (la lb ca cb : Nat) (A B : Nat → Nat) (w : World) (hT : Tab w) (hA : Gives w a la A) (hB : Gives w b lb B) (ha : la ≤ 50) (hb : lb ≤ 50) (h0 : 0 < la + lb) :
    Calls Tryd.prog 4 #[.slice a la ca, .slice b lb cb] w fun e w' => e = .returned (.bool true) ∧ Below w.heap.size w w' := by
  have hz := hT.pos
  obtain ⟨C, hC⟩ : ∃ C, both A B la = C := ⟨_, rfl⟩
  have hCA : ∀ k, k < la → C k = A k := fun k hk => by rw [← hC]; exact both_left hk
  have hCB : ∀ j, C (la + j) = B j := fun j => by rw [← hC]; exact both_right
  have hlen : encLen C (la + lb) = encLen C la + encLen B lb := by rw [← hC]; exact both_len A B la lb
  have hCm : ∀ i, i < la + lb → C i ≤ 18446744073709551615 := fun i hi => by
    by_cases h : i < la
    · rw [hCA i h]; obtain ⟨_, _, _, _, h⟩ := hA i h; exact h
    · have := hCB (i - la)
      rw [show la + (i - la) = i by omega] at this
      rw [this]; obtain ⟨_, _, _, _, h⟩ := hB (i - la) (by omega); exact h
  have hle := encLen_le C
  have hleB := encLen_le B
  have HA := Lib.hid hA
  have HB := Lib.hid hB
  have HCA := Lib.hid hCA
  have HCB := Lib.hid hCB
  have HLEN := Lib.hid hlen
  have HCM := Lib.hid hCm
  have HLE := Lib.hid hle
  have HLEB := Lib.hid hleB
  have g0 : (la : Int) ≤ 50 := by omega
  have g1 : (lb : Int) ≤ 50 := by omega
  clear hA hB hC hCA hCB hlen hCm hle hleB
  go_enter Tryd.func4, Tryd.ntmps4
  go_wp2_with fail
  have S0 : Hid (J1 w C la (.int .i64 0) ((w.alloc (.cells #[.slice none 0 0, .int .i64 0] 25)).alloc (.cells #[.slice none 0 0, .int .i64 0] 25))) := by
    refine ⟨0, Nat.zero_le _, rfl, .slice none 0 0, [], .slice none 0 0, [], ?_, Laid.none_, ?_, Laid.none_, fun g hg => by simp [Value.ownBlock] at hg, ((Below.refl _ _).alloc (Nat.le_refl _) _).alloc (by simp) _, fun _ => rfl⟩
    · exact Wr.fresh (by omega) (by simp) (by simp [go_sem]) (by simp [go_sem]) (by simp [go_sem]) (by simp [go_sem])
    · exact Wr.fresh (by omega) (by simp) (by simp [go_sem]) (by simp [go_sem]) (by simp [go_sem]) (by simp [go_sem])
  go_loopw [29] (fun i wr => J1 w C la i wr) (fun i _ => la - (intOf i).toNat)
  case atStart => exact S0.out
  case round =>
    obtain ⟨k, hk, rfl, v1, bs1, v2, bs2, q1, q2, r1, r2, ap, be, nz⟩ := hrel
    by_cases hlt : k < la
    · obtain ⟨ba, off, rfl, hc, hx⟩ := HA.out k hlt
      have kc := (be.cell (p := ⟨ba, off + k, none⟩) (block_lt_of_cell hc)).trans hc
      have hT1 := hT.below be hz
      have hn := HLE.out k
      have P := Lib.hid (show ∃ bs1 v2 bs2, Wr wr w.heap.size (w.heap.size + 2) v1 bs1 (encLen C k) ∧ Laid bs1 (encLen C k) (encVal C k) ∧ Wr wr (w.heap.size + 1) (w.heap.size + 2) v2 bs2 0 ∧ Laid bs2 0 0 ∧ (∀ g, v1.ownBlock = some g → v2.ownBlock ≠ some g) ∧ Below w.heap.size w wr ∧ (encLen C k = 0 → v1 = .slice none 0 0) from ⟨bs1, v2, bs2, q1, q2, r1, r2, ap, be, nz⟩)
      have Q := Lib.hid (And.intro q1 q2)
      have HT1 := Lib.hid hT1
      clear q1 q2 r1 r2 ap be nz hc hT1
      go_wp2_with fail
      refine (count_any (A k) _ (w.heap.size + 2) _ _ v1 bs1 _ Q.out.1 Q.out.2 HT1.out (by omega) (by omega) hx).mono ?_
      rintro e w' ⟨rfl, hp⟩
      have T : Hid (J1 w C la (.int .i64 ((k : Int) + 1)) w') := by
        refine ⟨k + 1, by omega, ret_val (by omega), ?_⟩
        rw [encLen_succ, encVal_succ, HCA.out k hlt]
        exact Two.first P.out (by have := codeLen_pos (A k); omega) ⟨rfl, hp⟩
      clear hp
      go_wp2_with fail
      go_roundw
      case rel => exact T.out
      case measure => simp [intOf]; omega
    · obtain rfl : k = la := by omega
      have Q := Lib.hid q1
      have S1 : Hid (J2 w C B k lb (.int .i64 0) wr) := ⟨0, Nat.zero_le _, rfl, v1, bs1, v2, bs2, q1, q2, r1, r2, ap, be, nz⟩
      clear q1 q2 r1 r2 ap be nz hlt
      go_wp2_with fail
      refine (len_any _ _ _ _ _ _ Q.out).mono ?_
      rintro e w' ⟨rfl, rfl⟩
      go_wp2_with fail
      clear Q
      go_loopw [39] (fun i wr => J2 w C B k lb i wr) (fun i _ => lb - (intOf i).toNat)
      case atStart => exact S1.out
      case round =>
        obtain ⟨j, hj, rfl, v1, bs1, v2, bs2, q1, q2, r1, r2, ap, be, nz⟩ := hrel
        by_cases hlt : j < lb
        · obtain ⟨bb, off, rfl, hc, hx⟩ := HB.out j hlt
          have kc := (be.cell (p := ⟨bb, off + j, none⟩) (block_lt_of_cell hc)).trans hc
          have hT1 := hT.below be hz
          have hn := HLE.out (k + j)
          have P := Lib.hid (show ∃ bs1 v2 bs2, Wr wr w.heap.size (w.heap.size + 2) v1 bs1 (encLen C (k + j)) ∧ Laid bs1 (encLen C (k + j)) (encVal C (k + j)) ∧ Wr wr (w.heap.size + 1) (w.heap.size + 2) v2 bs2 (encLen B j) ∧ Laid bs2 (encLen B j) (encVal B j) ∧ (∀ g, v1.ownBlock = some g → v2.ownBlock ≠ some g) ∧ Below w.heap.size w wr ∧ (encLen C (k + j) = 0 → v1 = .slice none 0 0) from ⟨bs1, v2, bs2, q1, q2, r1, r2, ap, be, nz⟩)
          have Q := Lib.hid (And.intro q1 q2)
          have HT1 := Lib.hid hT1
          clear q1 q2 r1 r2 ap be nz hc hT1
          go_wp2_with fail
          refine (count_any (B j) _ (w.heap.size + 2) _ _ v1 bs1 _ Q.out.1 Q.out.2 HT1.out (by omega) (by omega) hx).mono ?_
          rintro e w' ⟨rfl, hp⟩
          have T : Two w.heap.size w (encLen C (k + j) + codeLen (B j)) (encVal C (k + j) * 2 ^ codeLen (B j) + codeVal (B j)) (encLen B j) (encVal B j) w' :=
            Two.first P.out (by have := codeLen_pos (B j); omega) ⟨rfl, hp⟩
          obtain ⟨y1, ys1, y2, ys2, s1, s2, t1, t2, ap, be, nz⟩ := T
          have hT2 := hT.below be hz
          have P2 := Lib.hid (show ∃ v1 bs1 bs2, Wr w' w.heap.size (w.heap.size + 2) v1 bs1 _ ∧ Laid bs1 _ _ ∧ Wr w' (w.heap.size + 1) (w.heap.size + 2) y2 bs2 (encLen B j) ∧ Laid bs2 (encLen B j) (encVal B j) ∧ (∀ g, v1.ownBlock = some g → y2.ownBlock ≠ some g) ∧ Below w.heap.size w w' ∧ (_ = 0 → v1 = .slice none 0 0) from ⟨y1, ys1, ys2, s1, s2, t1, t2, ap, be, nz⟩)
          have Q2 := Lib.hid (And.intro t1 t2)
          have HT2 := Lib.hid hT2
          have hn2 := HLEB.out j
          clear hp s1 s2 t1 t2 ap be nz hT2 P Q HT1
          go_wp2_with fail
          refine (count_any (B j) _ (w.heap.size + 2) _ _ y2 ys2 _ Q2.out.1 Q2.out.2 HT2.out (by omega) (by omega) hx).mono ?_
          rintro e w'' ⟨rfl, hp⟩
          have T : Hid (J2 w C B k lb (.int .i64 ((j : Int) + 1)) w'') := by
            refine ⟨j + 1, by omega, ret_val (by omega), ?_⟩
            rw [← Nat.add_assoc, encLen_succ, encVal_succ, encLen_succ, encVal_succ, HCB.out j]
            exact Two.second P2.out ⟨rfl, hp⟩
          clear hp
          go_wp2_with fail
          go_roundw
          case rel => exact T.out
          case measure => simp [intOf]; omega
        · obtain rfl : j = lb := by omega
          clear hlt
          have hN0 : 0 < encLen C (k + j) := by
            have e : k + j = (k + j - 1) + 1 := by omega
            rw [e, encLen_succ]; have := codeLen_pos (C (k + j - 1)); omega
          have hN1 := HLE.out (k + j)
          have hsum := HLEN.out
          have hsumI : (encLen C k : Int) + (encLen B j : Int) = (encLen C (k + j) : Int) := by omega
          have hwrap : IntKind.i64.wrap ((encLen C k : Int) + (encLen B j : Int)) = (encLen C (k + j) : Int) := by rw [hsumI]; exact IntWalk.i64_in _ (by omega)
          have hT1 := hT.below be hz
          have Q1 := Lib.hid (And.intro q1 q2)
          have Q2 := Lib.hid (And.intro r1 r2)
          have BE := Lib.hid be
          have HT1 := Lib.hid hT1
          clear q1 q2 r1 r2 ap be nz hT1 hsumI
          go_wp2_with fail
          refine (len_any _ _ _ _ _ _ Q1.out.1).mono ?_
          rintro e w' ⟨rfl, rfl⟩
          go_wp2_with fail
          refine (len_any _ _ _ _ _ _ Q2.out.1).mono ?_
          rintro e w' ⟨rfl, rfl⟩
          go_wp2_with fail
          refine (bytes_any _ _ _ _ _ _ _ Q1.out.1 Q1.out.2 hN0 (by omega)).mono ?_
          rintro e w1 ⟨g, l, c, rfl, hbs, hB1⟩
          have hl1 : l = bs1.length := hbs.1
          have hl2 := Q1.out.2.1
          have hl0 : 0 < l := by omega
          have hl9 : l ≤ 1000 := by omega
          have hbe1 : Below w.heap.size w w1 := BE.out.trans (hB1.mono BE.out.size)
          have hw2 := Q2.out.1.below hB1
          have W2 := Lib.hid hw2
          have BE1 := Lib.hid hbe1
          have HBS := Lib.hid hbs
          have HL := Lib.hid (And.intro hl1 hl2)
          clear hbs hB1 hbe1 hw2 hl1 hl2 hsum hwrap
          have hl6 : l ≤ 1000000 := by omega
          have RC := Lib.hid (read_any g l c bs1 w1 HBS.out hl0 hl6)
          go_wp2_with fail
          refine RC.out.mono ?_
          rintro e w2 ⟨q, r, cc, rfl, hrd, hq, hB2⟩
          have hbe2 : Below w.heap.size w w2 := BE1.out.trans (hB2.mono BE1.out.size)
          have hw2 := W2.out.below hB2
          have hq1 : w.heap.size + 2 ≤ q := by have := W2.out.bw; omega
          have S2 : Hid (J3 w C k q r l cc (encLen B j) bs1 bs2 v2 (.int .i64 0) w2) := ⟨0, Nat.zero_le _, rfl, hrd, hbe2, hw2⟩
          have hq0 : q ≠ 0 := by omega
          have HV : Hid (∀ g, v2.ownBlock = some g → g ≠ q) := fun g hg => by have := (W2.out.own.lt g hg).2; omega
          clear hrd hbe2 hw2 hB2
          go_wp2_with fail
          clear HBS RC W2 BE1 HT1 BE Q2
          go_loopw [57] (fun i wr => J3 w C k q r l cc (encLen B j) bs1 bs2 v2 i wr) (fun i _ => k - (intOf i).toNat)
          case atStart => exact S2.out
          case round =>
            obtain ⟨m, hm, rfl, q1, be, q3⟩ := hrel
            by_cases hlt : m < k
            · obtain ⟨ba, off, rfl, hc, hx⟩ := HA.out m hlt
              have kc := (be.cell (p := ⟨ba, off + m, none⟩) (block_lt_of_cell hc)).trans hc
              have hT1 := hT.below be hz
              obtain ⟨pe1, pe2⟩ := part_enc (k := m) Q1.out.2 (by omega) HCM.out
              rw [HCA.out m hlt] at pe1 pe2
              have hle2 : encLen C m + codeLen (A m) ≤ 8 * l := by rw [HL.out.1]; exact pe2
              have RC := Lib.hid (rcount_any (A m) q r l cc (encLen C m) bs1 _ q1 hT1 hq0 hle2 hx pe1)
              have BE := Lib.hid be
              have Q3 := Lib.hid q3
              clear q1 be q3 hc hT1 pe1 pe2 hle2
              go_wp2_with fail
              refine RC.out.mono ?_
              rintro e w3 ⟨rfl, r1, r2⟩
              have T : Hid (J3 w C k q r l cc (encLen B j) bs1 bs2 v2 (.int .i64 ((m : Int) + 1)) w3) := by
                refine ⟨m + 1, by omega, ret_val (by omega), ?_, r2.belowQ BE.out (by omega) BE.out.size, ?_⟩
                · rw [encLen_succ, HCA.out m hlt]; exact r1
                · refine Q3.out.keepQ r2 (by omega) HV.out
              clear r1 r2
              go_wp2_with fail
              go_roundw
              case rel => exact T.out
              case measure => simp [intOf]; omega
            · obtain rfl : m = k := by omega
              clear hlt
              obtain ⟨D, hD⟩ : ∃ D, (l : Int) * 8 - ((encLen C m : Nat) : Int) = D := ⟨_, rfl⟩
              obtain ⟨D2, hD2⟩ : ∃ D2, D - ((encLen B j : Nat) : Int) = D2 := ⟨_, rfl⟩
              have LC := left_any _ _ _ _ _ _ _ q1
              rw [hD] at LC
              have hsum := HLEN.out
              have hl1 := HL.out.1
              have hl2 := HL.out.2
              have d0 : 0 ≤ D2 := by omega
              have d1 : D2 ≤ 7 := by omega
              have d2 : IntKind.i64.wrap (D - ((encLen B j : Nat) : Int)) = D2 := by rw [hD2]; exact IntWalk.i64_in _ (by omega)
              have LC := Lib.hid LC
              have Q2 := Lib.hid (And.intro q1 be)
              have Q3 := Lib.hid q3
              clear hD hD2 hsum hl1 hl2 q1 be q3
              go_wp2_with fail
              refine LC.out.mono ?_
              rintro e w3 ⟨rfl, n0, rfl⟩
              have W3 := Lib.hid (Q3.out.below (below_drewN (Below.refl _ wr) n0))
              go_wp2_with fail
              refine (len_any _ _ _ _ _ _ W3.out).mono ?_
              rintro e w' ⟨rfl, rfl⟩
              have S3 : Hid (J4 w C m j q r l cc bs1 (.int .i64 0) (wr.drewN n0)) := ⟨0, Nat.zero_le _, rfl, Q2.out.1.drewN n0, below_drewN Q2.out.2 n0⟩
              clear Q3 W3 LC Q2
              go_wp2_with fail
              clear d0 d1 d2
              go_loopw [78] (fun i wr => J4 w C m j q r l cc bs1 i wr) (fun i _ => j - (intOf i).toNat)
              case atStart => exact S3.out
              case round =>
                obtain ⟨i, hi, rfl, q1, be⟩ := hrel
                by_cases hlt : i < j
                · obtain ⟨bb, off, rfl, hc, hx⟩ := HB.out i hlt
                  have kc := (be.cell (p := ⟨bb, off + i, none⟩) (block_lt_of_cell hc)).trans hc
                  have hT1 := hT.below be hz
                  obtain ⟨pe1, pe2⟩ := part_enc (k := m + i) Q1.out.2 (by omega) HCM.out
                  rw [HCB.out i] at pe1 pe2
                  have hle2 : encLen C (m + i) + codeLen (B i) ≤ 8 * l := by rw [HL.out.1]; exact pe2
                  have RC := Lib.hid (rcount_any (B i) q r l cc (encLen C (m + i)) bs1 _ q1 hT1 hq0 hle2 hx pe1)
                  have BE := Lib.hid be
                  clear q1 be hc hT1 pe1 pe2 hle2
                  go_wp2_with fail
                  refine RC.out.mono ?_
                  rintro e w3 ⟨rfl, r1, r2⟩
                  have T : Hid (J4 w C m j q r l cc bs1 (.int .i64 ((i : Int) + 1)) w3) := by
                    refine ⟨i + 1, by omega, ret_val (by omega), ?_, r2.belowQ BE.out (by omega) BE.out.size⟩
                    rw [← Nat.add_assoc, encLen_succ, HCB.out i]; exact r1
                  clear r1 r2
                  go_wp2_with fail
                  go_roundw
                  case rel => exact T.out
                  case measure => simp [intOf]; omega
                · obtain rfl : i = j := by omega
                  clear hlt
                  have AW := Lib.hid (awake02 wr (hT.below be hz))
                  have Q2 := Lib.hid (And.intro q1 be)
                  clear q1 be
                  go_wp2_with fail
                  refine AW.out.mono ?_
                  rintro e w3 ⟨rfl, hB3⟩
                  have EC := Lib.hid (end_any q r l cc _ _ bs1 w3 (Q2.out.1.below hB3) Q1.out.2 hl0)
                  have HB3 := Lib.hid hB3
                  clear hB3
                  go_wp2_with fail
                  refine EC.out.mono ?_
                  rintro e w4 ⟨rfl, hB4⟩
                  have HB4 := Lib.hid hB4
                  clear hB4
                  go_wp2_with fail
                  go_ret
                  have h3 := Q2.out.2.trans (HB3.out.mono Q2.out.2.size)
                  exact ⟨rfl, h3.trans (HB4.out.mono h3.size)⟩
end Go.Proofs.YtdnihkmdigmnoaaDoor
