/- Cells: all buckets by where they are. -/
import Derived.Test.YtoombgjjdkocjaaHsK
namespace Go.Proofs.Ytoombgjjdkocjaa
open Go.RowKit Go.Sort Go.Maps
set_option linter.unusedVariables false

/-- what all buckets together have, by where they are -/
def cF (sc zc : Int) (X Y : List (Int × Int)) : F3 := if zc = 0 then gF sc X Y else upd (gF sc X Y) 0 0 0 zc
theorem Mp.lift {w w1 w2 : World} {b n : Nat} {f : F3} (h : Mp w1 w2 b n f) (hb : Below w.heap.size w w1) : Mp w w2 b n f :=
  ⟨h.1, Nat.le_trans hb.size h.2.1, hb.trans (h.2.2.mono hb.size)⟩
theorem box8b {w0 : World} {g : Nat} {t : TypeId} {v0 v1 v2 v3 v4 v5 v6 v7 : Value} (h : w0.heap[g]? = some (.cells #[v0, v1, v2, v3, v4, v5, v6, v7] t (0, 0))) (W : World) (hb : RowKit.Below w0.heap.size w0 W) :
    W.cell? ⟨g, 0, none⟩ = some v0 ∧ W.cell? ⟨g, 1, none⟩ = some v1 ∧ W.cell? ⟨g, 2, none⟩ = some v2 ∧ W.cell? ⟨g, 3, none⟩ = some v3 ∧ W.cell? ⟨g, 4, none⟩ = some v4 ∧ W.cell? ⟨g, 5, none⟩ = some v5 ∧ W.cell? ⟨g, 6, none⟩ = some v6 ∧ W.cell? ⟨g, 7, none⟩ = some v7 := by
  have hg : g < w0.heap.size := (Array.getElem?_eq_some_iff.1 h).1
  obtain ⟨a, b, c, d, e, f, g', i, _⟩ := box8 ((hb.block g hg).trans h)
  exact ⟨a, b, c, d, e, f, g', i⟩
def CutC (w0 : World) (f : F3) (s3 : Value) (wx : World) : Prop := ∃ b n, s3 = .map (some b) ∧ n ≤ 2000 ∧ Mp w0 wx b n f
set_option maxHeartbeats 2000000 in
set_option maxRecDepth 100000 in
theorem cells_any (k s z zc ct : Int) (sm : Value) (A B : Option Addr) (c d : Nat) (P Q : List (Int × Int)) (w : World) (hs : I64 s) (z0 : 0 ≤ zc) (z1 : zc ≤ 18446744073709551615) (hP : Bk w A P) (hQ : Bk w B Q) (hlp : P.length ≤ 1000) (hlq : Q.length ≤ 1000) (htot : cnt (P ++ Q) ≤ 18446744073709551615) :
    Calls Try.prog 10 #[.agg #[.int .i64 k, .int .i64 s, .int .i64 z, .int .u64 zc, .int .u64 ct, sm, .slice A P.length c, .slice B Q.length d]] w fun e w' => ∃ b n, e = .returned (.map (some b)) ∧ n ≤ 2001 ∧ Mp w w' b n (cF s zc P Q) := by
  have hb0 : Below w.heap.size w (w.alloc (.cells #[.int .i64 k, .int .i64 s, .int .i64 z, .int .u64 zc, .int .u64 ct, sm, .slice A P.length c, .slice B Q.length d] 25)) := (Below.refl _ _).alloc (Nat.le_refl _) _
  have HBX := Lib.hid (box8b (heap_alloc_new w (.cells #[.int .i64 k, .int .i64 s, .int .i64 z, .int .u64 zc, .int .u64 ct, sm, .slice A P.length c, .slice B Q.length d] 25)))
  have HP := Lib.hid (hP.below hb0)
  have HQ := Lib.hid (hQ.below hb0)
  have HB0 := Lib.hid hb0
  have HS := Lib.hid hs
  clear hP hQ hb0 hs
  go_enter Try.func10, Try.ntmps10
  go_upto_region 1 with fail
  obtain ⟨w0, hw0⟩ : ∃ W, w.alloc (.cells #[.int .i64 k, .int .i64 s, .int .i64 z, .int .u64 zc, .int .u64 ct, sm, .slice A P.length c, .slice B Q.length d] 25) = W := ⟨_, rfl⟩
  rw [hw0] at HBX HP HQ HB0
  rw [hw0]
  clear hw0
  go_cut [3] from 4 (fun s3 wx => CutC w0 (gF s P Q) s3 wx)
  case first =>
    obtain ⟨x0, x1, x2, x3, x4, x5, x6, x7⟩ := HBX.out w0 (Below.refl _ _)
    go_region_with (first
      | (go_at_call 23; ((with_reducible refine (both_any _ _ _ _ _ _ _ _ _ _ _ _ _).mono ?_); rintro e w1 ⟨rfl, hb1⟩; have hb1 : Below w0.heap.size w0 w1 := ⟨hb1.os, hb1.tape, hb1.output, hb1.size, hb1.block⟩; have HB1 := Lib.hid hb1; obtain ⟨y0, y1, y2, y3, y4, y5, y6, y7⟩ := HBX.out w1 hb1; clear hb1))
      | (go_at_call 22; (refine (gather_any s A B c d P Q _ HS.out (HP.out.below HB1.out) (HQ.out.below HB1.out) hlp hlq htot).mono ?_); rintro e w2 ⟨b, n, rfl, hn, hM⟩; have HM := Lib.hid (And.intro hn (hM.lift HB1.out)); clear hM hn)
      | fail)
    all_goals (go_wp2_with fail)
    all_goals go_meet
    all_goals exact ⟨_, _, rfl, HM.out.1, HM.out.2⟩
  case rest =>
    obtain ⟨b, n, rfl, hn, hM⟩ := hcut
    have HM := Lib.hid (And.intro hn hM)
    obtain ⟨x0, x1, x2, x3, x4, x5, x6, x7⟩ := HBX.out _ hM.2.2
    clear hM hn
    have HB1 := Lib.hid (HB0.out.trans (HM.out.2.2.2.mono HB0.out.size))
    by_cases hz : zc = 0
    · have HZ := Lib.hid hz
      have hz1 : (zc != 0) = false := by simpa using hz
      clear hz
      go_wp2_with fail
      go_ret
      refine ⟨b, n, rfl, Nat.le_succ_of_le HM.out.1, ?_⟩
      unfold cF
      rw [if_pos HZ.out]
      exact HM.out.2.lift HB0.out
    · have HZ := Lib.hid hz
      have hz1 : (zc != 0) = true := by simpa using hz
      clear hz
      obtain ⟨D, hD1, hD2⟩ := HM.out.2.1
      have HD := Lib.hid (And.intro hD1 hD2)
      clear hD1 hD2
      have hkz := Lib.hid (key_mk (s := 0) (c := 0) (i := 0) ⟨by decide, by decide⟩ ⟨by decide, by decide⟩ ⟨by decide, by decide⟩)
      have hnl : n < maxLen := by have := HM.out.1; unfold maxLen; omega
      go_wp2_with (refine wpList_mapUpdate_own _ rfl _ _ _ _ rfl 32 22 lawK Try.underlying29 (plainElem Try.prog 22) b n D rfl HD.out.1 hnl _ _ _ rfl rfl hkz.out _ _ (plainElem_int Try.underlying22 (wfu_of ⟨z0, z1⟩)) ?_)
      intro w2 ho hg
      have HE := Lib.hid (And.intro ho hg)
      clear ho hg
      go_wp2_with fail
      go_ret
      refine ⟨b, n + 1, rfl, Nat.succ_le_succ HM.out.1, ?_⟩
      unfold cF
      rw [if_neg HZ.out]
      have hbl := HM.out.2.2.1
      have hbz : w.heap.size ≤ b := Nat.le_trans HB0.out.size hbl
      refine ⟨⟨_, HE.out.1, HD.out.2.put ⟨by decide, by decide⟩ ⟨by decide, by decide⟩ ⟨by decide, by decide⟩ HZ.out⟩, hbz, ?_⟩
      exact HB1.out.grown HE.out.2 HB1.out.size (fun k hk => by cases hk; exact hbz)
end Go.Proofs.Ytoombgjjdkocjaa
