/- The document's Parse. -/
import Derived.Test.YtnabfganecghkaaDoorRrJ
namespace Go.Proofs.YtnabfganecghkaaDoor
open Go.RowKit
set_option linter.unusedVariables false

/-- what the document's Parse pays -/
def RprP (r : Res) (w : World) (y : Ending) (w' : World) : Prop :=
  ∃ kd a1 n1 m1 a2 n2 m2, y = .returned (.tuple #[.agg #[.string kd, .slice a1 n1 m1, .slice a2 n2 m2], .int .i64 (errN r)]) ∧ Below w.heap.size w w' ∧ (∀ e, r = .err e → e ≠ 0) ∧
  ∀ x l, r = .ok x l → ∃ nd, isN nd = true ∧ NdV w' (fun b => w.heap.size ≤ b) nd (.agg #[.string kd, .slice a1 n1 m1, .slice a2 n2 m2]) ∧ ∀ s, (Ln nd).1 s ↔ Lang x s
/-- a result box, a reader of one's own -/
structure PaS (w : World) (L : List UInt8) (k d : Nat) (e : Int) (h : Nat) (W : World) : Prop where
  rr : Rr W (h + 1) L k d e
  nb : Nb W h ⟨#[]⟩ nvo nvo
  bl : Below w.heap.size w W
  hs : w.heap.size ≤ h
theorem PaS.step {w W W' : World} {k d h k' d' : Nat} {L : List UInt8} {e e' : Int} (z : PaS w L k d e h W) (o : RO W (h + 1) L k' d' e' W') : PaS w L k' d' e' h W' :=
  ⟨o.1, z.nb.go o.2 (by omega), ⟨o.2.s.os.trans z.bl.os, o.2.s.tape.trans z.bl.tape, o.2.s.output.trans z.bl.output, Nat.le_trans z.bl.size o.2.size, fun b hb => by
    have := z.hs
    have := z.bl.size
    rw [o.2.s.block b (by omega) (by omega) (by simp [Value.ownBlock])]
    exact z.bl.block b hb⟩, z.hs⟩
theorem PaS.fin {w W : World} {k d h : Nat} {L : List UInt8} {e : Int} (z : PaS w L k d e h W) (u0 u1 u2 : Value) : Below w.heap.size w (((W.setCell ⟨h, 0, none⟩ u0).setCell ⟨h, 1, none⟩ u1).setCell ⟨h, 2, none⟩ u2) :=
  ((z.bl.setCell (p := ⟨h, 0, none⟩) z.hs u0).setCell (p := ⟨h, 1, none⟩) z.hs u1).setCell (p := ⟨h, 2, none⟩) z.hs u2
theorem Rr.first (w : World) (s : ByteArray) (L : List UInt8) (hs : s = tx L) : Rr (w.alloc (.cells #[.string s, .int .i64 0, .int .i64 0, .int .i64 0] 77 (0, 0))) w.heap.size L 0 0 0 := by
  subst hs
  have hb : (w.alloc (.cells #[.string (tx L), .int .i64 0, .int .i64 0, .int .i64 0] 77 (0, 0))).heap[w.heap.size]? = some (.cells #[.string (tx L), .int .i64 0, .int .i64 0, .int .i64 0] 77 (0, 0)) := heap_alloc_new w _
  have hs : w.heap.size < (w.alloc (.cells #[.string (tx L), .int .i64 0, .int .i64 0, .int .i64 0] 77 (0, 0))).heap.size := by simp
  generalize w.alloc (.cells #[.string (tx L), .int .i64 0, .int .i64 0, .int .i64 0] 77 (0, 0)) = W at *
  refine ⟨hs, ?_, ?_, ?_, ?_, by simp [World.frozen?, hb], by simp [World.frozen?, hb], by simp [World.frozen?, hb]⟩
  · rw [cell_of_row _ _ _ _ _ _ hb]; rfl
  · rw [cell_of_row _ _ _ _ _ _ hb]; rfl
  · rw [cell_of_row _ _ _ _ _ _ hb]; rfl
  · rw [cell_of_row _ _ _ _ _ _ hb]; rfl
theorem pa_end {w W : World} {h : Nat} {nd : Nd} {V : Value} (hs : w.heap.size ≤ h) (u0 u1 u2 : Value) (z : NdV W (fun b => h + 1 ≤ b) nd V) : NdV (((W.setCell ⟨h, 0, none⟩ u0).setCell ⟨h, 1, none⟩ u1).setCell ⟨h, 2, none⟩ u2) (fun b => w.heap.size ≤ b) nd V := NdV.fin hs u0 u1 u2 z
def PkI (R : Res) (L : List UInt8) (h k2 : Nat) (e2 : Int) (V : Value) (W4 : World) : Prop := match R with
  | .ok x l => e2 = 0 ∧ L.drop k2 = l ∧ k2 ≤ L.length + 5 ∧ ∃ nd, isN nd = true ∧ NdV W4 (fun b => h + 1 ≤ b) nd V ∧ ∀ s, (Ln nd).1 s ↔ Lang x s
  | .err e0 => e2 = e0 ∧ e0 ≠ 0
theorem pk_of {R : Res} {w w2 W4 : World} {L : List UInt8} {V : Value} {h k d d0 : Nat} {e : Int} (hi : NdInfo R w w2 L V k d d0 e) (A4 : Below w2.heap.size w2 W4) (hw : h + 1 ≤ w.heap.size) : PkI R L h k e V W4 := by
  cases R with
  | err e0 => exact hi
  | ok x l =>
    obtain ⟨i1, i2, i3, i4, nd, i5, i6, i7⟩ := hi
    exact ⟨i1, i3, i4, nd, i5, (i6.below A4).mono fun c hc _ => by omega, i7⟩
theorem NdV.drew {W : World} {U : Nat → Prop} {nd : Nd} {V : Value} (z : NdV W U nd V) : NdV W.drew U nd V := NdV.keep (w := W) (w' := W.drew) (U := U) (U' := U) (fun b i v h1 h2 => ⟨h2, h1⟩) z
set_option maxHeartbeats 4000000 in
set_option maxRecDepth 100000 in
theorem rparse_any (s : ByteArray) (w : World) : Calls Tryd.prog 19 #[.string s] w (RprP (parseF s.data.toList) w) := by
  obtain ⟨L, hL⟩ : ∃ L, s.data.toList = L := ⟨_, rfl⟩
  have hLs : (s.size : Int) = (L.length : Int) := by rw [← hL, Array.length_toList]; rfl
  have hsx : s = tx L := by rw [← hL, tx_of]
  rw [hL]
  obtain ⟨h, hh⟩ : ∃ h, w.heap.size = h := ⟨_, rfl⟩
  obtain ⟨W, hW⟩ : ∃ W, w.alloc (.cells #[.string ⟨#[]⟩, .slice none 0 0, .slice none 0 0] 60 (0, 0)) = W := ⟨_, rfl⟩
  have n0 : Nb W h ⟨#[]⟩ nvo nvo := hh ▸ hW ▸ Nb.new w _ _ _
  have B0 : Below w.heap.size w W := hW ▸ (Below.refl _ _).alloc (Nat.le_refl _) _
  have hWs : W.heap.size = h + 1 := by rw [← hW, ← hh]; simp
  have HH := Lib.hid (show w.heap.size ≤ h by omega)
  by_cases hlong : 64 < L.length
  · have HR := Lib.hid (parseF_long hlong)
    rw [HR.out]
    have hl : (64 : Int) < (s.size : Int) := by omega
    obtain ⟨⟨z0, z1, z2⟩, zf0, zf1, zf2⟩ := n0.cells
    have HB := Lib.hid B0
    clear hlong hLs hsx hL n0 B0 hWs
    go_enter Tryd.func19, Tryd.ntmps19
    go_wp2_with fail
    clear hW hh
    refine bodyPost_ret (v := .tuple #[.agg #[.string ⟨#[]⟩, nvo, nvo], .int .i64 9]) (by simp [results, Tryd.results19, go_sem, z0, z1, z2]) rfl ?_
    exact ⟨_, _, _, _, _, _, _, rfl, ((HB.out.setCell (p := ⟨h, 0, none⟩) HH.out _).setCell (p := ⟨h, 1, none⟩) HH.out _).setCell (p := ⟨h, 2, none⟩) HH.out _, fun e he => by cases he; decide, fun x l hx => by cases hx⟩
  · have hl : ¬ (64 : Int) < (s.size : Int) := by omega
    have HS := Lib.hid (show parseF L = match patF 100 1 none .eps L with
      | .err e => .err e
      | .ok x q => if q = [] then .ok x [] else .err 27 by unfold parseF; rw [if_neg hlong]; rfl)
    obtain ⟨R, hR⟩ : ∃ R, patF 100 1 none .eps L = R := ⟨_, rfl⟩
    rw [hR] at HS
    obtain ⟨W1, hW1⟩ : ∃ W1, W.alloc (.cells #[.string s, .int .i64 0, .int .i64 0, .int .i64 0] 77 (0, 0)) = W1 := ⟨_, rfl⟩
    have r1 : Rr W1 (h + 1) L 0 0 0 := by
      have := Rr.first W s L hsx
      rw [hWs, hW1] at this
      exact this
    have P1 := Lib.hid (show PaS w L 0 0 0 h W1 from ⟨r1, n0.below (hW1 ▸ (Below.refl _ _).alloc (Nat.le_refl _) _), hW1 ▸ B0.alloc B0.size _, HH.out⟩)
    have HPT := Lib.hid (show Calls Tryd.prog 29 #[.pointer (some ⟨h + 1, 0, none⟩)] W1 (RpP R (80 + 10 * 100) W1 (h + 1) L 0) from by
      have := rpat_any 100 (h + 1) L L 0 0 W1 r1 rfl (by omega) (by omega) (by omega) (by omega) (by omega)
      rw [patR_on (by omega), hR] at this
      exact this)
    have HW1 := Lib.hid hW1
    have hL64 : L.length ≤ 64 := by omega
    have HLS := Lib.hid hLs
    have HZ1 := Lib.hid (show W1.heap.size = h + 2 by rw [← hW1]; simp [hWs])
    clear hlong hsx hL n0 B0 r1 hW1 hR hLs
    go_enter Tryd.func19, Tryd.ntmps19
    go_wp2_with fail
    rw [HW1.out]
    clear hW hh hWs
    refine HPT.out.mono ?_
    rintro y w2 ⟨kd, hs, ks, k2, d2, e2, rfl, ⟨a1, n1, m1, rfl⟩, ⟨a2, n2, m2, rfl⟩, ho, hkb, hd1, hd2, hinf⟩
    obtain ⟨b, hb⟩ : ∃ b, w2.heap.size = b := ⟨_, rfl⟩
    obtain ⟨W4, hW4⟩ : ∃ W4, w2.alloc (.cells #[.string kd, .slice a1 n1 m1, .slice a2 n2 m2] 60 (0, 0)) = W4 := ⟨_, rfl⟩
    have A4 : Below w2.heap.size w2 W4 := hW4 ▸ (Below.refl _ _).alloc (Nat.le_refl _) _
    have P4 := Lib.hid ((P1.out.step ho).step ⟨ho.1.below A4, Go1.of_below A4⟩)
    have B4 := Lib.hid (show Nb W4 b kd (.slice a1 n1 m1) (.slice a2 n2 m2) from hb ▸ hW4 ▸ Nb.new w2 _ _ _)
    have HBH := Lib.hid (show h + 2 ≤ b by have := ho.2.size; have := HZ1.out; omega)
    have HIN := Lib.hid (pk_of (h := h) hinf.out A4 (by have := HZ1.out; omega))
    clear ho hkb hd1 hd2 hinf A4
    cases R with
    | err e0 =>
      obtain ⟨rfl, he0⟩ := HIN.out
      have heb : (e2 == 0) = false := z_no 0 he0
      have HE := Lib.hid he0
      have HR := Lib.hid (show parseF L = .err e2 from HS.out)
      have c3 := P4.out.rr.c3
      obtain ⟨⟨z0, z1, z2⟩, zf0, zf1, zf2⟩ := P4.out.nb.cells
      obtain ⟨⟨x0, x1, x2⟩, xf0, xf1, xf2⟩ := B4.out.cells
      have hbh : ¬ b = h := by have := HBH.out; omega
      have hhb : ¬ h = b := by have := HBH.out; omega
      clear he0
      go_wp2_with fail
      clear hW4 hb
      go_region
      all_goals
        go_wp2_with fail
        refine bodyPost_ret (v := .tuple #[.agg #[.string kd, .slice a1 n1 m1, .slice a2 n2 m2], .int .i64 e2]) (by simp [results, Tryd.results19, go_sem, z0, z1, z2]) rfl ?_
        rw [HR.out]
        exact ⟨kd, a1, n1, m1, a2, n2, m2, rfl, (P4.out.fin _ _ _).drew, fun e he => by cases he; exact HE.out, fun x l hx => by cases hx⟩
    | ok x l =>
      obtain ⟨rfl, hl2, hk2, nd, hnd, hnv, hln⟩ := HIN.out
      have c3 := P4.out.rr.c3
      have c1 := P4.out.rr.c1
      have hbh : ¬ b = h := by have := HBH.out; omega
      have hhb : ¬ h = b := by have := HBH.out; omega
      by_cases hkl : k2 < L.length
      · have hne : ¬ l = [] := by
          intro e
          rw [e] at hl2
          have := congrArg List.length hl2
          simp at this
          omega
        have HR := Lib.hid (show parseF L = .err 27 from by rw [HS.out]; show (if l = [] then Res.ok x [] else Res.err 27) = _; rw [if_neg hne])
        have hki : (k2 : Int) < (s.size : Int) := by have := HLS.out; omega
        clear hl2 hk2 hnd hnv hln hne hkl
        go_wp2_with fail
        refine (rwrong_any _ _ _ _ _ 27 _ P4.out.rr).mono ?_
        rintro y w5 ⟨rfl, ho⟩
        have P5 := Lib.hid (P4.out.step (show RO _ (h + 1) L k2 d2 27 w5 from ho))
        have B5 := Lib.hid (B4.out.go ho.2 (by have := HBH.out; omega))
        have c3 := P5.out.rr.c3
        obtain ⟨⟨z0, z1, z2⟩, zf0, zf1, zf2⟩ := P5.out.nb.cells
        obtain ⟨⟨x0, x1, x2⟩, xf0, xf1, xf2⟩ := B5.out.cells
        clear ho c1 hki
        go_wp2_with fail
        clear hW4 hb
        go_region
        all_goals
          go_wp2_with fail
          refine bodyPost_ret (v := .tuple #[.agg #[.string kd, .slice a1 n1 m1, .slice a2 n2 m2], .int .i64 27]) (by simp [results, Tryd.results19, go_sem, z0, z1, z2]) rfl ?_
          rw [HR.out]
          exact ⟨kd, a1, n1, m1, a2, n2, m2, rfl, (P5.out.fin _ _ _).drew, fun e he => by cases he; decide, fun x l hx => by cases hx⟩
      · have hne : l = [] := by
          rw [← hl2]
          exact List.drop_eq_nil_of_le (by omega)
        have HR := Lib.hid (show parseF L = .ok x [] from by rw [HS.out]; show (if l = [] then Res.ok x [] else Res.err 27) = _; rw [if_pos hne])
        have hki : ¬ (k2 : Int) < (s.size : Int) := by have := HLS.out; omega
        have HND := Lib.hid (And.intro hnd (And.intro hnv hln))
        obtain ⟨⟨z0, z1, z2⟩, zf0, zf1, zf2⟩ := P4.out.nb.cells
        obtain ⟨⟨x0, x1, x2⟩, xf0, xf1, xf2⟩ := B4.out.cells
        clear hl2 hk2 hnd hnv hln hne hkl
        go_wp2_with fail
        clear hW4 hb
        go_region
        all_goals
          go_wp2_with fail
          refine bodyPost_ret (v := .tuple #[.agg #[.string kd, .slice a1 n1 m1, .slice a2 n2 m2], .int .i64 0]) (by simp [results, Tryd.results19, go_sem, z0, z1, z2]) rfl ?_
          rw [HR.out]
          refine ⟨kd, a1, n1, m1, a2, n2, m2, rfl, (P4.out.fin _ _ _).drew, (fun e he => by cases he), ?_⟩
          intro x2 l2 hx
          injection hx with hx1 hx2
          subst hx1
          exact ⟨nd, HND.out.1, (pa_end P4.out.hs _ _ _ HND.out.2.1).drew, HND.out.2.2⟩
end Go.Proofs.YtnabfganecghkaaDoor
