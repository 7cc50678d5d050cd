import Derived.Test.YtakomfnajeolcaaGreatDoorCtA35
set_option linter.unusedVariables false
/- Why samples are no chunk (checked). -/
namespace Go.Proofs.YtakomfnajeolcaaGreatDoor.Ch
open Go.RowKit Go.Sort Go.Proofs.YtakomfnajeolcaaGreatDoor.En
set_option linter.unusedVariables false

theorem setA4 (a0 a1 a2 a3 b0 b1 b2 b3 : Value) : setA #[a0, a1, a2, a3] 0 [b0, b1, b2, b3] = #[b0, b1, b2, b3] := by
  simp [setA]
/-- why samples behind others are no more of a chunk -/
def chkFrom : Int → SV → List Int → List Int → List SV → Int
  | _, _, _, _, [] => 0
  | k, s0, xs, ys, s :: r => if inT s.t = true then (if chk s.h = 0 then (if fitsB k s0 xs ys s = true then chkFrom (k + 1) s (Tk.uni xs (Tk.idsL s.h.P)) (Tk.uni ys (Tk.idsL s.h.Q)) r else 6) else chk s.h) else 4
/-- why samples are no chunk -/
def chkF (l : List SV) : Int := if l = [] then 30 else chkFrom 0 zS [] [] l
/-- what is left to be asked behind the first k -/
def RestE (l : List SV) (k : Nat) : Int := chkFrom (k : Int) (lastS (l.take k)) (xsL (l.take k)) (ysL (l.take k)) (l.drop k)
theorem rest_at {l : List SV} {k : Nat} {x : SV} (h : l[k]? = some x) : RestE l k = if inT x.t = true then (if chk x.h = 0 then (if fitsB (k : Int) (lastS (l.take k)) (xsL (l.take k)) (ysL (l.take k)) x = true then RestE l (k + 1) else 6) else chk x.h) else 4 := by
  obtain ⟨hk, e⟩ := List.getElem?_eq_some_iff.1 h
  unfold RestE
  rw [take_s h, lastS_snoc, xsL_snoc, ysL_snoc, List.drop_eq_getElem_cons hk, e, chkFrom]
  rfl
theorem fitsB_ix {k : Int} {s0 s : SV} {xs ys : List Int} (h : fitsB k s0 xs ys s = true) (hk : k ≠ 0) : k < 32 ∧ (Tk.uni xs (Tk.idsL s.h.P)).length ≤ 512 ∧ (Tk.uni ys (Tk.idsL s.h.Q)).length ≤ 512 := by
  unfold fitsB at h
  rw [decide_eq_false hk, Bool.false_or] at h
  simp only [Bool.and_eq_true, decide_eq_true_eq] at h
  exact ⟨h.1, h.2.2.2.2⟩
theorem ix_step {k : Nat} {l : List SV} {x : SV} (hs : l[k]? = some x) (o : Ok x.h) (h1 : Ix (xsL (l.take k)) 512) (h2 : Ix (ysL (l.take k)) 512) (hk : k ≤ 32) (hf : fitsB (k : Int) (lastS (l.take k)) (xsL (l.take k)) (ysL (l.take k)) x = true) : Ix (xsL (l.take (k + 1))) 512 ∧ Ix (ysL (l.take (k + 1))) 512 ∧ k + 1 ≤ 32 := by
  have u1 := h1.uni (Ix.P o)
  have u2 := h2.uni (Ix.Q o)
  rw [take_s hs, xsL_snoc, ysL_snoc]
  by_cases h0 : (k : Int) = 0
  · obtain rfl : k = 0 := by omega
    have e1 := (Tk.uni_uni (xsL (l.take 0)) (Tk.idsL x.h.P)).2.2
    have e2 := (Tk.uni_uni (ysL (l.take 0)) (Tk.idsL x.h.Q)).2.2
    have l1 := (Ix.P o).len
    have l2 := (Ix.Q o).len
    refine ⟨⟨u1.asc, u1.inb, ?_⟩, ⟨u2.asc, u2.inb, ?_⟩, by omega⟩
    · have : (xsL (l.take 0)).length = 0 := rfl
      omega
    · have : (ysL (l.take 0)).length = 0 := rfl
      omega
  · obtain ⟨a, b, c⟩ := fitsB_ix hf h0
    exact ⟨⟨u1.asc, u1.inb, b⟩, ⟨u2.asc, u2.inb, c⟩, by omega⟩
/-- what the loop keeps -/
structure CkI (w : World) (g : Nat) (l : List SV) (k : Nat) (wr : World) : Prop where
  ah : AhB w (g + 1) k (lastS (l.take k)) (xsL (l.take k)) (ysL (l.take k)) wr
  bel : Below w.heap.size w wr
  row : wr.heap[g]? = some (.cells #[.int .i64 0, .slice none 0 0, .int .i64 0, .slice none 0 0] 54 (0, 0))
  lt : g + 1 < wr.heap.size
  rest : chkFrom 0 zS [] [] l = RestE l k
  ok : ∀ x ∈ l.take k, Ok x.h
  ix : Ix (xsL (l.take k)) 512
  iy : Ix (ysL (l.take k)) 512
  k32 : k ≤ 32
theorem inT_true {t : Int} : inT t = true ↔ 0 ≤ t ∧ t ≤ 1099511627776 := by unfold inT; rw [Bool.and_eq_true, decide_eq_true_eq, decide_eq_true_eq]
/-- the sums of samples have 64 bits -/
def Sums (l : List SV) : Prop := ∀ x ∈ l, inI64 x.h.sm
theorem ok_sb {w : World} {x : SV} {A B : Option Addr} (h : Sb w x A B) (hc : chk x.h = 0) (hs : inI64 x.h.sm) : Ok x.h :=
  Ok.of hc h.z0 hs (fun p hp => (h.P.2.1 p hp).2.2.1) (fun p hp => (h.Q.2.1 p hp).2.2.1)
set_option maxHeartbeats 8000000 in
set_option maxRecDepth 100000 in
theorem checked_any (D : Option Addr) (n cp : Nat) (l : List SV) (w : World) (hn : n = l.length) (hn1 : (n : Int) ≤ 70368744177664) (h : Sm w D l) (hsm : Sums l) :
    Calls Tryz.prog 22 #[.slice D n cp] w fun e w' => ∃ (f1 : Int) (A1 : Option Addr) (n1 c1 : Nat) (f2 : Int) (B1 : Option Addr) (n2 d1 : Nat), e = .returned (.tuple #[.agg #[.int .i64 f1, .slice A1 n1 c1, .int .i64 f2, .slice B1 n2 d1], .int .i64 (chkF l)]) ∧ (chkF l = 0 → LyV w' (xsL l) (ysL l) (.agg #[.int .i64 f1, .slice A1 n1 c1, .int .i64 f2, .slice B1 n2 d1])) ∧ Below w.heap.size w w' := by
  obtain ⟨g, hg⟩ : ∃ g, w.heap.size = g := ⟨_, rfl⟩
  obtain ⟨w1, hw1⟩ : ∃ W, w.alloc (.cells #[.int .i64 0, .slice none 0 0, .int .i64 0, .slice none 0 0] 54) = W := ⟨_, rfl⟩
  obtain ⟨w2, hw2⟩ : ∃ W, w1.alloc (.cells #[.int .i64 0, .int .i64 0, .int .i64 0, .int .i64 0, .int .i64 0, .int .u64 0, .int .u64 0, .int .i64 0, .slice none 0 0, .slice none 0 0, .int .i64 0, .slice none 0 0, .int .i64 0, .slice none 0 0] 91) = W := ⟨_, rfl⟩
  have hg1 : w1.heap.size = g + 1 := by rw [← hw1]; simp [hg]
  have x0 : w1.heap[g]? = some (.cells #[.int .i64 0, .slice none 0 0, .int .i64 0, .slice none 0 0] 54 (0, 0)) := by rw [← hw1, ← hg]; exact heap_alloc_new _ _
  obtain ⟨x1, x2, hb⟩ := two_alloc w (.cells #[.int .i64 0, .slice none 0 0, .int .i64 0, .slice none 0 0] 54) (.cells #[.int .i64 0, .int .i64 0, .int .i64 0, .int .i64 0, .int .i64 0, .int .u64 0, .int .u64 0, .int .i64 0, .slice none 0 0, .slice none 0 0, .int .i64 0, .slice none 0 0, .int .i64 0, .slice none 0 0] 91)
  rw [hw1, hw2] at x1 x2 hb
  have hb1 : Below w.heap.size w w1 := by rw [← hw1]; exact (Below.refl _ _).alloc (Nat.le_refl _) _
  rw [hg] at x1 x2
  have HN := Lib.hid hn
  have HS := Lib.hid h
  have HM := Lib.hid hsm
  have HX := Lib.hid (And.intro x1 x2)
  have HX0 := Lib.hid x0
  have HLT := Lib.hid (And.intro (Array.getElem?_eq_some_iff.1 x1).1 (Array.getElem?_eq_some_iff.1 x2).1)
  have HB1 := Lib.hid hb1
  have HB := Lib.hid hb
  have HG := Lib.hid hg
  have HW1 := Lib.hid hw1
  have HW2 := Lib.hid (And.intro hw2 hg1)
  clear hn h hsm x0 x1 x2 hb hb1 hw2 hg1
  go_enter Tryz.func22, Tryz.ntmps22
  by_cases h0 : n = 0
  · subst h0
    have HE := Lib.hid (show chkF l = 30 ∧ (30 : Int) ≠ 0 from ⟨by unfold chkF; rw [if_pos (List.eq_nil_of_length_eq_zero HN.out.symm)], by decide⟩)
    have hx0 := HX0.out
    have HH := Lib.hid hw1
    have z0 := bx hx0 0 _ rfl
    have z1 := bx hx0 1 _ rfl
    have z2 := bx hx0 2 _ rfl
    have z3 := bx hx0 3 _ rfl
    clear hw1 hg hx0
    go_wp2_with fail
    rw [HH.out]
    exact bodyPost_ret (v := .tuple #[.agg #[.int .i64 0, .slice none 0 0, .int .i64 0, .slice none 0 0], .int .i64 30]) (by simp [results, Tryz.results22, go_sem, HG.out, z0, z1, z2, z3]) rfl ⟨_, _, _, _, _, _, _, _, by rw [HE.out.1], fun h0 => absurd (HE.out.1.symm.trans h0) HE.out.2, HB1.out⟩
  · have h0' : ¬ (n : Int) = 0 := by omega
    have hw2 := HW2.out.1
    have hg1 := HW2.out.2
    have HE0 := Lib.hid (show chkF l = chkFrom 0 zS [] [] l from by unfold chkF; rw [if_neg (fun e => by have := HN.out; rw [e] at this; exact h0 this)])
    go_wp2_with fail
    have hbz : ((n : Int) == 0) = false := beq_eq_false_iff_ne.2 (by omega)
    simp only [hbz]
    clear h0' h0 hw1 hw2 hg1 hg hbz
    go_loopw [7, 14] (fun _ i wr => ∃ k : Nat, k ≤ n ∧ i = .int .i64 k ∧ Hid (CkI w g l k wr)) (fun _ i _ => n - (intOf i).toNat)
    case atStart => exact ⟨0, by omega, rfl, Lib.hid ⟨⟨none, none, 0, 0, none, none, 0, 0, HX.out.2, ⟨Bk.nil _ _, Bk.nil _ _⟩, ⟨Tk.Cl.nil _ _, Tk.Cl.nil _ _⟩, (fun a ha => by cases ha), fun a ha => by cases ha⟩, HB.out, HX.out.1, HLT.out.2, rfl, (fun x hx => by cases hx), ⟨Ix.nil.asc, Ix.nil.inb, by show (0 : Nat) ≤ 512; decide⟩, ⟨Ix.nil.asc, Ix.nil.inb, by show (0 : Nat) ≤ 512; decide⟩, by omega⟩⟩
    case round =>
      obtain ⟨k, hk, rfl, HR⟩ := hrel
      by_cases hlt : k < n
      · have hki : (k : Int) < (n : Int) := by omega
        obtain ⟨x, hs⟩ : ∃ s, l[k]? = some s := ⟨_, List.getElem?_eq_getElem (by have := HN.out; omega)⟩
        obtain ⟨b, o, rfl, hat⟩ := HS.out.at_ hs
        obtain ⟨A2, B2, c2, d2, ⟨a0, a1, a2, a3, a4, a5, a6, a7, a8⟩, hsb⟩ := hat.cells
        have HSB := Lib.hid (And.intro hsb hs)
        have HXM := Lib.hid (HM.out x (List.mem_of_getElem? hs))
        replace a0 := (HR.out.bel.cell (block_lt_of_cell a0)).trans a0
        replace a1 := (HR.out.bel.cell (block_lt_of_cell a1)).trans a1
        replace a2 := (HR.out.bel.cell (block_lt_of_cell a2)).trans a2
        replace a3 := (HR.out.bel.cell (block_lt_of_cell a3)).trans a3
        replace a4 := (HR.out.bel.cell (block_lt_of_cell a4)).trans a4
        replace a5 := (HR.out.bel.cell (block_lt_of_cell a5)).trans a5
        replace a6 := (HR.out.bel.cell (block_lt_of_cell a6)).trans a6
        replace a7 := (HR.out.bel.cell (block_lt_of_cell a7)).trans a7
        replace a8 := (HR.out.bel.cell (block_lt_of_cell a8)).trans a8
        obtain ⟨W1, hW1⟩ : ∃ W1, wr.alloc (.cells #[.int .i64 x.t, .int .i64 x.h.k, .int .i64 x.h.s, .int .i64 x.h.z, .int .u64 x.h.zc, .int .u64 x.h.ct, .int .i64 x.h.sm, .slice A2 x.h.P.length c2, .slice B2 x.h.Q.length d2] 41 (0, 0)) = W1 := ⟨_, rfl⟩
        obtain ⟨g2, hg2⟩ : ∃ g, wr.heap.size = g := ⟨_, rfl⟩
        have hx9 : W1.heap[g2]? = some (.cells #[.int .i64 x.t, .int .i64 x.h.k, .int .i64 x.h.s, .int .i64 x.h.z, .int .u64 x.h.zc, .int .u64 x.h.ct, .int .i64 x.h.sm, .slice A2 x.h.P.length c2, .slice B2 x.h.Q.length d2] 41 (0, 0)) := by rw [← hW1, ← hg2]; exact heap_alloc_new _ _
        have hb3 : Below wr.heap.size wr W1 := by rw [← hW1]; exact (Below.refl _ _).alloc (Nat.le_refl _) _
        have hgl : g + 1 < W1.heap.size := Nat.lt_of_lt_of_le HR.out.lt hb3.size
        have hx0 := (hb3.block g (by have := HR.out.lt; omega)).trans HR.out.row
        have HX9 := Lib.hid (And.intro hx9 (And.intro hx0 (And.intro (Array.getElem?_eq_some_iff.1 hx9).1 hgl)))
        have HB3 := Lib.hid (HR.out.bel.trans (hb3.mono HR.out.bel.size))
        have HB3' := Lib.hid hb3
        have q0 := bx hx9 0 _ rfl
        have q1 := bx hx9 1 _ rfl
        have q2 := bx hx9 2 _ rfl
        have q3 := bx hx9 3 _ rfl
        have q4 := bx hx9 4 _ rfl
        have q5 := bx hx9 5 _ rfl
        have q6 := bx hx9 6 _ rfl
        have q7 := bx hx9 7 _ rfl
        have q8 := bx hx9 8 _ rfl
        clear hat hsb hs hx9 hx0 hb3 hgl
        have hrest := rest_at HSB.out.2
        have HRS := Lib.hid (HE0.out.trans (HR.out.rest.trans hrest))
        clear hrest
        by_cases ht : 0 ≤ x.t ∧ x.t ≤ 1099511627776
        · obtain ⟨t0, t1⟩ := ht
          have t0' : ¬ x.t < 0 := by omega
          have t1' : ¬ 1099511627776 < x.t := by omega
          have HT := Lib.hid (inT_true.2 ⟨t0, t1⟩)
          clear t0 t1
          go_wp2_with fail
          refine (check_any x.h.k x.h.s x.h.z x.h.zc x.h.ct (.int .i64 x.h.sm) A2 B2 c2 d2 x.h.P x.h.Q W1 HSB.out.1.z0 HSB.out.1.z1 (HSB.out.1.P.below HB3.out) (HSB.out.1.Q.below HB3.out)).mono ?_
          rintro e w3 ⟨rfl, hb4⟩
          have HB4 := Lib.hid hb4
          obtain ⟨z, hz⟩ : ∃ z, chk x.h = z := ⟨_, rfl⟩
          have HZ := Lib.hid hz
          rw [show checkF x.h.k x.h.s x.h.z x.h.zc x.h.ct x.h.P x.h.Q = z from hz]
          clear hz t0' t1'
          clear q0 q1 q2 q3 q4 q5 q6 q7 q8
          by_cases hz0 : z = 0
          · subst hz0
            have HOK := Lib.hid (ok_sb HSB.out.1 HZ.out HXM.out)
            have hy9 := (hb4.block g2 HX9.out.2.2.1).trans HX9.out.1
            obtain ⟨A0, B0, c0, d0, A1, B1, c1, d1, hq, hbk, hly, hn1, hn2⟩ := HR.out.ah
            obtain ⟨s0, hs0⟩ : ∃ z, lastS (l.take k) = z := ⟨_, rfl⟩
            obtain ⟨f1, hf1⟩ : ∃ z, Tk.fstL (xsL (l.take k)) = z := ⟨_, rfl⟩
            obtain ⟨n1, hn1'⟩ : ∃ z, (Tk.runsL (xsL (l.take k))).length = z := ⟨_, rfl⟩
            obtain ⟨f2, hf2⟩ : ∃ z, Tk.fstL (ysL (l.take k)) = z := ⟨_, rfl⟩
            obtain ⟨n2, hn2'⟩ : ∃ z, (Tk.runsL (ysL (l.take k))).length = z := ⟨_, rfl⟩
            rw [hs0] at hbk
            have HWW := Lib.hid (HB3'.out.trans (hb4.mono HB3'.out.size))
            have HW3 := Lib.hid (HR.out.bel.trans (HWW.out.mono HR.out.bel.size))
            have HY := Lib.hid (show AhV w3 (k : Int) s0 (xsL (l.take k)) (ysL (l.take k)) (.agg #[.int .i64 (k : Int), .int .i64 s0.t, .int .i64 s0.h.k, .int .i64 s0.h.s, .int .i64 s0.h.z, .int .u64 s0.h.zc, .int .u64 s0.h.ct, .int .i64 s0.h.sm, .slice A0 s0.h.P.length c0, .slice B0 s0.h.Q.length d0, .int .i64 f1, .slice A1 n1 c1, .int .i64 f2, .slice B1 n2 d1]) from
              ⟨A0, B0, c0, d0, A1, B1, c1, d1, by rw [hf1, hn1', hf2, hn2'], ⟨hbk.1.below HW3.out, hbk.2.below HW3.out⟩, hly.1.below HWW.out, hly.2.below HWW.out⟩)
            have HL0 := Lib.hid hs0
            rw [hs0, hf1, hn1', hf2, hn2'] at hq
            have hq1 := (HWW.out.block (g + 1) HR.out.lt).trans hq
            have HQ1 := Lib.hid (And.intro hq1 hy9)
            have p0 := bx hq1 0 _ rfl
            have p1 := bx hq1 1 _ rfl
            have p2 := bx hq1 2 _ rfl
            have p3 := bx hq1 3 _ rfl
            have p4 := bx hq1 4 _ rfl
            have p5 := bx hq1 5 _ rfl
            have p6 := bx hq1 6 _ rfl
            have p7 := bx hq1 7 _ rfl
            have p8 := bx hq1 8 _ rfl
            have p9 := bx hq1 9 _ rfl
            have p10 := bx hq1 10 _ rfl
            have p11 := bx hq1 11 _ rfl
            have p12 := bx hq1 12 _ rfl
            have p13 := bx hq1 13 _ rfl
            have q0 := bx hy9 0 _ rfl
            have q1 := bx hy9 1 _ rfl
            have q2 := bx hy9 2 _ rfl
            have q3 := bx hy9 3 _ rfl
            have q4 := bx hy9 4 _ rfl
            have q5 := bx hy9 5 _ rfl
            have q6 := bx hy9 6 _ rfl
            have q7 := bx hy9 7 _ rfl
            have q8 := bx hy9 8 _ rfl
            have HLST := Lib.hid (last_ok HR.out.ok (show (l.take k).length = k by rw [List.length_take]; have := HN.out; omega) hs0)
            clear hb4 hq hbk hly hn1 hn2 hs0 hf1 hn1' hf2 hn2' hq1 hy9
            go_wp2_with fail
            refine (fits_h HY.out HLST.out HR.out.ix HR.out.iy (by omega) (by omega) x A2 B2 c2 d2 (HSB.out.1.P.below HW3.out) (HSB.out.1.Q.below HW3.out) HOK.out).mono ?_
            rintro e w4 ⟨rfl, hb5⟩
            have HB5 := Lib.hid hb5
            have HB5' := Lib.hid (HWW.out.trans (hb5.mono HWW.out.size))
            have HW4 := Lib.hid (HW3.out.trans (hb5.mono HW3.out.size))
            have hq2 := (hb5.block (g + 1) (Array.getElem?_eq_some_iff.1 HQ1.out.1).1).trans HQ1.out.1
            have hy2 := (hb5.block g2 (Array.getElem?_eq_some_iff.1 HQ1.out.2).1).trans HQ1.out.2
            have hx0 := (HB5'.out.block g (by have := HR.out.lt; omega)).trans HR.out.row
            clear p0 p1 p2 p3 p4 p5 p6 p7 p8 p9 p10 p11 p12 p13 q0 q1 q2 q3 q4 q5 q6 q7 q8
            obtain ⟨fz, hfz⟩ : ∃ z, fitsB (k : Int) s0 (xsL (l.take k)) (ysL (l.take k)) x = z := ⟨_, rfl⟩
            have HF := Lib.hid hfz
            rw [hfz]
            clear hfz hb5
            cases fz with
            | false =>
              have HE := Lib.hid (show chkF l = 6 ∧ (6 : Int) ≠ 0 from ⟨by rw [HRS.out, if_pos HT.out, if_pos HZ.out, HL0.out, if_neg (by rw [HF.out]; decide)], by decide⟩)
              have hz := setL_at (l := [.int .i64 0, .slice none 0 0, .int .i64 0, .slice none 0 0]) (i := 0) hx0
              rw [setA4] at hz
              have hnest : setL w4 g 0 [.int .i64 0, .slice none 0 0, .int .i64 0, .slice none 0 0] = ((((w4.setCell ⟨g, 0, none⟩ (.int .i64 0)).setCell ⟨g, 1, none⟩ (.slice none 0 0)).setCell ⟨g, 2, none⟩ (.int .i64 0)).setCell ⟨g, 3, none⟩ (.slice none 0 0)) := rfl
              have HBZ := Lib.hid (show Below w.heap.size w (setL w4 g 0 [.int .i64 0, .slice none 0 0, .int .i64 0, .slice none 0 0]) from setL_below (by have := HG.out; omega) HW4.out)
              rw [hnest] at hz HBZ
              have r0 : w4.frozen? ⟨g, 0, none⟩ = false := by simp [World.frozen?, hx0]
              have r1 : w4.frozen? ⟨g, 1, none⟩ = false := by simp [World.frozen?, hx0]
              have r2 : w4.frozen? ⟨g, 2, none⟩ = false := by simp [World.frozen?, hx0]
              have r3 : w4.frozen? ⟨g, 3, none⟩ = false := by simp [World.frozen?, hx0]
              have v0 := bx hx0 0 _ rfl
              have v1 := bx hx0 1 _ rfl
              have v2 := bx hx0 2 _ rfl
              have v3 := bx hx0 3 _ rfl
              obtain ⟨W7, hW7⟩ : ∃ W, ((((w4.setCell ⟨g, 0, none⟩ (.int .i64 0)).setCell ⟨g, 1, none⟩ (.slice none 0 0)).setCell ⟨g, 2, none⟩ (.int .i64 0)).setCell ⟨g, 3, none⟩ (.slice none 0 0)) = W := ⟨_, rfl⟩
              rw [hW7] at hz HBZ
              have z0 := bx hz 0 _ rfl
              have z1 := bx hz 1 _ rfl
              have z2 := bx hz 2 _ rfl
              have z3 := bx hz 3 _ rfl
              have HW7 := Lib.hid hW7
              clear hz hnest hW7
              clear hx0 hq2 hy2
              go_wp2_with fail
              rw [HW7.out]
              exact bodyPost_ret (v := .tuple #[.agg #[.int .i64 0, .slice none 0 0, .int .i64 0, .slice none 0 0], .int .i64 6]) (by simp [results, Tryz.results22, go_sem, z0, z1, z2, z3]) rfl ⟨_, _, _, _, _, _, _, _, by rw [HE.out.1], fun h0 => absurd (HE.out.1.symm.trans h0) HE.out.2, HBZ.out⟩
            | true =>
              have HQ2 := Lib.hid (And.intro hq2 (And.intro hy2 hx0))
              have p0 := bx hq2 0 _ rfl
              have p1 := bx hq2 1 _ rfl
              have p2 := bx hq2 2 _ rfl
              have p3 := bx hq2 3 _ rfl
              have p4 := bx hq2 4 _ rfl
              have p5 := bx hq2 5 _ rfl
              have p6 := bx hq2 6 _ rfl
              have p7 := bx hq2 7 _ rfl
              have p8 := bx hq2 8 _ rfl
              have p9 := bx hq2 9 _ rfl
              have p10 := bx hq2 10 _ rfl
              have p11 := bx hq2 11 _ rfl
              have p12 := bx hq2 12 _ rfl
              have p13 := bx hq2 13 _ rfl
              have q0 := bx hy2 0 _ rfl
              have q1 := bx hy2 1 _ rfl
              have q2 := bx hy2 2 _ rfl
              have q3 := bx hy2 3 _ rfl
              have q4 := bx hy2 4 _ rfl
              have q5 := bx hy2 5 _ rfl
              have q6 := bx hy2 6 _ rfl
              have q7 := bx hy2 7 _ rfl
              have q8 := bx hy2 8 _ rfl
              clear hq2 hy2 hx0
              go_wp2_with fail
              refine (and_h (HY.out.below HB5.out) (by omega) (by have := HR.out.k32; omega) HR.out.ix HR.out.iy (by omega) (by omega) x A2 B2 c2 d2 (HSB.out.1.P.below HW4.out) (HSB.out.1.Q.below HW4.out) HOK.out).mono ?_
              rintro e w5 ⟨v', rfl, ⟨A3, B3, c3, d3, rfl, hl3, hl4, hm3, hm4⟩, hb6⟩
              have hgs : g + 1 < w4.heap.size := (Array.getElem?_eq_some_iff.1 HQ2.out.1).1
              have HW5 := Lib.hid (HW4.out.trans (hb6.mono HW4.out.size))
              have hq2 := (hb6.block (g + 1) hgs).trans HQ2.out.1
              have hxg := (hb6.block g (by omega)).trans HQ2.out.2.2
              have exs : Tk.uni (xsL (l.take k)) (Tk.idsL x.h.P) = xsL (l.take (k + 1)) := by rw [take_s HSB.out.2, xsL_snoc]
              have eys : Tk.uni (ysL (l.take k)) (Tk.idsL x.h.Q) = ysL (l.take (k + 1)) := by rw [take_s HSB.out.2, ysL_snoc]
              rw [exs] at hl3 ⊢
              rw [eys] at hl4 ⊢
              clear p0 p1 p2 p3 p4 p5 p6 p7 p8 p9 p10 p11 p12 p13 q0 q1 q2 q3 q4 q5 q6 q7 q8
              have v0 := bx hq2 0 _ rfl
              have v1 := bx hq2 1 _ rfl
              have v2 := bx hq2 2 _ rfl
              have v3 := bx hq2 3 _ rfl
              have v4 := bx hq2 4 _ rfl
              have v5 := bx hq2 5 _ rfl
              have v6 := bx hq2 6 _ rfl
              have v7 := bx hq2 7 _ rfl
              have v8 := bx hq2 8 _ rfl
              have v9 := bx hq2 9 _ rfl
              have v10 := bx hq2 10 _ rfl
              have v11 := bx hq2 11 _ rfl
              have v12 := bx hq2 12 _ rfl
              have v13 := bx hq2 13 _ rfl
              have r0 : w5.frozen? ⟨g + 1, 0, none⟩ = false := by simp [World.frozen?, hq2]
              have r1 : w5.frozen? ⟨g + 1, 1, none⟩ = false := by simp [World.frozen?, hq2]
              have r2 : w5.frozen? ⟨g + 1, 2, none⟩ = false := by simp [World.frozen?, hq2]
              have r3 : w5.frozen? ⟨g + 1, 3, none⟩ = false := by simp [World.frozen?, hq2]
              have r4 : w5.frozen? ⟨g + 1, 4, none⟩ = false := by simp [World.frozen?, hq2]
              have r5 : w5.frozen? ⟨g + 1, 5, none⟩ = false := by simp [World.frozen?, hq2]
              have r6 : w5.frozen? ⟨g + 1, 6, none⟩ = false := by simp [World.frozen?, hq2]
              have r7 : w5.frozen? ⟨g + 1, 7, none⟩ = false := by simp [World.frozen?, hq2]
              have r8 : w5.frozen? ⟨g + 1, 8, none⟩ = false := by simp [World.frozen?, hq2]
              have r9 : w5.frozen? ⟨g + 1, 9, none⟩ = false := by simp [World.frozen?, hq2]
              have r10 : w5.frozen? ⟨g + 1, 10, none⟩ = false := by simp [World.frozen?, hq2]
              have r11 : w5.frozen? ⟨g + 1, 11, none⟩ = false := by simp [World.frozen?, hq2]
              have r12 : w5.frozen? ⟨g + 1, 12, none⟩ = false := by simp [World.frozen?, hq2]
              have r13 : w5.frozen? ⟨g + 1, 13, none⟩ = false := by simp [World.frozen?, hq2]
              obtain ⟨y1, hy1⟩ : ∃ z, Tk.fstL (xsL (l.take (k + 1))) = z := ⟨_, rfl⟩
              obtain ⟨m1, hm1⟩ : ∃ z, (Tk.runsL (xsL (l.take (k + 1)))).length = z := ⟨_, rfl⟩
              obtain ⟨y2, hy2⟩ : ∃ z, Tk.fstL (ysL (l.take (k + 1))) = z := ⟨_, rfl⟩
              obtain ⟨m2, hm2⟩ : ∃ z, (Tk.runsL (ysL (l.take (k + 1)))).length = z := ⟨_, rfl⟩
              have hz := setL_at (l := [.int .i64 ((k : Int) + 1), .int .i64 x.t, .int .i64 x.h.k, .int .i64 x.h.s, .int .i64 x.h.z, .int .u64 x.h.zc, .int .u64 x.h.ct, .int .i64 x.h.sm, .slice A2 x.h.P.length c2, .slice B2 x.h.Q.length d2, .int .i64 y1, .slice A3 m1 c3, .int .i64 y2, .slice B3 m2 d3]) (i := 0) hq2
              rw [setA14] at hz
              have hnest : setL w5 (g + 1) 0 [.int .i64 ((k : Int) + 1), .int .i64 x.t, .int .i64 x.h.k, .int .i64 x.h.s, .int .i64 x.h.z, .int .u64 x.h.zc, .int .u64 x.h.ct, .int .i64 x.h.sm, .slice A2 x.h.P.length c2, .slice B2 x.h.Q.length d2, .int .i64 y1, .slice A3 m1 c3, .int .i64 y2, .slice B3 m2 d3] = ((((((((((((((w5.setCell ⟨g + 1, 0, none⟩ (.int .i64 ((k : Int) + 1))).setCell ⟨g + 1, 1, none⟩ (.int .i64 x.t)).setCell ⟨g + 1, 2, none⟩ (.int .i64 x.h.k)).setCell ⟨g + 1, 3, none⟩ (.int .i64 x.h.s)).setCell ⟨g + 1, 4, none⟩ (.int .i64 x.h.z)).setCell ⟨g + 1, 5, none⟩ (.int .u64 x.h.zc)).setCell ⟨g + 1, 6, none⟩ (.int .u64 x.h.ct)).setCell ⟨g + 1, 7, none⟩ (.int .i64 x.h.sm)).setCell ⟨g + 1, 8, none⟩ (.slice A2 x.h.P.length c2)).setCell ⟨g + 1, 9, none⟩ (.slice B2 x.h.Q.length d2)).setCell ⟨g + 1, 10, none⟩ (.int .i64 y1)).setCell ⟨g + 1, 11, none⟩ (.slice A3 m1 c3)).setCell ⟨g + 1, 12, none⟩ (.int .i64 y2)).setCell ⟨g + 1, 13, none⟩ (.slice B3 m2 d3)) := rfl
              have hgl : w.heap.size ≤ g + 1 := by have := HG.out; omega
              have HZ2 := Lib.hid (show CkI w g l (k + 1) ((((((((((((((w5.setCell ⟨g + 1, 0, none⟩ (.int .i64 ((k : Int) + 1))).setCell ⟨g + 1, 1, none⟩ (.int .i64 x.t)).setCell ⟨g + 1, 2, none⟩ (.int .i64 x.h.k)).setCell ⟨g + 1, 3, none⟩ (.int .i64 x.h.s)).setCell ⟨g + 1, 4, none⟩ (.int .i64 x.h.z)).setCell ⟨g + 1, 5, none⟩ (.int .u64 x.h.zc)).setCell ⟨g + 1, 6, none⟩ (.int .u64 x.h.ct)).setCell ⟨g + 1, 7, none⟩ (.int .i64 x.h.sm)).setCell ⟨g + 1, 8, none⟩ (.slice A2 x.h.P.length c2)).setCell ⟨g + 1, 9, none⟩ (.slice B2 x.h.Q.length d2)).setCell ⟨g + 1, 10, none⟩ (.int .i64 y1)).setCell ⟨g + 1, 11, none⟩ (.slice A3 m1 c3)).setCell ⟨g + 1, 12, none⟩ (.int .i64 y2)).setCell ⟨g + 1, 13, none⟩ (.slice B3 m2 d3)) from by
                rw [← hnest]
                have hb7 : Below w.heap.size w (setL w5 (g + 1) 0 [.int .i64 ((k : Int) + 1), .int .i64 x.t, .int .i64 x.h.k, .int .i64 x.h.s, .int .i64 x.h.z, .int .u64 x.h.zc, .int .u64 x.h.ct, .int .i64 x.h.sm, .slice A2 x.h.P.length c2, .slice B2 x.h.Q.length d2, .int .i64 y1, .slice A3 m1 c3, .int .i64 y2, .slice B3 m2 d3]) := setL_below hgl HW5.out
                have hb8 : Below (g + 1) w5 (setL w5 (g + 1) 0 [.int .i64 ((k : Int) + 1), .int .i64 x.t, .int .i64 x.h.k, .int .i64 x.h.s, .int .i64 x.h.z, .int .u64 x.h.zc, .int .u64 x.h.ct, .int .i64 x.h.sm, .slice A2 x.h.P.length c2, .slice B2 x.h.Q.length d2, .int .i64 y1, .slice A3 m1 c3, .int .i64 y2, .slice B3 m2 d3]) := setL_below (Nat.le_refl _) (Below.refl _ _)
                obtain ⟨i1, i2, i3⟩ := ix_step HSB.out.2 HOK.out HR.out.ix HR.out.iy HR.out.k32 (by rw [HL0.out]; exact HF.out)
                refine ⟨⟨A2, B2, c2, d2, A3, B3, c3, d3, ?_, ?_, ⟨setL_cl (fun a ha => by have := hm3 a ha; omega) hl3, setL_cl (fun a ha => by have := hm4 a ha; omega) hl4⟩, (fun a ha => by have := hm3 a ha; omega), fun a ha => by have := hm4 a ha; omega⟩, hb7, (hb8.block g (by omega)).trans hxg, (Array.getElem?_eq_some_iff.1 hz).1, ?_, ?_, i1, i2, i3⟩
                · rw [take_s HSB.out.2, lastS_snoc, ← take_s HSB.out.2, hy1, hm1, hy2, hm2]
                  exact hz
                · rw [take_s HSB.out.2, lastS_snoc]
                  exact ⟨HSB.out.1.P, HSB.out.1.Q⟩
                · rw [← HE0.out, HRS.out, if_pos HT.out, if_pos HZ.out, HL0.out, if_pos HF.out]
                · intro y hy
                  rw [take_s HSB.out.2] at hy
                  rcases List.mem_append.1 hy with hy | hy
                  · exact HR.out.ok y hy
                  · rw [List.mem_singleton.1 hy]; exact HOK.out)
              rw [hy1, hm1, hy2, hm2]
              clear hb6 hq2 hxg hl3 hl4 hm3 hm4 hy1 hm1 hy2 hm2 hz hnest exs eys hgl hgs
              have hk32 : (k : Int) ≤ 32 := by have := HR.out.k32; omega
              go_wp2_with fail
              go_roundw
              case rel => exact ⟨k + 1, by omega, by go_num, HZ2⟩
              case measure => simp [intOf]; omega
          · have HE := Lib.hid (show chkF l = z ∧ z ≠ 0 from ⟨by rw [HRS.out, if_pos HT.out, if_neg (by rw [HZ.out]; exact hz0), HZ.out], hz0⟩)
            have hx0 := (hb4.block g (by have := HX9.out.2.2.2; omega)).trans HX9.out.2.1
            have HW3 := Lib.hid (HB3.out.trans (hb4.mono HB3.out.size))
            clear hb4
            have hz := setL_at (l := [.int .i64 0, .slice none 0 0, .int .i64 0, .slice none 0 0]) (i := 0) hx0
            rw [setA4] at hz
            have hnest : setL w3 g 0 [.int .i64 0, .slice none 0 0, .int .i64 0, .slice none 0 0] = ((((w3.setCell ⟨g, 0, none⟩ (.int .i64 0)).setCell ⟨g, 1, none⟩ (.slice none 0 0)).setCell ⟨g, 2, none⟩ (.int .i64 0)).setCell ⟨g, 3, none⟩ (.slice none 0 0)) := rfl
            have HBZ := Lib.hid (show Below w.heap.size w (setL w3 g 0 [.int .i64 0, .slice none 0 0, .int .i64 0, .slice none 0 0]) from setL_below (by have := HG.out; omega) HW3.out)
            rw [hnest] at hz HBZ
            have r0 : w3.frozen? ⟨g, 0, none⟩ = false := by simp [World.frozen?, hx0]
            have r1 : w3.frozen? ⟨g, 1, none⟩ = false := by simp [World.frozen?, hx0]
            have r2 : w3.frozen? ⟨g, 2, none⟩ = false := by simp [World.frozen?, hx0]
            have r3 : w3.frozen? ⟨g, 3, none⟩ = false := by simp [World.frozen?, hx0]
            have v0 := bx hx0 0 _ rfl
            have v1 := bx hx0 1 _ rfl
            have v2 := bx hx0 2 _ rfl
            have v3 := bx hx0 3 _ rfl
            obtain ⟨W7, hW7⟩ : ∃ W, ((((w3.setCell ⟨g, 0, none⟩ (.int .i64 0)).setCell ⟨g, 1, none⟩ (.slice none 0 0)).setCell ⟨g, 2, none⟩ (.int .i64 0)).setCell ⟨g, 3, none⟩ (.slice none 0 0)) = W := ⟨_, rfl⟩
            rw [hW7] at hz HBZ
            have z0 := bx hz 0 _ rfl
            have z1 := bx hz 1 _ rfl
            have z2 := bx hz 2 _ rfl
            have z3 := bx hz 3 _ rfl
            have HW7 := Lib.hid hW7
            clear hz hnest hW7
            clear hx0
            go_wp2_with fail
            rw [HW7.out]
            exact bodyPost_ret (v := .tuple #[.agg #[.int .i64 0, .slice none 0 0, .int .i64 0, .slice none 0 0], .int .i64 z]) (by simp [results, Tryz.results22, go_sem, z0, z1, z2, z3]) rfl ⟨_, _, _, _, _, _, _, _, by rw [HE.out.1], fun h0 => absurd (HE.out.1.symm.trans h0) HE.out.2, HBZ.out⟩
        · have HE := Lib.hid (show chkF l = 4 ∧ (4 : Int) ≠ 0 from ⟨by rw [HRS.out, if_neg (fun e => ht (inT_true.1 e))], by decide⟩)
          have hx0 := HX9.out.2.1
          by_cases t0 : x.t < 0
          · clear ht
            have hz := setL_at (l := [.int .i64 0, .slice none 0 0, .int .i64 0, .slice none 0 0]) (i := 0) hx0
            rw [setA4] at hz
            have hnest : setL W1 g 0 [.int .i64 0, .slice none 0 0, .int .i64 0, .slice none 0 0] = ((((W1.setCell ⟨g, 0, none⟩ (.int .i64 0)).setCell ⟨g, 1, none⟩ (.slice none 0 0)).setCell ⟨g, 2, none⟩ (.int .i64 0)).setCell ⟨g, 3, none⟩ (.slice none 0 0)) := rfl
            have HBZ := Lib.hid (show Below w.heap.size w (setL W1 g 0 [.int .i64 0, .slice none 0 0, .int .i64 0, .slice none 0 0]) from setL_below (by have := HG.out; omega) HB3.out)
            rw [hnest] at hz HBZ
            have r0 : W1.frozen? ⟨g, 0, none⟩ = false := by simp [World.frozen?, hx0]
            have r1 : W1.frozen? ⟨g, 1, none⟩ = false := by simp [World.frozen?, hx0]
            have r2 : W1.frozen? ⟨g, 2, none⟩ = false := by simp [World.frozen?, hx0]
            have r3 : W1.frozen? ⟨g, 3, none⟩ = false := by simp [World.frozen?, hx0]
            have v0 := bx hx0 0 _ rfl
            have v1 := bx hx0 1 _ rfl
            have v2 := bx hx0 2 _ rfl
            have v3 := bx hx0 3 _ rfl
            obtain ⟨W7, hW7⟩ : ∃ W, ((((W1.setCell ⟨g, 0, none⟩ (.int .i64 0)).setCell ⟨g, 1, none⟩ (.slice none 0 0)).setCell ⟨g, 2, none⟩ (.int .i64 0)).setCell ⟨g, 3, none⟩ (.slice none 0 0)) = W := ⟨_, rfl⟩
            rw [hW7] at hz HBZ
            have z0 := bx hz 0 _ rfl
            have z1 := bx hz 1 _ rfl
            have z2 := bx hz 2 _ rfl
            have z3 := bx hz 3 _ rfl
            have HW7 := Lib.hid hW7
            clear hz hnest hW7
            clear hx0
            go_wp2_with fail
            rw [HW7.out]
            exact bodyPost_ret (v := .tuple #[.agg #[.int .i64 0, .slice none 0 0, .int .i64 0, .slice none 0 0], .int .i64 4]) (by simp [results, Tryz.results22, go_sem, z0, z1, z2, z3]) rfl ⟨_, _, _, _, _, _, _, _, by rw [HE.out.1], fun h0 => absurd (HE.out.1.symm.trans h0) HE.out.2, HBZ.out⟩
          · have t1 : 1099511627776 < x.t := by omega
            clear ht
            have hz := setL_at (l := [.int .i64 0, .slice none 0 0, .int .i64 0, .slice none 0 0]) (i := 0) hx0
            rw [setA4] at hz
            have hnest : setL W1 g 0 [.int .i64 0, .slice none 0 0, .int .i64 0, .slice none 0 0] = ((((W1.setCell ⟨g, 0, none⟩ (.int .i64 0)).setCell ⟨g, 1, none⟩ (.slice none 0 0)).setCell ⟨g, 2, none⟩ (.int .i64 0)).setCell ⟨g, 3, none⟩ (.slice none 0 0)) := rfl
            have HBZ := Lib.hid (show Below w.heap.size w (setL W1 g 0 [.int .i64 0, .slice none 0 0, .int .i64 0, .slice none 0 0]) from setL_below (by have := HG.out; omega) HB3.out)
            rw [hnest] at hz HBZ
            have r0 : W1.frozen? ⟨g, 0, none⟩ = false := by simp [World.frozen?, hx0]
            have r1 : W1.frozen? ⟨g, 1, none⟩ = false := by simp [World.frozen?, hx0]
            have r2 : W1.frozen? ⟨g, 2, none⟩ = false := by simp [World.frozen?, hx0]
            have r3 : W1.frozen? ⟨g, 3, none⟩ = false := by simp [World.frozen?, hx0]
            have v0 := bx hx0 0 _ rfl
            have v1 := bx hx0 1 _ rfl
            have v2 := bx hx0 2 _ rfl
            have v3 := bx hx0 3 _ rfl
            obtain ⟨W7, hW7⟩ : ∃ W, ((((W1.setCell ⟨g, 0, none⟩ (.int .i64 0)).setCell ⟨g, 1, none⟩ (.slice none 0 0)).setCell ⟨g, 2, none⟩ (.int .i64 0)).setCell ⟨g, 3, none⟩ (.slice none 0 0)) = W := ⟨_, rfl⟩
            rw [hW7] at hz HBZ
            have z0 := bx hz 0 _ rfl
            have z1 := bx hz 1 _ rfl
            have z2 := bx hz 2 _ rfl
            have z3 := bx hz 3 _ rfl
            have HW7 := Lib.hid hW7
            clear hz hnest hW7
            clear hx0
            go_wp2_with fail
            rw [HW7.out]
            exact bodyPost_ret (v := .tuple #[.agg #[.int .i64 0, .slice none 0 0, .int .i64 0, .slice none 0 0], .int .i64 4]) (by simp [results, Tryz.results22, go_sem, z0, z1, z2, z3]) rfl ⟨_, _, _, _, _, _, _, _, by rw [HE.out.1], fun h0 => absurd (HE.out.1.symm.trans h0) HE.out.2, HBZ.out⟩
      · obtain rfl : k = n := by omega
        have hki : ¬ ((k : Int) < (k : Int)) := by omega
        obtain ⟨A0, B0, c0, d0, A1, B1, c1, d1, hq, hbk, hly, hn1, hn2⟩ := HR.out.ah
        have hkl : k = l.length := HN.out
        have hE : chkF l = 0 := by
          rw [HE0.out, HR.out.rest]
          unfold RestE
          rw [List.drop_eq_nil_of_le (by omega)]
          rfl
        rw [List.take_of_length_le (by omega)] at hq hbk hly
        obtain ⟨s0, hs0⟩ : ∃ z, lastS l = z := ⟨_, rfl⟩
        obtain ⟨f1, hf1⟩ : ∃ z, Tk.fstL (xsL l) = z := ⟨_, rfl⟩
        obtain ⟨n1, hn1'⟩ : ∃ z, (Tk.runsL (xsL l)).length = z := ⟨_, rfl⟩
        obtain ⟨f2, hf2⟩ : ∃ z, Tk.fstL (ysL l) = z := ⟨_, rfl⟩
        obtain ⟨n2, hn2'⟩ : ∃ z, (Tk.runsL (ysL l)).length = z := ⟨_, rfl⟩
        rw [hs0, hf1, hn1', hf2, hn2'] at hq
        have hx0 := HR.out.row
        have p10 := bx hq 10 _ rfl
        have p11 := bx hq 11 _ rfl
        have p12 := bx hq 12 _ rfl
        have p13 := bx hq 13 _ rfl
        have v0 := bx hx0 0 _ rfl
        have v1 := bx hx0 1 _ rfl
        have v2 := bx hx0 2 _ rfl
        have v3 := bx hx0 3 _ rfl
        have r0 : wr.frozen? ⟨g, 0, none⟩ = false := by simp [World.frozen?, hx0]
        have r1 : wr.frozen? ⟨g, 1, none⟩ = false := by simp [World.frozen?, hx0]
        have r2 : wr.frozen? ⟨g, 2, none⟩ = false := by simp [World.frozen?, hx0]
        have r3 : wr.frozen? ⟨g, 3, none⟩ = false := by simp [World.frozen?, hx0]
        have hz := setL_at (l := [.int .i64 f1, .slice A1 n1 c1, .int .i64 f2, .slice B1 n2 d1]) (i := 0) hx0
        rw [setA4] at hz
        have hnest : setL wr g 0 [.int .i64 f1, .slice A1 n1 c1, .int .i64 f2, .slice B1 n2 d1] = ((((wr.setCell ⟨g, 0, none⟩ (.int .i64 f1)).setCell ⟨g, 1, none⟩ (.slice A1 n1 c1)).setCell ⟨g, 2, none⟩ (.int .i64 f2)).setCell ⟨g, 3, none⟩ (.slice B1 n2 d1)) := rfl
        have HBZ := Lib.hid (show LyV (setL wr g 0 [.int .i64 f1, .slice A1 n1 c1, .int .i64 f2, .slice B1 n2 d1]) (xsL l) (ysL l) (.agg #[.int .i64 f1, .slice A1 n1 c1, .int .i64 f2, .slice B1 n2 d1]) ∧ Below w.heap.size w (setL wr g 0 [.int .i64 f1, .slice A1 n1 c1, .int .i64 f2, .slice B1 n2 d1]) from
          ⟨⟨A1, B1, c1, d1, by rw [hf1, hn1', hf2, hn2'], setL_cl (fun a ha => by have := hn1 a ha; omega) hly.1, setL_cl (fun a ha => by have := hn2 a ha; omega) hly.2⟩, setL_below (by have := HG.out; omega) HR.out.bel⟩)
        rw [hnest] at hz HBZ
        obtain ⟨W7, hW7⟩ : ∃ W, ((((wr.setCell ⟨g, 0, none⟩ (.int .i64 f1)).setCell ⟨g, 1, none⟩ (.slice A1 n1 c1)).setCell ⟨g, 2, none⟩ (.int .i64 f2)).setCell ⟨g, 3, none⟩ (.slice B1 n2 d1)) = W := ⟨_, rfl⟩
        rw [hW7] at hz HBZ
        have z0 := bx hz 0 _ rfl
        have z1 := bx hz 1 _ rfl
        have z2 := bx hz 2 _ rfl
        have z3 := bx hz 3 _ rfl
        have HW7 := Lib.hid hW7
        have HEZ := Lib.hid hE
        clear hz hnest hW7 hq hbk hly hn1 hn2 hs0 hf1 hn1' hf2 hn2' hx0 hkl hE
        go_wp2_with fail
        rw [HW7.out]
        exact bodyPost_ret (v := .tuple #[.agg #[.int .i64 f1, .slice A1 n1 c1, .int .i64 f2, .slice B1 n2 d1], .int .i64 0]) (by simp [results, Tryz.results22, go_sem, z0, z1, z2, z3]) rfl ⟨_, _, _, _, _, _, _, _, by rw [HEZ.out], fun _ => HBZ.out.1, HBZ.out.2⟩
end Go.Proofs.YtakomfnajeolcaaGreatDoor.Ch
