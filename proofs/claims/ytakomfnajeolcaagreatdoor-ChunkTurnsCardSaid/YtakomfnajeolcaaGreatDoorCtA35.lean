import Derived.Test.YtakomfnajeolcaaGreatDoorCtA34
set_option linter.unusedVariables false
/- Whether a sample fits behind those ahead (ahead.fits). -/
namespace Go.Proofs.YtakomfnajeolcaaGreatDoor.Ch
open Go.RowKit Go.Sort Go.Proofs.YtakomfnajeolcaaGreatDoor.En
set_option linter.unusedVariables false

/-- does a sample fit behind the samples of which that is known -/
def fitsB (k : Int) (s0 : SV) (xs ys : List Int) (s : SV) : Bool :=
  decide (k = 0) || (decide (k < 32) && (decide (s0.t < s.t) && (lhB s0.h s.h && (!rsB s0.h s.h && (decide ((Tk.uni xs (Tk.idsL s.h.P)).length ≤ 512) && decide ((Tk.uni ys (Tk.idsL s.h.Q)).length ≤ 512))))))
set_option maxHeartbeats 4000000 in
set_option maxRecDepth 100000 in
theorem fits_h {k : Int} {s0 : SV} {xs ys : List Int} {n m : Nat} {v : Value} {w : World} (h : AhV w k s0 xs ys v) (o0 : k = 0 ∨ Ok s0.h) (hx : Ix xs n) (hy : Ix ys m) (bn : n ≤ 2400) (bm : m ≤ 2400) (s : SV) (A B : Option Addr) (c d : Nat) (hP : Bk w A s.h.P) (hQ : Bk w B s.h.Q) (o : Ok s.h) :
    Calls Tryz.prog 45 #[v, .agg #[.int .i64 s.t, .int .i64 s.h.k, .int .i64 s.h.s, .int .i64 s.h.z, .int .u64 s.h.zc, .int .u64 s.h.ct, .int .i64 s.h.sm, .slice A s.h.P.length c, .slice B s.h.Q.length d]] w fun e w' => e = .returned (.bool (fitsB k s0 xs ys s)) ∧ Below w.heap.size w w' := by
  obtain ⟨A0, B0, c0, d0, A1, B1, c1, d1, rfl, ⟨hP0, hQ0⟩, hA, hB⟩ := h
  obtain ⟨a1, ha1⟩ : ∃ a, Tk.fstL xs = a := ⟨_, rfl⟩
  obtain ⟨n1, hn1⟩ : ∃ a, (Tk.runsL xs).length = a := ⟨_, rfl⟩
  obtain ⟨a2, ha2⟩ : ∃ a, Tk.fstL ys = a := ⟨_, rfl⟩
  obtain ⟨n2, hn2⟩ : ∃ a, (Tk.runsL ys).length = a := ⟨_, rfl⟩
  have HN := Lib.hid (And.intro (And.intro ha1 hn1) (And.intro ha2 hn2))
  rw [ha1, hn1, ha2, hn2]
  obtain ⟨x1, x2, hb⟩ := two_alloc w (.cells #[.int .i64 k, .int .i64 s0.t, .int .i64 s0.h.k, .int .i64 s0.h.s, .int .i64 s0.h.z, .int .u64 s0.h.zc, .int .u64 s0.h.ct, .int .i64 s0.h.sm, .slice A0 s0.h.P.length c0, .slice B0 s0.h.Q.length d0, .int .i64 a1, .slice A1 n1 c1, .int .i64 a2, .slice B1 n2 d1] 91) (.cells #[.int .i64 s.t, .int .i64 s.h.k, .int .i64 s.h.s, .int .i64 s.h.z, .int .u64 s.h.zc, .int .u64 s.h.ct, .int .i64 s.h.sm, .slice A s.h.P.length c, .slice B s.h.Q.length d] 41)
  obtain ⟨g, hg⟩ : ∃ g, w.heap.size = g := ⟨_, rfl⟩
  obtain ⟨w1, hw1⟩ : ∃ W, (w.alloc (.cells #[.int .i64 k, .int .i64 s0.t, .int .i64 s0.h.k, .int .i64 s0.h.s, .int .i64 s0.h.z, .int .u64 s0.h.zc, .int .u64 s0.h.ct, .int .i64 s0.h.sm, .slice A0 s0.h.P.length c0, .slice B0 s0.h.Q.length d0, .int .i64 a1, .slice A1 n1 c1, .int .i64 a2, .slice B1 n2 d1] 91)).alloc (.cells #[.int .i64 s.t, .int .i64 s.h.k, .int .i64 s.h.s, .int .i64 s.h.z, .int .u64 s.h.zc, .int .u64 s.h.ct, .int .i64 s.h.sm, .slice A s.h.P.length c, .slice B s.h.Q.length d] 41) = W := ⟨_, rfl⟩
  have hw1' := Lib.hid hw1
  rw [hw1] at x1 x2 hb
  rw [hg] at x1 x2
  have HX := Lib.hid (And.intro x1 x2)
  have HLT := Lib.hid (And.intro (Array.getElem?_eq_some_iff.1 x1).1 (Array.getElem?_eq_some_iff.1 x2).1)
  have HB := Lib.hid hb
  have HK := Lib.hid (And.intro (And.intro (hA.below hb) (hB.below hb)) (And.intro (And.intro (hP0.below hb) (hQ0.below hb)) (And.intro (hP.below hb) (hQ.below hb))))
  have HI := Lib.hid (And.intro (And.intro hx hy) (And.intro o0 o))
  clear hb hA hB hP hQ hP0 hQ0 hx hy o o0 ha1 hn1 ha2 hn2
  have p0 := bx x1 0 _ rfl
  have p1 := bx x1 1 _ rfl
  have p2 := bx x1 2 _ rfl
  have p3 := bx x1 3 _ rfl
  have p4 := bx x1 4 _ rfl
  have p5 := bx x1 5 _ rfl
  have p6 := bx x1 6 _ rfl
  have p7 := bx x1 7 _ rfl
  have p8 := bx x1 8 _ rfl
  have p9 := bx x1 9 _ rfl
  have p10 := bx x1 10 _ rfl
  have p11 := bx x1 11 _ rfl
  have p12 := bx x1 12 _ rfl
  have p13 := bx x1 13 _ rfl
  have q0 := bx x2 0 _ rfl
  have q1 := bx x2 1 _ rfl
  have q2 := bx x2 2 _ rfl
  have q3 := bx x2 3 _ rfl
  have q4 := bx x2 4 _ rfl
  have q5 := bx x2 5 _ rfl
  have q6 := bx x2 6 _ rfl
  have q7 := bx x2 7 _ rfl
  have q8 := bx x2 8 _ rfl
  clear x1 x2
  go_enter Tryz.func45, Tryz.ntmps45
  obtain ⟨kz, hkz⟩ : ∃ z, decide (k = 0) = z := ⟨_, rfl⟩
  cases kz with
  | true =>
    have hk0 : k = 0 := of_decide_eq_true hkz
    subst hk0
    clear hkz
    go_wp2_with fail
    go_ret
    exact ⟨rfl, by first | exact HB.out | (rw [← hg]; exact HB.out)⟩
  | false =>
    have hk0 : ¬ k = 0 := of_decide_eq_false hkz
    clear hkz
    by_cases h1 : k < 32
    · by_cases h2 : s0.t < s.t
      · have HS := Lib.hid (And.intro hk0 (And.intro h1 h2))
        go_wp2_with fail
        clear hw1
        refine (like_h s0.h s.h A0 B0 A B c0 d0 c d w1).mono ?_
        rintro e w2 ⟨rfl, hb2⟩
        have HB2 := Lib.hid hb2
        have y1 := (hb2.block g HLT.out.1).trans HX.out.1
        have y2 := (hb2.block (g + 1) HLT.out.2).trans HX.out.2
        clear p0 p1 p2 p3 p4 p5 p6 p7 p8 p9 p10 p11 p12 p13 q0 q1 q2 q3 q4 q5 q6 q7 q8
        have p0 := bx y1 0 _ rfl
        have p1 := bx y1 1 _ rfl
        have p2 := bx y1 2 _ rfl
        have p3 := bx y1 3 _ rfl
        have p4 := bx y1 4 _ rfl
        have p5 := bx y1 5 _ rfl
        have p6 := bx y1 6 _ rfl
        have p7 := bx y1 7 _ rfl
        have p8 := bx y1 8 _ rfl
        have p9 := bx y1 9 _ rfl
        have p10 := bx y1 10 _ rfl
        have p11 := bx y1 11 _ rfl
        have p12 := bx y1 12 _ rfl
        have p13 := bx y1 13 _ rfl
        have q0 := bx y2 0 _ rfl
        have q1 := bx y2 1 _ rfl
        have q2 := bx y2 2 _ rfl
        have q3 := bx y2 3 _ rfl
        have q4 := bx y2 4 _ rfl
        have q5 := bx y2 5 _ rfl
        have q6 := bx y2 6 _ rfl
        have q7 := bx y2 7 _ rfl
        have q8 := bx y2 8 _ rfl
        clear hb2
        obtain ⟨lz, hlz⟩ : ∃ z, lhB s0.h s.h = z := ⟨_, rfl⟩
        have HL := Lib.hid hlz
        rw [hlz]
        clear hlz y1 y2
        cases lz with
        | false =>
          go_wp2_with fail
          go_ret
          exact ⟨by unfold fitsB; rw [decide_eq_false HS.out.1, decide_eq_true HS.out.2.1, decide_eq_true HS.out.2.2, HL.out]; rfl, by first | exact HB.out.trans (HB2.out.mono HB.out.size) | (rw [← hg]; exact HB.out.trans (HB2.out.mono HB.out.size))⟩
        | true =>
          go_wp2_with fail
          have o0 : Ok s0.h := HI.out.2.1.resolve_left HS.out.1
          refine (reset_like o0 HI.out.2.2 HL.out A0 B0 A B c0 d0 c d w2 (HK.out.2.1.1.below HB2.out) (HK.out.2.1.2.below HB2.out) (HK.out.2.2.1.below HB2.out) (HK.out.2.2.2.below HB2.out)).mono ?_
          clear o0
          rintro e w3 ⟨rfl, hb3⟩
          have HB3 := Lib.hid (HB2.out.trans (hb3.mono HB2.out.size))
          have y1 := (HB3.out.block g HLT.out.1).trans HX.out.1
          have y2 := (HB3.out.block (g + 1) HLT.out.2).trans HX.out.2
          clear p0 p1 p2 p3 p4 p5 p6 p7 p8 p9 p10 p11 p12 p13 q0 q1 q2 q3 q4 q5 q6 q7 q8 hb3
          have p0 := bx y1 0 _ rfl
          have p1 := bx y1 1 _ rfl
          have p2 := bx y1 2 _ rfl
          have p3 := bx y1 3 _ rfl
          have p4 := bx y1 4 _ rfl
          have p5 := bx y1 5 _ rfl
          have p6 := bx y1 6 _ rfl
          have p7 := bx y1 7 _ rfl
          have p8 := bx y1 8 _ rfl
          have p9 := bx y1 9 _ rfl
          have p10 := bx y1 10 _ rfl
          have p11 := bx y1 11 _ rfl
          have p12 := bx y1 12 _ rfl
          have p13 := bx y1 13 _ rfl
          have q0 := bx y2 0 _ rfl
          have q1 := bx y2 1 _ rfl
          have q2 := bx y2 2 _ rfl
          have q3 := bx y2 3 _ rfl
          have q4 := bx y2 4 _ rfl
          have q5 := bx y2 5 _ rfl
          have q6 := bx y2 6 _ rfl
          have q7 := bx y2 7 _ rfl
          have q8 := bx y2 8 _ rfl
          obtain ⟨rz, hrz⟩ : ∃ z, rsB s0.h s.h = z := ⟨_, rfl⟩
          have HR := Lib.hid hrz
          rw [hrz]
          clear hrz y1 y2
          cases rz with
          | true =>
            go_wp2_with fail
            go_ret
            exact ⟨by unfold fitsB; rw [decide_eq_false HS.out.1, decide_eq_true HS.out.2.1, decide_eq_true HS.out.2.2, HL.out, HR.out]; rfl, by first | exact HB.out.trans (HB3.out.mono HB.out.size) | (rw [← hg]; exact HB.out.trans (HB3.out.mono HB.out.size))⟩
          | false =>
            go_wp2_with fail
            have hy : LyV w3 xs ys (.agg #[.int .i64 a1, .slice A1 n1 c1, .int .i64 a2, .slice B1 n2 d1]) := ⟨A1, B1, c1, d1, by rw [HN.out.1.1, HN.out.1.2, HN.out.2.1, HN.out.2.2], HK.out.1.1.below HB3.out, HK.out.1.2.below HB3.out⟩
            refine (with_ly hy HI.out.1.1 HI.out.1.2 (by omega) (by omega) s.h A B c d (HK.out.2.2.1.below HB3.out) (HK.out.2.2.2.below HB3.out) HI.out.2.2).mono ?_
            clear hy
            rintro e w4 ⟨v', rfl, hl, hb4⟩
            have HB4 := Lib.hid (HB3.out.trans (hb4.mono HB3.out.size))
            have HLY := Lib.hid hl.ly
            clear p0 p1 p2 p3 p4 p5 p6 p7 p8 p9 p10 p11 p12 p13 q0 q1 q2 q3 q4 q5 q6 q7 q8 hb4 hl
            go_wp2_with fail
            refine (right_ly HLY.out (HI.out.1.1.uni (Ix.P HI.out.2.2)) (HI.out.1.2.uni (Ix.Q HI.out.2.2)) (by omega) (by omega)).mono ?_
            rintro e w5 ⟨rfl, hb5⟩
            have HB5 := Lib.hid (HB4.out.trans (hb5.mono HB4.out.size))
            obtain ⟨fz, hfz⟩ : ∃ z, (decide ((Tk.uni xs (Tk.idsL s.h.P)).length ≤ 512) && decide ((Tk.uni ys (Tk.idsL s.h.Q)).length ≤ 512)) = z := ⟨_, rfl⟩
            have HF := Lib.hid hfz
            rw [hfz]
            clear hfz hb5
            go_wp2_with fail
            go_ret
            refine ⟨?_, by first | exact HB.out.trans (HB5.out.mono HB.out.size) | (rw [← hg]; exact HB.out.trans (HB5.out.mono HB.out.size))⟩
            unfold fitsB
            rw [HF.out, HL.out, HR.out, decide_eq_false HS.out.1, decide_eq_true HS.out.2.1, decide_eq_true HS.out.2.2]
            rfl
      · go_wp2_with fail
        go_ret
        exact ⟨by unfold fitsB; rw [decide_eq_false hk0, decide_eq_true h1, decide_eq_false (show ¬ s0.t < s.t by omega)]; rfl, by first | exact HB.out | (rw [← hg]; exact HB.out)⟩
    · go_wp2_with fail
      go_ret
      exact ⟨by unfold fitsB; rw [decide_eq_false hk0, decide_eq_false (show ¬ k < 32 by omega)]; rfl, by first | exact HB.out | (rw [← hg]; exact HB.out)⟩
end Go.Proofs.YtakomfnajeolcaaGreatDoor.Ch


/- Fits: does a sample fit behind some samples. -/
namespace Go.Proofs.YtakomfnajeolcaaGreatDoor.Ch
open Go.RowKit Go.Sort Go.Proofs.YtakomfnajeolcaaGreatDoor.En
set_option linter.unusedVariables false

def lastS (l : List SV) : SV := l.foldl (fun _ s => s) zS
def xsL (l : List SV) : List Int := l.foldl (fun a s => Tk.uni a (Tk.idsL s.h.P)) []
def ysL (l : List SV) : List Int := l.foldl (fun a s => Tk.uni a (Tk.idsL s.h.Q)) []
def nP (l : List SV) : Nat := (l.map (·.h.P.length)).sum
def nQ (l : List SV) : Nat := (l.map (·.h.Q.length)).sum
theorem lastS_snoc (l : List SV) (s : SV) : lastS (l ++ [s]) = s := by simp [lastS]
theorem xsL_snoc (l : List SV) (s : SV) : xsL (l ++ [s]) = Tk.uni (xsL l) (Tk.idsL s.h.P) := by simp [xsL]
theorem ysL_snoc (l : List SV) (s : SV) : ysL (l ++ [s]) = Tk.uni (ysL l) (Tk.idsL s.h.Q) := by simp [ysL]
theorem take_s {l : List SV} {k : Nat} {s : SV} (h : l[k]? = some s) : l.take (k + 1) = l.take k ++ [s] := by rw [List.take_add_one, h]; rfl
/-- what is known of some samples lies in block q -/
def AhB (w : World) (q : Nat) (k : Nat) (s0 : SV) (xs ys : List Int) (wr : World) : Prop := ∃ A0 B0 c0 d0 A1 B1 c1 d1, wr.heap[q]? = some (.cells #[.int .i64 (k : Int), .int .i64 s0.t, .int .i64 s0.h.k, .int .i64 s0.h.s, .int .i64 s0.h.z, .int .u64 s0.h.zc, .int .u64 s0.h.ct, .int .i64 s0.h.sm, .slice A0 s0.h.P.length c0, .slice B0 s0.h.Q.length d0, .int .i64 (Tk.fstL xs), .slice A1 (Tk.runsL xs).length c1, .int .i64 (Tk.fstL ys), .slice B1 (Tk.runsL ys).length d1] 91 (0, 0)) ∧ (Bk w A0 s0.h.P ∧ Bk w B0 s0.h.Q) ∧ (Tk.Ly wr A1 xs ∧ Tk.Ly wr B1 ys) ∧ (∀ a, A1 = some a → q < a.block) ∧ ∀ a, B1 = some a → q < a.block
end Go.Proofs.YtakomfnajeolcaaGreatDoor.Ch


/- Fits, walked. -/
namespace Go.Proofs.YtakomfnajeolcaaGreatDoor.Ch
open Go.RowKit Go.Sort Go.Proofs.YtakomfnajeolcaaGreatDoor.En
set_option linter.unusedVariables false

theorem last_ok {l : List SV} {n : Nat} {s0 : SV} (h : ∀ x ∈ l, Ok x.h) (hn : l.length = n) (hs : lastS l = s0) : (n : Int) = 0 ∨ Ok s0.h := by
  rcases List.eq_nil_or_concat l with e | ⟨r, x, e⟩
  · exact .inl (by rw [e] at hn; simp at hn; omega)
  · subst e
    rw [List.concat_eq_append, lastS_snoc] at hs
    exact .inr (hs ▸ h x (by simp))
end Go.Proofs.YtakomfnajeolcaaGreatDoor.Ch
