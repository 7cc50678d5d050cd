import Derived.Test.YtakomfnajeolcaaGreatDoorCtA37
import Derived.Maps.OwnOps
import Derived.Maps.OwnSet
set_option linter.unusedVariables false
/- Maps from ints to ints: what such a map holds, key by key. -/
namespace Go.Proofs.YtakomfnajeolcaaGreatDoor.Tk
open Go.RowKit Go.Sort Go.Maps
set_option linter.unusedVariables false

theorem kI (x : Int) : WideAt.IsKeyLit (Lit.int .i64 x) := trivial
/-- what a map of ints holds: nought where it has none -/
def Rd1 (D : DataW Unit) (f : Int → Int) : Prop :=
  Tidy D ∧ (∀ x, D.atKey (.int .i64 x) (.lit (.int .i64 0)) = .lit (.int .i64 (f x)) ∧ (has D (.int .i64 x) = true ↔ f x ≠ 0)) ∧
  ∃ L : List Int, L.Nodup ∧ (∀ x, f x ≠ 0 ↔ x ∈ L) ∧ size D = L.length
theorem Rd1.empty : Rd1 (.map []) (fun _ => 0) :=
  ⟨tidy_empty, fun x => ⟨rfl, by simp [has]⟩, [], List.nodup_nil, by simp, rfl⟩
theorem Rd1.put {D : DataW Unit} {f : Int → Int} (h : Rd1 D f) {x n : Int} (hn : n ≠ 0) : Rd1 (D.put (.int .i64 x) (.lit (.int .i64 n))) (fun z => if z = x then n else f z) := by
  obtain ⟨ht, hr, L, hL1, hL2, hL3⟩ := h
  refine ⟨ht.put (kI x) _, fun z => ?_, ?_⟩
  · by_cases he : z = x
    · subst he
      rw [atKey_put_same ht.isMap (kI _), has_put_same ht.isMap (kI _)]
      simp [hn]
    · have hne : (Lit.int .i64 z) ≠ .int .i64 x := fun e => he (by simpa using e)
      rw [atKey_put_other hne, has_put_other hne]
      simp only [if_neg he]
      exact hr z
  · rw [size_put ht]
    by_cases hh : has D (.int .i64 x) = true
    · rw [if_pos hh]
      have hm : x ∈ L := (hL2 x).1 ((hr x).2.1 hh)
      refine ⟨L, hL1, fun z => ?_, hL3⟩
      by_cases he : z = x
      · subst he; simp [hn, hm]
      · simp only [if_neg he]; exact hL2 z
    · rw [if_neg hh]
      have hm : x ∉ L := fun hm => hh ((hr x).2.2 ((hL2 x).2 hm))
      refine ⟨x :: L, List.nodup_cons.2 ⟨hm, hL1⟩, fun z => ?_, by simp [hL3]⟩
      by_cases he : z = x
      · subst he; simp [hn]
      · simp only [List.mem_cons, he, false_or, if_false]; exact hL2 z
theorem Rd1.ext {D : DataW Unit} {f g : Int → Int} (h : Rd1 D f) (e : ∀ x, f x = g x) : Rd1 D g := by
  have : f = g := funext e
  rw [← this]; exact h
/-- buckets by what is wanted: those that have something -/
theorem bkt_want : ∀ (ids : List Int) (l : List (Int × Int)), Asc ids → Asc (idsL l) → (∀ i ∈ idsL l, i ∈ ids) → bktF ids (wantF ids l) = l.filter (fun p => !(p.2 == 0))
  | [], l, _, _, hm => by
    cases l with
    | nil => rfl
    | cons p t => have := hm p.1 (by simp [idsL]); simp at this
  | x :: r, [], ha, hl, hm => by
    have ih := bkt_want r [] (by unfold Asc at *; exact (List.pairwise_cons.1 ha).2) hl (fun i hi => by simp [idsL] at hi)
    simp only [wantF, bktF, if_true]
    exact ih
  | x :: r, p :: t, ha, hl, hm => by
    unfold Asc at ha hl
    obtain ⟨a1, a2⟩ := List.pairwise_cons.1 ha
    have hl' : (p.1 :: idsL t).Pairwise fun a b => a < b := hl
    obtain ⟨l1, l2⟩ := List.pairwise_cons.1 hl'
    have hp : p.1 = x ∨ p.1 ∈ r := by
      have := hm p.1 (by simp [idsL])
      simpa using this
    have ht : ∀ i ∈ idsL t, i ∈ r := fun i hi => by
      have h1 := l1 i hi
      have h2 := hm i (by simp [idsL] at hi ⊢; exact .inr hi)
      simp only [List.mem_cons] at h2
      rcases h2 with rfl | h2
      · rcases hp with h | h
        · omega
        · have := a1 _ h; omega
      · exact h2
    by_cases hx : p.1 = x
    · have ih := bkt_want r t a2 l2 ht
      simp only [wantF, if_pos hx, bktF]
      by_cases h0 : p.2 = 0
      · rw [if_pos h0, ih]; simp [h0]
      · rw [if_neg h0, ih, List.filter_cons, if_pos (by simp [h0])]
        rw [← hx]
    · have ih := bkt_want r (p :: t) a2 hl (fun i hi => by
        have hi' : i = p.1 ∨ i ∈ idsL t := by simpa [idsL] using hi
        rcases hi' with rfl | hi'
        · rcases hp with h | h
          · exact absurd h hx
          · exact h
        · exact ht i hi')
      simp only [wantF, if_neg hx, bktF, if_true]
      exact ih
end Go.Proofs.YtakomfnajeolcaaGreatDoor.Tk


/- A whole chunk as bits; taken again. Nothing of the program stands here. -/
namespace Go.Proofs.YtakomfnajeolcaaGreatDoor.Ch
open Go.RowKit Go.Sort Go.Proofs.YtakomfnajeolcaaGreatDoor.En
set_option linter.unusedVariables false

/-- the numbers that a chunk tells of a histogram -/
def numsL (xs ys : List Int) (h : HV) : List Int := h.zc :: um h.sm :: (Tk.cntF xs h.P ++ Tk.cntF ys h.Q)
def nNum (xs ys : List Int) : Nat := 2 + xs.length + ys.length
theorem numsL_length (xs ys : List Int) (h : HV) : (numsL xs ys h).length = nNum xs ys := by unfold numsL nNum; simp [Tk.cntF_length]; omega
/-- the histogram of numbers, and what is wrong with it -/
def headH (k s z : Int) (row : List Int) : HV := ⟨k, s, z, row.headD 0, 0, sgn ((row.drop 1).headD 0), [], []⟩
def rowP (xs row : List Int) : List (Int × Int) := Tk.bktF xs (row.drop 2)
def rowQ (xs ys row : List Int) : List (Int × Int) := Tk.bktF ys (row.drop (2 + xs.length))
def rowH (k s z : Int) (xs ys row : List Int) : HV := mkO (headH k s z row) (rowP xs row) (rowQ xs ys row)
def rowE (k s z : Int) (xs ys row : List Int) : Int := mkE (headH k s z row) (rowP xs row) (rowQ xs ys row)
theorem bktF_more (l m r : List Int) (h : l.length = m.length) : Tk.bktF l (m ++ r) = Tk.bktF l m := by
  have := Tk.bktF_take (l := l) (m := m ++ r) m.length (.inl (by omega))
  rw [← this, List.take_left', ← h, List.take_length]
  rfl
theorem bkt_of {ids : List Int} {l : List (Int × Int)} (ha : Tk.Asc ids) (hl : Asc l) (hp : Pos l) (hm : ∀ i ∈ Tk.idsL l, i ∈ ids) : Tk.bktF ids (Tk.cntF ids l) = l := by
  rw [Tk.cntF_want ids l ha (ids_asc hl) hm, Tk.bkt_want ids l ha (ids_asc hl) hm]
  refine List.filter_eq_self.2 fun p hpl => ?_
  have := hp p hpl
  simp
  omega
theorem sgn_um {x : Int} (h : inI64 x) : sgn (um x) = x := by
  unfold inI64 at h
  unfold sgn um
  split <;> omega
theorem row_back {h : HV} (o : Ok h) {xs ys : List Int} (ax : Tk.Asc xs) (ay : Tk.Asc ys) (hx : ∀ i ∈ Tk.idsL h.P, i ∈ xs) (hy : ∀ i ∈ Tk.idsL h.Q, i ∈ ys) : rowE h.k h.s h.z xs ys (numsL xs ys h) = 0 ∧ rowH h.k h.s h.z xs ys (numsL xs ys h) = h := by
  have e1 : rowP xs (numsL xs ys h) = h.P := by
    show Tk.bktF xs (Tk.cntF xs h.P ++ Tk.cntF ys h.Q) = h.P
    rw [bktF_more _ _ _ (Tk.cntF_length xs h.P).symm, bkt_of ax o.aP o.pP hx]
  have e2 : rowQ xs ys (numsL xs ys h) = h.Q := by
    have : (numsL xs ys h).drop (2 + xs.length) = Tk.cntF ys h.Q := by
      unfold numsL
      rw [show 2 + xs.length = xs.length + 1 + 1 by omega, List.drop_succ_cons, List.drop_succ_cons, ← Tk.cntF_length xs h.P, List.drop_left']
      rfl
    unfold rowQ
    rw [this, bkt_of ay o.aQ o.pQ hy]
  have e3 : headH h.k h.s h.z (numsL xs ys h) = ⟨h.k, h.s, h.z, h.zc, 0, h.sm, [], []⟩ := by
    unfold headH numsL
    simp only [List.headD_cons, List.drop_succ_cons, List.drop_zero]
    rw [sgn_um o.sm]
  have e4 : mkR ⟨h.k, h.s, h.z, h.zc, 0, h.sm, [], []⟩ h.P h.Q = h := HV.eq rfl rfl rfl rfl o.ct rfl (tidy_self o.aP o.pP) (tidy_self o.aQ o.pQ)
  have e5 : rowE h.k h.s h.z xs ys (numsL xs ys h) = 0 := by
    unfold rowE
    rw [e1, e2, e3]
    unfold mkE
    rw [e4, o.chk]
    have := o.ct
    have := o.big
    rw [if_neg (by show ¬ 18446744073709551615 < h.zc + cnt h.P + cnt h.Q; omega)]
  refine ⟨e5, ?_⟩
  unfold rowE at e5
  unfold rowH mkO
  rw [if_pos e5, e1, e2, e3, e4]

/-- samples that are a chunk, plainly -/
structure Chn (l : List SV) : Prop where
  ne : l ≠ []
  le : l.length ≤ 32
  ok : ∀ s ∈ l, Ok s.h
  t : ∀ s ∈ l, 0 ≤ s.t ∧ s.t ≤ 1099511627776
  rise : (l.map (·.t)).Pairwise (· < ·)
  same : ∀ s ∈ l, ∀ a, l.head? = some a → lhB a.h s.h = true
  ix : Ix (xsL l) 512
  iy : Ix (ysL l) 512
/-- what is known of samples that lie in memory -/
def Raw (s : SV) : Prop := 0 ≤ s.h.zc ∧ inI64 s.h.sm ∧ Nn s.h.P ∧ Nn s.h.Q
theorem lhB_trans {a b c : HV} (h : lhB a b = true) (k : lhB b c = true) : lhB a c = true := by
  rw [lhB_true] at *
  exact ⟨h.1.trans k.1, h.2.1.trans k.2.1, h.2.2.trans k.2.2⟩
theorem chn_from : ∀ (l : List SV) (k : Nat) (s0 : SV) (xs ys : List Int), (∀ s ∈ l, Raw s) → chkFrom (k : Int) s0 xs ys l = 0 → k ≤ 32 → Ix xs 512 → Ix ys 512 → (k = 0 → xs = [] ∧ ys = []) →
    k + l.length ≤ 32 ∧ (∀ s ∈ l, Ok s.h) ∧ (∀ s ∈ l, 0 ≤ s.t ∧ s.t ≤ 1099511627776) ∧ (l.map (·.t)).Pairwise (· < ·) ∧ (k ≠ 0 → ∀ s ∈ l, s0.t < s.t ∧ lhB s0.h s.h = true) ∧ (∀ s ∈ l, ∀ a, l.head? = some a → lhB a.h s.h = true) ∧
      Ix (l.foldl (fun a s => Tk.uni a (Tk.idsL s.h.P)) xs) 512 ∧ Ix (l.foldl (fun a s => Tk.uni a (Tk.idsL s.h.Q)) ys) 512
  | [], k, s0, xs, ys, _, _, hk, hx, hy, _ => ⟨by simpa using hk, by simp, by simp, by simp, by simp, by simp, hx, hy⟩
  | s :: r, k, s0, xs, ys, hr, hc, hk, hx, hy, h0 => by
    unfold chkFrom at hc
    by_cases ht : inT s.t = true
    · rw [if_pos ht] at hc
      by_cases hh : chk s.h = 0
      · rw [if_pos hh] at hc
        by_cases hf : fitsB (k : Int) s0 xs ys s = true
        · rw [if_pos hf] at hc
          obtain ⟨w1, w2, w3, w4⟩ := hr s (by simp)
          have o := Ok.of hh w1 w2 w3 w4
          have u1 := hx.uni (Ix.P o)
          have u2 := hy.uni (Ix.Q o)
          have hk1 : k + 1 ≤ 32 ∧ Ix (Tk.uni xs (Tk.idsL s.h.P)) 512 ∧ Ix (Tk.uni ys (Tk.idsL s.h.Q)) 512 ∧ (k ≠ 0 → s0.t < s.t ∧ lhB s0.h s.h = true) := by
            by_cases hk0 : (k : Int) = 0
            · obtain rfl : k = 0 := by omega
              obtain ⟨rfl, rfl⟩ := h0 rfl
              have e1 := (Tk.uni_uni [] (Tk.idsL s.h.P)).2.2
              have e2 := (Tk.uni_uni [] (Tk.idsL s.h.Q)).2.2
              have l1 := (Ix.P o).len
              have l2 := (Ix.Q o).len
              simp only [List.length_nil] at e1 e2
              exact ⟨by omega, ⟨u1.asc, u1.inb, by omega⟩, ⟨u2.asc, u2.inb, by omega⟩, fun h => absurd rfl h⟩
            · unfold fitsB at hf
              rw [decide_eq_false hk0, Bool.false_or] at hf
              simp only [Bool.and_eq_true, decide_eq_true_eq] at hf
              obtain ⟨f1, f2, f3, f4, f5, f6⟩ := hf
              exact ⟨by omega, ⟨u1.asc, u1.inb, f5⟩, ⟨u2.asc, u2.inb, f6⟩, fun _ => ⟨f2, f3⟩⟩
          obtain ⟨k1, k2, k3, k4⟩ := hk1
          obtain ⟨i1, i2, i3, i4, i5, i6, i7, i8⟩ := chn_from r (k + 1) s _ _ (fun x hx => hr x (by simp [hx])) (by rw [show ((k + 1 : Nat) : Int) = (k : Int) + 1 by omega]; exact hc) k1 k2 k3 (by omega)
          have i5 := i5 (by omega)
          have hts := inT_true.1 ht
          refine ⟨by simp only [List.length_cons]; omega, fun x hx => ?_, fun x hx => ?_, ?_, fun hk0 x hx => ?_, fun x hx a ha => ?_, i7, i8⟩
          · rcases List.mem_cons.1 hx with rfl | hx
            · exact o
            · exact i2 x hx
          · rcases List.mem_cons.1 hx with rfl | hx
            · exact hts
            · exact i3 x hx
          · rw [List.map_cons, List.pairwise_cons]
            refine ⟨fun t ht' => ?_, i4⟩
            obtain ⟨x, hx, rfl⟩ := List.mem_map.1 ht'
            exact (i5 x hx).1
          · obtain ⟨a1, a2⟩ := k4 hk0
            rcases List.mem_cons.1 hx with rfl | hx
            · exact ⟨a1, a2⟩
            · obtain ⟨b1, b2⟩ := i5 x hx
              exact ⟨by omega, lhB_trans a2 b2⟩
          · obtain rfl : s = a := by simpa using ha
            rcases List.mem_cons.1 hx with rfl | hx
            · exact lhB_true.2 ⟨rfl, rfl, rfl⟩
            · exact (i5 x hx).2
        · rw [if_neg hf] at hc
          exact absurd hc (by decide)
      · rw [if_neg hh] at hc
        exact absurd hc hh
    · rw [if_neg ht] at hc
      exact absurd hc (by decide)
theorem chn_of {l : List SV} (hr : ∀ s ∈ l, Raw s) (h : chkF l = 0) : Chn l := by
  unfold chkF at h
  by_cases hl : l = []
  · rw [if_pos hl] at h; exact absurd h (by decide)
  · rw [if_neg hl] at h
    obtain ⟨i1, i2, i3, i4, _, i6, i7, i8⟩ := chn_from l 0 zS [] [] hr h (by omega) ⟨Ix.nil.asc, Ix.nil.inb, by simp⟩ ⟨Ix.nil.asc, Ix.nil.inb, by simp⟩ (fun _ => ⟨rfl, rfl⟩)
    exact ⟨hl, by omega, i2, i3, i4, i6, i7, i8⟩

/-- a chunk's bits -/
def encOf (k s z : Int) (xs ys : List Int) (l : List (Int × List Int)) : List Bool :=
  (((((Tk.bitsL 1 k.toNat ++ Tk.bitsL 4 (s + 4).toNat) ++ intL z) ++ Tk.layL (Tk.fstL xs) (Tk.runsL xs)) ++ Tk.layL (Tk.fstL ys) (Tk.runsL ys)) ++ Tk.codeL (l.length - 1)) ++ bodyL (nNum xs ys) [] [] l
def rowsOf (xs ys : List Int) (l : List SV) : List (Int × List Int) := l.map fun s => (s.t, numsL xs ys s.h)
def hdS (l : List SV) : SV := l.headD zS
def encL (l : List SV) : List Bool := encOf (hdS l).h.k (hdS l).h.s (hdS l).h.z (xsL l) (ysL l) (rowsOf (xsL l) (ysL l) l)

/-- what is taken of bytes: bit by bit -/
def st1 (bs : List Nat) : Nat × Int := (Tk.getF bs 1 (0, 0)).2
def st2 (bs : List Nat) : Nat × Int := (Tk.getF bs 4 (st1 bs)).2
def st3 (bs : List Nat) : Nat × Int := (intF bs (st2 bs)).2
def tkP (bs : List Nat) : (Int × List (Int × Int)) × (Nat × Int) := takeS (fun f L => Tk.rightF f L 512) bs 511 (st3 bs)
def tkQ (bs : List Nat) : (Int × List (Int × Int)) × (Nat × Int) := takeS (fun f L => Tk.rightF f L 512) bs 511 (tkP bs).2
def tkN (bs : List Nat) : Nat × (Nat × Int) := Tk.smallF bs 31 (tkQ bs).2
def kOf (bs : List Nat) : Int := if Tk.bitF bs (0, 0) then 1 else 0
def sOf (bs : List Nat) : Int := ((Tk.getF bs 4 (st1 bs)).1 : Int) - 4
def zOf (bs : List Nat) : Int := (intF bs (st2 bs)).1
def xOf (bs : List Nat) : List Int := Tk.indF (tkP bs).1.1 (tkP bs).1.2
def yOf (bs : List Nat) : List Int := Tk.indF (tkQ bs).1.1 (tkQ bs).1.2
def okOf (bs : List Nat) (r : List Int) : Bool := decide (rowE (kOf bs) (sOf bs) (zOf bs) (xOf bs) (yOf bs) r = 0)
def tkL (bs : List Nat) : Option (List (Int × List Int)) := (bodyF bs (okOf bs) (nNum (xOf bs) (yOf bs)) ((tkN bs).1 + 1) [] [] (tkN bs).2).1
def svOf (bs : List Nat) (p : Int × List Int) : SV := ⟨p.1, rowH (kOf bs) (sOf bs) (zOf bs) (xOf bs) (yOf bs) p.2⟩
def takeF (bs : List Nat) : List SV := match tkL bs with | none => [] | some l => l.map (svOf bs)
theorem takeS_right (bs : List Nat) (s : Nat × Int) : Tk.rightF (takeS (fun f L => Tk.rightF f L 512) bs 511 s).1.1 (takeS (fun f L => Tk.rightF f L 512) bs 511 s).1.2 512 = true := by
  unfold takeS
  split
  · rfl
  · split
    · rename_i h; exact h
    · rfl
theorem xOf_ix (bs : List Nat) : Tk.runsL (xOf bs) = (tkP bs).1.2 ∧ Tk.fstL (xOf bs) = (tkP bs).1.1 ∧ Tk.Asc (xOf bs) ∧ Tk.Inw (xOf bs) ∧ ((xOf bs).length : Int) ≤ 512 := right_ix (takeS_right bs _) (by decide) (by decide)
theorem yOf_ix (bs : List Nat) : Tk.runsL (yOf bs) = (tkQ bs).1.2 ∧ Tk.fstL (yOf bs) = (tkQ bs).1.1 ∧ Tk.Asc (yOf bs) ∧ Tk.Inw (yOf bs) ∧ ((yOf bs).length : Int) ≤ 512 := right_ix (takeS_right bs _) (by decide) (by decide)
theorem cntF_nn (ids : List Int) : ∀ (l : List (Int × Int)), (∀ p ∈ l, 0 ≤ p.2 ∧ p.2 ≤ 18446744073709551615) → ∀ x ∈ Tk.cntF ids l, 0 ≤ x ∧ x ≤ 18446744073709551615 := by
  induction ids with
  | nil => intro l h x hx; cases hx
  | cons i r ih =>
    intro l h x hx
    have hd : ∀ p ∈ Tk.dropW i l, 0 ≤ p.2 ∧ p.2 ≤ 18446744073709551615 := by
      intro p hp
      have : ∀ l : List (Int × Int), p ∈ Tk.dropW i l → p ∈ l := by
        intro l
        induction l with
        | nil => intro h; exact h
        | cons a t iht =>
          intro h
          unfold Tk.dropW at h
          split at h
          · exact List.mem_cons_of_mem _ (iht h)
          · exact h
      exact h p (this l hp)
    simp only [Tk.cntF] at hx
    rcases List.mem_cons.1 hx with rfl | hx
    · unfold Tk.headC
      split
      · omega
      · rename_i p t he
        have := hd p (by rw [he]; simp)
        split <;> omega
    · exact ih _ hd x hx
theorem numsL_r {xs ys : List Int} {h : HV} (z0 : 0 ≤ h.zc) (z1 : h.zc ≤ 18446744073709551615) (hP : ∀ p ∈ h.P, 0 ≤ p.2 ∧ p.2 ≤ 18446744073709551615) (hQ : ∀ p ∈ h.Q, 0 ≤ p.2 ∧ p.2 ≤ 18446744073709551615) : RowR (nNum xs ys) (numsL xs ys h) := by
  refine ⟨numsL_length xs ys h, fun x hx => ?_⟩
  unfold numsL at hx
  rcases List.mem_cons.1 hx with rfl | hx
  · exact ⟨z0, z1⟩
  · rcases List.mem_cons.1 hx with rfl | hx
    · exact um_bd _
    · rcases List.mem_append.1 hx with hx | hx
      · exact cntF_nn xs _ hP x hx
      · exact cntF_nn ys _ hQ x hx
theorem ok_bk {h : HV} (o : Ok h) : (0 ≤ h.zc ∧ h.zc ≤ 18446744073709551615) ∧ (∀ p ∈ h.P, 0 ≤ p.2 ∧ p.2 ≤ 18446744073709551615) ∧ ∀ p ∈ h.Q, 0 ≤ p.2 ∧ p.2 ≤ 18446744073709551615 := by
  have a := o.ct
  have b := o.big
  have c0 := o.zc
  have c1 : 0 ≤ cnt h.P := cnt_nonneg o.toGood.wP
  have c2 : 0 ≤ cnt h.Q := cnt_nonneg o.toGood.wQ
  exact ⟨⟨c0, by omega⟩, fun p hp => (o.toGood.wP p hp).2.2, fun p hp => (o.toGood.wQ p hp).2.2⟩
theorem mem_xs {l : List SV} {s : SV} (hs : s ∈ l) : (∀ i ∈ Tk.idsL s.h.P, i ∈ xsL l) ∧ ∀ i ∈ Tk.idsL s.h.Q, i ∈ ysL l :=
  ⟨fun i hi => ((xs_fold (fun s => Tk.idsL s.h.P) l [] List.Pairwise.nil).2 i).2 (.inr ⟨s, hs, hi⟩), fun i hi => ((xs_fold (fun s => Tk.idsL s.h.Q) l [] List.Pairwise.nil).2 i).2 (.inr ⟨s, hs, hi⟩)⟩
set_option maxRecDepth 100000 in
/-- what was laid of a chunk is taken, whatever stands behind -/
theorem takeF_at {bs : List Nat} (hb : ∀ b ∈ bs, b < 256) {l : List SV} (c : Chn l) (h : At bs 0 (encL l)) : takeF bs = l := by
  have h0 := h
  obtain ⟨a, ha⟩ : ∃ a, hdS l = a := ⟨_, rfl⟩
  have hm : a ∈ l ∧ l.head? = some a := by
    have hne := c.ne
    unfold hdS at ha
    cases l with
    | nil => exact absurd rfl hne
    | cons x r => simp at ha; subst ha; exact ⟨by simp, rfl⟩
  have oa := c.ok a hm.1
  have hk : a.h.k = 0 ∨ a.h.k = 1 := oa.k
  have hs := oa.s
  have hsr : -4 ≤ a.h.s ∧ a.h.s ≤ 8 := by
    have := hs
    unfold rightB at this
    simpa using this
  have hz : -9223372036854775808 ≤ a.h.z ∧ a.h.z ≤ 9223372036854775807 := by
    have := oa.z
    unfold zr at this
    omega
  unfold encL encOf at h0
  rw [ha] at h0
  obtain ⟨h1, hB⟩ := h0.cut
  obtain ⟨h2, hN⟩ := h1.cut
  obtain ⟨h3, hQ⟩ := h2.cut
  obtain ⟨h4, hP⟩ := h3.cut
  obtain ⟨h5, hZ⟩ := h4.cut
  obtain ⟨hK, hS⟩ := h5.cut
  have e1 := hK.get hb
  have e2 := hS.get hb
  have e3 := hZ.int hb hz.1 hz.2
  have e4 := takeS_ix hb c.ix.asc c.ix.inb c.ix.len hP
  have e5 := takeS_ix hb c.iy.asc c.iy.inb c.iy.len hQ
  have hrl : (rowsOf (xsL l) (ysL l) l).length = l.length := by simp [rowsOf]
  have hlen := c.le
  have hpos : 0 < l.length := List.length_pos_iff.2 c.ne
  have e6 := At.small hb (m := 31) (by omega) (by rw [hrl]; omega) hN
  simp only [List.length_append, Nat.zero_add, ← Nat.add_assoc] at e1 e2 e3 e4 e5 e6 hB
  rw [Tk.bitsL_length] at e2 e3 e4 e5 e6 hB
  rw [Tk.bitsL_length] at e3 e4 e5 e6 hB
  have s1 : st1 bs = (1, 0) := by unfold st1; rw [e1]
  have s2 : st2 bs = (1 + 4, 0) := by unfold st2; rw [s1, e2]
  have s3 : st3 bs = (1 + 4 + (intL a.h.z).length, 0) := by unfold st3; rw [s2, e3]
  have s4 : tkP bs = ((Tk.fstL (xsL l), Tk.runsL (xsL l)), (1 + 4 + (intL a.h.z).length + (Tk.layL (Tk.fstL (xsL l)) (Tk.runsL (xsL l))).length, 0)) := by unfold tkP; rw [s3]; exact e4
  have s5 : tkQ bs = ((Tk.fstL (ysL l), Tk.runsL (ysL l)), (1 + 4 + (intL a.h.z).length + (Tk.layL (Tk.fstL (xsL l)) (Tk.runsL (xsL l))).length + (Tk.layL (Tk.fstL (ysL l)) (Tk.runsL (ysL l))).length, 0)) := by unfold tkQ; rw [s4]; exact e5
  have s6 : tkN bs = ((rowsOf (xsL l) (ysL l) l).length - 1, (1 + 4 + (intL a.h.z).length + (Tk.layL (Tk.fstL (xsL l)) (Tk.runsL (xsL l))).length + (Tk.layL (Tk.fstL (ysL l)) (Tk.runsL (ysL l))).length + (Tk.codeL ((rowsOf (xsL l) (ysL l) l).length - 1)).length, 0)) := by unfold tkN; rw [s5]; exact e6
  have eK : kOf bs = a.h.k := by
    unfold kOf Tk.bitF
    rw [e1]
    rcases hk with hk | hk <;> rw [hk] <;> rfl
  have eS : sOf bs = a.h.s := by
    unfold sOf
    rw [s1, e2]
    have : (a.h.s + 4).toNat % 2 ^ 4 = (a.h.s + 4).toNat := Nat.mod_eq_of_lt (by omega)
    simp only
    rw [this]
    omega
  have eZ : zOf bs = a.h.z := by unfold zOf; rw [s2, e3]
  have eX : xOf bs = xsL l := by unfold xOf; rw [s4]; exact (Tk.runs_tell (xsL l)).1
  have eY : yOf bs = ysL l := by unfold yOf; rw [s5]; exact (Tk.runs_tell (ysL l)).1
  have hback : ∀ s ∈ l, okOf bs (numsL (xsL l) (ysL l) s.h) = true ∧ svOf bs (s.t, numsL (xsL l) (ysL l) s.h) = s := fun s hsm => by
    obtain ⟨l1, l2, l3⟩ := lhB_true.1 (c.same s hsm a hm.2)
    obtain ⟨m1, m2⟩ := mem_xs hsm
    obtain ⟨r1, r2⟩ := row_back (c.ok s hsm) c.ix.asc c.iy.asc m1 m2
    unfold okOf svOf
    rw [eK, eS, eZ, eX, eY, l1, l2, l3]
    exact ⟨by rw [r1]; rfl, by simp only; rw [r2]⟩
  have eB := bodyF_back hb (ok := okOf bs) (n := nNum (xsL l) (ysL l)) (rowsOf (xsL l) (ysL l) l) [] [] _ (by simp) (by simp) (fun q hq => by
    obtain ⟨s, hsm, rfl⟩ := List.mem_map.1 hq
    obtain ⟨b1, b2, b3⟩ := ok_bk (c.ok s hsm)
    exact ⟨(c.t s hsm).1, (c.t s hsm).2, numsL_r b1.1 b1.2 b2 b3, (hback s hsm).1⟩) (by
    have : (rowsOf (xsL l) (ysL l) l).map (·.1) = l.map (·.t) := by simp [rowsOf]
    rw [this]; exact c.rise) (by simp) hB
  have eL : tkL bs = some (rowsOf (xsL l) (ysL l) l) := by
    unfold tkL
    rw [s6, eX, eY]
    simp only
    rw [show (rowsOf (xsL l) (ysL l) l).length - 1 + 1 = (rowsOf (xsL l) (ysL l) l).length by rw [hrl]; omega, eB]
  unfold takeF
  rw [eL]
  simp only
  unfold rowsOf
  rw [List.map_map]
  refine (List.map_congr_left fun s hsm => (hback s hsm).2).trans (List.map_id l)
theorem takeF_back {bs : List Nat} (hb : ∀ b ∈ bs, b < 256) {l : List SV} (c : Chn l) (h : Tl.LaidL bs (encL l)) : takeF bs = l := takeF_at hb c (At.all h)
end Go.Proofs.YtakomfnajeolcaaGreatDoor.Ch
