import Derived.Test.YtakomfnajeolcaaGreatDoorCtA39
import Derived.Maps.AppendAt
set_option linter.unusedVariables false
/- span.Lay and layHead: a layout is laid, and what a chunk tells once. -/
namespace Go.Proofs.YtakomfnajeolcaaGreatDoor.Ch
open Go.RowKit Go.Sort Go.Proofs.YtakomfnajeolcaaGreatDoor.En
set_option linter.unusedVariables false

/-- what is laid of a layout with its first k runs -/
def layK (f : Int) (R : List (Int × Int)) (k : Nat) : List Bool := (Tk.codeL R.length ++ (if k = 0 then [] else intL f)) ++ Tk.restL 0 (R.take k)
theorem layK_zero (f : Int) (R : List (Int × Int)) : layK f R 0 = Tk.codeL R.length := by simp [layK, Tk.restL]
theorem layK_all (f : Int) (R : List (Int × Int)) : layK f R R.length = Tk.layL f R := by
  unfold layK Tk.layL
  by_cases h : R = []
  · subst h; simp [Tk.restL]
  · rw [if_neg h, if_neg (fun e => h (List.eq_nil_of_length_eq_zero e)), List.take_length]; rfl
theorem layK_first {f : Int} {R : List (Int × Int)} {p : Int × Int} (h : R[0]? = some p) : layK f R 1 = (Tk.codeL R.length ++ intL f) ++ Tk.codeL (p.2 - 1).toNat := by
  cases R with
  | nil => simp at h
  | cons a r => simp at h; subst h; simp [layK, Tk.restL]
theorem layK_next {f : Int} {R : List (Int × Int)} {p : Int × Int} {k : Nat} (h : R[k]? = some p) (hk : k ≠ 0) : layK f R (k + 1) = (layK f R k ++ Tk.codeL (p.1 - 1).toNat) ++ Tk.codeL (p.2 - 1).toNat := by
  have hl : k < R.length := (List.getElem?_eq_some_iff.1 h).1
  unfold layK
  rw [if_neg hk, if_neg (by omega), take_snoc R k p h, Tk.restL_snoc, List.length_take, Nat.min_eq_left (by omega), if_pos (by omega)]
  simp only [List.append_assoc]
theorem layK_length (f : Int) (R : List (Int × Int)) (k : Nat) : (layK f R k).length ≤ 142 + 142 * R.length := by
  have h1 := Tk.codeL_length R.length
  have h2 : (if k = 0 then [] else intL f).length ≤ 71 := by
    split
    · simp
    · exact Tk.codeL_length _
  have h3 := Tk.restL_length (R.take k) 0
  rw [List.length_take] at h3
  unfold layK
  simp only [List.length_append]
  omega
def NewG (G : Nat → Prop) (w w' : World) : Nat → Prop := fun k => G k ∨ (w.heap.size ≤ k ∧ k < w'.heap.size)
def LaRel (G : Nat → Prop) (W0 : World) (p B : Nat) (L : List Bool) (f : Int) (R : List (Int × Int)) (w : World) (i : Value) (wr : World) : Prop :=
  ∃ k : Nat, k ≤ R.length ∧ i = .int .i64 (k : Int) ∧ WG G W0 p B (L ++ layK f R k) wr ∧ KpG G w wr
set_option maxHeartbeats 1000000 in
set_option maxRecDepth 100000 in
theorem lay_g (f : Int) (A : Option Addr) (n c : Nat) (R : List (Int × Int)) (G : Nat → Prop) (W0 : World) (p B : Nat) (L : List Bool) (w : World) (h : WG G W0 p B L w) (hp : W0.heap.size ≤ p) (hT : Tk.Tab W0) (hL : L.length ≤ 7000000) (hn : n = R.length) (hn9 : n ≤ 1000)
    (hA : Tk.Cl W0 A (Tk.twoC .i64 R)) (hf : -1000000 ≤ f ∧ f ≤ 1000000) (hR : ∀ k q, R[k]? = some q → (k ≠ 0 → 1 ≤ q.1) ∧ 0 ≤ q.1 ∧ q.1 ≤ 1000000 ∧ 1 ≤ q.2 ∧ q.2 ≤ 1000000) :
    Calls Tryz.prog 56 #[.pointer (some ⟨p, 0, none⟩), .agg #[.int .i64 f, .slice A n c]] w (WPost G W0 p B L (Tk.layL f R) w) := by
  obtain ⟨g, hg⟩ : ∃ g, w.heap.size = g := ⟨_, rfl⟩
  obtain ⟨w1, hw1⟩ : ∃ W, w.alloc (.cells #[.int .i64 f, .slice A n c] 52) = W := ⟨_, rfl⟩
  have hb1 : Below w.heap.size w w1 := by rw [← hw1]; exact (Below.refl _ _).alloc (Nat.le_refl _) _
  have hbx : w1.heap[g]? = some (.cells #[.int .i64 f, .slice A n c] 52 (0, 0)) := by rw [← hw1, ← hg]; exact heap_alloc_new w _
  have hsz1 : w1.heap.size = g + 1 := by rw [← hw1]; simp [hg]
  obtain ⟨G1, hG1⟩ : ∃ G1, NewG G w w1 = G1 := ⟨_, rfl⟩
  have hG1g : G1 g := by rw [← hG1]; exact .inr ⟨by omega, by omega⟩
  have HG1 := Lib.hid (show WG G1 W0 p B L w1 from by rw [← hG1]; exact h.more hb1)
  have HLT := Lib.hid (fun x (hx : G x) => show G1 x from by rw [← hG1]; exact .inl hx)
  have HK0 := Lib.hid (KpG.of_below (fun x hx => h.lt hx) hb1)
  have HBX := Lib.hid (fun (W : World) (k : KpG G1 w1 W) => (k.2 g hG1g).trans hbx)
  have HA := Lib.hid hA
  have HR := Lib.hid hR
  have HN := Lib.hid hn
  have HW1 := Lib.hid hw1
  have HGE := Lib.hid hg
  have n0 : (0 : Int) ≤ (n : Int) := by omega
  clear h hb1 hbx hG1g hA hR hn hw1 hg hsz1 hG1
  go_enter Tryz.func56, Tryz.ntmps56
  obtain ⟨v0, v1, vf⟩ := Tk.box2 (HBX.out w1 (KpG.refl _ _))
  clear vf
  go_wp2_with fail
  simp only [HW1.out, HGE.out]
  refine (count_g (n : Int) G1 W0 p B L _ HG1.out hp hT (by omega) n0 (by omega)).mono ?_
  rintro e w2 ⟨rfl, r1, r2⟩
  have R2 := Lib.hid (show WG G1 W0 p B (L ++ layK f R 0) w2 ∧ KpG G1 w1 w2 from by rw [layK_zero, ← HN.out]; exact ⟨by rw [Int.toNat_natCast] at r1; exact r1, r2⟩)
  clear r1 r2 v0 v1
  obtain ⟨v0, v1, vf⟩ := Tk.box2 (HBX.out w2 R2.out.2)
  clear vf
  go_wp2_with fail
  clear v0 v1
  go_loopw [15] (fun i wr => LaRel G1 W0 p B L f R w1 i wr) (fun i _ => n - (intOf i).toNat)
  case atStart => exact ⟨0, by omega, rfl, R2.out.1, R2.out.2⟩
  case round =>
    obtain ⟨k, hk, rfl, hwg, hkp⟩ := hrel
    have HW := Lib.hid hwg
    have HK := Lib.hid hkp
    rw [← HN.out] at hk
    clear hwg hkp
    by_cases hlt : k < n
    · obtain ⟨q, hq⟩ := getElem?_lt (l := R) (k := k) (by have := HN.out; omega)
      obtain ⟨b, o, rfl, hc⟩ := (HA.out.below HW.out.bel).twos (by have := HN.out; omega)
      obtain ⟨q1, q2⟩ := hc k q hq
      obtain ⟨o0, o1, o2, n1, n2⟩ := HR.out k q hq
      have hll : (L ++ layK f R k).length ≤ 7500000 := by
        have := layK_length f R k
        rw [List.length_append, ← HN.out] at *
        omega
      have HQ := Lib.hid hq
      obtain ⟨u, x⟩ := q
      simp only at q1 q2 o0 o1 o2 n1 n2
      obtain ⟨v0, v1, vf⟩ := Tk.box2 (HBX.out wr HK.out)
      obtain ⟨g2, hg2⟩ : ∃ g2, wr.heap.size = g2 := ⟨_, rfl⟩
      obtain ⟨w3, hw3⟩ : ∃ W, wr.alloc (.cells #[.int .i64 u, .int .i64 x] 130) = W := ⟨_, rfl⟩
      have hb3 : Below wr.heap.size wr w3 := by rw [← hw3]; exact (Below.refl _ _).alloc (Nat.le_refl _) _
      have hbx3 : w3.heap[g2]? = some (.cells #[.int .i64 u, .int .i64 x] 130 (0, 0)) := by rw [← hw3, ← hg2]; exact heap_alloc_new wr _
      have hsz3 : w3.heap.size = g2 + 1 := by rw [← hw3]; simp [hg2]
      obtain ⟨G2, hG2⟩ : ∃ G2, NewG G1 wr w3 = G2 := ⟨_, rfl⟩
      have hG2g : G2 g2 := by rw [← hG2]; exact .inr ⟨by omega, by omega⟩
      have HG2 := Lib.hid (show WG G2 W0 p B (L ++ layK f R k) w3 from by rw [← hG2]; exact HW.out.more hb3)
      have HL2 := Lib.hid (fun y (hy : G1 y) => show G2 y from by rw [← hG2]; exact .inl hy)
      have HK3 := Lib.hid (HK.out.trans (KpG.of_below (fun y hy => HW.out.lt hy) hb3))
      have HBX2 := Lib.hid (fun (W : World) (k : KpG G2 w3 W) => (k.2 g2 hG2g).trans hbx3)
      have HBX3 := Lib.hid (HBX.out w3 HK3.out)
      have HW3 := Lib.hid hw3
      have HG3 := Lib.hid hg2
      clear hc hq vf hg2 hw3 hb3 hbx3 hsz3 hG2 hG2g
      clear v0 v1
      obtain ⟨y0, y1, yf⟩ := Tk.box2 (HBX2.out w3 (KpG.refl _ _))
      obtain ⟨v0, v1, vf⟩ := Tk.box2 HBX3.out
      clear yf vf
      have u0 : (wr.alloc (.cells #[.int .i64 u, .int .i64 x] 130)).cell? ⟨g, 0, none⟩ = some (.int .i64 f) := by rw [HW3.out]; exact v0
      have t0 : (wr.alloc (.cells #[.int .i64 u, .int .i64 x] 130)).cell? ⟨wr.heap.size, 0, none⟩ = some (.int .i64 u) := by rw [HW3.out, HG3.out]; exact y0
      by_cases h0 : k = 0
      · have h0' : ((k : Int) == 0) = true := by simp; exact h0
        have HS := Lib.hid (show L ++ layK f R (k + 1) = (L ++ layK f R k ++ intL f) ++ Tk.codeL (x - 1).toNat from by
          have hq := HQ.out
          rw [h0] at hq ⊢
          rw [layK_first hq, layK_zero]
          simp only [List.append_assoc])
        have hx0 : 0 ≤ x - 1 := by omega
        clear h0
        go_wp2_with fail
        simp only [HW3.out, HG3.out]
        refine (int_g f G2 W0 p B _ _ HG2.out hp hT (by omega) (by omega) (by omega)).mono ?_
        rintro e w4 ⟨rfl, r1, r2⟩
        have R4 := Lib.hid (And.intro r1 r2)
        clear r1 r2 v0 v1 y0 y1 u0 t0
        obtain ⟨y0, y1, yf⟩ := Tk.box2 (HBX2.out w4 R4.out.2)
        clear yf
        go_wp2_with fail
        refine (count_g (x - 1) G2 W0 p B _ _ R4.out.1 hp hT (by rw [List.length_append]; have := Tk.codeL_length (Tk.zigv f).toNat; unfold intL; omega) hx0 (by omega)).mono ?_
        rintro e w5 ⟨rfl, r1, r2⟩
        have R5 := Lib.hid (And.intro (r1.less HL2.out) (HK3.out.trans ((R4.out.2.trans r2).less HL2.out)))
        clear r1 r2 y0 y1
        go_wp2_with fail
        go_roundw
        case rel => exact ⟨k + 1, by have := HN.out; omega, by go_num, by rw [HS.out]; exact R5.out.1, R5.out.2⟩
        case measure => simp [intOf]; omega
      · have h0' : ((k : Int) == 0) = false := by simp; exact h0
        have HS := Lib.hid (show L ++ layK f R (k + 1) = (L ++ layK f R k ++ Tk.codeL (u - 1).toNat) ++ Tk.codeL (x - 1).toNat from by
          rw [layK_next HQ.out h0]
          simp only [List.append_assoc])
        have hu0 : 0 ≤ u - 1 := by have := o0 h0; omega
        have hx0 : 0 ≤ x - 1 := by omega
        clear h0
        go_wp2_with fail
        simp only [HW3.out, HG3.out]
        refine (count_g (u - 1) G2 W0 p B _ _ HG2.out hp hT (by omega) hu0 (by omega)).mono ?_
        rintro e w4 ⟨rfl, r1, r2⟩
        have R4 := Lib.hid (And.intro r1 r2)
        clear r1 r2 v0 v1 y0 y1 u0 t0
        obtain ⟨y0, y1, yf⟩ := Tk.box2 (HBX2.out w4 R4.out.2)
        clear yf
        go_wp2_with fail
        refine (count_g (x - 1) G2 W0 p B _ _ R4.out.1 hp hT (by rw [List.length_append]; have := Tk.codeL_length (u - 1).toNat; omega) hx0 (by omega)).mono ?_
        rintro e w5 ⟨rfl, r1, r2⟩
        have R5 := Lib.hid (And.intro (r1.less HL2.out) (HK3.out.trans ((R4.out.2.trans r2).less HL2.out)))
        clear r1 r2 y0 y1
        go_wp2_with fail
        go_roundw
        case rel => exact ⟨k + 1, by have := HN.out; omega, by go_num, by rw [HS.out]; exact R5.out.1, R5.out.2⟩
        case measure => simp [intOf]; omega
    · obtain rfl : k = n := by omega
      go_wp2_with fail
      go_end0
      exact ⟨rfl, by have := HW.out.less HLT.out; rw [HN.out, layK_all] at this; exact this, HK0.out.trans (HK.out.less HLT.out)⟩
end Go.Proofs.YtakomfnajeolcaaGreatDoor.Ch


/- layHead: what a chunk tells once is laid. -/
namespace Go.Proofs.YtakomfnajeolcaaGreatDoor.Ch
open Go.RowKit Go.Sort Go.Proofs.YtakomfnajeolcaaGreatDoor.En
set_option linter.unusedVariables false

/-- what a chunk tells once, as bits -/
def headL (k s z : Int) (xs ys : List Int) : List Bool := (((Tk.bitsL 1 k.toNat ++ Tk.bitsL 4 (s + 4).toNat) ++ intL z) ++ Tk.layL (Tk.fstL xs) (Tk.runsL xs)) ++ Tk.layL (Tk.fstL ys) (Tk.runsL ys)
theorem ix_lay {xs : List Int} {n : Nat} (h : Ix xs n) (hn : n ≤ 1000) : (-1000000 ≤ Tk.fstL xs ∧ Tk.fstL xs ≤ 1000000) ∧ (Tk.runsL xs).length ≤ 1000 ∧ ∀ k q, (Tk.runsL xs)[k]? = some q → (k ≠ 0 → 1 ≤ q.1) ∧ 0 ≤ q.1 ∧ q.1 ≤ 1000000 ∧ 1 ≤ q.2 ∧ q.2 ≤ 1000000 := by
  have hl := h.len
  have hr := Tk.runs_right h.asc h.inb (m := 1000) (by omega)
  have hle := Tk.runsL_le xs
  by_cases hx : xs = []
  · subst hx
    exact ⟨by simp [Tk.fstL], by simp [Tk.runsL_nil], fun k q hq => by simp [Tk.runsL_nil] at hq⟩
  · have hh : Tk.fstL xs ∈ xs := by
      cases xs with
      | nil => exact absurd rfl hx
      | cons a r => simp [Tk.fstL]
    have hf := h.inb _ hh
    unfold Tk.rightF at hr
    rw [if_neg (Tk.runsL_ne hx), Bool.and_eq_true] at hr
    obtain ⟨e1, _, e3⟩ := rightR_each hr.2
    refine ⟨by omega, by omega, fun k q hq => ?_⟩
    have hm := List.mem_of_getElem? hq
    have h1 := e1 q hm
    refine ⟨fun hk => ?_, h1.2.2.1, by omega, h1.1, by omega⟩
    obtain ⟨p, R, e⟩ : ∃ p R, Tk.runsL xs = p :: R := List.exists_cons_of_ne_nil (Tk.runsL_ne hx)
    have h2 := (e3 rfl p R e).2
    rw [e] at hq
    obtain ⟨j, rfl⟩ : ∃ j, k = j + 1 := ⟨k - 1, by omega⟩
    exact h2 q (List.mem_of_getElem? (by simpa using hq))
theorem layL_length {f : Int} {R : List (Int × Int)} : (Tk.layL f R).length ≤ 142 + 142 * R.length := by rw [← layK_all]; exact layK_length _ _ _
set_option maxHeartbeats 1000000 in
set_option maxRecDepth 100000 in
theorem layhead_g (h : HV) (A0 B0 : Option Addr) (c0 d0 : Nat) (xs ys : List Int) (f1 : Int) (A1 : Option Addr) (n1 c1 : Nat) (f2 : Int) (B1 : Option Addr) (n2 d1 : Nat) (G : Nat → Prop) (W0 : World) (p B : Nat) (L : List Bool) (w : World) (hw : WG G W0 p B L w) (hp : W0.heap.size ≤ p) (hT : Tk.Tab W0) (hL : L.length ≤ 6000000)
    (o : Ok h) (hx : Ix xs 512) (hy : Ix ys 512) (hv : LyV W0 xs ys (.agg #[.int .i64 f1, .slice A1 n1 c1, .int .i64 f2, .slice B1 n2 d1])) :
    Calls Tryz.prog 23 #[.pointer (some ⟨p, 0, none⟩), hvA h A0 B0 c0 d0, .agg #[.int .i64 f1, .slice A1 n1 c1, .int .i64 f2, .slice B1 n2 d1]] w (WPost G W0 p B L (headL h.k h.s h.z xs ys) w) := by
  obtain ⟨A, Bb, c, d, ev, l1, l2⟩ := hv
  obtain ⟨rfl, ⟨rfl, rfl, rfl⟩, rfl, rfl, rfl, rfl⟩ : f1 = Tk.fstL xs ∧ (A1 = A ∧ n1 = (Tk.runsL xs).length ∧ c1 = c) ∧ f2 = Tk.fstL ys ∧ B1 = Bb ∧ n2 = (Tk.runsL ys).length ∧ d1 = d := by simpa using ev
  obtain ⟨hf1, hn1, hr1⟩ := ix_lay hx (by omega)
  obtain ⟨hf2, hn2, hr2⟩ := ix_lay hy (by omega)
  have hk := o.k
  have hsr : -4 ≤ h.s ∧ h.s ≤ 8 := by have := o.s; unfold rightB at this; simpa using this
  have hzr : -9223372036854775808 ≤ h.z ∧ h.z ≤ 9223372036854775807 := by have := o.z; unfold zr at this; omega
  have HP := Lib.hid (fun (G : Nat → Prop) (l : List Bool) (W : World) (hg : WG G W0 p B l W) (hl : l.length ≤ 7000000) => lay_g (Tk.fstL xs) A1 (Tk.runsL xs).length c1 (Tk.runsL xs) G W0 p B l W hg hp hT hl rfl hn1 l1 hf1 hr1)
  have HQ := Lib.hid (fun (G : Nat → Prop) (l : List Bool) (W : World) (hg : WG G W0 p B l W) (hl : l.length ≤ 7000000) => lay_g (Tk.fstL ys) B1 (Tk.runsL ys).length d1 (Tk.runsL ys) G W0 p B l W hg hp hT hl rfl hn2 l2 hf2 hr2)
  have HLL := Lib.hid (show (Tk.layL (Tk.fstL xs) (Tk.runsL xs)).length ≤ 200000 from by have := @layL_length (Tk.fstL xs) (Tk.runsL xs); omega)
  have HE := Lib.hid (show headL h.k h.s h.z xs ys = _ from rfl)
  unfold headL
  obtain ⟨LX, hLX⟩ : ∃ l, Tk.layL (Tk.fstL xs) (Tk.runsL xs) = l := ⟨_, rfl⟩
  obtain ⟨LY, hLY⟩ : ∃ l, Tk.layL (Tk.fstL ys) (Tk.runsL ys) = l := ⟨_, rfl⟩
  rw [hLX] at HP HLL ⊢
  rw [hLY] at HQ ⊢
  obtain ⟨F1, hF1⟩ : ∃ f, Tk.fstL xs = f := ⟨_, rfl⟩
  obtain ⟨F2, hF2⟩ : ∃ f, Tk.fstL ys = f := ⟨_, rfl⟩
  obtain ⟨M1, hM1⟩ : ∃ f, (Tk.runsL xs).length = f := ⟨_, rfl⟩
  obtain ⟨M2, hM2⟩ : ∃ f, (Tk.runsL ys).length = f := ⟨_, rfl⟩
  rw [hF1, hM1] at HP ⊢
  rw [hF2, hM2] at HQ ⊢
  clear l1 l2 hf1 hf2 hr1 hr2 hn1 hn2 ev HE hLX hLY hF1 hF2 hM1 hM2 hx hy o
  obtain ⟨hk', hs', hz', hzc, hct, hsm, hP', hQ'⟩ := h
  simp only at hk hsr hzr ⊢
  obtain ⟨nP, hnP⟩ : ∃ n, hP'.length = n := ⟨_, rfl⟩
  obtain ⟨nQ, hnQ⟩ : ∃ n, hQ'.length = n := ⟨_, rfl⟩
  unfold hvA
  simp only
  rw [hnP, hnQ]
  clear hnP hnQ
  obtain ⟨g, hg⟩ : ∃ g, w.heap.size = g := ⟨_, rfl⟩
  obtain ⟨w1, hw1⟩ : ∃ W, (w.alloc (.cells #[.int .i64 hk', .int .i64 hs', .int .i64 hz', .int .u64 hzc, .int .u64 hct, .int .i64 hsm, .slice A0 nP c0, .slice B0 nQ d0] 39)).alloc (.cells #[.int .i64 F1, .slice A1 M1 c1, .int .i64 F2, .slice B1 M2 d1] 54) = W := ⟨_, rfl⟩
  have hb1 : Below w.heap.size w w1 := by rw [← hw1]; exact ((Below.refl _ _).alloc (Nat.le_refl _) _).alloc (by simp) _
  have hsz1 : w1.heap.size = g + 2 := by rw [← hw1]; simp [hg]
  have hbx : w1.heap[g]? = some (.cells #[.int .i64 hk', .int .i64 hs', .int .i64 hz', .int .u64 hzc, .int .u64 hct, .int .i64 hsm, .slice A0 nP c0, .slice B0 nQ d0] 39 (0, 0)) := by
    rw [← hw1, ← hg, Below.heap_alloc _ _ _ (by simp)]; exact heap_alloc_new w _
  have hby : w1.heap[g + 1]? = some (.cells #[.int .i64 F1, .slice A1 M1 c1, .int .i64 F2, .slice B1 M2 d1] 54 (0, 0)) := by
    rw [← hw1, ← hg]
    have := heap_alloc_new (w.alloc (.cells #[.int .i64 hk', .int .i64 hs', .int .i64 hz', .int .u64 hzc, .int .u64 hct, .int .i64 hsm, .slice A0 nP c0, .slice B0 nQ d0] 39)) (.cells #[.int .i64 F1, .slice A1 M1 c1, .int .i64 F2, .slice B1 M2 d1] 54)
    simpa using this
  obtain ⟨G1, hG1⟩ : ∃ G1, NewG G w w1 = G1 := ⟨_, rfl⟩
  have hG1g : G1 g ∧ G1 (g + 1) := by rw [← hG1]; exact ⟨.inr ⟨by omega, by omega⟩, .inr ⟨by omega, by omega⟩⟩
  have HG1 := Lib.hid (show WG G1 W0 p B L w1 from by rw [← hG1]; exact hw.more hb1)
  have HLT := Lib.hid (fun x (hx : G x) => show G1 x from by rw [← hG1]; exact .inl hx)
  have HK0 := Lib.hid (KpG.of_below (fun x hx => hw.lt hx) hb1)
  have HBX := Lib.hid (fun (W : World) (k : KpG G1 w1 W) => (k.2 g hG1g.1).trans hbx)
  have HBY := Lib.hid (fun (W : World) (k : KpG G1 w1 W) => (k.2 (g + 1) hG1g.2).trans hby)
  have HW1 := Lib.hid hw1
  have HGE := Lib.hid hg
  obtain ⟨K, hK⟩ : ∃ K : Bool, decide (hk' = 1) = K := ⟨_, rfl⟩
  have hkt : hk'.toNat = K.toNat := by rw [← hK]; rcases hk with rfl | rfl <;> rfl
  have hkb : (hk' == 1) = K := by rw [← hK]; rcases hk with rfl | rfl <;> rfl
  have HKT := Lib.hid hkt
  obtain ⟨S, hS⟩ : ∃ S : Nat, (S : Int) = hs' + 4 := ⟨(hs' + 4).toNat, by omega⟩
  have hS1 : hs' - -4 = (S : Int) := by omega
  have HS := Lib.hid (show (hs' + 4).toNat = S by omega)
  have hS9 : S ≤ 12 := by omega
  clear hw hb1 hbx hby hG1g hw1 hg hsz1 hG1 hK hkt hS
  go_enter Tryz.func23, Tryz.ntmps23
  have a0 := bx (HBX.out w1 (KpG.refl _ _)) 0 _ rfl
  rw [← HW1.out, ← HGE.out] at a0
  go_wp2_with fail
  simp only [HW1.out, HGE.out]
  refine (bit_g K K.toNat rfl G1 W0 p B L _ HG1.out hp (by omega)).mono ?_
  rintro e w2 ⟨rfl, r1, r2⟩
  have R2 := Lib.hid (And.intro r1 r2)
  clear r1 r2 a0
  have a1 := bx (HBX.out w2 R2.out.2) 1 _ rfl
  go_wp2_with fail
  refine (put_g S 4 G1 W0 p B _ _ R2.out.1 hp (by rw [List.length_append, Tk.bitsL_length]; omega) (by decide) (by omega)).mono ?_
  rintro e w3 ⟨rfl, r1, r2⟩
  have R3 := Lib.hid (And.intro r1 (R2.out.2.trans r2))
  clear r1 r2 a1
  have a2 := bx (HBX.out w3 R3.out.2) 2 _ rfl
  go_wp2_with fail
  refine (int_g hz' G1 W0 p B _ _ R3.out.1 hp hT (by rw [List.length_append, List.length_append, Tk.bitsL_length, Tk.bitsL_length]; omega) hzr.1 hzr.2).mono ?_
  rintro e w4 ⟨rfl, r1, r2⟩
  have R4 := Lib.hid (And.intro r1 (R3.out.2.trans r2))
  clear r1 r2 a2
  have a3 := bx (HBY.out w4 R4.out.2) 0 _ rfl
  have a4 := bx (HBY.out w4 R4.out.2) 1 _ rfl
  have hil : (intL hz').length ≤ 71 := Tk.codeL_length _
  have HIL := Lib.hid hil
  clear hil
  go_wp2_with fail
  refine (HP.out G1 _ _ R4.out.1 (by have := HIL.out; rw [List.length_append, List.length_append, List.length_append, Tk.bitsL_length, Tk.bitsL_length]; omega)).mono ?_
  rintro e w5 ⟨rfl, r1, r2⟩
  have R5 := Lib.hid (And.intro r1 (R4.out.2.trans r2))
  clear r1 r2 a3 a4
  have a3 := bx (HBY.out w5 R5.out.2) 2 _ rfl
  have a4 := bx (HBY.out w5 R5.out.2) 3 _ rfl
  go_wp2_with fail
  refine (HQ.out G1 _ _ R5.out.1 (by have := HIL.out; have := HLL.out; rw [List.length_append, List.length_append, List.length_append, List.length_append, Tk.bitsL_length, Tk.bitsL_length]; omega)).mono ?_
  rintro e w6 ⟨rfl, r1, r2⟩
  have R6 := Lib.hid (And.intro (r1.less HLT.out) (HK0.out.trans ((R5.out.2.trans r2).less HLT.out)))
  clear r1 r2 a3 a4
  go_wp2_with fail
  go_end0
  exact ⟨rfl, by rw [HKT.out, HS.out]; have := R6.out.1; simpa only [List.append_assoc] using this, R6.out.2⟩
end Go.Proofs.YtakomfnajeolcaaGreatDoor.Ch


/- Encode: words for rows that grow beside a writer. -/
namespace Go.Proofs.YtakomfnajeolcaaGreatDoor.Ch
open Go.RowKit Go.Sort Go.Proofs.YtakomfnajeolcaaGreatDoor.En
set_option linter.unusedVariables false

theorem infoR : (Tryz.prog.info? 64).map (fun i => (i.zero, i.size, i.bytes)) = some (some (.slice none 0 0), 1, 24) := by kernel_rfl
theorem ownR_shape {w : World} {base n : Nat} {v : Value} {X : List Value} (h : w.ownsRow base 64 1 v n X) : ∃ A c, v = .slice A n c := by
  rcases h.2 with ⟨rfl, h0⟩ | ⟨g, cap, _, rfl, _⟩
  · exact ⟨none, 0, by rw [h0]⟩
  · exact ⟨_, cap, rfl⟩
/-- append(rows, row) -/
theorem app_row {ops : Array Oper} {rest : List Oper} {o : Oper} {a : Act} {w : World} {Q : Exit → Act → World → Prop} (hgd : o.guard = none) (s x : Operand)
    (ho : o.op = .call { callee := .builtin .append, args := #[s, x], argTypes := #[62, 62] })
    (base : Nat) (A : Option Addr) (n c : Nat) (X : List Value) (hs : a.eval s = .slice A n c) (hown : w.ownsRow base 64 1 (.slice A n c) n X)
    (g : Nat) (hx : a.eval x = .slice (some ⟨g, 0, none⟩) 1 1) (Y : Option Addr) (m d : Nat) (hy : w.cell? ⟨g, 0, none⟩ = some (.slice Y m d)) (hl : n + 1 ≤ 1000000) (hbase : base ≤ w.heap.size)
    (h : ∀ A' c' w', w'.ownsRow base 64 1 (.slice A' (n + 1) c') (n + 1) (X ++ [.slice Y m d]) → w.grownBy w' (Value.slice A n c).ownBlock → ((Value.slice A' (n + 1) c').ownBlock = (Value.slice A n c).ownBlock ∨ (Value.slice A' (n + 1) c').ownBlock = some w.heap.size) → wpList Tryz.prog ops Q rest (a.put o.dst (.slice A' (n + 1) c')) w') : wpList Tryz.prog ops Q (o :: rest) a w := by
  obtain ⟨i0, hi, hz0, hz1, hz2⟩ := info_parts infoR
  refine wpList_append_own_at w hgd s x 62 ho base 64 i0 (.slice none 0 0) 1 24 Tryz.underlying62 hi hz0 hz1 hz2 rfl (by decide) _ n X hs hown ⟨g, 0, none⟩ 1 1 [.slice Y m d] hx rfl ?_ (by simp [Value.oneCell']) (by unfold maxLen; omega) (by omega) hbase ?_
  · intro j u hu
    have hj : j < 1 := (List.getElem?_eq_some_iff.1 hu).1
    obtain rfl : j = 0 := by omega
    rw [Tk.addr_at]
    simp at hu
    subst hu
    exact hy
  · intro v' w' h1 h2 _ h4
    obtain ⟨A', c', rfl⟩ := ownR_shape h1
    exact h A' c' w' h1 h2 h4
theorem wr_abide {w w' : World} {p B n : Nat} {v : Value} {bs : List Nat} (h : Bw.Wr w p B v bs n) (hs : w.heap.size ≤ w'.heap.size) (hb : ∀ k, k = p ∨ v.ownBlock = some k → w'.heap[k]? = w.heap[k]?) : Bw.Wr w' p B v bs n := by
  have hp := hb p (.inl rfl)
  have hc : ∀ j, w'.cell? ⟨p, j, none⟩ = w.cell? ⟨p, j, none⟩ := fun j => World.cell?_of_block hp
  have hf : ∀ j, w'.frozen? ⟨p, j, none⟩ = w.frozen? ⟨p, j, none⟩ := fun j => by unfold World.frozen?; rw [hp]
  exact ⟨h.pb, Nat.le_trans h.bw hs, (hc 0).trans h.c0, (hc 1).trans h.c1, (hf 0).trans h.f0, (hf 1).trans h.f1, Tk.own_abide h.own fun k hk => hb k (.inr hk)⟩
/-- a row of G grows -/
theorem WG.grown {G : Nat → Prop} {W0 w w' : World} {p B : Nat} {l : List Bool} {r : Option Nat} (h : WG G W0 p B l w) (hg : w.grownBy w' r) (hr : ∀ k, r = some k → G k ∧ W0.heap.size ≤ k) : WG (NewG G w w') W0 p B l w' := by
  obtain ⟨⟨v, bs, h1, h2, h3⟩, h4, h5⟩ := h
  have hpw : p < w.heap.size := by have := h1.pb; have := h1.bw; omega
  have hsz : w.heap.size ≤ w'.heap.size := hg.size
  refine ⟨⟨v, bs, wr_abide h1 hsz fun k hk => ?_, h2, fun g hgg => ?_⟩, h4.grown hg h4.size (fun k hk => (hr k hk).2), fun g hgg => ?_⟩
  · rcases hk with rfl | hk
    · exact hg.block _ hpw (fun e => (h5 _ (hr _ e.symm).1).1 rfl)
    · exact hg.block _ (h1.own.lt k hk).2 (fun e => h3 k (hr k e.symm).1 hk)
  · rcases hgg with hgg | hgg
    · exact h3 g hgg
    · intro e
      have := (h1.own.lt g e).2
      omega
  · rcases hgg with hgg | hgg
    · exact ⟨(h5 g hgg).1, Nat.lt_of_lt_of_le (h5 g hgg).2 hsz⟩
    · exact ⟨by omega, hgg.2⟩
theorem own_addr {w : World} {N n c size : Nat} {e : TypeId} {D : Option Addr} {vs : List Value} (h : w.ownsRow N e size (.slice D n c) n vs) {a : Addr} (ha : D = some a) : (Value.slice D n c).ownBlock = some a.block := by
  subst ha; rfl
theorem own_apart {w : World} {B B' n n' s s' : Nat} {e t : TypeId} {u v : Value} {xs ys : List Value} (h : w.ownsRow B e s u n xs) (k : w.ownsRow B' t s' v n' ys) (hne : e ≠ t) {g : Nat} (hg : v.ownBlock = some g) : u.ownBlock ≠ some g := fun hu => by
  rcases h.2 with ⟨rfl, _⟩ | ⟨g1, c1, cur, rfl, _, hh, _⟩
  · simp [Value.ownBlock] at hu
  · rcases k.2 with ⟨rfl, _⟩ | ⟨g2, c2, cur2, rfl, _, kk, _⟩
    · simp [Value.ownBlock] at hg
    · simp [Value.ownBlock] at hu hg
      subst hu hg
      rw [hh] at kk
      simp at kk
      exact hne kk.2
def rowV (A : Option Addr) (r : List Int) (c : Nat) : Value := .slice A r.length c
/-- a row that is the call's own, in a block of G -/
def OwnU (G : Nat → Prop) (N : Nat) (w : World) (A : Option Addr) (c : Nat) (r : List Int) : Prop := w.ownsRow N 36 1 (rowV A r c) r.length (Tk.intsC .u64 r) ∧ ∀ g, (rowV A r c).ownBlock = some g → G g
theorem OwnU.kept {G : Nat → Prop} {N : Nat} {w w' : World} {A : Option Addr} {c : Nat} {r : List Int} (h : OwnU G N w A c r) (k : KpG G w w') : OwnU G N w' A c r := ⟨Tk.own_abide h.1 fun g hg => k.2 g (h.2 g hg), h.2⟩
theorem OwnU.inc {G H : Nat → Prop} {N : Nat} {w : World} {A : Option Addr} {c : Nat} {r : List Int} (h : OwnU G N w A c r) (k : ∀ g, G g → H g) : OwnU H N w A c r := ⟨h.1, fun g hg => k g (h.2 g hg)⟩
theorem OwnU.cl {G : Nat → Prop} {N : Nat} {w : World} {A : Option Addr} {c : Nat} {r : List Int} (h : OwnU G N w A c r) : Tk.Cl w A (Tk.intsC .u64 r) ∧ ∀ a, A = some a → G a.block := ⟨Tk.own_cl h.1, fun a ha => h.2 _ (own_addr h.1 ha)⟩
/-- rows of numbers that grow -/
structure RwV (G : Nat → Prop) (N : Nat) (w : World) (D : Option Addr) (c : Nat) (Q : List (List Int)) (vs : List Value) : Prop where
  own : w.ownsRow N 64 1 (.slice D Q.length c) Q.length vs
  len : vs.length = Q.length
  row : ∀ (j : Nat) (r : List Int), Q[j]? = some r → ∃ A d, vs[j]? = some (rowV A r d) ∧ OwnU G N w A d r
  g : ∀ k, (Value.slice D Q.length c).ownBlock = some k → G k
theorem RwV.nil (G : Nat → Prop) (N : Nat) (w : World) : RwV G N w none 0 [] [] := ⟨World.ownsRow_nil _ _ _ _, rfl, fun j r hj => by simp at hj, fun g hg => by simp [Value.ownBlock] at hg⟩
theorem RwV.rg {G : Nat → Prop} {N : Nat} {w : World} {D : Option Addr} {c : Nat} {Q : List (List Int)} {vs : List Value} (h : RwV G N w D c Q vs) : RwG G w D Q := by
  rcases Tk.own_cl h.own with h5 | ⟨b, o, rfl, hc⟩
  · left
    have : Q.length = 0 := by rw [← h.len, h5]; rfl
    exact List.eq_nil_of_length_eq_zero this
  · refine .inr ⟨b, o, rfl, h.g b rfl, fun j r hj => ?_⟩
    obtain ⟨A, d, e1, e2⟩ := h.row j r hj
    exact ⟨A, d, hc j _ e1, e2.cl.1, e2.cl.2⟩
theorem RwV.kept {G : Nat → Prop} {N : Nat} {w w' : World} {D : Option Addr} {c : Nat} {Q : List (List Int)} {vs : List Value} (h : RwV G N w D c Q vs) (k : KpG G w w') : RwV G N w' D c Q vs :=
  ⟨Tk.own_abide h.own fun g hg => k.2 g (h.g g hg), h.len, fun j r hj => by obtain ⟨A, d, e1, e2⟩ := h.row j r hj; exact ⟨A, d, e1, e2.kept k⟩, h.g⟩
theorem RwV.inc {G H : Nat → Prop} {N : Nat} {w : World} {D : Option Addr} {c : Nat} {Q : List (List Int)} {vs : List Value} (h : RwV G N w D c Q vs) (k : ∀ g, G g → H g) : RwV H N w D c Q vs :=
  ⟨h.own, h.len, fun j r hj => by obtain ⟨A, d, e1, e2⟩ := h.row j r hj; exact ⟨A, d, e1, e2.inc k⟩, fun x hx => k x (h.g x hx)⟩
/-- one row more -/
theorem RwV.snoc {G : Nat → Prop} {N : Nat} {w w' : World} {D D' : Option Addr} {c c' d : Nat} {Q : List (List Int)} {vs : List Value} {A : Option Addr} {r : List Int} (h : RwV G N w D c Q vs) (hA : OwnU G N w A d r)
    (ho : w'.ownsRow N 64 1 (.slice D' (Q.length + 1) c') (Q.length + 1) (vs ++ [rowV A r d])) (hg : w.grownBy w' (Value.slice D Q.length c).ownBlock) (hne : ∀ g, (Value.slice D' (Q.length + 1) c').ownBlock = some g → G g ∨ (w.heap.size ≤ g ∧ g < w'.heap.size)) : RwV (NewG G w w') N w' D' c' (Q ++ [r]) (vs ++ [rowV A r d]) := by
  have keep : ∀ {A : Option Addr} {r : List Int} {d : Nat}, OwnU G N w A d r → OwnU (NewG G w w') N w' A d r := fun {A r d} hh =>
    ⟨Tk.own_abide hh.1 fun g hg' => hg.block g (hh.1.lt g hg').2 (fun e => own_apart h.own hh.1 (by decide) hg' e.symm), fun g hg' => .inl (hh.2 g hg')⟩
  refine ⟨by rw [List.length_append]; exact ho, by rw [List.length_append, List.length_append, h.len]; rfl, fun j q hj => ?_, fun g hg' => ?_⟩
  · by_cases hlt : j < Q.length
    · rw [List.getElem?_append_left hlt] at hj
      obtain ⟨B, e, e1, e2⟩ := h.row j q hj
      exact ⟨B, e, by rw [List.getElem?_append_left (by rw [h.len]; exact hlt)]; exact e1, keep e2⟩
    · rw [List.getElem?_append_right (by omega)] at hj
      have hj0 : j - Q.length = 0 := by
        have := (List.getElem?_eq_some_iff.1 hj).1
        simp at this
        omega
      rw [hj0] at hj
      simp at hj
      subst hj
      exact ⟨A, d, by rw [List.getElem?_append_right (by rw [h.len]; omega), h.len, hj0]; rfl, keep hA⟩
  · rw [List.length_append] at hg'
    exact hne g hg'
end Go.Proofs.YtakomfnajeolcaaGreatDoor.Ch
