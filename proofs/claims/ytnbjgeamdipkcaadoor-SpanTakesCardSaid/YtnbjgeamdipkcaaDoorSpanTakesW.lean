/- The law SpanTakes, for whatever comes in. -/
import Derived.Test.YtnbjgeamdipkcaaDoorTkX
namespace Go.Proofs.YtnbjgeamdipkcaaDoor
open Go.RowKit Go.Sort
set_option linter.unusedVariables false

theorem rightR_lb {m : Int} (hm : m ≤ 1000) : ∀ (s : List (Int × Int)) (i : Nat), rightR s i m = true → ∀ (j : Nat) (p : Int × Int), s[j]? = some p → ((i + j = 0 ∧ p.1 = 0) ∨ (1 ≤ p.1 ∧ p.1 ≤ 1000000)) ∧ 1 ≤ p.2 ∧ p.2 ≤ 1000000
  | [], i, h, j, p, hp => by simp at hp
  | q :: t, i, h, j, p, hp => by
    have h' : (okAt i q m && rightR t (i + 1) (m - q.2)) = true := h
    rw [Bool.and_eq_true] at h'
    obtain ⟨h1, h2⟩ := h'
    have h3 := h1
    unfold okAt at h3
    simp only [Bool.and_eq_true, decide_eq_true_eq] at h3
    obtain ⟨ho, n1, n2⟩ := h3
    cases j with
    | zero =>
      simp at hp
      subst hp
      refine ⟨?_, n1, by omega⟩
      unfold offB at ho
      split at ho
      · left; exact ⟨by omega, by simpa using ho⟩
      · right; simp only [Bool.and_eq_true, decide_eq_true_eq] at ho; omega
    | succ j =>
      have h4 := rightR_lb (m := m - q.2) (by omega) t (i + 1) h2 j p (by simpa using hp)
      refine ⟨?_, h4.2⟩
      rcases h4.1 with h5 | h5
      · omega
      · exact .inr h5
theorem rightR_len {s : List (Int × Int)} : ∀ (i : Nat) (m : Int), 0 ≤ m → rightR s i m = true → (s.length : Int) ≤ m := by
  induction s with
  | nil => intro i m hm _; simpa using hm
  | cons q t ih =>
    intro i m hm h
    have h' : (okAt i q m && rightR t (i + 1) (m - q.2)) = true := h
    rw [Bool.and_eq_true] at h'
    obtain ⟨h1, h2⟩ := h'
    unfold okAt at h1
    simp only [Bool.and_eq_true, decide_eq_true_eq] at h1
    obtain ⟨_, n1, n2⟩ := h1
    have := ih (i + 1) (m - q.2) (by omega) h2
    simp only [List.length_cons]
    omega
theorem right_tells {f m : Int} {s : List (Int × Int)} (hne : s ≠ []) (hm0 : 0 ≤ m) (hm : m ≤ 1000) (h : rightF f s m = true) : Lb s ∧ s.length ≤ 1000 ∧ -1000000 ≤ f ∧ f ≤ 1000000 := by
  unfold rightF at h
  rw [if_neg hne] at h
  simp only [Bool.and_eq_true, decide_eq_true_eq] at h
  obtain ⟨⟨f1, f2⟩, hr⟩ := h
  refine ⟨fun i p hp => ?_, ?_, by omega, by omega⟩
  · obtain ⟨h1, h2⟩ := rightR_lb hm s 0 hr i p hp
    refine ⟨?_, h2⟩
    rcases h1 with h1 | h1
    · exact .inl (by omega)
    · exact .inr h1
  · have := rightR_len 0 m hm0 hr
    omega

theorem T_sub (bs : List Nat) (k : Nat) : (T (textL bs)).extract 0 k = T ((textL bs).take k) := by
  apply ByteArray.ext
  simp [T, List.map_take]
theorem sub_zero (bs : List Nat) (u : Nat) : sub bs 0 u = (textL bs).take u := by unfold sub; simp

theorem takes_long (A : Option Addr) (n c : Nat) (m : Int) (w : World) (h : 400 < n) (hn : n ≤ 9223372036854775807) :
    Calls Tryd.prog 3 #[.slice A n c, .int .u16 m] w fun e w' => e = .returned (.bool true) ∧ Below w.heap.size w w' := by
  have hd : decide ((400 : Int) < (n : Int)) = true := by simp; omega
  go_enter Tryd.func3, Tryd.ntmps3
  go_wp2_with fail
  refine (awake06 _).mono ?_
  rintro e w' ⟨rfl, hb⟩
  have HB := Lib.hid hb
  clear hb
  go_wp2_with fail
  go_ret
  exact ⟨rfl, HB.out⟩

theorem Rd.below {w w' : World} {q l c : Nat} {a : Option Addr} {bs : List Nat} {s : Nat × Int} (h : Rd w q a l c bs s) (hb : Below w.heap.size w w') : Rd w' q a l c bs s := by
  refine h.elsewhere (fun h0 r o e => ?_) h.qw hb
  obtain ⟨r', o', e', hr, hc⟩ := h.lies h0
  have hl : 0 < bs.length := by rw [← h.len]; exact h0
  have := block_lt_of_cell (hc 0 _ (List.getElem?_eq_getElem hl))
  rw [e'] at e
  simp at e
  rw [← e.1]
  exact this
theorem Step.bel {q : Nat} {w w1 w2 : World} (hb : Below w.heap.size w w1) (hq : w.heap.size ≤ q) (st : Step q none w1 w2) : Below w.heap.size w w2 :=
  ⟨st.os.trans hb.os, st.tape.trans hb.tape, st.output.trans hb.output, Nat.le_trans hb.size st.size, fun k hk => (st.block k (Nat.lt_of_lt_of_le hk hb.size) (by omega) (by simp)).trans (hb.block k hk)⟩

set_option maxHeartbeats 1000000 in
set_option maxRecDepth 100000 in
theorem takes_main (A : Option Addr) (c : Nat) (bs : List Nat) (m : Int) (w : World) (hS : Sl w A c bs) (hT : Tab w) (hl : bs.length ≤ 400) (m0 : 0 ≤ m) (m1 : m ≤ 65535) :
    Calls Tryd.prog 3 #[.slice A bs.length c, .int .u16 m] w fun e w' => e = .returned (.bool true) ∧ Below w.heap.size w w' := by
  have hd : decide ((400 : Int) < (bs.length : Int)) = false := by simp; omega
  obtain ⟨M0, hM0⟩ : ∃ M0 : Nat, m % 600 = (M0 : Int) := ⟨(m % 600).toNat, by omega⟩
  have hM9 : M0 ≤ 599 := by omega
  obtain ⟨Mi, hMi⟩ : ∃ M : Int, 1 + (M0 : Int) = M := ⟨_, rfl⟩
  have hz : 0 < w.heap.size := hT.pos
  have HS := Lib.hid hS
  have HT := Lib.hid hT
  have HMI := Lib.hid hMi
  clear hS hT
  go_enter Tryd.func3, Tryd.ntmps3
  go_wp2_with fail
  refine (read_any A bs.length c bs _ HS.out rfl (by omega)).mono ?_
  rintro e w1 ⟨q, a, c1, rfl, hr1, hq1, hb1⟩
  have HB1 := Lib.hid hb1
  have HR1 := Lib.hid hr1
  have hq0 : q ≠ 0 := by omega
  clear hr1 hb1
  go_wp2_with fail
  refine (take_any M0 Mi (by have := HMI.out; omega) (by omega) q bs.length c1 a bs _ HR1.out (HT.out.below HB1.out hz) hq0).mono ?_
  rintro e w2 ⟨f, A2, d, L, s, rfl, hcl, st, rd, hf0, hyes⟩
  have HB2 := Lib.hid (Step.bel HB1.out hq1 st)
  have HC := Lib.hid hcl
  have HR2 := Lib.hid rd
  have hb3 : Below w2.heap.size w2 (w2.alloc (.cells #[.int .i64 f, .slice A2 L.length d] 29)) := (Below.refl _ _).alloc (Nat.le_refl _) _
  obtain ⟨W3, hW3⟩ : ∃ W, w2.alloc (.cells #[.int .i64 f, .slice A2 L.length d] 29) = W := ⟨_, rfl⟩
  have hx : W3.heap[w2.heap.size]? = some (.cells #[.int .i64 f, .slice A2 L.length d] 29 (0, 0)) := by rw [← hW3]; exact heap_alloc_new w2 _
  rw [hW3] at hb3
  have HB3 := Lib.hid hb3
  have HBW := Lib.hid (HB2.out.trans (hb3.mono HB2.out.size))
  have HX := Lib.hid hx
  have HW3 := Lib.hid hW3
  obtain ⟨x0, x1, _⟩ := box2 hx
  clear st rd hcl hb3 hx hW3
  by_cases hne : L = []
  · subst hne
    have hf := hf0 rfl
    subst hf
    clear hf0 hyes
    have hw3 := HW3.out
    simp only [List.length_nil] at hw3
    have HW := Lib.hid hw3
    clear hw3
    go_wp2_with fail
    first | simp only [HW.out] | simp only [HW3.out] | (simp; simp only [HW.out])
    refine (awake06 _).mono ?_
    rintro e w4 ⟨rfl, hb4⟩
    have hx4 := (hb4.block _ (Array.getElem?_eq_some_iff.1 HX.out).1).trans HX.out
    obtain ⟨y0, y1, _⟩ := box2 hx4
    have HB4 := Lib.hid (HBW.out.trans (hb4.mono HBW.out.size))
    clear hb4 hx4 x0 x1
    go_wp2_with fail
    go_ret
    exact ⟨rfl, HB4.out⟩
  · have hlen : 0 < L.length := List.length_pos_iff.2 hne
    have hlz : ((L.length : Int) == 0) = false := by simp; exact hne
    obtain ⟨hs2, hri, hsub⟩ := hyes hne
    obtain ⟨u, x⟩ := s
    dsimp only at hs2 hsub
    subst hs2
    obtain ⟨hLb, hL9, f1, f2⟩ := right_tells hne (by have := HMI.out; omega) (by have := HMI.out; omega) hri
    have HRI := Lib.hid hri
    have HLB := Lib.hid hLb
    have htl : u ≤ 8 * bs.length := HR2.out.tl
    obtain ⟨S1, hS1⟩ : ∃ S, layL f L = S := ⟨_, rfl⟩
    obtain ⟨TX, hTX⟩ : ∃ S, textL bs = S := ⟨_, rfl⟩
    obtain ⟨P, hP⟩ : ∃ P, 8 * bs.length = P := ⟨_, rfl⟩
    have hz2 : (T TX).size = P := by rw [T_size, ← hTX, textL_length, hP]
    have hsub' : TX.take u = S1 := by rw [← hS1, ← hsub, sub_zero, hTX]
    have hz1 : (T S1).size = u := by
      rw [T_size, ← hsub', List.length_take]
      have : TX.length = P := by rw [← hTX, textL_length, hP]
      omega
    have hext : (T TX).extract 0 u = T S1 := by rw [← hsub', ← hTX, T_sub]
    have huP : u ≤ P := by omega
    have hP9 : P ≤ 3200 := by omega
    have hle : decide ((u : Int) ≤ (P : Int)) = true := by simp; omega
    have hleft : ((bs.length : Int) * 8 - (u : Int) == (P : Int) - (u : Int)) = true := by simp; omega
    have HS1 := Lib.hid hS1
    have HTX := Lib.hid hTX
    clear hf0 hyes hsub hri hLb hS1 hTX hsub' hP hne
    go_wp2_with fail
    simp only [HW3.out]
    refine (reflay_any f A2 d L _ (HC.out.below HB3.out) HLB.out hlen hL9 f1 f2).mono ?_
    rintro e w4 ⟨rfl, hb4⟩
    rw [HS1.out]
    have hx4 := (hb4.block _ (Array.getElem?_eq_some_iff.1 HX.out).1).trans HX.out
    have HX4 := Lib.hid hx4
    have HB4 := Lib.hid (HBW.out.trans (hb4.mono HBW.out.size))
    have HR4 := Lib.hid ((HR2.out.below HB3.out).below hb4)
    have HC4 := Lib.hid ((HC.out.below HB3.out).below hb4)
    clear hb4 hx4 x0 x1
    go_wp2_with fail
    refine (reftext_any A bs.length c bs _ (HS.out.2.2.2.kept (Kept.of_below HB4.out)) rfl (by omega)).mono ?_
    rintro e w5 ⟨rfl, rfl⟩
    rw [HTX.out]
    go_wp2_with fail
    refine (awake06 _).mono ?_
    rintro e w6 ⟨rfl, hb6⟩
    have hx6 := (hb6.block _ (Array.getElem?_eq_some_iff.1 HX4.out).1).trans HX4.out
    obtain ⟨x0, x1, _⟩ := box2 hx6
    have HB6 := Lib.hid (HB4.out.trans (hb6.mono HB4.out.size))
    have HR6 := Lib.hid (HR4.out.below hb6)
    have HC6 := Lib.hid (HC4.out.below hb6)
    clear hb6 hx6
    go_wp2_with fail
    refine (err_any _ _ _ _ _ _ _ HR6.out).mono ?_
    rintro e w7 ⟨rfl, rfl⟩
    go_wp2_with fail
    refine (refright_yes f Mi A2 d L _ HC6.out hlen hL9 ⟨by have := HMI.out; omega, by have := HMI.out; omega⟩ HRI.out).mono ?_
    rintro e w8 ⟨rfl, rfl⟩
    go_wp2_with fail
    refine (left_any _ _ _ _ _ _ _ HR6.out).mono ?_
    rintro e w9 ⟨rfl, nd, rfl⟩
    go_wp2_with fail
    go_ret
    exact ⟨rfl, below_drewN HB6.out _⟩
end Go.Proofs.YtnbjgeamdipkcaaDoor
