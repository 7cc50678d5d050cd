import Derived.Test.YtakomfnajeolcaaGreatDoorCtA41
set_option linter.unusedVariables false
/- histogram: the one that has these numbers. -/
namespace Go.Proofs.YtakomfnajeolcaaGreatDoor.Ch
open Go.RowKit Go.Sort Go.Maps Go.Proofs.YtakomfnajeolcaaGreatDoor.En
set_option linter.unusedVariables false

/-- what Make leaves, with the room that there is -/
def RetC (w : World) (r : HV) (E : Int) (e : Ending) (w' : World) : Prop :=
  ∃ (A B : Option Addr) (c d : Nat), e = .returned (.tuple #[hvA r A B c d, .int .i64 E]) ∧ Bk w' A r.P ∧ Bk w' B r.Q ∧ (r.P.length ≤ c ∧ c ≤ 9223372036854775807) ∧ (r.Q.length ≤ d ∧ d ≤ 9223372036854775807) ∧ Below w.heap.size w w' ∧ NewA w A ∧ NewA w B
theorem make_cap (h : HV) (ct : Int) (A0 B0 A B : Option Addr) (n0 c0 m0 d0 c d : Nat) (P Q : List (Int × Int)) (w : World) (hs : I64 h.s) (z0 : 0 ≤ h.zc) (z1 : h.zc ≤ 18446744073709551615) (hP : Bk w A P) (hQ : Bk w B Q) (hlp : P.length ≤ 1100) (hlq : Q.length ≤ 1100) :
    Calls Tryz.prog 99 #[.agg #[.int .i64 h.k, .int .i64 h.s, .int .i64 h.z, .int .u64 h.zc, .int .u64 ct, .int .i64 h.sm, .slice A0 n0 c0, .slice B0 m0 d0], .slice A P.length c, .slice B Q.length d] w (RetC w (mkO h P Q) (mkE h P Q)) := by
  refine (make_any h.k h.s h.z h.zc ct h.sm A0 B0 A B n0 c0 m0 d0 c d P Q w hs z0 z1 hP hQ hlp hlq).mono ?_
  rintro e w' ⟨hb, hh⟩
  rcases hh with ⟨hc, rfl⟩ | ⟨hc, A', C', c', d', X, Y, hX, hY, aX, aY, sX, sY, hl, nA, nC, hh⟩
  · have m : MkOut h.k h.s h.z h.zc h.sm P Q 0 0 0 0 0 0 [] [] 5 := .inl ⟨by decide, ⟨rfl, rfl, rfl, rfl, rfl, rfl, rfl, rfl⟩, .inl ⟨hc, rfl⟩⟩
    obtain ⟨e1, e2⟩ := mk_out hP.2.1 hQ.2.1 m
    rw [← e1, ← e2]
    exact ⟨none, none, 0, 0, rfl, Bk.nil _ _, Bk.nil _ _, ⟨by decide, by decide⟩, ⟨by decide, by decide⟩, hb, newA_none _, newA_none _⟩
  · rcases hh with ⟨hh, rfl⟩ | ⟨hh, rfl⟩
    · have m : MkOut h.k h.s h.z h.zc h.sm P Q 0 0 0 0 0 0 [] [] (checkF h.k h.s h.z h.zc (h.zc + cnt (P ++ Q)) X Y) := .inl ⟨hh, ⟨rfl, rfl, rfl, rfl, rfl, rfl, rfl, rfl⟩, .inr ⟨hc, X, Y, aX, aY, sX, sY, rfl⟩⟩
      obtain ⟨e1, e2⟩ := mk_out hP.2.1 hQ.2.1 m
      rw [← e1, ← e2]
      exact ⟨none, none, 0, 0, rfl, Bk.nil _ _, Bk.nil _ _, ⟨by decide, by decide⟩, ⟨by decide, by decide⟩, hb, newA_none _, newA_none _⟩
    · have m : MkOut h.k h.s h.z h.zc h.sm P Q h.k h.s h.z h.zc (h.zc + cnt (P ++ Q)) h.sm X Y 0 := .inr ⟨rfl, hc, aX, aY, sX, sY, hh, rfl, rfl, rfl, rfl, rfl, rfl⟩
      obtain ⟨e1, e2⟩ := mk_out hP.2.1 hQ.2.1 m
      rw [← e1, ← e2]
      exact ⟨A', C', c', d', rfl, hX, hY, hl.2.1, hl.2.2, hb, nA, nC⟩
theorem bktF_mem : ∀ {l m : List Int} {p : Int × Int}, p ∈ Tk.bktF l m → p.1 ∈ l ∧ p.2 ∈ m
  | [], m, p, h => by simp [Tk.bktF] at h
  | x :: r, [], p, h => by simp [Tk.bktF] at h
  | x :: r, y :: s, p, h => by
    simp only [Tk.bktF] at h
    split at h
    · have := bktF_mem h; exact ⟨List.mem_cons_of_mem _ this.1, List.mem_cons_of_mem _ this.2⟩
    · rcases List.mem_cons.1 h with rfl | h
      · exact ⟨by simp, by simp⟩
      · have := bktF_mem h; exact ⟨List.mem_cons_of_mem _ this.1, List.mem_cons_of_mem _ this.2⟩
theorem tk_bk {w : World} {A : Option Addr} {l : List (Int × Int)} (h : Tk.Cl w A (Tk.twoC .u64 l)) (hw : ∀ p ∈ l, Wb p) (hl : l.length ≤ 1000000) : Bk w A l := by
  refine ⟨by omega, hw, ?_⟩
  by_cases h0 : l.length = 0
  · exact .inl h0
  · obtain ⟨b, off, e, hc⟩ := h.twos (by omega)
    exact .inr ⟨b, off, e, hc⟩
theorem bkt_wb {xs m : List Int} (hx : Tk.Inw xs) (hm : ∀ x ∈ m, 0 ≤ x ∧ x ≤ 18446744073709551615) : ∀ p ∈ Tk.bktF xs m, Wb p := fun p hp => by
  obtain ⟨h1, h2⟩ := bktF_mem hp
  have := hx.bd _ h1
  have := hm _ h2
  unfold Wb
  omega
theorem setA8 (a0 a1 a2 a3 a4 a5 a6 a7 b0 b1 b2 b3 b4 b5 b6 b7 : Value) : setA #[a0, a1, a2, a3, a4, a5, a6, a7] 0 [b0, b1, b2, b3, b4, b5, b6, b7] = #[b0, b1, b2, b3, b4, b5, b6, b7] := by
  simp [setA]
theorem setL_other {g : Nat} {p : Addr} (hp : g ≠ p.block) : ∀ {l : List Value} {i : Nat} {W : World}, (setL W g i l).cell? p = W.cell? p
  | [], i, W => rfl
  | u :: r, i, W => by
    unfold setL
    rw [setL_other hp, World.cell?_setCell_other _ _ _ _ (fun e => hp (by rw [← e]))]
/-- buckets in memory -/
def BKW (l : List (Int × Int)) (v : Value) (w : World) : Prop := ∃ A c, v = .slice A l.length c ∧ Bk w A l
theorem BKW.below {l : List (Int × Int)} {v : Value} {w w' : World} (h : BKW l v w) (hb : Below w.heap.size w w') : BKW l v w' := by
  obtain ⟨A, c, h1, h2⟩ := h
  exact ⟨A, c, h1, h2.below hb⟩
/-- a histogram in memory, in new blocks -/
def HVW (N : Nat) (r : HV) (v : Value) (w : World) : Prop := ∃ (A B : Option Addr) (c d : Nat), v = hvA r A B c d ∧ Bk w A r.P ∧ Bk w B r.Q ∧ (r.P.length ≤ c ∧ c ≤ 9223372036854775807) ∧ (r.Q.length ≤ d ∧ d ≤ 9223372036854775807) ∧ (∀ x, A = some x → N ≤ x.block) ∧ ∀ x, B = some x → N ≤ x.block
theorem HVW.below {N : Nat} {r : HV} {v : Value} {w w' : World} (h : HVW N r v w) (hb : Below w.heap.size w w') : HVW N r v w' := by
  obtain ⟨A, B, c, d, h1, h2, h3, h4, h5, h6, h7⟩ := h
  exact ⟨A, B, c, d, h1, h2.below hb, h3.below hb, h4, h5, h6, h7⟩
def HET (N : Nat) (r : HV) (E : Int) (v : Value) (w : World) : Prop := ∃ v1, v = .tuple #[v1, .int .i64 E] ∧ HVW N r v1 w
theorem HET.below {N : Nat} {r : HV} {E : Int} {v : Value} {w w' : World} (h : HET N r E v w) (hb : Below w.heap.size w w') : HET N r E v w' := by
  obtain ⟨v1, h1, h2⟩ := h
  exact ⟨v1, h1, h2.below hb⟩
theorem cl_drop {w : World} {b o : Nat} {k : IntKind} {r : List Int} (h : Tk.Cl w (some ⟨b, o, none⟩) (Tk.intsC k r)) (n : Nat) : Tk.Cl w (some ⟨b, o + n, none⟩) (Tk.intsC k (r.drop n)) := by
  rcases h with h | ⟨b', o', e, hc⟩
  · left
    have : r = [] := by simpa [Tk.intsC] using h
    subst this; simp [Tk.intsC]
  · obtain ⟨rfl, rfl⟩ : b = b' ∧ o = o' := by simpa using e
    refine .inr ⟨b, o + n, rfl, fun j v hj => ?_⟩
    have := hc (n + j) v (by simpa [Tk.intsC, List.getElem?_drop] using hj)
    rw [show o + n + j = o + (n + j) by omega]
    exact this
set_option maxHeartbeats 4000000 in
set_option maxRecDepth 100000 in
theorem histogram_any (k s z : Int) (xs ys : List Int) (f1 : Int) (A1 : Option Addr) (n1 c1 : Nat) (f2 : Int) (B1 : Option Addr) (n2 d1 : Nat) (gr o m cr : Nat) (r : List Int) (w : World) (hm : m = nNum xs ys) (hrr : RowR m r) (hcr : m ≤ cr ∧ cr ≤ 9223372036854775807) (hR : Tk.Cl w (some ⟨gr, o, none⟩) (Tk.intsC .u64 r))
    (hs : I64 s) (hx : Iw xs) (hy : Iw ys) (hv : LyV w xs ys (.agg #[.int .i64 f1, .slice A1 n1 c1, .int .i64 f2, .slice B1 n2 d1])) :
    Calls Tryz.prog 67 #[.agg #[.int .i64 k, .int .i64 s, .int .i64 z, .int .u64 0, .int .u64 0, .int .i64 0, .slice none 0 0, .slice none 0 0], .agg #[.int .i64 f1, .slice A1 n1 c1, .int .i64 f2, .slice B1 n2 d1], .slice (some ⟨gr, o, none⟩) m cr] w (RetC w (rowH k s z xs ys r) (rowE k s z xs ys r)) := by
  obtain ⟨A, Bb, c, d, ev, l1, l2⟩ := hv
  obtain ⟨rfl, ⟨rfl, rfl, rfl⟩, rfl, rfl, rfl, rfl⟩ : f1 = Tk.fstL xs ∧ (A1 = A ∧ n1 = (Tk.runsL xs).length ∧ c1 = c) ∧ f2 = Tk.fstL ys ∧ B1 = Bb ∧ n2 = (Tk.runsL ys).length ∧ d1 = d := by simpa using ev
  have hlx := hx.len
  have hly := hy.len
  have hml : r.length = m := hrr.1
  have hm2 : m = 2 + xs.length + ys.length := hm
  obtain ⟨R0, hR0⟩ : ∃ x, r[0]? = some x := ⟨_, List.getElem?_eq_getElem (by omega)⟩
  obtain ⟨R1, hR1⟩ : ∃ x, r[1]? = some x := ⟨_, List.getElem?_eq_getElem (by omega)⟩
  obtain ⟨b0, b1⟩ := hrr.2 R0 (List.mem_of_getElem? hR0)
  obtain ⟨b2, b3⟩ := hrr.2 R1 (List.mem_of_getElem? hR1)
  obtain ⟨gr', o', er, x0⟩ := cl_num hR hR0
  obtain ⟨rfl, rfl⟩ : gr = gr' ∧ o = o' := by simpa using er
  obtain ⟨gr', o', er', x1⟩ := cl_num hR hR1
  obtain ⟨rfl, rfl⟩ : gr = gr' ∧ o = o' := by simpa using er'
  rw [Nat.add_zero] at x0
  have hwi : IntKind.i64.wrap R1 = sgn R1 := by
    unfold sgn um
    rw [IntKind.wrap_i64]
    split <;> omega
  obtain ⟨S1, hS1⟩ : ∃ S, sgn R1 = S := ⟨_, rfl⟩
  rw [hS1] at hwi
  have HHD := Lib.hid (show headH k s z r = ⟨k, s, z, R0, 0, S1, [], []⟩ from by
    unfold headH
    cases r with
    | nil => simp at hR0
    | cons a t =>
      cases t with
      | nil => simp at hR1
      | cons b u => simp at hR0 hR1; subst hR0 hR1; simp [hS1])
  have HIX := Lib.hid (fun (W : World) (hb : Below w.heap.size w W) => Tk.indices_at A1 xs.length c1 (Tk.runsL xs).length (Tk.fstL xs) xs W rfl rfl rfl (l1.below hb) hx.asc hx.inw (by omega))
  have HBP := Lib.hid (fun (AX : Option Addr) (cx : Nat) (W : World) (hb : Below w.heap.size w W) (hA : Tk.Cl w AX (Tk.intsC .u64 (r.drop 2))) => Tk.buckets_any A1 AX c1 (Tk.runsL xs).length cx xs.length (Tk.fstL xs) xs (r.drop 2) W rfl rfl rfl (l1.below hb) hx.asc hx.inw (by omega) (hA.below hb) (by rw [List.length_drop]; omega))
  have HBQ := Lib.hid (fun (AX : Option Addr) (cx : Nat) (W : World) (hb : Below w.heap.size w W) (hA : Tk.Cl w AX (Tk.intsC .u64 (r.drop (2 + xs.length)))) => Tk.buckets_any B1 AX d1 (Tk.runsL ys).length cx ys.length (Tk.fstL ys) ys (r.drop (2 + xs.length)) W rfl rfl rfl (l2.below hb) hy.asc hy.inw (by omega) (hA.below hb) (by rw [List.length_drop]; omega))
  have HDP := Lib.hid (fun (AX : Option Addr) (h : (m = 2 ∧ AX = some ⟨gr, o, none⟩) ∨ AX = some ⟨gr, o + 2, none⟩) => show Tk.Cl w AX (Tk.intsC .u64 (r.drop 2)) from by
    rcases h with ⟨h, rfl⟩ | rfl
    · rw [List.drop_of_length_le (by omega)]; exact Tk.Cl.nil _ _
    · exact cl_drop hR 2)
  have HDQ := Lib.hid (fun (AX : Option Addr) (h : m = 2 + xs.length ∨ AX = some ⟨gr, o + 2 + xs.length, none⟩) => show Tk.Cl w AX (Tk.intsC .u64 (r.drop (2 + xs.length))) from by
    rcases h with h | rfl
    · rw [List.drop_of_length_le (by omega)]; exact Tk.Cl.nil _ _
    · rw [Nat.add_assoc]; exact cl_drop hR (2 + xs.length))
  have e1 : (r.drop 2).length = m - 2 := by rw [List.length_drop, hml]
  have e2 : (r.drop (2 + xs.length)).length = m - 2 - xs.length := by rw [List.length_drop, hml]; omega
  rw [e1] at HBP
  rw [e2] at HBQ
  have HWB1 := Lib.hid (bkt_wb hx.inw (m := r.drop 2) (fun x hxx => hrr.2 x (List.mem_of_mem_drop hxx)))
  have HWB2 := Lib.hid (bkt_wb hy.inw (m := r.drop (2 + xs.length)) (fun x hxx => hrr.2 x (List.mem_of_mem_drop hxx)))
  have hle1 := Tk.bktF_le xs (r.drop 2)
  have hle2 := Tk.bktF_le ys (r.drop (2 + xs.length))
  unfold Tk.BkPost at HBP HBQ
  unfold rowH rowE rowP rowQ
  rw [HHD.out]
  obtain ⟨PP, hPP⟩ : ∃ P, Tk.bktF xs (r.drop 2) = P := ⟨_, rfl⟩
  obtain ⟨QQ, hQQ⟩ : ∃ P, Tk.bktF ys (r.drop (2 + xs.length)) = P := ⟨_, rfl⟩
  rw [hPP] at HBP HWB1 hle1 ⊢
  rw [hQQ] at HBQ HWB2 hle2 ⊢
  have HLE := Lib.hid (show PP.length ≤ 1100 ∧ QQ.length ≤ 1100 from ⟨by omega, by omega⟩)
  have HHS := Lib.hid hs
  have HMK := Lib.hid (fun (A B : Option Addr) (c d : Nat) (W : World) (hP : Bk W A PP) (hQ : Bk W B QQ) => make_cap ⟨k, s, z, R0, 0, S1, [], []⟩ 0 none none A B 0 0 0 0 c d PP QQ W HHS.out b0 b1 hP hQ HLE.out.1 HLE.out.2)
  simp only at HMK
  obtain ⟨RO, hRO⟩ : ∃ x, mkO ⟨k, s, z, R0, 0, S1, [], []⟩ PP QQ = x := ⟨_, rfl⟩
  obtain ⟨RE, hRE⟩ : ∃ x, mkE ⟨k, s, z, R0, 0, S1, [], []⟩ PP QQ = x := ⟨_, rfl⟩
  rw [hRO, hRE] at HMK ⊢
  obtain ⟨F1, hF1⟩ : ∃ f, Tk.fstL xs = f := ⟨_, rfl⟩
  obtain ⟨F2, hF2⟩ : ∃ f, Tk.fstL ys = f := ⟨_, rfl⟩
  obtain ⟨M1, hM1⟩ : ∃ f, (Tk.runsL xs).length = f := ⟨_, rfl⟩
  obtain ⟨M2, hM2⟩ : ∃ f, (Tk.runsL ys).length = f := ⟨_, rfl⟩
  obtain ⟨nx, hnx⟩ : ∃ f, xs.length = f := ⟨_, rfl⟩
  rw [hF1, hM1] at HIX HBP ⊢
  rw [hF2, hM2] at HBQ ⊢
  rw [hnx] at HIX HBQ HDQ hm2
  have hm3 : 2 + nx ≤ m := by omega
  have hmc := hcr.1
  have hmd := hcr.2
  clear ev hx hy l1 l2 hR hrr hF1 hF2 hM1 hM2 hPP hQQ hRO hRE hS1 hlx hly hml hR0 hR1 er er' e1 e2 hle1 hle2 hm hs hnx hm2 hcr
  obtain ⟨g, hg⟩ : ∃ g, w.heap.size = g := ⟨_, rfl⟩
  have hxw : gr < g := by have := block_lt_of_cell x0; simp at this; omega
  obtain ⟨w2, hw2⟩ : ∃ W, ((w.alloc (.cells #[.int .i64 k, .int .i64 s, .int .i64 z, .int .u64 0, .int .u64 0, .int .i64 0, .slice none 0 0, .slice none 0 0] 39)).alloc (.cells #[.int .i64 F1, .slice A1 M1 c1, .int .i64 F2, .slice B1 M2 d1] 54)).alloc (.cells #[.int .i64 0, .int .i64 0, .int .i64 0, .int .u64 0, .int .u64 0, .int .i64 0, .slice none 0 0, .slice none 0 0] 39) = W := ⟨_, rfl⟩
  have hb2 : Below w.heap.size w w2 := by rw [← hw2]; exact (((Below.refl _ _).alloc (Nat.le_refl _) _).alloc (by simp) _).alloc (by simp; omega) _
  have hsz2 : w2.heap.size = g + 3 := by rw [← hw2]; simp [hg]
  have hB0 : w2.heap[g]? = some (.cells #[.int .i64 k, .int .i64 s, .int .i64 z, .int .u64 0, .int .u64 0, .int .i64 0, .slice none 0 0, .slice none 0 0] 39 (0, 0)) := by
    rw [← hw2, ← hg, Below.heap_alloc _ _ _ (by simp; omega), Below.heap_alloc _ _ _ (by simp)]; exact heap_alloc_new w _
  have hB1 : w2.heap[g + 1]? = some (.cells #[.int .i64 F1, .slice A1 M1 c1, .int .i64 F2, .slice B1 M2 d1] 54 (0, 0)) := by
    have hz : (w.alloc (.cells #[.int .i64 k, .int .i64 s, .int .i64 z, .int .u64 0, .int .u64 0, .int .i64 0, .slice none 0 0, .slice none 0 0] 39)).heap.size = g + 1 := by simp [hg]
    rw [← hw2, Below.heap_alloc _ _ _ (by simp; omega), ← hz]; exact heap_alloc_new _ _
  have hB2 : w2.heap[g + 1 + 1]? = some (.cells #[.int .i64 0, .int .i64 0, .int .i64 0, .int .u64 0, .int .u64 0, .int .i64 0, .slice none 0 0, .slice none 0 0] 39 (0, 0)) := by
    have hz : ((w.alloc (.cells #[.int .i64 k, .int .i64 s, .int .i64 z, .int .u64 0, .int .u64 0, .int .i64 0, .slice none 0 0, .slice none 0 0] 39)).alloc (.cells #[.int .i64 F1, .slice A1 M1 c1, .int .i64 F2, .slice B1 M2 d1] 54)).heap.size = g + 1 + 1 := by simp [hg]
    rw [← hw2, ← hz]; exact heap_alloc_new _ _
  have y0 := (hb2.cell (block_lt_of_cell x0)).trans x0
  have y1 := (hb2.cell (block_lt_of_cell x1)).trans x1
  have q3 := bx hB0 3 _ rfl
  have q5 := bx hB0 5 _ rfl
  have r3 : w2.frozen? ⟨g, 3, none⟩ = false := by simp [World.frozen?, hB0]
  have r5 : w2.frozen? ⟨g, 5, none⟩ = false := by simp [World.frozen?, hB0]
  obtain ⟨w3, hw3⟩ : ∃ W, ((w2.setCell ⟨g, 3, none⟩ (.int .u64 R0)).setCell ⟨g, 5, none⟩ (.int .i64 S1)).drew = W := ⟨_, rfl⟩
  have hb3 : Below w.heap.size w w3 := by rw [← hw3]; exact ((hb2.setCell (p := ⟨g, 3, none⟩) (by simp; omega) _).setCell (p := ⟨g, 5, none⟩) (by simp; omega) _).drew
  have hsz3 : w3.heap.size = g + 3 := by rw [← hw3]; simp [World.setCell, World.drew, hsz2]
  have hC0 : w3.heap[g]? = some (.cells #[.int .i64 k, .int .i64 s, .int .i64 z, .int .u64 R0, .int .u64 0, .int .i64 S1, .slice none 0 0, .slice none 0 0] 39 (0, 0)) := by
    rw [← hw3]
    show ((w2.setCell ⟨g, 3, none⟩ (.int .u64 R0)).setCell ⟨g, 5, none⟩ (.int .i64 S1)).heap[g]? = _
    rw [put_at (put_at hB0 _) _]; rfl
  have hC1 : w3.heap[g + 1]? = some (.cells #[.int .i64 F1, .slice A1 M1 c1, .int .i64 F2, .slice B1 M2 d1] 54 (0, 0)) := by
    rw [← hw3]
    show ((w2.setCell ⟨g, 3, none⟩ (.int .u64 R0)).setCell ⟨g, 5, none⟩ (.int .i64 S1)).heap[g + 1]? = _
    rw [heap_setCell_other _ _ _ _ (by simp), heap_setCell_other _ _ _ _ (by simp)]; exact hB1
  have hC2 : w3.heap[g + 1 + 1]? = some (.cells #[.int .i64 0, .int .i64 0, .int .i64 0, .int .u64 0, .int .u64 0, .int .i64 0, .slice none 0 0, .slice none 0 0] 39 (0, 0)) := by
    rw [← hw3]
    show ((w2.setCell ⟨g, 3, none⟩ (.int .u64 R0)).setCell ⟨g, 5, none⟩ (.int .i64 S1)).heap[g + 1 + 1]? = _
    rw [heap_setCell_other _ _ _ _ (by simp; omega), heap_setCell_other _ _ _ _ (by simp; omega)]; exact hB2
  have HC := Lib.hid (And.intro hC0 (And.intro hC1 hC2))
  have HB := Lib.hid hb3
  have HSZ := Lib.hid hsz3
  have HG := Lib.hid hg
  have HW2 := Lib.hid hw2
  have HW3 := Lib.hid hw3
  have hne1 : gr ≠ g := by omega
  have hne2 : g ≠ gr := by omega
  clear hb2 hsz2 hB0 hB1 hB2 hb3 hsz3 hC0 hC1 hC2 hxw hw3
  go_enter Tryz.func67, Tryz.ntmps67
  go_wp2_with fail
  clear x0 x1
  go_region
  all_goals
    rw [HW3.out]
    clear y0 y1 q3 q5 r3 r5
    have m0 : (2 : Int) ≤ (m : Int) := by omega
    have m1 : (m : Int) ≤ (cr : Int) := by omega
    have m2 : (nx : Int) ≤ (m : Int) - 2 := by omega
    have p0 := bx HC.out.2.1 0 _ rfl
    have p1 := bx HC.out.2.1 1 _ rfl
    by_cases h2 : cr = 2
    · obtain rfl : m = 2 := by omega
      obtain rfl : nx = 0 := by omega
      subst h2
      have HAX := HDP.out (some ⟨gr, o, none⟩) (.inl ⟨rfl, rfl⟩)
      have HAY := HDQ.out (some ⟨gr, o, none⟩) (.inl rfl)
      go_wp2_with fail
      refine (HIX.out _ HB.out).mono ?_
      rintro e w4 ⟨A4, c4, rfl, _, hb4⟩
      have HB4 := Lib.hid (HB.out.trans (hb4.mono HB.out.size))
      have HC4 := Lib.hid (show w4.heap[g]? = _ ∧ w4.heap[g + 1]? = _ ∧ w4.heap[g + 1 + 1]? = _ from by
        have := HSZ.out
        exact ⟨(hb4.block _ (by omega)).trans HC.out.1, (hb4.block _ (by omega)).trans HC.out.2.1, (hb4.block _ (by omega)).trans HC.out.2.2⟩)
      have HSZ4 := Lib.hid (show g + 1 + 1 < w4.heap.size from by have := HSZ.out; have := hb4.size; omega)
      clear hb4 p0 p1
      go_wp2_with fail
      refine Rg.wp_region_invG (R := fun sl v w => match sl with
          | 27 => v = .agg #[.int .i64 k, .int .i64 s, .int .i64 z, .int .u64 R0, .int .u64 0, .int .i64 S1, .slice none 0 0, .slice none 0 0]
          | 28 => v = .pointer (some ⟨g + 1, 0, none⟩)
          | 29 => v = .agg #[.int .i64 F1, .slice A1 M1 c1]
          | 30 => v = .slice (some ⟨gr, o, none⟩) (0) (0)
          | 31 => BKW PP v w
          | 32 => v = .pointer (some ⟨g + 1, 2, none⟩)
          | 33 => v = .agg #[.int .i64 F2, .slice B1 M2 d1]
          | 34 => v = .slice (some ⟨gr, o, none⟩) (0) (0)
          | 35 => BKW QQ v w
          | 36 => HET w4.heap.size RO RE v w
          | 37 => HVW w4.heap.size RO v w
          | 38 => v = .int .i64 RE
          | _ => True) (fun a w => True) 12 [27, 28, 29, 30, 31, 32, 33, 34, 35, 36, 37, 38] 39 [false, false, false, false, false, false, false, false, false, false, false, false, false, false, false, false, false, false, false, false, false, false, false, false, false, false, false, true, true, true, true, true, true, true, true, true, true, true, true] (by kernel_rfl) rfl (by kernel_rfl) (by kernel_rfl) (by kernel_rfl) (by kernel_rfl) (Nat.le_of_ble_eq_true (by kernel_rfl)) (by kernel_rfl) (by kernel_rfl) ?mono ?g0 ?good ?done
      case mono =>
        refine List.forall_mem_cons.2 ⟨fun _ _ _ _ _ h => h, ?_⟩
        refine List.forall_mem_cons.2 ⟨fun _ _ _ _ _ h => h, ?_⟩
        refine List.forall_mem_cons.2 ⟨fun _ _ _ _ _ h => h, ?_⟩
        refine List.forall_mem_cons.2 ⟨fun _ _ _ _ _ h => h, ?_⟩
        refine List.forall_mem_cons.2 ⟨fun _ _ _ _ hb h => BKW.below h hb, ?_⟩
        refine List.forall_mem_cons.2 ⟨fun _ _ _ _ _ h => h, ?_⟩
        refine List.forall_mem_cons.2 ⟨fun _ _ _ _ _ h => h, ?_⟩
        refine List.forall_mem_cons.2 ⟨fun _ _ _ _ _ h => h, ?_⟩
        refine List.forall_mem_cons.2 ⟨fun _ _ _ _ hb h => BKW.below h hb, ?_⟩
        refine List.forall_mem_cons.2 ⟨fun _ _ _ _ hb h => HET.below h hb, ?_⟩
        refine List.forall_mem_cons.2 ⟨fun _ _ _ _ hb h => HVW.below h hb, ?_⟩
        refine List.forall_mem_cons.2 ⟨fun _ _ _ _ _ h => h, ?_⟩
        exact fun _ h => absurd h (by simp)
      case g0 => exact trivial
      case good =>
        refine Rg.goodG_cons ?_ ?_
        · intro ac w' cx hg hn
          have e3 := cx.at_ 3 (by kernel_rfl) rfl
          have t0 := bx ((cx.bel.block g (by have := HSZ4.out; omega)).trans HC4.out.1) 0 _ rfl; have t1 := bx ((cx.bel.block g (by have := HSZ4.out; omega)).trans HC4.out.1) 1 _ rfl; have t2 := bx ((cx.bel.block g (by have := HSZ4.out; omega)).trans HC4.out.1) 2 _ rfl; have t3 := bx ((cx.bel.block g (by have := HSZ4.out; omega)).trans HC4.out.1) 3 _ rfl; have t4 := bx ((cx.bel.block g (by have := HSZ4.out; omega)).trans HC4.out.1) 4 _ rfl; have t5 := bx ((cx.bel.block g (by have := HSZ4.out; omega)).trans HC4.out.1) 5 _ rfl; have t6 := bx ((cx.bel.block g (by have := HSZ4.out; omega)).trans HC4.out.1) 6 _ rfl; have t7 := bx ((cx.bel.block g (by have := HSZ4.out; omega)).trans HC4.out.1) 7 _ rfl
          refine .inl ⟨(Rg.wanted_none rfl), fun K hK => ?_⟩
          go_simp
          exact hK _ _ (Below.refl _ _) (fun t ht => by injection ht with ht; subst ht; exact rfl) trivial
        refine Rg.goodG_cons ?_ ?_
        · intro ac w' cx hg hn
          have e4 := cx.at_ 4 (by kernel_rfl) rfl
          refine .inl ⟨(Rg.wanted_none rfl), fun K hK => ?_⟩
          go_simp
          exact hK _ _ (Below.refl _ _) (fun t ht => by injection ht with ht; subst ht; exact rfl) trivial
        refine Rg.goodG_cons ?_ ?_
        · intro ac w' cx hg hn
          obtain ⟨v28, e28, r28⟩ := hn 28 (Rg.mem_of (by kernel_rfl))
          obtain rfl : v28 = .pointer (some ⟨g + 1, 0, none⟩) := r28
          have t0 := bx ((cx.bel.block (g + 1) (by have := HSZ4.out; omega)).trans HC4.out.2.1) 0 _ rfl; have t1 := bx ((cx.bel.block (g + 1) (by have := HSZ4.out; omega)).trans HC4.out.2.1) 1 _ rfl
          refine .inl ⟨(Rg.wanted_none rfl), fun K hK => ?_⟩
          go_simp
          exact hK _ _ (Below.refl _ _) (fun t ht => by injection ht with ht; subst ht; exact rfl) trivial
        refine Rg.goodG_cons ?_ ?_
        · intro ac w' cx hg hn
          have e8 := cx.at_ 8 (by kernel_rfl) rfl
          refine .inl ⟨(Rg.wanted_none rfl), fun K hK => ?_⟩
          go_simp
          exact hK _ _ (Below.refl _ _) (fun t ht => by injection ht with ht; subst ht; exact rfl) trivial
        refine Rg.goodG_cons ?_ ?_
        · intro ac w' cx hg hn
          obtain ⟨v29, e29, r29⟩ := hn 29 (Rg.mem_of (by kernel_rfl))
          obtain rfl : v29 = .agg #[.int .i64 F1, .slice A1 M1 c1] := r29
          obtain ⟨v30, e30, r30⟩ := hn 30 (Rg.mem_of (by kernel_rfl))
          obtain rfl : v30 = .slice (some ⟨gr, o, none⟩) (0) (0) := r30
          refine .inl ⟨(Rg.wanted_none rfl), fun K hK => ?_⟩
          go_simp
          refine (HBP.out _ _ w' (HB4.out.trans (cx.bel.mono HB4.out.size)) HAX).mono ?_
          rintro e w2' ⟨A', c', rfl, hl, hb⟩
          exact hK _ _ hb (fun t ht => by injection ht with ht; subst ht; exact ⟨A', c', rfl, tk_bk hl HWB1.out (by have := HLE.out.1; omega)⟩) trivial
        refine Rg.goodG_cons ?_ ?_
        · intro ac w' cx hg hn
          have e4 := cx.at_ 4 (by kernel_rfl) rfl
          refine .inl ⟨(Rg.wanted_none rfl), fun K hK => ?_⟩
          go_simp
          exact hK _ _ (Below.refl _ _) (fun t ht => by injection ht with ht; subst ht; exact rfl) trivial
        refine Rg.goodG_cons ?_ ?_
        · intro ac w' cx hg hn
          obtain ⟨v32, e32, r32⟩ := hn 32 (Rg.mem_of (by kernel_rfl))
          obtain rfl : v32 = .pointer (some ⟨g + 1, 2, none⟩) := r32
          have t2 := bx ((cx.bel.block (g + 1) (by have := HSZ4.out; omega)).trans HC4.out.2.1) 2 _ rfl; have t3 := bx ((cx.bel.block (g + 1) (by have := HSZ4.out; omega)).trans HC4.out.2.1) 3 _ rfl
          refine .inl ⟨(Rg.wanted_none rfl), fun K hK => ?_⟩
          go_simp
          exact hK _ _ (Below.refl _ _) (fun t ht => by injection ht with ht; subst ht; exact rfl) trivial
        refine Rg.goodG_cons ?_ ?_
        · intro ac w' cx hg hn
          have e9 := cx.at_ 9 (by kernel_rfl) rfl
          refine .inl ⟨(Rg.wanted_none rfl), fun K hK => ?_⟩
          go_simp
          exact hK _ _ (Below.refl _ _) (fun t ht => by injection ht with ht; subst ht; exact rfl) trivial
        refine Rg.goodG_cons ?_ ?_
        · intro ac w' cx hg hn
          obtain ⟨v33, e33, r33⟩ := hn 33 (Rg.mem_of (by kernel_rfl))
          obtain rfl : v33 = .agg #[.int .i64 F2, .slice B1 M2 d1] := r33
          obtain ⟨v34, e34, r34⟩ := hn 34 (Rg.mem_of (by kernel_rfl))
          obtain rfl : v34 = .slice (some ⟨gr, o, none⟩) (0) (0) := r34
          refine .inl ⟨(Rg.wanted_none rfl), fun K hK => ?_⟩
          go_simp
          refine (HBQ.out _ _ w' (HB4.out.trans (cx.bel.mono HB4.out.size)) HAY).mono ?_
          rintro e w2' ⟨A', c', rfl, hl, hb⟩
          exact hK _ _ hb (fun t ht => by injection ht with ht; subst ht; exact ⟨A', c', rfl, tk_bk hl HWB2.out (by have := HLE.out.2; omega)⟩) trivial
        refine Rg.goodG_cons ?_ ?_
        · intro ac w' cx hg hn
          obtain ⟨v27, e27, r27⟩ := hn 27 (Rg.mem_of (by kernel_rfl))
          obtain rfl : v27 = .agg #[.int .i64 k, .int .i64 s, .int .i64 z, .int .u64 R0, .int .u64 0, .int .i64 S1, .slice none 0 0, .slice none 0 0] := r27
          obtain ⟨v31, e31, r31⟩ := hn 31 (Rg.mem_of (by kernel_rfl))
          replace r31 : BKW PP v31 w' := r31
          obtain ⟨v35, e35, r35⟩ := hn 35 (Rg.mem_of (by kernel_rfl))
          replace r35 : BKW QQ v35 w' := r35
          refine .inl ⟨(Rg.wanted_none rfl), fun K hK => ?_⟩
          obtain ⟨Ap, cp, rfl, hp⟩ := r31
          obtain ⟨Aq, cq, rfl, hqq⟩ := r35
          go_simp
          refine (HMK.out Ap Aq cp cq w' hp hqq).mono ?_
          rintro e w2' ⟨A', B', c', d', rfl, t1, t2, k1, k2, hb, na, nb⟩
          exact hK _ _ hb (fun t ht => by injection ht with ht; subst ht; exact ⟨_, rfl, A', B', c', d', rfl, t1, t2, k1, k2, fun x hx => Nat.le_trans cx.bel.size (na x hx), fun x hx => Nat.le_trans cx.bel.size (nb x hx)⟩) trivial
        refine Rg.goodG_cons ?_ ?_
        · intro ac w' cx hg hn
          obtain ⟨v36, e36, r36⟩ := hn 36 (Rg.mem_of (by kernel_rfl))
          replace r36 : HET w4.heap.size RO RE v36 w' := r36
          refine .inl ⟨(Rg.wanted_none rfl), fun K hK => ?_⟩
          obtain ⟨v1, rfl, hh⟩ := r36
          go_simp
          exact hK _ _ (Below.refl _ _) (fun t ht => by injection ht with ht; subst ht; exact hh) trivial
        refine Rg.goodG_cons ?_ ?_
        · intro ac w' cx hg hn
          obtain ⟨v36, e36, r36⟩ := hn 36 (Rg.mem_of (by kernel_rfl))
          replace r36 : HET w4.heap.size RO RE v36 w' := r36
          refine .inl ⟨(Rg.wanted_none rfl), fun K hK => ?_⟩
          obtain ⟨v1, rfl, hh⟩ := r36
          go_simp
          exact hK _ _ (Below.refl _ _) (fun t ht => by injection ht with ht; subst ht; exact rfl) trivial
        exact Rg.goodG_nil
      case done =>
        intro u w6 hb6 hr _
        have q37 : HVW w4.heap.size RO (u 37) w6 := hr 37 (by simp)
        have q38 : u 38 = .int .i64 RE := hr 38 (by simp)
        obtain ⟨A', B', c', d', q37', bP, bQ, kP, kQ, nA, nB⟩ := q37
        have HRO := Lib.hid (Eq.refl RO)
        obtain ⟨ak, as1, az, azc, act, asm, aP, aQ⟩ := RO
        simp only [hvA] at q37' bP bQ kP kQ
        obtain ⟨lP, hlP⟩ : ∃ n, aP.length = n := ⟨_, rfl⟩
        obtain ⟨lQ, hlQ⟩ : ∃ n, aQ.length = n := ⟨_, rfl⟩
        have HLPQ := Lib.hid (And.intro hlP hlQ)
        rw [hlP, hlQ] at q37'
        rw [hlP] at kP
        rw [hlQ] at kQ
        simp only [Rg.fillL_cons, Rg.fillL_nil, if_true, if_false, Bool.false_eq_true, q37', q38, List.drop_succ_cons, List.drop_zero]
        have hx6 := (hb6.block (g + 1 + 1) HSZ4.out).trans HC4.out.2.2
        obtain ⟨v0, v1, v2, v3, v4, v5, v6, v7, fv⟩ := box8 hx6
        have f0 := fv 0
        have f1 := fv 1
        have f2 := fv 2
        have f3 := fv 3
        have f4 := fv 4
        have f5 := fv 5
        have f6 := fv 6
        have f7 := fv 7
        have hxz := setL_at (l := [.int .i64 ak, .int .i64 as1, .int .i64 az, .int .u64 azc, .int .u64 act, .int .i64 asm, .slice A' lP c', .slice B' lQ d']) (i := 0) hx6
        rw [setA8] at hxz
        have hsc : ∀ pp : Addr, w4.heap.size ≤ pp.block → (setL w6 (g + 1 + 1) 0 [.int .i64 ak, .int .i64 as1, .int .i64 az, .int .u64 azc, .int .u64 act, .int .i64 asm, .slice A' lP c', .slice B' lQ d']).cell? pp = w6.cell? pp := fun pp hpp => setL_other (by have := HSZ4.out; omega)
        have HE := Lib.hid (show RetC w ⟨ak, as1, az, azc, act, asm, aP, aQ⟩ RE (.returned (.tuple #[.agg #[.int .i64 ak, .int .i64 as1, .int .i64 az, .int .u64 azc, .int .u64 act, .int .i64 asm, .slice A' lP c', .slice B' lQ d'], .int .i64 RE])) (setL w6 (g + 1 + 1) 0 [.int .i64 ak, .int .i64 as1, .int .i64 az, .int .u64 azc, .int .u64 act, .int .i64 asm, .slice A' lP c', .slice B' lQ d']) from by
          have hgz := HG.out
          have hb7 := HB4.out.size
          exact ⟨A', B', c', d', by simp only [hvA]; rw [hlP, hlQ], bP.keepNew nA hsc, bQ.keepNew nB hsc, by rw [hlP]; exact kP, by rw [hlQ]; exact kQ, setL_below (by omega) (HB4.out.trans (hb6.mono HB4.out.size)), fun x hx => Nat.le_trans HB4.out.size (nA x hx), fun x hx => Nat.le_trans HB4.out.size (nB x hx)⟩)
        obtain ⟨z0, z1, z2, z3, z4, z5, z6, z7, _⟩ := box8 hxz
        simp only [setL] at z0 z1 z2 z3 z4 z5 z6 z7 HE
        clear hr hb6 hx6 hxz hsc bP bQ kP kQ nA nB q37' q38 hlP hlQ fv
        go_wp2_with fail
        exact bodyPost_ret (v := .tuple #[.agg #[.int .i64 ak, .int .i64 as1, .int .i64 az, .int .u64 azc, .int .u64 act, .int .i64 asm, .slice A' lP c', .slice B' lQ d'], .int .i64 RE]) (by simp [results, Tryz.results67, go_sem, z0, z1, z2, z3, z4, z5, z6, z7]) rfl HE.out
    · have h2' : ¬ cr - 2 = 0 := by omega
      have HAX := HDP.out (some ⟨gr, o + 2, none⟩) (.inr rfl)
      by_cases h3 : cr - 2 = nx
      · have HAY := HDQ.out (some ⟨gr, o + 2, none⟩) (.inl (by omega))
        go_wp2_with fail
        refine (HIX.out _ HB.out).mono ?_
        rintro e w4 ⟨A4, c4, rfl, _, hb4⟩
        have HB4 := Lib.hid (HB.out.trans (hb4.mono HB.out.size))
        have HC4 := Lib.hid (show w4.heap[g]? = _ ∧ w4.heap[g + 1]? = _ ∧ w4.heap[g + 1 + 1]? = _ from by
          have := HSZ.out
          exact ⟨(hb4.block _ (by omega)).trans HC.out.1, (hb4.block _ (by omega)).trans HC.out.2.1, (hb4.block _ (by omega)).trans HC.out.2.2⟩)
        have HSZ4 := Lib.hid (show g + 1 + 1 < w4.heap.size from by have := HSZ.out; have := hb4.size; omega)
        clear hb4 p0 p1
        go_wp2_with fail
        refine Rg.wp_region_invG (R := fun sl v w => match sl with
            | 27 => v = .agg #[.int .i64 k, .int .i64 s, .int .i64 z, .int .u64 R0, .int .u64 0, .int .i64 S1, .slice none 0 0, .slice none 0 0]
            | 28 => v = .pointer (some ⟨g + 1, 0, none⟩)
            | 29 => v = .agg #[.int .i64 F1, .slice A1 M1 c1]
            | 30 => v = .slice (some ⟨gr, o + 2, none⟩) (m - 2) (nx)
            | 31 => BKW PP v w
            | 32 => v = .pointer (some ⟨g + 1, 2, none⟩)
            | 33 => v = .agg #[.int .i64 F2, .slice B1 M2 d1]
            | 34 => v = .slice (some ⟨gr, o + 2, none⟩) (m - 2 - nx) (0)
            | 35 => BKW QQ v w
            | 36 => HET w4.heap.size RO RE v w
            | 37 => HVW w4.heap.size RO v w
            | 38 => v = .int .i64 RE
            | _ => True) (fun a w => True) 12 [27, 28, 29, 30, 31, 32, 33, 34, 35, 36, 37, 38] 39 [false, false, false, false, false, false, false, false, false, false, false, false, false, false, false, false, false, false, false, false, false, false, false, false, false, false, false, true, true, true, true, true, true, true, true, true, true, true, true] (by kernel_rfl) rfl (by kernel_rfl) (by kernel_rfl) (by kernel_rfl) (by kernel_rfl) (Nat.le_of_ble_eq_true (by kernel_rfl)) (by kernel_rfl) (by kernel_rfl) ?mono ?g0 ?good ?done
        case mono =>
          refine List.forall_mem_cons.2 ⟨fun _ _ _ _ _ h => h, ?_⟩
          refine List.forall_mem_cons.2 ⟨fun _ _ _ _ _ h => h, ?_⟩
          refine List.forall_mem_cons.2 ⟨fun _ _ _ _ _ h => h, ?_⟩
          refine List.forall_mem_cons.2 ⟨fun _ _ _ _ _ h => h, ?_⟩
          refine List.forall_mem_cons.2 ⟨fun _ _ _ _ hb h => BKW.below h hb, ?_⟩
          refine List.forall_mem_cons.2 ⟨fun _ _ _ _ _ h => h, ?_⟩
          refine List.forall_mem_cons.2 ⟨fun _ _ _ _ _ h => h, ?_⟩
          refine List.forall_mem_cons.2 ⟨fun _ _ _ _ _ h => h, ?_⟩
          refine List.forall_mem_cons.2 ⟨fun _ _ _ _ hb h => BKW.below h hb, ?_⟩
          refine List.forall_mem_cons.2 ⟨fun _ _ _ _ hb h => HET.below h hb, ?_⟩
          refine List.forall_mem_cons.2 ⟨fun _ _ _ _ hb h => HVW.below h hb, ?_⟩
          refine List.forall_mem_cons.2 ⟨fun _ _ _ _ _ h => h, ?_⟩
          exact fun _ h => absurd h (by simp)
        case g0 => exact trivial
        case good =>
          refine Rg.goodG_cons ?_ ?_
          · intro ac w' cx hg hn
            have e3 := cx.at_ 3 (by kernel_rfl) rfl
            have t0 := bx ((cx.bel.block g (by have := HSZ4.out; omega)).trans HC4.out.1) 0 _ rfl; have t1 := bx ((cx.bel.block g (by have := HSZ4.out; omega)).trans HC4.out.1) 1 _ rfl; have t2 := bx ((cx.bel.block g (by have := HSZ4.out; omega)).trans HC4.out.1) 2 _ rfl; have t3 := bx ((cx.bel.block g (by have := HSZ4.out; omega)).trans HC4.out.1) 3 _ rfl; have t4 := bx ((cx.bel.block g (by have := HSZ4.out; omega)).trans HC4.out.1) 4 _ rfl; have t5 := bx ((cx.bel.block g (by have := HSZ4.out; omega)).trans HC4.out.1) 5 _ rfl; have t6 := bx ((cx.bel.block g (by have := HSZ4.out; omega)).trans HC4.out.1) 6 _ rfl; have t7 := bx ((cx.bel.block g (by have := HSZ4.out; omega)).trans HC4.out.1) 7 _ rfl
            refine .inl ⟨(Rg.wanted_none rfl), fun K hK => ?_⟩
            go_simp
            exact hK _ _ (Below.refl _ _) (fun t ht => by injection ht with ht; subst ht; exact rfl) trivial
          refine Rg.goodG_cons ?_ ?_
          · intro ac w' cx hg hn
            have e4 := cx.at_ 4 (by kernel_rfl) rfl
            refine .inl ⟨(Rg.wanted_none rfl), fun K hK => ?_⟩
            go_simp
            exact hK _ _ (Below.refl _ _) (fun t ht => by injection ht with ht; subst ht; exact rfl) trivial
          refine Rg.goodG_cons ?_ ?_
          · intro ac w' cx hg hn
            obtain ⟨v28, e28, r28⟩ := hn 28 (Rg.mem_of (by kernel_rfl))
            obtain rfl : v28 = .pointer (some ⟨g + 1, 0, none⟩) := r28
            have t0 := bx ((cx.bel.block (g + 1) (by have := HSZ4.out; omega)).trans HC4.out.2.1) 0 _ rfl; have t1 := bx ((cx.bel.block (g + 1) (by have := HSZ4.out; omega)).trans HC4.out.2.1) 1 _ rfl
            refine .inl ⟨(Rg.wanted_none rfl), fun K hK => ?_⟩
            go_simp
            exact hK _ _ (Below.refl _ _) (fun t ht => by injection ht with ht; subst ht; exact rfl) trivial
          refine Rg.goodG_cons ?_ ?_
          · intro ac w' cx hg hn
            have e8 := cx.at_ 8 (by kernel_rfl) rfl
            refine .inl ⟨(Rg.wanted_none rfl), fun K hK => ?_⟩
            go_simp
            exact hK _ _ (Below.refl _ _) (fun t ht => by injection ht with ht; subst ht; exact rfl) trivial
          refine Rg.goodG_cons ?_ ?_
          · intro ac w' cx hg hn
            obtain ⟨v29, e29, r29⟩ := hn 29 (Rg.mem_of (by kernel_rfl))
            obtain rfl : v29 = .agg #[.int .i64 F1, .slice A1 M1 c1] := r29
            obtain ⟨v30, e30, r30⟩ := hn 30 (Rg.mem_of (by kernel_rfl))
            obtain rfl : v30 = .slice (some ⟨gr, o + 2, none⟩) (m - 2) (nx) := r30
            refine .inl ⟨(Rg.wanted_none rfl), fun K hK => ?_⟩
            go_simp
            refine (HBP.out _ _ w' (HB4.out.trans (cx.bel.mono HB4.out.size)) HAX).mono ?_
            rintro e w2' ⟨A', c', rfl, hl, hb⟩
            exact hK _ _ hb (fun t ht => by injection ht with ht; subst ht; exact ⟨A', c', rfl, tk_bk hl HWB1.out (by have := HLE.out.1; omega)⟩) trivial
          refine Rg.goodG_cons ?_ ?_
          · intro ac w' cx hg hn
            have e4 := cx.at_ 4 (by kernel_rfl) rfl
            refine .inl ⟨(Rg.wanted_none rfl), fun K hK => ?_⟩
            go_simp
            exact hK _ _ (Below.refl _ _) (fun t ht => by injection ht with ht; subst ht; exact rfl) trivial
          refine Rg.goodG_cons ?_ ?_
          · intro ac w' cx hg hn
            obtain ⟨v32, e32, r32⟩ := hn 32 (Rg.mem_of (by kernel_rfl))
            obtain rfl : v32 = .pointer (some ⟨g + 1, 2, none⟩) := r32
            have t2 := bx ((cx.bel.block (g + 1) (by have := HSZ4.out; omega)).trans HC4.out.2.1) 2 _ rfl; have t3 := bx ((cx.bel.block (g + 1) (by have := HSZ4.out; omega)).trans HC4.out.2.1) 3 _ rfl
            refine .inl ⟨(Rg.wanted_none rfl), fun K hK => ?_⟩
            go_simp
            exact hK _ _ (Below.refl _ _) (fun t ht => by injection ht with ht; subst ht; exact rfl) trivial
          refine Rg.goodG_cons ?_ ?_
          · intro ac w' cx hg hn
            have e9 := cx.at_ 9 (by kernel_rfl) rfl
            refine .inl ⟨(Rg.wanted_none rfl), fun K hK => ?_⟩
            go_simp
            exact hK _ _ (Below.refl _ _) (fun t ht => by injection ht with ht; subst ht; exact rfl) trivial
          refine Rg.goodG_cons ?_ ?_
          · intro ac w' cx hg hn
            obtain ⟨v33, e33, r33⟩ := hn 33 (Rg.mem_of (by kernel_rfl))
            obtain rfl : v33 = .agg #[.int .i64 F2, .slice B1 M2 d1] := r33
            obtain ⟨v34, e34, r34⟩ := hn 34 (Rg.mem_of (by kernel_rfl))
            obtain rfl : v34 = .slice (some ⟨gr, o + 2, none⟩) (m - 2 - nx) (0) := r34
            refine .inl ⟨(Rg.wanted_none rfl), fun K hK => ?_⟩
            go_simp
            refine (HBQ.out _ _ w' (HB4.out.trans (cx.bel.mono HB4.out.size)) HAY).mono ?_
            rintro e w2' ⟨A', c', rfl, hl, hb⟩
            exact hK _ _ hb (fun t ht => by injection ht with ht; subst ht; exact ⟨A', c', rfl, tk_bk hl HWB2.out (by have := HLE.out.2; omega)⟩) trivial
          refine Rg.goodG_cons ?_ ?_
          · intro ac w' cx hg hn
            obtain ⟨v27, e27, r27⟩ := hn 27 (Rg.mem_of (by kernel_rfl))
            obtain rfl : v27 = .agg #[.int .i64 k, .int .i64 s, .int .i64 z, .int .u64 R0, .int .u64 0, .int .i64 S1, .slice none 0 0, .slice none 0 0] := r27
            obtain ⟨v31, e31, r31⟩ := hn 31 (Rg.mem_of (by kernel_rfl))
            replace r31 : BKW PP v31 w' := r31
            obtain ⟨v35, e35, r35⟩ := hn 35 (Rg.mem_of (by kernel_rfl))
            replace r35 : BKW QQ v35 w' := r35
            refine .inl ⟨(Rg.wanted_none rfl), fun K hK => ?_⟩
            obtain ⟨Ap, cp, rfl, hp⟩ := r31
            obtain ⟨Aq, cq, rfl, hqq⟩ := r35
            go_simp
            refine (HMK.out Ap Aq cp cq w' hp hqq).mono ?_
            rintro e w2' ⟨A', B', c', d', rfl, t1, t2, k1, k2, hb, na, nb⟩
            exact hK _ _ hb (fun t ht => by injection ht with ht; subst ht; exact ⟨_, rfl, A', B', c', d', rfl, t1, t2, k1, k2, fun x hx => Nat.le_trans cx.bel.size (na x hx), fun x hx => Nat.le_trans cx.bel.size (nb x hx)⟩) trivial
          refine Rg.goodG_cons ?_ ?_
          · intro ac w' cx hg hn
            obtain ⟨v36, e36, r36⟩ := hn 36 (Rg.mem_of (by kernel_rfl))
            replace r36 : HET w4.heap.size RO RE v36 w' := r36
            refine .inl ⟨(Rg.wanted_none rfl), fun K hK => ?_⟩
            obtain ⟨v1, rfl, hh⟩ := r36
            go_simp
            exact hK _ _ (Below.refl _ _) (fun t ht => by injection ht with ht; subst ht; exact hh) trivial
          refine Rg.goodG_cons ?_ ?_
          · intro ac w' cx hg hn
            obtain ⟨v36, e36, r36⟩ := hn 36 (Rg.mem_of (by kernel_rfl))
            replace r36 : HET w4.heap.size RO RE v36 w' := r36
            refine .inl ⟨(Rg.wanted_none rfl), fun K hK => ?_⟩
            obtain ⟨v1, rfl, hh⟩ := r36
            go_simp
            exact hK _ _ (Below.refl _ _) (fun t ht => by injection ht with ht; subst ht; exact rfl) trivial
          exact Rg.goodG_nil
        case done =>
          intro u w6 hb6 hr _
          have q37 : HVW w4.heap.size RO (u 37) w6 := hr 37 (by simp)
          have q38 : u 38 = .int .i64 RE := hr 38 (by simp)
          obtain ⟨A', B', c', d', q37', bP, bQ, kP, kQ, nA, nB⟩ := q37
          have HRO := Lib.hid (Eq.refl RO)
          obtain ⟨ak, as1, az, azc, act, asm, aP, aQ⟩ := RO
          simp only [hvA] at q37' bP bQ kP kQ
          obtain ⟨lP, hlP⟩ : ∃ n, aP.length = n := ⟨_, rfl⟩
          obtain ⟨lQ, hlQ⟩ : ∃ n, aQ.length = n := ⟨_, rfl⟩
          have HLPQ := Lib.hid (And.intro hlP hlQ)
          rw [hlP, hlQ] at q37'
          rw [hlP] at kP
          rw [hlQ] at kQ
          simp only [Rg.fillL_cons, Rg.fillL_nil, if_true, if_false, Bool.false_eq_true, q37', q38, List.drop_succ_cons, List.drop_zero]
          have hx6 := (hb6.block (g + 1 + 1) HSZ4.out).trans HC4.out.2.2
          obtain ⟨v0, v1, v2, v3, v4, v5, v6, v7, fv⟩ := box8 hx6
          have f0 := fv 0
          have f1 := fv 1
          have f2 := fv 2
          have f3 := fv 3
          have f4 := fv 4
          have f5 := fv 5
          have f6 := fv 6
          have f7 := fv 7
          have hxz := setL_at (l := [.int .i64 ak, .int .i64 as1, .int .i64 az, .int .u64 azc, .int .u64 act, .int .i64 asm, .slice A' lP c', .slice B' lQ d']) (i := 0) hx6
          rw [setA8] at hxz
          have hsc : ∀ pp : Addr, w4.heap.size ≤ pp.block → (setL w6 (g + 1 + 1) 0 [.int .i64 ak, .int .i64 as1, .int .i64 az, .int .u64 azc, .int .u64 act, .int .i64 asm, .slice A' lP c', .slice B' lQ d']).cell? pp = w6.cell? pp := fun pp hpp => setL_other (by have := HSZ4.out; omega)
          have HE := Lib.hid (show RetC w ⟨ak, as1, az, azc, act, asm, aP, aQ⟩ RE (.returned (.tuple #[.agg #[.int .i64 ak, .int .i64 as1, .int .i64 az, .int .u64 azc, .int .u64 act, .int .i64 asm, .slice A' lP c', .slice B' lQ d'], .int .i64 RE])) (setL w6 (g + 1 + 1) 0 [.int .i64 ak, .int .i64 as1, .int .i64 az, .int .u64 azc, .int .u64 act, .int .i64 asm, .slice A' lP c', .slice B' lQ d']) from by
            have hgz := HG.out
            have hb7 := HB4.out.size
            exact ⟨A', B', c', d', by simp only [hvA]; rw [hlP, hlQ], bP.keepNew nA hsc, bQ.keepNew nB hsc, by rw [hlP]; exact kP, by rw [hlQ]; exact kQ, setL_below (by omega) (HB4.out.trans (hb6.mono HB4.out.size)), fun x hx => Nat.le_trans HB4.out.size (nA x hx), fun x hx => Nat.le_trans HB4.out.size (nB x hx)⟩)
          obtain ⟨z0, z1, z2, z3, z4, z5, z6, z7, _⟩ := box8 hxz
          simp only [setL] at z0 z1 z2 z3 z4 z5 z6 z7 HE
          clear hr hb6 hx6 hxz hsc bP bQ kP kQ nA nB q37' q38 hlP hlQ fv
          go_wp2_with fail
          exact bodyPost_ret (v := .tuple #[.agg #[.int .i64 ak, .int .i64 as1, .int .i64 az, .int .u64 azc, .int .u64 act, .int .i64 asm, .slice A' lP c', .slice B' lQ d'], .int .i64 RE]) (by simp [results, Tryz.results67, go_sem, z0, z1, z2, z3, z4, z5, z6, z7]) rfl HE.out
      · have HAY := HDQ.out (some ⟨gr, o + 2 + nx, none⟩) (.inr rfl)
        go_wp2_with fail
        refine (HIX.out _ HB.out).mono ?_
        rintro e w4 ⟨A4, c4, rfl, _, hb4⟩
        have HB4 := Lib.hid (HB.out.trans (hb4.mono HB.out.size))
        have HC4 := Lib.hid (show w4.heap[g]? = _ ∧ w4.heap[g + 1]? = _ ∧ w4.heap[g + 1 + 1]? = _ from by
          have := HSZ.out
          exact ⟨(hb4.block _ (by omega)).trans HC.out.1, (hb4.block _ (by omega)).trans HC.out.2.1, (hb4.block _ (by omega)).trans HC.out.2.2⟩)
        have HSZ4 := Lib.hid (show g + 1 + 1 < w4.heap.size from by have := HSZ.out; have := hb4.size; omega)
        clear hb4 p0 p1
        go_wp2_with fail
        refine Rg.wp_region_invG (R := fun sl v w => match sl with
            | 27 => v = .agg #[.int .i64 k, .int .i64 s, .int .i64 z, .int .u64 R0, .int .u64 0, .int .i64 S1, .slice none 0 0, .slice none 0 0]
            | 28 => v = .pointer (some ⟨g + 1, 0, none⟩)
            | 29 => v = .agg #[.int .i64 F1, .slice A1 M1 c1]
            | 30 => v = .slice (some ⟨gr, o + 2, none⟩) (m - 2) (cr - 2)
            | 31 => BKW PP v w
            | 32 => v = .pointer (some ⟨g + 1, 2, none⟩)
            | 33 => v = .agg #[.int .i64 F2, .slice B1 M2 d1]
            | 34 => v = .slice (some ⟨gr, o + 2 + nx, none⟩) (m - 2 - nx) (cr - 2 - nx)
            | 35 => BKW QQ v w
            | 36 => HET w4.heap.size RO RE v w
            | 37 => HVW w4.heap.size RO v w
            | 38 => v = .int .i64 RE
            | _ => True) (fun a w => True) 12 [27, 28, 29, 30, 31, 32, 33, 34, 35, 36, 37, 38] 39 [false, false, false, false, false, false, false, false, false, false, false, false, false, false, false, false, false, false, false, false, false, false, false, false, false, false, false, true, true, true, true, true, true, true, true, true, true, true, true] (by kernel_rfl) rfl (by kernel_rfl) (by kernel_rfl) (by kernel_rfl) (by kernel_rfl) (Nat.le_of_ble_eq_true (by kernel_rfl)) (by kernel_rfl) (by kernel_rfl) ?mono ?g0 ?good ?done
        case mono =>
          refine List.forall_mem_cons.2 ⟨fun _ _ _ _ _ h => h, ?_⟩
          refine List.forall_mem_cons.2 ⟨fun _ _ _ _ _ h => h, ?_⟩
          refine List.forall_mem_cons.2 ⟨fun _ _ _ _ _ h => h, ?_⟩
          refine List.forall_mem_cons.2 ⟨fun _ _ _ _ _ h => h, ?_⟩
          refine List.forall_mem_cons.2 ⟨fun _ _ _ _ hb h => BKW.below h hb, ?_⟩
          refine List.forall_mem_cons.2 ⟨fun _ _ _ _ _ h => h, ?_⟩
          refine List.forall_mem_cons.2 ⟨fun _ _ _ _ _ h => h, ?_⟩
          refine List.forall_mem_cons.2 ⟨fun _ _ _ _ _ h => h, ?_⟩
          refine List.forall_mem_cons.2 ⟨fun _ _ _ _ hb h => BKW.below h hb, ?_⟩
          refine List.forall_mem_cons.2 ⟨fun _ _ _ _ hb h => HET.below h hb, ?_⟩
          refine List.forall_mem_cons.2 ⟨fun _ _ _ _ hb h => HVW.below h hb, ?_⟩
          refine List.forall_mem_cons.2 ⟨fun _ _ _ _ _ h => h, ?_⟩
          exact fun _ h => absurd h (by simp)
        case g0 => exact trivial
        case good =>
          refine Rg.goodG_cons ?_ ?_
          · intro ac w' cx hg hn
            have e3 := cx.at_ 3 (by kernel_rfl) rfl
            have t0 := bx ((cx.bel.block g (by have := HSZ4.out; omega)).trans HC4.out.1) 0 _ rfl; have t1 := bx ((cx.bel.block g (by have := HSZ4.out; omega)).trans HC4.out.1) 1 _ rfl; have t2 := bx ((cx.bel.block g (by have := HSZ4.out; omega)).trans HC4.out.1) 2 _ rfl; have t3 := bx ((cx.bel.block g (by have := HSZ4.out; omega)).trans HC4.out.1) 3 _ rfl; have t4 := bx ((cx.bel.block g (by have := HSZ4.out; omega)).trans HC4.out.1) 4 _ rfl; have t5 := bx ((cx.bel.block g (by have := HSZ4.out; omega)).trans HC4.out.1) 5 _ rfl; have t6 := bx ((cx.bel.block g (by have := HSZ4.out; omega)).trans HC4.out.1) 6 _ rfl; have t7 := bx ((cx.bel.block g (by have := HSZ4.out; omega)).trans HC4.out.1) 7 _ rfl
            refine .inl ⟨(Rg.wanted_none rfl), fun K hK => ?_⟩
            go_simp
            exact hK _ _ (Below.refl _ _) (fun t ht => by injection ht with ht; subst ht; exact rfl) trivial
          refine Rg.goodG_cons ?_ ?_
          · intro ac w' cx hg hn
            have e4 := cx.at_ 4 (by kernel_rfl) rfl
            refine .inl ⟨(Rg.wanted_none rfl), fun K hK => ?_⟩
            go_simp
            exact hK _ _ (Below.refl _ _) (fun t ht => by injection ht with ht; subst ht; exact rfl) trivial
          refine Rg.goodG_cons ?_ ?_
          · intro ac w' cx hg hn
            obtain ⟨v28, e28, r28⟩ := hn 28 (Rg.mem_of (by kernel_rfl))
            obtain rfl : v28 = .pointer (some ⟨g + 1, 0, none⟩) := r28
            have t0 := bx ((cx.bel.block (g + 1) (by have := HSZ4.out; omega)).trans HC4.out.2.1) 0 _ rfl; have t1 := bx ((cx.bel.block (g + 1) (by have := HSZ4.out; omega)).trans HC4.out.2.1) 1 _ rfl
            refine .inl ⟨(Rg.wanted_none rfl), fun K hK => ?_⟩
            go_simp
            exact hK _ _ (Below.refl _ _) (fun t ht => by injection ht with ht; subst ht; exact rfl) trivial
          refine Rg.goodG_cons ?_ ?_
          · intro ac w' cx hg hn
            have e8 := cx.at_ 8 (by kernel_rfl) rfl
            refine .inl ⟨(Rg.wanted_none rfl), fun K hK => ?_⟩
            go_simp
            exact hK _ _ (Below.refl _ _) (fun t ht => by injection ht with ht; subst ht; exact rfl) trivial
          refine Rg.goodG_cons ?_ ?_
          · intro ac w' cx hg hn
            obtain ⟨v29, e29, r29⟩ := hn 29 (Rg.mem_of (by kernel_rfl))
            obtain rfl : v29 = .agg #[.int .i64 F1, .slice A1 M1 c1] := r29
            obtain ⟨v30, e30, r30⟩ := hn 30 (Rg.mem_of (by kernel_rfl))
            obtain rfl : v30 = .slice (some ⟨gr, o + 2, none⟩) (m - 2) (cr - 2) := r30
            refine .inl ⟨(Rg.wanted_none rfl), fun K hK => ?_⟩
            go_simp
            refine (HBP.out _ _ w' (HB4.out.trans (cx.bel.mono HB4.out.size)) HAX).mono ?_
            rintro e w2' ⟨A', c', rfl, hl, hb⟩
            exact hK _ _ hb (fun t ht => by injection ht with ht; subst ht; exact ⟨A', c', rfl, tk_bk hl HWB1.out (by have := HLE.out.1; omega)⟩) trivial
          refine Rg.goodG_cons ?_ ?_
          · intro ac w' cx hg hn
            have e4 := cx.at_ 4 (by kernel_rfl) rfl
            refine .inl ⟨(Rg.wanted_none rfl), fun K hK => ?_⟩
            go_simp
            exact hK _ _ (Below.refl _ _) (fun t ht => by injection ht with ht; subst ht; exact rfl) trivial
          refine Rg.goodG_cons ?_ ?_
          · intro ac w' cx hg hn
            obtain ⟨v32, e32, r32⟩ := hn 32 (Rg.mem_of (by kernel_rfl))
            obtain rfl : v32 = .pointer (some ⟨g + 1, 2, none⟩) := r32
            have t2 := bx ((cx.bel.block (g + 1) (by have := HSZ4.out; omega)).trans HC4.out.2.1) 2 _ rfl; have t3 := bx ((cx.bel.block (g + 1) (by have := HSZ4.out; omega)).trans HC4.out.2.1) 3 _ rfl
            refine .inl ⟨(Rg.wanted_none rfl), fun K hK => ?_⟩
            go_simp
            exact hK _ _ (Below.refl _ _) (fun t ht => by injection ht with ht; subst ht; exact rfl) trivial
          refine Rg.goodG_cons ?_ ?_
          · intro ac w' cx hg hn
            have e9 := cx.at_ 9 (by kernel_rfl) rfl
            refine .inl ⟨(Rg.wanted_none rfl), fun K hK => ?_⟩
            go_simp
            exact hK _ _ (Below.refl _ _) (fun t ht => by injection ht with ht; subst ht; exact rfl) trivial
          refine Rg.goodG_cons ?_ ?_
          · intro ac w' cx hg hn
            obtain ⟨v33, e33, r33⟩ := hn 33 (Rg.mem_of (by kernel_rfl))
            obtain rfl : v33 = .agg #[.int .i64 F2, .slice B1 M2 d1] := r33
            obtain ⟨v34, e34, r34⟩ := hn 34 (Rg.mem_of (by kernel_rfl))
            obtain rfl : v34 = .slice (some ⟨gr, o + 2 + nx, none⟩) (m - 2 - nx) (cr - 2 - nx) := r34
            refine .inl ⟨(Rg.wanted_none rfl), fun K hK => ?_⟩
            go_simp
            refine (HBQ.out _ _ w' (HB4.out.trans (cx.bel.mono HB4.out.size)) HAY).mono ?_
            rintro e w2' ⟨A', c', rfl, hl, hb⟩
            exact hK _ _ hb (fun t ht => by injection ht with ht; subst ht; exact ⟨A', c', rfl, tk_bk hl HWB2.out (by have := HLE.out.2; omega)⟩) trivial
          refine Rg.goodG_cons ?_ ?_
          · intro ac w' cx hg hn
            obtain ⟨v27, e27, r27⟩ := hn 27 (Rg.mem_of (by kernel_rfl))
            obtain rfl : v27 = .agg #[.int .i64 k, .int .i64 s, .int .i64 z, .int .u64 R0, .int .u64 0, .int .i64 S1, .slice none 0 0, .slice none 0 0] := r27
            obtain ⟨v31, e31, r31⟩ := hn 31 (Rg.mem_of (by kernel_rfl))
            replace r31 : BKW PP v31 w' := r31
            obtain ⟨v35, e35, r35⟩ := hn 35 (Rg.mem_of (by kernel_rfl))
            replace r35 : BKW QQ v35 w' := r35
            refine .inl ⟨(Rg.wanted_none rfl), fun K hK => ?_⟩
            obtain ⟨Ap, cp, rfl, hp⟩ := r31
            obtain ⟨Aq, cq, rfl, hqq⟩ := r35
            go_simp
            refine (HMK.out Ap Aq cp cq w' hp hqq).mono ?_
            rintro e w2' ⟨A', B', c', d', rfl, t1, t2, k1, k2, hb, na, nb⟩
            exact hK _ _ hb (fun t ht => by injection ht with ht; subst ht; exact ⟨_, rfl, A', B', c', d', rfl, t1, t2, k1, k2, fun x hx => Nat.le_trans cx.bel.size (na x hx), fun x hx => Nat.le_trans cx.bel.size (nb x hx)⟩) trivial
          refine Rg.goodG_cons ?_ ?_
          · intro ac w' cx hg hn
            obtain ⟨v36, e36, r36⟩ := hn 36 (Rg.mem_of (by kernel_rfl))
            replace r36 : HET w4.heap.size RO RE v36 w' := r36
            refine .inl ⟨(Rg.wanted_none rfl), fun K hK => ?_⟩
            obtain ⟨v1, rfl, hh⟩ := r36
            go_simp
            exact hK _ _ (Below.refl _ _) (fun t ht => by injection ht with ht; subst ht; exact hh) trivial
          refine Rg.goodG_cons ?_ ?_
          · intro ac w' cx hg hn
            obtain ⟨v36, e36, r36⟩ := hn 36 (Rg.mem_of (by kernel_rfl))
            replace r36 : HET w4.heap.size RO RE v36 w' := r36
            refine .inl ⟨(Rg.wanted_none rfl), fun K hK => ?_⟩
            obtain ⟨v1, rfl, hh⟩ := r36
            go_simp
            exact hK _ _ (Below.refl _ _) (fun t ht => by injection ht with ht; subst ht; exact rfl) trivial
          exact Rg.goodG_nil
        case done =>
          intro u w6 hb6 hr _
          have q37 : HVW w4.heap.size RO (u 37) w6 := hr 37 (by simp)
          have q38 : u 38 = .int .i64 RE := hr 38 (by simp)
          obtain ⟨A', B', c', d', q37', bP, bQ, kP, kQ, nA, nB⟩ := q37
          have HRO := Lib.hid (Eq.refl RO)
          obtain ⟨ak, as1, az, azc, act, asm, aP, aQ⟩ := RO
          simp only [hvA] at q37' bP bQ kP kQ
          obtain ⟨lP, hlP⟩ : ∃ n, aP.length = n := ⟨_, rfl⟩
          obtain ⟨lQ, hlQ⟩ : ∃ n, aQ.length = n := ⟨_, rfl⟩
          have HLPQ := Lib.hid (And.intro hlP hlQ)
          rw [hlP, hlQ] at q37'
          rw [hlP] at kP
          rw [hlQ] at kQ
          simp only [Rg.fillL_cons, Rg.fillL_nil, if_true, if_false, Bool.false_eq_true, q37', q38, List.drop_succ_cons, List.drop_zero]
          have hx6 := (hb6.block (g + 1 + 1) HSZ4.out).trans HC4.out.2.2
          obtain ⟨v0, v1, v2, v3, v4, v5, v6, v7, fv⟩ := box8 hx6
          have f0 := fv 0
          have f1 := fv 1
          have f2 := fv 2
          have f3 := fv 3
          have f4 := fv 4
          have f5 := fv 5
          have f6 := fv 6
          have f7 := fv 7
          have hxz := setL_at (l := [.int .i64 ak, .int .i64 as1, .int .i64 az, .int .u64 azc, .int .u64 act, .int .i64 asm, .slice A' lP c', .slice B' lQ d']) (i := 0) hx6
          rw [setA8] at hxz
          have hsc : ∀ pp : Addr, w4.heap.size ≤ pp.block → (setL w6 (g + 1 + 1) 0 [.int .i64 ak, .int .i64 as1, .int .i64 az, .int .u64 azc, .int .u64 act, .int .i64 asm, .slice A' lP c', .slice B' lQ d']).cell? pp = w6.cell? pp := fun pp hpp => setL_other (by have := HSZ4.out; omega)
          have HE := Lib.hid (show RetC w ⟨ak, as1, az, azc, act, asm, aP, aQ⟩ RE (.returned (.tuple #[.agg #[.int .i64 ak, .int .i64 as1, .int .i64 az, .int .u64 azc, .int .u64 act, .int .i64 asm, .slice A' lP c', .slice B' lQ d'], .int .i64 RE])) (setL w6 (g + 1 + 1) 0 [.int .i64 ak, .int .i64 as1, .int .i64 az, .int .u64 azc, .int .u64 act, .int .i64 asm, .slice A' lP c', .slice B' lQ d']) from by
            have hgz := HG.out
            have hb7 := HB4.out.size
            exact ⟨A', B', c', d', by simp only [hvA]; rw [hlP, hlQ], bP.keepNew nA hsc, bQ.keepNew nB hsc, by rw [hlP]; exact kP, by rw [hlQ]; exact kQ, setL_below (by omega) (HB4.out.trans (hb6.mono HB4.out.size)), fun x hx => Nat.le_trans HB4.out.size (nA x hx), fun x hx => Nat.le_trans HB4.out.size (nB x hx)⟩)
          obtain ⟨z0, z1, z2, z3, z4, z5, z6, z7, _⟩ := box8 hxz
          simp only [setL] at z0 z1 z2 z3 z4 z5 z6 z7 HE
          clear hr hb6 hx6 hxz hsc bP bQ kP kQ nA nB q37' q38 hlP hlQ fv
          go_wp2_with fail
          exact bodyPost_ret (v := .tuple #[.agg #[.int .i64 ak, .int .i64 as1, .int .i64 az, .int .u64 azc, .int .u64 act, .int .i64 asm, .slice A' lP c', .slice B' lQ d'], .int .i64 RE]) (by simp [results, Tryz.results67, go_sem, z0, z1, z2, z3, z4, z5, z6, z7]) rfl HE.out
end Go.Proofs.YtakomfnajeolcaaGreatDoor.Ch
