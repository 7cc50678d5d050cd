/- The document's reader in memory: next, wrong, item. -/
import Derived.Test.YtnabfganecghkaaDoorRxX
namespace Go.Proofs.YtnabfganecghkaaDoor
open Go.RowKit
set_option linter.unusedVariables false

/-- no row of the parser's -/
abbrev nvo : Value := .slice none 0 0
/-- the document's reader at block q: the text L, where it is, how deep, what is wrong -/
structure Rr (w : World) (q : Nat) (L : List UInt8) (k d : Nat) (e : Int) : Prop where
  qw : q < w.heap.size
  c0 : w.cell? ⟨q, 0, none⟩ = some (.string (tx L))
  c1 : w.cell? ⟨q, 1, none⟩ = some (.int .i64 (k : Int))
  c2 : w.cell? ⟨q, 2, none⟩ = some (.int .i64 (d : Int))
  c3 : w.cell? ⟨q, 3, none⟩ = some (.int .i64 e)
  f1 : w.frozen? ⟨q, 1, none⟩ = false
  f2 : w.frozen? ⟨q, 2, none⟩ = false
  f3 : w.frozen? ⟨q, 3, none⟩ = false
theorem Rr.below {w w' : World} {q k d : Nat} {L : List UInt8} {e : Int} (h : Rr w q L k d e) (b : Below w.heap.size w w') : Rr w' q L k d e := by
  have hg := b.block q h.qw
  exact ⟨Nat.lt_of_lt_of_le h.qw b.size, (World.cell?_of_block hg).trans h.c0, (World.cell?_of_block hg).trans h.c1, (World.cell?_of_block hg).trans h.c2, (World.cell?_of_block hg).trans h.c3, (World.frozen?_of_block hg).trans h.f1, (World.frozen?_of_block hg).trans h.f2, (World.frozen?_of_block hg).trans h.f3⟩
theorem Rr.drewN {w : World} {q k d : Nat} {L : List UInt8} {e : Int} (h : Rr w q L k d e) (n : Nat) : Rr (w.drewN n) q L k d e := h.below (below_drewN (Below.refl _ _) n)
theorem Rr.alloc {w : World} {q k d : Nat} {L : List UInt8} {e : Int} (h : Rr w q L k d e) (o : Obj) : Rr (w.alloc o) q L k d e := h.below ((Below.refl _ _).alloc (Nat.le_refl _) _)
theorem Rr.other {w : World} {q k d : Nat} {L : List UInt8} {e : Int} (h : Rr w q L k d e) {a : Addr} (ha : q ≠ a.block) (u : Value) : Rr (w.setCell a u) q L k d e := by
  have hg : (w.setCell a u).heap[q]? = w.heap[q]? := Below.heap_setCell w a u q ha
  exact ⟨by simpa using h.qw, (World.cell?_of_block hg).trans h.c0, (World.cell?_of_block hg).trans h.c1, (World.cell?_of_block hg).trans h.c2, (World.cell?_of_block hg).trans h.c3, (World.frozen?_of_block hg).trans h.f1, (World.frozen?_of_block hg).trans h.f2, (World.frozen?_of_block hg).trans h.f3⟩
theorem go1_set {w : World} {q : Nat} (i : Nat) (u : Value) : Go1 q nvo nvo w (w.setCell ⟨q, i, none⟩ u) :=
  ⟨⟨rfl, rfl, rfl, by simp, fun k _ hk _ => Below.heap_setCell w ⟨q, i, none⟩ u k hk⟩, fun _ h => .inl h⟩
theorem Rr.setK {w : World} {q k d : Nat} {L : List UInt8} {e : Int} (h : Rr w q L k d e) (k' : Nat) (K : Int) (hK : K = (k' : Int)) : Rr (w.setCell ⟨q, 1, none⟩ (.int .i64 K)) q L k' d e := by
  subst hK
  have c0 := h.c0
  have c1 := h.c1
  have c2 := h.c2
  have c3 := h.c3
  have f1 := h.f1
  have f2 := h.f2
  have f3 := h.f3
  exact ⟨by simpa using h.qw, by simp [go_sem, c0], by simp [go_sem, c1], by simp [go_sem, c2], by simp [go_sem, c3], by simp [go_sem, f1], by simp [go_sem, f2], by simp [go_sem, f3]⟩
theorem Rr.setD {w : World} {q k d : Nat} {L : List UInt8} {e : Int} (h : Rr w q L k d e) (d' : Nat) (D : Int) (hD : D = (d' : Int)) : Rr (w.setCell ⟨q, 2, none⟩ (.int .i64 D)) q L k d' e := by
  subst hD
  have c0 := h.c0
  have c1 := h.c1
  have c2 := h.c2
  have c3 := h.c3
  have f1 := h.f1
  have f2 := h.f2
  have f3 := h.f3
  exact ⟨by simpa using h.qw, by simp [go_sem, c0], by simp [go_sem, c1], by simp [go_sem, c2], by simp [go_sem, c3], by simp [go_sem, f1], by simp [go_sem, f2], by simp [go_sem, f3]⟩
theorem Rr.setE {w : World} {q k d : Nat} {L : List UInt8} {e : Int} (h : Rr w q L k d e) (e' : Int) : Rr (w.setCell ⟨q, 3, none⟩ (.int .i64 e')) q L k d e' := by
  have c0 := h.c0
  have c1 := h.c1
  have c2 := h.c2
  have c3 := h.c3
  have f1 := h.f1
  have f2 := h.f2
  have f3 := h.f3
  exact ⟨by simpa using h.qw, by simp [go_sem, c0], by simp [go_sem, c1], by simp [go_sem, c2], by simp [go_sem, c3], by simp [go_sem, f1], by simp [go_sem, f2], by simp [go_sem, f3]⟩
/-- a reader behind a call that turns its own block alone -/
def RO (w : World) (q : Nat) (L : List UInt8) (k d : Nat) (e : Int) (w' : World) : Prop := Rr w' q L k d e ∧ Go1 q nvo nvo w w'
theorem RO.trans {w w1 w2 : World} {q k d k2 d2 : Nat} {L : List UInt8} {e e2 : Int} (h : RO w q L k d e w1) (h2 : RO w1 q L k2 d2 e2 w2) : RO w q L k2 d2 e2 w2 := ⟨h2.1, h.2.trans h2.2⟩
/-- the next byte; -1: none -/
def nxF (L : List UInt8) (k : Nat) : Int := match L[k]? with
  | some c => (c.toNat : Int)
  | none => -1
theorem rnext_any (q : Nat) (L : List UInt8) (k d : Nat) (e : Int) (w : World) (h : Rr w q L k d e) (hL : L.length ≤ 1000) (hk : k ≤ 1000000) :
    Calls Tryd.prog 44 #[.pointer (some ⟨q, 0, none⟩)] w fun y w' => y = .returned (.int .i64 (nxF L k)) ∧ RO w q L k d e w' := by
  have c0 := h.c0
  have c1 := h.c1
  have H := Lib.hid h
  clear h
  obtain ⟨T, hT⟩ : ∃ T, tx L = T := ⟨_, rfl⟩
  have hTs : T.size = L.length := by rw [← hT, tx_size]
  rw [hT] at c0
  by_cases hk2 : k < L.length
  · have hn : nxF L k = ((L[k].toNat : Nat) : Int) := by unfold nxF; rw [List.getElem?_eq_getElem hk2]
    have hlt : k < T.size := by omega
    have hb : T[k].toNat = L[k].toNat := by
      subst hT
      rfl
    rw [hn]
    obtain ⟨b, hbb⟩ : ∃ b, L[k].toNat = b := ⟨_, rfl⟩
    rw [hbb] at hb ⊢
    have hb2 : b < 256 := by rw [← hbb]; exact (L[k]).toNat_lt
    have hki : ¬ (T.size : Int) ≤ (k : Int) := by omega
    have hki2 : (k : Int) < (T.size : Int) := by omega
    clear hn hT hbb hTs
    go_enter Tryd.func44, Tryd.ntmps44
    go_wp2_with fail
    go_quiet (fail)
    go_wp2_with fail
    go_quiet (fail)
    go_wp2_with fail
    go_ret
    exact ⟨rfl, (H.out.drewN _).drewN _, ((Go1.refl _ _ _).drewN _).drewN _⟩
  · have hn : nxF L k = -1 := by unfold nxF; rw [List.getElem?_eq_none (by omega)]
    have hki : (T.size : Int) ≤ (k : Int) := by omega
    rw [hn]
    clear hn hT hTs
    go_enter Tryd.func44, Tryd.ntmps44
    go_wp2_with fail
    go_quiet (fail)
    go_wp2_with fail
    go_ret
    exact ⟨rfl, H.out.drewN _, (Go1.refl _ _ _).drewN _⟩
theorem rwrong_any (q : Nat) (L : List UInt8) (k d : Nat) (e x : Int) (w : World) (h : Rr w q L k d e) :
    Calls Tryd.prog 30 #[.pointer (some ⟨q, 0, none⟩), .int .i64 x] w fun y w' => y = .returned (.tuple #[]) ∧ RO w q L k d (if e = 0 then x else e) w' := by
  have c3 := h.c3
  have f3 := h.f3
  by_cases he : e = 0
  · subst he
    rw [if_pos rfl]
    have H := Lib.hid (show RO w q L k d x (w.setCell ⟨q, 3, none⟩ (.int .i64 x)) from ⟨h.setE x, go1_set 3 _⟩)
    clear h
    go_enter Tryd.func30, Tryd.ntmps30
    go_wp2_with fail
    go_end0
    exact ⟨rfl, H.out⟩
  · rw [if_neg he]
    have hb : (e == 0) = false := by simp [he]
    have H := Lib.hid (show RO w q L k d e w from ⟨h, Go1.refl _ _ _⟩)
    clear h he
    go_enter Tryd.func30, Tryd.ntmps30
    go_wp2_with fail
    go_end0
    exact ⟨rfl, H.out⟩
theorem drop_head {L : List UInt8} {k : Nat} {c : UInt8} {r : List UInt8} (h : L.drop k = c :: r) : nxF L k = (c.toNat : Int) ∧ L.drop (k + 1) = r ∧ k < L.length := by
  have hk : k < L.length := by
    apply Classical.byContradiction
    intro hn
    rw [List.drop_eq_nil_of_le (by omega)] at h
    cases h
  have h2 := List.drop_eq_getElem_cons hk
  rw [h] at h2
  injection h2 with h3 h4
  refine ⟨?_, h4.symm, hk⟩
  unfold nxF
  rw [List.getElem?_eq_getElem hk, h3]
theorem drop_none {L : List UInt8} {k : Nat} (h : L.drop k = []) : nxF L k = -1 := by
  unfold nxF
  rw [List.getElem?_eq_none (List.drop_eq_nil_iff.1 h)]
/-- an item's byte, or none -/
def RitP (o : Option (UInt8 × List UInt8)) (w : World) (q : Nat) (L : List UInt8) (k d : Nat) (y : Ending) (w' : World) : Prop := match o with
  | some p => y = .returned (.int .i64 (p.1.toNat : Int)) ∧ ∃ k', L.drop k' = p.2 ∧ k' ≤ k + 2 ∧ RO w q L k' d 0 w'
  | none => y = .returned (.int .i64 0) ∧ ∃ k', k' ≤ k + 2 ∧ RO w q L k' d 27 w'
theorem ritem_any (q : Nat) (L l : List UInt8) (k d : Nat) (w : World) (h : Rr w q L k d 0) (hl : L.drop k = l) (hL : L.length ≤ 1000) (hk : k ≤ 100000) :
    Calls Tryd.prog 80 #[.pointer (some ⟨q, 0, none⟩)] w fun y w' => RitP (memF l) w q L k d y w' := by
  have H := Lib.hid h
  have HL := Lib.hid hl
  clear h
  cases l with
  | nil =>
    have hn := drop_none hl
    have HN := Lib.hid hn
    clear hl hn
    go_enter Tryd.func80, Tryd.ntmps80
    go_wp2_with fail
    refine (rnext_any _ _ _ _ _ _ H.out hL (by omega)).mono ?_
    rw [HN.out]
    rintro y w1 ⟨rfl, ho⟩
    have O1 := Lib.hid ho
    clear ho
    go_wp2_with fail
    refine (rnext_any _ _ _ _ _ _ O1.out.1 hL (by omega)).mono ?_
    rw [HN.out]
    rintro y w2 ⟨rfl, ho⟩
    have O2 := Lib.hid (O1.out.trans ho)
    clear ho
    go_wp2_with fail
    refine (rwrong_any _ _ _ _ _ 27 _ O2.out.1).mono ?_
    rintro y w3 ⟨rfl, ho⟩
    have O3 := Lib.hid (show RO w q L k d 27 w3 from O2.out.trans ho)
    clear ho
    go_wp2_with fail
    go_ret
    exact ⟨rfl, k, by omega, O3.out⟩
  | cons a r =>
    obtain ⟨hn, hd1, hkl⟩ := drop_head hl
    have HN := Lib.hid hn
    have HD := Lib.hid hd1
    by_cases h92 : a = 92
    · subst h92
      have c1 := H.out.c1
      cases r with
      | nil =>
        have hn2 := drop_none hd1
        have HN2 := Lib.hid hn2
        clear hl hn hd1 hn2 c1
        show Calls _ _ _ w fun y w' => y = .returned (.int .i64 0) ∧ ∃ k', k' ≤ k + 2 ∧ RO w q L k' d 27 w'
        go_enter Tryd.func80, Tryd.ntmps80
        go_wp2_with fail
        refine (rnext_any _ _ _ _ _ _ H.out hL (by omega)).mono ?_
        rw [HN.out]
        rintro y w1 ⟨rfl, ho⟩
        have O1 := Lib.hid ho
        have c1 := ho.1.c1
        have f1 := ho.1.f1
        have O2 := Lib.hid (show RO w q L (k + 1) d 0 (w1.setCell ⟨q, 1, none⟩ (.int .i64 ((k : Int) + 1))) from ⟨ho.1.setK (k + 1) _ (by omega), ho.2.trans (go1_set 1 _)⟩)
        clear ho
        go_wp2_with fail
        refine (rnext_any _ _ _ _ _ _ O2.out.1 hL (by omega)).mono ?_
        rw [HN2.out]
        rintro y w2 ⟨rfl, ho⟩
        have O3 := Lib.hid (O2.out.trans ho)
        clear ho
        go_wp2_with fail
        refine (rwrong_any _ _ _ _ _ 27 _ O3.out.1).mono ?_
        rintro y w3 ⟨rfl, ho⟩
        have O4 := Lib.hid (show RO w q L (k + 1) d 27 w3 from O3.out.trans ho)
        clear ho
        go_wp2_with fail
        go_ret
        exact ⟨rfl, k + 1, by omega, O4.out⟩
      | cons b s =>
        obtain ⟨hn2, hd2, _⟩ := drop_head hd1
        have HN2 := Lib.hid hn2
        have HD2 := Lib.hid hd2
        have hb := b.toNat_lt
        have hb0 : ¬ (b.toNat : Int) < 0 := by omega
        clear hl hn hd1 hn2 hd2 c1
        show Calls _ _ _ w fun y w' => y = .returned (.int .i64 (b.toNat : Int)) ∧ ∃ k', L.drop k' = s ∧ k' ≤ k + 2 ∧ RO w q L k' d 0 w'
        go_enter Tryd.func80, Tryd.ntmps80
        go_wp2_with fail
        refine (rnext_any _ _ _ _ _ _ H.out hL (by omega)).mono ?_
        rw [HN.out]
        rintro y w1 ⟨rfl, ho⟩
        have c1 := ho.1.c1
        have f1 := ho.1.f1
        have O2 := Lib.hid (show RO w q L (k + 1) d 0 (w1.setCell ⟨q, 1, none⟩ (.int .i64 ((k : Int) + 1))) from ⟨ho.1.setK (k + 1) _ (by omega), ho.2.trans (go1_set 1 _)⟩)
        clear ho
        go_wp2_with fail
        refine (rnext_any _ _ _ _ _ _ O2.out.1 hL (by omega)).mono ?_
        rw [HN2.out]
        rintro y w2 ⟨rfl, ho⟩
        obtain ⟨K, hK⟩ : ∃ K, k + 1 = K := ⟨_, rfl⟩
        have HK := Lib.hid hK
        rw [hK] at ho
        have O3 := Lib.hid (O2.out.trans (hK ▸ ho))
        have c1 := ho.1.c1
        have f1 := ho.1.f1
        have hKb : K ≤ 200000 := by omega
        have O4 := Lib.hid (show RO w q L (K + 1) d 0 (w2.setCell ⟨q, 1, none⟩ (.int .i64 ((K : Int) + 1))) from ⟨ho.1.setK (K + 1) _ (by omega), (O2.out.2.trans ho.2).trans (go1_set 1 _)⟩)
        clear ho hK
        go_wp2_with fail
        go_ret
        exact ⟨rfl, K + 1, by rw [← HK.out]; exact HD2.out, by have := HK.out; omega, O4.out⟩
    · have e1 : memF (a :: r) = some (a, r) := by simp [memF, h92]
      rw [e1]
      have ha := a.toNat_lt
      have hb : ((a.toNat : Int) == 92) = false := by
        simp
        exact fun h => h92 (u8_eq (by rw [show ((92 : UInt8).toNat) = 92 from rfl]; omega))
      have ha0 : ¬ (a.toNat : Int) < 0 := by omega
      clear h92 e1 hl hn hd1
      show Calls _ _ _ w fun y w' => y = .returned (.int .i64 (a.toNat : Int)) ∧ ∃ k', L.drop k' = r ∧ k' ≤ k + 2 ∧ RO w q L k' d 0 w'
      go_enter Tryd.func80, Tryd.ntmps80
      go_wp2_with fail
      refine (rnext_any _ _ _ _ _ _ H.out hL (by omega)).mono ?_
      rw [HN.out]
      rintro y w1 ⟨rfl, ho⟩
      have O1 := Lib.hid ho
      clear ho
      go_wp2_with fail
      refine (rnext_any _ _ _ _ _ _ O1.out.1 hL (by omega)).mono ?_
      rw [HN.out]
      rintro y w2 ⟨rfl, ho⟩
      have c1 := ho.1.c1
      have f1 := ho.1.f1
      have O4 := Lib.hid (show RO w q L (k + 1) d 0 (w2.setCell ⟨q, 1, none⟩ (.int .i64 ((k : Int) + 1))) from ⟨ho.1.setK (k + 1) _ (by omega), (O1.out.2.trans ho.2).trans (go1_set 1 _)⟩)
      clear ho
      go_wp2_with fail
      go_ret
      exact ⟨rfl, k + 1, HD.out, by omega, O4.out⟩
end Go.Proofs.YtnabfganecghkaaDoor
