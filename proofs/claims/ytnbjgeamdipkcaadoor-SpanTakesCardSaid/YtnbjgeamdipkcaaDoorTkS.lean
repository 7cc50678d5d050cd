/- What span.Take's memory holds, step by step. -/
import Derived.Test.YtnbjgeamdipkcaaDoorTkP
import Derived.Test.YtnbjgeamdipkcaaDoorSpV
namespace Go.Proofs.YtnbjgeamdipkcaaDoor
open Go.RowKit
set_option linter.unusedVariables false

theorem own_abide {w w' : World} {B : Nat} {e : TypeId} {size n : Nat} {v : Value} {xs : List Value} (h : w.ownsRow B e size v n xs) (hb : ∀ k, v.ownBlock = some k → w'.heap[k]? = w.heap[k]?) : w'.ownsRow B e size v n xs := by
  rcases h.2 with h1 | ⟨g, cap, cur, hv, hB, hh, r⟩
  · exact ⟨h.1, .inl h1⟩
  · exact ⟨h.1, .inr ⟨g, cap, cur, hv, hB, (hb g (by rw [hv]; rfl)).trans hh, r⟩⟩
theorem Rd.elsewhere {w w' : World} {B q l c : Nat} {a : Option Addr} {bs : List Nat} {s : Nat × Int} (h : Rd w q a l c bs s) (hlt : 0 < l → ∀ r o, a = some ⟨r, o, none⟩ → r < B) (hq : q < B) (hb : Below B w w') : Rd w' q a l c bs s := by
  have hc : ∀ (r j : Nat), r < B → w'.cell? ⟨r, j, none⟩ = w.cell? ⟨r, j, none⟩ := fun r j hr => hb.cell (p := ⟨r, j, none⟩) hr
  have hf : ∀ (r j : Nat), r < B → w'.frozen? ⟨r, j, none⟩ = w.frozen? ⟨r, j, none⟩ := fun r j hr => by unfold World.frozen?; rw [hb.block r hr]
  refine ⟨Nat.lt_of_lt_of_le h.qw hb.size, (hc _ _ hq).trans h.c0, (hc _ _ hq).trans h.c1, (hc _ _ hq).trans h.c2, (hf _ _ hq).trans h.f1, (hf _ _ hq).trans h.f2, h.len, h.byte, fun h0 => ?_, h.tl, h.lb⟩
  obtain ⟨r, o, e, hr, hcc⟩ := h.lies h0
  exact ⟨r, o, e, hr, fun j b hj => (hc _ _ (hlt h0 r o e)).trans (hcc j b hj)⟩
theorem Step.more {q : Nat} {w wr wr' : World} (h : Step q none w wr) (hb : Below w.heap.size wr wr') : Step q none w wr' :=
  ⟨hb.os.trans h.os, hb.tape.trans h.tape, hb.output.trans h.output, Nat.le_trans h.size hb.size, fun k hk hq hn => (hb.block k hk).trans (h.block k hk hq hn)⟩

/-- between two rounds -/
structure LSt (w wr : World) (q : Nat) (a : Option Addr) (l c : Nat) (bs : List Nat) (s : Nat × Int) (f : Int) (A : Option Addr) (d : Nat) (L : List (Int × Int)) : Prop where
  rd : Rd wr q a l c bs s
  box : wr.heap[w.heap.size + 1]? = some (.cells #[.int .i64 f, .slice A L.length d] 29 (0, 0))
  own : wr.ownsRow (w.heap.size + 2) 44 2 (.slice A L.length d) L.length (twoC .i64 L)
  res : wr.heap[w.heap.size]? = some (.cells #[.int .i64 0, .slice none 0 0] 29 (0, 0))
  step : Step q none w wr
  qlt : q < w.heap.size
  src : 0 < l → ∀ r o, a = some ⟨r, o, none⟩ → r < w.heap.size
/-- within a round: the run under way at gS -/
structure TSt (w wr : World) (gS q : Nat) (a : Option Addr) (l c : Nat) (bs : List Nat) (s : Nat × Int) (f : Int) (A : Option Addr) (d : Nat) (L : List (Int × Int)) (o n : Int) : Prop where
  rest : LSt w wr q a l c bs s f A d L
  sbox : wr.heap[gS]? = some (.cells #[.int .i64 o, .int .i64 n] 44 (0, 0))
  ks : ∀ k, (Value.slice A L.length d).ownBlock = some k → k < gS
  gs : w.heap.size + 2 ≤ gS

section
variable {w wr : World} {gS q : Nat} {a : Option Addr} {l c : Nat} {bs : List Nat} {s : Nat × Int} {f : Int} {A : Option Addr} {d : Nat} {L : List (Int × Int)} {o n : Int}
theorem LSt.begin (h : LSt w wr q a l c bs s f A d L) : TSt w (wr.alloc (.cells #[.int .i64 0, .int .i64 0] 44)) wr.heap.size q a l c bs s f A d L 0 0 := by
  have hlt : w.heap.size + 1 < wr.heap.size := (Array.getElem?_eq_some_iff.1 h.box).1
  have hb : Below w.heap.size wr (wr.alloc (.cells #[.int .i64 0, .int .i64 0] 44)) := (Below.refl _ _).alloc (by omega) _
  refine ⟨⟨h.rd.elsewhere h.src h.qlt hb, ?_, h.own.alloc _, ?_, h.step.more hb, h.qlt, h.src⟩, heap_alloc_new _ _, fun k hk => (h.own.lt k hk).2, by omega⟩
  · rw [Below.heap_alloc _ _ _ hlt]; exact h.box
  · rw [Below.heap_alloc _ _ _ (by omega)]; exact h.res
theorem TSt.lt (h : TSt w wr gS q a l c bs s f A d L o n) : gS < wr.heap.size ∧ w.heap.size + 2 ≤ gS := ⟨(Array.getElem?_eq_some_iff.1 h.sbox).1, h.gs⟩
/-- a reader's call -/
theorem TSt.call (h : TSt w wr gS q a l c bs s f A d L o n) {wr' : World} {s' : Nat × Int} (hr : Rd wr' q a l c bs s') (st : Step q none wr wr') : TSt w wr' gS q a l c bs s' f A d L o n := by
  obtain ⟨h1, h2⟩ := h.lt
  have hq := h.rest.qlt
  have hb : ∀ k, w.heap.size ≤ k → k < wr.heap.size → wr'.heap[k]? = wr.heap[k]? := fun k hk hl => st.block k hl (by omega) (by simp)
  refine ⟨⟨hr, ?_, ?_, ?_, h.rest.step.trans0 st, hq, h.rest.src⟩, ?_, h.ks, h.gs⟩
  · rw [hb _ (by omega) (by omega)]; exact h.rest.box
  · exact own_abide h.rest.own fun k hk => hb k (by have := (h.rest.own.lt k hk).1; omega) (h.rest.own.lt k hk).2
  · rw [hb _ (by omega) (by omega)]; exact h.rest.res
  · rw [hb _ (by omega) (by omega)]; exact h.sbox
theorem TSt.putF (h : TSt w wr gS q a l c bs s f A d L o n) (x : Int) : TSt w (wr.setCell ⟨w.heap.size + 1, 0, none⟩ (.int .i64 x)) gS q a l c bs s x A d L o n := by
  obtain ⟨h1, h2⟩ := h.lt
  have hb : Below w.heap.size wr (wr.setCell ⟨w.heap.size + 1, 0, none⟩ (.int .i64 x)) := (Below.refl _ _).setCell (by simp) _
  refine ⟨⟨h.rest.rd.elsewhere h.rest.src h.rest.qlt hb, ?_, ?_, ?_, h.rest.step.more hb, h.rest.qlt, h.rest.src⟩, ?_, h.ks, h.gs⟩
  · rw [heap_set_at h.rest.box]; rfl
  · exact ownsRow_setCell_below h.rest.own (a := ⟨w.heap.size + 1, 0, none⟩) (by simp) _
  · rw [Below.heap_setCell _ _ _ _ (by simp)]; exact h.rest.res
  · rw [Below.heap_setCell _ _ _ _ (by simp; omega)]; exact h.sbox
theorem TSt.put (h : TSt w wr gS q a l c bs s f A d L o n) (i : Nat) (x o' n' : Int) (hx : (#[Value.int .i64 o, .int .i64 n] : Array Value).setIfInBounds i (.int .i64 x) = #[.int .i64 o', .int .i64 n']) : TSt w (wr.setCell ⟨gS, i, none⟩ (.int .i64 x)) gS q a l c bs s f A d L o' n' := by
  obtain ⟨h1, h2⟩ := h.lt
  have hb : Below w.heap.size wr (wr.setCell ⟨gS, i, none⟩ (.int .i64 x)) := (Below.refl _ _).setCell (by simp; omega) _
  refine ⟨⟨h.rest.rd.elsewhere h.rest.src h.rest.qlt hb, ?_, ?_, ?_, h.rest.step.more hb, h.rest.qlt, h.rest.src⟩, ?_, h.ks, h.gs⟩
  · rw [Below.heap_setCell _ _ _ _ (by simp; omega)]; exact h.rest.box
  · exact own_abide h.rest.own fun k hk => Below.heap_setCell _ _ _ _ (by have := h.ks k hk; simp; omega)
  · rw [Below.heap_setCell _ _ _ _ (by simp; omega)]; exact h.rest.res
  · rw [heap_set_at h.sbox, hx]
theorem TSt.next {w2 : World} {A2 : Option Addr} {d2 : Nat} {ob : Obj} (h : TSt w wr gS q a l c bs s f A d L o n)
    (ho : w2.ownsRow (w.heap.size + 2) 44 2 (.slice A2 (L.length + 1) d2) (L.length + 1) (twoC .i64 (L ++ [(o, n)]))) (hg : (wr.alloc ob).grownBy w2 (Value.slice A L.length d).ownBlock) :
    LSt w (w2.setCell ⟨w.heap.size + 1, 1, none⟩ (.slice A2 (L.length + 1) d2)) q a l c bs s f A2 d2 (L ++ [(o, n)]) := by
  obtain ⟨h1, h2⟩ := h.lt
  have hrow : ∀ k, (Value.slice A L.length d).ownBlock = some k → w.heap.size + 2 ≤ k := fun k hk => (h.rest.own.lt k hk).1
  have e1 : ∀ j, j ≤ w.heap.size + 1 → w2.heap[j]? = wr.heap[j]? := fun j hj => by
    rw [hg.block j (by simp; omega) (fun e => by have := hrow j e.symm; omega), Below.heap_alloc _ _ _ (by omega)]
  have hb : Below w.heap.size wr (w2.setCell ⟨w.heap.size + 1, 1, none⟩ (.slice A2 (L.length + 1) d2)) :=
    ((((Below.refl _ _).alloc (by omega) ob).grown hg (by simp; omega) (fun k hk => by have := hrow k hk; omega))).setCell (by simp) _
  have hlen : (L ++ [(o, n)]).length = L.length + 1 := by simp
  refine ⟨h.rest.rd.elsewhere h.rest.src h.rest.qlt hb, ?_, ?_, ?_, h.rest.step.more hb, h.rest.qlt, h.rest.src⟩
  · rw [heap_set_at ((e1 _ (Nat.le_refl _)).trans h.rest.box), hlen]; rfl
  · rw [hlen]; exact ownsRow_setCell_below ho (a := ⟨w.heap.size + 1, 1, none⟩) (by simp) _
  · rw [Below.heap_setCell _ _ _ _ (by simp), e1 _ (by omega)]; exact h.rest.res
end

/-- the text so far -/
def TxT (bs : List Nat) (n : Nat) (f : Int) (L : List (Int × Int)) (u : Nat) : Prop := sub bs 0 u = codeL n ++ (if L = [] then [] else codeL (zigv f).toNat ++ restL 0 L)
theorem zag_code (m : Nat) : (zigv (zagv (m : Int))).toNat = m := by rw [zig_zag _ (by omega)]; omega
theorem TxT.first {bs : List Nat} {n u u1 u2 m v : Nat} {f : Int} (h : TxT bs n f [] u) (h1 : u ≤ u1) (h2 : u1 ≤ u2) (e1 : sub bs u u1 = codeL m) (e2 : sub bs u1 u2 = codeL v) : TxT bs n (zagv (m : Int)) [(0, (v : Int) + 1)] u2 := by
  unfold TxT at h ⊢
  rw [if_pos rfl, List.append_nil] at h
  rw [if_neg (by simp), sub_append bs (Nat.zero_le u) (Nat.le_trans h1 h2), h, sub_append bs h1 h2, e1, e2, zag_code]
  simp only [restL, Nat.lt_irrefl, if_false, List.nil_append, List.append_nil]
  rw [show ((v : Int) + 1 - 1).toNat = v by omega]
theorem TxT.more {bs : List Nat} {n u u1 u2 x v : Nat} {f : Int} {L : List (Int × Int)} (h : TxT bs n f L u) (hL : L ≠ []) (h1 : u ≤ u1) (h2 : u1 ≤ u2) (e1 : sub bs u u1 = codeL x) (e2 : sub bs u1 u2 = codeL v) : TxT bs n f (L ++ [((x : Int) + 1, (v : Int) + 1)]) u2 := by
  unfold TxT at h ⊢
  rw [if_neg hL] at h
  have hlen : 0 < L.length := List.length_pos_iff.2 hL
  rw [if_neg (by simp), sub_append bs (Nat.zero_le u) (Nat.le_trans h1 h2), h, sub_append bs h1 h2, e1, e2, restL_snoc, Nat.zero_add, if_pos hlen]
  rw [show ((v : Int) + 1 - 1).toNat = v by omega, show ((x : Int) + 1 - 1).toNat = x by omega]
  simp only [List.append_assoc]
end Go.Proofs.YtnbjgeamdipkcaaDoor
