/- The document's row: parts and signs, all together. -/
import Derived.Test.YtnabfganecghkaaDoorRrH
namespace Go.Proofs.YtnabfganecghkaaDoor
open Go.RowKit
set_option linter.unusedVariables false

theorem own_lies {w : World} {B n c : Nat} {e : TypeId} {A : Option Addr} {C : List Value} (h : w.ownsRow B e 3 (.slice A n c) n C) : Lies w (fun b => B ≤ b) A C := by
  by_cases h0 : n = 0
  · have := h.1
    rw [h0, Nat.zero_mul] at this
    exact .inl (List.eq_nil_of_length_eq_zero this)
  · obtain ⟨g, cap', hv, _, _⟩ := h.form (by omega)
    injection hv with e1 e2 e3
    subst e1
    refine .inr ⟨g, rfl, (h.lt g rfl).1, fun j v hj => ?_⟩
    have hj' : j < n * 3 := by rw [← h.1]; exact (List.getElem?_eq_some_iff.1 hj).1
    rw [h.cellAt j hj', hj]
/-- the blocks of a list's nodes but for a box -/
def KB (h : Nat) (v : Value) (b : Nat) (W : World) : Nat → Prop := fun c => KU h v W c ∧ c ≠ b
theorem KB.step {h b : Nat} {v : Value} {W W' : World} (hs : W.heap.size ≤ W'.heap.size) {nd : Nd} {V : Value} (z : NdV W' (KB h v b W) nd V) : NdV W' (KB h v b W') nd V := z.mono fun c hc _ => ⟨⟨hc.1.1, by have := hc.1.2.1; omega, hc.1.2.2⟩, hc.2⟩
theorem kb_below {W W' : World} {h b : Nat} {v : Value} {nd : Nd} {V : Value} (k : Below W.heap.size W W') (z : NdV W (KB h v b W) nd V) : NdV W' (KB h v b W') nd V := KB.step k.size (z.below k)
theorem kb_ro {w W W' : World} {q k d h n k' d' b : Nat} {L : List UInt8} {e e' : Int} {kd : ByteArray} {v : Value} {C : List Value} {nd : Nd} {V : Value} (z : KxS w q L k d e h kd v n C W) (o : RO W q L k' d' e' W') (h2 : NdV W (KB h v b W) nd V) : NdV W' (KB h v b W') nd V :=
  KB.step o.2.size (h2.go o.2 fun b hb => by have := hb.1.1; have := z.p.hq; omega)
theorem kb_set {W : World} {h b : Nat} {v : Value} {nd : Nd} {V : Value} (z : NdV W (KB h v b W) nd V) (i : Nat) (u : Value) : NdV (W.setCell ⟨b, i, none⟩ u) (KB h v b (W.setCell ⟨b, i, none⟩ u)) nd V :=
  KB.step (by simp) (z.other (a := ⟨b, i, none⟩) (fun c hc => hc.2) u)
theorem kb_of {W : World} {h b : Nat} {v : Value} {nd : Nd} {V : Value} (z : NdV W (KU h v W) nd V) (hb : W.heap.size ≤ b) : NdV W (KB h v b W) nd V := z.mono fun c hc _ => ⟨hc, by have := hc.2.1; omega⟩
/-- the place in hand: its box, its node, the row's list -/
structure SgS (w : World) (q : Nat) (L : List UInt8) (k d : Nat) (e : Int) (h : Nat) (v : Value) (n : Nat) (C : List Value) (b : Nat) (kd : ByteArray) (hs ks : Value) (W : World) : Prop where
  z : KxS w q L k d e h rowB v n C W
  nb : Nb W b kd hs ks
  hb : h + 2 ≤ b
  hv : v.ownBlock ≠ some b
theorem SgS.step {w W W' : World} {q k d h k' d' n b : Nat} {L : List UInt8} {e e' : Int} {kd : ByteArray} {v hs ks : Value} {C : List Value} (z : SgS w q L k d e h v n C b kd hs ks W) (o : RO W q L k' d' e' W') : SgS w q L k' d' e' h v n C b kd hs ks W' :=
  ⟨z.z.step o, z.nb.go o.2 (by have := z.z.p.hq; have := z.hb; omega), z.hb, z.hv⟩
theorem SgS.incK {w W : World} {q k d h n b : Nat} {L : List UInt8} {e : Int} {kd : ByteArray} {v hs ks : Value} {C : List Value} (z : SgS w q L k d e h v n C b kd hs ks W) : SgS w q L (k + 1) d e h v n C b kd hs ks (W.setCell ⟨q, 1, none⟩ (.int .i64 ((k : Int) + 1))) :=
  z.step ⟨z.z.p.ro.1.setK (k + 1) _ (by omega), go1_set 1 _⟩
theorem SgS.below {w W W' : World} {q k d h n b : Nat} {L : List UInt8} {e : Int} {kd : ByteArray} {v hs ks : Value} {C : List Value} (z : SgS w q L k d e h v n C b kd hs ks W) (bl : Below W.heap.size W W') : SgS w q L k d e h v n C b kd hs ks W' :=
  z.step ⟨z.z.p.ro.1.below bl, Go1.of_below bl⟩
/-- behind a sign: the node in hand lies in a new list -/
theorem SgS.sign {w W W' : World} {q k d h n b : Nat} {L : List UInt8} {e : Int} {kd kd2 : ByteArray} {v hs ks : Value} {C : List Value} (z : SgS w q L k d e h v n C b kd hs ks W) {lst nd : Nd} (hl : NdV W (KB h v b W) lst (.agg C.toArray)) (hn : NdV W (KB h v b W) nd (.agg #[.string kd, hs, ks])) (hN : isN nd = true)
    (hW : (((W.alloc (.cells #[.string kd, hs, ks] 60 (0, 0))).setCell ⟨b, 0, none⟩ (.string kd2)).setCell ⟨b, 1, none⟩ nvo).setCell ⟨b, 2, none⟩ (.slice (some ⟨W.heap.size, 0, none⟩) 1 1) = W') :
    SgS w q L k d e h v n C b kd2 nvo (.slice (some ⟨W.heap.size, 0, none⟩) 1 1) W' ∧ NdV W' (KB h v b W') lst (.agg C.toArray) ∧
    (∃ D A c, Value.agg #[.string kd2, nvo, .slice (some ⟨W.heap.size, 0, none⟩) 1 1] = .agg #[.string kd2, nvo, .slice A 1 c] ∧ isL (.snoc .nil nd) = true ∧ D.length = 3 ∧ Lies W' (KB h v b W') A D ∧ NdV W' (KB h v b W') (.snoc .nil nd) (.agg D.toArray)) := by
  have hbw := z.nb.hw
  have hA : Below W.heap.size W (W.alloc (.cells #[.string kd, hs, ks] 60 (0, 0))) := (Below.refl _ _).alloc (Nat.le_refl _) _
  have hl' := kb_set (kb_set (kb_set (kb_below hA hl) 0 (.string kd2)) 1 nvo) 2 (.slice (some ⟨W.heap.size, 0, none⟩) 1 1)
  have hn' := kb_set (kb_set (kb_set (kb_below hA hn) 0 (.string kd2)) 1 nvo) 2 (.slice (some ⟨W.heap.size, 0, none⟩) 1 1)
  have z1 := z.z.alloc (.cells #[.string kd, hs, ks] 60 (0, 0))
  have z4 := ((z1.other z.hb z.hv 0 (.string kd2)).other z.hb z.hv 1 nvo).other z.hb z.hv 2 (.slice (some ⟨W.heap.size, 0, none⟩) 1 1)
  have nb1 : Nb (W.alloc (.cells #[.string kd, hs, ks] 60 (0, 0))) b kd hs ks := z.nb.below hA
  have nb4 : Nb W' b kd2 nvo (.slice (some ⟨W.heap.size, 0, none⟩) 1 1) := by
    refine ⟨by rw [← hW]; simp; omega, ?_⟩
    rw [← hW, heap_set_at (heap_set_at (heap_set_at nb1.blk _) _) _]
    rfl
  have hgb : (W').heap[W.heap.size]? = some (.cells #[.string kd, hs, ks] 60 (0, 0)) := by
    rw [← hW, Below.heap_setCell _ _ _ _ (by show W.heap.size ≠ b; omega), Below.heap_setCell _ _ _ _ (by show W.heap.size ≠ b; omega), Below.heap_setCell _ _ _ _ (by show W.heap.size ≠ b; omega)]
    exact heap_alloc_new W _
  rw [hW] at hl' hn' z4
  refine ⟨⟨z4, nb4, z.hb, z.hv⟩, hl', [.string kd, hs, ks], _, _, rfl, by simp [isL, hN], rfl, .inr ⟨W.heap.size, rfl, ⟨⟨by have := z.hb; omega, by rw [← hW]; simp, fun e => by have := (z.z.own.lt _ e).2; omega⟩, by omega⟩, ?_⟩, nd_snoc (C := []) rfl hn'⟩
  intro j u hj
  rw [cell_of_row _ _ _ _ _ _ hgb, ← hj]
  match j, hj with
  | 0, _ => rfl
  | 1, _ => rfl
  | 2, _ => rfl
  | j + 3, hj => simp at hj
/-- what a row says behind each round -/
def RwI (n D : Nat) (L l0 : List UInt8) (h : Nat) (v : Value) (C : List Value) (nn k d : Nat) (e : Int) (wr : World) : Prop :=
  (e = 0 ∧ d = D ∧ k ≤ L.length + 5 ∧ ∃ x l m lst, (∀ o, patF n D o .eps l0 = patF m D o x l) ∧ l.length < m ∧ m ≤ n ∧ L.drop k = l ∧ nn + l.length ≤ l0.length ∧ isL lst = true ∧ NdV wr (KU h v wr) lst (.agg C.toArray) ∧ ∀ s, (Ln lst).1 s ↔ Lang x s) ∨
  (e ≠ 0 ∧ ∀ o, patF n D o .eps l0 = .err e)
def RrwRel (n D : Nat) (L l0 : List UInt8) (w : World) (q h : Nat) (wr : World) : Prop :=
  ∃ A c nn C k d e, KxS w q L k d e h rowB (.slice A nn c) nn C wr ∧ k ≤ 80 + 10 * n ∧ D ≤ d ∧ d ≤ D + 1 ∧ nn ≤ 70 ∧ Hid (RwI n D L l0 h (.slice A nn c) C nn k d e wr)
/-- what a row leaves -/
def RwO (n D : Nat) (L l0 : List UInt8) (w w' : World) (V : Value) (k d : Nat) (e : Int) : Prop :=
  (e = 0 ∧ d = D ∧ k ≤ L.length + 5 ∧ ∃ x l m nd, (∀ o, patF n D o .eps l0 = patF m D o x l) ∧ l.length < m ∧ m ≤ n ∧ L.drop k = l ∧ l.length ≤ l0.length ∧ stopF l ∧ isN nd = true ∧ NdV w' (fun b => w.heap.size ≤ b) nd V ∧ ∀ s, (Ln nd).1 s ↔ Lang x s) ∨
  (e ≠ 0 ∧ ∀ o, patF n D o .eps l0 = .err e)
def RrwP (n D : Nat) (L l0 : List UInt8) (w : World) (q : Nat) (y : Ending) (w' : World) : Prop :=
  ∃ kd hs ks k d e, y = .returned (.agg #[.string kd, hs, ks]) ∧ IsS hs ∧ IsS ks ∧ RO w q L k d e w' ∧ k ≤ 80 + 10 * n ∧ D ≤ d ∧ d ≤ D + 1 ∧ Hid (RwO n D L l0 w w' (.agg #[.string kd, hs, ks]) k d e)
theorem rw_end {n D h q nn k d c : Nat} {L l0 : List UInt8} {w W : World} {A : Option Addr} {C : List Value} {e : Int} (z : KxS w q L k d e h rowB (.slice A nn c) nn C W) (hi : RwI n D L l0 h (.slice A nn c) C nn k d e W) (hst : e = 0 → stopF (L.drop k)) (u0 u1 u2 : Value) (hnn : nn ≤ 70) :
    RwO n D L l0 w (((W.setCell ⟨h, 0, none⟩ u0).setCell ⟨h, 1, none⟩ u1).setCell ⟨h, 2, none⟩ u2) (.agg #[.string rowB, nvo, .slice A nn c]) k d e := by
  rcases hi with ⟨h1, h2, h3, x, l, m, lst, h4, h5, h6, h7, h8, h9, h10, h11⟩ | h
  · refine .inl ⟨h1, h2, h3, x, l, m, .row lst, h4, h5, h6, h7, by omega, by rw [← h7]; exact hst h1, rfl, NdV.fin z.p.hs _ _ _ ?_, h11⟩
    exact ⟨C, A, nn, c, rfl, h9, ⟨z.own.1, by omega⟩, (own_lies z.own).keep fun b i v hb hv => ⟨hv, by omega⟩, h10.mono fun b hb _ => by have := hb.1; omega⟩
  · exact .inr h
def SgI (n D m : Nat) (L l0 r : List UInt8) (x : Rx) (R : Res) (h : Nat) (v : Value) (b : Nat) (C : List Value) (k d : Nat) (e : Int) (V : Value) (wr : World) : Prop :=
  (e = 0 ∧ d = D ∧ k ≤ L.length + 5 ∧ ∃ y0 l y nd lst, R = .ok y0 l ∧ signs y0 l = signs y (L.drop k) ∧ (L.drop k).length ≤ r.length ∧ isN nd = true ∧ NdV wr (KB h v b wr) nd V ∧ (∀ s, (Ln nd).1 s ↔ Lang y s) ∧ isL lst = true ∧ NdV wr (KB h v b wr) lst (.agg C.toArray) ∧ ∀ s, (Ln lst).1 s ↔ Lang x s) ∨
  (e ≠ 0 ∧ R = .err e)
def SgRel (n D m : Nat) (L l0 r : List UInt8) (x : Rx) (R : Res) (w : World) (q h : Nat) (v : Value) (nn b : Nat) (C : List Value) (wr : World) : Prop :=
  ∃ kd a1 n1 m1 a2 n2 m2 k d e, SgS w q L k d e h v nn C b kd (.slice a1 n1 m1) (.slice a2 n2 m2) wr ∧ k ≤ 80 + 10 * n ∧ D ≤ d ∧ d ≤ D + 1 ∧ Hid (SgI n D m L l0 r x R h v b C k d e (.agg #[.string kd, .slice a1 n1 m1, .slice a2 n2 m2]) wr)
/-- a dead or a living part's node comes to the list -/
theorem rw_push {n D m h q nn k d c b n1 m1 n2 m2 : Nat} {L l0 r : List UInt8} {w W W0 W1 : World} {A a1 a2 : Option Addr} {C : List Value} {e : Int} {x : Rx} {R : Res} {kd : ByteArray} {v' : Value}
    (z : SgS w q L k d e h (.slice A nn c) nn C b kd (.slice a1 n1 m1) (.slice a2 n2 m2) W) (hi : SgI n D m L l0 r x R h (.slice A nn c) b C k d e (.agg #[.string kd, .slice a1 n1 m1, .slice a2 n2 m2]) W) (hst : e = 0 → ∀ y, signs y (L.drop k) = (y, L.drop k))
    (hA : Below W.heap.size W W0) (hg : W0.grownBy W1 (Value.slice A nn c).ownBlock) (ho : Own (.slice A nn c) v' W0)
    (hON : ∀ o, patF n D o .eps l0 = match partF R with
      | .err e => .err e
      | .ok y q2 => patF m D o (.cat x y) q2) (hm : r.length < m) (hmn : m ≤ n) (hl0 : nn + (r.length + 1) ≤ l0.length) :
    RwI n D L l0 h v' (C ++ [.string kd, .slice a1 n1 m1, .slice a2 n2 m2]) (nn + 1) k d e (W1.setCell ⟨h + 1, 2, none⟩ v') := by
  rcases hi with ⟨h1, h2, h3, y0, l, y, nd, lst, h4, h5, h6, h7, h8, h9, h10, h11, h12⟩ | ⟨h1, h2⟩
  · have z0 := z.z.below hA
    have k8 := kids_pushed z0 hg ho ((kb_below hA h8).mono fun b hb _ => hb.1)
    have k11 := kids_pushed z0 hg ho ((kb_below hA h11).mono fun b hb _ => hb.1)
    rw [hst h1 y] at h5
    refine .inl ⟨h1, h2, h3, .cat x y, L.drop k, m, .snoc lst nd, fun o => ?_, by omega, hmn, rfl, by omega, by simp [isL, h7, h10], nd_snoc k11 k8, fun s => ?_⟩
    · rw [hON o, h4]
      show patF m D o (.cat x (signs y0 l).1) (signs y0 l).2 = _
      rw [h5]
    · constructor
      · rintro ⟨u, v, g1, g2, g3⟩; exact ⟨u, v, g1, (h12 u).1 g2, (h9 v).1 g3⟩
      · rintro ⟨u, v, g1, g2, g3⟩; exact ⟨u, v, g1, (h12 u).2 g2, (h9 v).2 g3⟩
  · refine .inr ⟨h1, fun o => ?_⟩
    rw [hON o, h2]
    rfl
theorem many_congr {a b : Bs → Prop} (h : ∀ s, a s ↔ b s) (s : Bs) : Many a s ↔ Many b s := by
  have e : a = b := funext fun s => propext (h s)
  rw [e]
theorem one_ln {nd : Nd} {y : Rx} (h : ∀ s, (Ln nd).1 s ↔ Lang y s) (s : Bs) : (Ln (.snoc .nil nd)).2 s ↔ Lang y s := by
  show (False ∨ (Ln nd).1 s) ↔ _
  rw [← h s]
  simp
theorem ln_star {nd : Nd} {y : Rx} (h : ∀ s, (Ln nd).1 s ↔ Lang y s) (s : Bs) : (Ln (.star (.snoc .nil nd))).1 s ↔ Lang (.star y) s := many_congr (one_ln h) s
theorem ln_plus {nd : Nd} {y : Rx} (h : ∀ s, (Ln nd).1 s ↔ Lang y s) (s : Bs) : (Ln (.plus (.snoc .nil nd))).1 s ↔ Lang (.plus y) s := by
  constructor
  · rintro ⟨u, v, h1, h2, h3⟩; exact ⟨u, v, h1, (one_ln h u).1 h2, (many_congr (one_ln h) v).1 h3⟩
  · rintro ⟨u, v, h1, h2, h3⟩; exact ⟨u, v, h1, (one_ln h u).2 h2, (many_congr (one_ln h) v).2 h3⟩
theorem ln_opt {nd : Nd} {y : Rx} (h : ∀ s, (Ln nd).1 s ↔ Lang y s) (s : Bs) : (Ln (.opt (.snoc .nil nd))).1 s ↔ Lang (.opt y) s := by
  show (s = [] ∨ (Ln (.snoc .nil nd)).2 s) ↔ (s = [] ∨ Lang y s)
  rw [one_ln h s]
theorem drew_ro {W : World} {q k d : Nat} {L : List UInt8} {e : Int} (p : Rr W q L k d e) : RO W q L k d e W.drew := ⟨⟨p.qw, p.c0, p.c1, p.c2, p.c3, p.f1, p.f2, p.f3⟩, (Go1.refl _ _ _).drew⟩
/-- behind a sign, its byte passed -/
theorem sg_next {n D m : Nat} {L l0 r l2 : List UInt8} {x : Rx} {R : Res} {w W W' : World} {q h nn b k d : Nat} {v hs ks : Value} {C : List Value} {kd kd2 : ByteArray} {c : UInt8} (mk : Nd → Nd) (mkx : Rx → Rx)
    (z : SgS w q L k d 0 h v nn C b kd hs ks W) (hi : SgI n D m L l0 r x R h v b C k d 0 (.agg #[.string kd, hs, ks]) W) (hd : L.drop k = c :: l2) (hkL : k < L.length) (hsg : ∀ y, signs y (c :: l2) = signs (mkx y) l2) (hN : ∀ l, isN (mk l) = true)
    (hnv : ∀ (W : World) (U : Nat → Prop) (l : Nd) (V : Value), (∃ C A c, V = .agg #[.string kd2, nvo, .slice A 1 c] ∧ isL l = true ∧ C.length = 3 ∧ Lies W U A C ∧ NdV W U l (.agg C.toArray)) → NdV W U (mk l) V)
    (hL : ∀ (nd : Nd) (y : Rx), (∀ s, (Ln nd).1 s ↔ Lang y s) → ∀ s, (Ln (mk (.snoc .nil nd))).1 s ↔ Lang (mkx y) s)
    (hW : (((W.alloc (.cells #[.string kd, hs, ks] 60 (0, 0))).setCell ⟨b, 0, none⟩ (.string kd2)).setCell ⟨b, 1, none⟩ nvo).setCell ⟨b, 2, none⟩ (.slice (some ⟨W.heap.size, 0, none⟩) 1 1) = W') :
    (W'.cell? ⟨q, 1, none⟩ = some (.int .i64 (k : Int)) ∧ W'.frozen? ⟨q, 1, none⟩ = false) ∧
    SgS w q L (k + 1) d 0 h v nn C b kd2 nvo (.slice (some ⟨W.heap.size, 0, none⟩) 1 1) (W'.setCell ⟨q, 1, none⟩ (.int .i64 ((k : Int) + 1))).drew ∧
    SgI n D m L l0 r x R h v b C (k + 1) d 0 (.agg #[.string kd2, nvo, .slice (some ⟨W.heap.size, 0, none⟩) 1 1]) (W'.setCell ⟨q, 1, none⟩ (.int .i64 ((k : Int) + 1))).drew := by
  rcases hi with ⟨h1, h2, h3, y0, l, y, nd, lst, h4, h5, h6, h7, h8, h9, h10, h11, h12⟩ | ⟨h1, _⟩
  · obtain ⟨s1, s2, s3⟩ := z.sign h11 h8 h7 hW
    have o1 : RO W' q L (k + 1) d 0 (W'.setCell ⟨q, 1, none⟩ (.int .i64 ((k : Int) + 1))) := ⟨s1.z.p.ro.1.setK (k + 1) _ (by omega), go1_set 1 _⟩
    have s4 := s1.step o1
    have o2 := drew_ro s4.z.p.ro.1
    have hd2 := drop_head hd
    refine ⟨⟨s1.z.p.ro.1.c1, s1.z.p.ro.1.f1⟩, s4.step o2, .inl ⟨rfl, h2, by omega, y0, l, mkx y, mk (.snoc .nil nd), lst, h4, ?_, ?_, hN _, kb_ro s4.z o2 (kb_ro s1.z o1 (hnv _ _ _ _ s3)), hL nd y h9, h10, kb_ro s4.z o2 (kb_ro s1.z o1 s2), h12⟩⟩
    · rw [h5, hd, hsg y, hd2.2.1]
    · rw [hd2.2.1]
      rw [hd] at h6
      simp at h6
      omega
  · exact absurd rfl h1
/-- append(x, y) at []Node where nothing is drawn -/
theorem app_nd {ops : Array Oper} {rest : List Oper} {o : Oper} {a : Act} {w : World} {Q : Exit → Act → World → Prop} (hgd : o.guard = none) (s x : Operand)
    (ho : o.op = .call { callee := .builtin .append, args := #[s, x], argTypes := #[58, 58] })
    (base : Nat) (v : Value) (n : Nat) (C : List Value) (hs : a.eval s = v) (hown : w.ownsRow base 60 3 v n C)
    (g : Nat) (hx : a.eval x = .slice (some ⟨g, 0, none⟩) 1 1) (y0 y1 y2 : Value) (hy : w.cell? ⟨g, 0, none⟩ = some y0 ∧ w.cell? ⟨g, 1, none⟩ = some y1 ∧ w.cell? ⟨g, 2, none⟩ = some y2) (hone : y0.oneCell' = true ∧ y1.oneCell' = true ∧ y2.oneCell' = true) (hl : n + 1 ≤ 1000) (hbase : base ≤ w.heap.size)
    (h : ∀ v' w', w'.ownsRow base 60 3 v' (n + 1) (C ++ [y0, y1, y2]) → w.grownBy w' v.ownBlock → Own v v' w → wpList Tryd.prog ops Q rest (a.put o.dst v') w') : wpList Tryd.prog ops Q (o :: rest) a w :=
  wpList_plain hgd fun _ hK => by
    have hw : Region.wanted o (yielded ops a.tmps) = true := by simp [Region.wanted, hgd]
    have h2 := step_app_nd (ops := ops) (Q := Q) (E := True) hgd s x ho base v n C hs hown g hx y0 y1 y2 hy hone hl hbase (fun v' w' h1 h2 h3 => hK _ _ (h v' w' h1 h2 h3))
    rw [if_pos hw] at h2
    exact h2
theorem SgI.step {n D m : Nat} {L l0 r : List UInt8} {x : Rx} {R : Res} {w W W' : World} {q h nn b k d : Nat} {v : Value} {C : List Value} {e : Int} {kd : ByteArray} {hs ks V : Value} (z : SgS w q L k d e h v nn C b kd hs ks W) (o : RO W q L k d e W') (hi : SgI n D m L l0 r x R h v b C k d e V W) : SgI n D m L l0 r x R h v b C k d e V W' := by
  rcases hi with ⟨h1, h2, h3, y0, l, y, nd, lst, h4, h5, h6, h7, h8, h9, h10, h11, h12⟩ | h
  · exact .inl ⟨h1, h2, h3, y0, l, y, nd, lst, h4, h5, h6, h7, kb_ro z.z o h8, h9, h10, kb_ro z.z o h11, h12⟩
  · exact .inr h
theorem nx_byte {L : List UInt8} {k : Nat} (c : Nat) (hc : c < 256) (h : nxF L k = (c : Int)) : (∃ r, L.drop k = UInt8.ofNat c :: r) ∧ k < L.length := by
  cases hl : L.drop k with
  | nil => rw [drop_none hl] at h; omega
  | cons a r =>
    obtain ⟨h1, _, h3⟩ := drop_head hl
    rw [h1] at h
    refine ⟨⟨r, ?_⟩, h3⟩
    congr 1
    apply u8_eq
    simp
    omega
theorem sg_end {L : List UInt8} {k : Nat} {z : Int} (hz : nxF L k = z) (h : z ≠ 42 ∧ z ≠ 43 ∧ z ≠ 63) (y : Rx) : signs y (L.drop k) = (y, L.drop k) := by
  have hh : ∀ c : UInt8, z ≠ (c.toNat : Int) → hd c (L.drop k) = false := by
    intro c hc
    cases hd2 : hd c (L.drop k) with
    | false => rfl
    | true => exact absurd (hz.symm.trans (nx_yes rfl hd2).1) hc
  exact signs_end y (hh 42 h.1) (hh 43 h.2.1) (hh 63 h.2.2)
theorem kx_cell {w W W1 : World} {q k d h n : Nat} {L : List UInt8} {e : Int} {kd : ByteArray} {v : Value} {C : List Value} (z : KxS w q L k d e h kd v n C W) (hg : W.grownBy W1 v.ownBlock) : W1.cell? ⟨h + 1, 2, none⟩ = some v ∧ W1.frozen? ⟨h + 1, 2, none⟩ = false := by
  have hp : W1.heap[h + 1]? = W.heap[h + 1]? := hg.block (h + 1) z.nb.hw (fun e => by have := (z.own.lt _ e.symm).1; omega)
  exact ⟨(World.cell?_of_block hp).trans z.nb.cells.1.2.2, (World.frozen?_of_block hp).trans z.nb.cells.2.2.2⟩
theorem ext_one {L r : List UInt8} {k : Nat} {c : UInt8} (h : L.drop k = c :: r) : (tx L).extract k (k + 1) = tx [c] := by
  rw [Lib.extract_eq, tx_data]
  apply congrArg tx
  rw [h, show k + 1 - k = 1 by omega]
  rfl
theorem rr_k {w W : World} {q k d h n b : Nat} {L : List UInt8} {e : Int} {kd : ByteArray} {v hs ks : Value} {C : List Value} (z : SgS w q L k d e h v n C b kd hs ks W) : rms q W = if e = 0 then 2000 - k else 0 := rms_rr z.z.p.ro.1
set_option maxHeartbeats 8000000 in
theorem rrow_any (n : Nat) (H : ∀ k, k < n → PatR k) (hn : n ≤ 100) (q : Nat) (L l0 : List UInt8) (k D : Nat) (w : World) (p : Rr w q L k D 0) (hl : L.drop k = l0) (hln : l0.length < n) (hL : L.length ≤ 64) (hk : k ≤ L.length + 5) (hD1 : 1 ≤ D) (hD8 : D ≤ 8) :
    Calls Tryd.prog 43 #[.pointer (some ⟨q, 0, none⟩)] w (RrwP n D L l0 w q) := by
  obtain ⟨h, hh⟩ : ∃ h, w.heap.size = h := ⟨_, rfl⟩
  obtain ⟨W0, hW0⟩ : ∃ W0, w.alloc (.cells #[.string ⟨#[]⟩, .slice none 0 0, .slice none 0 0] 60 (0, 0)) = W0 := ⟨_, rfl⟩
  obtain ⟨W, hW⟩ : ∃ W, W0.alloc (.cells #[.string rowB, .slice none 0 0, .slice none 0 0] 60 (0, 0)) = W := ⟨_, rfl⟩
  have s0 : W0.heap.size = h + 1 := by rw [← hW0, ← hh]; simp
  have sW : W.heap.size = h + 2 := by rw [← hW]; simp [s0]
  have z0 := PtS.first p hh hW0
  have K0 : KxS w q L k D 0 h rowB (.slice none 0 0) 0 [] W := ⟨hW ▸ z0.alloc _, s0 ▸ hW ▸ Nb.new W0 _ _ _, World.ownsRow_nil _ _ _ _⟩
  have hl64 : l0.length ≤ 64 := by rw [← hl, List.length_drop]; omega
  have R0 := Lib.hid (show RrwRel n D L l0 w q h W from ⟨none, 0, 0, [], k, D, 0, K0, by omega, Nat.le_refl _, by omega, by omega, Lib.hid (.inl ⟨rfl, rfl, hk, .eps, l0, n, .nil, fun o => rfl, hln, Nat.le_refl _, hl, by omega, rfl, rfl, fun s => Iff.rfl⟩)⟩)
  have HLN := Lib.hid hln
  have HL64 := Lib.hid hl64
  have hL1 : L.length ≤ 1000 := by omega
  have HLL := Lib.hid hL
  have HN := Lib.hid hn
  have HD := Lib.hid hD8
  have HH := Lib.hid H
  clear p z0 K0 hl hln hk sW hl64 hL hn hD8 H
  have HW := Lib.hid hW
  clear hW
  go_enter Tryd.func43, Tryd.ntmps43
  go_wp2_with fail
  have hW := HW.out
  unfold rowB at hW
  rw [hW]
  clear hW hW0 hh s0
  go_loopw [] (fun wr => Hid (RrwRel n D L l0 w q h wr)) (fun wr => rms q wr)
  case atStart => exact R0
  case round =>
    clear R0
    obtain ⟨A, c, nn, C, k, d, e, hz, hkb, hd1, hd2, hnn, hi⟩ := hrel.out
    clear hrel
    have Z := Lib.hid hz
    have HI := hi
    have HB := Lib.hid (And.intro hkb (And.intro hd1 hd2))
    have HNN := Lib.hid hnn
    have MS := Lib.hid (rms_rr hz.p.ro.1)
    have c3 := hz.p.ro.1.c3
    have hkb2 : k ≤ 1080 := by have := HN.out; omega
    clear hz hi hkb hd1 hd2 hnn
    by_cases he : e = 0
    case neg =>
      have heb : (e == 0) = false := z_no 0 he
      have HE := Lib.hid he
      clear he
      obtain ⟨⟨z0, z1, z2⟩, zf0, zf1, zf2⟩ := Z.out.p.nb.cells
      obtain ⟨⟨x0, x1, x2⟩, xf0, xf1, xf2⟩ := Z.out.nb.cells
      go_wp2_with fail
      refine bodyPost_ret (v := .agg #[.string rowB, nvo, .slice A nn c]) (by simp [results, Tryd.results43, go_sem, z0, z1, z2]) rfl ?_
      exact ⟨_, _, _, k, d, e, rfl, isS _ _ _, isS _ _ _, Z.out.p.fin _ _ _, HB.out.1, HB.out.2.1, HB.out.2.2, Lib.hid (rw_end Z.out HI.out (fun e0 => absurd e0 HE.out) _ _ _ HNN.out)⟩
    case pos =>
      subst he
      obtain ⟨l, hl⟩ : ∃ l, L.drop k = l := ⟨_, rfl⟩
      have HLD := Lib.hid hl
      cases l with
      | nil =>
        have hz := drop_none hl
        clear hl
        go_wp2_with fail
        refine (rnext_any _ _ _ _ _ _ Z.out.p.ro.1 hL1 (by omega)).mono ?_
        rw [hz]
        rintro y w1 ⟨rfl, ho⟩
        have Z1 := Lib.hid (Z.out.step ho)
        have HI1 := Lib.hid (show RwI n D L l0 h (.slice A nn c) C nn k d 0 w1 from by
          rcases HI.out with ⟨h1, h2, h3, x, l, m, lst, h4, h5, h6, h7, h8, h9, h10, h11⟩ | h
          · exact .inl ⟨h1, h2, h3, x, l, m, lst, h4, h5, h6, h7, h8, h9, kids_step Z.out ho h10, h11⟩
          · exact .inr h)
        obtain ⟨⟨z0, z1, z2⟩, zf0, zf1, zf2⟩ := Z1.out.p.nb.cells
        obtain ⟨⟨x0, x1, x2⟩, xf0, xf1, xf2⟩ := Z1.out.nb.cells
        clear ho hz
        go_wp2_with fail
        refine bodyPost_ret (v := .agg #[.string rowB, nvo, .slice A nn c]) (by simp [results, Tryd.results43, go_sem, z0, z1, z2]) rfl ?_
        exact ⟨_, _, _, k, d, 0, rfl, isS _ _ _, isS _ _ _, Z1.out.p.fin _ _ _, HB.out.1, HB.out.2.1, HB.out.2.2, Lib.hid (rw_end Z1.out HI1.out (fun _ => .inl HLD.out) _ _ _ HNN.out)⟩
      | cons a r =>
        obtain ⟨hz, hd1, hkl⟩ := drop_head hl
        have HD1 := Lib.hid hd1
        have HKL := Lib.hid hkl
        have HIX := Lib.hid (fun (w1 w2 : World) (Z1 : KxS w q L k d 0 h rowB (.slice A nn c) nn C w1) (ho : RO w1 q L k d 0 w2) (hi : RwI n D L l0 h (.slice A nn c) C nn k d 0 w1) => show RwI n D L l0 h (.slice A nn c) C nn k d 0 w2 from by
          rcases hi with ⟨h1, h2, h3, x, l, m, lst, h4, h5, h6, h7, h8, h9, h10, h11⟩ | h
          · exact .inl ⟨h1, h2, h3, x, l, m, lst, h4, h5, h6, h7, h8, h9, kids_step Z1 ho h10, h11⟩
          · exact .inr h)
        have ha0 : (0 : Int) ≤ (a.toNat : Int) := by omega
        clear hl hd1 hkl
        by_cases h124 : a = 124
        · subst h124
          have hz' : nxF L k = 124 := hz
          clear hz ha0
          go_wp2_with fail
          refine (rnext_any _ _ _ _ _ _ Z.out.p.ro.1 hL1 (by omega)).mono ?_
          rw [hz']
          rintro y w1 ⟨rfl, ho⟩
          have Zn1 := Lib.hid (Z.out.step ho)
          have HIn1 := Lib.hid (HIX.out _ _ Z.out ho HI.out)
          clear ho
          go_wp2_with fail
          refine (rnext_any _ _ _ _ _ _ Zn1.out.p.ro.1 hL1 (by omega)).mono ?_
          rw [hz']
          rintro y w2 ⟨rfl, ho⟩
          have Zn2 := Lib.hid (Zn1.out.step ho)
          have HIn2 := Lib.hid (HIX.out _ _ Zn1.out ho HIn1.out)
          clear ho
          obtain ⟨⟨z0, z1, z2⟩, zf0, zf1, zf2⟩ := Zn2.out.p.nb.cells
          obtain ⟨⟨x0, x1, x2⟩, xf0, xf1, xf2⟩ := Zn2.out.nb.cells
          clear hz'
          go_wp2_with fail
          refine bodyPost_ret (v := .agg #[.string rowB, nvo, .slice A nn c]) (by simp [results, Tryd.results43, go_sem, z0, z1, z2]) rfl ?_
          exact ⟨_, _, _, k, d, 0, rfl, isS _ _ _, isS _ _ _, Zn2.out.p.fin _ _ _, HB.out.1, HB.out.2.1, HB.out.2.2, Lib.hid (rw_end Zn2.out HIn2.out (fun _ => .inr (.inr (by rw [HLD.out]; simp [hd]))) _ _ _ HNN.out)⟩
        by_cases h41 : a = 41
        · subst h41
          have hz' : nxF L k = 41 := hz
          clear hz ha0
          go_wp2_with fail
          refine (rnext_any _ _ _ _ _ _ Z.out.p.ro.1 hL1 (by omega)).mono ?_
          rw [hz']
          rintro y w1 ⟨rfl, ho⟩
          have Zn1 := Lib.hid (Z.out.step ho)
          have HIn1 := Lib.hid (HIX.out _ _ Z.out ho HI.out)
          clear ho
          go_wp2_with fail
          refine (rnext_any _ _ _ _ _ _ Zn1.out.p.ro.1 hL1 (by omega)).mono ?_
          rw [hz']
          rintro y w2 ⟨rfl, ho⟩
          have Zn2 := Lib.hid (Zn1.out.step ho)
          have HIn2 := Lib.hid (HIX.out _ _ Zn1.out ho HIn1.out)
          clear ho
          go_wp2_with fail
          refine (rnext_any _ _ _ _ _ _ Zn2.out.p.ro.1 hL1 (by omega)).mono ?_
          rw [hz']
          rintro y w3 ⟨rfl, ho⟩
          have Zn3 := Lib.hid (Zn2.out.step ho)
          have HIn3 := Lib.hid (HIX.out _ _ Zn2.out ho HIn2.out)
          clear ho
          obtain ⟨⟨z0, z1, z2⟩, zf0, zf1, zf2⟩ := Zn3.out.p.nb.cells
          obtain ⟨⟨x0, x1, x2⟩, xf0, xf1, xf2⟩ := Zn3.out.nb.cells
          clear hz'
          go_wp2_with fail
          refine bodyPost_ret (v := .agg #[.string rowB, nvo, .slice A nn c]) (by simp [results, Tryd.results43, go_sem, z0, z1, z2]) rfl ?_
          exact ⟨_, _, _, k, d, 0, rfl, isS _ _ _, isS _ _ _, Zn3.out.p.fin _ _ _, HB.out.1, HB.out.2.1, HB.out.2.2, Lib.hid (rw_end Zn3.out HIn3.out (fun _ => .inr (.inl (by rw [HLD.out]; simp [hd]))) _ _ _ HNN.out)⟩
        have hq1 : ((a.toNat : Int) != 124) = true := z_ne 124 (by have := u8_nat 124 (by omega) h124; omega)
        have hq2 : ((a.toNat : Int) != 41) = true := z_ne 41 (by have := u8_nat 41 (by omega) h41; omega)
        have HA := Lib.hid (And.intro h124 h41)
        clear h124 h41
        go_wp2_with fail
        refine (rnext_any _ _ _ _ _ _ Z.out.p.ro.1 hL1 (by omega)).mono ?_
        rw [hz]
        rintro y w1 ⟨rfl, ho⟩
        have Zn1 := Lib.hid (Z.out.step ho)
        have HIn1 := Lib.hid (HIX.out _ _ Z.out ho HI.out)
        clear ho
        go_wp2_with fail
        refine (rnext_any _ _ _ _ _ _ Zn1.out.p.ro.1 hL1 (by omega)).mono ?_
        rw [hz]
        rintro y w2 ⟨rfl, ho⟩
        have Zn2 := Lib.hid (Zn1.out.step ho)
        have HIn2 := Lib.hid (HIX.out _ _ Zn1.out ho HIn1.out)
        clear ho
        go_wp2_with fail
        refine (rnext_any _ _ _ _ _ _ Zn2.out.p.ro.1 hL1 (by omega)).mono ?_
        rw [hz]
        rintro y w3 ⟨rfl, ho⟩
        have Zn3 := Lib.hid (Zn2.out.step ho)
        have HIn3 := Lib.hid (HIX.out _ _ Zn2.out ho HIn2.out)
        clear ho
        obtain ⟨g1, g2, g3, x, l, m, lst, g4, g5, g6, g7, g8, g9, g10, g11⟩ | ⟨g1, _⟩ := HIn3.out
        case inr => exact absurd rfl g1
        have HLE := Lib.hid (show l = a :: r from g7.symm.trans HLD.out)
        rw [HLE.out] at g4 g5 g8
        obtain ⟨m1, hm1⟩ : ∃ m1, m = m1 + 1 := ⟨m - 1, by simp at g5; omega⟩
        subst hm1 g2
        obtain ⟨S, hS⟩ : ∃ S, bareF (fun r => patF m1 (d + 1) none .eps r) d a r = S := ⟨_, rfl⟩
        have HON := Lib.hid (show ∀ o, patF n d o .eps l0 = (match partF S with
          | .err e => .err e
          | .ok y q2 => patF m1 d o (.cat x y) q2) from fun o => by rw [g4 o, ← hS]; exact patF_on HA.out.2 HA.out.1)
        have HPT := Lib.hid (fun (W2 : World) (pp : Rr W2 q L k d 0) => rpart_any m1 (HH.out m1 (by omega)) (by have := HN.out; omega) q L r a k d W2 pp HLD.out (by simp at g5; omega) HLL.out HD.out HA.out.1 HA.out.2)
        rw [hS] at HPT
        have HBL := Lib.hid (fun y q2 (hs : S = .ok y q2) => bareF_len (hS.trans hs))
        have HG := Lib.hid (And.intro g3 (And.intro (show r.length < m1 by simp at g5; omega) (And.intro (show m1 + 1 ≤ n from g6) (show nn + (r.length + 1) ≤ l0.length by simpa using g8))))
        have HLS := Lib.hid (And.intro g9 (And.intro g10 g11))
        clear g1 g3 g4 g5 g6 g7 g8 g9 g10 g11 hS
        go_wp2_with fail
        refine (HPT.out _ Zn3.out.p.ro.1).mono ?_
        rintro y w4 ⟨kd, hs, ks, k2, d2, e2, rfl, ⟨a1, n1, m1', rfl⟩, ⟨a2, n2, m2', rfl⟩, ho, hkb, hd1, hd2, hinf⟩
        obtain ⟨b, hb⟩ : ∃ b, w4.heap.size = b := ⟨_, rfl⟩
        obtain ⟨W4, hW4⟩ : ∃ W4, w4.alloc (.cells #[.string kd, .slice a1 n1 m1', .slice a2 n2 m2'] 60 (0, 0)) = W4 := ⟨_, rfl⟩
        have R4 := Lib.hid (show SgRel n d m1 L l0 r x S w q h (.slice A nn c) nn b C W4 from by
          have zz := Zn3.out.step ho
          have hA : Below w4.heap.size w4 W4 := hW4 ▸ (Below.refl _ _).alloc (Nat.le_refl _) _
          have hvb : (Value.slice A nn c).ownBlock ≠ some b := fun e => by have := (zz.own.lt _ e).2; omega
          refine ⟨kd, a1, n1, m1', a2, n2, m2', k2, d2, e2, ⟨zz.below hA, hb ▸ hW4 ▸ Nb.new w4 _ _ _, by have := zz.sz; omega, hvb⟩, by have := HG.out.2.2.1; omega, hd1, hd2, Lib.hid ?_⟩
          cases hS : S with
          | err e0 =>
            rw [hS] at hinf
            obtain ⟨i1, i2⟩ := hinf.out
            subst i1
            exact .inr ⟨i2, rfl⟩
          | ok y0 l2 =>
            rw [hS] at hinf
            obtain ⟨i1, i2, i3, i4, nd, i5, i6, i7⟩ := hinf.out
            refine .inl ⟨i1, i2, i4, y0, l2, y0, nd, lst, rfl, by rw [i3], by rw [i3]; exact HBL.out y0 l2 hS, i5, kb_below hA (kb_of (new_KU Zn3.out i6) (by omega)), i7, HLS.out.1, kb_below hA (kb_of (kids_step Zn3.out ho HLS.out.2.1) (by omega)), HLS.out.2.2⟩)
        clear ho hkb hd1 hd2 hinf
        go_wp2_with fail
        clear hW4 hb
        go_loopw [] (fun wr => Hid (SgRel n d m1 L l0 r x S w q h (.slice A nn c) nn b C wr)) (fun wr => rms q wr)
        case atStart => exact R4
        case round =>
          clear R4
          obtain ⟨kd, a1, n1, m1', a2, n2, m2', k2, d2, e2, hz2, hkb, hd1, hd2, hi⟩ := hrel.out
          clear hrel
          have Y := Lib.hid hz2
          have YI := hi
          have YB := Lib.hid (And.intro hkb (And.intro hd1 hd2))
          have YM := Lib.hid (rr_k hz2)
          have c3 := hz2.z.p.ro.1.c3
          have hkb2' : k2 ≤ 1080 := by have := HN.out; omega
          clear hz2 hi hkb hd1 hd2
          by_cases he2 : e2 = 0
          case neg =>
            have heb : (e2 == 0) = false := z_no 0 he2
            have HE := Lib.hid he2
            have YIC := YI
            clear he2
            have HIF := Lib.hid YIC.out
            obtain ⟨⟨x0, x1, x2⟩, xf0, xf1, xf2⟩ := Y.out.z.nb.cells
            obtain ⟨⟨y0', y1', y2'⟩, yf0, yf1, yf2⟩ := Y.out.nb.cells
            obtain ⟨we, hwe⟩ : ∃ we, (wr).heap.size = we := ⟨_, rfl⟩
            obtain ⟨W7, hW7⟩ : ∃ W7, (wr).alloc (.cells #[.string kd, .slice a1 n1 m1', .slice a2 n2 m2'] 60 (0, 0)) = W7 := ⟨_, rfl⟩
            have A7 := Lib.hid (show Below (wr).heap.size (wr) W7 from hW7 ▸ (Below.refl _ _).alloc (Nat.le_refl _) _)
            have N7 := Lib.hid (show Nb W7 we kd (.slice a1 n1 m1') (.slice a2 n2 m2') from hwe ▸ hW7 ▸ Nb.new (wr) _ _ _)
            have O7 := Lib.hid (Y.out.z.below A7.out)
            have HNN1 := Lib.hid (show nn + 1 ≤ 1000 by have := HNN.out; omega)
            go_wp2_with (at_builtin; refine app_nd rfl (.tmp 73) (.tmp 75) rfl (h + 2) (.slice A nn c) nn C rfl O7.out.own we rfl (.string kd) (.slice a1 n1 m1') (.slice a2 n2 m2') N7.out.cells.1 ⟨rfl, rfl, rfl⟩ HNN1.out O7.out.sz ?_; intro v8 w8 ho8 hg8 hv8; obtain ⟨A8, c8, rfl⟩ := own_shape ho8; have HO8 := Lib.hid ho8; have HG8 := Lib.hid hg8; have HV8 := Lib.hid hv8; have Z8 := Lib.hid (O7.out.pushed ho8 hg8 hv8); obtain ⟨k8, f8⟩ := kx_cell O7.out hg8; clear ho8 hg8 hv8)
            all_goals
              have HR8 := Lib.hid (rw_push Y.out HIF.out (fun e0 => absurd e0 HE.out) A7.out HG8.out HV8.out HON.out HG.out.2.1 (by have := HG.out.2.2.1; omega) HG.out.2.2.2)
              go_wp2_with fail
              go_roundw
              case rel => exact Lib.hid ⟨A8, c8, nn + 1, _, _, _, _, Z8.out, YB.out.1, YB.out.2.1, YB.out.2.2, by have := HNN.out; have := HG.out.2.2.2; have := HL64.out; omega, HR8⟩
              case measure => rw [MS.out, rms_rr Z8.out.p.ro.1, if_neg HE.out]; simp; have := HKL.out; have := HLL.out; omega
          case pos =>
            subst he2
            obtain ⟨z, hz⟩ : ∃ z, nxF L k2 = z := ⟨_, rfl⟩
            have YX := Lib.hid (fun (w1 w2 : World) (Z1 : SgS w q L k2 d2 0 h (.slice A nn c) nn C b kd (.slice a1 n1 m1') (.slice a2 n2 m2') w1) (ho : RO w1 q L k2 d2 0 w2) (hi : SgI n d m1 L l0 r x S h (.slice A nn c) b C k2 d2 0 (.agg #[.string kd, .slice a1 n1 m1', .slice a2 n2 m2']) w1) => SgI.step Z1 ho hi)
            have hd4 : z = 42 ∨ z = 43 ∨ z = 63 ∨ (z ≠ 42 ∧ z ≠ 43 ∧ z ≠ 63) := by omega
            rcases hd4 with hc | hc | hc | hc
            · subst hc
              go_wp2_with fail
              refine (rnext_any _ _ _ _ _ _ Y.out.z.p.ro.1 hL1 (by omega)).mono ?_
              rw [hz]
              rintro y v1 ⟨rfl, ho⟩
              have Y1 := Lib.hid (Y.out.step ho)
              have YI1 := Lib.hid (YX.out _ _ Y.out ho YI.out)
              clear ho
              have c0 := Y1.out.z.p.ro.1.c0
              have c1 := Y1.out.z.p.ro.1.c1
              have f1 := Y1.out.z.p.ro.1.f1
              obtain ⟨⟨y0', y1', y2'⟩, yf0, yf1, yf2⟩ := Y1.out.nb.cells
              have YA := Lib.hid (Y1.out.below ((Below.refl _ _).alloc (Nat.le_refl _) (.cells #[.string kd, .slice a1 n1 m1', .slice a2 n2 m2'] 60 (0, 0))))
              have ca0 := YA.out.z.p.ro.1.c0
              have ca1 := YA.out.z.p.ro.1.c1
              obtain ⟨⟨ya0, ya1, ya2⟩, yaf0, yaf1, yaf2⟩ := YA.out.nb.cells
              obtain ⟨T, hT⟩ : ∃ T, tx L = T := ⟨_, rfl⟩
              have hTs : T.size = L.length := by rw [← hT, tx_size]
              obtain ⟨⟨l2, hl2⟩, hk2L⟩ := nx_byte 42 (by omega) hz
              have hext : T.extract k2 (k2 + 1) = ⟨#[42]⟩ := by rw [← hT, ext_one hl2]; rfl
              rw [hT] at c0 ca0
              obtain ⟨K, hK⟩ : ∃ K, k2 + 1 = K := ⟨_, rfl⟩
              have hwk : IntKind.i64.wrap ((k2 : Int) + 1) = (K : Int) := by
                rw [← hK]
                exact (IntWalk.i64_in _ (by omega)).trans (by omega)
              have hb1 : (k2 : Int) ≤ (K : Int) := by omega
              have hb2 : (K : Int) ≤ (T.size : Int) := by omega
              rw [hK] at hext
              have HKK := Lib.hid hK
              have HL2 := Lib.hid hl2
              have HK2 := Lib.hid hk2L
              clear hT hTs hl2 hk2L hK
              go_wp2_with fail
              obtain ⟨W9, hW9⟩ : ∃ W9, (((v1.alloc (.cells #[.string kd, .slice a1 n1 m1', .slice a2 n2 m2'] 60 (0, 0))).setCell ⟨b, 0, none⟩ (.string ⟨#[42]⟩)).setCell ⟨b, 1, none⟩ nvo).setCell ⟨b, 2, none⟩ (.slice (some ⟨v1.heap.size, 0, none⟩) 1 1) = W9 := ⟨_, rfl⟩
              have HNX := Lib.hid (sg_next .star .star Y1.out YI1.out HL2.out HK2.out (fun y => signs_star y rfl) (fun _ => rfl) (fun _ _ _ _ h => h) (fun _ _ h => ln_star h) hW9)
              have HW9 := Lib.hid hW9
              clear hW9
              go_region
              have hW9 := HW9.out
              unfold nvo at hW9
              clear c1 f1
              rw [hW9]
              clear hW9 hwk ca0 ca1 ya0 ya1 ya2 yaf0 yaf1 yaf2 hext hb1 hb2 c0 y0' y1' y2' yf0 yf1 yf2
              obtain ⟨c1, f1⟩ := HNX.out.1
              go_wp2_with fail
              go_roundw
              case rel => exact Lib.hid ⟨⟨#[42]⟩, none, 0, 0, _, 1, 1, k2 + 1, d2, 0, HNX.out.2.1, by have := HK2.out; have := HLL.out; omega, YB.out.2.1, YB.out.2.2, Lib.hid HNX.out.2.2⟩
              case measure => rw [YM.out, rr_k HNX.out.2.1]; simp; omega
            · subst hc
              go_wp2_with fail
              refine (rnext_any _ _ _ _ _ _ Y.out.z.p.ro.1 hL1 (by omega)).mono ?_
              rw [hz]
              rintro y v1 ⟨rfl, ho⟩
              have Y1 := Lib.hid (Y.out.step ho)
              have YI1 := Lib.hid (YX.out _ _ Y.out ho YI.out)
              clear ho
              go_wp2_with fail
              refine (rnext_any _ _ _ _ _ _ Y1.out.z.p.ro.1 hL1 (by omega)).mono ?_
              rw [hz]
              rintro y v2 ⟨rfl, ho⟩
              have Y2 := Lib.hid (Y1.out.step ho)
              have YI2 := Lib.hid (YX.out _ _ Y1.out ho YI1.out)
              clear ho
              have c0 := Y2.out.z.p.ro.1.c0
              have c1 := Y2.out.z.p.ro.1.c1
              have f1 := Y2.out.z.p.ro.1.f1
              obtain ⟨⟨y0', y1', y2'⟩, yf0, yf1, yf2⟩ := Y2.out.nb.cells
              have YA := Lib.hid (Y2.out.below ((Below.refl _ _).alloc (Nat.le_refl _) (.cells #[.string kd, .slice a1 n1 m1', .slice a2 n2 m2'] 60 (0, 0))))
              have ca0 := YA.out.z.p.ro.1.c0
              have ca1 := YA.out.z.p.ro.1.c1
              obtain ⟨⟨ya0, ya1, ya2⟩, yaf0, yaf1, yaf2⟩ := YA.out.nb.cells
              obtain ⟨T, hT⟩ : ∃ T, tx L = T := ⟨_, rfl⟩
              have hTs : T.size = L.length := by rw [← hT, tx_size]
              obtain ⟨⟨l2, hl2⟩, hk2L⟩ := nx_byte 43 (by omega) hz
              have hext : T.extract k2 (k2 + 1) = ⟨#[43]⟩ := by rw [← hT, ext_one hl2]; rfl
              rw [hT] at c0 ca0
              obtain ⟨K, hK⟩ : ∃ K, k2 + 1 = K := ⟨_, rfl⟩
              have hwk : IntKind.i64.wrap ((k2 : Int) + 1) = (K : Int) := by
                rw [← hK]
                exact (IntWalk.i64_in _ (by omega)).trans (by omega)
              have hb1 : (k2 : Int) ≤ (K : Int) := by omega
              have hb2 : (K : Int) ≤ (T.size : Int) := by omega
              rw [hK] at hext
              have HKK := Lib.hid hK
              have HL2 := Lib.hid hl2
              have HK2 := Lib.hid hk2L
              clear hT hTs hl2 hk2L hK
              go_wp2_with fail
              obtain ⟨W9, hW9⟩ : ∃ W9, (((v2.alloc (.cells #[.string kd, .slice a1 n1 m1', .slice a2 n2 m2'] 60 (0, 0))).setCell ⟨b, 0, none⟩ (.string ⟨#[43]⟩)).setCell ⟨b, 1, none⟩ nvo).setCell ⟨b, 2, none⟩ (.slice (some ⟨v2.heap.size, 0, none⟩) 1 1) = W9 := ⟨_, rfl⟩
              have HNX := Lib.hid (sg_next .plus .plus Y2.out YI2.out HL2.out HK2.out (fun y => signs_plus y rfl) (fun _ => rfl) (fun _ _ _ _ h => h) (fun _ _ h => ln_plus h) hW9)
              have HW9 := Lib.hid hW9
              clear hW9
              go_region
              have hW9 := HW9.out
              unfold nvo at hW9
              clear c1 f1
              rw [hW9]
              clear hW9 hwk ca0 ca1 ya0 ya1 ya2 yaf0 yaf1 yaf2 hext hb1 hb2 c0 y0' y1' y2' yf0 yf1 yf2
              obtain ⟨c1, f1⟩ := HNX.out.1
              go_wp2_with fail
              go_roundw
              case rel => exact Lib.hid ⟨⟨#[43]⟩, none, 0, 0, _, 1, 1, k2 + 1, d2, 0, HNX.out.2.1, by have := HK2.out; have := HLL.out; omega, YB.out.2.1, YB.out.2.2, Lib.hid HNX.out.2.2⟩
              case measure => rw [YM.out, rr_k HNX.out.2.1]; simp; omega
            · subst hc
              go_wp2_with fail
              refine (rnext_any _ _ _ _ _ _ Y.out.z.p.ro.1 hL1 (by omega)).mono ?_
              rw [hz]
              rintro y v1 ⟨rfl, ho⟩
              have Y1 := Lib.hid (Y.out.step ho)
              have YI1 := Lib.hid (YX.out _ _ Y.out ho YI.out)
              clear ho
              go_wp2_with fail
              refine (rnext_any _ _ _ _ _ _ Y1.out.z.p.ro.1 hL1 (by omega)).mono ?_
              rw [hz]
              rintro y v2 ⟨rfl, ho⟩
              have Y2 := Lib.hid (Y1.out.step ho)
              have YI2 := Lib.hid (YX.out _ _ Y1.out ho YI1.out)
              clear ho
              go_wp2_with fail
              refine (rnext_any _ _ _ _ _ _ Y2.out.z.p.ro.1 hL1 (by omega)).mono ?_
              rw [hz]
              rintro y v3 ⟨rfl, ho⟩
              have Y3 := Lib.hid (Y2.out.step ho)
              have YI3 := Lib.hid (YX.out _ _ Y2.out ho YI2.out)
              clear ho
              have c0 := Y3.out.z.p.ro.1.c0
              have c1 := Y3.out.z.p.ro.1.c1
              have f1 := Y3.out.z.p.ro.1.f1
              obtain ⟨⟨y0', y1', y2'⟩, yf0, yf1, yf2⟩ := Y3.out.nb.cells
              have YA := Lib.hid (Y3.out.below ((Below.refl _ _).alloc (Nat.le_refl _) (.cells #[.string kd, .slice a1 n1 m1', .slice a2 n2 m2'] 60 (0, 0))))
              have ca0 := YA.out.z.p.ro.1.c0
              have ca1 := YA.out.z.p.ro.1.c1
              obtain ⟨⟨ya0, ya1, ya2⟩, yaf0, yaf1, yaf2⟩ := YA.out.nb.cells
              obtain ⟨T, hT⟩ : ∃ T, tx L = T := ⟨_, rfl⟩
              have hTs : T.size = L.length := by rw [← hT, tx_size]
              obtain ⟨⟨l2, hl2⟩, hk2L⟩ := nx_byte 63 (by omega) hz
              have hext : T.extract k2 (k2 + 1) = ⟨#[63]⟩ := by rw [← hT, ext_one hl2]; rfl
              rw [hT] at c0 ca0
              obtain ⟨K, hK⟩ : ∃ K, k2 + 1 = K := ⟨_, rfl⟩
              have hwk : IntKind.i64.wrap ((k2 : Int) + 1) = (K : Int) := by
                rw [← hK]
                exact (IntWalk.i64_in _ (by omega)).trans (by omega)
              have hb1 : (k2 : Int) ≤ (K : Int) := by omega
              have hb2 : (K : Int) ≤ (T.size : Int) := by omega
              rw [hK] at hext
              have HKK := Lib.hid hK
              have HL2 := Lib.hid hl2
              have HK2 := Lib.hid hk2L
              clear hT hTs hl2 hk2L hK
              go_wp2_with fail
              obtain ⟨W9, hW9⟩ : ∃ W9, (((v3.alloc (.cells #[.string kd, .slice a1 n1 m1', .slice a2 n2 m2'] 60 (0, 0))).setCell ⟨b, 0, none⟩ (.string ⟨#[63]⟩)).setCell ⟨b, 1, none⟩ nvo).setCell ⟨b, 2, none⟩ (.slice (some ⟨v3.heap.size, 0, none⟩) 1 1) = W9 := ⟨_, rfl⟩
              have HNX := Lib.hid (sg_next .opt .opt Y3.out YI3.out HL2.out HK2.out (fun y => signs_opt y rfl) (fun _ => rfl) (fun _ _ _ _ h => h) (fun _ _ h => ln_opt h) hW9)
              have HW9 := Lib.hid hW9
              clear hW9
              go_region
              have hW9 := HW9.out
              unfold nvo at hW9
              clear c1 f1
              rw [hW9]
              clear hW9 hwk ca0 ca1 ya0 ya1 ya2 yaf0 yaf1 yaf2 hext hb1 hb2 c0 y0' y1' y2' yf0 yf1 yf2
              obtain ⟨c1, f1⟩ := HNX.out.1
              go_wp2_with fail
              go_roundw
              case rel => exact Lib.hid ⟨⟨#[63]⟩, none, 0, 0, _, 1, 1, k2 + 1, d2, 0, HNX.out.2.1, by have := HK2.out; have := HLL.out; omega, YB.out.2.1, YB.out.2.2, Lib.hid HNX.out.2.2⟩
              case measure => rw [YM.out, rr_k HNX.out.2.1]; simp; omega
            · have e1 : (z == 42) = false := z_no 42 hc.1
              have e2 : (z == 43) = false := z_no 43 hc.2.1
              have e3 : (z == 63) = false := z_no 63 hc.2.2
              have HST := Lib.hid (sg_end hz hc)
              clear hc
              go_wp2_with fail
              refine (rnext_any _ _ _ _ _ _ Y.out.z.p.ro.1 hL1 (by omega)).mono ?_
              rw [hz]
              rintro y v1 ⟨rfl, ho⟩
              have Y1 := Lib.hid (Y.out.step ho)
              have YI1 := Lib.hid (YX.out _ _ Y.out ho YI.out)
              clear ho
              go_wp2_with fail
              refine (rnext_any _ _ _ _ _ _ Y1.out.z.p.ro.1 hL1 (by omega)).mono ?_
              rw [hz]
              rintro y v2 ⟨rfl, ho⟩
              have Y2 := Lib.hid (Y1.out.step ho)
              have YI2 := Lib.hid (YX.out _ _ Y1.out ho YI1.out)
              clear ho
              go_wp2_with fail
              refine (rnext_any _ _ _ _ _ _ Y2.out.z.p.ro.1 hL1 (by omega)).mono ?_
              rw [hz]
              rintro y v3 ⟨rfl, ho⟩
              have Y3 := Lib.hid (Y2.out.step ho)
              have YI3 := Lib.hid (YX.out _ _ Y2.out ho YI2.out)
              clear ho
              have YIC := YI3
              have HMEAS := Lib.hid (show k < k2 from by
                have h1 := congrArg List.length HLD.out
                have h2 := HKL.out
                rcases YIC.out with ⟨_, _, _, y0, l, y, nd, lst, _, _, h6, _⟩ | ⟨h, _⟩
                · simp at h1 h6
                  omega
                · exact absurd rfl h)
              clear hz
              have HIF := Lib.hid YIC.out
              obtain ⟨⟨x0, x1, x2⟩, xf0, xf1, xf2⟩ := Y3.out.z.nb.cells
              obtain ⟨⟨y0', y1', y2'⟩, yf0, yf1, yf2⟩ := Y3.out.nb.cells
              obtain ⟨we, hwe⟩ : ∃ we, (v3).heap.size = we := ⟨_, rfl⟩
              obtain ⟨W7, hW7⟩ : ∃ W7, (v3).alloc (.cells #[.string kd, .slice a1 n1 m1', .slice a2 n2 m2'] 60 (0, 0)) = W7 := ⟨_, rfl⟩
              have A7 := Lib.hid (show Below (v3).heap.size (v3) W7 from hW7 ▸ (Below.refl _ _).alloc (Nat.le_refl _) _)
              have N7 := Lib.hid (show Nb W7 we kd (.slice a1 n1 m1') (.slice a2 n2 m2') from hwe ▸ hW7 ▸ Nb.new (v3) _ _ _)
              have O7 := Lib.hid (Y3.out.z.below A7.out)
              have HNN1 := Lib.hid (show nn + 1 ≤ 1000 by have := HNN.out; omega)
              go_wp2_with (at_builtin; refine app_nd rfl (.tmp 73) (.tmp 75) rfl (h + 2) (.slice A nn c) nn C rfl O7.out.own we rfl (.string kd) (.slice a1 n1 m1') (.slice a2 n2 m2') N7.out.cells.1 ⟨rfl, rfl, rfl⟩ HNN1.out O7.out.sz ?_; intro v8 w8 ho8 hg8 hv8; obtain ⟨A8, c8, rfl⟩ := own_shape ho8; have HO8 := Lib.hid ho8; have HG8 := Lib.hid hg8; have HV8 := Lib.hid hv8; have Z8 := Lib.hid (O7.out.pushed ho8 hg8 hv8); obtain ⟨k8, f8⟩ := kx_cell O7.out hg8; clear ho8 hg8 hv8)
              all_goals
                have HR8 := Lib.hid (rw_push Y3.out HIF.out (fun _ => HST.out) A7.out HG8.out HV8.out HON.out HG.out.2.1 (by have := HG.out.2.2.1; omega) HG.out.2.2.2)
                go_wp2_with fail
                go_roundw
                case rel => exact Lib.hid ⟨A8, c8, nn + 1, _, _, _, _, Z8.out, YB.out.1, YB.out.2.1, YB.out.2.2, by have := HNN.out; have := HG.out.2.2.2; have := HL64.out; omega, HR8⟩
                case measure => rw [MS.out, rms_rr Z8.out.p.ro.1]; simp; have := HMEAS.out; have := HKL.out; have := HLL.out; omega
end Go.Proofs.YtnabfganecghkaaDoor
