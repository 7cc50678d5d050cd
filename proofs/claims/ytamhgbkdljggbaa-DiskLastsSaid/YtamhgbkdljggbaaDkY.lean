/- Two disks, the program's and the document's, while calls on both come in whatever order. -/
import Derived.Test.YtamhgbkdljggbaaDkX
import Derived.Test.YtamhgbkdljggbaaDkH
import Derived.Test.YtamhgbkdljggbaaRgJ
namespace Go.Proofs.Ytamhgbkdljggbaa.Dk
open Go.RowKit Go.Maps
set_option linter.unusedVariables false

/-- a text's bytes -/
def byN (s : ByteArray) : List Nat := s.data.toList.map (·.toNat)
theorem byN_length (s : ByteArray) : (byN s).length = s.size := by unfold byN; simp
theorem str_bytes (s : ByteArray) (w : World) (hs : s.size ≤ maxLen) : ∃ c W, (convert 9 31 (.string s)).run Try.prog w = .ok (.slice (some ⟨w.heap.size, 0, none⟩) s.size c) W ∧ Below w.heap.size w W ∧ w.heap.size < W.heap.size ∧ Tk.Sl W (some ⟨w.heap.size, 0, none⟩) c (byN s) := by
  have hge := grownCap_ge w s.size 0 5
  have hle := grownCap_le_maxLen w s.size 0 5 hs
  refine ⟨_, _, run_bytes_of_string (P := Try.prog) w 9 31 5 s Try.underlying9 Try.underlying31 Try.underlying5, ((Below.refl _ w).drew).alloc (Nat.le_refl _) _, by simp, ?_⟩
  refine ⟨by rw [byN_length]; exact hge, by unfold maxLen at hle; exact hle, (fun e => by cases e), fun x hx => ?_, by rw [byN_length]; unfold maxLen at hs; exact hs, .inr ⟨w.heap.size, 0, rfl, fun j x hj => ?_⟩⟩
  · unfold byN at hx
    obtain ⟨b, _, rfl⟩ := List.mem_map.1 hx
    exact b.toNat_lt
  · have hj' : j < s.data.size := by
      have := (List.getElem?_eq_some_iff.1 hj).1
      rw [byN_length] at this
      exact this
    have hn : (w.drew.alloc (.cells (bytesRow s (grownCap w s.size 0 5)) 5 ((bytesRow s (grownCap w s.size 0 5)).size, (bytesRow s (grownCap w s.size 0 5)).size + 1))).heap[w.heap.size]? = _ := heap_alloc_new w.drew _
    have hx : (s.data[j].toNat : Nat) = x := by
      unfold byN at hj
      rw [List.getElem?_map, Array.getElem?_toList, Array.getElem?_eq_getElem hj'] at hj
      simpa using hj
    rw [cell_of_row _ _ _ _ _ _ hn, Nat.zero_add, bytesRow_at s _ j hj', hx]
/-! the word on frame and world -/
def Apt (B0 : Nat) (Od Oq Od' Oq' : Nat → Prop) : Prop := (∀ k, Od' k → ¬ Oq' k) ∧ (∀ k, Od' k → Od k ∨ B0 ≤ k) ∧ (∀ k, Oq' k → Oq k ∨ B0 ≤ k)
structure Bp where
  B0 : Nat
  Od : Nat → Prop
  Oq : Nat → Prop
  d : Nat
  q : Nat
  M : Nat
  M' : Nat
  N : Nat
  N' : Nat
  S : PD
  Sq : RS
  bs : List Nat
  td : Tmp
  tq : Tmp
  tc : Tmp
def BG (p : Bp) (post : Int → PD → Prop) (a : Act) (w : World) : Prop := ∃ Od' Oq', Apt p.B0 p.Od p.Oq Od' Oq' ∧ p.B0 ≤ w.heap.size ∧
  ((a.tmps[p.td]? = some undef ∧ DK Od' w p.d p.M p.S) ∨ (∃ C S', a.tmps[p.td]? = some (.int .i64 C) ∧ post C S' ∧ DK Od' w p.d p.M' S')) ∧
  ((a.tmps[p.tq]? = some undef ∧ RD Oq' w p.q p.N p.Sq) ∨ (∃ z S', a.tmps[p.tq]? = some (.int .i64 z) ∧ RD Oq' w p.q p.N' S')) ∧
  (∀ Bv m c, a.tmps[p.tc]? = some (.slice Bv m c) → m = p.bs.length ∧ Tk.Sl w Bv c p.bs ∧ ∀ b off, Bv = some ⟨b, off, none⟩ → b < w.heap.size ∧ ¬ Od' b ∧ ¬ Oq' b)
theorem put_ne {a : Act} {r t : Tmp} {v : Value} (h : r ≠ t) : (a.put (some r) v).tmps[t]? = a.tmps[t]? := by simp [Act.put, h]
theorem BG.keep {p : Bp} {post : Int → PD → Prop} {a : Act} {w w' : World} {r : Tmp} {v : Value} (h : BG p post a w) (hb : Below w.heap.size w w') (h1 : r ≠ p.td) (h2 : r ≠ p.tq) (h3 : r ≠ p.tc) : BG p post (a.put (some r) v) w' := by
  obtain ⟨Od', Oq', ha, h0, hd, hq, hc⟩ := h
  refine ⟨Od', Oq', ha, Nat.le_trans h0 hb.size, ?_, ?_, fun Bv m c e => ?_⟩
  · rw [put_ne h1]
    rcases hd with ⟨e, hd⟩ | ⟨C, S', e, hp, hd⟩
    · exact .inl ⟨e, hd.below hb⟩
    · exact .inr ⟨C, S', e, hp, hd.below hb⟩
  · rw [put_ne h2]
    rcases hq with ⟨e, hq⟩ | ⟨z, S', e, hq⟩
    · exact .inl ⟨e, hq.below hb⟩
    · exact .inr ⟨z, S', e, hq.below hb⟩
  · rw [put_ne h3] at e
    obtain ⟨k1, k2, k3⟩ := hc Bv m c e
    exact ⟨k1, k2.kept (Tk.Kept.of_below hb), fun b off e' => by obtain ⟨k4, k5⟩ := k3 b off e'; exact ⟨Nat.lt_of_lt_of_le k4 hb.size, k5⟩⟩
theorem BG.bounds {p : Bp} {post : Int → PD → Prop} {a : Act} {w : World} {Od' Oq' : Nat → Prop}
    (hd : (a.tmps[p.td]? = some undef ∧ DK Od' w p.d p.M p.S) ∨ (∃ C S', a.tmps[p.td]? = some (.int .i64 C) ∧ post C S' ∧ DK Od' w p.d p.M' S'))
    (hq : (a.tmps[p.tq]? = some undef ∧ RD Oq' w p.q p.N p.Sq) ∨ (∃ z S', a.tmps[p.tq]? = some (.int .i64 z) ∧ RD Oq' w p.q p.N' S')) : (∀ k, Od' k → k < w.heap.size) ∧ (∀ k, Oq' k → k < w.heap.size) := by
  constructor
  · rcases hd with ⟨e, hd⟩ | ⟨C, S', e, hp, hd⟩ <;> exact hd.bound
  · rcases hq with ⟨e, hq⟩ | ⟨z, S', e, hq⟩ <;> exact hq.bound
/-- the text's bytes are laid -/
theorem BG.conv {p : Bp} {post : Int → PD → Prop} {a : Act} {w w' : World} {n c : Nat} (h : BG p post a w) (hb : Below w.heap.size w w') (hlt : w.heap.size < w'.heap.size) (hn : n = p.bs.length) (hS : Tk.Sl w' (some ⟨w.heap.size, 0, none⟩) c p.bs) (h1 : p.tc ≠ p.td) (h2 : p.tc ≠ p.tq) (hsz : p.tc < a.tmps.size) :
    BG p post (a.put (some p.tc) (.slice (some ⟨w.heap.size, 0, none⟩) n c)) w' := by
  obtain ⟨Od', Oq', ha, h0, hd, hq, hc⟩ := h
  obtain ⟨b1, b2⟩ := BG.bounds hd hq
  refine ⟨Od', Oq', ha, Nat.le_trans h0 hb.size, ?_, ?_, fun Bv m c' e => ?_⟩
  · rw [put_ne h1]
    rcases hd with ⟨e, hd⟩ | ⟨C, S', e, hp, hd⟩
    · exact .inl ⟨e, hd.below hb⟩
    · exact .inr ⟨C, S', e, hp, hd.below hb⟩
  · rw [put_ne h2]
    rcases hq with ⟨e, hq⟩ | ⟨z, S', e, hq⟩
    · exact .inl ⟨e, hq.below hb⟩
    · exact .inr ⟨z, S', e, hq.below hb⟩
  · have e2 : (a.put (some p.tc) (.slice (some ⟨w.heap.size, 0, none⟩) n c)).tmps[p.tc]? = some (.slice (some ⟨w.heap.size, 0, none⟩) n c) := by simp [Act.put, hsz]
    rw [e2] at e
    injection e with e
    injection e with e3 e4 e5
    subst e3 e4 e5
    exact ⟨hn, hS, fun b off e' => by
      injection e' with e'
      injection e' with e' _
      subst e'
      exact ⟨hlt, fun hk => by have := b1 _ hk; omega, fun hk => by have := b2 _ hk; omega⟩⟩
/-- the program's call has come -/
theorem BG.dop {p : Bp} {post : Int → PD → Prop} {a : Act} {w w' : World} {Od' Oq' : Nat → Prop} {C : Int} {S' : PD} (ha : Apt p.B0 p.Od p.Oq Od' Oq') (h0 : p.B0 ≤ w.heap.size)
    (hq : (a.tmps[p.tq]? = some undef ∧ RD Oq' w p.q p.N p.Sq) ∨ (∃ z S', a.tmps[p.tq]? = some (.int .i64 z) ∧ RD Oq' w p.q p.N' S'))
    (hc : ∀ Bv m c, a.tmps[p.tc]? = some (.slice Bv m c) → m = p.bs.length ∧ Tk.Sl w Bv c p.bs ∧ ∀ b off, Bv = some ⟨b, off, none⟩ → b < w.heap.size ∧ ¬ Od' b ∧ ¬ Oq' b)
    (hp : post C S') (ho : OpP Od' w p.d p.M' S' w') (h1 : p.td ≠ p.tq) (h2 : p.td ≠ p.tc) (hsz : p.td < a.tmps.size) : BG p post (a.put (some p.td) (.int .i64 C)) w' := by
  have hs := ho.2.size
  have hqb : ∀ k, Oq' k → k < w.heap.size := by rcases hq with ⟨e, hq⟩ | ⟨z, S', e, hq⟩ <;> exact hq.bound
  have hk : ∀ k, k < w.heap.size → ¬ Od' k → w'.heap[k]? = w.heap[k]? := ho.2.block
  refine ⟨On Od' w w', Oq', ⟨fun k hd hq' => ?_, fun k hd => ?_, ha.2.2⟩, Nat.le_trans h0 hs, .inr ⟨C, S', by simp [Act.put, hsz], hp, ho.1⟩, ?_, fun Bv m c e => ?_⟩
  · rcases hd with hd | ⟨hd, _⟩
    · exact ha.1 k hd hq'
    · have := hqb k hq'; omega
  · rcases hd with hd | ⟨hd, _⟩
    · exact ha.2.1 k hd
    · exact .inr (Nat.le_trans h0 hd)
  · rw [put_ne h1]
    rcases hq with ⟨e, hq⟩ | ⟨z, S2, e, hq⟩
    · exact .inl ⟨e, hq.keep hs (fun k hO => hk k (hqb k hO) (fun hd => ha.1 k hd hO))⟩
    · exact .inr ⟨z, S2, e, hq.keep hs (fun k hO => hk k (hqb k hO) (fun hd => ha.1 k hd hO))⟩
  · rw [put_ne h2] at e
    obtain ⟨k1, k2, k3⟩ := hc Bv m c e
    refine ⟨k1, sl_fr k2 (fun b off e' _ => (k3 b off e').2.1) k1 ho.2, fun b off e' => ?_⟩
    obtain ⟨k4, k5, k6⟩ := k3 b off e'
    refine ⟨Nat.lt_of_lt_of_le k4 hs, fun hd => ?_, k6⟩
    rcases hd with hd | ⟨hd, _⟩
    · exact k5 hd
    · omega
/-- the document's call has come -/
theorem BG.qop {p : Bp} {post : Int → PD → Prop} {a : Act} {w w' : World} {Od' Oq' : Nat → Prop} {z : Int} (ha : Apt p.B0 p.Od p.Oq Od' Oq') (h0 : p.B0 ≤ w.heap.size)
    (hd : (a.tmps[p.td]? = some undef ∧ DK Od' w p.d p.M p.S) ∨ (∃ C S', a.tmps[p.td]? = some (.int .i64 C) ∧ post C S' ∧ DK Od' w p.d p.M' S'))
    (hc : ∀ Bv m c, a.tmps[p.tc]? = some (.slice Bv m c) → m = p.bs.length ∧ Tk.Sl w Bv c p.bs ∧ ∀ b off, Bv = some ⟨b, off, none⟩ → b < w.heap.size ∧ ¬ Od' b ∧ ¬ Oq' b)
    (ho : RP Oq' w p.q p.N' w') (h1 : p.tq ≠ p.td) (h2 : p.tq ≠ p.tc) (hsz : p.tq < a.tmps.size) : BG p post (a.put (some p.tq) (.int .i64 z)) w' := by
  obtain ⟨S2, ho1, ho2⟩ := ho
  have hs := ho2.size
  have hdb : ∀ k, Od' k → k < w.heap.size := by rcases hd with ⟨e, hd⟩ | ⟨C, S', e, hp, hd⟩ <;> exact hd.bound
  have hk : ∀ k, k < w.heap.size → ¬ Oq' k → w'.heap[k]? = w.heap[k]? := ho2.block
  refine ⟨Od', On Oq' w w', ⟨fun k hd' hq' => ?_, ha.2.1, fun k hq' => ?_⟩, Nat.le_trans h0 hs, ?_, .inr ⟨z, S2, by simp [Act.put, hsz], ho1⟩, fun Bv m c e => ?_⟩
  · rcases hq' with hq' | ⟨hq', _⟩
    · exact ha.1 k hd' hq'
    · have := hdb k hd'; omega
  · rcases hq' with hq' | ⟨hq', _⟩
    · exact ha.2.2 k hq'
    · exact .inr (Nat.le_trans h0 hq')
  · rw [put_ne h1]
    rcases hd with ⟨e, hd⟩ | ⟨C, S', e, hp, hd⟩
    · exact .inl ⟨e, hd.keep hs (fun k hO => hk k (hdb k hO) (fun hq' => ha.1 k hO hq'))⟩
    · exact .inr ⟨C, S', e, hp, hd.keep hs (fun k hO => hk k (hdb k hO) (fun hq' => ha.1 k hO hq'))⟩
  · rw [put_ne h2] at e
    obtain ⟨k1, k2, k3⟩ := hc Bv m c e
    refine ⟨k1, sl_fr k2 (fun b off e' _ => (k3 b off e').2.2) k1 ho2, fun b off e' => ?_⟩
    obtain ⟨k4, k5, k6⟩ := k3 b off e'
    refine ⟨Nat.lt_of_lt_of_le k4 hs, k5, fun hq' => ?_⟩
    rcases hq' with hq' | ⟨hq', _⟩
    · exact k6 hq'
    · omega
end Go.Proofs.Ytamhgbkdljggbaa.Dk
