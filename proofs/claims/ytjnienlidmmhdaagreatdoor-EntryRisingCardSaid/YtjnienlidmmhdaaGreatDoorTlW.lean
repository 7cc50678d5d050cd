/- A writer's bits as a list. -/
import Derived.Test.YtjnienlidmmhdaaGreatDoorTlA
namespace Go.Proofs.YtjnienlidmmhdaaGreatDoor.Tl
open Go.RowKit Go.Sort
set_option linter.unusedVariables false

theorem cell_belowW {w w' : World} {a : Addr} {v : Value} (h : w.cell? a = some v) (hb : Below w.heap.size w w') : w'.cell? a = some v := (hb.cell (block_lt_of_cell h)).trans h
theorem tab_eq {w : World} (h : Tk.Tab w) : Bw.Tab w := h
theorem tab_below {w w' : World} (h : Tk.Tab w) (hb : Below w.heap.size w w') : Tk.Tab w' := by
  obtain ⟨h0, h1, h2, h3, h4, h5, h6⟩ := h
  exact ⟨cell_belowW h0 hb, cell_belowW h1 hb, cell_belowW h2 hb, cell_belowW h3 hb, cell_belowW h4 hb, cell_belowW h5 hb, cell_belowW h6 hb⟩
theorem tab_pos {w : World} (h : Tk.Tab w) : 0 < w.heap.size := by
  have := block_lt_of_cell h.1
  omega
/-- the writer at block p has laid l, all behind the world W0 -/
def WS (W0 : World) (p B : Nat) (l : List Bool) (w : World) : Prop := (∃ v bs, Bw.Wr w p B v bs l.length ∧ LaidL bs l) ∧ Below W0.heap.size W0 w
/-- .. and its bytes don't lie in block g -/
def WX (W0 : World) (p B g : Nat) (l : List Bool) (w : World) : Prop := (∃ v bs, Bw.Wr w p B v bs l.length ∧ LaidL bs l ∧ v.ownBlock ≠ some g) ∧ Below W0.heap.size W0 w
theorem WX.out {W0 w : World} {p B g : Nat} {l : List Bool} (h : WX W0 p B g l w) : WS W0 p B l w := by
  obtain ⟨⟨v, bs, h1, h2, _⟩, h3⟩ := h
  exact ⟨⟨v, bs, h1, h2⟩, h3⟩
theorem WS.box {W0 w : World} {p B : Nat} {l : List Bool} (h : WS W0 p B l w) (o : Obj) : WX W0 p B w.heap.size l (w.alloc o) := by
  obtain ⟨⟨v, bs, h1, h2⟩, h3⟩ := h
  refine ⟨⟨v, bs, h1.below ((Below.refl _ _).alloc (Nat.le_refl _) o), h2, fun e => ?_⟩, h3.alloc h3.size o⟩
  have := (h1.own.lt _ e).2
  omega
theorem WS.below {W0 w w' : World} {p B : Nat} {l : List Bool} (h : WS W0 p B l w) (hb : Below w.heap.size w w') : WS W0 p B l w' := by
  obtain ⟨⟨v, bs, h1, h2⟩, h3⟩ := h
  exact ⟨⟨v, bs, h1.below hb, h2⟩, h3.trans (hb.mono h3.size)⟩
theorem count_x (y : Int) (W0 : World) (p B g : Nat) (l : List Bool) (w : World) (h : WX W0 p B g l w) (hp : W0.heap.size ≤ p) (hT : Tk.Tab W0) (hg : g < w.heap.size) (hgp : g ≠ p) (hn : l.length ≤ 800000) (y0 : 0 ≤ y) (y1 : y ≤ 18446744073709551615) :
    Calls Tryz.prog 49 #[.pointer (some ⟨p, 0, none⟩), .int .u64 y] w fun e w' => e = .returned (.tuple #[]) ∧ WX W0 p B g (l ++ Tk.codeL y.toNat) w' ∧ w'.heap[g]? = w.heap[g]? ∧ w.heap.size ≤ w'.heap.size := by
  obtain ⟨⟨v, bs, h1, h2, h4⟩, h3⟩ := h
  obtain ⟨x, rfl⟩ := Int.eq_ofNat_of_zero_le y0
  have hx : x ≤ 18446744073709551615 := by omega
  obtain ⟨c1, c2, _⟩ := codeL_parts x hx
  have hz := tab_pos hT
  refine (Bw.count_any x p B l.length (valB l) v bs w h1 h2 (tab_eq (tab_below hT h3)) (by omega) hn hx).mono ?_
  rintro e w' ⟨rfl, v', bs', r1, r2, r3, r4⟩
  rw [Int.toNat_natCast]
  rw [← c1, ← c2] at r2
  rw [← c1] at r1
  refine ⟨rfl, ⟨⟨v', bs', by rw [List.length_append]; exact r1, LaidL.step r2, fun e => ?_⟩, ⟨r3.os.trans h3.os, r3.tape.trans h3.tape, r3.output.trans h3.output, Nat.le_trans h3.size r3.size, fun k hk => ?_⟩⟩, r3.block g hg hgp h4, r3.size⟩
  · rcases r4 g e with h | h
    · exact h4 h
    · omega
  · rw [r3.block k (Nat.lt_of_lt_of_le hk h3.size) (by omega) (fun e => by have := (h1.own.lt k e).1; have := h1.pb; omega)]
    exact h3.block k hk
theorem count_s (y : Int) (W0 : World) (p B : Nat) (l : List Bool) (w : World) (h : WS W0 p B l w) (hp : W0.heap.size ≤ p) (hT : Tk.Tab W0) (hn : l.length ≤ 800000) (y0 : 0 ≤ y) (y1 : y ≤ 18446744073709551615) :
    Calls Tryz.prog 49 #[.pointer (some ⟨p, 0, none⟩), .int .u64 y] w fun e w' => e = .returned (.tuple #[]) ∧ WS W0 p B (l ++ Tk.codeL y.toNat) w' := by
  obtain ⟨⟨v, bs, h1, h2⟩, h3⟩ := h
  obtain ⟨x, rfl⟩ := Int.eq_ofNat_of_zero_le y0
  have hx : x ≤ 18446744073709551615 := by omega
  obtain ⟨c1, c2, _⟩ := codeL_parts x hx
  have hz := tab_pos hT
  refine (Bw.count_any x p B l.length (valB l) v bs w h1 h2 (tab_eq (tab_below hT h3)) (by omega) hn hx).mono ?_
  rintro e w' ⟨rfl, v', bs', r1, r2, r3, r4⟩
  rw [Int.toNat_natCast]
  rw [← c1, ← c2] at r2
  rw [← c1] at r1
  refine ⟨rfl, ⟨v', bs', by rw [List.length_append]; exact r1, LaidL.step r2⟩, ⟨r3.os.trans h3.os, r3.tape.trans h3.tape, r3.output.trans h3.output, Nat.le_trans h3.size r3.size, fun k hk => ?_⟩⟩
  rw [r3.block k (Nat.lt_of_lt_of_le hk h3.size) (by omega) (fun e => by have := (h1.own.lt k e).1; have := h1.pb; omega)]
  exact h3.block k hk

end Go.Proofs.YtjnienlidmmhdaaGreatDoor.Tl
