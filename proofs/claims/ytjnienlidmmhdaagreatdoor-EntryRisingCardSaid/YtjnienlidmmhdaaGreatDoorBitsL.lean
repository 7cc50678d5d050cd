/- What writers keep beside each other; the law's own example; the law BitsShort's walk. -/
import Derived.Test.YtjnienlidmmhdaaGreatDoorBitsS
namespace Go.Proofs.YtjnienlidmmhdaaGreatDoor.Bw
open Go.RowKit

theorem val_inj : ∀ (k : Nat) (xs ys : List Nat), xs.length = k → ys.length = k → (∀ b ∈ xs, b < 256) → (∀ b ∈ ys, b < 256) → val xs = val ys → xs = ys
  | 0, xs, ys, h1, h2, _, _, _ => by rw [List.length_eq_zero_iff.mp h1, List.length_eq_zero_iff.mp h2]
  | k + 1, xs, ys, h1, h2, hx, hy, hv => by
    have nx : xs ≠ [] := by intro h; rw [h] at h1; simp at h1
    have ny : ys ≠ [] := by intro h; rw [h] at h2; simp at h2
    have ex := (List.dropLast_concat_getLast nx).symm
    have ey := (List.dropLast_concat_getLast ny).symm
    generalize xs.dropLast = cs at ex
    generalize xs.getLast nx = c at ex
    generalize ys.dropLast = ds at ey
    generalize ys.getLast ny = d at ey
    subst ex ey
    rw [val_snoc, val_snoc] at hv
    have hc := hx c (by simp)
    have hd := hy d (by simp)
    have e1 : val cs = val ds := by omega
    have e2 : c = d := by omega
    rw [e2, val_inj k cs ds (by simpa using h1) (by simpa using h2) (fun b hb => hx b (by simp [hb])) (fun b hb => hy b (by simp [hb])) e1]
theorem Laid.same_bytes {xs ys : List Nat} {n V : Nat} (h : Laid xs n V) (k : Laid ys n V) : xs = ys := by
  have hl : xs.length = ys.length := h.1.trans k.1.symm
  refine val_inj _ xs ys hl rfl h.2.1 k.2.1 ?_
  rw [h.2.2.1, k.2.2.1, hl]
theorem Laid.same_value {xs : List Nat} {n V V' : Nat} (h : Laid xs n V) (k : Laid xs n V') : V = V' := by
  have e := h.2.2.1.symm.trans k.2.2.1
  exact Nat.eq_of_mul_eq_mul_right (Nat.two_pow_pos _) e

theorem Wr.keep {w w' : World} {p B n : Nat} {v : Value} {bs : List Nat} (h : Wr w p B v bs n) (hs : w.heap.size ≤ w'.heap.size) (hp : w'.heap[p]? = w.heap[p]?) (hr : ∀ g, v.ownBlock = some g → w'.heap[g]? = w.heap[g]?) : Wr w' p B v bs n := by
  obtain ⟨pb, bw, c0, c1, f0, f1, own⟩ := h
  refine ⟨pb, Nat.le_trans bw hs, (World.cell?_of_block hp).trans c0, (World.cell?_of_block hp).trans c1, (World.frozen?_of_block hp).trans f0, (World.frozen?_of_block hp).trans f1, ?_⟩
  obtain ⟨h1, h2⟩ := own
  refine ⟨h1, ?_⟩
  rcases h2 with h2 | ⟨g, cap, cur, hv, hg, hh, r⟩
  · exact .inl h2
  · exact .inr ⟨g, cap, cur, hv, hg, (hr g (by rw [hv]; rfl)).trans hh, r⟩
theorem Wr.below {w w' : World} {p B n : Nat} {v : Value} {bs : List Nat} (h : Wr w p B v bs n) (hb : Below w.heap.size w w') : Wr w' p B v bs n := by
  have h1 := h.pb
  have h2 := h.bw
  exact h.keep hb.size (hb.block p (by omega)) (fun g hg => hb.block g (h.own.lt g hg).2)
/-- another writer's step leaves this one as it is -/
theorem Wr.step {w w' : World} {p B n q : Nat} {v : Value} {bs : List Nat} {r : Option Nat} (h : Wr w p B v bs n) (s : Step q r w w') (hpq : p ≠ q) (hq : q < B) (hrp : r ≠ some p) (hrv : ∀ g, v.ownBlock = some g → r ≠ some g) : Wr w' p B v bs n := by
  have h1 := h.pb
  have h2 := h.bw
  exact h.keep s.size (s.block p (by omega) hpq hrp) (fun g hg => s.block g (h.own.lt g hg).2 (by have := (h.own.lt g hg).1; omega) (hrv g hg))
/-- a fresh writer -/
theorem Wr.fresh {w : World} {p B : Nat} (pb : p < B) (bw : B ≤ w.heap.size) (c0 : w.cell? ⟨p, 0, none⟩ = some (.slice none 0 0)) (c1 : w.cell? ⟨p, 1, none⟩ = some (.int .i64 0)) (f0 : w.frozen? ⟨p, 0, none⟩ = false) (f1 : w.frozen? ⟨p, 1, none⟩ = false) :
    Wr w p B (.slice none 0 0) [] 0 := ⟨pb, bw, c0, c1, f0, f1, World.ownsRow_nil _ _ _ _⟩
theorem Step.below {p : Nat} {w w' : World} (s : Step p none w w') (W : World) (hW : Below W.heap.size W w) (hp : W.heap.size ≤ p) : Below W.heap.size W w' :=
  ⟨s.os.trans hW.os, s.tape.trans hW.tape, s.output.trans hW.output, Nat.le_trans hW.size s.size, fun k hk => (s.block k (Nat.lt_of_lt_of_le hk hW.size) (by omega) (by simp)).trans (hW.block k hk)⟩
theorem Tab.below {w w' : World} (h : Tab w) (hb : Below w.heap.size w w') (hz : 0 < w.heap.size) : Tab w' := by
  have hc : ∀ j, w'.cell? ⟨0, j, none⟩ = w.cell? ⟨0, j, none⟩ := fun j => hb.cell (p := ⟨0, j, none⟩) hz
  unfold Tab
  rw [hc, hc, hc, hc, hc, hc, hc]
  exact h
theorem Tab.pos {w : World} (h : Tab w) : 0 < w.heap.size := by
  by_cases hz : 0 < w.heap.size
  · exact hz
  · have := h.1
    simp [World.cell?, show w.heap.size = 0 by omega] at this

end Go.Proofs.YtjnienlidmmhdaaGreatDoor.Bw
