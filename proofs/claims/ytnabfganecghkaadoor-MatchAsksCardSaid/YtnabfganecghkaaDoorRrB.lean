/- A node of bytes: its 256 bools, its box; only. -/
import Derived.Test.YtnabfganecghkaaDoorRrA
namespace Go.Proofs.YtnabfganecghkaaDoor
open Go.RowKit
set_option linter.unusedVariables false

/-- 256 bools in a block -/
structure Hb (w : World) (b : Nat) (X : Nat → Bool) : Prop where
  hw : b < w.heap.size
  c : ∀ i, i < 256 → w.cell? ⟨b, i, none⟩ = some (.bool (X i))
  f : ∀ i, w.frozen? ⟨b, i, none⟩ = false
theorem Hb.at {w w' : World} {b : Nat} {X : Nat → Bool} (h : Hb w b X) (hs : w.heap.size ≤ w'.heap.size) (hb : w'.heap[b]? = w.heap[b]?) : Hb w' b X :=
  ⟨Nat.lt_of_lt_of_le h.hw hs, fun i hi => (World.cell?_of_block hb).trans (h.c i hi), fun i => (World.frozen?_of_block hb).trans (h.f i)⟩
theorem Hb.below {w w' : World} {b : Nat} {X : Nat → Bool} (h : Hb w b X) (k : Below w.heap.size w w') : Hb w' b X := h.at k.size (k.block b h.hw)
theorem Hb.go {w w' : World} {b q : Nat} {X : Nat → Bool} (h : Hb w b X) (k : Go1 q nvo nvo w w') (hq : b ≠ q) : Hb w' b X := h.at k.size (k.s.block b h.hw hq (by simp [Value.ownBlock]))
theorem Hb.other {w : World} {b : Nat} {X : Nat → Bool} (h : Hb w b X) {a : Addr} (ha : b ≠ a.block) (u : Value) : Hb (w.setCell a u) b X := h.at (by simp) (Below.heap_setCell w a u b ha)
theorem Hb.put {w : World} {b : Nat} {X Y : Nat → Bool} (h : Hb w b X) (j : Nat) (hj : j < 256) (v : Bool) (hY : ∀ i, i < 256 → i ≠ j → Y i = X i) (hv : Y j = v) : Hb (w.setCell ⟨b, j, none⟩ (.bool v)) b Y := by
  refine ⟨by simpa using h.hw, fun i hi => ?_, fun i => ?_⟩
  · by_cases hij : i = j
    · subst hij
      have hc := h.c i hi
      rw [hv]
      simp [go_sem, hc]
    · have hne : (⟨b, j, none⟩ : Addr) ≠ ⟨b, i, none⟩ := fun e => hij (by injection e with _ e2 _; exact e2.symm)
      rw [World.cell?_setCell_other _ _ _ _ hne, hY i hi hij]
      exact h.c i hi
  · have hf := h.f i
    simp [go_sem, hf]
theorem Hb.congr {w : World} {b : Nat} {X Y : Nat → Bool} (h : Hb w b X) (hXY : ∀ i, i < 256 → X i = Y i) : Hb w b Y := ⟨h.hw, fun i hi => by rw [h.c i hi, hXY i hi], h.f⟩
theorem mk256 (w : World) : (Instr.makeSlice 57 (.int .i64 256) (.int .i64 256)).run Tryd.prog w = .ok (.slice (some ⟨w.heap.size, 0, none⟩) 256 256) (w.alloc (.cells (Array.replicate 256 (.bool false)) 4)) := by kernel_rfl
theorem Hb.new (w : World) : Hb (w.alloc (.cells (Array.replicate 256 (.bool false)) 4)) w.heap.size (fun _ => false) := by
  have hb : (w.alloc (.cells (Array.replicate 256 (.bool false)) 4)).heap[w.heap.size]? = some (.cells (Array.replicate 256 (.bool false)) 4 (0, 0)) := heap_alloc_new w _
  refine ⟨by simp, fun i hi => ?_, fun i => ?_⟩
  · rw [cell_of_row _ _ _ _ _ _ hb]
    simp [hi]
  · generalize w.alloc (.cells (Array.replicate 256 (.bool false)) 4) = W at *
    simp [World.frozen?, hb]
def byteB : ByteArray := ⟨#[98, 121, 116, 101]⟩
/-- a box for a node -/
structure Nb (w : World) (h : Nat) (kd : ByteArray) (hs ks : Value) : Prop where
  hw : h < w.heap.size
  blk : w.heap[h]? = some (.cells #[.string kd, hs, ks] 60 (0, 0))
theorem Nb.at {w w' : World} {h : Nat} {kd : ByteArray} {hs ks : Value} (b : Nb w h kd hs ks) (s : w.heap.size ≤ w'.heap.size) (hb : w'.heap[h]? = w.heap[h]?) : Nb w' h kd hs ks := ⟨Nat.lt_of_lt_of_le b.hw s, hb.trans b.blk⟩
theorem Nb.below {w w' : World} {h : Nat} {kd : ByteArray} {hs ks : Value} (b : Nb w h kd hs ks) (k : Below w.heap.size w w') : Nb w' h kd hs ks := b.at k.size (k.block h b.hw)
theorem Nb.go {w w' : World} {h q : Nat} {kd : ByteArray} {hs ks : Value} (b : Nb w h kd hs ks) (k : Go1 q nvo nvo w w') (hq : h ≠ q) : Nb w' h kd hs ks := b.at k.size (k.s.block h b.hw hq (by simp [Value.ownBlock]))
theorem Nb.other {w : World} {h : Nat} {kd : ByteArray} {hs ks : Value} (b : Nb w h kd hs ks) {a : Addr} (ha : h ≠ a.block) (u : Value) : Nb (w.setCell a u) h kd hs ks := b.at (by simp) (Below.heap_setCell w a u h ha)
theorem Nb.cells {w : World} {h : Nat} {kd : ByteArray} {hs ks : Value} (b : Nb w h kd hs ks) : (w.cell? ⟨h, 0, none⟩ = some (.string kd) ∧ w.cell? ⟨h, 1, none⟩ = some hs ∧ w.cell? ⟨h, 2, none⟩ = some ks) ∧ w.frozen? ⟨h, 0, none⟩ = false ∧ w.frozen? ⟨h, 1, none⟩ = false ∧ w.frozen? ⟨h, 2, none⟩ = false := by
  have hb := b.blk
  refine ⟨⟨?_, ?_, ?_⟩, by simp [World.frozen?, hb], by simp [World.frozen?, hb], by simp [World.frozen?, hb]⟩
  · rw [cell_of_row _ _ _ _ _ _ hb]; rfl
  · rw [cell_of_row _ _ _ _ _ _ hb]; rfl
  · rw [cell_of_row _ _ _ _ _ _ hb]; rfl
theorem Nb.new (w : World) (kd : ByteArray) (hs ks : Value) : Nb (w.alloc (.cells #[.string kd, hs, ks] 60 (0, 0))) w.heap.size kd hs ks := ⟨by simp, heap_alloc_new w _⟩
/-- what only has -/
def onX (lo hi : Int) (nt : Bool) : Nat → Bool := fun i => (decide (lo ≤ (i : Int)) && decide ((i : Int) ≤ hi)) != nt
/-- the first k of them -/
def upN (X : Nat → Bool) (k : Nat) : Nat → Bool := fun i => decide (i < k) && X i
def OnRel (w : World) (lo hi : Int) (nt : Bool) (h : Nat) (v8 : Value) (wr : World) : Prop :=
  ∃ k : Nat, v8 = .int .i64 (k : Int) ∧ k ≤ 256 ∧ Hb wr (h + 1) (upN (onX lo hi nt) k) ∧ Nb wr h ⟨#[]⟩ nvo nvo ∧ Nb wr (h + 1 + 1) byteB (.slice (some ⟨h + 1, 0, none⟩) 256 256) nvo ∧ Below w.heap.size w wr
/-- a node of bytes, new -/
def ByP (X : Nat → Bool) (w : World) (y : Ending) (w' : World) : Prop :=
  ∃ b, y = .returned (.agg #[.string byteB, .slice (some ⟨b, 0, none⟩) 256 256, nvo]) ∧ w.heap.size ≤ b ∧ Hb w' b X ∧ Below w.heap.size w w'
set_option maxHeartbeats 2000000 in
set_option maxRecDepth 100000 in
theorem only_any (lo hi : Int) (nt : Bool) (w : World) : Calls Tryd.prog 73 #[.int .i64 lo, .int .i64 hi, .bool nt] w (ByP (onX lo hi nt) w) := by
  have hmk := mk256
  obtain ⟨h, hh⟩ : ∃ h, w.heap.size = h := ⟨_, rfl⟩
  obtain ⟨W0, hW0⟩ : ∃ W0, w.alloc (.cells #[.string ⟨#[]⟩, nvo, nvo] 60 (0, 0)) = W0 := ⟨_, rfl⟩
  obtain ⟨W1, hW1⟩ : ∃ W1, W0.alloc (.cells (Array.replicate 256 (.bool false)) 4) = W1 := ⟨_, rfl⟩
  have s0 : W0.heap.size = h + 1 := by rw [← hW0, ← hh]; simp
  have s1 : W1.heap.size = h + 1 + 1 := by rw [← hW1]; simp [s0]
  have n0 : Nb W0 h ⟨#[]⟩ nvo nvo := hh ▸ hW0 ▸ Nb.new w _ _ _
  have b1 : Hb W1 (h + 1) (fun _ => false) := s0 ▸ hW1 ▸ Hb.new W0
  have B01 : Below W0.heap.size W0 W1 := hW1 ▸ (Below.refl _ _).alloc (Nat.le_refl _) _
  have B0 : Below w.heap.size w W0 := hW0 ▸ (Below.refl _ _).alloc (Nat.le_refl _) _
  have B1 := B0.trans (B01.mono B0.size)
  obtain ⟨W2, hW2⟩ : ∃ W2, W1.alloc (.cells #[.string byteB, .slice (some ⟨h + 1, 0, none⟩) 256 256, nvo] 60 (0, 0)) = W2 := ⟨_, rfl⟩
  have B12 : Below W1.heap.size W1 W2 := hW2 ▸ (Below.refl _ _).alloc (Nat.le_refl _) _
  have R0 := Lib.hid (show OnRel w lo hi nt h (.int .i64 ((0 : Nat) : Int)) W2 from ⟨0, rfl, by omega, (b1.below B12).congr (fun i _ => by simp [upN]), (n0.below B01).below B12, s1 ▸ hW2 ▸ Nb.new W1 _ _ _, B1.trans (B12.mono B1.size)⟩)
  have HH := Lib.hid (show w.heap.size ≤ h by omega)
  have HW2 := Lib.hid hW2
  unfold nvo at hW0
  clear b1 n0 B01 B0 B1 B12 hW2
  go_enter Tryd.func73, Tryd.ntmps73
  go_wp2_with fail
  have h2 := HW2.out
  unfold byteB nvo at h2
  rw [h2]
  clear h2 hmk hW0 hW1 hh
  go_loopw [8] (fun v8 wr => Hid (OnRel w lo hi nt h v8 wr)) (fun v8 _ => 256 - (intOf v8).toNat)
  case atStart => exact R0
  case round =>
    clear R0
    obtain ⟨k, rfl, hk, hb, n0, n2, bl⟩ := hrel.out
    clear hrel
    obtain ⟨⟨z0, z1, z2⟩, zf0, zf1, zf2⟩ := n0.cells
    obtain ⟨⟨x0, x1, x2⟩, xf0, xf1, xf2⟩ := n2.cells
    have HBB := Lib.hid hb
    have N0 := Lib.hid n0
    have N2 := Lib.hid n2
    have BL := Lib.hid bl
    by_cases hlt : k < 256
    · have hki : (k : Int) < 256 := by omega
      have c1 := hb.c k hlt
      have cf := hb.f k
      obtain ⟨q1, hq1⟩ : ∃ q1, decide (lo ≤ (k : Int)) = q1 := ⟨_, rfl⟩
      obtain ⟨q2, hq2⟩ : ∃ q2, decide ((k : Int) ≤ hi) = q2 := ⟨_, rfl⟩
      have HV := Lib.hid (show onX lo hi nt k = ((q1 && q2) != nt) by unfold onX; rw [hq1, hq2])
      clear hb n0 n2 bl
      cases q1
      all_goals
        go_wp2_with fail
        go_roundw
        case rel => exact Lib.hid ⟨k + 1, by go_num, by omega, HBB.out.put k hlt _ (fun i _ hik => by
          unfold upN
          congr 1
          exact decide_eq_decide.2 (by omega)) (by
          unfold upN
          rw [HV.out]
          first | (simp; done) | (cases q2 <;> cases nt <;> simp)), N0.out.other (by simp) _, N2.out.other (by simp) _, BL.out.setCell (p := ⟨h + 1, k, none⟩) (by have := HH.out; show w.heap.size ≤ h + 1; omega) _⟩
        case measure => simp [intOf]; omega
    · obtain rfl : k = 256 := by omega
      have hki : ¬ ((256 : Nat) : Int) < 256 := by omega
      clear hb n0 n2 bl
      go_wp2_with fail
      refine bodyPost_ret (v := .agg #[.string byteB, .slice (some ⟨h + 1, 0, none⟩) 256 256, nvo]) (by simp [results, Tryd.results73, go_sem, z0, z1, z2]) rfl ⟨h + 1, rfl, by have := HH.out; omega, ?_, ?_⟩
      · exact (((HBB.out.congr (fun i hi => by simp [upN, hi])).other (a := ⟨h, 0, none⟩) (by simp) _).other (a := ⟨h, 1, none⟩) (by simp) _).other (a := ⟨h, 2, none⟩) (by simp) _
      · exact ((BL.out.setCell (p := ⟨h, 0, none⟩) HH.out _).setCell (p := ⟨h, 1, none⟩) HH.out _).setCell (p := ⟨h, 2, none⟩) HH.out _
end Go.Proofs.YtnabfganecghkaaDoor
