/- takeChange of a Retain's bytes. -/
import Derived.Test.YtjnienlidmmhdaaGreatDoorErF
import Derived.Handy
namespace Go.Proofs.YtjnienlidmmhdaaGreatDoor.En
open Go.RowKit Go.Sort
set_option linter.unusedVariables false
open Tl (WS WX valB LaidL tab_below tab_pos)

theorem heap_setE {w : World} {g i : Nat} {cs : Array Value} {t : TypeId} {fr : Nat × Nat} (h : w.heap[g]? = some (.cells cs t fr)) (u : Value) : (w.setCell ⟨g, i, none⟩ u).heap[g]? = some (.cells (cs.setIfInBounds i u) t fr) := by
  simp [World.setCell, Array.getElem?_modify, h]
theorem rd_keep {w w' : World} {q l c : Nat} {a : Option Addr} {bs : List Nat} {s : Nat × Int} (h : Tk.Rd w q a l c bs s) (hs : w.heap.size ≤ w'.heap.size) (hk : ∀ k, k < w.heap.size → w'.heap[k]? = w.heap[k]?) : Tk.Rd w' q a l c bs s := by
  have e := hk q h.qw
  refine h.moved hs (fun k hk' _ => hk k hk') (World.cell?_of_block e) ((World.cell?_of_block e).trans h.c1) ((World.cell?_of_block e).trans h.c2) ?_ ?_ h.tl
  · have := h.f1
    unfold World.frozen? at this ⊢
    rw [show w'.heap[(⟨q, 1, none⟩ : Addr).block]? = w.heap[(⟨q, 1, none⟩ : Addr).block]? from e]
    exact this
  · have := h.f2
    unfold World.frozen? at this ⊢
    rw [show w'.heap[(⟨q, 2, none⟩ : Addr).block]? = w.heap[(⟨q, 2, none⟩ : Addr).block]? from e]
    exact this
theorem rd_below {w w' : World} {q l c : Nat} {a : Option Addr} {bs : List Nat} {s : Nat × Int} (h : Tk.Rd w q a l c bs s) (hb : Below w.heap.size w w') : Tk.Rd w' q a l c bs s := rd_keep h hb.size fun k hk => hb.block k hk
theorem set4 {w : World} {g : Nat} {v0 v1 v2 v3 : Value} (u0 u1 u2 u3 : Value) (h : w.heap[g]? = some (.cells #[v0, v1, v2, v3] 58 (0, 0))) :
    ((((w.setCell ⟨g, 0, none⟩ u0).setCell ⟨g, 1, none⟩ u1).setCell ⟨g, 2, none⟩ u2).setCell ⟨g, 3, none⟩ u3).heap[g]? = some (.cells #[u0, u1, u2, u3] 58 (0, 0)) ∧
    Tk.Step g none w ((((w.setCell ⟨g, 0, none⟩ u0).setCell ⟨g, 1, none⟩ u1).setCell ⟨g, 2, none⟩ u2).setCell ⟨g, 3, none⟩ u3) :=
  ⟨heap_setE (heap_setE (heap_setE (heap_setE h u0) u1) u2) u3, ⟨rfl, rfl, rfl, by simp, fun k _ hk _ => by
    rw [Below.heap_setCell _ _ _ _ hk, Below.heap_setCell _ _ _ _ hk, Below.heap_setCell _ _ _ _ hk, Below.heap_setCell _ _ _ _ hk]⟩⟩
set_option maxHeartbeats 4000000 in
set_option maxRecDepth 100000 in
theorem take3_any (m : Int) (q n c : Nat) (a : Option Addr) (bs : List Nat) (w : World) (hm : inT m = true) (hl : LaidL bs (ret3 m)) (h : Tk.Rd w q a n c bs (0, 0)) (hT : Tk.Tab w) (hq : q ≠ 0) :
    Calls Tryz.prog 86 #[.pointer (some ⟨q, 0, none⟩)] w fun e w' => e = .returned (.tuple #[.agg #[.int .i64 3, .slice none 0 0, .slice none 0 0, .int .i64 m], .bool true]) ∧ Tk.Step q none w w' := by
  obtain ⟨hm0, hm1⟩ := inT_of hm
  obtain ⟨r1, u, r2⟩ := read3 hm hl
  obtain ⟨W1, hW1⟩ : ∃ W1, w.alloc (.cells #[.int .i64 0, .slice none 0 0, .slice none 0 0, .int .i64 0] 58 (0, 0)) = W1 := ⟨_, rfl⟩
  obtain ⟨g, hg⟩ : ∃ g, w.heap.size = g := ⟨_, rfl⟩
  obtain ⟨⟨x0, x1, x2, x3⟩, hbx, hb1⟩ := box4 hW1 hg
  have hrd1 : Tk.Rd W1 q a n c bs (0, 0) := rd_below h hb1
  have HG := Lib.hid (Tk.get_any q n c 2 a bs (0, 0) W1 hrd1 (by omega))
  rw [r1] at HG
  have H1 := Lib.hid (And.intro h (And.intro hT (And.intro hbx (And.intro hb1 (And.intro r2 (And.intro hq hg))))))
  have HM := Lib.hid (And.intro hm0 hm1)
  clear hm hl h hT hq hb1 hbx hrd1 r1 r2
  go_enter Tryz.func86, Tryz.ntmps86
  go_wp2_with fail
  refine HG.out.mono ?_
  rintro e w2 ⟨rfl, hrd2, hst2⟩
  obtain ⟨h, hT, hbx, hb1, r2, hq, hg'⟩ := H1.out
  have hgq : g ≠ q := by have := h.qw; omega
  have hgl := (Array.getElem?_eq_some_iff.1 hbx).1
  have hbx2 : w2.heap[g]? = some (.cells #[.int .i64 0, .slice none 0 0, .slice none 0 0, .int .i64 0] 58 (0, 0)) := (hst2.block g hgl hgq (by simp)).trans hbx
  obtain ⟨W3, hW3⟩ : ∃ W3, w2.alloc (.cells #[.int .i64 3, .slice none 0 0, .slice none 0 0, .int .i64 0] 58 (0, 0)) = W3 := ⟨_, rfl⟩
  obtain ⟨g3, hg3⟩ : ∃ g3, w2.heap.size = g3 := ⟨_, rfl⟩
  obtain ⟨⟨y0, y1, y2, y3⟩, hby, hb3⟩ := box4 hW3 hg3
  have hT3 : Tk.Tab W3 := by
    have hT1 := tab_below hT hb1
    refine tab_below (w := w2) ?_ hb3
    have hp := tab_pos hT1
    have e0 : w2.heap[0]? = W1.heap[0]? := hst2.block 0 hp (Ne.symm hq) (by simp)
    obtain ⟨t0, t1, t2, t3, t4, t5, t6⟩ := hT1
    exact ⟨(World.cell?_of_block e0).trans t0, (World.cell?_of_block e0).trans t1, (World.cell?_of_block e0).trans t2, (World.cell?_of_block e0).trans t3, (World.cell?_of_block e0).trans t4, (World.cell?_of_block e0).trans t5, (World.cell?_of_block e0).trans t6⟩
  have HS := Lib.hid (Tk.small_any 1099511627776 q n c a bs (2, 0) W3 (rd_below hrd2 hb3) hT3 hq (by omega))
  rw [r2] at HS
  have H2 := Lib.hid (show W3.heap[g]? = some (.cells #[.int .i64 0, .slice none 0 0, .slice none 0 0, .int .i64 0] 58 (0, 0)) ∧ g ≠ q ∧ g < W3.heap.size ∧ Tk.Step q none W1 W3 ∧ g3 ≠ q ∧ g3 < W3.heap.size ∧ W3.heap[g3]? = some (.cells #[.int .i64 3, .slice none 0 0, .slice none 0 0, .int .i64 0] 58 (0, 0)) from
    ⟨(hb3.block g (by have := hst2.size; omega)).trans hbx2, hgq, by have := hst2.size; have := hb3.size; omega, ⟨hb3.os.trans hst2.os, hb3.tape.trans hst2.tape, hb3.output.trans hst2.output, Nat.le_trans hst2.size hb3.size, fun k hk h1 h2 => (hb3.block k (Nat.lt_of_lt_of_le hk hst2.size)).trans (hst2.block k hk h1 h2)⟩, by have := h.qw; have := hb1.size; have := hst2.size; omega, (Array.getElem?_eq_some_iff.1 hby).1, hby⟩)
  have HW3 := Lib.hid hW3
  have hst2s := Lib.hid (show W1.heap.size ≤ g3 by have := hst2.size; omega)
  clear h hT hbx hb1 r2 hq hgq hgl hbx2 hby hb3 hT3 hrd2 hst2 HG x0 x1 x2 x3 hW3 y0 y1 y2 y3
  go_wp2_with fail
  rw [HW3.out]
  refine HS.out.mono ?_
  rintro e w4 ⟨rfl, hrd4, hst4⟩
  obtain ⟨k1, k2, k3, k4, k5, k6, k7⟩ := H2.out
  have z4 := (hst4.block g k3 k2 (by simp)).trans k1
  have z7 := (hst4.block g3 k6 k5 (by simp)).trans k7
  obtain ⟨z0, z1, z2, z3⟩ := row4 z7
  obtain ⟨v0, v1, v2, v3⟩ := row4 z4
  have hmm : ((m.toNat : Nat) : Int) = m := by have := HM.out; omega
  rw [hmm]
  have f7 : w4.frozen? ⟨g3, 3, none⟩ = false := by simp [World.frozen?, z7]
  obtain ⟨W5, hW5⟩ : ∃ W5, w4.setCell ⟨g3, 3, none⟩ (.int .i64 m) = W5 := ⟨_, rfl⟩
  have z5 : W5.heap[g3]? = some (.cells #[.int .i64 3, .slice none 0 0, .slice none 0 0, .int .i64 m] 58 (0, 0)) := by
    rw [← hW5]
    exact heap_setE z7 _
  have hgg : g ≠ g3 := by have := H1.out.2.2.1; have := (Array.getElem?_eq_some_iff.1 this).1; have := hst2s.out; omega
  have v5 : W5.heap[g]? = some (.cells #[.int .i64 0, .slice none 0 0, .slice none 0 0, .int .i64 0] 58 (0, 0)) := by
    rw [← hW5, Below.heap_setCell _ _ _ _ hgg]
    exact z4
  obtain ⟨s0, s1, s2, s3⟩ := row4 z5
  obtain ⟨t0, t1, t2, t3⟩ := row4 v5
  have e0 : W5.frozen? ⟨g, 0, none⟩ = false := by simp [World.frozen?, v5]
  have e1 : W5.frozen? ⟨g, 1, none⟩ = false := by simp [World.frozen?, v5]
  have e2 : W5.frozen? ⟨g, 2, none⟩ = false := by simp [World.frozen?, v5]
  have e3 : W5.frozen? ⟨g, 3, none⟩ = false := by simp [World.frozen?, v5]
  have HV := Lib.hid (And.intro v5 (And.intro z5 hgg))
  have HW5 := Lib.hid hW5
  clear k1 k2 k3 k4 k5 k6 k7 hrd4 z4 z7 hgg v5 z5
  go_wp2_with fail
  obtain ⟨q1, q2⟩ := set4 (.int .i64 3) (.slice none 0 0) (.slice none 0 0) (.int .i64 m) HV.out.1
  obtain ⟨W6, hW6⟩ : ∃ W6, ((((W5.setCell ⟨g, 0, none⟩ (.int .i64 3)).setCell ⟨g, 1, none⟩ (.slice none 0 0)).setCell ⟨g, 2, none⟩ (.slice none 0 0)).setCell ⟨g, 3, none⟩ (.int .i64 m)) = W6 := ⟨_, rfl⟩
  rw [hW6] at q1 q2 ⊢
  obtain ⟨p0, p1, p2, p3⟩ := row4 q1
  have HX := Lib.hid (show Tk.Step q none w W6 from by
    have h1 := H1.out.2.2.2.1
    have h2 := H2.out.2.2.2.1
    have h5 := HV.out.2.2
    have hg := H1.out.2.2.2.2.2.2
    have h6 := hst2s.out
    refine ⟨?_, ?_, ?_, ?_, fun k hk hkq hr => ?_⟩
    · rw [q2.os, ← HW5.out]; exact (hst4.os.trans (h2.os.trans h1.os))
    · rw [q2.tape, ← HW5.out]; exact (hst4.tape.trans (h2.tape.trans h1.tape))
    · rw [q2.output, ← HW5.out]; exact (hst4.output.trans (h2.output.trans h1.output))
    · have s5 : w4.heap.size ≤ W5.heap.size := by rw [← HW5.out]; simp
      exact Nat.le_trans h1.size (Nat.le_trans h2.size (Nat.le_trans hst4.size (Nat.le_trans s5 q2.size)))
    · have s1 := h1.size
      have s2 := h2.size
      have s4 := hst4.size
      have s5 : W5.heap.size = w4.heap.size := by rw [← HW5.out]; simp
      rw [q2.block k (by omega) (by omega) (by simp), ← HW5.out, Below.heap_setCell _ _ _ _ (show k ≠ g3 by omega), hst4.block k (by omega) hkq hr, h2.block k (by omega) hkq hr]
      exact h1.block k hk)
  clear q1 q2 hW6
  refine bodyPost_ret (v := .tuple #[.agg #[.int .i64 3, .slice none 0 0, .slice none 0 0, .int .i64 m], .bool true]) (by simp [results, Tryz.results86, go_sem, p0, p1, p2, p3]; try rfl) rfl ?_
  exact ⟨rfl, HX.out⟩
end Go.Proofs.YtjnienlidmmhdaaGreatDoor.En
