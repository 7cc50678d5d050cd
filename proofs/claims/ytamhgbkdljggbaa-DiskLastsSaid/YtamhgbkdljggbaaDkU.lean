/- The document's New, step, Name. -/
import Derived.Test.YtamhgbkdljggbaaDkT
namespace Go.Proofs.Ytamhgbkdljggbaa.Dk
open Go.RowKit Go.Maps
set_option linter.unusedVariables false

theorem rnew_any (room : Int) (w : World) : Calls Try.prog 12 #[.int .i64 room] w fun e w' => ∃ q S, e = .returned (.pointer (some ⟨q, 0, none⟩)) ∧ RD (fun k => w.heap.size ≤ k ∧ k < w'.heap.size) w' q 0 S ∧ Below w.heap.size w w' := by
  have hmk := fun w : World => (show (Instr.makeMap 63 none).run Try.prog w = .ok (.map (some w.heap.size)) (w.alloc (.map #[] 0)) from rfl)
  obtain ⟨b1, hb1⟩ : ∃ b1, w.heap.size = b1 := ⟨_, rfl⟩
  obtain ⟨W1, hW1⟩ : ∃ W1, w.alloc (.map #[] 0) = W1 := ⟨_, rfl⟩
  have hs1 : W1.heap.size = b1 + 1 := by rw [← hW1, ← hb1]; simp
  obtain ⟨W2, hW2⟩ : ∃ W2, W1.alloc (.map #[] 0) = W2 := ⟨_, rfl⟩
  have hs2 : W2.heap.size = b1 + 2 := by rw [← hW2]; simp; omega
  obtain ⟨W3, hW3⟩ : ∃ W3, W2.alloc (.cells #[.int .i64 room, .slice none 0 0, .map (some b1), .map (some (b1 + 1)), .int .i64 (-1), .bool false, .int .i64 0] 66 (0, 0)) = W3 := ⟨_, rfl⟩
  have hs3 : W3.heap.size = b1 + 3 := by rw [← hW3]; simp; omega
  have n1 : NM W1 b1 0 0 := hb1 ▸ hW1 ▸ NM.made w 0
  have n2 : NM W2 (b1 + 1) 0 0 := by rw [← hs1, ← hW2]; exact NM.made W1 0
  have g2 : Below W1.heap.size W1 W2 := hW2 ▸ grows W1 _
  have g3 : Below W2.heap.size W2 W3 := hW3 ▸ grows W2 _
  have hbx : W3.heap[b1 + 2]? = some (.cells #[.int .i64 room, .slice none 0 0, .map (some b1), .map (some (b1 + 1)), .int .i64 (-1), .bool false, .int .i64 0] 66 (0, 0)) := by rw [← hs2, ← hW3]; exact heap_alloc_new W2 _
  have HD := Lib.hid (show RD (fun k => b1 ≤ k ∧ k < W3.heap.size) W3 (b1 + 2) 0 ⟨room, -1, 0, false, .slice none 0 0, 0, b1, b1 + 1, []⟩ from
    ⟨hbx, ⟨by omega, by omega⟩, (n1.keep (g2.block b1 (by omega))).keep (g3.block b1 (by omega)), n2.keep (g3.block _ (by omega)), ⟨by show b1 ≤ b1; omega, by show b1 < _; omega⟩, ⟨by show b1 ≤ b1 + 1; omega, by show b1 + 1 < _; omega⟩, by show b1 ≠ b1 + 1; omega, ⟨rfl, .inl ⟨rfl, rfl⟩⟩, ⟨rfl, fun i hi => absurd hi (Nat.not_lt_zero i)⟩, (fun r hr => by cases hr), Nat.le_refl _, fun k hk => hk.2⟩)
  have HB := Lib.hid (show Below b1 w W3 from (hb1 ▸ hW1 ▸ grows w _ : Below b1 w W1).trans ((g2.mono (by omega)).trans (g3.mono (by omega))))
  rw [hb1]
  have hm1 := hmk w
  rw [hb1, hW1] at hm1
  have hm2 := hmk W1
  rw [hs1, hW2] at hm2
  have HS2 := Lib.hid hs2
  clear hmk hb1 hW1 n1 n2 g2 g3 hbx hs3
  go_enter Try.func12, Try.ntmps12
  go_wp2_with fail
  go_ret
  exact ⟨_, _, rfl, HD.out, HB.out⟩
theorem RD.fr {O : Nat → Prop} {w : World} {q M : Nat} {S : RS} (h : RD O w q M S) (i : Nat) (u : Value) : Fr O w (w.setCell ⟨q, i, none⟩ u) := Fr.set w _ u h.oq
def RstP (O : Nat → Prop) (w : World) (q M : Nat) (e : Ending) (w' : World) : Prop := ∃ b S, e = .returned (.bool b) ∧ RD O w' q M S ∧ Fr O w w'
set_option maxHeartbeats 1000000 in
theorem rstep_any (O : Nat → Prop) (q M : Nat) (S : RS) (w : World) (h : RD O w q M S) : Calls Try.prog 43 #[.pointer (some ⟨q, 0, none⟩)] w (RstP O w q M) := by
  show Calls Try.prog 43 #[.pointer (some ⟨q, 0, none⟩)] w fun e w' => RstP O w q M e w'
  obtain ⟨⟨c0, c1, c2, c3, c4, c5, c6⟩, fz⟩ := h.cells
  have f4 := fz 4
  have f5 := fz 5
  have f6 := fz 6
  obtain ⟨fu, hfu⟩ : ∃ fu, S.fuse = fu := ⟨_, rfl⟩
  obtain ⟨st, hst⟩ : ∃ st, S.steps = st := ⟨_, rfl⟩
  obtain ⟨dn, hdn⟩ : ∃ dn, S.down = dn := ⟨_, rfl⟩
  rw [hfu] at c4
  rw [hdn] at c5
  rw [hst] at c6
  have HD := Lib.hid (show ∀ b, RstP O w q M (.returned (.bool b)) (w.setCell ⟨q, 5, none⟩ (.bool true)) from fun b => ⟨b, _, rfl, h.turn S.room S.fuse S.steps true (by simp) (fun k hk => Below.heap_setCell _ _ _ _ hk) (heap_set_at h.box _), h.fr 5 _⟩)
  have HX := Lib.hid (show ∀ X Y b, RstP O w q M (.returned (.bool b)) ((w.setCell ⟨q, 4, none⟩ (.int .i64 X)).setCell ⟨q, 6, none⟩ (.int .i64 Y)) from fun X Y b => ⟨b, _, rfl, h.turn S.room X Y S.down (by simp) (fun k hk => by rw [Below.heap_setCell _ _ _ _ hk, Below.heap_setCell _ _ _ _ hk]) (heap_set_at (heap_set_at h.box _) _), (h.fr 4 _).trans (Fr.set _ _ _ h.oq) (fun x hx => .inl hx)⟩)
  have HY := Lib.hid (show ∀ Y b, RstP O w q M (.returned (.bool b)) (w.setCell ⟨q, 6, none⟩ (.int .i64 Y)) from fun Y b => ⟨b, _, rfl, h.turn S.room S.fuse Y S.down (by simp) (fun k hk => Below.heap_setCell _ _ _ _ hk) (heap_set_at h.box _), h.fr 6 _⟩)
  clear h fz hfu hst hdn
  cases dn with
  | true =>
    go_enter Try.func43, Try.ntmps43
    go_wp2_with fail
    go_ret
    exact HD.out _
  | false =>
    by_cases h0 : fu = 0
    · subst h0
      go_enter Try.func43, Try.ntmps43
      go_wp2_with fail
      go_ret
      exact HD.out _
    · have h0b : (fu == 0) = false := by simpa using h0
      by_cases hpos : 0 < fu
      · have hd1 : decide ((0 : Int) < fu) = true := by simpa using hpos
        go_enter Try.func43, Try.ntmps43
        go_wp2_with fail
        go_ret
        exact HX.out _ _ _
      · have hd1 : decide ((0 : Int) < fu) = false := by simpa using hpos
        go_enter Try.func43, Try.ntmps43
        go_wp2_with fail
        go_ret
        exact HY.out _ _
end Go.Proofs.Ytamhgbkdljggbaa.Dk
