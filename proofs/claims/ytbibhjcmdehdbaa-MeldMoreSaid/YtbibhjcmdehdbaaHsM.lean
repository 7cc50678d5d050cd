/- The contracts of Empty, of Clone, and of the law's own example. -/
import Derived.Test.YtbibhjcmdehdbaaHsK
import Derived.Laws.AppendOwnNone
/-! A box of eight cells, in every later world. -/
namespace Go.Proofs.Ytbibhjcmdehdbaa
open Go.RowKit Go.Sort Go.Maps
set_option linter.unusedVariables false

theorem box8b {w0 : World} {g : Nat} {t : TypeId} {v0 v1 v2 v3 v4 v5 v6 v7 : Value} (h : w0.heap[g]? = some (.cells #[v0, v1, v2, v3, v4, v5, v6, v7] t (0, 0))) (W : World) (hb : RowKit.Below w0.heap.size w0 W) :
    W.cell? ⟨g, 0, none⟩ = some v0 ∧ W.cell? ⟨g, 1, none⟩ = some v1 ∧ W.cell? ⟨g, 2, none⟩ = some v2 ∧ W.cell? ⟨g, 3, none⟩ = some v3 ∧ W.cell? ⟨g, 4, none⟩ = some v4 ∧ W.cell? ⟨g, 5, none⟩ = some v5 ∧ W.cell? ⟨g, 6, none⟩ = some v6 ∧ W.cell? ⟨g, 7, none⟩ = some v7 := by
  have hg : g < w0.heap.size := (Array.getElem?_eq_some_iff.1 h).1
  obtain ⟨a, b, c, d, e, f, g', i, _⟩ := box8 ((hb.block g hg).trans h)
  exact ⟨a, b, c, d, e, f, g', i⟩
end Go.Proofs.Ytbibhjcmdehdbaa

/-! The contracts of Empty, of Clone, and of the law's own example. -/
namespace Go.Proofs.Ytbibhjcmdehdbaa
open Go.RowKit Go.Sort Go.Maps
set_option linter.unusedVariables false

theorem empty_any (k s : Int) (w : World) :
    Calls Try.prog 41 #[.int .i64 k, .int .i64 s] w fun e w' => e = .returned (.agg #[.int .i64 k, .int .i64 s, .int .i64 (-524288), .int .u64 0, .int .u64 0, .int .i64 0, .slice none 0 0, .slice none 0 0]) ∧ Below w.heap.size w w' := by
  go_enter Try.func41, Try.ntmps41
  go_wp2
  exact bodyPost_ret (v := .agg #[.int .i64 k, .int .i64 s, .int .i64 (-524288), .int .u64 0, .int .u64 0, .int .i64 0, .slice none 0 0, .slice none 0 0]) (by simp [results, Try.results41, go_sem]) rfl ⟨rfl, (Below.refl _ _).alloc (Nat.le_refl _) _⟩

theorem cloneB_nil (c : Nat) (w : World) :
    Calls Try.prog 91 #[.slice none 0 c] w fun e w' => e = .returned (.slice none 0 0) ∧ w = w' := by
  have hnil := fun (w : World) => Lib.run_eql_slice_nil (P := Try.prog) w 23 80 none 0 c 0 0 Try.underlying23
  go_enter Try.func91, Try.ntmps91
  go_wp2_with fail
  go_ret
  exact ⟨rfl, rfl⟩
theorem ownsRowB_new (w : World) : (w.alloc (.cells #[] 80)).ownsRow w.heap.size 80 2 (.slice (some ⟨w.heap.size, 0, none⟩) 0 0) 0 (cellsL []) :=
  ⟨by simp [cellsL], .inr ⟨w.heap.size, 0, #[], rfl, Nat.le_refl _, heap_alloc_new w _, by omega, by unfold maxLen; omega, rfl, by simp [cellsL]⟩⟩
/-- a slice of the call's own, whose cells may be written -/
def OwnB (w w' : World) (A : Option Addr) (c : Nat) (l : List (Int × Int)) : Prop := w'.ownsRow w.heap.size 80 2 (.slice A l.length c) l.length (cellsL l) ∧ Bk w' A l
def CloneP (w : World) (l : List (Int × Int)) (e : Ending) (w' : World) : Prop := ∃ A c, e = .returned (.slice A l.length c) ∧ OwnB w w' A c l ∧ Below w.heap.size w w'
theorem bk_src {w : World} {ad : Addr} {l : List (Int × Int)} (h : Bk w (some ad) l) (j : Nat) (u : Value) (hu : (cellsL l)[j]? = some u) : w.cell? (ad.add j) = some u := by
  have hj : j < l.length * 2 := by rw [← cellsL_length]; exact (List.getElem?_eq_some_iff.1 hu).1
  obtain ⟨b, off, e, hc⟩ := h.some_ (by omega)
  obtain rfl : ad = ⟨b, off, none⟩ := by simpa using e
  obtain ⟨p, hp⟩ := getElem?_lt (l := l) (k := j / 2) (by omega)
  obtain ⟨a1, a2⟩ := cellsL_at l (j / 2) p hp
  obtain ⟨c1, c2⟩ := hc (j / 2) p hp
  rw [Addr.add_lit]
  rcases (show j = j / 2 * 2 ∨ j = j / 2 * 2 + 1 by omega) with e | e
  · have e2 : off + j = off + j / 2 * 2 := by omega
    rw [e2, c1, ← a1, ← e, hu]
  · have e2 : off + j = off + j / 2 * 2 + 1 := by omega
    rw [e2, c2, ← a2, ← e, hu]
set_option maxRecDepth 100000 in
theorem cloneB_some (ad : Addr) (c : Nat) (l : List (Int × Int)) (w : World) (h : Bk w (some ad) l) (hl : l.length ≤ 1000000) :
    Calls Try.prog 91 #[.slice (some ad) l.length c] w (CloneP w l) := by
  have hnil := fun (w : World) => Lib.run_eql_slice_nil (P := Try.prog) w 23 80 (some ad) l.length c 0 0 Try.underlying23
  have HS := Lib.hid h
  clear h
  obtain ⟨i0, hi, hz0, hz1, hz2⟩ := info_parts infoB
  go_enter Try.func91, Try.ntmps91
  go_wp2_with (at_builtin; refine wpList_append_own _ rfl _ _ 23 rfl w.heap.size 80 i0 (.agg #[.int .i64 0, .int .u64 0]) 2 16 Try.underlying23 hi hz0 hz1 hz2 rfl (by decide) (.slice (some ⟨w.heap.size, 0, none⟩) 0 0) 0 (cellsL []) rfl ?c0 ad l.length c (cellsL l) rfl ?c1 ?c2 ?c3 ?c4 ?c5 ?c6 ?_)
  case c0 => exact ownsRowB_new w
  case c1 => exact cellsL_length l
  case c2 => exact bk_src (HS.out.below ((Below.refl _ _).alloc (Nat.le_refl _) _))
  case c3 => exact cellsL_one l
  case c4 => unfold maxLen; omega
  case c5 => omega
  case c6 => simp
  intro v' w1 hown hgrow hnn
  have hown1 : w1.ownsRow w.heap.size 80 2 v' l.length (cellsL l) := by simpa [cellsL] using hown
  have hb : Below w.heap.size w w1 := ((Below.refl _ _).alloc (Nat.le_refl _) _).grown hgrow (by simp) (fun k hk => by simp [Value.ownBlock] at hk; omega)
  have hshape : ∃ A c', v' = .slice A l.length c' := by
    rcases hown1.2 with ⟨rfl, h0⟩ | ⟨g, cap, _, rfl, _⟩
    · exact ⟨none, 0, by rw [h0]⟩
    · exact ⟨_, cap, rfl⟩
  obtain ⟨A, c', rfl⟩ := hshape
  have HP := Lib.hid (And.intro hown1 hb)
  clear hown hgrow hb hnil hown1 hnn
  go_wp2_with fail
  go_ret
  exact ⟨A, c', rfl, ⟨HP.out.1, own_bk HP.out.1 HS.out.2.1 hl⟩, HP.out.2⟩
theorem cloneB_any (A : Option Addr) (c : Nat) (l : List (Int × Int)) (w : World) (h : Bk w A l) (hl : l.length ≤ 1000000) :
    Calls Try.prog 91 #[.slice A l.length c] w (CloneP w l) := by
  cases A with
  | none =>
    have hb : l = [] := by
      by_cases h0 : l.length = 0
      · exact List.eq_nil_of_length_eq_zero h0
      · obtain ⟨b, off, e, _⟩ := h.some_ (by omega)
        cases e
    subst hb
    refine (cloneB_nil c w).mono fun e w' ⟨he, hw⟩ => ?_
    subst hw
    exact ⟨none, 0, he, ⟨World.ownsRow_nil _ _ _ _, h⟩, Below.refl _ _⟩
  | some ad => exact cloneB_some ad c l w h hl
end Go.Proofs.Ytbibhjcmdehdbaa
