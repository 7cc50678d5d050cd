/- A disk in memory; power, step, New, Fuse, Down, Steps. -/
import Derived.Test.YtamhgbkdljggbaaDkA
import Derived.Test.YtamhgbkdljggbaaTkK
namespace Go.Proofs.Ytamhgbkdljggbaa.Dk
open Go.RowKit Go.Maps
set_option linter.unusedVariables false

/-- a file: its slice, its bytes, how many are sure -/
structure Fl where
  v : Value
  bs : List Nat
  k : Nat
structure PD where
  room : Int
  fuse : Int
  steps : Int
  down : Bool
  nb : Option Nat
  sb : Option Nat
  now : Nm → Nat
  sure : Nm → Nat
  F : Nat → Fl
def FileOk (O : Nat → Prop) (w : World) (M : Nat) (fl : Fl) (g1 : Nat) : Prop :=
  ∃ g A n c, g1 = g + 1 ∧ O g ∧ fl.v = .slice A n c ∧ w.heap[g]? = some (.cells #[.slice A n c, .int .i64 (fl.k : Int)] 60 (0, 0)) ∧ w.ownsRow 0 5 1 (.slice A n c) n (Tk.cellsB fl.bs) ∧
    (∀ x ∈ fl.bs, x < 256) ∧ fl.k ≤ fl.bs.length ∧ fl.bs.length ≤ M ∧ ∀ r, fl.v.ownBlock = some r → O r
def Vd (S : PD) (g : Nat) : Prop := g ≠ 0 ∧ ∃ s, S.now s = g ∨ S.sure s = g
def boxV (S : PD) : Array Value := #[.int .i64 S.room, .map S.nb, .map S.sb, .int .i64 S.fuse, .bool S.down, .int .i64 S.steps]
structure DK (O : Nat → Prop) (w : World) (d M : Nat) (S : PD) : Prop where
  box : w.heap[d]? = some (.cells #[.int .i64 S.room, .map S.nb, .map S.sb, .int .i64 S.fuse, .bool S.down, .int .i64 S.steps] 56 (0, 0))
  od : O d
  now : MapP w S.nb S.now M
  sure : MapP w S.sb S.sure M
  onow : ∀ b, S.nb = some b → O b
  osure : ∀ b, S.sb = some b → O b
  apart : ∀ b, S.nb = some b → S.sb ≠ some b
  file : ∀ g, Vd S g → FileOk O w M (S.F g) g
  rows : ∀ g g', Vd S g → Vd S g' → g ≠ g' → ∀ r, (S.F g).v.ownBlock = some r → (S.F g').v.ownBlock ≠ some r
  bound : ∀ k, O k → k < w.heap.size
theorem own_type {w : World} {B n size g : Nat} {e : TypeId} {v : Value} {xs : List Value} (h : w.ownsRow B e size v n xs) (hv : v.ownBlock = some g) : ∃ cur, w.heap[g]? = some (.cells cur e) := by
  rcases h.2 with ⟨rfl, _⟩ | ⟨g', c, cur, rfl, hb, hh, _⟩
  · cases hv
  · injection hv with hv
    subst hv
    exact ⟨cur, hh⟩
theorem own_abide {w w' : World} {B : Nat} {e : TypeId} {size n : Nat} {v : Value} {xs : List Value} (h : w.ownsRow B e size v n xs) (hb : ∀ k, v.ownBlock = some k → w'.heap[k]? = w.heap[k]?) : w'.ownsRow B e size v n xs := by
  rcases h.2 with h1 | ⟨g, cap, cur, hv, hB, hh, r⟩
  · exact ⟨h.1, .inl h1⟩
  · exact ⟨h.1, .inr ⟨g, cap, cur, hv, hB, (hb g (by rw [hv]; rfl)).trans hh, r⟩⟩
theorem FileOk.keep {O O' : Nat → Prop} {w w' : World} {M M' : Nat} {fl : Fl} {g1 : Nat} (h : FileOk O w M fl g1) (hk : ∀ k, O k → (∃ cur fr, w.heap[k]? = some (.cells cur 60 fr)) ∨ (∃ cur, w.heap[k]? = some (.cells cur 5)) → w'.heap[k]? = w.heap[k]?) (hO : ∀ k, O k → O' k) (hM : M ≤ M') : FileOk O' w' M' fl g1 := by
  obtain ⟨g, A, n, c, h1, h2, h3, h4, h5, h6, h7, h8, h9⟩ := h
  refine ⟨g, A, n, c, h1, hO g h2, h3, (hk g h2 (.inl ⟨_, _, h4⟩)).trans h4, own_abide h5 (fun k hv => hk k (h9 k (by rw [h3]; exact hv)) (.inr (own_type h5 hv))), h6, h7, by omega, fun r hr => hO r (h9 r hr)⟩
theorem DK.keep {O : Nat → Prop} {w w' : World} {d M : Nat} {S : PD} (h : DK O w d M S) (hs : w.heap.size ≤ w'.heap.size) (hk : ∀ k, O k → w'.heap[k]? = w.heap[k]?) : DK O w' d M S :=
  ⟨(hk d h.od).trans h.box, h.od, h.now.keep fun b hb => hk b (h.onow b hb), h.sure.keep fun b hb => hk b (h.osure b hb), h.onow, h.osure, h.apart, fun g hg => (h.file g hg).keep (fun k hO _ => hk k hO) (fun _ h => h) (Nat.le_refl _), h.rows, fun k hO => Nat.lt_of_lt_of_le (h.bound k hO) hs⟩
theorem DK.below {O : Nat → Prop} {w w' : World} {d M : Nat} {S : PD} (h : DK O w d M S) (hb : Below w.heap.size w w') : DK O w' d M S := h.keep hb.size fun k hO => hb.block k (h.bound k hO)
theorem DK.mono {O O' : Nat → Prop} {w : World} {d M M' : Nat} {S : PD} (h : DK O w d M S) (hO : ∀ k, O k → O' k) (hb : ∀ k, O' k → k < w.heap.size) (hM : M ≤ M') : DK O' w d M' S :=
  ⟨h.box, hO d h.od, h.now.mono hM, h.sure.mono hM, fun b hb => hO b (h.onow b hb), fun b hb => hO b (h.osure b hb), h.apart, fun g hg => (h.file g hg).keep (fun _ _ _ => rfl) hO hM, h.rows, hb⟩
theorem DK.grow {O : Nat → Prop} {w w0 : World} {d M : Nat} {S : PD} (h : DK O w d M S) : DK (On O w0 w) w d M S := h.mono (fun k hk => .inl hk) (fun k hk => by rcases hk with hk | ⟨_, hk⟩; exact h.bound k hk; exact hk) (Nat.le_refl _)
/-- the disk's own cells turned -/
theorem DK.turn {O : Nat → Prop} {w w' : World} {d M : Nat} {S : PD} (h : DK O w d M S) (room fuse steps : Int) (down : Bool) (hs : w.heap.size ≤ w'.heap.size) (hk : ∀ k, k ≠ d → w'.heap[k]? = w.heap[k]?)
    (hb : w'.heap[d]? = some (.cells #[.int .i64 room, .map S.nb, .map S.sb, .int .i64 fuse, .bool down, .int .i64 steps] 56 (0, 0))) : DK O w' d M { S with room := room, fuse := fuse, steps := steps, down := down } := by
  have hne : ∀ b es clock, w.heap[b]? = some (.map es clock) → b ≠ d := fun b es clock hb' e => by rw [e, h.box] at hb'; cases hb'
  refine ⟨hb, h.od, h.now.keep fun b hb' => hk b ?_, h.sure.keep fun b hb' => hk b ?_, h.onow, h.osure, h.apart, fun g hg => (h.file g hg).keep (fun k hO ht => hk k ?_) (fun _ h => h) (Nat.le_refl _), h.rows, fun k hO => Nat.lt_of_lt_of_le (h.bound k hO) hs⟩
  · have := h.now
    rw [hb'] at this
    obtain ⟨es, clock, h1⟩ := this.isMap
    exact hne b _ _ h1
  · have := h.sure
    rw [hb'] at this
    obtain ⟨es, clock, h1⟩ := this.isMap
    exact hne b _ _ h1
  · intro e
    rw [e, h.box] at ht
    rcases ht with ⟨cur, fr, ht⟩ | ⟨cur, ht⟩
    · injection ht with ht
      injection ht with _ ht
      exact absurd ht (by decide)
    · injection ht with ht
      injection ht with _ ht
      exact absurd ht (by decide)
theorem DK.cells {O : Nat → Prop} {w : World} {d M : Nat} {S : PD} (h : DK O w d M S) : (w.cell? ⟨d, 0, none⟩ = some (.int .i64 S.room) ∧ w.cell? ⟨d, 1, none⟩ = some (.map S.nb) ∧ w.cell? ⟨d, 2, none⟩ = some (.map S.sb) ∧ w.cell? ⟨d, 3, none⟩ = some (.int .i64 S.fuse) ∧ w.cell? ⟨d, 4, none⟩ = some (.bool S.down) ∧ w.cell? ⟨d, 5, none⟩ = some (.int .i64 S.steps)) ∧ ∀ i, w.frozen? ⟨d, i, none⟩ = false := by
  have hb := h.box
  refine ⟨⟨?_, ?_, ?_, ?_, ?_, ?_⟩, fun i => by simp [World.frozen?, hb]⟩
  all_goals (rw [cell_of_row _ _ _ _ _ _ hb]; rfl)

/-! power, step -/
theorem power_any (O : Nat → Prop) (d M : Nat) (S : PD) (w : World) (h : DK O w d M S) : Calls Try.prog 35 #[.pointer (some ⟨d, 0, none⟩)] w fun e w' => e = .returned (.int .i64 (if S.down then 11 else 0)) ∧ w' = w := by
  obtain ⟨⟨c0, c1, c2, c3, c4, c5⟩, _⟩ := h.cells
  clear h
  obtain ⟨b, hb⟩ : ∃ b, S.down = b := ⟨_, rfl⟩
  rw [hb] at c4 ⊢
  cases b
  all_goals
    go_enter Try.func35, Try.ntmps35
    go_wp2_with fail
    go_ret
    exact ⟨rfl, rfl⟩
theorem power_nil (w : World) : Calls Try.prog 35 #[.pointer none] w fun e w' => e = .returned (.int .i64 2) ∧ w' = w := by
  go_enter Try.func35, Try.ntmps35
  go_wp2_with fail
  go_ret
  exact ⟨rfl, rfl⟩
theorem step_nil (w : World) : Calls Try.prog 24 #[.pointer none] w fun e w' => e = .returned (.int .i64 2) ∧ w' = w := by
  go_enter Try.func24, Try.ntmps24
  go_wp2_with fail
  refine (power_nil w).mono ?_
  rintro e w' ⟨rfl, rfl⟩
  go_wp2_with fail
  go_ret
  exact ⟨rfl, rfl⟩
/-- one step on, or the power gone -/
noncomputable def stepS (S : PD) : PD := if S.down then S else if S.fuse = 0 then { S with down := true } else { S with fuse := if 0 < S.fuse then S.fuse - 1 else S.fuse, steps := IntKind.i64.wrap (S.steps + 1) }
def stepE (S : PD) : Int := if S.down then 11 else if S.fuse = 0 then 11 else 0
theorem DK.fr_set {O : Nat → Prop} {w : World} {d M : Nat} {S : PD} (h : DK O w d M S) (i : Nat) (u : Value) : Fr O w (w.setCell ⟨d, i, none⟩ u) := Fr.set w _ u h.od
def I64 (z : Int) : Prop := -9223372036854775808 ≤ z ∧ z ≤ 9223372036854775807
set_option maxHeartbeats 1000000 in
theorem step_any (O : Nat → Prop) (d M : Nat) (S : PD) (w : World) (h : DK O w d M S) (hf : I64 S.fuse) : Calls Try.prog 24 #[.pointer (some ⟨d, 0, none⟩)] w fun e w' => e = .returned (.int .i64 (stepE S)) ∧ DK O w' d M (stepS S) ∧ Fr O w w' := by
  have HP := Lib.hid (power_any O d M S w h)
  have H := Lib.hid h
  obtain ⟨⟨c0, c1, c2, c3, c4, c5⟩, fz⟩ := h.cells
  have f3 := fz 3
  have f4 := fz 4
  have f5 := fz 5
  have HSE := Lib.hid (show stepE S = if S.down then 11 else if S.fuse = 0 then 11 else 0 from rfl)
  have HSS := Lib.hid (show stepS S = if S.down then S else if S.fuse = 0 then { S with down := true } else { S with fuse := if 0 < S.fuse then S.fuse - 1 else S.fuse, steps := IntKind.i64.wrap (S.steps + 1) } from rfl)
  rw [HSE.out, HSS.out]
  obtain ⟨b, hb⟩ : ∃ b, S.down = b := ⟨_, rfl⟩
  have HB := Lib.hid hb
  rw [hb] at HP ⊢
  clear h fz hb
  cases b with
  | true =>
    go_enter Try.func24, Try.ntmps24
    go_wp2_with fail
    refine HP.out.mono ?_
    rintro e w' ⟨rfl, rfl⟩
    go_wp2_with fail
    go_ret
    exact ⟨rfl, H.out, Fr.refl _ _⟩
  | false =>
    by_cases h0 : S.fuse = 0
    · rw [h0] at c3
      have HD := Lib.hid (show DK O (w.setCell ⟨d, 4, none⟩ (.bool true)) d M { S with down := true } from H.out.turn S.room S.fuse S.steps true (by simp) (fun k hk => Below.heap_setCell _ _ _ _ hk) (heap_set_at H.out.box _))
      have HF := Lib.hid (H.out.fr_set 4 (.bool true))
      rw [if_neg (by simp), if_pos h0, if_neg (by simp), if_pos h0]
      clear h0
      go_enter Try.func24, Try.ntmps24
      go_wp2_with fail
      refine HP.out.mono ?_
      rintro e w' ⟨rfl, rfl⟩
      go_wp2_with fail
      go_ret
      exact ⟨rfl, HD.out, HF.out⟩
    · have h0b : (S.fuse == 0) = false := by simpa using h0
      rw [if_neg (by simp), if_neg h0, if_neg (by simp), if_neg h0]
      obtain ⟨fu, hfu⟩ : ∃ fu, S.fuse = fu := ⟨_, rfl⟩
      obtain ⟨st, hst⟩ : ∃ st, S.steps = st := ⟨_, rfl⟩
      obtain ⟨s1, hs1⟩ : ∃ s1, IntKind.i64.wrap (st + 1) = s1 := ⟨_, rfl⟩
      by_cases hpos : 0 < S.fuse
      · have hw1 : IntKind.i64.wrap (fu - 1) = fu - 1 := IntWalk.i64_in _ (by have := hf.1; have := hf.2; omega)
        rw [if_pos hpos]
        have HD := Lib.hid (show DK O ((w.setCell ⟨d, 3, none⟩ (.int .i64 (fu - 1))).setCell ⟨d, 5, none⟩ (.int .i64 s1)) d M { S with fuse := (fu - 1), steps := s1 } from
          H.out.turn S.room (fu - 1) s1 S.down (by simp) (fun k hk => by rw [Below.heap_setCell _ _ _ _ hk, Below.heap_setCell _ _ _ _ hk]) (heap_set_at (heap_set_at H.out.box _) _))
        have HF := Lib.hid (show Fr O w ((w.setCell ⟨d, 3, none⟩ (.int .i64 (fu - 1))).setCell ⟨d, 5, none⟩ (.int .i64 s1)) from (H.out.fr_set 3 _).trans (Fr.set _ _ _ H.out.od) (fun x hx => .inl hx))
        rw [hst, hs1, hfu]
        rw [hfu] at c3 h0b
        rw [hst] at c5
        have hd1 : decide ((0 : Int) < fu) = true := by rw [← hfu]; simpa using hpos
        clear h0 hpos hfu hst hf
        go_enter Try.func24, Try.ntmps24
        go_wp2_with fail
        refine HP.out.mono ?_
        rintro e w' ⟨rfl, rfl⟩
        go_wp2_with fail
        go_ret
        exact ⟨rfl, by have := HD.out; rw [HB.out] at this; exact this, HF.out⟩
      · rw [if_neg hpos]
        have HD := Lib.hid (show DK O (w.setCell ⟨d, 5, none⟩ (.int .i64 s1)) d M { S with fuse := S.fuse, steps := s1 } from
          H.out.turn S.room S.fuse s1 S.down (by simp) (fun k hk => Below.heap_setCell _ _ _ _ hk) (heap_set_at H.out.box _))
        have HF := Lib.hid (H.out.fr_set 5 (.int .i64 s1))
        rw [hst, hs1]
        rw [hst] at c5
        have hd1 : decide ((0 : Int) < S.fuse) = false := by simpa using hpos
        clear h0 hpos hfu hst hf
        go_enter Try.func24, Try.ntmps24
        go_wp2_with fail
        refine HP.out.mono ?_
        rintro e w' ⟨rfl, rfl⟩
        go_wp2_with fail
        go_ret
        exact ⟨rfl, by have := HD.out; rw [HB.out] at this; exact this, HF.out⟩
end Go.Proofs.Ytamhgbkdljggbaa.Dk
