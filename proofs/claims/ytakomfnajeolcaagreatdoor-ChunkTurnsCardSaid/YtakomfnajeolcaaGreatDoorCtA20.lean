import Derived.Test.YtakomfnajeolcaaGreatDoorCtA19
import Derived.ProofKit
import Derived.Deep.SlicePairs
import Derived.Deep.Fields
import Derived.WideShapes
set_option linter.unusedVariables false
/- The contract of Clone. -/
namespace Go.Proofs.YtakomfnajeolcaaGreatDoor
open Go.RowKit Go.Sort Go.Maps
set_option linter.unusedVariables false

theorem own_base {w : World} {B B' : Nat} {e : TypeId} {size n : Nat} {v : Value} {xs : List Value} (h : w.ownsRow B e size v n xs) (hB : B' ≤ B) : w.ownsRow B' e size v n xs := by
  obtain ⟨h1, h2⟩ := h
  refine ⟨h1, ?_⟩
  rcases h2 with h2 | ⟨g, cap, cur, hv, hb, r⟩
  · exact .inl h2
  · exact .inr ⟨g, cap, cur, hv, Nat.le_trans hB hb, r⟩
theorem own_below {w w' : World} {B : Nat} {e : TypeId} {size n : Nat} {v : Value} {xs : List Value} (h : w.ownsRow B e size v n xs) (hb : RowKit.Below w.heap.size w w') : w'.ownsRow B e size v n xs :=
  h.kept (row := none) ⟨hb.os, hb.tape, hb.output, hb.size, fun k hk _ => hb.block k hk⟩ (by
    rcases ho : v.ownBlock with _ | g
    · exact .inl rfl
    · exact .inr (by simp))
/-- two clones -/
def TwoC (w w2 : World) (A B : Option Addr) (c d : Nat) (P Q : List (Int × Int)) : Prop :=
  w2.ownsRow w.heap.size 86 2 (.slice A P.length c) P.length (cellsL P) ∧ w2.ownsRow w.heap.size 86 2 (.slice B Q.length d) Q.length (cellsL Q) ∧ Apart (.slice A P.length c) (.slice B Q.length d) ∧ RowKit.Below w.heap.size w w2
theorem two_pq {w wa w1 wb w2 : World} {A B : Option Addr} {c d : Nat} {P Q : List (Int × Int)} (h0 : RowKit.Below w.heap.size w wa) (h1 : OwnB wa w1 A c P) (b1 : RowKit.Below wa.heap.size wa w1) (h2 : RowKit.Below w1.heap.size w1 wb) (h3 : OwnB wb w2 B d Q) (b3 : RowKit.Below wb.heap.size wb w2) : TwoC w w2 A B c d P Q := by
  have e1 := own_base h1.1 h0.size
  have e2 := own_below (own_below e1 h2) b3
  have s1 := b1.size
  have s2 := h2.size
  refine ⟨e2, own_base h3.1 (Nat.le_trans h0.size (Nat.le_trans s1 s2)), fun g hg e => ?_, ((h0.trans (b1.mono h0.size)).trans (h2.mono (Nat.le_trans h0.size s1))).trans (b3.mono (Nat.le_trans h0.size (Nat.le_trans s1 s2)))⟩
  have l1 := (h1.1.lt g hg).2
  have l2 := (h3.1.lt g e).1
  omega
def CloneH (w : World) (k s z zc ct sm : Int) (P Q : List (Int × Int)) (e : Ending) (w' : World) : Prop :=
  ∃ (A B : Option Addr) (c d : Nat), e = .returned (.agg #[.int .i64 k, .int .i64 s, .int .i64 z, .int .u64 zc, .int .u64 ct, .int .i64 sm, .slice A P.length c, .slice B Q.length d]) ∧ TwoC w w' A B c d P Q

theorem TwoC.end_ {w W0 w3 : World} {A B : Option Addr} {c d : Nat} {P Q : List (Int × Int)} (h : TwoC W0 w3 A B c d P Q) (h0 : RowKit.Below w.heap.size w W0) {gR : Nat} (hH : w.heap.size < W0.heap.size) (hR : gR < W0.heap.size) (hHR : w.heap.size ≤ gR) (a b u0 u1 u2 u3 u4 u5 u6 u7 : Value) :
    TwoC w ((((((((((w3.setCell ⟨w.heap.size, 6, none⟩ a).setCell ⟨w.heap.size, 7, none⟩ b).setCell ⟨gR, 0, none⟩ u0).setCell ⟨gR, 1, none⟩ u1).setCell ⟨gR, 2, none⟩ u2).setCell ⟨gR, 3, none⟩ u3).setCell ⟨gR, 4, none⟩ u4).setCell ⟨gR, 5, none⟩ u5).setCell ⟨gR, 6, none⟩ u6).setCell ⟨gR, 7, none⟩ u7) A B c d P Q := by
  obtain ⟨h1, h2, h3, h4⟩ := h
  have key : ∀ (v : Value) (n : Nat) (xs : List Value), w3.ownsRow W0.heap.size 86 2 v n xs → ((((((((((w3.setCell ⟨w.heap.size, 6, none⟩ a).setCell ⟨w.heap.size, 7, none⟩ b).setCell ⟨gR, 0, none⟩ u0).setCell ⟨gR, 1, none⟩ u1).setCell ⟨gR, 2, none⟩ u2).setCell ⟨gR, 3, none⟩ u3).setCell ⟨gR, 4, none⟩ u4).setCell ⟨gR, 5, none⟩ u5).setCell ⟨gR, 6, none⟩ u6).setCell ⟨gR, 7, none⟩ u7).ownsRow w.heap.size 86 2 v n xs := fun v n xs hv => by
    refine own_base ?_ h0.size
    repeat (refine ownsRow_setCell_below ?_ (by assumption) _)
    exact hv
  refine ⟨key _ _ _ h1, key _ _ _ h2, h3, ?_⟩
  have hb := h0.trans (h4.mono h0.size)
  have hHH : w.heap.size ≤ w.heap.size := Nat.le_refl _
  repeat (refine RowKit.Below.setCell ?_ (by assumption) _)
  exact hb
set_option maxHeartbeats 2000000 in
set_option maxRecDepth 100000 in
theorem hclone_any (k s z zc ct sm : Int) (A B : Option Addr) (c d : Nat) (P Q : List (Int × Int)) (w : World) (hP : Bk w A P) (hQ : Bk w B Q) (hlp : P.length ≤ 1100) (hlq : Q.length ≤ 1100) :
    Calls Tryz.prog 47 #[.agg #[.int .i64 k, .int .i64 s, .int .i64 z, .int .u64 zc, .int .u64 ct, .int .i64 sm, .slice A P.length c, .slice B Q.length d]] w (CloneH w k s z zc ct sm P Q) := by
  obtain ⟨W0, hW0⟩ : ∃ W0, ((w.alloc (.cells #[.int .i64 k, .int .i64 s, .int .i64 z, .int .u64 zc, .int .u64 ct, .int .i64 sm, .slice A P.length c, .slice B Q.length d] 39)).alloc (.cells #[.int .i64 0, .int .i64 0, .int .i64 0, .int .u64 0, .int .u64 0, .int .i64 0, .slice none 0 0, .slice none 0 0] 39)) = W0 := ⟨_, rfl⟩
  obtain ⟨gR, hR⟩ : ∃ g, w.heap.size + 1 = g := ⟨_, rfl⟩
  have hb0 : Below w.heap.size w W0 := by rw [← hW0]; exact ((Below.refl _ _).alloc (Nat.le_refl _) _).alloc (by simp) _
  have hsz0 : W0.heap.size = w.heap.size + 2 := by rw [← hW0]; simp
  have bH : W0.heap[w.heap.size]? = some (.cells #[.int .i64 k, .int .i64 s, .int .i64 z, .int .u64 zc, .int .u64 ct, .int .i64 sm, .slice A P.length c, .slice B Q.length d] 39 (0, 0)) := by
    rw [← hW0, Below.heap_alloc _ _ _ (by simp)]; exact heap_alloc_new w _
  have bR : W0.heap[gR]? = some (.cells #[.int .i64 0, .int .i64 0, .int .i64 0, .int .u64 0, .int .u64 0, .int .i64 0, .slice none 0 0, .slice none 0 0] 39 (0, 0)) := by
    rw [← hW0, ← hR]
    have := heap_alloc_new (w.alloc (.cells #[.int .i64 k, .int .i64 s, .int .i64 z, .int .u64 zc, .int .u64 ct, .int .i64 sm, .slice A P.length c, .slice B Q.length d] 39)) (.cells #[.int .i64 0, .int .i64 0, .int .i64 0, .int .u64 0, .int .u64 0, .int .i64 0, .slice none 0 0, .slice none 0 0] 39)
    simpa using this
  have HC1 := Lib.hid (fun (W : World) (hW : Below W0.heap.size W0 W) => cloneB_any A c P W ((hP.below hb0).below hW) (by omega))
  have HC2 := Lib.hid (fun (W : World) (hW : Below W0.heap.size W0 W) => cloneB_any B d Q W ((hQ.below hb0).below hW) (by omega))
  have HBX := Lib.hid (fun (W : World) (hW : Below W0.heap.size W0 W) => box8 ((hW.block w.heap.size (by omega)).trans bH))
  have HBR := Lib.hid (fun (W : World) (hW : Below W0.heap.size W0 W) => box8 ((hW.block gR (by omega)).trans bR))
  have HB0 := Lib.hid hb0
  have HSZ := Lib.hid (And.intro hsz0 hR)
  have hWW := Lib.hid hW0
  have hRR := Lib.hid hR
  have hHR : w.heap.size ≤ gR := by omega
  have hHR2 : w.heap.size ≠ gR := by omega
  clear hP hQ hb0 bH bR hsz0 hR hW0
  go_enter Tryz.func47, Tryz.ntmps47
  go_wp2_with fail
  rw [hWW.out]
  simp only [hRR.out]
  have g0 : Below W0.heap.size W0 W0.drew := (Below.refl _ _).drew
  obtain ⟨_, _, _, _, _, _, i6, i7, _⟩ := HBX.out W0 (Below.refl _ _)
  go_region_with (go_at_call 79; first
    | ((with_reducible refine (HC1.out _ (by first | assumption | exact below_drewN (Below.refl _ _) _ | exact (Below.refl _ _).drew)).mono ?_); rintro e w2 ⟨A1, c1, rfl, hO1, hb1⟩; have HO1 := Lib.hid hO1; have HB1 := Lib.hid hb1; have g1 : Below W0.heap.size W0 w2 := Below.trans (by first | assumption | exact below_drewN (Below.refl _ _) _ | exact (Below.refl _ _).drew) (hb1.mono (by first | exact Nat.le_refl _ | exact (by assumption : Below W0.heap.size W0 _).size)); obtain ⟨_, _, _, _, _, _, j6, j7, jf⟩ := HBX.out w2 g1; have jf6 := jf 6; have jf7 := jf 7; clear hO1 hb1 jf)
    | ((with_reducible refine (HC2.out _ (by first | assumption | exact below_drewN (Below.refl _ _) _ | exact (Below.refl _ _).drew)).mono ?_); rintro e w3 ⟨B1, d1, rfl, hO2, hb2⟩; have HO2 := Lib.hid hO2; have HB2 := Lib.hid hb2; have g2 : Below W0.heap.size W0 w3 := Below.trans (by first | assumption | exact below_drewN (Below.refl _ _) _ | exact (Below.refl _ _).drew) (hb2.mono (by first | exact Nat.le_refl _ | exact (by assumption : Below W0.heap.size W0 _).size)); obtain ⟨_, _, _, _, _, _, l6, l7, lf⟩ := HBX.out w3 g2; have lf6 := lf 6; have lf7 := lf 7; clear hO2 hb2 lf))
  all_goals
    have HT := Lib.hid (two_pq (Below.refl _ _).drew HO1.out HB1.out (Below.refl _ _) HO2.out HB2.out)
    obtain ⟨y0, y1, y2, y3, y4, y5, y6, y7, fy⟩ := HBR.out w3 g2
    have f0 := fy 0
    have f1 := fy 1
    have f2 := fy 2
    have f3 := fy 3
    have f4 := fy 4
    have f5 := fy 5
    have f6 := fy 6
    have f7 := fy 7
    clear fy
    go_wp2_with fail
    exact bodyPost_ret (v := .agg #[.int .i64 k, .int .i64 s, .int .i64 z, .int .u64 zc, .int .u64 ct, .int .i64 sm, .slice A1 P.length c1, .slice B1 Q.length d1]) (by simp [results, Tryz.results47, go_sem, y0, y1, y2, y3, y4, y5, y6, y7]) rfl ⟨A1, B1, c1, d1, rfl, HT.out.end_ HB0.out (by have := HSZ.out; omega) (by have := HSZ.out; omega) hHR _ _ _ _ _ _ _ _ _ _⟩
end Go.Proofs.YtakomfnajeolcaaGreatDoor


/- Arguments that are histograms, and slices of buckets, read as what the contracts ask. -/
namespace Go.Proofs.YtakomfnajeolcaaGreatDoor
open Go.ChangeShapes Go.WideShapes Go.RowKit Go.Deep
set_option linter.unusedVariables false
set_option maxRecDepth 100000

theorem spot_none {w : World} {a : Addr} {v : Value} (h : w.cell? (a.add (0 * 2)) = some v) : a = ⟨a.block, a.off, none⟩ := by
  simp [Addr.add] at h
  unfold World.cell? at h
  obtain ⟨b, o, s⟩ := a
  cases s with
  | none => rfl
  | some s =>
    simp only [Option.isSome_some, if_true] at h
    split at h <;> simp at h
theorem addr_at (b o k : Nat) : (⟨b, o, none⟩ : Addr).add k = ⟨b, o + k, none⟩ := by
  unfold Addr.add
  split
  · subst_vars; rfl
  · rfl
theorem list_of {α : Type} {R : Nat → α → Prop} : ∀ (n : Nat), (∀ i, i < n → ∃ p, R i p) → ∃ l : List α, l.length = n ∧ ∀ j p, l[j]? = some p → R j p := by
  intro n
  induction n with
  | zero => exact fun _ => ⟨[], rfl, by simp⟩
  | succ k ih =>
    intro hi
    obtain ⟨l, hl, hp⟩ := ih (fun i h => hi i (by omega))
    obtain ⟨q, hq⟩ := hi k (by omega)
    refine ⟨l ++ [q], by simp [hl], fun j p hj => ?_⟩
    by_cases hjk : j < l.length
    · rw [List.getElem?_append_left hjk] at hj
      exact hp j p hj
    · rw [List.getElem?_append_right (by omega)] at hj
      obtain ⟨h1, h2⟩ := List.getElem?_eq_some_iff.1 hj
      simp at h1 h2
      obtain rfl : j = k := by omega
      rw [← h2]
      exact hq
section
variable {H : Type} {enc : TypeId × Value → H} {w : World} {spare : Nat → Bool} {held : Bool}
/-- a slice of buckets, opened -/
theorem open_bk {fuel : Nat} {cs : List Value} {x : DataW H × List MemPlace} (h : DataW.trod enc Tryz.prog w 0 spare held fuel 37 cs = some x) : ∃ (A : Option Addr) (l : List (Int × Int)) (c : Nat), cs = [.slice A l.length c] ∧ Bk w A l := by
  rcases open_slice_pairs Tryz.underlying37 Tryz.underlying86 (by kernel_rfl) rfl rfl (by kernel_rfl) (by kernel_rfl) h with ⟨rfl, _⟩ | ⟨a, len, cap, m, n, V0, V1, D0, D1, P0, P1, rfl, _, hlc, hcm, hm, _, hc⟩
  · exact ⟨none, [], 0, rfl, by simp, by simp, .inl rfl⟩
  · have hlm : len ≤ m := by rw [hm]; split <;> omega
    have hi : ∀ i, i < len → ∃ p : Int × Int, V0 i = .int .i64 p.1 ∧ V1 i = .int .u64 p.2 ∧ Wb p := fun i hi => by
      obtain ⟨_, _, t0, t1⟩ := hc i (by omega)
      obtain ⟨x0, e0, _, w0⟩ := DataW.trod_int Tryz.underlying3 t0
      obtain ⟨x1, e1, _, w1⟩ := DataW.trod_int Tryz.underlying36 t1
      simp only [List.cons.injEq, and_true] at e0 e1
      have b0 := bounds_i64 w0
      have b1 := bounds_u64 w1
      exact ⟨(x0, x1), e0, e1, b0.1, b0.2, b1.1, b1.2⟩
    have hw := list_of len hi
    obtain ⟨l, rfl, hp⟩ := hw
    refine ⟨some a, l, cap, rfl, by unfold maxLen at hcm; omega, fun p hpm => ?_, ?_⟩
    · obtain ⟨j, hj, e⟩ := List.getElem_of_mem hpm
      exact (hp j p (by rw [List.getElem?_eq_getElem hj, e])).2.2
    · by_cases h0 : l.length = 0
      · exact .inl h0
      · have ha := spot_none (hc 0 (by omega)).1
        obtain ⟨b, o, sp⟩ := a
        simp only [Addr.mk.injEq, true_and] at ha
        subst ha
        refine .inr ⟨b, o, rfl, fun j p hj => ?_⟩
        have hjl := (List.getElem?_eq_some_iff.1 hj).1
        obtain ⟨e0, e1, _⟩ := hp j p hj
        obtain ⟨c0, c1, _, _⟩ := hc j (by omega)
        rw [e0, addr_at] at c0
        rw [e1, addr_at] at c1
        exact ⟨c0, by simpa [Nat.add_assoc] using c1⟩
theorem list8 {α : Type} : ∀ {l : List α}, l.length = 8 → ∃ a b c d e f g h, l = [a, b, c, d, e, f, g, h]
  | [a, b, c, d, e, f, g, h], _ => ⟨a, b, c, d, e, f, g, h, rfl⟩
end
end Go.Proofs.YtakomfnajeolcaaGreatDoor
