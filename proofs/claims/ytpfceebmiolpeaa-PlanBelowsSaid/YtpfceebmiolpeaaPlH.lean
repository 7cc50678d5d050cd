/- Next. -/
import Derived.Test.YtpfceebmiolpeaaPlG
namespace Go.Proofs.Ytpfceebmiolpeaa.Pl
open Go.RowKit Go.Sort
set_option linter.unusedVariables false

/-- what Next returns -/
def NxP (w : World) (l : List It) (e : Ending) (w' : World) : Prop := (NextR l none ∧ e = .returned (.tuple #[.agg #[.slice none 0 0, .int .i64 0], .bool false]) ∧ Below w.heap.size w w') ∨
  ∃ k S v, NextR l (some (k, S)) ∧ e = .returned (.tuple #[.agg #[v, .int .i64 k], .bool true]) ∧ IntP w S v w'
theorem nodup_perm {l Y : List It} (h : Y.Perm l) {k : Int} (g : NoDup k Y) : NoDup k l := fun v => by rw [← cnt_perm h]; exact g v
theorem isFst_perm {l Y : List It} (h : Y.Perm l) {k v : Int} (g : IsFst k Y v) : IsFst k l v := ⟨by rw [← cnt_perm h]; exact g.1, fun u hu => g.2 u (by rw [cnt_perm h]; exact hu)⟩
theorem box2f {W : World} {g : Nat} {t : TypeId} {v0 v1 : Value} (h : W.heap[g]? = some (.cells #[v0, v1] t (0, 0))) : W.cell? ⟨g, 0, none⟩ = some v0 ∧ W.cell? ⟨g, 1, none⟩ = some v1 ∧ W.frozen? ⟨g, 0, none⟩ = false ∧ W.frozen? ⟨g, 1, none⟩ = false :=
  ⟨(box2 h).1, (box2 h).2, by simp [World.frozen?, h], by simp [World.frozen?, h]⟩
theorem set2 {W : World} {g : Nat} {t : TypeId} {v0 v1 : Value} (h : W.heap[g]? = some (.cells #[v0, v1] t (0, 0))) (u0 u1 : Value) : ((W.setCell ⟨g, 0, none⟩ u0).setCell ⟨g, 1, none⟩ u1).heap[g]? = some (.cells #[u0, u1] t (0, 0)) := by
  rw [heap_set_at (heap_set_at h u0) u1]; rfl
set_option maxHeartbeats 4000000 in
set_option maxRecDepth 100000 in
theorem next_any (A : Option Addr) (n c : Nat) (l : List It) (w : World) (hn : n = l.length) (h : Cl w A (fC itA l)) (hr : ∀ x ∈ l, RightI x) (hl : l.length ≤ 1000) :
    Calls Try.prog 16 #[.slice A n c] w (NxP w l) := by
  subst hn
  obtain ⟨W1, hW1⟩ : ∃ W1, w.alloc (.cells #[.slice none 0 0, .int .i64 0] 36) = W1 := ⟨_, rfl⟩
  obtain ⟨g, hg⟩ : ∃ g, w.heap.size = g := ⟨_, rfl⟩
  have hb1 : Below w.heap.size w W1 := hW1 ▸ (Below.refl _ _).alloc (Nat.le_refl _) _
  have hx1 : W1.heap[g]? = some (.cells #[.slice none 0 0, .int .i64 0] 36 (0, 0)) := hg ▸ hW1 ▸ heap_alloc_new w _
  have HS := Lib.hid (byLow_any A l.length c l W1 rfl (h.below hb1) hl)
  have HR := Lib.hid hr
  have HG := Lib.hid hg
  have HB1 := Lib.hid hb1
  have HX1 := Lib.hid hx1
  have HL := Lib.hid (h.below hb1)
  clear h hr hb1 hx1
  go_enter Try.func16, Try.ntmps16
  go_wp2_with fail
  refine HS.out.mono ?_
  rintro e w2 ⟨v, Y, rfl, hp, hs, B, d, rfl, hown, hb⟩
  obtain ⟨m, hm⟩ : ∃ m, Y.length = m := ⟨_, rfl⟩
  have HM := Lib.hid hm
  have hml := hp.length_eq
  have HY := Lib.hid (And.intro hp hs)
  have HYR := Lib.hid (right_perm hp HR.out)
  have HC := Lib.hid (own_cl hown)
  have HB := Lib.hid hb
  have HX2 := Lib.hid ((hb.block g (Array.getElem?_eq_some_iff.1 HX1.out).1).trans HX1.out)
  have HL2 := Lib.hid (HL.out.below hb)
  have HW2 := Lib.hid (HB1.out.trans (hb.mono HB1.out.size))
  have HGL := Lib.hid (Array.getElem?_eq_some_iff.1 HX2.out).1
  have hm1 : m ≤ 1000 := by omega
  rw [hm]
  clear hp hs hown hb hm hml hg hW1
  go_wp2_with fail
  go_loopw [10] (fun i wr => ∃ j : Nat, j ≤ 5 ∧ i = .int .i64 j ∧ Hid ((∀ q : Int, 0 ≤ q → q < j → NoDup q l) ∧ Below w2.heap.size w2 wr)) (fun i _ => 5 - (intOf i).toNat)
  case atStart => exact ⟨0, by omega, rfl, Lib.hid ⟨fun q h1 h2 => absurd h2 (by omega), Below.refl _ _⟩⟩
  case round =>
    obtain ⟨j, hj, rfl, HI⟩ := hrel
    have hxr := (HI.out.2.block g HGL.out).trans HX2.out
    have hgr : g < wr.heap.size := (Array.getElem?_eq_some_iff.1 hxr).1
    have HBR := Lib.hid (HW2.out.trans (HI.out.2.mono HW2.out.size))
    by_cases hlt : j < 5
    · have hji : (j : Int) < 5 := by omega
      have HSV := Lib.hid (several_any B m d Y (j : Int) wr HM.out.symm (HC.out.below HI.out.2) HYR.out (by rw [HM.out]; exact hm1) ⟨by omega, by omega⟩)
      rcases hsv : sevF (j : Int) (-1) Y with _ | z
      · rw [hsv] at HSV
        have HN := Lib.hid (nodup_perm HY.out.1 (sev_none HYR.out HY.out.2 hsv))
        have HQ := Lib.hid (show ∀ q : Int, 0 ≤ q → q < ((j + 1 : Nat) : Int) → NoDup q l from fun q h1 h2 => by
          by_cases e : q = j
          · rw [e]; exact HN.out
          · exact HI.out.1 q h1 (by omega))
        have HI2 := Lib.hid HI.out.2
        have HIS := Lib.hid HI.out.2.size
        clear hxr hsv HI
        unfold sevV at HSV
        go_wp2_with (go_at_call 33; refine HSV.out.mono ?_; rintro e w3 ⟨rfl, hb3⟩; have HB3 := Lib.hid (HI2.out.trans (hb3.mono HIS.out)); clear hb3)
        go_roundw
        case rel => exact ⟨j + 1, by omega, by go_num, Lib.hid ⟨HQ.out, HB3.out⟩⟩
        case measure => simp [intOf]; omega
      · rw [hsv] at HSV
        have HF := Lib.hid (isFst_perm HY.out.1 (sev_fst HYR.out HY.out.2 hsv))
        have HQ := Lib.hid HI.out.1
        have HI2 := Lib.hid HI.out.2
        have HIS := Lib.hid HI.out.2.size
        have HLR := Lib.hid (HL2.out.below HI.out.2)
        have HXR := Lib.hid hxr
        clear hxr hsv HI
        unfold sevV at HSV
        go_wp2_with (first
          | (go_at_call 33; refine HSV.out.mono ?_; rintro e w3 ⟨rfl, hb3⟩; have HB3 := Lib.hid hb3; have HL3 := Lib.hid (HLR.out.below hb3); have HX3 := Lib.hid ((hb3.block g hgr).trans HXR.out); clear hb3)
          | (go_at_call 22; refine (within_any A l.length c l (j : Int) z w3 rfl HL3.out HR.out hl ⟨by omega, by omega⟩ (by have := (HF.out.range HR.out).1; omega)).mono ?_; rintro e w4 ⟨v, rfl, hq⟩; obtain ⟨A4, c4, rfl, ho4, hb4⟩ := hq; have hx4 := (hb4.block g (Array.getElem?_eq_some_iff.1 HX3.out).1).trans HX3.out; obtain ⟨y0, y1, f0, f1⟩ := box2f hx4; have HP4 := Lib.hid (And.intro ho4 (And.intro hb4 hx4)); clear ho4 hb4 hx4))
        have hz := block_lt_of_cell y0
        simp only at hz
        have hset := set2 HP4.out.2.2 (.slice A4 (withinF l (j : Int) z).length c4) (.int .i64 (j : Int))
        obtain ⟨z0, z1⟩ := box2 hset
        have HE := Lib.hid (show NxP w l (.returned (.tuple #[.agg #[.slice A4 (withinF l (j : Int) z).length c4, .int .i64 (j : Int)], .bool true])) ((w4.setCell ⟨g, 0, none⟩ (.slice A4 (withinF l (j : Int) z).length c4)).setCell ⟨g, 1, none⟩ (.int .i64 (j : Int))) from by
          have hbr := HBR.out
          have h3 := HB3.out
          have hz3 := h3.size
          have hg0 := HG.out
          refine .inr ⟨(j : Int), withinF l (j : Int) z, .slice A4 (withinF l (j : Int) z).length c4, ⟨by omega, by omega, fun q h1 h2 => HQ.out q h1 h2, z, HF.out, rfl⟩, rfl, A4, c4, rfl, ?_, ?_⟩
          · exact own_base (ownsRow_setCell_below (ownsRow_setCell_below HP4.out.1 (a := ⟨g, 0, none⟩) (by simp; omega) _) (a := ⟨g, 1, none⟩) (by simp; omega) _) (by have := hbr.size; omega)
          · have h5 := (hbr.trans (h3.mono hbr.size)).trans (HP4.out.2.1.mono (by have := hbr.size; omega))
            exact (h5.setCell (p := ⟨g, 0, none⟩) (by simp; omega) _).setCell (p := ⟨g, 1, none⟩) (by simp; omega) _)
        clear hset y0 y1 f0 f1
        exact bodyPost_ret (v := .tuple #[.agg #[.slice A4 (withinF l (j : Int) z).length c4, .int .i64 (j : Int)], .bool true]) (by simp [results, Try.results16, go_sem, z0, z1]) rfl HE.out
    · obtain rfl : j = 5 := by omega
      have HQ := Lib.hid (show NextR l none from fun k h0 h4 => HI.out.1 k h0 (by omega))
      obtain ⟨y0, y1, f0, f1⟩ := box2f hxr
      have hset := set2 hxr (.slice none 0 0) (.int .i64 0)
      obtain ⟨z0, z1⟩ := box2 hset
      clear hxr HI hset
      have HE := Lib.hid (show NxP w l (.returned (.tuple #[.agg #[.slice none 0 0, .int .i64 0], .bool false])) ((wr.setCell ⟨g, 0, none⟩ (.slice none 0 0)).setCell ⟨g, 1, none⟩ (.int .i64 0)) from
        .inl ⟨HQ.out, rfl, ((HBR.out).setCell (p := ⟨g, 0, none⟩) (by have := HG.out; simp; omega) _).setCell (p := ⟨g, 1, none⟩) (by have := HG.out; simp; omega) _⟩)
      go_wp2_with fail
      exact bodyPost_ret (v := .tuple #[.agg #[.slice none 0 0, .int .i64 0], .bool false]) (by simp [results, Try.results16, go_sem, z0, z1]) rfl HE.out
end Go.Proofs.Ytpfceebmiolpeaa.Pl
