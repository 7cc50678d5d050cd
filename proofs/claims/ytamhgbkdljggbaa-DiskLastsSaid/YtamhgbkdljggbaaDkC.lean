/- Name, New, Fuse, Down, Steps, Used, give. -/
import Derived.Test.YtamhgbkdljggbaaDkB
import Derived.Test.YtamhgbkdljggbaaDkI
import Derived.Laws.IdiomRangeMap
namespace Go.Proofs.Ytamhgbkdljggbaa.Dk
open Go.RowKit Go.Maps
set_option linter.unusedVariables false

theorem grows (w : World) (o : Obj) : Below w.heap.size w (w.alloc o) := (Below.refl _ _).alloc (Nat.le_refl _) _
/-- may it be a name? -/
def okName (s : ByteArray) : Bool := decide (1 ≤ s.size) && decide (s.size ≤ 64) && !Lb.hasS s
theorem name_any (s : ByteArray) (w : World) (hs : Ks s) : Calls Try.prog 25 #[.string s] w fun e w' => e = .returned (.bool (okName s)) ∧ Below w.heap.size w w' := by
  have hsz : s.size ≤ 9223372036854775807 := by unfold Ks maxLen at hs; omega
  unfold okName
  by_cases h1 : 1 ≤ s.size
  · by_cases h64 : s.size ≤ 64
    · have HC := Lib.hid (Lb.contains_any s h64 w)
      obtain ⟨z, hz⟩ : ∃ z, Lb.hasS s = z := ⟨_, rfl⟩
      rw [hz] at HC ⊢
      have i1 : (1 : Int) ≤ (s.size : Int) := by omega
      have i2 : (s.size : Int) ≤ 64 := by omega
      have H1 := Lib.hid (show decide (1 ≤ s.size) = true by simpa using h1)
      have H2 := Lib.hid (show decide (s.size ≤ 64) = true by simpa using h64)
      rw [H1.out, H2.out]
      clear hz h1 h64 hs
      go_enter Try.func25, Try.ntmps25
      go_wp2_with fail
      refine HC.out.mono ?_
      rintro e w' ⟨rfl, hb⟩
      go_wp2_with fail
      go_ret
      exact ⟨rfl, hb⟩
    · have i1 : (1 : Int) ≤ (s.size : Int) := by omega
      have i2 : ¬ (s.size : Int) ≤ 64 := by omega
      have H2 := Lib.hid (show decide (s.size ≤ 64) = false by simpa using h64)
      rw [H2.out]
      clear h1 h64 hs
      go_enter Try.func25, Try.ntmps25
      go_wp2_with fail
      go_ret
      exact ⟨by simp, Below.refl _ _⟩
  · have i1 : ¬ (1 : Int) ≤ (s.size : Int) := by omega
    have H1 := Lib.hid (show decide (1 ≤ s.size) = false by simpa using h1)
    rw [H1.out]
    clear h1 hs
    go_enter Try.func25, Try.ntmps25
    go_wp2_with fail
    go_ret
    exact ⟨by simp, Below.refl _ _⟩
/-- a disk with nothing on it -/
def newS (room : Int) : PD := ⟨room, -1, 0, false, none, none, fun _ => 0, fun _ => 0, fun _ => ⟨.slice none 0 0, [], 0⟩⟩
theorem new_vd (room : Int) (g : Nat) : ¬ Vd (newS room) g := by
  rintro ⟨h0, s, h | h⟩
  · exact h0 h.symm
  · exact h0 h.symm
theorem DK.new {w : World} {d : Nat} {room : Int} (M : Nat) (hb : w.heap[d]? = some (.cells #[.int .i64 room, .map none, .map none, .int .i64 (-1), .bool false, .int .i64 0] 56 (0, 0))) : DK (fun k => k = d) w d M (newS room) := by
  have hlt : d < w.heap.size := (Array.getElem?_eq_some_iff.1 hb).1
  exact ⟨hb, rfl, .inl ⟨rfl, fun _ => rfl⟩, .inl ⟨rfl, fun _ => rfl⟩, (fun b h => by cases h), (fun b h => by cases h), (fun b h => by cases h), fun g hg => absurd hg (new_vd room g), fun g g' hg => absurd hg (new_vd room g), (fun k hk => by have hk' : k = d := hk; rw [hk']; exact hlt)⟩
theorem new_any (room : Int) (w : World) (h0 : 0 ≤ room) (h1 : room ≤ 1048576) : Calls Try.prog 6 #[.int .i64 room] w fun e w' => e = .returned (.tuple #[.pointer (some ⟨w.heap.size, 0, none⟩), .int .i64 0]) ∧ DK (fun k => k = w.heap.size) w' w.heap.size 0 (newS room) ∧ Below w.heap.size w w' ∧ w'.heap.size = w.heap.size + 1 := by
  have i1 : ¬ room < 0 := by omega
  have i2 : ¬ (1048576 : Int) < room := by omega
  obtain ⟨W, hW⟩ : ∃ W, w.alloc (.cells #[.int .i64 room, .map none, .map none, .int .i64 (-1), .bool false, .int .i64 0] 56 (0, 0)) = W := ⟨_, rfl⟩
  obtain ⟨d, hd⟩ : ∃ d, w.heap.size = d := ⟨_, rfl⟩
  have HD := Lib.hid (show DK (fun k => k = d) W d 0 (newS room) from DK.new 0 (hd ▸ hW ▸ heap_alloc_new w _))
  have HB := Lib.hid (show Below d w W from hd ▸ hW ▸ grows w _)
  have HS := Lib.hid (show W.heap.size = d + 1 by rw [← hW, ← hd]; simp)
  rw [hd]
  clear h0 h1
  go_enter Try.func6, Try.ntmps6
  go_wp2_with fail
  go_ret2
  exact ⟨rfl, HD.out, HB.out, HS.out⟩
theorem fuse_any (O : Nat → Prop) (d M : Nat) (S : PD) (z : Int) (w : World) (h : DK O w d M S) : Calls Try.prog 11 #[.pointer (some ⟨d, 0, none⟩), .int .i64 z] w fun e w' => e = .returned (.tuple #[]) ∧ DK O w' d M { S with fuse := z } ∧ Fr O w w' := by
  obtain ⟨⟨c0, c1, c2, c3, c4, c5⟩, fz⟩ := h.cells
  have f3 := fz 3
  have HD := Lib.hid (show DK O (w.setCell ⟨d, 3, none⟩ (.int .i64 z)) d M { S with fuse := z } from h.turn S.room z S.steps S.down (by simp) (fun k hk => Below.heap_setCell _ _ _ _ hk) (heap_set_at h.box _))
  have HF := Lib.hid (h.fr_set 3 (.int .i64 z))
  clear h fz
  go_enter Try.func11, Try.ntmps11
  go_wp2_with fail
  go_end0
  exact ⟨rfl, HD.out, HF.out⟩
theorem fuse_nil (z : Int) (w : World) : Calls Try.prog 11 #[.pointer none, .int .i64 z] w fun e w' => e = .returned (.tuple #[]) ∧ w' = w := by
  go_enter Try.func11, Try.ntmps11
  go_wp2_with fail
  go_end0
  exact ⟨rfl, rfl⟩
theorem down_any (O : Nat → Prop) (d M : Nat) (S : PD) (w : World) (h : DK O w d M S) : Calls Try.prog 20 #[.pointer (some ⟨d, 0, none⟩)] w fun e w' => e = .returned (.bool S.down) ∧ w' = w := by
  obtain ⟨⟨c0, c1, c2, c3, c4, c5⟩, _⟩ := h.cells
  clear h
  go_enter Try.func20, Try.ntmps20
  go_wp2_with fail
  go_ret
  exact ⟨rfl, rfl⟩
theorem down_nil (w : World) : Calls Try.prog 20 #[.pointer none] w fun e w' => e = .returned (.bool false) ∧ w' = w := by
  go_enter Try.func20, Try.ntmps20
  go_wp2_with fail
  go_ret
  exact ⟨rfl, rfl⟩
theorem steps_any (O : Nat → Prop) (d M : Nat) (S : PD) (w : World) (h : DK O w d M S) : Calls Try.prog 21 #[.pointer (some ⟨d, 0, none⟩)] w fun e w' => e = .returned (.int .i64 S.steps) ∧ w' = w := by
  obtain ⟨⟨c0, c1, c2, c3, c4, c5⟩, _⟩ := h.cells
  clear h
  go_enter Try.func21, Try.ntmps21
  go_wp2_with fail
  go_ret
  exact ⟨rfl, rfl⟩
theorem steps_nil (w : World) : Calls Try.prog 21 #[.pointer none] w fun e w' => e = .returned (.int .i64 0) ∧ w' = w := by
  go_enter Try.func21, Try.ntmps21
  go_wp2_with fail
  go_ret
  exact ⟨rfl, rfl⟩
theorem used_nil (w : World) : Calls Try.prog 18 #[.pointer none] w fun e w' => e = .returned (.int .i64 0) ∧ w' = w := by
  go_enter Try.func18, Try.ntmps18
  go_wp2_with fail
  go_ret
  exact ⟨rfl, rfl⟩
/-! Used -/
/-- what is known of all bytes: of no file, and of one -/
def Tot (S : PD) (U : Int) : Prop := ((∀ s, S.now s = 0) → U = 0) ∧ ∀ s, S.now s ≠ 0 → (∀ z, S.now z ≠ 0 → z = s) → U = ((S.F (S.now s)).bs.length : Int)
def TotL (S : PD) (left : Lit → Bool) (U : Int) : Prop := ((∀ s, S.now s = 0) → U = 0) ∧ ∀ s, S.now s ≠ 0 → (∀ z, S.now z ≠ 0 → z = s) → (left (.string s) = true ∧ U = 0) ∨ (left (.string s) = false ∧ U = ((S.F (S.now s)).bs.length : Int))
def UsP (w : World) (S : PD) (e : Ending) (w' : World) : Prop := ∃ U : Int, e = .returned (.int .i64 U) ∧ I64 U ∧ Tot S U ∧ Below w.heap.size w w'
def UsR (w : World) (S : PD) (b r n : Nat) (D : DataW Unit) (v3 : Value) (wr : World) : Prop := ∃ (left : Lit → Bool) (cnt : Nat) (U : Int), wr.ranges Try.prog 9 ptrR b r n D left cnt ∧ v3 = .int .i64 U ∧ I64 U ∧ TotL S left U ∧ Below w.heap.size w wr
theorem wrap_i64 (z : Int) : I64 (IntKind.i64.wrap z) := by
  exact bounds_i64 (wf_wrap .i64 z)
theorem range_now {D : DataW Unit} {f : Nm → Nat} (hv : View D f) {x : ByteArray} {kl : Lit} {cc : Nat} {y : DataW Unit × List MemPlace} (hk : keyOf Try.prog 9 (.string x) = some kl) (hR : ptrR (ptrV cc) = some y) (hat : ∀ zd, D.atKey kl zd = y.1) : ∃ s, f s = cc ∧ kl = .string s ∧ cc ≠ 0 := by
  obtain ⟨x', hx, rfl, _⟩ := WideMaps.string_of_keyOf keyS hk
  rw [ptrR_mk] at hR
  injection hR with hR
  subst hR
  obtain ⟨h1, h2⟩ := hv x'.data.toList
  rw [hat] at h1
  have e1 : (cc : Int) = ((f x'.data.toList : Nat) : Int) := congrArg litN h1
  refine ⟨x'.data.toList, by omega, rfl, fun h0 => ?_⟩
  have hf : has D (.string x'.data.toList) = false := by rw [h2]; have : f x'.data.toList = 0 := by omega
                                                         rw [this]; rfl
  have e2 := atKey_of_not_has hf (.lit (.int .u64 1))
  rw [hat] at e2
  have e3 : (cc : Int) = 1 := congrArg litN e2
  omega
theorem range_key {D : DataW Unit} {S : PD} (hv : View D S.now) {x : ByteArray} {kl : Lit} {cc : Nat} {y : DataW Unit × List MemPlace} (hk : keyOf Try.prog 9 (.string x) = some kl) (hR : ptrR (ptrV cc) = some y) (hat : ∀ zd, D.atKey kl zd = y.1) : Vd S cc := by
  obtain ⟨s, h1, _, h2⟩ := range_now hv hk hR hat
  exact ⟨h2, s, .inl h1⟩
set_option maxHeartbeats 1000000 in
theorem used_any (O : Nat → Prop) (d M : Nat) (S : PD) (w : World) (h : DK O w d M S) (hM : M ≤ 1000000) : Calls Try.prog 18 #[.pointer (some ⟨d, 0, none⟩)] w (UsP w S) := by
  obtain ⟨⟨c0, c1, c2, c3, c4, c5⟩, _⟩ := h.cells
  have hnow := h.now
  rcases hnow with ⟨hn0, h0⟩ | ⟨b, D, hb, hown, hview⟩
  · rw [hn0] at c1
    have hr := run_range_nilMap w 54 9 58 (P := Try.prog) Try.underlying54
    have hnx := fun ty => run_next_nilMap (P := Try.prog) w ty 0 0 #[]
    have HP := Lib.hid (show UsP w S (.returned (.int .i64 0)) (w.alloc (.mapIter none 0 #[] 0)) from ⟨0, rfl, ⟨by decide, by decide⟩, ⟨fun _ => rfl, fun s hs => absurd (h0 s) hs⟩, grows w _⟩)
    clear h hn0 h0
    go_enter Try.func18, Try.ntmps18
    go_wp2_with fail
    refine wp_loop_rounds 1 ?_
    rw [rounds_succ]
    go_wp2_with fail
    go_ret
    exact HP.out
  · rw [hb] at c1
    have H := Lib.hid h
    have HO := Lib.hid hown
    have HV := Lib.hid hview
    clear h hb hown hview
    go_enter Try.func18, Try.ntmps18
    go_wp2_with (refine wpList_range_own _ rfl _ _ rfl 9 58 KS Try.underlying54 ptrR b M D rfl HO.out ?_)
    intro w3 hrg hg3 hs3
    have HRG := Lib.hid hrg
    have HB3 := Lib.hid ((Below.refl _ _ : Below w.heap.size w w).grown hg3 (Nat.le_refl _) (fun k hk => by cases hk))
    clear hrg hg3 hs3
    obtain ⟨r, hr⟩ : ∃ r, w.heap.size = r := ⟨_, rfl⟩
    rw [hr] at HRG
    have R0 := Lib.hid (show UsR w S b r M D (.int .i64 0) w3 from ⟨_, _, 0, HRG.out, rfl, ⟨by decide, by decide⟩, ⟨fun _ => rfl, fun s hs _ => .inl ⟨by rw [(HV.out s).2]; exact decide_eq_true hs, rfl⟩⟩, HB3.out⟩)
    have HR := Lib.hid hr
    rw [hr]
    clear hr HRG HB3
    go_wp2_with fail
    go_loopw [3] (fun v3 wr => Hid (UsR w S b r M D v3 wr)) (fun _ wr => wr.rangeLeft b r)
    case atStart => exact R0
    case round =>
      clear R0
      obtain ⟨left, cnt, U, hrng, rfl, hU, hU0, hbl⟩ := hrel.out
      clear hrel
      have HLE := Lib.hid hrng.left_eq
      have HU := Lib.hid (And.intro hU hU0)
      have HB := Lib.hid hbl
      clear hU hU0 hbl
      go_wp2_with (at_next; refine wpList_next_ranges _ rfl _ rfl 9 KS ptrR Value.string ptrV (fun key kl hk => by obtain ⟨x, hx, _⟩ := WideMaps.string_of_keyOf keyS hk; exact ⟨x, hx⟩) (fun v y hv => by obtain ⟨g, hg, _⟩ := ptrR_inv hv; exact ⟨g, hg⟩) b r M D left cnt rfl hrng ?_ ?_)
      · intro hc hl
        have HP := Lib.hid (show UsP w S (.returned (.int .i64 U)) wr from ⟨U, rfl, HU.out.1, ⟨HU.out.2.1, fun s hs hz => by
          rcases HU.out.2.2 s hs hz with ⟨h1, _⟩ | ⟨_, h1⟩
          · rw [hl] at h1; cases h1
          · exact h1⟩, HB.out⟩)
        clear hc hl hrng
        go_wp2_with fail
        go_ret
        exact HP.out
      · intro x cc kl y1 y2 w' cnt' hky hl hR hat hrg hlt hgr hsz hen
        have hkey := range_key HV.out hky hR hat
        have hgr' := Lib.hid (HB.out.grown hgr HB.out.size (fun k hk => by cases hk; have := HR.out; omega))
        obtain ⟨g, A, n, c, rfl, hO, hv, hbox, hrow, h8, hkl, hlen, hrl⟩ := H.out.file cc hkey
        have hbox' := (hgr'.out.block g (H.out.bound g hO)).trans hbox
        have q0 : w'.cell? ⟨g, 0, none⟩ = some (.slice A n c) := by rw [cell_of_row _ _ _ _ _ _ hbox']; rfl
        have hn9 : n ≤ 1000000 := by have := hrow.1; rw [Tk.cellsB_length] at this; omega
        have HVD := Lib.hid (show ¬ ∀ s, S.now s = 0 from fun h0 => by
          obtain ⟨s, hs, _, hn⟩ := range_now HV.out hky hR hat
          rw [h0 s] at hs
          exact hn hs.symm)
        have hnl : n = (S.F (g + 1)).bs.length := by have := hrow.1; rw [Tk.cellsB_length] at this; omega
        have HON := Lib.hid (show ∀ s, S.now s ≠ 0 → (∀ z, S.now z ≠ 0 → z = s) → kl = .string s ∧ U = 0 ∧ (n : Int) = ((S.F (S.now s)).bs.length : Int) from fun s hs hz => by
          obtain ⟨s', hs', e, hn⟩ := range_now HV.out hky hR hat
          have e2 := hz s' (by rw [hs']; exact hn)
          subst e2
          refine ⟨e, ?_, by rw [hs', hnl]⟩
          rcases HU.out.2.2 s' hs hz with ⟨_, h1⟩ | ⟨h1, _⟩
          · exact h1
          · rw [e] at hl
            rw [hl] at h1; cases h1)
        have HRG := Lib.hid hrg
        have HLT := Lib.hid (show w'.rangeLeft b r < wr.rangeLeft b r by rw [hrg.left_eq, HLE.out]; exact hlt)
        clear hnl hky hl hR hat hrg hlt hgr hsz hkey hbox hbox' hrow h8 hkl hlen hrl hv hO hrng
        simp only [ptrV] at hen ⊢
        go_wp2_with fail
        go_roundw
        case rel => exact Lib.hid ⟨_, _, _, HRG.out, rfl, by first | (rw [← IntWalk.i64_left]; exact wrap_i64 _) | (have := HU.out.1; unfold I64 at this ⊢; omega), ⟨fun h0 => absurd h0 HVD.out, fun s hs hz => .inr (by
          obtain ⟨e1, e2, e3⟩ := HON.out s hs hz
          refine ⟨by rw [e1]; simp [Lit.sameKey], ?_⟩
          rw [e2, ← e3]
          first | omega | (rw [← IntWalk.i64_left, IntWalk.i64_in _ ⟨by omega, by omega⟩]; omega) | (rw [IntWalk.i64_in _ ⟨by omega, by omega⟩]; omega))⟩, hgr'.out⟩
        case measure => exact HLT.out
end Go.Proofs.Ytamhgbkdljggbaa.Dk
