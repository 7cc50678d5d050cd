/- The document's maps of numbers: copied, without. -/
import Derived.Test.YtamhgbkdljggbaaDkC
import Derived.Test.YtamhgbkdljggbaaDkH
namespace Go.Proofs.Ytamhgbkdljggbaa.Dk
open Go.RowKit Go.Maps
set_option linter.unusedVariables false

def numR : Value → Option (DataW Unit × List MemPlace)
  | .int .i64 z => some (.lit (.int .i64 z), [])
  | _ => none
theorem numR_inv {v : Value} {y : DataW Unit × List MemPlace} (h : numR v = some y) : ∃ z : Int, v = .int .i64 z ∧ y = (.lit (.int .i64 z), []) := by
  unfold numR at h
  split at h
  · injection h with h
    exact ⟨_, rfl, h.symm⟩
  · cases h
/-- a map of names to numbers below n, at most K names -/
def NM (w : World) (b n K : Nat) : Prop := ∃ D, w.ownsMap Try.prog 9 numR b K D ∧ ∀ s, has D (.string s) = true → ∃ m : Nat, m < n ∧ ∀ zd, D.atKey (.string s) zd = .lit (.int .i64 (m : Int))
theorem NM.mono {w : World} {b n K n' K' : Nat} (h : NM w b n K) (hn : n ≤ n') (hK : K ≤ K') : NM w b n' K' := by
  obtain ⟨D, h1, h2⟩ := h
  exact ⟨D, h1.mono hK, fun s hs => by obtain ⟨m, h3, h4⟩ := h2 s hs; exact ⟨m, by omega, h4⟩⟩
theorem own_num {w w' : World} {b K : Nat} {D : DataW Unit} (h : w.ownsMap Try.prog 9 numR b K D) (hb : w'.heap[b]? = w.heap[b]?) : w'.ownsMap Try.prog 9 numR b K D := by
  obtain ⟨es, clock, h1, F, hs, hD⟩ := h
  exact ⟨es, clock, hb.trans h1, F, hs, hD⟩
theorem NM.keep {w w' : World} {b n K : Nat} (h : NM w b n K) (hb : w'.heap[b]? = w.heap[b]?) : NM w' b n K := by
  obtain ⟨D, h1, h2⟩ := h
  exact ⟨D, own_num h1 hb, h2⟩
theorem NM.lt {w : World} {b n K : Nat} (h : NM w b n K) : b < w.heap.size := by
  obtain ⟨D, h1, _⟩ := h
  exact h1.lt
theorem NM.isMap {w : World} {b n K : Nat} (h : NM w b n K) : ∃ es clock, w.heap[b]? = some (.map es clock) := by
  obtain ⟨D, ⟨es, clock, h1, _⟩, _⟩ := h
  exact ⟨es, clock, h1⟩
theorem NM.made (w : World) (n : Nat) : NM (w.alloc (.map #[] 0)) w.heap.size n 0 := ⟨_, World.ownsMap_made w _ _ _, fun s h => by cases h⟩
theorem zeroI (w : World) : (zeroValue 3).run Try.prog w = .ok (.int .i64 0) w := by kernel_rfl
theorem NM.look {w : World} {b n K : Nat} (h : NM w b n K) {s : ByteArray} (hs : Ks s) : ∃ (z : Int) (ok : Bool), (Instr.lookup 63 (.map (some b)) (.string s) true).run Try.prog w = .ok (.tuple #[.int .i64 z, .bool ok]) w ∧ (ok = true → ∃ m : Nat, m < n ∧ z = (m : Int)) := by
  obtain ⟨D, h1, h2⟩ := h
  obtain ⟨v, ps, hr, hv⟩ := h1.look_ok KS Try.underlying63 (zeroI w) (z := .int .i64 0) (zd := .lit (.int .i64 0)) (zp := []) rfl (key_mk hs)
  obtain ⟨z, rfl, e⟩ := numR_inv hv
  refine ⟨z, _, hr, fun hk => ?_⟩
  obtain ⟨m, hm, ha⟩ := h2 _ hk
  rw [ha] at e
  have e1 : (m : Int) = z := congrArg (fun q : DataW Unit × List MemPlace => litN q.1) e
  exact ⟨m, hm, e1.symm⟩
theorem NM.store {w : World} {b n K : Nat} (h : NM w b n K) (hK : K < maxLen) {s : ByteArray} (hs : Ks s) {m : Nat} (hm : m < n) :
    ∃ w', (Instr.mapUpdate 63 (.map (some b)) (.string s) (.int .i64 (m : Int))).run Try.prog w = .ok () w' ∧ NM w' b n (K + 1) ∧ w.grownBy w' (some b) := by
  obtain ⟨D, h1, h2⟩ := h
  obtain ⟨w', r1, r2, r3⟩ := h1.update KS Try.underlying63 hK (key_mk hs) (val := .int .i64 (m : Int)) (d := .lit (.int .i64 (m : Int))) (ps := []) rfl
  refine ⟨w', r1, ⟨_, r2, fun t ht => ?_⟩, r3⟩
  by_cases e : t = s.data.toList
  · subst e
    exact ⟨m, hm, fun zd => atKey_put_same h1.isMap (isKey _) _ _⟩
  · have hne : (Lit.string t) ≠ .string s.data.toList := fun h => e (by injection h)
    rw [has_put_other hne] at ht
    obtain ⟨m', h3, h4⟩ := h2 t ht
    exact ⟨m', h3, fun zd => by rw [atKey_put_other hne]; exact h4 zd⟩
theorem NM.len {w : World} {b n K : Nat} (h : NM w b n K) (ty : TypeId) : ∃ z : Nat, z ≤ K ∧ (Builtin.len_ #[63] ty #[.map (some b)]).run Try.prog w = .ok (.int .i64 (z : Int)) w := by
  obtain ⟨D, h1, _⟩ := h
  exact ⟨_, h1.size_le, h1.len Try.underlying63 ty⟩
/-- what a range over such a map gives -/
theorem num_key {D : DataW Unit} {n : Nat} (h2 : ∀ s, has D (.string s) = true → ∃ m : Nat, m < n ∧ ∀ zd, D.atKey (.string s) zd = .lit (.int .i64 (m : Int))) {x : ByteArray} {kl : Lit} {z : Int} {y : DataW Unit × List MemPlace} (hk : keyOf Try.prog 9 (.string x) = some kl) (hR : numR (.int .i64 z) = some y) (hat : ∀ zd, D.atKey kl zd = y.1) : Ks x ∧ ∃ m : Nat, m < n ∧ z = (m : Int) := by
  obtain ⟨x', hx, rfl, hl⟩ := WideMaps.string_of_keyOf keyS hk
  injection hx with hx
  subst hx
  refine ⟨hl, ?_⟩
  have hh : has D (.string x.data.toList) = true := has_true_of_atKey hat
  obtain ⟨m, hm, ha⟩ := h2 _ hh
  refine ⟨m, hm, ?_⟩
  have e := (hat (.lit (.int .i64 0))).symm.trans (ha (.lit (.int .i64 0)))
  obtain ⟨z', hz, rfl⟩ := numR_inv hR
  have hz := (Value.int.inj hz).2
  subst hz
  exact congrArg litN e
def NewM (w : World) (n K : Nat) (e : Ending) (w' : World) : Prop := ∃ b', e = .returned (.map (some b')) ∧ w.heap.size ≤ b' ∧ NM w' b' n K ∧ Below w.heap.size w w'
def CpR (w : World) (b b' r n K : Nat) (D : DataW Unit) (wr : World) : Prop := ∃ (left : Lit → Bool) (cnt K' : Nat), wr.ranges Try.prog 9 numR b r K D left cnt ∧ NM wr b' n K' ∧ K' + cnt ≤ K ∧ Below w.heap.size w wr
set_option maxHeartbeats 1000000 in
theorem copied_any (b n K : Nat) (w : World) (h : NM w b n K) (hK : K ≤ 1000000) : Calls Try.prog 47 #[.map (some b)] w (NewM w n K) := by
  show Calls Try.prog 47 #[.map (some b)] w fun e w' => NewM w n K e w'
  obtain ⟨D, h1, h2⟩ := h
  have H2 := Lib.hid h2
  have HL := Lib.hid h1.lt
  obtain ⟨W1, hW1⟩ : ∃ W1, w.alloc (.map #[] 0) = W1 := ⟨_, rfl⟩
  obtain ⟨b', hb'⟩ : ∃ b', w.heap.size = b' := ⟨_, rfl⟩
  have HO := Lib.hid (show W1.ownsMap Try.prog 9 numR b K D from hW1 ▸ h1.alloc _)
  have HN := Lib.hid (show NM W1 b' n 0 from hb' ▸ hW1 ▸ NM.made w n)
  have HB1 := Lib.hid (show Below w.heap.size w W1 from hW1 ▸ grows w _)
  have HS1 := Lib.hid (show W1.heap.size = b' + 1 by rw [← hW1, ← hb']; simp)
  have hmk : (Instr.makeMap 63 none).run Try.prog w = .ok (.map (some w.heap.size)) (w.alloc (.map #[] 0)) := rfl
  rw [hb', hW1] at hmk
  have HB' := Lib.hid hb'
  clear h1 h2 hW1 hb'
  go_enter Try.func47, Try.ntmps47
  go_wp2_with (refine wpList_range_own _ rfl _ _ rfl 9 3 KS Try.underlying63 numR b K D rfl HO.out ?_)
  intro w3 hrg hg3 hs3
  obtain ⟨r, hr⟩ : ∃ r, W1.heap.size = r := ⟨_, rfl⟩
  rw [hr] at hrg
  have R0 := Lib.hid (show CpR w b b' r n K D w3 from ⟨_, _, 0, hrg, HN.out.keep (hg3.block b' (by rw [HS1.out]; omega) (by simp)), by have := HO.out.size_le; omega, (HB1.out.grown hg3 HB1.out.size (fun k hk => by cases hk))⟩)
  have HR := Lib.hid (show r = b' + 1 by rw [← hr, HS1.out])
  rw [hr]
  clear hrg hg3 hs3 hmk hr
  go_wp2_with fail
  go_loopw [4, 5] (fun _ _ wr => Hid (CpR w b b' r n K D wr)) (fun _ _ wr => wr.rangeLeft b r)
  case atStart => exact R0
  case round =>
    clear R0
    obtain ⟨left, cnt, K', hrng, hnm, hle, hbl⟩ := hrel.out
    clear hrel
    have HLE := Lib.hid hrng.left_eq
    have HNM := Lib.hid (And.intro hnm hle)
    have HB := Lib.hid hbl
    clear hnm hle hbl
    go_wp2_with (at_next; refine wpList_next_ranges _ rfl _ rfl 9 KS numR Value.string (Value.int .i64) (fun key kl hk => by obtain ⟨x, hx, _⟩ := WideMaps.string_of_keyOf keyS hk; exact ⟨x, hx⟩) (fun v y hv => by obtain ⟨g, hg, _⟩ := numR_inv hv; exact ⟨g, hg⟩) b r K D left cnt rfl hrng ?_ ?_)
    · intro hc hl
      have HP := Lib.hid (show NewM w n K (.returned (.map (some b'))) wr from ⟨b', rfl, Nat.le_of_eq HB'.out, HNM.out.1.mono (Nat.le_refl _) (by have := HNM.out.2; omega), HB.out⟩)
      clear hc hl hrng
      go_wp2_with fail
      go_ret
      exact HP.out
    · intro x z kl y1 y2 w' cnt' hky hl hR hat hrg hlt hgr hsz hen
      obtain ⟨hkx, m, hm, rfl⟩ := num_key H2.out hky hR hat
      have hgr' := HB.out.grown hgr HB.out.size (fun k hk => by cases hk; have := HR.out; have := HB'.out; omega)
      have hnm' : NM w' b' n K' := HNM.out.1.keep (hgr.block b' HNM.out.1.lt (by have := HR.out; simp; omega))
      obtain ⟨w5, hrun, hnm5, hg5⟩ := hnm'.store (by have := HNM.out.2; unfold maxLen; omega) hkx hm
      have hrg5 : w5.ranges Try.prog 9 numR b r K D _ cnt' := hrg.kept hg5 (by have := HL.out; have := HB'.out; simp; omega) (by have := HR.out; simp; omega)
      have HRG := Lib.hid hrg5
      have HLT := Lib.hid (show w5.rangeLeft b r < wr.rangeLeft b r by rw [hrg5.left_eq, HLE.out]; exact hlt)
      have HN5 := Lib.hid (show NM w5 b' n (K' + 1) ∧ K' + 1 + cnt' ≤ K from ⟨hnm5, by have := HNM.out.2; omega⟩)
      have HB5 := Lib.hid (hgr'.grown hg5 hgr'.size (fun k hk => by cases hk; have := HB'.out; omega))
      clear hky hl hR hat hrg hlt hgr hsz hm hgr' hnm' hnm5 hg5 hrg5 hrng hkx
      go_wp2_with fail
      go_roundw
      case rel => exact Lib.hid ⟨_, _, _, HRG.out, HN5.out.1, HN5.out.2, HB5.out⟩
      case measure => exact HLT.out
set_option maxHeartbeats 1000000 in
theorem without_any (b n K : Nat) (nm : ByteArray) (w : World) (h : NM w b n K) (hK : K ≤ 1000000) : Calls Try.prog 46 #[.map (some b), .string nm] w (NewM w n K) := by
  show Calls Try.prog 46 #[.map (some b), .string nm] w fun e w' => NewM w n K e w'
  obtain ⟨D, h1, h2⟩ := h
  have H2 := Lib.hid h2
  have HL := Lib.hid h1.lt
  obtain ⟨W1, hW1⟩ : ∃ W1, w.alloc (.map #[] 0) = W1 := ⟨_, rfl⟩
  obtain ⟨b', hb'⟩ : ∃ b', w.heap.size = b' := ⟨_, rfl⟩
  have HO := Lib.hid (show W1.ownsMap Try.prog 9 numR b K D from hW1 ▸ h1.alloc _)
  have HN := Lib.hid (show NM W1 b' n 0 from hb' ▸ hW1 ▸ NM.made w n)
  have HB1 := Lib.hid (show Below w.heap.size w W1 from hW1 ▸ grows w _)
  have HS1 := Lib.hid (show W1.heap.size = b' + 1 by rw [← hW1, ← hb']; simp)
  have hmk : (Instr.makeMap 63 none).run Try.prog w = .ok (.map (some w.heap.size)) (w.alloc (.map #[] 0)) := rfl
  rw [hb', hW1] at hmk
  have HB' := Lib.hid hb'
  clear h1 h2 hW1 hb'
  go_enter Try.func46, Try.ntmps46
  go_wp2_with (refine wpList_range_own _ rfl _ _ rfl 9 3 KS Try.underlying63 numR b K D rfl HO.out ?_)
  intro w3 hrg hg3 hs3
  obtain ⟨r, hr⟩ : ∃ r, W1.heap.size = r := ⟨_, rfl⟩
  rw [hr] at hrg
  have R0 := Lib.hid (show CpR w b b' r n K D w3 from ⟨_, _, 0, hrg, HN.out.keep (hg3.block b' (by rw [HS1.out]; omega) (by simp)), by have := HO.out.size_le; omega, (HB1.out.grown hg3 HB1.out.size (fun k hk => by cases hk))⟩)
  have HR := Lib.hid (show r = b' + 1 by rw [← hr, HS1.out])
  rw [hr]
  clear hrg hg3 hs3 hmk hr
  go_wp2_with fail
  go_loopw [6, 7] (fun _ _ wr => Hid (CpR w b b' r n K D wr)) (fun _ _ wr => wr.rangeLeft b r)
  case atStart => exact R0
  case round =>
    clear R0
    obtain ⟨left, cnt, K', hrng, hnm, hle, hbl⟩ := hrel.out
    clear hrel
    have HLE := Lib.hid hrng.left_eq
    have HNM := Lib.hid (And.intro hnm hle)
    have HB := Lib.hid hbl
    clear hnm hle hbl
    go_wp2_with (at_next; refine wpList_next_ranges _ rfl _ rfl 9 KS numR Value.string (Value.int .i64) (fun key kl hk => by obtain ⟨x, hx, _⟩ := WideMaps.string_of_keyOf keyS hk; exact ⟨x, hx⟩) (fun v y hv => by obtain ⟨g, hg, _⟩ := numR_inv hv; exact ⟨g, hg⟩) b r K D left cnt rfl hrng ?_ ?_)
    · intro hc hl
      have HP := Lib.hid (show NewM w n K (.returned (.map (some b'))) wr from ⟨b', rfl, Nat.le_of_eq HB'.out, HNM.out.1.mono (Nat.le_refl _) (by have := HNM.out.2; omega), HB.out⟩)
      clear hc hl hrng
      go_wp2_with fail
      go_ret
      exact HP.out
    · intro x z kl y1 y2 w' cnt' hky hl hR hat hrg hlt hgr hsz hen
      obtain ⟨hkx, m, hm, rfl⟩ := num_key H2.out hky hR hat
      have hgr' := HB.out.grown hgr HB.out.size (fun k hk => by cases hk; have := HR.out; have := HB'.out; omega)
      have hnm' : NM w' b' n K' := HNM.out.1.keep (hgr.block b' HNM.out.1.lt (by have := HR.out; simp; omega))
      cases hq : (x.toList == nm.toList) with
      | true =>
        have HRG := Lib.hid hrg
        have HLT := Lib.hid (show w'.rangeLeft b r < wr.rangeLeft b r by rw [hrg.left_eq, HLE.out]; exact hlt)
        have HN5 := Lib.hid (show NM w' b' n K' ∧ K' + cnt' ≤ K from ⟨hnm', by have := HNM.out.2; omega⟩)
        have HB5 := Lib.hid hgr'
        clear hky hl hR hat hrg hlt hgr hsz hm hgr' hnm' hrng hkx
        go_wp2_with fail
        go_roundw
        case rel => exact Lib.hid ⟨_, _, _, HRG.out, HN5.out.1, HN5.out.2, HB5.out⟩
        case measure => exact HLT.out
      | false =>
        obtain ⟨w5, hrun, hnm5, hg5⟩ := hnm'.store (by have := HNM.out.2; unfold maxLen; omega) hkx hm
        have hrg5 : w5.ranges Try.prog 9 numR b r K D _ cnt' := hrg.kept hg5 (by have := HL.out; have := HB'.out; simp; omega) (by have := HR.out; simp; omega)
        have HRG := Lib.hid hrg5
        have HLT := Lib.hid (show w5.rangeLeft b r < wr.rangeLeft b r by rw [hrg5.left_eq, HLE.out]; exact hlt)
        have HN5 := Lib.hid (show NM w5 b' n (K' + 1) ∧ K' + 1 + cnt' ≤ K from ⟨hnm5, by have := HNM.out.2; omega⟩)
        have HB5 := Lib.hid (hgr'.grown hg5 hgr'.size (fun k hk => by cases hk; have := HB'.out; omega))
        clear hky hl hR hat hrg hlt hgr hsz hm hgr' hnm' hnm5 hg5 hrg5 hrng hkx
        go_wp2_with fail
        go_roundw
        case rel => exact Lib.hid ⟨_, _, _, HRG.out, HN5.out.1, HN5.out.2, HB5.out⟩
        case measure => exact HLT.out
end Go.Proofs.Ytamhgbkdljggbaa.Dk
