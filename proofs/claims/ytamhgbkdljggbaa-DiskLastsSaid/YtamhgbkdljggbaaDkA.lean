/- Words for disks: maps of names to files as functions, what a call may turn. -/
import Derived.Test.YtamhgbkdljggbaaRows
import Derived.WalkKit
import Derived.WalkLawsBesides
import Derived.WalkSpells
import Derived.OpenShut
import Derived.LoopTactic
import Derived.Below
import Derived.Lib.Hide
import Derived.Lib.QuietBelow
import Derived.Deep.QuietTactic
import Derived.BigQuiet
import Derived.BigRegion
import Derived.Laws.OwnMore
import Derived.Laws.AppendOwnNone
import Derived.IntWalk
import Derived.Maps.RangeWalk
import Derived.Maps.OwnSet
import Derived.Maps.Ext
import Derived.Maps.Views
import Derived.StringKeys
namespace Go.Proofs.Ytamhgbkdljggbaa.Dk
open Go.RowKit Go.Maps
set_option linter.unusedVariables false

theorem ret_int {k : IntKind} {a b : Int} (h : a = b) : Ending.returned (.int k a) = .returned (.int k b) := by rw [h]
theorem ret_bool {a b : Bool} (h : a = b) : Ending.returned (.bool a) = .returned (.bool b) := by rw [h]
abbrev Nm := List UInt8
/-- a file's pointer by its number: 0 none, else one more than its block -/
def ptrV : Nat → Value
  | 0 => .pointer none
  | g + 1 => .pointer (some ⟨g, 0, none⟩)
def ptrR : Value → Option (DataW Unit × List MemPlace)
  | .pointer none => some (.lit (.int .u64 0), [])
  | .pointer (some ⟨b, 0, none⟩) => some (.lit (.int .u64 ((b : Int) + 1)), [])
  | _ => none
theorem ptrR_mk (n : Nat) : ptrR (ptrV n) = some (.lit (.int .u64 (n : Int)), []) := by
  cases n with
  | zero => rfl
  | succ g => show some (DataW.lit (Lit.int .u64 ((g : Int) + 1)), ([] : List MemPlace)) = _; rw [show ((g + 1 : Nat) : Int) = (g : Int) + 1 by omega]
theorem ptrR_inv {v : Value} {z : DataW Unit × List MemPlace} (h : ptrR v = some z) : ∃ n : Nat, v = ptrV n ∧ z = (.lit (.int .u64 (n : Int)), []) := by
  unfold ptrR at h
  split at h
  · cases h; exact ⟨0, rfl, rfl⟩
  · rename_i b
    cases h
    exact ⟨b + 1, rfl, by rw [show ((b + 1 : Nat) : Int) = (b : Int) + 1 by omega]⟩
  · cases h
theorem ptrV_inj {a b : Nat} (h : ptrV a = ptrV b) : a = b := by
  have h1 := ptrR_mk a
  rw [h, ptrR_mk b] at h1
  injection h1 with h1
  injection h1 with h1 _
  injection h1 with h1
  injection h1 with h1
  omega
theorem keyS : Try.prog.underlying 9 = some .string := Try.underlying9
theorem KS : Keyed Try.prog 9 := string_keyed Try.underlying9
/-- the map in block b reads as f: nothing but files, 0 where there is none -/
def View (D : DataW Unit) (f : Nm → Nat) : Prop := ∀ s, D.atKey (.string s) (.lit (.int .u64 0)) = .lit (.int .u64 ((f s : Nat) : Int)) ∧ has D (.string s) = decide (f s ≠ 0)
def MapP (w : World) (mb : Option Nat) (f : Nm → Nat) (n : Nat) : Prop :=
  (mb = none ∧ ∀ s, f s = 0) ∨ ∃ b D, mb = some b ∧ w.ownsMap Try.prog 9 ptrR b n D ∧ View D f
theorem MapP.mono {w : World} {mb : Option Nat} {f : Nm → Nat} {n m : Nat} (h : MapP w mb f n) (hm : n ≤ m) : MapP w mb f m := by
  rcases h with h | ⟨b, D, h1, h2, h3⟩
  · exact .inl h
  · exact .inr ⟨b, D, h1, h2.mono hm, h3⟩
theorem ownsMap_of_heap {w w' : World} {b n : Nat} {D : DataW Unit} (h : w.ownsMap Try.prog 9 ptrR b n D) (hb : w'.heap[b]? = w.heap[b]?) : w'.ownsMap Try.prog 9 ptrR b n D := by
  obtain ⟨es, clock, h1, h2⟩ := h
  exact ⟨es, clock, hb.trans h1, h2⟩
theorem MapP.keep {w w' : World} {mb : Option Nat} {f : Nm → Nat} {n : Nat} (h : MapP w mb f n) (hb : ∀ b, mb = some b → w'.heap[b]? = w.heap[b]?) : MapP w' mb f n := by
  rcases h with h | ⟨b, D, h1, h2, h3⟩
  · exact .inl h
  · exact .inr ⟨b, D, h1, ownsMap_of_heap h2 (hb b h1), h3⟩
theorem MapP.lt {w : World} {mb : Option Nat} {f : Nm → Nat} {n : Nat} (h : MapP w mb f n) : ∀ b, mb = some b → b < w.heap.size := by
  intro b hb
  rcases h with ⟨h, _⟩ | ⟨b', D, h1, h2, _⟩
  · rw [h] at hb; cases hb
  · rw [h1] at hb; injection hb with hb; subst hb; exact h2.lt
theorem MapP.isMap {w : World} {b : Nat} {f : Nm → Nat} {n : Nat} (h : MapP w (some b) f n) : ∃ es clock, w.heap[b]? = some (.map es clock) := by
  rcases h with ⟨h, _⟩ | ⟨b', D, h1, h2, _⟩
  · cases h
  · injection h1 with h1; subst h1
    obtain ⟨es, clock, h3, _⟩ := h2
    exact ⟨es, clock, h3⟩
def Ks (s : ByteArray) : Prop := s.size ≤ maxLen
theorem key_mk {s : ByteArray} (h : Ks s) : keyOf Try.prog 9 (.string s) = some (.string s.data.toList) := Go.WideMaps.keyOf_string_mk keyS h
theorem zeroP (w : World) : (zeroValue 58).run Try.prog w = .ok (.pointer none) w := by kernel_rfl
theorem isKey (s : Nm) : WideAt.IsKeyLit (.string s) := by first | trivial | exact ⟨_, rfl⟩ | simp [WideAt.IsKeyLit]
def litN : DataW Unit → Int
  | .lit (.int _ z) => z
  | _ => 0
theorem MapP.look {w : World} {mb : Option Nat} {f : Nm → Nat} {n : Nat} (h : MapP w mb f n) {s : ByteArray} (hs : Ks s) : (Instr.lookup 54 (.map mb) (.string s) false).run Try.prog w = .ok (ptrV (f s.data.toList)) w := by
  rcases h with ⟨rfl, h0⟩ | ⟨b, D, rfl, h2, h3⟩
  · rw [Maps.look_nil false KS Try.underlying54 (zeroP w) (key_mk hs), h0]
    rfl
  · obtain ⟨v, ps, hr, hv⟩ := h2.lookup KS Try.underlying54 (zeroP w) (z := .pointer none) (zd := .lit (.int .u64 0)) (zp := []) rfl (key_mk hs)
    rw [(h3 s.data.toList).1] at hv
    obtain ⟨m, rfl, e⟩ := ptrR_inv hv
    have e1 : ((f s.data.toList : Nat) : Int) = (m : Int) := congrArg (fun z : DataW Unit × List MemPlace => litN z.1) e
    have e2 : f s.data.toList = m := by omega
    rw [hr, e2]
def putN (f : Nm → Nat) (k : Nm) (g : Nat) : Nm → Nat := fun s => if s = k then g else f s
theorem putN_same (f : Nm → Nat) (k : Nm) (g : Nat) : putN f k g k = g := if_pos rfl
theorem putN_other {f : Nm → Nat} {k s : Nm} {g : Nat} (h : s ≠ k) : putN f k g s = f s := if_neg h
theorem view_put {D : DataW Unit} {f : Nm → Nat} (h : View D f) (hm : IsMap D) (k : Nm) (g : Nat) (hg : g ≠ 0) : View (D.put (.string k) (.lit (.int .u64 (g : Int)))) (putN f k g) := by
  intro s
  by_cases e : s = k
  · subst e
    rw [putN_same, atKey_put_same hm (isKey s), has_put_same hm (isKey s)]
    exact ⟨rfl, by simp [hg]⟩
  · have hne : (Lit.string s) ≠ (Lit.string k) := fun h => e (by injection h)
    rw [putN_other e, atKey_put_other hne, has_put_other hne]
    exact h s
theorem view_del {D : DataW Unit} {f : Nm → Nat} (h : View D f) (k : Nm) : View (D.del (.string k)) (putN f k 0) := by
  intro s
  by_cases e : s = k
  · subst e
    rw [putN_same, atKey_del_same, has_del_same]
    exact ⟨rfl, by simp⟩
  · have hne : (Lit.string s) ≠ (Lit.string k) := fun h => e (by injection h)
    rw [putN_other e, atKey_del_other hne, has_del_other hne]
    exact h s
theorem MapP.store {w : World} {b : Nat} {f : Nm → Nat} {n : Nat} (h : MapP w (some b) f n) (hn : n < maxLen) {s : ByteArray} (hs : Ks s) (g : Nat) (hg : g ≠ 0) :
    ∃ w', (Instr.mapUpdate 54 (.map (some b)) (.string s) (ptrV g)).run Try.prog w = .ok () w' ∧ MapP w' (some b) (putN f s.data.toList g) (n + 1) ∧ w.grownBy w' (some b) := by
  rcases h with ⟨h, _⟩ | ⟨b', D, h1, h2, h3⟩
  · cases h
  · injection h1 with h1; subst h1
    obtain ⟨w', r1, r2, r3⟩ := h2.update KS Try.underlying54 hn (key_mk hs) (ptrR_mk g)
    exact ⟨w', r1, .inr ⟨b, _, rfl, r2, view_put h3 h2.isMap s.data.toList g hg⟩, r3⟩
theorem MapP.drop {w : World} {mb : Option Nat} {f : Nm → Nat} {n : Nat} (h : MapP w mb f n) {s : ByteArray} (hs : Ks s) (ty : TypeId) :
    ∃ w', (Builtin.delete_ #[54, 9] ty #[.map mb, .string s]).run Try.prog w = .ok (.tuple #[]) w' ∧ MapP w' mb (putN f s.data.toList 0) n ∧ w.grownBy w' mb := by
  rcases h with ⟨rfl, h0⟩ | ⟨b, D, rfl, h2, h3⟩
  · exact ⟨w, Maps.drop_nil KS Try.underlying54 (key_mk hs) ty, .inl ⟨rfl, fun z => by unfold putN; split <;> simp [h0]⟩, World.grownBy.refl w _⟩
  · obtain ⟨w', r1, r2, r3⟩ := h2.drop KS Try.underlying54 (key_mk hs) ty
    exact ⟨w', r1, .inr ⟨b, _, rfl, r2, view_del h3 s.data.toList⟩, r3.grown⟩
theorem MapP.len {w : World} {mb : Option Nat} {f : Nm → Nat} {n : Nat} (h : MapP w mb f n) (ty : TypeId) : ∃ z : Nat, z ≤ n ∧ (Builtin.len_ #[54] ty #[.map mb]).run Try.prog w = .ok (.int .i64 (z : Int)) w := by
  rcases h with ⟨rfl, h0⟩ | ⟨b, D, rfl, h2, h3⟩
  · exact ⟨0, Nat.zero_le _, Maps.len_nil Try.underlying54 ty⟩
  · exact ⟨_, h2.size_le, h2.len Try.underlying54 ty⟩
theorem MapP.made (w : World) : MapP (w.alloc (.map #[] 0)) (some w.heap.size) (fun _ => 0) 0 :=
  .inr ⟨_, _, rfl, World.ownsMap_made w _ _ _, fun s => ⟨rfl, rfl⟩⟩

/-! ### what a call may turn: blocks of O, and new ones -/
structure Fr (O : Nat → Prop) (w w' : World) : Prop where
  os : w'.os = w.os
  tape : w'.tape = w.tape
  output : w'.output = w.output
  size : w.heap.size ≤ w'.heap.size
  block : ∀ k, k < w.heap.size → ¬ O k → w'.heap[k]? = w.heap[k]?
theorem Fr.refl (O : Nat → Prop) (w : World) : Fr O w w := ⟨rfl, rfl, rfl, Nat.le_refl _, fun _ _ _ => rfl⟩
/-- what is O's behind a call: what was, and what is new -/
def On (O : Nat → Prop) (w w' : World) : Nat → Prop := fun k => O k ∨ (w.heap.size ≤ k ∧ k < w'.heap.size)
theorem Fr.trans {O O1 : Nat → Prop} {w w1 w2 : World} (h : Fr O w w1) (k : Fr O1 w1 w2) (ho : ∀ x, O1 x → O x ∨ w.heap.size ≤ x) : Fr O w w2 :=
  ⟨k.os.trans h.os, k.tape.trans h.tape, k.output.trans h.output, Nat.le_trans h.size k.size, fun x hx hn => by
    rw [k.block x (Nat.lt_of_lt_of_le hx h.size) (fun hO => by rcases ho x hO with h1 | h1; exact hn h1; omega)]
    exact h.block x hx hn⟩
theorem Fr.of_below {O : Nat → Prop} {w w' : World} (h : Below w.heap.size w w') : Fr O w w' := ⟨h.os, h.tape, h.output, h.size, fun k hk _ => h.block k hk⟩
theorem Fr.below {O : Nat → Prop} {w0 w w' : World} {B : Nat} (h : Fr O w w') (hb : Below B w0 w) (hB : B ≤ w.heap.size) (ho : ∀ x, O x → B ≤ x) : Below B w0 w' :=
  ⟨h.os.trans hb.os, h.tape.trans hb.tape, h.output.trans hb.output, Nat.le_trans hb.size h.size, fun k hk => by
    rw [h.block k (by omega) (fun hO => by have := ho k hO; omega)]
    exact hb.block k hk⟩
theorem Fr.grown {O : Nat → Prop} {w w' : World} {r : Option Nat} (h : w.grownBy w' r) (hr : ∀ b, r = some b → O b) : Fr O w w' :=
  ⟨h.os, h.tape, h.output, h.size, fun k hk hn => h.block k hk (fun e => hn (hr k e.symm))⟩
theorem Fr.set {O : Nat → Prop} (w : World) (a : Addr) (u : Value) (ha : O a.block) : Fr O w (w.setCell a u) :=
  ⟨rfl, rfl, rfl, by simp, fun k hk hn => Below.heap_setCell w a u k (fun e => hn (e ▸ ha))⟩
theorem On.old {O : Nat → Prop} {w w' : World} {k : Nat} (h : O k) : On O w w' k := .inl h
theorem On.trans {O : Nat → Prop} {w w1 w2 : World} (h1 : w.heap.size ≤ w1.heap.size) (h2 : w1.heap.size ≤ w2.heap.size) : ∀ k, On (On O w w1) w1 w2 k → On O w w2 k := by
  rintro k ((h | ⟨h, h'⟩) | ⟨h, h'⟩)
  · exact .inl h
  · exact .inr ⟨h, by omega⟩
  · exact .inr ⟨by omega, h'⟩
theorem heap_set_at {w : World} {g i : Nat} {cs : Array Value} {t : TypeId} {fr : Nat × Nat} (h : w.heap[g]? = some (.cells cs t fr)) (u : Value) : (w.setCell ⟨g, i, none⟩ u).heap[g]? = some (.cells (cs.setIfInBounds i u) t fr) := by
  simp [World.setCell, Array.getElem?_modify, h]
end Go.Proofs.Ytamhgbkdljggbaa.Dk
