/- Slices of bytes, slices.Clone of them, and the contract of bits.Read. -/
import Derived.Test.YtjnienlidmmhdaaGreatDoorTkI
import Derived.Laws.AppendOwnNone
import Derived.Lib.SlBytesConst
namespace Go.Proofs.YtjnienlidmmhdaaGreatDoor.Tk
open Go.RowKit Go.Sort
set_option linter.unusedVariables false

/-- a slice whose address is A reads as these bytes -/
def Bt (w : World) (A : Option Addr) (bs : List Nat) : Prop :=
  (∀ x ∈ bs, x < 256) ∧ bs.length ≤ 9223372036854775807 ∧ (bs.length = 0 ∨ ∃ b off, A = some ⟨b, off, none⟩ ∧ ∀ (j x : Nat), bs[j]? = some x → w.cell? ⟨b, off + j, none⟩ = some (.int .u8 (x : Int)))
theorem Bt.kept {w w' : World} {A : Option Addr} {bs : List Nat} (h : Bt w A bs) (k : Kept w w') : Bt w' A bs := by
  obtain ⟨h1, h2, h3⟩ := h
  refine ⟨h1, h2, ?_⟩
  rcases h3 with h3 | ⟨b, off, e, hc⟩
  · exact .inl h3
  · exact .inr ⟨b, off, e, fun j x hj => k _ _ (hc j x hj)⟩
theorem Bt.nil (w : World) (A : Option Addr) : Bt w A [] := ⟨by simp, by simp, .inl rfl⟩
theorem Bt.some_ {w : World} {A : Option Addr} {bs : List Nat} (h : Bt w A bs) (h0 : 0 < bs.length) : ∃ b off, A = some ⟨b, off, none⟩ ∧ ∀ (j x : Nat), bs[j]? = some x → w.cell? ⟨b, off + j, none⟩ = some (.int .u8 (x : Int)) := by
  rcases h.2.2 with h | h
  · omega
  · exact h
theorem Tryz.info5 : (Tryz.prog.info? 5).map (fun i => (i.zero, i.size, i.bytes)) = some (some (.int .u8 0), 1, 1) := by kernel_rfl
def cellsB (bs : List Nat) : List Value := bs.map fun b => Value.int IntKind.u8 (Int.ofNat b)
theorem cellsB_length (bs : List Nat) : (cellsB bs).length = bs.length := by unfold cellsB; simp
theorem cellsB_append (a b : List Nat) : cellsB (a ++ b) = cellsB a ++ cellsB b := by unfold cellsB; simp
theorem cellsB_one (bs : List Nat) : ∀ u ∈ cellsB bs, u.oneCell' = true := by unfold cellsB; simp [Value.oneCell']
theorem cellsB_at {bs : List Nat} {j : Nat} {u : Value} (h : (cellsB bs)[j]? = some u) : ∃ x, bs[j]? = some x ∧ u = .int .u8 (x : Int) := by
  unfold cellsB at h
  rw [List.getElem?_map] at h
  obtain ⟨b, hb, rfl⟩ := Option.map_eq_some_iff.mp h
  exact ⟨b, hb, rfl⟩
theorem addr_add (b off i : Nat) : (⟨b, off, none⟩ : Addr).add i = ⟨b, off + i, none⟩ := by
  unfold Addr.add
  split
  · subst_vars; rfl
  · rfl

theorem own_bt {w : World} {base : Nat} {v : Value} {n : Nat} {bs : List Nat} (h : w.ownsRow base 5 1 v n (cellsB bs)) (hn : n = bs.length) (h8 : ∀ x ∈ bs, x < 256) (hm : bs.length ≤ 9223372036854775807) (h0 : 0 < n) :
    ∃ g c, v = .slice (some ⟨g, 0, none⟩) n c ∧ n ≤ c ∧ c ≤ 9223372036854775807 ∧ base ≤ g ∧ g < w.heap.size ∧ Bt w (some ⟨g, 0, none⟩) bs := by
  have hl := h.lt
  rcases h.2 with ⟨_, hz⟩ | ⟨g, c, cur, rfl, hb, hh, hc, hm', _⟩
  · omega
  · have := hl g rfl
    refine ⟨g, c, rfl, hc, by unfold maxLen at hm'; omega, this.1, this.2, h8, hm, .inr ⟨g, 0, rfl, fun j x hj => ?_⟩⟩
    have := h.cells (g := g) rfl j (.int .u8 (x : Int)) (by unfold cellsB; simp [hj])
    rw [addr_add] at this
    exact this

/-- a slice of this room reads as these bytes -/
def Sl (w : World) (A : Option Addr) (c : Nat) (bs : List Nat) : Prop := bs.length ≤ c ∧ c ≤ 9223372036854775807 ∧ (A = none → c = 0) ∧ Bt w A bs
theorem Sl.kept {w w' : World} {A : Option Addr} {c : Nat} {bs : List Nat} (h : Sl w A c bs) (k : Kept w w') : Sl w' A c bs := ⟨h.1, h.2.1, h.2.2.1, h.2.2.2.kept k⟩
theorem Sl.nil (w : World) : Sl w none 0 [] := ⟨by simp, by omega, fun _ => rfl, Bt.nil w none⟩
theorem Sl.b8 {w : World} {A : Option Addr} {c : Nat} {bs : List Nat} (h : Sl w A c bs) : ∀ x ∈ bs, x < 256 := h.2.2.2.1
/-- what append asks of its source, wherever it lies -/
theorem Bt.src' {w : World} {ad : Addr} {bs : List Nat} (h : Bt w (some ad) bs) (j : Nat) (u : Value) (hu : (cellsB bs)[j]? = some u) : w.cell? (ad.add j) = some u := by
  obtain ⟨x, hx, rfl⟩ := cellsB_at hu
  have hl : j < bs.length := (List.getElem?_eq_some_iff.1 hx).1
  obtain ⟨b', off', e, hc⟩ := h.some_ (by omega)
  obtain rfl : ad = ⟨b', off', none⟩ := by simpa using e
  rw [addr_add]
  exact hc j x hx
theorem own_sl {w : World} {base : Nat} {v : Value} {n : Nat} {bs : List Nat} (h : w.ownsRow base 5 1 v n (cellsB bs)) (h8 : ∀ x ∈ bs, x < 256) (hm : bs.length ≤ 9223372036854775807) :
    n = bs.length ∧ ∃ A c, v = .slice A n c ∧ Sl w A c bs := by
  have hn : n = bs.length := by
    have := h.1
    rw [cellsB_length] at this
    omega
  refine ⟨hn, ?_⟩
  by_cases h0 : 0 < n
  · obtain ⟨g, c, rfl, hc, hcm, _, _, hB⟩ := own_bt h hn h8 hm h0
    exact ⟨_, c, rfl, by omega, hcm, fun e => by simp at e, hB⟩
  · have hb : bs = [] := List.eq_nil_of_length_eq_zero (by omega)
    subst hb
    rcases h.2 with ⟨rfl, hz⟩ | ⟨g, c, cur, rfl, hb, hh, hc, hm', _⟩
    · exact ⟨none, 0, by simp at hn; rw [hn], Sl.nil w⟩
    · exact ⟨_, c, rfl, by simp, by unfold maxLen at hm'; omega, fun e => by simp at e, Bt.nil w _⟩

/-- append(x, s...): x a row of the call's own, s any bytes -/
theorem wpList_append_bt {ops : Array Oper} {rest : List Oper} {o : Oper} {a : Act} {w : World} {Q : Exit → Act → World → Prop} (hgd : o.guard = none) (s x : Operand)
    (ho : o.op = .call { callee := .builtin .append, args := #[s, x], argTypes := #[26, 26] })
    (base : Nat) (v : Value) (n : Nat) (xs : List Nat) (hs : a.eval s = v) (hown : w.ownsRow base 5 1 v n (cellsB xs))
    (A : Option Addr) (m c : Nat) (bs : List Nat) (hx : a.eval x = .slice A m c) (hm : m = bs.length) (hS : Sl w A c bs) (hl : n + m ≤ 1000000) (hbase : base ≤ w.heap.size)
    (h : ∀ v' w', w'.ownsRow base 5 1 v' (n + m) (cellsB (xs ++ bs)) → w.grownBy w' v.ownBlock → wpList Tryz.prog ops Q rest (a.put o.dst v') w') : wpList Tryz.prog ops Q (o :: rest) a w := by
  obtain ⟨i0, hi, hz0, hz1, hz2⟩ := info_parts Tryz.info5
  subst hm
  cases A with
  | none =>
    have hc0 := hS.2.2.1 rfl
    have hb : bs = [] := List.eq_nil_of_length_eq_zero (by have := hS.1; omega)
    subst hb
    subst hc0
    refine wpList_append_own_none hgd s x 26 ho base 5 i0 1 Tryz.underlying26 hi v n (cellsB xs) hs hown hx (h v w ?_ (World.grownBy.refl w _))
    simpa using hown
  | some ad =>
    refine wpList_append_own w hgd s x 26 ho base 5 i0 (.int .u8 0) 1 1 Tryz.underlying26 hi hz0 hz1 hz2 rfl (by decide) v n (cellsB xs) hs hown ad bs.length c (cellsB bs) hx (by rw [cellsB_length]; omega) hS.2.2.2.src' (cellsB_one bs) (by unfold maxLen; omega) (by omega) hbase ?_
    intro v' w' h1 h2 _
    rw [← cellsB_append] at h1
    exact h v' w' h1 h2

theorem ownsRow_new (w : World) : (w.alloc (.cells #[] 5)).ownsRow w.heap.size 5 1 (.slice (some ⟨w.heap.size, 0, none⟩) 0 0) 0 (cellsB []) :=
  ⟨by simp [cellsB], .inr ⟨w.heap.size, 0, #[], rfl, Nat.le_refl _, heap_alloc_new w _, by omega, by unfold maxLen; omega, rfl, by simp [cellsB]⟩⟩

set_option maxRecDepth 100000 in
theorem clone_nil (c : Nat) (w : World) :
    Calls Tryz.prog 112 #[.slice none 0 c] w fun e w' => e = .returned (.slice none 0 0) ∧ w = w' := by
  have hnil := fun (w : World) => Lib.run_eql_slice_nil (P := Tryz.prog) w 26 5 none 0 c 0 0 Tryz.underlying26
  go_enter Tryz.func112, Tryz.ntmps112
  go_wp2_with fail
  go_ret
  exact ⟨rfl, rfl⟩
def ClonePost (w : World) (n : Nat) (bs : List Nat) (e : Ending) (w' : World) : Prop := ∃ A c, e = .returned (.slice A n c) ∧ Sl w' A c bs ∧ Below w.heap.size w w'
set_option maxRecDepth 100000 in
theorem clone_some (ad : Addr) (c : Nat) (bs : List Nat) (w : World) (h : Sl w (some ad) c bs) (hl : bs.length ≤ 1000000) :
    Calls Tryz.prog 112 #[.slice (some ad) bs.length c] w (ClonePost w bs.length bs) := by
  have hnil := fun (w : World) => Lib.run_eql_slice_nil (P := Tryz.prog) w 26 5 (some ad) bs.length c 0 0 Tryz.underlying26
  have HS := Lib.hid h
  clear h
  go_enter Tryz.func112, Tryz.ntmps112
  go_wp2_with (at_builtin; refine wpList_append_bt rfl _ _ rfl w.heap.size (.slice (some ⟨w.heap.size, 0, none⟩) 0 0) 0 [] rfl ?c0 (some ad) bs.length c bs rfl rfl ?c1 ?c2 ?c3 ?_)
  case c0 => exact ownsRow_new w
  case c1 => exact HS.out.kept (Kept.of_below ((Below.refl _ _).alloc (Nat.le_refl _) _))
  case c2 => omega
  case c3 => simp
  intro v' w1 hown hgrow
  try simp only [Nat.zero_add, List.nil_append] at hown
  have hb : Below w.heap.size w w1 := ((Below.refl _ _).alloc (Nat.le_refl _) _).grown hgrow (by simp) (fun k hk => by simp [Value.ownBlock] at hk; omega)
  obtain ⟨_, A, c', rfl, hS⟩ := own_sl hown HS.out.b8 (by omega)
  have HP := Lib.hid (And.intro hS hb)
  clear hown hgrow hb hS hnil
  go_wp2_with fail
  go_ret
  exact ⟨A, c', rfl, HP.out.1, HP.out.2⟩
theorem clone_any (A : Option Addr) (n c : Nat) (bs : List Nat) (w : World) (h : Sl w A c bs) (hn : n = bs.length) (hl : bs.length ≤ 1000000) :
    Calls Tryz.prog 112 #[.slice A n c] w (ClonePost w n bs) := by
  subst hn
  cases A with
  | none =>
    have hc := h.2.2.1 rfl
    have hb : bs = [] := List.eq_nil_of_length_eq_zero (by have := h.1; omega)
    subst hb
    refine (clone_nil c w).mono fun e w' ⟨he, hw⟩ => ?_
    subst hw
    exact ⟨none, 0, he, Sl.nil _, Below.refl _ _⟩
  | some ad => exact clone_some ad c bs w h hl

theorem read_any (A : Option Addr) (n cap : Nat) (bs : List Nat) (w : World) (hb : Sl w A cap bs) (hn : n = bs.length) (h1 : bs.length ≤ 1000000) :
    Calls Tryz.prog 55 #[.slice A n cap] w fun e w' => ∃ q a c, e = .returned (.pointer (some ⟨q, 0, none⟩)) ∧ Rd w' q a n c bs (0, 0) ∧ w.heap.size ≤ q ∧ Below w.heap.size w w' := by
  subst hn
  go_enter Tryz.func55, Tryz.ntmps55
  go_wp2_with fail
  refine (clone_any A bs.length cap bs _ hb rfl h1).mono ?_
  rintro e w1 ⟨a, c, rfl, hS, hB⟩
  have HB := Lib.hid hB
  have hs := hB.size
  have HS := Lib.hid hS
  clear hB hS hb
  go_wp2_with fail
  go_ret
  refine ⟨w1.heap.size, a, c, rfl, ?_, hs, HB.out.alloc hs _⟩
  refine ⟨by simp, by simp [go_sem], by simp [go_sem], by simp [go_sem], by simp [go_sem], by simp [go_sem], rfl, HS.out.b8, fun h0 => ?_, by simp, h1⟩
  obtain ⟨r, o, e, hc⟩ := HS.out.2.2.2.some_ h0
  have hl : 0 < bs.length := h0
  have hlt : r < w1.heap.size := block_lt_of_cell (hc 0 _ (List.getElem?_eq_getElem hl))
  exact ⟨r, o, e, by omega, fun j b hj => Kept.of_below ((Below.refl _ _).alloc (Nat.le_refl _) _) _ _ (hc j b hj)⟩
end Go.Proofs.YtjnienlidmmhdaaGreatDoor.Tk
