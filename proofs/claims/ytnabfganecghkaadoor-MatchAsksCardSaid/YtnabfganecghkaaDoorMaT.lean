/- The walk of the law MatchTurns. -/
import Derived.Test.YtnabfganecghkaaDoorMaL
/-! The document's example. -/
namespace Go.Proofs.YtnabfganecghkaaDoor
open Go.RowKit Go.Sort
set_option linter.unusedVariables false

def exT : List UInt8 := [123, 97, 61, 34, 120, 34, 44, 98, 61, 126, 34, 121, 46, 42, 34, 125]
def exM : List Mt := [⟨⟨#[97]⟩, 0, ⟨#[120]⟩⟩, ⟨⟨#[98]⟩, 2, ⟨#[121, 46, 42]⟩⟩]
theorem ex_read : readF exT = some exM := by kernel_rfl
theorem name_one (c : UInt8) (h : Lb.nmC c = true) (hd : Lb.dgB c.toNat = false) : Lb.nameB ⟨#[c]⟩ = true := by
  rw [Lb.nameB_iff]
  refine ⟨rfl, fun h => hd, fun i hi => ?_⟩
  have hi0 : i = 0 := by
    have : i < 1 := hi
    omega
  subst hi0
  exact h
theorem ex_new : newE exM = 0 := by
  rw [newE_in (by decide)]
  refine newL_ok fun m hm => ?_
  simp [exM] at hm
  rcases hm with rfl | rfl
  · refine prep_0 (by decide) ?_ (by decide)
    have h1 := name_one 97 (by decide) (by decide)
    intro h
    rcases h with h | h
    · rw [h1] at h; cases h
    · exact absurd h (by decide)
  · have h1 := name_one 98 (by decide) (by decide)
    have h2 : ¬ (Lb.nameB (⟨#[98]⟩ : ByteArray) = false ∨ 64 < (⟨#[121, 46, 42]⟩ : ByteArray).size) := by
      intro h
      rcases h with h | h
      · rw [h1] at h; cases h
      · exact absurd h (by decide)
    rw [prep_r (by decide) h2 (by decide)]
    decide
theorem ex_par : parE exT = 0 := by unfold parE; rw [ex_read]; exact ex_new
def exA : List Lb.Lab := [(⟨#[97]⟩, ⟨#[120]⟩), (⟨#[98]⟩, ⟨#[121, 122]⟩)]
def exB2 : List Lb.Lab := [(⟨#[97]⟩, ⟨#[120]⟩)]
theorem ex_yes : allM exM exA = true := by kernel_rfl
theorem ex_no : allM exM exB2 = false := by kernel_rfl
theorem ex_lv : Lv exA ∧ Lv exB2 := by
  refine ⟨fun p hp => ?_, fun p hp => ?_⟩
  · simp [exA] at hp
    rcases hp with rfl | rfl <;> decide
  · simp [exB2] at hp
    subst hp
    decide
theorem lw_a {w W : World} {g : Nat} (hg : w.heap.size = g) (hW : w.alloc (.cells #[.string ⟨#[97]⟩, .string ⟨#[120]⟩, .string ⟨#[98]⟩, .string ⟨#[121, 122]⟩] 43 (0, 0)) = W) : Lb.Lw W (some ⟨g, 0, none⟩) exA := by
  subst hg hW
  refine ⟨by simp [exA], fun p hp => ?_, .inr ⟨w.heap.size, 0, rfl, fun j v hj => ?_⟩⟩
  · simp [exA] at hp
    rcases hp with rfl | rfl <;> exact ⟨by unfold Lb.Ws; decide, by unfold Lb.Ws; decide⟩
  · rw [cell_of_row _ _ _ _ _ _ (heap_alloc_new w _), ← hj, Nat.zero_add]
    rcases j with _ | _ | _ | _ | j <;> rfl
theorem lw_b {w W : World} {g : Nat} (hg : w.heap.size = g) (hW : w.alloc (.cells #[.string ⟨#[97]⟩, .string ⟨#[120]⟩] 43 (0, 0)) = W) : Lb.Lw W (some ⟨g, 0, none⟩) exB2 := by
  subst hg hW
  refine ⟨by simp [exB2], fun p hp => ?_, .inr ⟨w.heap.size, 0, rfl, fun j v hj => ?_⟩⟩
  · simp [exB2] at hp
    subst hp
    exact ⟨by unfold Lb.Ws; decide, by unfold Lb.Ws; decide⟩
  · rw [cell_of_row _ _ _ _ _ _ (heap_alloc_new w _), ← hj, Nat.zero_add]
    rcases j with _ | _ | j <;> rfl
set_option maxHeartbeats 2000000 in
set_option maxRecDepth 100000 in
theorem awake_any (w : World) (hT : Tab w) : Calls Tryd.prog 6 #[] w fun y w' => y = .returned (.bool true) ∧ Below w.heap.size w w' := by
  have HT := Lib.hid hT
  have HP := Lib.hid (mparse_any (tx exT) w hT (by decide))
  rw [tx_data] at HP
  have hex : tx exT = ⟨#[123, 97, 61, 34, 120, 34, 44, 98, 61, 126, 34, 121, 46, 42, 34, 125]⟩ := rfl
  rw [hex] at HP
  clear hT hex
  go_enter Tryd.func6, Tryd.ntmps6
  go_wp2_with fail
  refine HP.out.mono ?_
  rintro y w2 ⟨p, rfl, hp, hb⟩
  rw [ex_par] at hp ⊢
  rcases hp.out with ⟨_, g, ms, h1, rfl, hs⟩ | ⟨h, _⟩
  case inr => exact absurd rfl h
  have hms : ms = exM := by
    rw [ex_read] at h1
    injection h1 with h1
    exact h1.symm
  subst hms
  have HS := Lib.hid hs
  have HB := Lib.hid hb
  have HT2 := Lib.hid (HT.out.below hb)
  obtain ⟨W3, hW3⟩ : ∃ W3, w2.alloc (.cells #[.string ⟨#[97]⟩, .string ⟨#[120]⟩, .string ⟨#[98]⟩, .string ⟨#[121, 122]⟩] 43 (0, 0)) = W3 := ⟨_, rfl⟩
  obtain ⟨g3, hg3⟩ : ∃ g3, w2.heap.size = g3 := ⟨_, rfl⟩
  have b23 : Below w2.heap.size w2 W3 := hW3 ▸ (Below.refl _ _).alloc (Nat.le_refl _) _
  have HL3 := Lib.hid (lw_a hg3 hW3)
  have B3' := Lib.hid (HB.out.trans (b23.mono HB.out.size))
  have HC := Lib.hid (match_sel g exM (some ⟨g3, 0, none⟩) 2 2 exA W3 (HT2.out.below b23) (HS.out.below b23) rfl HL3.out ex_lv.1)
  rw [ex_yes] at HC
  have HS3 := Lib.hid (HS.out.below b23)
  have HT3 := Lib.hid (HT2.out.below b23)
  clear hp hb h1 hs b23
  go_wp2_with fail
  clear hW3 hg3
  refine HC.out.mono ?_
  rintro y w4 ⟨rfl, hb⟩
  obtain ⟨W5, hW5⟩ : ∃ W5, w4.alloc (.cells #[.string ⟨#[97]⟩, .string ⟨#[120]⟩] 43 (0, 0)) = W5 := ⟨_, rfl⟩
  obtain ⟨g5, hg5⟩ : ∃ g5, w4.heap.size = g5 := ⟨_, rfl⟩
  have b45 : Below w4.heap.size w4 W5 := hW5 ▸ (Below.refl _ _).alloc (Nat.le_refl _) _
  have HL5 := Lib.hid (lw_b hg5 hW5)
  have B5 := Lib.hid ((B3'.out.trans (hb.mono B3'.out.size)).trans (b45.mono (Nat.le_trans B3'.out.size hb.size)))
  have HC2 := Lib.hid (match_sel g exM (some ⟨g5, 0, none⟩) 1 1 exB2 W5 ((HT3.out.below hb).below b45) ((HS3.out.below hb).below b45) rfl HL5.out ex_lv.2)
  rw [ex_no] at HC2
  clear hb b45
  go_wp2_with fail
  clear hW5 hg5
  refine HC2.out.mono ?_
  rintro y w6 ⟨rfl, hb⟩
  have B6 := Lib.hid (B5.out.trans (hb.mono B5.out.size))
  clear hb
  go_wp2_with fail
  go_ret
  exact ⟨rfl, B6.out⟩
end Go.Proofs.YtnabfganecghkaaDoor

/-! The walk of the law MatchTurns. -/
namespace Go.Proofs.YtnabfganecghkaaDoor
open Go.RowKit Go.Sort
set_option linter.unusedVariables false

theorem infoDm : (Tryd.prog.info? 39).map (fun i => (i.zero, i.size, i.bytes)) = some (some (.agg #[.string ⟨#[]⟩, .int .i64 0, .string ⟨#[]⟩]), 3, 40) := by kernel_rfl
/-- append(x, y) at the document's matchers -/
theorem app_dm {ops : Array Oper} {rest : List Oper} {o : Oper} {a : Act} {w : World} {Q : Exit → Act → World → Prop} (hgd : o.guard = none) (s x : Operand)
    (ho : o.op = .call { callee := .builtin .append, args := #[s, x], argTypes := #[22, 22] })
    (base : Nat) (A : Option Addr) (n c : Nat) (l : List Mt) (hs : a.eval s = .slice A n c) (hown : w.ownsRow base 39 3 (.slice A n c) n (mtC l))
    (g : Nat) (hx : a.eval x = .slice (some ⟨g, 0, none⟩) 1 1) (y : Mt) (hy : w.cell? ⟨g, 0, none⟩ = some (.string y.nm) ∧ w.cell? ⟨g, 1, none⟩ = some (.int .i64 y.op) ∧ w.cell? ⟨g, 2, none⟩ = some (.string y.vl)) (hl : (n + 1) * 40 ≤ 140737488355328) (hbase : base ≤ w.heap.size)
    (h : ∀ A' c' w', w'.ownsRow base 39 3 (.slice A' (n + 1) c') (n + 1) (mtC (l ++ [y])) → w.grownBy w' (Value.slice A n c).ownBlock → wpList Tryd.prog ops Q rest (a.put o.dst (.slice A' (n + 1) c')) w') : wpList Tryd.prog ops Q (o :: rest) a w := by
  obtain ⟨i0, hi, hz0, hz1, hz2⟩ := info_parts infoDm
  refine wpList_append_own w hgd s x 22 ho base 39 i0 (.agg #[.string ⟨#[]⟩, .int .i64 0, .string ⟨#[]⟩]) 3 40 Tryd.underlying22 hi hz0 hz1 hz2 rfl (by decide) _ n (mtC l) hs hown ⟨g, 0, none⟩ 1 1 (mtE y) hx rfl ?_ (by simp [Value.oneCell', mtE]) (by unfold maxLen; omega) (by omega) hbase ?_
  · intro j u hu
    rw [addr_at, Nat.zero_add]
    match j, hu with
    | 0, hu => simp [mtE] at hu; rw [← hu]; exact hy.1
    | 1, hu => simp [mtE] at hu; rw [← hu]; exact hy.2.1
    | 2, hu => simp [mtE] at hu; rw [← hu]; exact hy.2.2
    | j + 3, hu => simp [mtE] at hu
  · intro v' w' h1 h2 _
    obtain ⟨A', c', rfl⟩ := own_shape h1
    have e : mtC l ++ mtE y = mtC (l ++ [y]) := by simp [mtC]
    rw [e] at h1
    exact h A' c' w' h1 h2
theorem new_d3 {w W : World} {g : Nat} {nm vl : ByteArray} {op : Int} (hg : w.heap.size = g) (hW : w.alloc (.cells #[.string nm, .int .i64 op, .string vl] 39 (0, 0)) = W) : W.cell? ⟨g, 0, none⟩ = some (.string nm) ∧ W.cell? ⟨g, 1, none⟩ = some (.int .i64 op) ∧ W.cell? ⟨g, 2, none⟩ = some (.string vl) := by
  subst hg hW
  exact (D3.new w nm op vl).cells.1
/-- one matcher in a slice of its own -/
theorem mq_one {w W : World} {g : Nat} {nm vl : ByteArray} {op : Int} (hg : w.heap.size = g) (hW : w.alloc (.cells #[.string nm, .int .i64 op, .string vl] 40 (0, 0)) = W) (h : Wt nm ∧ Wt vl) : Mq W (some ⟨g, 0, none⟩) [⟨nm, op, vl⟩] := by
  obtain ⟨h0, h1, h2⟩ := new_m3 hg hW
  refine ⟨by simp, fun m hm => by simp at hm; subst hm; exact h, .inr ⟨g, 0, rfl, fun j v hj => ?_⟩⟩
  rw [Nat.zero_add]
  rcases j with _ | _ | _ | j
  · simp [mtC, mtE] at hj; rw [← hj]; exact h0
  · simp [mtC, mtE] at hj; rw [← hj]; exact h1
  · simp [mtC, mtE] at hj; rw [← hj]; exact h2
  · simp [mtC, mtE] at hj
def m0 : Mt := ⟨⟨#[]⟩, 0, ⟨#[]⟩⟩
def rotM (a : List Mt) (s k : Nat) : List Mt := (List.range k).map fun i => a.getD ((i + s) % a.length) m0
theorem rotM_snoc (a : List Mt) (s k : Nat) : rotM a s (k + 1) = rotM a s k ++ [a.getD ((k + s) % a.length) m0] := by
  unfold rotM; rw [List.range_succ, List.map_append]; rfl
theorem rotM_len (a : List Mt) (s k : Nat) : (rotM a s k).length = k := by simp [rotM]
theorem rotM_mem {a : List Mt} {s k : Nat} (h0 : 0 < a.length) {m : Mt} (hm : m ∈ rotM a s k) : m ∈ a := by
  unfold rotM at hm
  obtain ⟨i, _, rfl⟩ := List.mem_map.1 hm
  have hlt := Nat.mod_lt (i + s) h0
  rw [List.getD_eq_getElem?_getD, List.getElem?_eq_getElem hlt]
  exact List.getElem_mem hlt
theorem mem_rotM {a : List Mt} {s : Nat} {m : Mt} (hm : m ∈ a) : m ∈ rotM a s a.length := by
  obtain ⟨j, hj, rfl⟩ := List.getElem_of_mem hm
  have h0 : 0 < a.length := by omega
  have hr := Nat.mod_lt s h0
  unfold rotM
  refine List.mem_map.2 ⟨(j + (a.length - s % a.length)) % a.length, List.mem_range.2 (Nat.mod_lt _ h0), ?_⟩
  have e : ((j + (a.length - s % a.length)) % a.length + s) % a.length = j := by
    rw [Nat.add_mod, Nat.mod_mod, ← Nat.add_mod, show j + (a.length - s % a.length) + s = j + (a.length - s % a.length + s % a.length) + (s - s % a.length) by have := Nat.mod_le s a.length; omega, Nat.sub_add_cancel (Nat.le_of_lt hr)]
    have hd : s - s % a.length = a.length * (s / a.length) := by
      have := Nat.div_add_mod s a.length
      omega
    rw [hd, Nat.add_mul_mod_self_left, Nat.add_mod_right, Nat.mod_eq_of_lt hj]
  rw [e, List.getD_eq_getElem?_getD, List.getElem?_eq_getElem hj]
  rfl
theorem rotM_all {a : List Mt} {s : Nat} (f : Mt → Bool) (h0 : 0 < a.length) : (rotM a s a.length).all f = a.all f := by
  apply Bool.eq_iff_iff.2
  rw [List.all_eq_true, List.all_eq_true]
  exact ⟨fun h m hm => h m (mem_rotM hm), fun h m hm => h m (rotM_mem h0 hm)⟩
theorem newE_ok {l : List Mt} (h1 : l.length ≤ 16) (h : ∀ m ∈ l, prepE m = 0) : newE l = 0 := by
  rw [newE_in (by omega)]
  exact newL_ok h
theorem newE_all {l : List Mt} (h : newE l = 0) : l.length ≤ 16 ∧ ∀ m ∈ l, prepE m = 0 := by
  by_cases h16 : 16 < l.length
  · rw [newE_long h16] at h; cases h
  · refine ⟨by omega, ?_⟩
    rw [newE_in h16] at h
    induction l with
    | nil => intro m hm; simp at hm
    | cons a r ih =>
      unfold newL at h
      by_cases ha : prepE a = 0
      · rw [if_pos ha] at h
        intro m hm
        rcases List.mem_cons.1 hm with hm | hm
        · subst hm; exact ha
        · exact ih h (by simp at h16; omega) m hm
      · rw [if_neg ha] at h
        exact absurd h ha
/-- the opposite -/
def opp (k : Nat) : Nat := if k = 0 then 1 else if k = 1 then 0 else if k = 2 then 3 else 2
theorem prep_opp {nm vl : ByteArray} {k : Nat} (hk : k < 4) (h : prepE ⟨nm, (k : Int), vl⟩ = 0) : prepE ⟨nm, ((opp k : Nat) : Int), vl⟩ = 0 := by
  have hop : ∀ j : Nat, j < 4 → ¬ ((j : Int) < 0 ∨ 4 ≤ (j : Int)) := fun j hj => by omega
  have hko : opp k < 4 := by unfold opp; split <;> (try split) <;> (try split) <;> omega
  by_cases hb : Lb.nameB nm = false ∨ 64 < vl.size
  · rw [prep_26 (m := ⟨nm, (k : Int), vl⟩) (hop k hk) hb] at h
    cases h
  · by_cases h2 : 2 ≤ k
    · have h2o : 2 ≤ opp k := by unfold opp; split <;> (try split) <;> (try split) <;> omega
      rw [prep_r (m := ⟨nm, (k : Int), vl⟩) (hop k hk) hb (by show (2 : Int) ≤ (k : Int); omega)] at h
      rw [prep_r (m := ⟨nm, ((opp k : Nat) : Int), vl⟩) (hop _ hko) hb (by show (2 : Int) ≤ ((opp k : Nat) : Int); omega)]
      rw [rdR_yes (by show (2 : Int) ≤ (k : Int); omega)] at h
      rw [rdR_yes (by show (2 : Int) ≤ ((opp k : Nat) : Int); omega)]
      exact h
    · have h2o : ¬ 2 ≤ opp k := by unfold opp; split <;> (try split) <;> (try split) <;> omega
      exact prep_0 (m := ⟨nm, ((opp k : Nat) : Int), vl⟩) (hop _ hko) hb (by show ¬ (2 : Int) ≤ ((opp k : Nat) : Int); omega)
theorem holds_opp {nm vl v : ByteArray} {k : Nat} (hk : k < 4) : holdsM ⟨nm, ((opp k : Nat) : Int), vl⟩ v = !holdsM ⟨nm, (k : Int), vl⟩ v := by
  rcases (show k = 0 ∨ k = 1 ∨ k = 2 ∨ k = 3 by omega) with rfl | rfl | rfl | rfl
  all_goals
    simp only [holdsM, opp]
    simp
/-- a selector's pointer, if New said yes -/
theorem newP_ok {ms : List Mt} {w w' : World} {y : Ending} (h : NewP ms w y w') (h0 : newE ms = 0) : ∃ g, y = .returned (.tuple #[.pointer (some ⟨g, 0, none⟩), .int .i64 0]) ∧ Sel w' g ms ∧ Below w.heap.size w w' := by
  obtain ⟨p, h1, h2, h3⟩ := h
  rcases h2.out with ⟨_, g, h4, h5⟩ | ⟨h4, _⟩
  · exact ⟨g, by rw [h1, h4, h0], h5, h3⟩
  · exact absurd h0 h4
theorem D3.other {w : World} {h : Nat} {nm vl : ByteArray} {op : Int} (b : D3 w h nm op vl) {a : Addr} (ha : h ≠ a.block) (u : Value) : D3 (w.setCell a u) h nm op vl := ⟨by simpa using b.hw, (Below.heap_setCell w a u h ha).trans b.blk⟩
theorem D3.setOp {w : World} {h : Nat} {nm vl : ByteArray} {op : Int} (b : D3 w h nm op vl) (p : Int) : D3 (w.setCell ⟨h, 1, none⟩ (.int .i64 p)) h nm p vl := by
  refine ⟨by simpa using b.hw, ?_⟩
  rw [heap_set_at b.blk]
  rfl
theorem xor_opp {k : Nat} (hk : k < 4) : bits BinOp.xor IntKind.i64 (k : Int) 1 = ((opp k : Nat) : Int) := by
  rcases (show k = 0 ∨ k = 1 ∨ k = 2 ∨ k = 3 by omega) with rfl | rfl | rfl | rfl <;> decide
theorem newE_one {m : Mt} (h : prepE m = 0) : newE [m] = 0 := newE_ok (by simp) (fun x hx => by simp at hx; subst hx; exact h)
theorem allM_one (m : Mt) (a : List Lb.Lab) : allM [m] a = holdsM m (Lb.getV a m.nm) := by simp [allM]
def TuRel (w : World) (ms : List Mt) (b : Nat) (v7 v37 : Value) (wr : World) : Prop := ∃ (i c : Nat) (A : Option Addr), v7 = .slice A i c ∧ v37 = .int .i64 (i : Int) ∧ i ≤ ms.length ∧ wr.ownsRow w.heap.size 39 3 (.slice A i c) i (mtC (rotM ms b i)) ∧ Below w.heap.size w wr
def TvRel (w : World) (n : Nat) (v83 : Value) (wr : World) : Prop := ∃ i : Nat, v83 = .int .i64 (i : Int) ∧ i ≤ n ∧ Below w.heap.size w wr
end Go.Proofs.YtnabfganecghkaaDoor
