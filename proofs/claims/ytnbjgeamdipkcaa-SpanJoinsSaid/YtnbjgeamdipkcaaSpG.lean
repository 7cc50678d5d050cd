/- The contract of the law's own Rising: buckets of rising indices, out of any bytes. -/
import Derived.Test.YtnbjgeamdipkcaaSpO
import Derived.Test.YtnbjgeamdipkcaaSpA
namespace Go.Proofs.Ytnbjgeamdipkcaa
open Go.RowKit Go.Sort
set_option linter.unusedVariables false

/-- how far the next index lies -/
def gapN (x : Int) : Int := 1 + x % 5 / 3 * (x % 7)
theorem gapN_bd {x : Int} (h0 : 0 ≤ x) : 1 ≤ gapN x ∧ gapN x ≤ 7 := by
  unfold gapN
  have a : x % 5 / 3 = 0 ∨ x % 5 / 3 = 1 := by omega
  rcases a with a | a <;> rw [a] <;> omega
def atL (f : Int) (l : List Int) : Int := f + (l.map gapN).sum
theorem atL_snoc (f : Int) (l : List Int) (x : Int) : atL f (l ++ [x]) = atL f l + gapN x := by simp [atL]; omega
/-- the buckets that Rising makes -/
def risB (f : Int) (l : List Int) (cs : List Int) : List (Int × Int) := (List.range l.length).map fun k => (atL f (l.take (k + 1)), cs.getD k 0)
theorem risB_nil (f : Int) (cs : List Int) : risB f [] cs = [] := rfl
theorem risB_length (f : Int) (l cs : List Int) : (risB f l cs).length = l.length := by simp [risB]
theorem risB_snoc (f : Int) (l cs : List Int) (x : Int) : risB f (l ++ [x]) cs = risB f l cs ++ [(atL f l + gapN x, cs.getD l.length 0)] := by
  unfold risB
  rw [List.length_append, List.length_cons, List.length_nil, List.range_succ, List.map_append]
  congr 1
  · apply List.map_congr_left
    intro k hk
    rw [List.mem_range] at hk
    rw [List.take_append_of_le_length (by omega)]
  · simp only [List.map_cons, List.map_nil]
    rw [List.take_of_length_le (by simp), atL_snoc]
theorem risB_rise (f : Int) (cs l : List Int) : (∀ x ∈ l, 0 ≤ x) → Asc (idsL (risB f l cs)) ∧ (∀ y ∈ idsL (risB f l cs), f < y ∧ y ≤ atL f l) ∧ f ≤ atL f l ∧ atL f l ≤ f + 7 * l.length := by
  refine snoc_ind (P := fun l => (∀ x ∈ l, 0 ≤ x) → Asc (idsL (risB f l cs)) ∧ (∀ y ∈ idsL (risB f l cs), f < y ∧ y ≤ atL f l) ∧ f ≤ atL f l ∧ atL f l ≤ f + 7 * l.length) (fun _ => ?_) (fun l x ih h => ?_) l
  · exact ⟨List.Pairwise.nil, fun y hy => by simp [idsL, risB] at hy, by simp [atL], by simp [atL]⟩
  · obtain ⟨h1, h2, h3, h4⟩ := ih (fun y hy => h y (by simp [hy]))
    obtain ⟨g1, g2⟩ := gapN_bd (h x (by simp))
    rw [risB_snoc, atL_snoc]
    have e : idsL (risB f l cs ++ [(atL f l + gapN x, cs.getD l.length 0)]) = idsL (risB f l cs) ++ [atL f l + gapN x] := by simp [idsL]
    rw [e]
    refine ⟨?_, fun y hy => ?_, by omega, by simp; omega⟩
    · unfold Asc
      rw [List.pairwise_append]
      refine ⟨h1, by simp, fun a ha b hb => ?_⟩
      simp at hb
      subst hb
      have := h2 a ha
      omega
    · rcases List.mem_append.1 hy with hy | hy
      · have := h2 y hy; omega
      · simp at hy; subst hy; omega
theorem risB_fine {f : Int} {l cs : List Int} (h : ∀ x ∈ l, 0 ≤ x) (hl : l.length ≤ 200) (f0 : -100000 ≤ f) (f1 : f ≤ 100000) : Asc (idsL (risB f l cs)) ∧ Inb (idsL (risB f l cs)) := by
  obtain ⟨h1, h2, h3, h4⟩ := risB_rise f cs l h
  exact ⟨h1, fun y hy => by have := h2 y hy; omega⟩
theorem risB_at {f : Int} {l cs : List Int} {k : Nat} {x : Int} (h : l[k]? = some x) : risB f (l.take (k + 1)) cs = risB f (l.take k) cs ++ [(atL f (l.take k) + gapN x, cs.getD k 0)] := by
  have hk := (List.getElem?_eq_some_iff.1 h).1
  rw [take_snoc l k x h, risB_snoc, List.length_take, Nat.min_eq_left (by omega)]
/-- a row beside the one that grows, of elements of another type -/
theorem own_keep {w w' : World} {B1 B2 s1 s2 n1 n2 c1 c2 : Nat} {e1 e2 : TypeId} {A1 A2 : Option Addr} {x1 x2 : List Value} {o : Obj} (h2 : w.ownsRow B2 e2 s2 (.slice A2 n2 c2) n2 x2) (h1 : w.ownsRow B1 e1 s1 (.slice A1 n1 c1) n1 x1) (hne : e2 ≠ e1) (hg : (w.alloc o).grownBy w' (Value.slice A1 n1 c1).ownBlock) : w'.ownsRow B2 e2 s2 (.slice A2 n2 c2) n2 x2 := by
  refine (h2.alloc o).kept hg ?_
  rcases ho : (Value.slice A2 n2 c2).ownBlock with _ | g
  · exact .inl rfl
  · refine .inr (fun e => ?_)
    rcases h1.2 with ⟨h1', _⟩ | ⟨g', cap, cur, hv, _, hg', _⟩
    · rw [h1'] at e; simp [Value.ownBlock] at e
    · rw [hv] at e
      simp [Value.ownBlock] at e
      subst e
      exact own_ne h2 hg' hne ho
def RisePost (w : World) (X : List (Int × Int)) (e : Ending) (w' : World) : Prop := ∃ A c B d, e = .returned (.tuple #[.slice A X.length c, .slice B X.length d]) ∧ X.length ≤ c ∧ c ≤ 9223372036854775807 ∧ Cl w' A (twoC .u64 X) ∧ Cl w' B (intsC .i64 (idsL X)) ∧ Below w.heap.size w w'
def RiRel (f : Int) (l cs : List Int) (w : World) (v8 v9 a i : Value) (wr : World) : Prop :=
  ∃ (k : Nat) (A : Option Addr) (c : Nat) (B : Option Addr) (d : Nat), k ≤ l.length ∧ i = .int .i64 k ∧ a = .int .i64 (atL f (l.take k)) ∧ v8 = .slice A k c ∧ v9 = .slice B k d ∧ wr.ownsRow w.heap.size 41 2 (.slice A k c) k (twoC .u64 (risB f (l.take k) cs)) ∧ wr.ownsRow w.heap.size 3 1 (.slice B k d) k (intsC .i64 (idsL (risB f (l.take k) cs))) ∧ Below w.heap.size w wr
theorem own_cap {w : World} {base : Nat} {e : TypeId} {size n c : Nat} {A : Option Addr} {xs : List Value} (h : w.ownsRow base e size (.slice A n c) n xs) : n ≤ c ∧ c ≤ 9223372036854775807 := by
  rcases h.2 with ⟨hv, h0⟩ | ⟨g, cap, cur, hv, _, _, h1, h2, _⟩
  · injection hv with e1 e2 e3
    omega
  · injection hv with e1 e2 e3
    unfold maxLen at h2
    omega
set_option maxHeartbeats 1000000 in
set_option maxRecDepth 100000 in
theorem rising_any (A C : Option Addr) (c d : Nat) (f : Int) (l cs : List Int) (w : World) (hS : Cl w A (intsC .u8 l)) (hC : Cl w C (intsC .u64 cs)) (hb : ∀ x ∈ l, 0 ≤ x ∧ x ≤ 255) (hl : l.length ≤ 200) (hcl : cs.length ≤ 9223372036854775807) (f0 : -32768 ≤ f) (f1 : f ≤ 32767) :
    Calls Try.prog 7 #[.slice A l.length c, .int .i16 f, .slice C cs.length d] w (RisePost w (risB f l cs)) := by
  have HS := Lib.hid hS
  have HC := Lib.hid hC
  have HBD := Lib.hid hb
  have HRS := Lib.hid (fun k => risB_rise f cs (l.take k) (fun x hx => (hb x (List.mem_of_mem_take hx)).1))
  clear hS hC hb
  go_enter Try.func7, Try.ntmps7
  go_wp2_with fail
  go_loopw [8, 9, 10, 18] (fun v8 v9 a i wr => RiRel f l cs w v8 v9 a i wr) (fun _ _ _ i _ => l.length - (intOf i).toNat)
  case atStart => exact ⟨0, none, 0, none, 0, by omega, rfl, by simp [atL], rfl, rfl, World.ownsRow_nil _ _ _ _, World.ownsRow_nil _ _ _ _, Below.refl _ _⟩
  case round =>
    obtain ⟨k, A1, c1, B1, d1, hk, rfl, rfl, rfl, rfl, ho1, ho2, hb⟩ := hrel
    have HO1 := Lib.hid ho1
    have HO2 := Lib.hid ho2
    have HB := Lib.hid hb
    by_cases hlt : k < l.length
    · obtain ⟨b, off, rfl, hc⟩ := (HS.out.below hb).ints (by omega)
      obtain ⟨x, hx⟩ := getElem?_lt hlt
      have hxc := hc k x hx
      obtain ⟨xb1, xb2⟩ := HBD.out x (mem_of_at hx)
      have HAT := Lib.hid (risB_at (f := f) (cs := cs) hx)
      have HAA := Lib.hid (show atL f (l.take (k + 1)) = atL f (l.take k) + gapN x by rw [take_snoc l k x hx, atL_snoc])
      obtain ⟨_, _, r1, r2⟩ := HRS.out k
      have hlk : ((l.take k).length : Int) ≤ 200 := by have := List.length_take_le k l; omega
      obtain ⟨T, hT⟩ : ∃ T, atL f (l.take k) = T := ⟨_, rfl⟩
      rw [hT] at HAT HAA r1 r2 ⊢
      have ht1 : -32768 ≤ T := by omega
      have ht2 : T ≤ 40000 := by omega
      have hpr : 0 ≤ x % 5 / 3 * (x % 7) ∧ x % 5 / 3 * (x % 7) ≤ 6 := by
        have := gapN_bd xb1
        unfold gapN at this
        omega
      obtain ⟨p1, p2⟩ := hpr
      have hki : (k : Int) < (l.length : Int) := by omega
      have hsz := hb.size
      obtain ⟨E, hE⟩ : ∃ E, T + (1 + x % 5 / 3 * (x % 7)) = E := ⟨_, rfl⟩
      have HE := Lib.hid hE
      have HEQ := Lib.hid (show T + gapN x = E from hE)
      have hEI : IntKind.i64.wrap (T + (1 + x % 5 / 3 * (x % 7))) = E := by rw [hE]; exact IntWalk.i64_in _ (by omega)
      have hkl : k + 1 ≤ 1000000 := by omega
      clear hc hx hT r1 r2 ho1 ho2 hlk hE hEI
      by_cases hcs : k < cs.length
      · have hcsi : (k : Int) < (cs.length : Int) := by omega
        obtain ⟨b', off', rfl, hc'⟩ := (HC.out.below hb).ints (by omega)
        obtain ⟨y, hy⟩ := getElem?_lt hcs
        have hyc := hc' k y hy
        have hblt : b' < wr.heap.size := block_lt_of_cell hyc
        have HY := Lib.hid (show cs.getD k 0 = y by rw [List.getD_eq_getElem?_getD, hy]; rfl)
        clear hc' hy hb
        go_wp2_with (at_builtin; refine app_bkt rfl _ _ rfl w.heap.size _ _ _ _ rfl ((HO1.out.alloc _).alloc _) _ rfl (T + (1 + x % 5 / 3 * (x % 7)), y) (new_two2 _ _ _ _ _).1 (new_two2 _ _ _ _ _).2 hkl ?d1 ?_)
        case d1 => (first | omega | (simp; omega))
        intro A3 c3 w3 ho3 hg3
        have HO3 := Lib.hid ho3
        have HO4 := Lib.hid (own_keep (HO2.out.alloc _) (HO1.out.alloc _) (by decide) hg3)
        have HB3 := Lib.hid (below_app (HB.out.alloc hsz _) (by simp; omega) (HO1.out.alloc _) (Nat.le_refl _) hg3)
        have hsz3 := HB3.out.size
        clear ho3 hg3
        go_wp2_with (at_builtin; refine app_int rfl _ _ rfl w.heap.size _ _ _ _ rfl (HO4.out.alloc _) _ rfl (T + (1 + x % 5 / 3 * (x % 7))) (new_one _ _ _) hkl ?e1 ?_)
        case e1 => (first | omega | (simp; omega))
        intro B5 d5 w5 ho5 hg5
        have HNX := Lib.hid (show RiRel f l cs w (.slice A3 (k + 1) c3) (.slice B5 (k + 1) d5) (.int .i64 (T + (1 + x % 5 / 3 * (x % 7)))) (.int .i64 ((k + 1 : Nat) : Int)) w5 from by
          refine ⟨k + 1, A3, c3, B5, d5, hlt, rfl, by rw [HAA.out]; rfl, rfl, rfl, ?_, ?_, below_app HB3.out hsz3 HO4.out (Nat.le_refl _) hg5⟩
          · rw [HAT.out, HY.out]; exact own_keep HO3.out HO4.out (by decide) hg5
          · rw [HAT.out]
            have e : idsL (risB f (l.take k) cs ++ [(T + gapN x, cs.getD k 0)]) = idsL (risB f (l.take k) cs) ++ [T + (1 + x % 5 / 3 * (x % 7))] := by simp [idsL]; rfl
            rw [e]; exact ho5)
        clear ho5 hg5
        go_wp2_with fail
        go_roundw
        case rel => exact HNX.out
        case measure => simp [intOf]; omega
      · have hcsi : ¬ ((k : Int) < (cs.length : Int)) := by omega
        have HY := Lib.hid (show cs.getD k 0 = 0 by rw [List.getD_eq_getElem?_getD, List.getElem?_eq_none (by omega)]; rfl)
        clear hb
        go_wp2_with (at_builtin; refine app_bkt rfl _ _ rfl w.heap.size _ _ _ _ rfl ((HO1.out.alloc _).alloc _) _ rfl (T + (1 + x % 5 / 3 * (x % 7)), 0) (new_two2 _ _ _ _ _).1 (new_two2 _ _ _ _ _).2 hkl ?d1 ?_)
        case d1 => (first | omega | (simp; omega))
        intro A3 c3 w3 ho3 hg3
        have HO3 := Lib.hid ho3
        have HO4 := Lib.hid (own_keep (HO2.out.alloc _) (HO1.out.alloc _) (by decide) hg3)
        have HB3 := Lib.hid (below_app (HB.out.alloc hsz _) (by simp; omega) (HO1.out.alloc _) (Nat.le_refl _) hg3)
        have hsz3 := HB3.out.size
        clear ho3 hg3
        go_wp2_with (at_builtin; refine app_int rfl _ _ rfl w.heap.size _ _ _ _ rfl (HO4.out.alloc _) _ rfl (T + (1 + x % 5 / 3 * (x % 7))) (new_one _ _ _) hkl ?e1 ?_)
        case e1 => (first | omega | (simp; omega))
        intro B5 d5 w5 ho5 hg5
        have HNX := Lib.hid (show RiRel f l cs w (.slice A3 (k + 1) c3) (.slice B5 (k + 1) d5) (.int .i64 (T + (1 + x % 5 / 3 * (x % 7)))) (.int .i64 ((k + 1 : Nat) : Int)) w5 from by
          refine ⟨k + 1, A3, c3, B5, d5, hlt, rfl, by rw [HAA.out]; rfl, rfl, rfl, ?_, ?_, below_app HB3.out hsz3 HO4.out (Nat.le_refl _) hg5⟩
          · rw [HAT.out, HY.out]; exact own_keep HO3.out HO4.out (by decide) hg5
          · rw [HAT.out]
            have e : idsL (risB f (l.take k) cs ++ [(T + gapN x, cs.getD k 0)]) = idsL (risB f (l.take k) cs) ++ [T + (1 + x % 5 / 3 * (x % 7))] := by simp [idsL]; rfl
            rw [e]; exact ho5)
        clear ho5 hg5
        go_wp2_with fail
        go_roundw
        case rel => exact HNX.out
        case measure => simp [intOf]; omega
    · obtain rfl : k = l.length := by omega
      have hki : ¬ ((l.length : Int) < (l.length : Int)) := by omega
      have HEND := Lib.hid (show RisePost w (risB f l cs) (.returned (.tuple #[.slice A1 l.length c1, .slice B1 l.length d1])) wr from by
        have hr := risB_length f l cs
        rw [List.take_of_length_le (Nat.le_refl _)] at ho1 ho2
        have hcp := own_cap ho1
        refine ⟨A1, c1, B1, d1, by rw [hr], by omega, hcp.2, own_cl ho1, own_cl ho2, hb⟩)
      clear ho1 ho2 hb
      go_wp2_with fail
      go_ret2
      exact HEND.out
end Go.Proofs.Ytnbjgeamdipkcaa
