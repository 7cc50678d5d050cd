/- Plain facts behind LabelKeys: what is turned about is a rearrangement; sorted labels are one; keys tell labels. -/
import Derived.Test.YtnnfoagdgoionabLbY
import Derived.Test.YtnnfoagdgoionabLbZ
namespace Go.Proofs.Ytnnfoagdgoionab
open Go.RowKit
set_option linter.unusedVariables false

theorem srt_unique : ∀ (X Y : List Lab), X.Perm Y → Sorted X → Sorted Y → X = Y
  | [], Y, hp, _, _ => by have := hp.length_eq; simp at this; exact (List.eq_nil_of_length_eq_zero this.symm).symm
  | x :: X, [], hp, _, _ => by have := hp.length_eq; simp at this
  | x :: X, y :: Y, hp, hx, hy => by
    have hx' := List.pairwise_cons.1 hx
    have hy' := List.pairwise_cons.1 hy
    have e : x = y := by
      have h1 : x ∈ y :: Y := hp.mem_iff.1 (by simp)
      have h2 : y ∈ x :: X := hp.mem_iff.2 (by simp)
      rcases List.mem_cons.1 h1 with h1 | h1
      · exact h1
      · rcases List.mem_cons.1 h2 with h2 | h2
        · exact h2.symm
        · have a1 := hy'.1 x h1
          have a2 := hx'.1 y h2
          have a3 := cmpP_neg x y
          exact (cmpP_zero x y).1 (by omega)
    subst e
    rw [srt_unique X Y (List.Perm.cons_inv hp) hx'.2 hy'.2]
def lab0 : Lab := (⟨#[]⟩, ⟨#[]⟩)
/-- the first k of the labels turned about by s -/
def rotK (a : List Lab) (s k : Nat) : List Lab := (List.range k).map fun i => a.getD ((i + s) % a.length) lab0
theorem rotK_snoc (a : List Lab) (s k : Nat) : rotK a s (k + 1) = rotK a s k ++ [a.getD ((k + s) % a.length) lab0] := by
  unfold rotK; rw [List.range_succ, List.map_append]; rfl
theorem rotK_len (a : List Lab) (s k : Nat) : (rotK a s k).length = k := by simp [rotK]
theorem rot_eq (a : List Lab) (s : Nat) (h : 0 < a.length) : rotK a s a.length = a.drop (s % a.length) ++ a.take (s % a.length) := by
  have hr := Nat.mod_lt s h
  obtain ⟨r, hre⟩ : ∃ r, s % a.length = r := ⟨_, rfl⟩
  rw [hre] at hr ⊢
  apply List.ext_getElem?
  intro j
  by_cases hj : j < a.length
  · have e1 : (rotK a s a.length)[j]? = some (a.getD ((j + s) % a.length) lab0) := by
      unfold rotK; rw [List.getElem?_map, List.getElem?_range hj]; rfl
    have e2 : (j + s) % a.length = if j + r < a.length then j + r else j + r - a.length := by
      rw [Nat.add_mod, hre, Nat.mod_eq_of_lt hj]
      split
      · rename_i h1; exact Nat.mod_eq_of_lt h1
      · rename_i h1
        rw [Nat.mod_eq_sub_mod (by omega)]
        exact Nat.mod_eq_of_lt (by omega)
    rw [e1, e2]
    by_cases h1 : j + r < a.length
    · rw [if_pos h1, List.getElem?_append_left (by rw [List.length_drop]; omega), List.getElem?_drop, List.getD_eq_getElem?_getD, List.getElem?_eq_getElem h1, Nat.add_comm r j, List.getElem?_eq_getElem h1]; rfl
    · rw [if_neg h1, List.getElem?_append_right (by rw [List.length_drop]; omega), List.length_drop, List.getElem?_take_of_lt (by omega)]
      have e3 : j - (a.length - r) = j + r - a.length := by omega
      rw [e3, List.getD_eq_getElem?_getD, List.getElem?_eq_getElem (by omega)]; rfl
  · rw [List.getElem?_eq_none (by rw [rotK_len]; omega), List.getElem?_eq_none (by rw [List.length_append, List.length_drop, List.length_take]; omega)]
theorem rot_perm (a : List Lab) (s : Nat) (h : 0 < a.length) : (rotK a s a.length).Perm a := by
  rw [rot_eq a s h]
  refine List.perm_append_comm.trans ?_
  rw [List.take_append_drop]
theorem rot_wl {a : List Lab} (s k : Nat) (h : Wl a) (h0 : 0 < a.length) : Wl (rotK a s k) := by
  intro p hp
  unfold rotK at hp
  obtain ⟨i, _, rfl⟩ := List.mem_map.1 hp
  have hm := Nat.mod_lt (i + s) h0
  rw [List.getD_eq_getElem?_getD, List.getElem?_eq_getElem hm]
  exact h _ (List.getElem_mem hm)
/-- all names: nothing is left out -/
theorem filter_all (a : List Lab) : a.filter (inN (a.map (·.1))) = a := by
  apply List.filter_eq_self.2
  intro p hp
  unfold inN
  rw [Lib.containsS_iff]
  exact List.mem_map.2 ⟨p, hp, rfl⟩
theorem filter_none (a : List Lab) : a.filter (inN []) = [] := by
  apply List.filter_eq_nil_iff.2
  intro p _ h
  unfold inN at h
  rw [Lib.containsS_iff] at h
  simp at h
theorem take_eq {x y a b : List UInt8} (hl : x.length = y.length) (h : x ++ a = y ++ b) : x = y ∧ a = b := List.append_inj h hl
theorem u8_inj {m n : Nat} (hm : m ≤ 64) (hn : n ≤ 64) (h : UInt8.ofNat m = UInt8.ofNat n) : m = n := by
  have := congrArg UInt8.toNat h
  rw [UInt8.toNat_ofNat', UInt8.toNat_ofNat'] at this
  omega
def Small (l : List Lab) : Prop := ∀ p ∈ l, p.1.size ≤ 64 ∧ p.2.size ≤ 64
theorem keyB_app {p q : Lab} {x y : List UInt8} (hp : p.1.size ≤ 64 ∧ p.2.size ≤ 64) (hq : q.1.size ≤ 64 ∧ q.2.size ≤ 64) (h : keyB p ++ x = keyB q ++ y) : p = q ∧ x = y := by
  unfold keyB at h
  rw [List.cons_append, List.cons_append, List.append_assoc, List.append_assoc] at h
  injection h with h1 h2
  have e1 := u8_inj hp.1 hq.1 h1
  obtain ⟨e2, h3⟩ := take_eq (by rw [data_len, data_len]; exact e1) h2
  rw [List.cons_append, List.cons_append] at h3
  injection h3 with h4 h5
  have e3 := u8_inj hp.2 hq.2 h4
  obtain ⟨e4, h6⟩ := take_eq (by rw [data_len, data_len]; exact e3) h5
  exact ⟨Prod.ext (dat_inj e2) (dat_inj e4), h6⟩
theorem keyL_inj : ∀ (a b : List Lab), Small a → Small b → keyL a = keyL b → a = b
  | [], [], _, _, _ => rfl
  | [], q :: s, _, _, h => by simp [keyL, keyB] at h
  | p :: r, [], _, _, h => by simp [keyL, keyB] at h
  | p :: r, q :: s, ha, hb, h => by
    unfold keyL at h
    rw [List.flatMap_cons, List.flatMap_cons] at h
    obtain ⟨e1, e2⟩ := keyB_app (ha p (by simp)) (hb q (by simp)) h
    rw [e1, keyL_inj r s (fun x hx => ha x (by simp [hx])) (fun x hx => hb x (by simp [hx])) e2]
theorem good_small {l : List Lab} (h : chk l = 0) : l.length ≤ 16 ∧ Small l := by
  obtain ⟨h1, h2⟩ := chk_ok h
  refine ⟨h1, fun p hp => ?_⟩
  obtain ⟨k, hk, rfl⟩ := List.getElem_of_mem hp
  have := (h2 k _ (List.getElem?_eq_getElem hk)).1
  exact ⟨valB_le this.1.1, valB_le this.2⟩
theorem cmpLs_three : ∀ a b : List Lab, -1 ≤ cmpLs a b ∧ cmpLs a b ≤ 1
  | [], [] => by simp [cmpLs]
  | [], _ :: _ => by simp [cmpLs]
  | _ :: _, [] => by simp [cmpLs]
  | x :: a, y :: b => by
    have ih := cmpLs_three a b
    unfold cmpLs
    split
    · rcases cmpP_three x y with e | e | e <;> omega
    · exact ih
/-- blocks of one type stay -/
def KeepT (t : TypeId) (w w' : World) : Prop := ∀ (g : Nat) (cs : Array Value) (fr : Nat × Nat), w.heap[g]? = some (.cells cs t fr) → w'.heap[g]? = some (.cells cs t fr)
theorem keepT_alloc (t : TypeId) (w : World) (o : Obj) : KeepT t w (w.alloc o) := by
  intro g cs fr hb
  have hlt : g < w.heap.size := (Array.getElem?_eq_some_iff.1 hb).1
  rw [Below.heap_alloc _ _ _ hlt]
  exact hb
theorem keepT_grown {t e : TypeId} {w w' : World} {B n c size : Nat} {A : Option Addr} {xs : List Value} (h : w.ownsRow B e size (.slice A n c) n xs) (hg : w.grownBy w' (Value.slice A n c).ownBlock) (hne : e ≠ t) : KeepT t w w' := by
  intro g cs fr hb
  have hlt : g < w.heap.size := (Array.getElem?_eq_some_iff.1 hb).1
  rw [hg.block g hlt (own_ne h hb hne).symm]
  exact hb
theorem KeepT.trans {t : TypeId} {a b c : World} (h : KeepT t a b) (k : KeepT t b c) : KeepT t a c := fun g cs fr hb => k g cs fr (h g cs fr hb)
theorem own_keepT {t : TypeId} {w w' : World} {B n c size : Nat} {A : Option Addr} {xs : List Value} (h : w.ownsRow B t size (.slice A n c) n xs) (k : KeepT t w w') : w'.ownsRow B t size (.slice A n c) n xs := by
  refine ⟨h.1, ?_⟩
  rcases h.2 with h1 | ⟨g, cap, cur, h1, h2, h3, h4⟩
  · exact .inl h1
  · exact .inr ⟨g, cap, cur, h1, h2, k g cur _ h3, h4⟩
/-- append of a label behind its block: rows of texts stay -/
theorem put_labT {ops : Array Oper} {rest : List Oper} {o : Oper} {a : Act} {W w : World} {Q : Exit → Act → World → Prop} (hgd : o.guard = none) (s x : Operand)
    (ho : o.op = .call { callee := .builtin .append, args := #[s, x], argTypes := #[22, 22] })
    (base : Nat) (A : Option Addr) (n c : Nat) (l : List Lab) (hs : a.eval s = .slice A n c) (hown : w.ownsRow base 36 2 (.slice A n c) n (labC l)) (hb : Below base W w) (hbase : base ≤ w.heap.size) (hl : n + 1 ≤ 4398046511104)
    (b : Nat) (hbz : w.heap.size = b) (hx : a.eval x = .slice (some ⟨b, 0, none⟩) 1 1) (y : Lab)
    (h : ∀ A' c' w', w'.ownsRow base 36 2 (.slice A' (n + 1) c') (n + 1) (labC (l ++ [y])) → Below base W w' → base ≤ w'.heap.size → KeepT 9 w w' → wpList Try.prog ops Q rest (a.put o.dst (.slice A' (n + 1) c')) w') :
    wpList Try.prog ops Q (o :: rest) a (w.alloc (.cells #[.string y.1, .string y.2] 36)) := by
  subst hbz
  have hown1 := own_below hown ((Below.refl _ _).alloc (Nat.le_refl _) (.cells #[.string y.1, .string y.2] 36))
  refine app_lab hgd s x ho base A n c l hs hown1 w.heap.size hx y (new_two _ _ _ _).1 (new_two _ _ _ _).2 hl (by simp; omega) ?_
  intro A' c' w' h1 h2
  have hb' := below_app hb hbase hown (Nat.le_refl _) h2
  have hz := h2.size
  refine h A' c' w' h1 hb' ?_ ((keepT_alloc _ _ _).trans (keepT_grown hown1 h2 (by decide)))
  simp at hz
  omega
/-- append of a text behind its block: rows of labels stay -/
theorem put_strT {ops : Array Oper} {rest : List Oper} {o : Oper} {a : Act} {W w : World} {Q : Exit → Act → World → Prop} (hgd : o.guard = none) (s x : Operand)
    (ho : o.op = .call { callee := .builtin .append, args := #[s, x], argTypes := #[23, 23] })
    (base : Nat) (A : Option Addr) (n c : Nat) (l : List ByteArray) (hs : a.eval s = .slice A n c) (hown : w.ownsRow base 9 1 (.slice A n c) n (stC l)) (hb : Below base W w) (hbase : base ≤ w.heap.size) (hl : n + 1 ≤ 4398046511104)
    (b : Nat) (hbz : w.heap.size = b) (hx : a.eval x = .slice (some ⟨b, 0, none⟩) 1 1) (y : ByteArray)
    (h : ∀ A' c' w', w'.ownsRow base 9 1 (.slice A' (n + 1) c') (n + 1) (stC (l ++ [y])) → Below base W w' → base ≤ w'.heap.size → KeepT 36 w w' → wpList Try.prog ops Q rest (a.put o.dst (.slice A' (n + 1) c')) w') :
    wpList Try.prog ops Q (o :: rest) a (w.alloc (.cells #[.string y] 9)) := by
  subst hbz
  have hown1 := own_below hown ((Below.refl _ _).alloc (Nat.le_refl _) (.cells #[.string y] 9))
  refine app_str hgd s x ho base A n c l hs hown1 w.heap.size hx y (new_one _ _ _) hl (by simp; omega) ?_
  intro A' c' w' h1 h2
  have hb' := below_app hb hbase hown (Nat.le_refl _) h2
  have hz := h2.size
  refine h A' c' w' h1 hb' ?_ ((keepT_alloc _ _ _).trans (keepT_grown hown1 h2 (by decide)))
  simp at hz
  omega
end Go.Proofs.Ytnnfoagdgoionab
