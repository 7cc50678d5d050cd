/- The document's disk in memory; New, step, Name, Used, SyncNames, Remove. -/
import Derived.Test.YtamhgbkdljggbaaDkS
import Derived.Test.YtamhgbkdljggbaaDkG
namespace Go.Proofs.Ytamhgbkdljggbaa.Dk
open Go.RowKit Go.Maps
set_option linter.unusedVariables false

/-- cells of n files: a text of at most M bytes and a number each -/
def FC (xs : List Value) (n M : Nat) : Prop := xs.length = n * 2 ∧ ∀ i, i < n → (∃ s : ByteArray, xs[i * 2]? = some (.string s) ∧ s.size ≤ M) ∧ ∃ z : Int, xs[i * 2 + 1]? = some (.int .i64 z)
theorem FC.mono {xs : List Value} {n M M' : Nat} (h : FC xs n M) (hM : M ≤ M') : FC xs n M' := ⟨h.1, fun i hi => ⟨by obtain ⟨s, h1, h2⟩ := (h.2 i hi).1; exact ⟨s, h1, by omega⟩, (h.2 i hi).2⟩⟩
theorem FC.snoc {xs : List Value} {n M : Nat} (h : FC xs n M) : FC (xs ++ [.string ⟨#[]⟩, .int .i64 0]) (n + 1) M := by
  refine ⟨by rw [List.length_append, h.1]; simp; omega, fun i hi => ?_⟩
  rcases Nat.lt_or_ge i n with h1 | h1
  · obtain ⟨⟨s, h2, h3⟩, z, h4⟩ := h.2 i h1
    have hl := h.1
    exact ⟨⟨s, by rw [List.getElem?_append_left (by omega)]; exact h2, h3⟩, z, by rw [List.getElem?_append_left (by omega)]; exact h4⟩
  · obtain rfl : i = n := by omega
    have hl := h.1
    refine ⟨⟨⟨#[]⟩, ?_, Nat.zero_le _⟩, 0, ?_⟩
    · rw [List.getElem?_append_right (by omega), hl, Nat.sub_self]; rfl
    · rw [List.getElem?_append_right (by omega), hl, Nat.add_sub_cancel_left]; rfl
theorem FC.text {xs : List Value} {n M M' i : Nat} (h : FC xs n M) (hi : i < n) {s : ByteArray} (hs : s.size ≤ M') (hM : M ≤ M') : FC (xs.set (i * 2) (.string s)) n M' := by
  refine ⟨by rw [List.length_set]; exact h.1, fun j hj => ?_⟩
  have hl := h.1
  obtain ⟨⟨t, h2, h3⟩, z, h4⟩ := h.2 j hj
  refine ⟨?_, z, by rw [List.getElem?_set_ne (by omega)]; exact h4⟩
  by_cases e : i = j
  · subst e
    exact ⟨s, by rw [List.getElem?_set_self (by omega)], hs⟩
  · exact ⟨t, by rw [List.getElem?_set_ne (by omega)]; exact h2, by omega⟩
theorem FC.numb {xs : List Value} {n M i : Nat} (h : FC xs n M) (hi : i < n) (z : Int) : FC (xs.set (i * 2 + 1) (.int .i64 z)) n M := by
  refine ⟨by rw [List.length_set]; exact h.1, fun j hj => ?_⟩
  have hl := h.1
  obtain ⟨⟨t, h2, h3⟩, y, h4⟩ := h.2 j hj
  refine ⟨⟨t, by rw [List.getElem?_set_ne (by omega)]; exact h2, h3⟩, ?_⟩
  by_cases e : i = j
  · subst e
    exact ⟨z, by rw [List.getElem?_set_self (by omega)]⟩
  · exact ⟨y, by rw [List.getElem?_set_ne (by omega)]; exact h4⟩
structure RS where
  room : Int
  fuse : Int
  steps : Int
  down : Bool
  v : Value
  n : Nat
  nb : Nat
  sb : Nat
  xs : List Value
structure RD (O : Nat → Prop) (w : World) (q M : Nat) (S : RS) : Prop where
  box : w.heap[q]? = some (.cells #[.int .i64 S.room, S.v, .map (some S.nb), .map (some S.sb), .int .i64 S.fuse, .bool S.down, .int .i64 S.steps] 66 (0, 0))
  oq : O q
  now : NM w S.nb S.n M
  sure : NM w S.sb S.n M
  onow : O S.nb
  osure : O S.sb
  apart : S.nb ≠ S.sb
  row : w.ownsRow 0 82 2 S.v S.n S.xs
  fc : FC S.xs S.n M
  orow : ∀ r, S.v.ownBlock = some r → O r
  nM : S.n ≤ M
  bound : ∀ k, O k → k < w.heap.size
theorem RD.map_ne {O : Nat → Prop} {w : World} {q M b n K : Nat} {S : RS} (h : RD O w q M S) (hm : NM w b n K) : b ≠ q := fun e => by
  obtain ⟨es, clock, hh⟩ := hm.isMap
  rw [e, h.box] at hh
  cases hh
theorem RD.row_ne {O : Nat → Prop} {w : World} {q M r : Nat} {S : RS} (h : RD O w q M S) (hr : S.v.ownBlock = some r) : r ≠ q ∧ ∀ es clock, w.heap[r]? ≠ some (.map es clock) := by
  obtain ⟨cur, hh⟩ := own_type h.row hr
  refine ⟨fun e => ?_, fun es clock e => by rw [hh] at e; cases e⟩
  rw [e, h.box] at hh
  injection hh with hh
  injection hh with _ hh
  exact absurd hh (by decide)
theorem RD.keep {O : Nat → Prop} {w w' : World} {q M : Nat} {S : RS} (h : RD O w q M S) (hs : w.heap.size ≤ w'.heap.size) (hk : ∀ k, O k → w'.heap[k]? = w.heap[k]?) : RD O w' q M S :=
  ⟨(hk q h.oq).trans h.box, h.oq, h.now.keep (hk _ h.onow), h.sure.keep (hk _ h.osure), h.onow, h.osure, h.apart, own_abide h.row (fun k hv => hk k (h.orow k hv)), h.fc, h.orow, h.nM, fun k hO => Nat.lt_of_lt_of_le (h.bound k hO) hs⟩
theorem RD.below {O : Nat → Prop} {w w' : World} {q M : Nat} {S : RS} (h : RD O w q M S) (hb : Below w.heap.size w w') : RD O w' q M S := h.keep hb.size fun k hO => hb.block k (h.bound k hO)
theorem RD.mono {O O' : Nat → Prop} {w : World} {q M M' : Nat} {S : RS} (h : RD O w q M S) (hO : ∀ k, O k → O' k) (hb : ∀ k, O' k → k < w.heap.size) (hM : M ≤ M') : RD O' w q M' S :=
  ⟨h.box, hO q h.oq, h.now.mono (Nat.le_refl _) hM, h.sure.mono (Nat.le_refl _) hM, hO _ h.onow, hO _ h.osure, h.apart, h.row, h.fc.mono hM, fun r hr => hO r (h.orow r hr), Nat.le_trans h.nM hM, hb⟩
/-- the disk's own cells turned, the files and the names as they were -/
theorem RD.turn {O : Nat → Prop} {w w' : World} {q M : Nat} {S : RS} (h : RD O w q M S) (room fuse steps : Int) (down : Bool) (hs : w.heap.size ≤ w'.heap.size) (hk : ∀ k, k ≠ q → w'.heap[k]? = w.heap[k]?)
    (hb : w'.heap[q]? = some (.cells #[.int .i64 room, S.v, .map (some S.nb), .map (some S.sb), .int .i64 fuse, .bool down, .int .i64 steps] 66 (0, 0))) : RD O w' q M { S with room := room, fuse := fuse, steps := steps, down := down } :=
  ⟨hb, h.oq, h.now.keep (hk _ (h.map_ne h.now)), h.sure.keep (hk _ (h.map_ne h.sure)), h.onow, h.osure, h.apart, own_abide h.row (fun k hv => hk k (h.row_ne hv).1), h.fc, h.orow, h.nM, fun k hO => Nat.lt_of_lt_of_le (h.bound k hO) hs⟩
/-- a new map of names -/
theorem RD.news {O : Nat → Prop} {w w1 w' : World} {q M b' : Nat} {S : RS} (h : RD O w q M S) (hb1 : Below w.heap.size w w1) (hb' : w.heap.size ≤ b') (hm : NM w1 b' S.n M) (hs : w1.heap.size ≤ w'.heap.size) (hk : ∀ k, k ≠ q → w'.heap[k]? = w1.heap[k]?) :
    (w'.heap[q]? = some (.cells #[.int .i64 S.room, S.v, .map (some b'), .map (some S.sb), .int .i64 S.fuse, .bool S.down, .int .i64 S.steps] 66 (0, 0)) → RD (On O w w') w' q M { S with nb := b' }) ∧
    (w'.heap[q]? = some (.cells #[.int .i64 S.room, S.v, .map (some S.nb), .map (some b'), .int .i64 S.fuse, .bool S.down, .int .i64 S.steps] 66 (0, 0)) → RD (On O w w') w' q M { S with sb := b' }) := by
  have h1 := h.below hb1
  have hs1 := hb1.size
  have hq := h.bound q h.oq
  have hlt := hm.lt
  have hN : NM w' b' S.n M := hm.keep (hk b' (by omega))
  have hO' : On O w w' b' := .inr ⟨hb', by omega⟩
  have hB : ∀ k, On O w w' k → k < w'.heap.size := fun k hk => by
    rcases hk with hk | ⟨_, hk⟩
    · have := h.bound k hk; omega
    · exact hk
  have e1 := h.bound _ h.onow
  have e2 := h.bound _ h.osure
  exact ⟨fun hb => ⟨hb, .inl h.oq, hN, h1.sure.keep (hk _ (h1.map_ne h1.sure)), hO', .inl h.osure, by show b' ≠ S.sb; omega, own_abide h1.row (fun k hv => hk k (h1.row_ne hv).1), h.fc, fun r hr => .inl (h.orow r hr), h.nM, hB⟩,
    fun hb => ⟨hb, .inl h.oq, h1.now.keep (hk _ (h1.map_ne h1.now)), hN, .inl h.onow, hO', by show S.nb ≠ b'; omega, own_abide h1.row (fun k hv => hk k (h1.row_ne hv).1), h.fc, fun r hr => .inl (h.orow r hr), h.nM, hB⟩⟩
def RP (O : Nat → Prop) (w : World) (q M : Nat) (w' : World) : Prop := ∃ S, RD (On O w w') w' q M S ∧ Fr O w w'
theorem RP.of {O : Nat → Prop} {w w' : World} {q M M' : Nat} {S : RS} (h : RD O w' q M S) (hf : Fr O w w') (hM : M ≤ M') : RP O w q M' w' := ⟨S, h.mono (fun k hk => .inl hk) (fun k hk => by rcases hk with hk | ⟨_, hk⟩; exact h.bound k hk; exact hk) hM, hf⟩
theorem RP.then {O : Nat → Prop} {w w1 w2 : World} {q M : Nat} (hf : Fr O w w1) (h : RP O w1 q M w2) : RP O w q M w2 := by
  obtain ⟨S, h, h2⟩ := h
  exact ⟨S, h.mono (fun k hk => by rcases hk with hk | ⟨hk, hk'⟩; exact .inl hk; exact .inr ⟨Nat.le_trans hf.size hk, hk'⟩) (fun k hk => by rcases hk with hk | ⟨_, hk⟩; exact h.bound k (.inl hk); exact hk) (Nat.le_refl _), hf.trans h2 (fun x hx => .inl hx)⟩
theorem RD.cells {O : Nat → Prop} {w : World} {q M : Nat} {S : RS} (h : RD O w q M S) : (w.cell? ⟨q, 0, none⟩ = some (.int .i64 S.room) ∧ w.cell? ⟨q, 1, none⟩ = some S.v ∧ w.cell? ⟨q, 2, none⟩ = some (.map (some S.nb)) ∧ w.cell? ⟨q, 3, none⟩ = some (.map (some S.sb)) ∧ w.cell? ⟨q, 4, none⟩ = some (.int .i64 S.fuse) ∧ w.cell? ⟨q, 5, none⟩ = some (.bool S.down) ∧ w.cell? ⟨q, 6, none⟩ = some (.int .i64 S.steps)) ∧ ∀ i, w.frozen? ⟨q, i, none⟩ = false := by
  have hb := h.box
  refine ⟨⟨?_, ?_, ?_, ?_, ?_, ?_, ?_⟩, fun i => by simp [World.frozen?, hb]⟩
  all_goals (rw [cell_of_row _ _ _ _ _ _ hb]; rfl)
end Go.Proofs.Ytamhgbkdljggbaa.Dk
