/- The keys of a map of files; either. -/
import Derived.Test.YtamhgbkdljggbaaDkJ
import Derived.Test.YtamhgbkdljggbaaIter
import Derived.Test.YtamhgbkdljggbaaShelfS
namespace Go.Proofs.Ytamhgbkdljggbaa.Dk
open Go.RowKit Go.Maps Go.Sort Go.Shelf Go.Proofs
set_option linter.unusedVariables false

/-- the names that have files, each once -/
def Ns (f : Nm → Nat) (ss : List Nm) : Prop := ss.Nodup ∧ ∀ s, s ∈ ss ↔ f s ≠ 0
theorem Ns.perm {f : Nm → Nat} {ss ts : List Nm} (h : Ns f ss) (p : ts.Perm ss) : Ns f ts := ⟨p.nodup_iff.2 h.1, fun s => p.mem_iff.trans (h.2 s)⟩
theorem ns_keys {w : World} {b n : Nat} {D : DataW Unit} {f : Nm → Nat} (h : w.ownsMap Try.prog 9 ptrR b n D) (hv : View D f) : Ns f (strKeys D) := by
  obtain ⟨es, hD, hp, _⟩ := h.entries KS
  obtain ⟨es', hD', hk⟩ := h.keysOf
  obtain rfl : es = es' := by rw [hD] at hD'; simpa using hD'
  subst hD
  have hs : ∀ p ∈ es, ∃ x, p.1 = .string x := fun p hp => by
    obtain ⟨v, hv⟩ := hk p hp
    obtain ⟨x, _, hx, _⟩ := Maps.keyOf_str keyS hv
    exact ⟨x, hx⟩
  constructor
  · refine List.pairwise_map.2 (hp.imp_of_mem ?_)
    intro p q hp' hq' hne e
    apply hne
    obtain ⟨a, ha⟩ := hs p hp'
    obtain ⟨b, hb⟩ := hs q hq'
    rw [ha, hb] at e ⊢
    exact congrArg _ e
  · intro s
    have hh := (hv s).2
    show s ∈ es.map (fun p => strOf p.1) ↔ _
    rw [← decide_eq_true_iff (p := f s ≠ 0), ← hh, has_eq, List.any_eq_true, List.mem_map]
    constructor
    · rintro ⟨p, hp', rfl⟩
      obtain ⟨a, ha⟩ := hs p hp'
      exact ⟨p, hp', by rw [ha]; simp [Lit.sameKey, strOf]⟩
    · rintro ⟨p, hp', hq⟩
      obtain ⟨a, ha⟩ := hs p hp'
      rw [ha] at hq
      exact ⟨p, hp', by rw [ha]; simpa [Lit.sameKey, strOf] using hq⟩
theorem seq_imp {F : Fence} {n g N N' : Nat} {P : Program} {lb : Array Value} {S S' : List (List UInt8) → Prop} {w : World} (h : SeqGives F n P g lb encStr S N w) (hS : ∀ xs, S xs → S' xs) (hN : N ≤ N') : SeqGives F n P g lb encStr S' N' w :=
  fun l J W hW hJ hY h0 => (h l J W hW hJ (fun pre x W1 hj hl => hY pre x W1 hj (by omega)) h0).mono (by
    rintro e W' ⟨hv, xs, hs, hj⟩
    exact ⟨hv, xs, hS xs hs, hj⟩)
theorem keys_seq (n : Nat) (hn : 1 ≤ n) {w : World} {mb : Option Nat} {f : Nm → Nat} {M Bm : Nat} (h : MapP w mb f M) (hBm : Bm < w.heap.size) (hm : w.cell? ⟨Bm, 0, none⟩ = some (.map mb)) :
    SeqGives Fence.wide n Try.prog 52 #[.pointer (some ⟨Bm, 0, none⟩)] encStr (Ns f) M w := by
  rcases h with ⟨rfl, h0⟩ | ⟨b, D, rfl, h2, h3⟩
  · exact seq_imp (AnyZ.keys_gives_nil (ρ := Try.keys38_ren) { Try.keys38 with } Fence.wide n trivial rfl Bm w hBm hm) (fun ss e => by subst e; exact ⟨List.nodup_nil, fun s => ⟨fun h => absurd h (List.not_mem_nil), fun h => absurd (h0 s) h⟩⟩) (Nat.zero_le _)
  · exact seq_imp (AnyZ.keys_gives (ρ := Try.keys38_ren) { Try.keys38 with } Fence.wide n trivial rfl hn Bm b M D w hBm hm h2) (fun ss p => (ns_keys h2 h3).perm p) h2.size_le
theorem keys_any (mb : Option Nat) (W : World) : Calls Try.prog 38 #[.map mb] W fun e w' => e = .returned (.func (.func 52) #[] #[.pointer (some ⟨W.heap.size, 0, none⟩)]) ∧ w' = W.alloc (.cells #[.map mb] 54) :=
  callsIn_wide.1 (AnyZ.keys_in Try.keys38 Fence.wide 5 trivial rfl mb W)
theorem sorts_in (m : Nat) : AnyZ.SortsIn Try.prog Try.sorted37_ren Fence.wide m :=
  ⟨fun blk off cap ss W hH hblk hsz => callsIn_wide.2 (Try.slices_Sort_string blk off cap ss W hH hblk hsz),
   fun p cap W => callsIn_wide.2 (Try.slices_Sort_string_none p cap W)⟩
abbrev srt (ss : List Nm) : List Nm := ss.mergeSort (fun x y => decide (x ≤ y))
set_option maxHeartbeats 1000000 in
theorem sorted_any {w : World} {mb : Option Nat} {f : Nm → Nat} {M Bm : Nat} (h : MapP w mb f M) (hBm : Bm < w.heap.size) (hm : w.cell? ⟨Bm, 0, none⟩ = some (.map mb)) (hM : M ≤ 1000000) :
    Calls Try.prog 37 #[.func (.func 52) #[] #[.pointer (some ⟨Bm, 0, none⟩)]] w fun e w' => ∃ (v : Value) (ss : List Nm), e = .returned v ∧ Ns f ss ∧ ss.length ≤ M ∧
      w'.ownsRow w.heap.size 9 1 v ss.length ((srt ss).map encStr) ∧ Below w.heap.size w w' := by
  have hs := keys_seq 2 (by omega) h hBm hm
  have hs2 : SeqGives Fence.wide 2 Try.prog 52 #[.pointer (some ⟨Bm, 0, none⟩)] encStr (fun ss => Ns f ss ∧ ss.length ≤ M) M w := hs.bounded
  have cS := AnyZ.sorted_in Try.sorted37 Fence.wide 5 trivial trivial trivial trivial rfl (by omega) (sorts_in _) (enters_of Try.func49 (by kernel_rfl) rfl) 52 #[.pointer (some ⟨Bm, 0, none⟩)] trivial (enters_of Try.func52 (by kernel_rfl) rfl) _ M (by unfold maxLen; omega) (by omega) _ hs2
  refine (callsIn_wide.1 cS).mono ?_
  rintro e w' ⟨v, ss, rfl, ⟨hS, hl⟩, hrow, _, hb⟩
  exact ⟨v, ss, rfl, hS, hl, hrow, hb⟩
set_option maxHeartbeats 1000000 in
theorem seqs_any {w : World} {mb : Option Nat} {f : Nm → Nat} {M Bm b0 : Nat} {v0 : Value} {s0 : List Nm} (h : MapP w mb f M) (hBm : Bm < w.heap.size) (hm : w.cell? ⟨Bm, 0, none⟩ = some (.map mb)) (hM : M ≤ 1000000) (hb0 : b0 ≤ w.heap.size) (hs0 : s0.length ≤ 1000000) (hv0 : w.ownsRow b0 9 1 v0 s0.length (s0.map encStr)) :
    Calls Try.prog 48 #[v0, .func (.func 52) #[] #[.pointer (some ⟨Bm, 0, none⟩)]] w fun e w' => ∃ (v : Value) (ss : List Nm), e = .returned v ∧ Ns f ss ∧ ss.length ≤ M ∧
      w'.ownsRow b0 9 1 v (s0.length + ss.length) ((s0 ++ ss).map encStr) ∧ Below b0 w w' := by
  have hs := keys_seq 2 (by omega) h hBm hm
  have hs2 : SeqGives Fence.wide 2 Try.prog 52 #[.pointer (some ⟨Bm, 0, none⟩)] encStr (fun ss => Ns f ss ∧ ss.length ≤ M) M w := hs.bounded
  have cS := seq_any (ρ := Try.sorted37_ren) { Try.sorted37 with } Fence.wide 3 trivial rfl (by omega) 52 #[.pointer (some ⟨Bm, 0, none⟩)] trivial (enters_of Try.func52 (by kernel_rfl) rfl) _ b0 s0 v0 M (by unfold maxLen; omega) (by omega) w hb0 hv0 hs2
  refine (callsIn_wide.1 cS).mono ?_
  rintro e w' ⟨v, ss, rfl, ⟨hS, hl⟩, hrow, hb⟩
  exact ⟨v, ss, rfl, hS, hl, hrow, hb⟩
/-! Sort, Compact -/
theorem row_parts {w : World} {b0 k : Nat} {v : Value} {ss : List Nm} (h : w.ownsRow b0 9 1 v k (ss.map encStr)) (hk : k = ss.length) : (v = .slice none 0 0 ∧ ss = []) ∨ ∃ g c cur, v = .slice (some ⟨g, 0, none⟩) ss.length c ∧ b0 ≤ g ∧ w.heap[g]? = some (.cells cur 9 (0, 0)) ∧ ss.length ≤ c ∧ c ≤ maxLen ∧ cur.size = c * 1 ∧ cur.toList.take ss.length = ss.map encStr := by
  subst hk
  rcases h.2 with ⟨hv, hz⟩ | ⟨g, c, cur, hv, hb, hh, r1, r2, r3, r4⟩
  · exact .inl ⟨hv, List.eq_nil_of_length_eq_zero hz⟩
  · exact .inr ⟨g, c, cur, hv, hb, hh, r1, r2, r3, by simpa using r4⟩
theorem sort_any {w : World} {b0 : Nat} {v : Value} {ss : List Nm} (h : w.ownsRow b0 9 1 v ss.length (ss.map encStr)) (hl : ss.length ≤ 4000000) (hb0 : b0 ≤ w.heap.size) :
    Calls Try.prog 49 #[v] w fun e w' => e = .returned (.tuple #[]) ∧ w'.ownsRow b0 9 1 v ss.length ((srt ss).map encStr) ∧ Below b0 w w' := by
  rcases row_parts h rfl with ⟨rfl, rfl⟩ | ⟨g, c, cur, rfl, hb, hh, r1, r2, r3, r4⟩
  · refine (Try.slices_Sort_string_none none 0 w).mono ?_
    rintro e w' ⟨rfl, rfl⟩
    exact ⟨rfl, by simpa using h, Below.refl _ _⟩
  · have hgl := (Array.getElem?_eq_some_iff.1 hh).1
    refine (Try.slices_Sort_string g 0 c ss w (holds_of_block hh r4) hgl (by omega)).mono ?_
    rintro e w' ⟨rfl, n, os, rfl⟩
    exact ⟨rfl, ownsRow_sorted (by simp) hb hh r1 r2 r3, (Below.refl _ _).grown (grownBy_sorted _) hb0 (fun j hj => by cases hj; exact hb)⟩
/-- names that lie in memory made behind b0 -/
def NmsAt (w : World) (b0 : Nat) (A : Option Addr) (l : List Nm) : Prop := ∀ i x, l[i]? = some x → ∃ b, A = some ⟨b, 0, none⟩ ∧ b0 ≤ b ∧ w.cell? ⟨b, i, none⟩ = some (encStr x)
theorem compact_any {w : World} {b0 : Nat} {v : Value} {ss : List Nm} (h : w.ownsRow b0 9 1 v ss.length (ss.map encStr)) (hl : ss.length ≤ 4000000) (hb0 : b0 ≤ w.heap.size) :
    Calls Try.prog 50 #[v] w fun e w' => ∃ A c, e = .returned (.slice A (Lib.compact ss).length c) ∧ NmsAt w' b0 A (Lib.compact ss) ∧ Below b0 w w' := by
  rcases row_parts h rfl with ⟨rfl, rfl⟩ | ⟨g, c, cur, rfl, hb, hh, r1, r2, r3, r4⟩
  · refine (Try.slices_Compact_string_empty none 0 w).mono ?_
    rintro e w' ⟨rfl, rfl⟩
    exact ⟨none, 0, rfl, fun i x hx => by simp [Lib.compact, Lib.compactUpTo] at hx, Below.refl _ _⟩
  · have hle := Lib.compact_length_le ss
    refine (Try.slices_Compact_string g 0 c ss w (holds_of_block hh r4) (by omega) r1).mono ?_
    rintro e w' ⟨rfl, q, hw⟩
    obtain ⟨ts, hts⟩ : ∃ ts, Lib.compact ss ++ List.replicate (ss.length - (Lib.compact ss).length) [] = ts := ⟨_, rfl⟩
    rw [hts] at hw
    have htl : ts.length = ss.length := by rw [← hts]; simp; omega
    have hw2 : w' = grow (putRow encStr (Sort.ahead w q) g 0 ts.toArray) #[] := by rw [hw, grow_empty]
    have ho := ownsRow_sorted (n := q) (os := #[]) htl hb hh r1 r2 r3
    have hg := grownBy_sorted (w := w) (g := g) (n := q) (os := #[]) ts.toArray
    rw [← hw2] at ho hg
    refine ⟨some ⟨g, 0, none⟩, c, rfl, fun i x hx => ⟨g, rfl, hb, ?_⟩, (Below.refl _ _).grown hg hb0 (fun j hj => by cases hj; exact hb)⟩
    have hi := (List.getElem?_eq_some_iff.1 hx).1
    rw [ho.cellAt i (by omega), List.getElem?_map, ← hts, List.getElem?_append_left hi, hx]
    rfl
theorem up_mem (d : Array Nm) (m : Nat) (x : Nm) : x ∈ Lib.compactUpTo d m ↔ ∃ j, j < m ∧ d[j]! = x := by
  induction m with
  | zero => simp [Lib.compactUpTo]
  | succ m ih =>
    rw [Lib.compactUpTo_succ, List.mem_append, ih]
    constructor
    · rintro (⟨j, h1, h2⟩ | h)
      · exact ⟨j, by omega, h2⟩
      · split at h
        · simp at h
          exact ⟨m, by omega, h.symm⟩
        · cases h
    · rintro ⟨j, h1, h2⟩
      rcases Nat.lt_or_ge j m with h | h
      · exact .inl ⟨j, h, h2⟩
      · obtain rfl : j = m := by omega
        by_cases hk : Lib.keeps d j = true
        · exact .inr (by rw [if_pos hk]; simp [h2])
        · have hk' : ¬ (j = 0 ∨ d[j]! ≠ d[j - 1]!) := by simpa [Lib.keeps] using hk
          have h0 : j ≠ 0 := fun e => hk' (.inl e)
          have h3 : d[j]! = d[j - 1]! := Classical.byContradiction fun e => hk' (.inr e)
          exact .inl ⟨j - 1, by omega, by rw [← h3, h2]⟩
theorem compact_mem (l : List Nm) (x : Nm) : x ∈ Lib.compact l ↔ x ∈ l := by
  unfold Lib.compact
  rw [up_mem]
  constructor
  · rintro ⟨j, h1, h2⟩
    rw [← h2]
    simp [h1]
  · intro h
    obtain ⟨j, h1, h2⟩ := List.getElem_of_mem h
    exact ⟨j, h1, by simpa [h1] using h2⟩
end Go.Proofs.Ytamhgbkdljggbaa.Dk
