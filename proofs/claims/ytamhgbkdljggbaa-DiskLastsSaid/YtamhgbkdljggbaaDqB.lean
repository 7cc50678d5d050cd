/- What a step keeps; DiskQuiet, plainly. -/
import Derived.Test.YtamhgbkdljggbaaDqA
namespace Go.Proofs.Ytamhgbkdljggbaa.Dk
open Go.RowKit Go.Maps Go.Sort Go.Proofs
set_option linter.unusedVariables false

theorem stepS_keep (S : PD) (hf : I64 S.fuse) : (stepS S).room = S.room ∧ I64 (stepS S).fuse := by
  unfold stepS
  split
  · exact ⟨rfl, hf⟩
  · split
    · exact ⟨rfl, hf⟩
    · refine ⟨rfl, ?_⟩
      show I64 (if 0 < S.fuse then S.fuse - 1 else S.fuse)
      unfold I64 at hf ⊢
      split <;> omega
theorem DoS.keep {kd nn C : Int} {A B : ByteArray} {S S' : PD} (h : DoS kd A B nn S C S') (hf : I64 S.fuse) (hn : I64 nn) : S'.room = S.room ∧ I64 S'.fuse := by
  obtain ⟨k1, k2⟩ := stepS_keep S hf
  obtain ⟨h0, h1, h2, h3, h4, h5, h6⟩ := h
  by_cases c0 : kd = 0
  · obtain ⟨e1, e2⟩ := h0 c0
    by_cases hC : C = 0
    · obtain ⟨_, _, ha⟩ := e2 hC
      exact ⟨ha.room.trans k1, by rw [ha.fuse]; exact k2⟩
    · rw [e1 hC]; exact ⟨k1, k2⟩
  by_cases c1 : kd = 1
  · rw [h1 c1]
    unfold syncS
    split
    · exact ⟨k1, k2⟩
    · split
      · exact ⟨k1, k2⟩
      · exact ⟨k1, k2⟩
  by_cases c2 : kd = 2
  · obtain ⟨e1, e2⟩ := h2 c2
    by_cases hC : C = 0
    · obtain ⟨nb, ha⟩ := e2 hC
      rw [ha]; exact ⟨k1, k2⟩
    · rw [e1 hC]; exact ⟨k1, k2⟩
  by_cases c3 : kd = 3
  · rw [h3 c3]
    unfold remS
    split
    · exact ⟨k1, k2⟩
    · split
      · exact ⟨k1, k2⟩
      · exact ⟨k1, k2⟩
  by_cases c4 : kd = 4
  · rcases h4 c4 with e | ⟨sb, e⟩
    · rw [e]; exact ⟨k1, k2⟩
    · rw [e]; exact ⟨k1, k2⟩
  by_cases c5 : kd = 5
  · rw [h5 c5]; exact ⟨rfl, hn⟩
  · rw [h6 (by omega)]; exact ⟨rfl, hf⟩
/-- all files that have names now are sure, and their names are -/
def AllSure (T : PD) : Prop := T.sure = T.now ∧ ∀ s, T.now s ≠ 0 → (T.F (T.now s)).k = (T.F (T.now s)).bs.length
theorem CrI.all_sure {S T : PD} {l : List Nm} {ks : List Bool} {us : List Nat} {i : Nat} (h : CrI S l ks us i T) (hs : T.sure = T.now) (hS : ∀ s, (S.now s ≠ 0 → (S.F (S.now s)).k ≤ (S.F (S.now s)).bs.length) ∧ (S.sure s ≠ 0 → (S.F (S.sure s)).k ≤ (S.F (S.sure s)).bs.length)) : AllSure T := by
  refine ⟨hs, fun s hn => ?_⟩
  obtain ⟨j, _, _, hp, hk, hb⟩ := h.fwd s hn
  rw [hk, hb, List.length_take]
  have hle : (S.F (pk S ks j s)).k ≤ (S.F (pk S ks j s)).bs.length := by
    unfold pk at hp ⊢
    split
    · rename_i hc
      rw [if_pos hc] at hp
      exact (hS s).1 hp
    · rename_i hc
      rw [if_neg hc] at hp
      exact (hS s).2 hp
  have := Nat.mod_lt (ct us j) (show 0 < (S.F (pk S ks j s)).bs.length - (S.F (pk S ks j s)).k + 1 by omega)
  unfold lk
  omega
theorem DK.le_all {O : Nat → Prop} {w : World} {d M : Nat} {S : PD} (h : DK O w d M S) : ∀ s, (S.now s ≠ 0 → (S.F (S.now s)).k ≤ (S.F (S.now s)).bs.length) ∧ (S.sure s ≠ 0 → (S.F (S.sure s)).k ≤ (S.F (S.sure s)).bs.length) := fun s => by
  constructor
  · intro hn
    obtain ⟨_, _, _, _, _, _, _, _, _, _, h7, _⟩ := h.file (S.now s) ⟨hn, s, .inl rfl⟩
    exact h7
  · intro hn
    obtain ⟨_, _, _, _, _, _, _, _, _, _, h7, _⟩ := h.file (S.sure s) ⟨hn, s, .inr rfl⟩
    exact h7
/-- of a disk that is all sure, a loss of power leaves all: the same names, the same bytes -/
theorem AllSure.crash {S T : PD} (h : AllSure S) {l s1 s2 : List Nm} {ks : List Bool} {us : List Nat} (h1 : Ns S.now s1) (hl : l = Lib.compact (srt (srt s1 ++ s2))) (hc : CrI S l ks us l.length T) : ∀ s, (T.now s ≠ 0 ↔ S.now s ≠ 0) ∧ (S.now s ≠ 0 → (T.F (T.now s)).bs = (S.F (S.now s)).bs) := by
  have hp : ∀ j s, pk S ks j s = S.now s := fun j s => by unfold pk; rw [h.1]; split <;> rfl
  have hfw : ∀ s, T.now s ≠ 0 → S.now s ≠ 0 ∧ (T.F (T.now s)).bs = (S.F (S.now s)).bs := fun s hn => by
    obtain ⟨j, _, _, hq, _, hb⟩ := hc.fwd s hn
    rw [hp] at hq hb
    refine ⟨hq, ?_⟩
    rw [hb]
    unfold lk
    rw [h.2 s hq, Nat.sub_self, Nat.zero_add, Nat.mod_one, Nat.add_zero, List.take_length]
  intro s
  have hbw : S.now s ≠ 0 → T.now s ≠ 0 := fun hn => by
    have hm : s ∈ l := by
      rw [hl, compact_mem]
      have h3 : s ∈ s1 := (h1.2 s).2 hn
      have : s ∈ srt s1 := List.mem_mergeSort.2 h3
      exact List.mem_mergeSort.2 (List.mem_append_left _ this)
    obtain ⟨j, hj, he⟩ := List.getElem_of_mem hm
    exact hc.bwd j s hj (by rw [List.getElem?_eq_getElem hj, he]) (by rw [hp]; exact hn)
  exact ⟨⟨fun hn => (hfw s hn).1, hbw⟩, fun hn => (hfw s (hbw hn)).2⟩
theorem ns_length {f g : Nm → Nat} {l m : List Nm} (hl : Ns f l) (hm : Ns g m) (h : ∀ s, f s ≠ 0 ↔ g s ≠ 0) : l.length = m.length :=
  ((List.perm_ext_iff_of_nodup hl.1 hm.1).2 fun s => (hl.2 s).trans ((h s).trans (hm.2 s).symm)).length_eq
end Go.Proofs.Ytamhgbkdljggbaa.Dk
