/- A file whose name and bytes are sure stays so, plainly. -/
import Derived.Test.YtamhgbkdljggbaaDqC
namespace Go.Proofs.Ytamhgbkdljggbaa.Dk
open Go.RowKit Go.Maps Go.Sort Go.Proofs
set_option linter.unusedVariables false

/-- the name x has a file of its own, sure by name, with the bytes b ++ m, at least b of them sure -/
structure Sur (S : PD) (x : Nm) (b m : List Nat) : Prop where
  now : S.now x ≠ 0
  sure : S.sure x = S.now x
  only : ∀ z, z ≠ x → S.now z ≠ S.now x
  bs : (S.F (S.now x)).bs = b ++ m
  k : b.length ≤ (S.F (S.now x)).k
theorem Sur.same {S S' : PD} {x : Nm} {b m : List Nat} (h : Sur S x b m) (h1 : S'.now = S.now) (h2 : S'.sure = S.sure) (h3 : S'.F = S.F) : Sur S' x b m := by
  obtain ⟨a1, a2, a3, a4, a5⟩ := h
  exact ⟨by rw [h1]; exact a1, by rw [h1, h2]; exact a2, by rw [h1]; exact a3, by rw [h1, h3]; exact a4, by rw [h1, h3]; exact a5⟩
theorem stepS_same (S : PD) : (stepS S).now = S.now ∧ (stepS S).sure = S.sure ∧ (stepS S).F = S.F := by
  unfold stepS
  split
  · exact ⟨rfl, rfl, rfl⟩
  · split
    · exact ⟨rfl, rfl, rfl⟩
    · exact ⟨rfl, rfl, rfl⟩
theorem Sur.step {S : PD} {x : Nm} {b m : List Nat} (h : Sur S x b m) : Sur (stepS S) x b m := h.same (stepS_same S).1 (stepS_same S).2.1 (stepS_same S).2.2
theorem Sur.app {S S' : PD} {x y : Nm} {b m bs : List Nat} (h : Sur S x b m) (ha : AppS S y bs S') : Sur S' x b (if y = x then m ++ bs else m) := by
  obtain ⟨⟨g, fl, hg, hn, hF, k1, k0⟩, hs, _, _, _, _⟩ := ha
  obtain ⟨a1, a2, a3, a4, a5⟩ := h
  by_cases e : y = x
  · subst e
    obtain ⟨rfl, kb, kk⟩ := k1 a1
    rw [putN_id] at hn
    rw [if_pos rfl]
    refine ⟨by rw [hn]; exact a1, by rw [hn, hs]; exact a2, by rw [hn]; exact a3, ?_, ?_⟩
    · rw [hn, hF, putF_same, kb, a4, List.append_assoc]
    · rw [hn, hF, putF_same, kk]; exact a5
  · rw [if_neg e]
    have hx : S'.now x = S.now x := by rw [hn]; exact putN_other (Ne.symm e)
    have hgx : S.now x ≠ g := by
      by_cases hy : S.now y = 0
      · intro e2
        exact (k0 hy).1 ⟨hg, x, .inl e2⟩
      · rw [(k1 hy).1]
        exact Ne.symm (a3 y e)
    have hFx : S'.F (S.now x) = S.F (S.now x) := by rw [hF]; exact putF_other hgx
    refine ⟨by rw [hx]; exact a1, by rw [hx, hs]; exact a2, fun z hz => ?_, by rw [hx, hFx]; exact a4, by rw [hx, hFx]; exact a5⟩
    rw [hx, hn]
    by_cases ez : z = y
    · rw [ez, putN_same]; exact Ne.symm hgx
    · rw [putN_other ez]; exact a3 z hz
theorem Sur.sync {S : PD} {x y : Nm} {b m : List Nat} (h : Sur S x b m) : Sur (syncS S y) x b m := by
  have h1 := h.step
  unfold syncS
  split
  · exact h1
  · split
    · exact h1
    · rename_i hy
      obtain ⟨a1, a2, a3, a4, a5⟩ := h1
      refine ⟨a1, a2, a3, ?_, ?_⟩
      · show (putF (stepS S).F ((stepS S).now y) (flSync ((stepS S).F ((stepS S).now y))) ((stepS S).now x)).bs = _
        by_cases e : (stepS S).now x = (stepS S).now y
        · rw [e, putF_same, ← e]; exact a4
        · rw [putF_other e]; exact a4
      · show _ ≤ (putF (stepS S).F ((stepS S).now y) (flSync ((stepS S).F ((stepS S).now y))) ((stepS S).now x)).k
        by_cases e : (stepS S).now x = (stepS S).now y
        · rw [e, putF_same, ← e]
          show _ ≤ ((stepS S).F ((stepS S).now x)).bs.length
          rw [a4]; simp
        · rw [putF_other e]; exact a5
theorem Sur.del {S S' : PD} {x y : Nm} {b m : List Nat} (h : Sur S x b m) (hy : y ≠ x) (h1 : S'.now = putN S.now y 0) (h2 : S'.sure = S.sure) (h3 : S'.F = S.F) : Sur S' x b m := by
  obtain ⟨a1, a2, a3, a4, a5⟩ := h
  have hx : S'.now x = S.now x := by rw [h1]; exact putN_other (Ne.symm hy)
  refine ⟨by rw [hx]; exact a1, by rw [hx, h2]; exact a2, fun z hz => ?_, by rw [hx, h3]; exact a4, by rw [hx, h3]; exact a5⟩
  rw [hx, h1]
  by_cases ez : z = y
  · rw [ez, putN_same]; exact Ne.symm a1
  · rw [putN_other ez]; exact a3 z hz
theorem Sur.give {S : PD} {x y : Nm} {b m : List Nat} (h : Sur S x b m) (hy : y ≠ x) (nb : Option Nat) {g : Nat} (hg : g ≠ S.now x) : Sur (giveS S nb y g (S.F g)) x b m := by
  obtain ⟨a1, a2, a3, a4, a5⟩ := h
  have hx : (giveS S nb y g (S.F g)).now x = S.now x := putN_other (Ne.symm hy)
  have hF : (giveS S nb y g (S.F g)).F = S.F := putF_self _ _
  refine ⟨by rw [hx]; exact a1, by rw [hx]; exact a2, fun z hz => ?_, by rw [hx, hF]; exact a4, by rw [hx, hF]; exact a5⟩
  rw [hx]
  show putN S.now y g z ≠ _
  by_cases ez : z = y
  · rw [ez, putN_same]; exact hg
  · rw [putN_other ez]; exact a3 z hz
/-- a step that the law lets through -/
theorem Sur.doS {S S' : PD} {x : Nm} {b m : List Nat} {kd nn C : Int} {A B : ByteArray} (h : Sur S x b m) (hd : DoS kd A B nn S C S') (h4 : kd ≤ 4) (h2 : kd = 2 → A.data.toList ≠ x ∧ B.data.toList ≠ x) (h3 : kd = 3 → A.data.toList ≠ x) :
    Sur S' x b (if kd = 0 ∧ A.data.toList = x ∧ C = 0 then m ++ byN B else m) := by
  obtain ⟨d0, d1, d2, d3, d4, d5, d6⟩ := hd
  have h1 := h.step
  by_cases c0 : kd = 0
  · obtain ⟨e1, e2⟩ := d0 c0
    by_cases hC : C = 0
    · obtain ⟨_, _, ha⟩ := e2 hC
      have := h1.app ha
      by_cases e : A.data.toList = x
      · rw [if_pos ⟨c0, e, hC⟩]; rw [if_pos e] at this; exact this
      · rw [if_neg (fun hh => e hh.2.1)]; rw [if_neg e] at this; exact this
    · rw [if_neg (fun hh => hC hh.2.2), e1 hC]; exact h1
  · rw [if_neg (fun hh => c0 hh.1)]
    by_cases c1 : kd = 1
    · rw [d1 c1]; exact h.sync
    by_cases c2 : kd = 2
    · obtain ⟨e1, e2⟩ := d2 c2
      by_cases hC : C = 0
      · obtain ⟨nb, ha⟩ := e2 hC
        obtain ⟨n1, n2⟩ := h2 c2
        rw [ha]
        have hdel : Sur (delS (stepS S) A.data.toList) x b m := h1.del n1 rfl rfl rfl
        refine hdel.give n2 nb (g := (stepS S).now A.data.toList) ?_
        show _ ≠ putN (stepS S).now A.data.toList 0 x
        rw [putN_other (Ne.symm n1)]
        exact h1.only _ n1
      · rw [e1 hC]; exact h1
    by_cases c3 : kd = 3
    · rw [d3 c3]
      unfold remS
      split
      · exact h1
      · split
        · exact h1
        · exact h1.del (h3 c3) rfl rfl rfl
    by_cases c4 : kd = 4
    · rcases d4 c4 with e | ⟨sb, e⟩
      · rw [e]; exact h1
      · rw [e]
        obtain ⟨a1, a2, a3, a4, a5⟩ := h1
        exact ⟨a1, rfl, a3, a4, a5⟩
    · rw [d6 (by omega)]; exact h
/-- how it begins -/
structure Fst (S : PD) (room : Int) (x : Nm) (b : List Nat) : Prop where
  now : S.now x ≠ 0
  only : ∀ z, S.now z ≠ 0 → z = x
  bs : (S.F (S.now x)).bs = b
  room : S.room = room
  fuse : S.fuse = -1
  down : S.down = false
theorem fst_app {x : Nm} {r : Int} {bs : List Nat} {S' : PD} (h : AppS (stepS (newS r)) x bs S') : Fst S' r x bs := by
  obtain ⟨e1, e2⟩ := step_on (S := newS r) rfl rfl
  obtain ⟨⟨g, fl, hg, hn, hF, _, h0⟩, hs, hr, hf, _, hd⟩ := h
  rw [e2] at hn hF h0 hs hr hf hd
  obtain ⟨_, hb, hk⟩ := h0 rfl
  have en : S'.now x = g := by rw [hn]; exact putN_same _ _ _
  have eF : S'.F g = fl := by rw [hF]; exact putF_same _ _ _
  refine ⟨by rw [en]; exact hg, fun z hz => ?_, by rw [en, eF]; exact hb, hr, hf, hd⟩
  refine Classical.byContradiction fun hne => hz ?_
  rw [hn, putN_other hne]
  rfl
theorem fst_sync {x : Nm} {r : Int} {b : List Nat} {S : PD} (h : Fst S r x b) : syncC S x = 0 ∧ Fst (syncS S x) r x b ∧ ((syncS S x).F ((syncS S x).now x)).k = b.length := by
  obtain ⟨e1, e2⟩ := step_on h.down h.fuse
  have hn : (stepS S).now x ≠ 0 := by rw [e2]; exact h.now
  have e : syncS S x = { ({ S with steps := IntKind.i64.wrap (S.steps + 1) } : PD) with F := putF S.F (S.now x) (flSync (S.F (S.now x))) } := by
    unfold syncS
    rw [if_neg (by rw [e1]; simp), if_neg hn, e2]
  refine ⟨?_, ?_, ?_⟩
  · unfold syncC
    rw [if_neg (by rw [e1]; simp), if_neg hn]
  · rw [e]
    refine ⟨h.now, h.only, ?_, h.room, h.fuse, h.down⟩
    show (putF S.F (S.now x) (flSync (S.F (S.now x))) (S.now x)).bs = b
    rw [putF_same]
    exact h.bs
  · rw [e]
    show (putF S.F (S.now x) (flSync (S.F (S.now x))) (S.now x)).k = b.length
    rw [putF_same]
    show (S.F (S.now x)).bs.length = _
    rw [h.bs]
theorem fst_names {x : Nm} {r : Int} {b : List Nat} {S : PD} (h : Fst S r x b) (hk : (S.F (S.now x)).k = b.length) (sb : Option Nat) (fu : Int) : stepE S = 0 ∧ Sur { ({ stepS S with sb := sb, sure := (stepS S).now } : PD) with fuse := fu } x b [] ∧ (stepS S).room = r := by
  obtain ⟨e1, e2⟩ := step_on h.down h.fuse
  refine ⟨e1, ?_, by rw [e2]; exact h.room⟩
  rw [e2]
  refine ⟨h.now, rfl, fun z hz e => hz (h.only z (by intro e0; exact h.now (e.symm.trans e0))), ?_, ?_⟩
  · show (S.F (S.now x)).bs = _
    rw [h.bs]; simp
  · show _ ≤ (S.F (S.now x)).k
    rw [hk]; exact Nat.le_refl _
/-- behind a loss of power it is there, with all of b, and perhaps some of what came behind -/
theorem Sur.crash {S T : PD} {x : Nm} {b m : List Nat} (h : Sur S x b m) {l s1 s2 : List Nm} {ks : List Bool} {us : List Nat} (h1 : Ns S.now s1) (hl : l = Lib.compact (srt (srt s1 ++ s2))) (hc : CrI S l ks us l.length T)
    (hS : ∀ s, (S.now s ≠ 0 → (S.F (S.now s)).k ≤ (S.F (S.now s)).bs.length) ∧ (S.sure s ≠ 0 → (S.F (S.sure s)).k ≤ (S.F (S.sure s)).bs.length)) : T.down = false ∧ T.now x ≠ 0 ∧ ∃ n, b.length ≤ n ∧ n ≤ b.length + m.length ∧ (T.F (T.now x)).bs = (b ++ m).take n := by
  obtain ⟨a1, a2, a3, a4, a5⟩ := h
  have hp : ∀ j, pk S ks j x = S.now x := fun j => by unfold pk; rw [a2]; split <;> rfl
  have hT : T.now x ≠ 0 := by
    have hm : x ∈ l := by
      rw [hl, compact_mem]
      have h3 : x ∈ s1 := (h1.2 x).2 a1
      have : x ∈ srt s1 := List.mem_mergeSort.2 h3
      exact List.mem_mergeSort.2 (List.mem_append_left _ this)
    obtain ⟨j, hj, he⟩ := List.getElem_of_mem hm
    exact hc.bwd j x hj (by rw [List.getElem?_eq_getElem hj, he]) (by rw [hp]; exact a1)
  refine ⟨hc.down, hT, ?_⟩
  obtain ⟨j, _, _, hq, _, hb⟩ := hc.fwd x hT
  rw [hp] at hb
  have hle := (hS x).1 a1
  have := Nat.mod_lt (ct us j) (show 0 < (S.F (S.now x)).bs.length - (S.F (S.now x)).k + 1 by omega)
  have hlen : (S.F (S.now x)).bs.length = b.length + m.length := by rw [a4]; simp
  refine ⟨lk (S.F (S.now x)) (ct us j), ?_, ?_, ?_⟩
  · unfold lk; omega
  · unfold lk; omega
  · rw [hb, a4]
def xS : ByteArray := ⟨#[115, 117, 114, 101]⟩
theorem xS_key : Ks xS := by unfold Ks maxLen; decide
theorem xS_ok : okName xS = true := by decide
theorem str_eq (s t : ByteArray) : (s.toList == t.toList) = decide (s.data.toList = t.data.toList) := by
  have e : (s.toList = t.toList) ↔ (s.data.toList = t.data.toList) := by rw [Lib.toList_data, Lib.toList_data]
  by_cases h : s.data.toList = t.data.toList
  · rw [decide_eq_true h]; simpa using e.2 h
  · rw [decide_eq_false h]; simpa using fun h' => h (e.1 h')
theorem byN_append (a b : ByteArray) : byN (a ++ b) = byN a ++ byN b := by unfold byN; simp
theorem txt_take (a b : ByteArray) (n : Nat) : txt ((byN a ++ byN b).take n) = (a ++ b).extract 0 n := by
  have e : ((byN a ++ byN b).take n).map UInt8.ofNat = (a.data.toList ++ b.data.toList).take n := by
    unfold byN
    rw [← List.map_append, ← List.map_take, List.map_map]
    have : (UInt8.ofNat ∘ fun x : UInt8 => x.toNat) = id := by funext x; simp
    rw [this, List.map_id]
  unfold txt
  rw [e]
  apply ByteArray.ext
  simp [ByteArray.data_extract, ByteArray.data_append, List.take_append]
end Go.Proofs.Ytamhgbkdljggbaa.Dk
