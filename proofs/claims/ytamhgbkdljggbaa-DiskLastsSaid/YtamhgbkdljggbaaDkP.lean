/- The document's example. -/
import Derived.Test.YtamhgbkdljggbaaDkO
namespace Go.Proofs.Ytamhgbkdljggbaa.Dk
open Go.RowKit Go.Maps Go.Proofs
set_option linter.unusedVariables false

/-- the bytes as a text -/
def txt (bs : List Nat) : ByteArray := ⟨(bs.map UInt8.ofNat).toArray⟩
theorem sl_text {w : World} {A : Option Addr} {n c : Nat} {bs : List Nat} (h : Tk.Sl w A c bs) (hn : n = bs.length) : (convert 31 9 (.slice A n c)).run Try.prog w = .ok (.string (txt bs)) w := by
  subst hn
  have hl : (bs.map UInt8.ofNat).length = bs.length := by simp
  cases A with
  | none =>
    have hc := h.2.2.1 rfl
    have hb : bs = [] := List.eq_nil_of_length_eq_zero (by have := h.1; omega)
    subst hb
    exact run_convert_bytes_nil w _ _ Try.underlying31 Try.underlying5 0 c _ Try.underlying9
  | some ad =>
    rw [← hl]
    refine run_convert_bytes_back (P := Try.prog) w 31 9 5 ad c (bs.map UInt8.ofNat) Try.underlying31 Try.underlying5 Try.underlying9 (fun j hj => ?_)
    have hj' : j < bs.length := by simpa using hj
    have hm : bs[j] < 256 := h.b8 _ (List.getElem_mem hj')
    exact h.2.2.2.src' j _ (by unfold Tk.cellsB; simp [hj', Nat.mod_eq_of_lt hm])
/-! the disk's blocks are from base on -/
def OB (base : Nat) (w : World) : Nat → Prop := fun k => base ≤ k ∧ k < w.heap.size
theorem ob_op {base d M : Nat} {S : PD} {w w' : World} (h : OpP (OB base w) w d M S w') (hb : base ≤ w.heap.size) : DK (OB base w') w' d M S ∧ Below base w w' := by
  have hs := h.2.size
  refine ⟨h.1.mono (fun k hk => ?_) (fun k hk => hk.2) (Nat.le_refl _), h.2.below (Below.refl _ _) hb (fun x hx => hx.1)⟩
  rcases hk with hk | hk
  · exact ⟨hk.1, Nat.lt_of_lt_of_le hk.2 hs⟩
  · exact ⟨by omega, hk.2⟩
/-! one file -/
theorem step_on {S : PD} (hd : S.down = false) (hf : S.fuse = -1) : stepE S = 0 ∧ stepS S = { S with steps := IntKind.i64.wrap (S.steps + 1) } := by
  unfold stepE stepS
  rw [hd, hf]
  cases S
  simp at hd hf ⊢
structure One (S : PD) (x : Nm) (bs : List Nat) (k : Nat) : Prop where
  now : S.now x ≠ 0
  only : ∀ z, S.now z ≠ 0 → z = x
  bs : (S.F (S.now x)).bs = bs
  k : (S.F (S.now x)).k = k
  room : S.room = 9
  fuse : S.fuse = -1
  down : S.down = false
theorem one_first {x : Nm} {bs : List Nat} {S' : PD} (h : AppS (stepS (newS 9)) x bs S') : One S' x bs 0 ∧ S'.sure = fun _ => 0 := by
  obtain ⟨e1, e2⟩ := step_on (S := newS 9) rfl rfl
  obtain ⟨⟨g, fl, hg, hn, hF, _, h0⟩, hs, hr, hf, _, hd⟩ := h
  rw [e2] at hn hF h0 hs hr hf hd
  obtain ⟨_, hb, hk⟩ := h0 rfl
  have en : S'.now x = g := by rw [hn]; exact putN_same _ _ _
  have eF : S'.F g = fl := by rw [hF]; exact putF_same _ _ _
  refine ⟨⟨by rw [en]; exact hg, fun z hz => ?_, by rw [en, eF]; exact hb, by rw [en, eF]; exact hk, hr, hf, hd⟩, hs⟩
  refine Classical.byContradiction fun hne => hz ?_
  rw [hn, putN_other hne]
  rfl
theorem one_app {S S' : PD} {x : Nm} {bs b2 : List Nat} {k : Nat} (h : One S x bs k) (ha : AppS (stepS S) x b2 S') : One S' x (bs ++ b2) k ∧ S'.now x = S.now x ∧ S'.sure = S.sure := by
  obtain ⟨e1, e2⟩ := step_on h.down h.fuse
  obtain ⟨⟨g, fl, hg, hn, hF, h1, _⟩, hs, hr, hf, _, hd⟩ := ha
  rw [e2] at hn hF h1 hs hr hf hd
  obtain ⟨rfl, hb, hk⟩ := h1 h.now
  have en : S'.now x = S.now x := by rw [hn]; exact putN_same _ _ _
  have eF : S'.F (S.now x) = fl := by rw [hF]; exact putF_same _ _ _
  refine ⟨⟨by rw [en]; exact hg, fun z hz => ?_, by rw [en, eF, hb]; exact congrArg (· ++ b2) h.bs, by rw [en, eF, hk]; exact h.k, hr.trans h.room, hf.trans h.fuse, hd.trans h.down⟩, en, hs⟩
  refine Classical.byContradiction fun hne => hne (h.only z ?_)
  rw [hn, putN_other hne] at hz
  exact hz
theorem one_sync {S : PD} {x : Nm} {bs : List Nat} {k : Nat} (h : One S x bs k) : syncC S x = 0 ∧ One (syncS S x) x bs bs.length ∧ (syncS S x).now = S.now ∧ (syncS S x).sure = S.sure := by
  obtain ⟨e1, e2⟩ := step_on h.down h.fuse
  unfold syncC syncS
  rw [e1, e2]
  have hn := h.now
  simp only [ne_eq, not_true, if_false, hn]
  refine ⟨trivial, ⟨hn, h.only, ?_, ?_, h.room, h.fuse, h.down⟩, trivial, trivial⟩
  · show (putF S.F (S.now x) (flSync (S.F (S.now x))) (S.now x)).bs = bs
    rw [putF_same]; exact h.bs
  · show (putF S.F (S.now x) (flSync (S.F (S.now x))) (S.now x)).k = bs.length
    rw [putF_same]
    show (S.F (S.now x)).bs.length = bs.length
    rw [h.bs]
theorem one_names {S : PD} {x : Nm} {bs : List Nat} {k : Nat} (h : One S x bs k) (sb : Option Nat) : stepE S = 0 ∧ One { stepS S with sb := sb, sure := (stepS S).now } x bs k := by
  obtain ⟨e1, e2⟩ := step_on h.down h.fuse
  rw [e2]
  exact ⟨e1, h.now, h.only, h.bs, h.k, h.room, h.fuse, h.down⟩
theorem ns_one {f : Nm → Nat} {ss : List Nm} {x : Nm} (h : Ns f ss) (hx : f x ≠ 0) (ho : ∀ z, f z ≠ 0 → z = x) : ss = [x] := by
  refine List.perm_singleton.1 ((List.perm_ext_iff_of_nodup h.1 (by simp)).2 fun s => ?_)
  rw [h.2 s, List.mem_singleton]
  exact ⟨ho s, fun e => e ▸ hx⟩
theorem compact_two (x : Nm) : Lib.compact (srt (srt [x] ++ [x])) = [x] := by
  have h1 : srt [x] = [x] := List.mergeSort_singleton _
  have h2 : srt ([x] ++ [x]) = [x, x] := by
    have hp := List.mergeSort_perm ([x] ++ [x]) (fun x y => decide (x ≤ y))
    exact (List.perm_replicate (n := 2) (a := x)).1 hp
  rw [h1, h2]
  simp [Lib.compact, Lib.compactUpTo, Lib.keeps, List.range_succ]
theorem one_crash {S T : PD} {x : Nm} {bs : List Nat} {k : Nat} {us : List Nat} {l s1 s2 : List Nm} (h : One S x bs k) (hs : S.sure x = S.now x) (ho : ∀ z, S.sure z ≠ 0 → z = x) (h1 : Ns S.now s1) (h2 : Ns S.sure s2) (hl : l = Lib.compact (srt (srt s1 ++ s2))) (hc : CrI S l [] us l.length T) :
    T.now x ≠ 0 ∧ (T.F (T.now x)).bs = bs.take (k + ct us 0 % (bs.length - k + 1)) ∧ T.down = false := by
  have e1 := ns_one h1 h.now h.only
  have e2 := ns_one h2 (by rw [hs]; exact h.now) ho
  rw [e1, e2, compact_two] at hl
  subst hl
  have hp : ∀ j, pk S [] j x = S.now x := fun j => by unfold pk; simp [hs]
  have hn := hc.bwd 0 x (by simp) rfl (by rw [hp]; exact h.now)
  refine ⟨hn, ?_, hc.down⟩
  obtain ⟨j, hj, _, _, _, hb⟩ := hc.fwd x hn
  have hj0 : j = 0 := by simpa using hj
  subst hj0
  rw [hb, hp]
  unfold lk
  rw [h.bs, h.k]
def fS : ByteArray := ⟨#[102]⟩
end Go.Proofs.Ytamhgbkdljggbaa.Dk
