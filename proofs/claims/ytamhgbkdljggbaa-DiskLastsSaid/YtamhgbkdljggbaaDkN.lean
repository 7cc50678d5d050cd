/- What is left behind a loss of power, plainly, and in memory. -/
import Derived.Test.YtamhgbkdljggbaaDkM
namespace Go.Proofs.Ytamhgbkdljggbaa.Dk
open Go.RowKit Go.Maps Go.Proofs
set_option linter.unusedVariables false

/-- which file the i-th name has behind a loss of power -/
def pk (S : PD) (ks : List Bool) (i : Nat) (s : Nm) : Nat := if ks[i]? = some true then S.now s else S.sure s
def ct (us : List Nat) (i : Nat) : Nat := (us[i]?).getD 0
/-- how long it is -/
def lk (fl : Fl) (c : Nat) : Nat := fl.k + c % (fl.bs.length - fl.k + 1)
structure CrI (S : PD) (l : List Nm) (ks : List Bool) (us : List Nat) (i : Nat) (T : PD) : Prop where
  room : T.room = S.room
  fuse : T.fuse = -1
  steps : T.steps = 0
  down : T.down = false
  fwd : ∀ s, T.now s ≠ 0 → ∃ j, j < i ∧ l[j]? = some s ∧ pk S ks j s ≠ 0 ∧ (T.F (T.now s)).k = lk (S.F (pk S ks j s)) (ct us j) ∧ (T.F (T.now s)).bs = (S.F (pk S ks j s)).bs.take (lk (S.F (pk S ks j s)) (ct us j))
  bwd : ∀ j s, j < i → l[j]? = some s → pk S ks j s ≠ 0 → T.now s ≠ 0
theorem CrI.start (S : PD) (l : List Nm) (ks : List Bool) (us : List Nat) : CrI S l ks us 0 (newS S.room) :=
  ⟨rfl, rfl, rfl, rfl, fun s h => absurd rfl h, fun j s h => by omega⟩
theorem CrI.skip {S : PD} {l : List Nm} {ks : List Bool} {us : List Nat} {i : Nat} {T : PD} (h : CrI S l ks us i T) {x : Nm} (hx : l[i]? = some x) (h0 : pk S ks i x = 0) : CrI S l ks us (i + 1) T := by
  refine ⟨h.room, h.fuse, h.steps, h.down, fun s hs => ?_, fun j s hj hl hp => ?_⟩
  · obtain ⟨j, h1, h2⟩ := h.fwd s hs
    exact ⟨j, by omega, h2⟩
  · rcases Nat.lt_or_ge j i with h1 | h1
    · exact h.bwd j s h1 hl hp
    · obtain rfl : j = i := by omega
      rw [hx] at hl
      injection hl with hl
      subst hl
      exact absurd h0 hp
theorem CrI.give {S : PD} {l : List Nm} {ks : List Bool} {us : List Nat} {i : Nat} {T : PD} (h : CrI S l ks us i T) {x : Nm} (hx : l[i]? = some x) (hp : pk S ks i x ≠ 0) (nb : Option Nat) {g1 : Nat} (hg : g1 ≠ 0) (hv : ¬ Vd T g1) {fl : Fl} (hk : fl.k = lk (S.F (pk S ks i x)) (ct us i)) (hb : fl.bs = (S.F (pk S ks i x)).bs.take fl.k) :
    CrI S l ks us (i + 1) (giveS T nb x g1 fl) := by
  refine ⟨h.room, h.fuse, h.steps, h.down, fun s hs => ?_, fun j s hj hl hp => ?_⟩
  · by_cases e : s = x
    · subst e
      have e1 : (giveS T nb s g1 fl).now s = g1 := putN_same _ _ _
      have e2 : (giveS T nb s g1 fl).F g1 = fl := putF_same _ _ _
      refine ⟨i, by omega, hx, hp, ?_, ?_⟩
      · rw [e1, e2, hk]
      · rw [e1, e2, hb, hk]
    · have e1 : (giveS T nb x g1 fl).now s = T.now s := putN_other e
      rw [e1] at hs ⊢
      obtain ⟨j, h1, h2, h3, h4, h5⟩ := h.fwd s hs
      have e2 : (giveS T nb x g1 fl).F (T.now s) = T.F (T.now s) := putF_other (fun e => hv (e ▸ ⟨hs, s, .inl rfl⟩))
      rw [e2]
      exact ⟨j, by omega, h2, h3, h4, h5⟩
  · by_cases e : s = x
    · subst e
      have e1 : (giveS T nb s g1 fl).now s = g1 := putN_same _ _ _
      rw [e1]; exact hg
    · have e1 : (giveS T nb x g1 fl).now s = T.now s := putN_other e
      rw [e1]
      rcases Nat.lt_or_ge j i with h1 | h1
      · exact h.bwd j s h1 hl hp
      · obtain rfl : j = i := by omega
        rw [hx] at hl
        injection hl with hl
        exact absurd hl.symm e
/-- a name that has a file is one that can be a key -/
theorem MapP.kb {w : World} {mb : Option Nat} {f : Nm → Nat} {n : Nat} (h : MapP w mb f n) {s : Nm} (hs : f s ≠ 0) : s.length ≤ maxLen := by
  rcases h with ⟨_, h0⟩ | ⟨b, D, _, h2, h3⟩
  · exact absurd (h0 s) hs
  · have h4 := (h3 s).2
    rw [decide_eq_true hs] at h4
    obtain ⟨es, rfl, hk⟩ := h2.keysOf
    rw [has_eq, List.any_eq_true] at h4
    obtain ⟨p, hp, hq⟩ := h4
    obtain ⟨v, hv⟩ := hk p hp
    obtain ⟨x, _, hx, hl⟩ := Maps.keyOf_str keyS hv
    rw [hx] at hq
    have e : x = s := by simpa [Lit.sameKey] using hq
    rw [← e]; exact hl
def O2 (d b2 : Nat) (W : World) : Nat → Prop := fun k => k = d ∨ (b2 ≤ k ∧ k < W.heap.size)
structure CrW (S : PD) (l : List Nm) (ks : List Bool) (us : List Nat) (M d : Nat) (w2 : World) (i : Nat) (T : PD) (wr : World) : Prop where
  cri : CrI S l ks us i T
  dk : DK (O2 d w2.heap.size wr) wr d (M + i) T
  fr : Fr (fun k => k = d) w2 wr
theorem CrW.new {S : PD} {l : List Nm} {ks : List Bool} {us : List Nat} {M d : Nat} {w2 : World} {i : Nat} {T : PD} {wr w4 : World} (h : CrW S l ks us M d w2 i T wr) (hb : Below wr.heap.size wr w4) {g' : Nat} {fl : Fl} (hf : FileOk (fun x => wr.heap.size ≤ x ∧ x < w4.heap.size) w4 M fl (g' + 1)) :
    DK (O2 d w2.heap.size w4) w4 d (M + i) T ∧ FileOk (O2 d w2.heap.size w4) w4 (M + i) fl (g' + 1) ∧ Apart T (g' + 1) fl ∧ ¬ Vd T (g' + 1) := by
  have hs := h.fr.size
  refine ⟨(h.dk.below hb).mono (fun k hk => ?_) (fun k hk => ?_) (Nat.le_refl _), hf.keep (fun _ _ _ => rfl) (fun k hk => .inr ⟨by omega, hk.2⟩) (by omega), fun x hx hne r hr he => ?_, fun hv => ?_⟩
  · rcases hk with hk | ⟨h1, h2⟩
    · exact .inl hk
    · exact .inr ⟨h1, Nat.lt_of_lt_of_le h2 hb.size⟩
  · rcases hk with hk | ⟨h1, h2⟩
    · have := h.dk.bound k (.inl hk)
      exact Nat.lt_of_lt_of_le this hb.size
    · exact h2
  · obtain ⟨g, A, n, c, _, _, _, _, _, _, _, _, f9⟩ := h.dk.file x hx
    have h1 := h.dk.bound r (f9 r hr)
    obtain ⟨_, _, _, _, _, _, _, _, _, _, _, _, k9⟩ := hf
    have h2 := k9 r he
    omega
  · obtain ⟨g, A, n, c, e1, f2, _⟩ := h.dk.file _ hv
    have h1 := h.dk.bound g f2
    obtain ⟨g2, _, _, _, e2, k2, _⟩ := hf
    have h2 := k2
    omega
theorem CrW.give {S : PD} {l : List Nm} {ks : List Bool} {us : List Nat} {M d : Nat} {w2 : World} {i : Nat} {T : PD} {wr w4 w5 : World} (h : CrW S l ks us M d w2 i T wr) (hb : Below wr.heap.size wr w4) {x : Nm} (hx : l[i]? = some x) (hp : pk S ks i x ≠ 0) {g1 : Nat} (hg : g1 ≠ 0) (hv : ¬ Vd T g1) {fl : Fl}
    (hk : fl.k = lk (S.F (pk S ks i x)) (ct us i)) (hbs : fl.bs = (S.F (pk S ks i x)).bs.take fl.k) {nb : Option Nat} (h5 : DK (On (O2 d w2.heap.size w4) w4 w5) w5 d (M + i + 1) (giveS T nb x g1 fl)) (hf5 : Fr (O2 d w2.heap.size w4) w4 w5) :
    CrW S l ks us M d w2 (i + 1) (giveS T nb x g1 fl) w5 := by
  have hs := h.fr.size
  have hs4 := hb.size
  have hs5 := hf5.size
  have hd : d < wr.heap.size := h.dk.bound d h.dk.od
  refine ⟨h.cri.give hx hp nb hg hv hk hbs, h5.mono (fun k hk => ?_) (fun k hk => ?_) (Nat.le_refl _), (h.fr.trans (Fr.of_below (O := fun k => k = d) hb) (fun x hx => .inl hx)).trans hf5 (fun x hx => ?_)⟩
  · rcases hk with (hk | ⟨h1, h2⟩) | ⟨h1, h2⟩
    · exact .inl hk
    · exact .inr ⟨h1, by omega⟩
    · exact .inr ⟨by omega, h2⟩
  · rcases hk with hk | ⟨h1, h2⟩
    · have hk' : k = d := hk
      omega
    · exact h2
  · rcases hx with hx | ⟨h1, _⟩
    · exact .inl hx
    · exact .inr h1
theorem CrW.skip {S : PD} {l : List Nm} {ks : List Bool} {us : List Nat} {M d : Nat} {w2 : World} {i : Nat} {T : PD} {wr : World} (h : CrW S l ks us M d w2 i T wr) {x : Nm} (hx : l[i]? = some x) (h0 : pk S ks i x = 0) : CrW S l ks us M d w2 (i + 1) T wr :=
  ⟨h.cri.skip hx h0, h.dk.mono (fun _ hk => hk) h.dk.bound (by omega), h.fr⟩
end Go.Proofs.Ytamhgbkdljggbaa.Dk
