/- Append and Sync of one name: all stays sure. -/
import Derived.Test.YtamhgbkdljggbaaDqW
namespace Go.Proofs.Ytamhgbkdljggbaa.Dk
open Go.RowKit Go.Maps
set_option linter.unusedVariables false

/-- all bytes of all files are sure; the power is there -/
structure AllK (T1 T : PD) : Prop where
  k : ∀ z, T.now z ≠ 0 → (T.F (T.now z)).k = (T.F (T.now z)).bs.length
  names : ∀ z, T.now z ≠ 0 ↔ T1.now z ≠ 0
  down : T.down = false
  fuse : T.fuse = -1
  room : T.room = 5000
theorem AllK.sync {T1 T T' : PD} {s : Nm} (h : AllK T1 T) (hs : T.now s ≠ 0) (hn : ∀ z, T'.now z = T.now z) (hF : ∀ g, g ≠ T.now s → T'.F g = T.F g) (hd : T'.down = false) (hf : T'.fuse = -1) (hr : T'.room = T.room) : AllK T1 (syncS T' s) := by
  obtain ⟨e1, e2⟩ := step_on hd hf
  have hs' : T'.now s ≠ 0 := by rw [hn]; exact hs
  have e : syncS T' s = { ({ T' with steps := IntKind.i64.wrap (T'.steps + 1) } : PD) with F := putF T'.F (T'.now s) (flSync (T'.F (T'.now s))) } := by
    unfold syncS
    rw [e1, e2]
    simp only [ne_eq, not_true, if_false, hs']
  rw [e]
  refine ⟨fun z hz => ?_, fun z => ?_, hd, hf, hr.trans h.room⟩
  · show (putF T'.F (T'.now s) (flSync (T'.F (T'.now s))) (T'.now z)).k = (putF T'.F (T'.now s) (flSync (T'.F (T'.now s))) (T'.now z)).bs.length
    by_cases hg : T'.now z = T'.now s
    · rw [hg, putF_same]
      rfl
    · rw [putF_other hg, hF _ (by rw [← hn s]; exact hg), hn z]
      exact h.k z (by rw [← hn z]; exact hz)
  · show T'.now z ≠ 0 ↔ _
    rw [hn z]
    exact h.names z
theorem AllK.both {T1 T T' : PD} {s : Nm} {bs : List Nat} {C : Int} (h : AllK T1 T) (hs : T.now s ≠ 0) (h0 : C ≠ 0 → T' = stepS T) (h1 : C = 0 → AppS (stepS T) s bs T') : AllK T1 (syncS T' s) ∧ I64 T'.fuse := by
  obtain ⟨e1, e2⟩ := step_on h.down h.fuse
  by_cases hC : C = 0
  · obtain ⟨⟨g, fl, hg, hn, hF, k1, _⟩, _, hr, hf, _, hd⟩ := h1 hC
    rw [e2] at hn hF k1 hr hf hd
    obtain ⟨rfl, _, _⟩ := k1 hs
    have hn2 : T'.now = T.now := by
      have := putN_id T.now s
      rw [hn]
      exact this
    exact ⟨h.sync hs (fun z => by rw [hn2]) (fun g hg => by rw [hF]; exact putF_other hg) (hd.trans h.down) (hf.trans h.fuse) hr, by rw [hf]; show I64 T.fuse; rw [h.fuse]; exact i64_m1⟩
  · have e := h0 hC
    rw [e2] at e
    subst e
    exact ⟨h.sync hs (fun z => rfl) (fun g hg => rfl) h.down h.fuse rfl, by show I64 T.fuse; rw [h.fuse]; exact i64_m1⟩
end Go.Proofs.Ytamhgbkdljggbaa.Dk
