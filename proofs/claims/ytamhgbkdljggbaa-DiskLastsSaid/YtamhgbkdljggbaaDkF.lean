/- Remove, Rename, SyncNames. -/
import Derived.Test.YtamhgbkdljggbaaDkE
namespace Go.Proofs.Ytamhgbkdljggbaa.Dk
open Go.RowKit Go.Maps
set_option linter.unusedVariables false

/-! maps.Clone -/
set_option maxHeartbeats 2000000 in
set_option maxRecDepth 100000 in
theorem clone_some (b : Nat) (es : Array MapEntry) (clock : Nat) (w : World) (hb : w.heap[b]? = some (.map es clock)) :
    Calls Try.prog 27 #[.map (some b)] w fun e w' => e = .returned (.map (some w.heap.size)) ∧ w' = w.alloc (.map es clock) := by
  have he := eqm (some b) w
  go_enter Try.func27, Try.ntmps27
  go_wp2
  rw [run_callFunc_extern Try.func42 (by kernel_rfl) (by kernel_rfl) (by kernel_rfl) (e := Extern.MapsClone.clone) (by kernel_rfl), run_maps_clone_sl w 54 hb]
  simp only [Result.andThen]
  rw [Oper.upon_value]
  go_wp2
  rw [run_typeAssert_map_sl _ 54 20 _ _ _ Try.underlying54]
  simp only [Result.andThen]
  rw [Oper.upon_value]
  go_wp2
  go_ret
  exact ⟨rfl, rfl⟩
theorem clone_none (w : World) : Calls Try.prog 27 #[.map none] w fun e w' => e = .returned (.map none) ∧ w' = w := by
  have he := fun w => eqm none w
  go_enter Try.func27, Try.ntmps27
  go_wp2
  go_ret
  exact ⟨rfl, rfl⟩
/-- the names made sure -/
theorem DK.sures {O : Nat → Prop} {w w' : World} {d M b : Nat} {S : PD} (h : DK O w d M S) (sb : Option Nat) (hsb : sb = none ∧ S.nb = none ∨ sb = some b ∧ w.heap.size ≤ b ∧ b < w'.heap.size) (hs : w.heap.size ≤ w'.heap.size)
    (hk : ∀ k, k < w.heap.size → k ≠ d → w'.heap[k]? = w.heap[k]?)
    (hbox : w'.heap[d]? = some (.cells #[.int .i64 S.room, .map S.nb, .map sb, .int .i64 S.fuse, .bool S.down, .int .i64 S.steps] 56 (0, 0))) (hm : MapP w' sb S.now M) :
    DK (On O w w') w' d M { S with sb := sb, sure := S.now } := by
  have hvd : ∀ x, Vd { S with sb := sb, sure := S.now } x → Vd S x := by
    rintro x ⟨h0, z, hz | hz⟩
    · exact ⟨h0, z, .inl hz⟩
    · exact ⟨h0, z, .inl hz⟩
  have hnow : MapP w' S.nb S.now M := h.now.keep fun c hc => by
    have hm := h.now
    rw [hc] at hm
    obtain ⟨es, clock, hh⟩ := hm.isMap
    exact hk c (Array.getElem?_eq_some_iff.1 hh).1 (fun e => by rw [e, h.box] at hh; cases hh)
  refine ⟨hbox, .inl h.od, hnow, hm, fun c hc => .inl (h.onow c hc), fun c hc => ?_, fun c hc e => ?_, fun g hg => ?_, fun x y hx hy => h.rows x y (hvd x hx) (hvd y hy), fun k hO => ?_⟩
  · rcases hsb with ⟨hsb, _⟩ | ⟨hsb, h1, h2⟩
    · have hc' : sb = some c := hc
      rw [hsb] at hc'; cases hc'
    · have hc' : sb = some c := hc
      rw [hsb] at hc'
      injection hc' with hc'
      subst hc'
      exact .inr ⟨h1, h2⟩
  · have e' : sb = some c := e
    have hc' : S.nb = some c := hc
    rcases hsb with ⟨hsb, _⟩ | ⟨hsb, h1, h2⟩
    · rw [hsb] at e'; cases e'
    · rw [hsb] at e'
      injection e' with e'
      have := h.bound c (h.onow c hc')
      omega
  · refine (h.file g (hvd g hg)).keep (fun k hO ht => hk k (h.bound k hO) (not_map h (.inl rfl) k ht)) (fun k hO => .inl hO) (Nat.le_refl M)
  · rcases hO with hO | hO
    · exact Nat.lt_of_lt_of_le (h.bound k hO) hs
    · exact hO.2

/-! SyncNames -/
def SnP (O : Nat → Prop) (w : World) (d M : Nat) (E : Int) (S1 : PD) (e : Ending) (w' : World) : Prop := e = .returned (.int .i64 E) ∧ (E ≠ 0 → OpP O w d M S1 w') ∧ (E = 0 → ∃ sb, OpP O w d M { S1 with sb := sb, sure := S1.now } w')
set_option maxHeartbeats 1000000 in
theorem syncnames_any (O : Nat → Prop) (d M : Nat) (S : PD) (w : World) (h : DK O w d M S) (hf : I64 S.fuse) :
    Calls Try.prog 10 #[.pointer (some ⟨d, 0, none⟩)] w (SnP O w d M (stepE S) (stepS S)) := by
  have HS := Lib.hid (step_any O d M S w h hf)
  obtain ⟨E, hE⟩ : ∃ E, stepE S = E := ⟨_, rfl⟩
  obtain ⟨S1, hS1⟩ : ∃ S1, stepS S = S1 := ⟨_, rfl⟩
  rw [hE, hS1] at HS
  rw [hE, hS1]
  clear h hf hE hS1
  go_enter Try.func10, Try.ntmps10
  go_wp2_with fail
  refine HS.out.mono ?_
  rintro e w1 ⟨rfl, h1, hf1⟩
  have H1 := Lib.hid h1
  have F1 := Lib.hid hf1
  by_cases hE : E = 0
  case neg =>
    have hb : (E != 0) = true := by simpa using hE
    have HE := Lib.hid hE
    clear hE h1 hf1
    go_wp2_with fail
    go_ret
    exact ⟨rfl, fun _ => OpP.of H1.out F1.out (Nat.le_refl _), fun h0 => absurd h0 HE.out⟩
  subst hE
  obtain ⟨⟨c0, c1, c2, c3, c4, c5⟩, fz⟩ := h1.cells
  have f2 := fz 2
  cases hnb : S1.nb with
  | none =>
    rw [hnb] at c1
    have HC := Lib.hid (clone_none w1)
    have HP := Lib.hid (show OpP O w1 d M { S1 with sb := none, sure := S1.now } (w1.setCell ⟨d, 2, none⟩ (.map none)) from by
      refine ⟨h1.sures (b := 0) none (.inl ⟨rfl, hnb⟩) (by simp) (fun k _ hk => Below.heap_setCell _ _ _ _ hk) (by have := heap_set_at (i := 2) h1.box (.map none); rw [this]; rfl) ?_, Fr.set _ _ _ h1.od⟩
      have hm := h1.now
      rw [hnb] at hm
      exact hm.keep fun b hb => (by cases hb))
    clear h1 hf1 fz hnb
    go_wp2_with fail
    refine HC.out.mono ?_
    rintro e w' ⟨rfl, rfl⟩
    go_wp2_with fail
    go_ret
    exact ⟨rfl, fun h0 => absurd rfl h0, fun _ => ⟨none, OpP.then F1.out HP.out⟩⟩
  | some b =>
    rw [hnb] at c1
    have hm := h1.now
    rw [hnb] at hm
    obtain ⟨es, clock, hh⟩ := hm.isMap
    have hdlt : d < w1.heap.size := h1.bound d h1.od
    have HC := Lib.hid (clone_some b es clock w1 hh)
    obtain ⟨W2, hW2⟩ : ∃ W2, w1.alloc (.map es clock) = W2 := ⟨_, rfl⟩
    obtain ⟨nb, hnb2⟩ : ∃ nb, w1.heap.size = nb := ⟨_, rfl⟩
    have hW2d : W2.heap[d]? = w1.heap[d]? := by rw [← hW2]; exact Below.heap_alloc w1 _ d hdlt
    have hW2n : W2.heap[nb]? = some (.map es clock) := by rw [← hW2, ← hnb2]; exact (MapKept.heap_alloc w1 _).1
    have HP := Lib.hid (show OpP O w1 d M { S1 with sb := some nb, sure := S1.now } (W2.setCell ⟨d, 2, none⟩ (.map (some nb))) from by
      refine ⟨h1.sures (b := nb) (some nb) (.inr ⟨rfl, by omega, by simp; rw [← hW2]; simp; omega⟩) (by simp; rw [← hW2]; simp) (fun k hk hkd => by rw [Below.heap_setCell _ _ _ _ hkd, ← hW2]; exact Below.heap_alloc w1 _ k hk) (by have := heap_set_at (i := 2) (hW2d.trans h1.box) (.map (some nb)); rw [this]; rfl) ?_, ?_⟩
      · rcases hm with ⟨hm, _⟩ | ⟨b', D, e1, hown, hview⟩
        · cases hm
        · injection e1 with e1
          subst e1
          obtain ⟨es', clock', hh', F, hsz, hD⟩ := hown
          rw [hh] at hh'
          injection hh' with hh'
          injection hh' with e1 e2
          subst e1 e2
          refine .inr ⟨nb, D, rfl, ⟨es, clock, ?_, F, hsz, hD⟩, hview⟩
          rw [Below.heap_setCell _ _ _ _ (by simp; omega)]
          exact hW2n
      · exact (Fr.of_below (hW2 ▸ grows w1 _)).trans (Fr.set (O := O) W2 _ _ h1.od) (fun x hx => .inl hx))
    have q2 : W2.cell? ⟨d, 2, none⟩ = some (.map S1.sb) := by rw [cell_of_row _ _ _ _ _ _ (hW2d.trans h1.box)]; rfl
    have f2' : W2.frozen? ⟨d, 2, none⟩ = false := by simp [World.frozen?, hW2d, h1.box]
    rw [hnb2, hW2] at HC
    have HW2 := Lib.hid hW2
    clear h1 hf1 fz hnb hm hh hdlt hW2d hW2n hW2 hnb2
    go_wp2_with fail
    refine HC.out.mono ?_
    rintro e w' ⟨rfl, rfl⟩
    go_wp2_with fail
    go_ret
    exact ⟨rfl, fun h0 => absurd rfl h0, fun _ => ⟨some nb, OpP.then F1.out HP.out⟩⟩

/-! Remove, Rename -/
theorem DK.del {O : Nat → Prop} {w w' : World} {d M b : Nat} {S : PD} (h : DK O w d M S) (hnb : S.nb = some b) (s : Nm) (hm : MapP w' (some b) (putN S.now s 0) M) (hg : w.grownBy w' (some b)) : OpP O w d (M + 1) { S with now := putN S.now s 0 } w' := by
  have hm0 := h.now
  rw [hnb] at hm0
  have hne : d ≠ b := fun e => by
    obtain ⟨es, clock, hh⟩ := hm0.isMap
    rw [← e, h.box] at hh
    cases hh
  have hvd : ∀ x, Vd { S with now := putN S.now s 0 } x → Vd S x := fun x hx => vd_del (nb := S.nb) hx
  refine ⟨h.names (b := b) (S' := { S with now := putN S.now s 0 }) hg.size (.inl hnb) (fun k hk hkd hkb => hg.block k hk (by simpa using fun e => hkb e)) ?_ hnb rfl rfl (hm.mono (Nat.le_succ M)) (fun x hx => h.file x (hvd x hx)) (fun x y hx hy => h.rows x y (hvd x hx) (hvd y hy)), Fr.grown hg (fun c hc => by injection hc with hc; subst hc; exact h.onow _ hnb)⟩
  rw [hg.block d (h.bound d h.od) (by simpa using hne)]
  exact h.box
theorem nb_some {O : Nat → Prop} {w : World} {d M : Nat} {S : PD} (h : DK O w d M S) {s : Nm} (hs : S.now s ≠ 0) : ∃ b, S.nb = some b := by
  rcases h.now with ⟨_, h0⟩ | ⟨b, _, hb, _⟩
  · exact absurd (h0 s) hs
  · exact ⟨b, hb⟩
def remC (E : Int) (S1 : PD) (s : Nm) : Int := if E ≠ 0 then E else if S1.now s = 0 then 3 else 0
def remS (E : Int) (S1 : PD) (s : Nm) : PD := if E ≠ 0 then S1 else if S1.now s = 0 then S1 else { S1 with now := putN S1.now s 0 }
set_option maxHeartbeats 1000000 in
theorem remove_any (O : Nat → Prop) (d M : Nat) (S : PD) (s : ByteArray) (w : World) (h : DK O w d M S) (hs : Ks s) (hf : I64 S.fuse) :
    Calls Try.prog 17 #[.pointer (some ⟨d, 0, none⟩), .string s] w fun e w' => e = .returned (.int .i64 (remC (stepE S) (stepS S) s.data.toList)) ∧ OpP O w d (M + 1) (remS (stepE S) (stepS S) s.data.toList) w' := by
  have HS := Lib.hid (step_any O d M S w h hf)
  have HK := Lib.hid hs
  obtain ⟨E, hE⟩ : ∃ E, stepE S = E := ⟨_, rfl⟩
  obtain ⟨S1, hS1⟩ : ∃ S1, stepS S = S1 := ⟨_, rfl⟩
  rw [hE, hS1] at HS
  rw [hE, hS1]
  obtain ⟨C, hC⟩ : ∃ C, remC E S1 s.data.toList = C := ⟨_, rfl⟩
  obtain ⟨T, hT⟩ : ∃ T, remS E S1 s.data.toList = T := ⟨_, rfl⟩
  rw [hC, hT]
  have HC := Lib.hid hC
  have HT := Lib.hid hT
  unfold remC at HC
  unfold remS at HT
  clear h hs hf hC hT hE hS1
  go_enter Try.func17, Try.ntmps17
  go_wp2_with fail
  refine HS.out.mono ?_
  rintro e w1 ⟨rfl, h1, hf1⟩
  have H1 := Lib.hid h1
  have F1 := Lib.hid hf1
  by_cases hE : E = 0
  case neg =>
    have hb : (E != 0) = true := by simpa using hE
    have hc := HC.out
    have ht := HT.out
    rw [if_pos hE] at hc ht
    subst hc ht
    clear hE h1 hf1
    go_wp2_with fail
    go_ret
    exact ⟨rfl, OpP.of H1.out F1.out (Nat.le_succ _)⟩
  subst hE
  have hc := HC.out
  have ht := HT.out
  rw [if_neg (by simp)] at hc ht
  obtain ⟨⟨c0, c1, c2, c3, c4, c5⟩, _⟩ := h1.cells
  have hlk := h1.now.look HK.out
  obtain ⟨g, hg⟩ : ∃ g, S1.now s.data.toList = g := ⟨_, rfl⟩
  rw [hg] at hlk hc ht
  cases g with
  | zero =>
    rw [if_pos rfl] at hc ht
    subst hc ht
    simp only [ptrV] at hlk
    clear h1 hf1 hg
    go_wp2_with fail
    go_ret
    exact ⟨rfl, OpP.of H1.out F1.out (Nat.le_succ _)⟩
  | succ g =>
    rw [if_neg (by omega)] at hc ht
    subst hc
    obtain ⟨b, hnb⟩ := nb_some h1 (s := s.data.toList) (by rw [hg]; omega)
    have hm := h1.now
    rw [hnb] at hm
    obtain ⟨w2, hrun, hm2, hg2⟩ := hm.drop HK.out 0
    have HP := Lib.hid (h1.del hnb s.data.toList hm2 hg2)
    rw [hnb] at c1 hlk
    have HTT := Lib.hid ht
    simp only [ptrV] at hlk
    clear h1 hf1 hg hnb hm hm2 hg2 ht
    go_wp2_with fail
    go_ret
    exact ⟨rfl, by rw [← HTT.out]; exact OpP.then F1.out HP.out⟩
end Go.Proofs.Ytamhgbkdljggbaa.Dk
