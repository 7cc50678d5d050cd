/-
  For all slices of samples and every uint8 the law EntryRising returns true and leaves its arguments as they were, where the variable classes of package bits reads as its initialiser lays it; the card ties that to the program's text.
-/
import Derived.Test.YtjnienlidmmhdaaGreatDoorRows
import Derived.Test.YtjnienlidmmhdaaGreatDoorCards
import Derived.Test.YtjnienlidmmhdaaGreatDoorTie
import Derived.Test.YtjnienlidmmhdaaGreatDoorErJ
import Derived.SizedLaws
import Derived.WalkKit
import Derived.ProofKit
import Derived.LaidMore
import Derived.OpenShut
import Derived.ShutString
import Derived.ChangeOld
import Derived.Below
import Derived.Stop.Joined
import Derived.Lib.LaidTab
import Derived.SevenTiedAt
namespace Go.Proofs.YtjnienlidmmhdaaGreatDoor.entryRising
open Go.ChangeShapes Go.WideShapes Go.ChangeAt Go.RowKit
set_option linter.unusedVariables false

theorem own : ownKnob Tryz.prog.godebug = none := by kernel_rfl
theorem laidOut : laidOutB Tryz.prog = true := by kernel_rfl
theorem gTab : Tryz.prog.globalNamed "pluvial/bits.classes" = some 0 := by kernel_rfl
theorem tTab : (Tryz.prog.globals[0]?).map (·.type) = some 184 := by kernel_rfl
theorem bytesS : Tryz.prog.bytesOf 41 = 104 := by kernel_rfl
theorem cellsE : Tryz.prog.cellsOf 3 = 1 := by kernel_rfl
theorem cellsT : Tryz.prog.cellsOf 184 = 7 := by kernel_rfl

/-- the door's own heap meets the condition -/
theorem door_met (os : Os) (args : Array Value) : laidMetH Tryz.prog Rows.entryRisingRow.laid ((World.doorLaid Tryz.prog 400 os).forCall (fun _ _ => 0) ⟨#[], args, []⟩).memory :=
  laidMetH_of_parts3 (fuel := 8) (laidMet_of_run' 8 (by kernel_rfl) (by kernel_rfl)) (by kernel_rfl) (by kernel_rfl)

/-- what the condition gives the walk: the table's cells -/
theorem of_laid {W : World} (h : laidMetH Tryz.prog Rows.entryRisingRow.laid W) : Tk.Tab W := by
  rw [MakeChecks.laidMetH_plain _ _ _ (by kernel_rfl)] at h
  have hT : Lib.TabIs Tryz.prog W "pluvial/bits.classes" .i64 [0, 3, 7, 12, 20, 32, 64] :=
    Lib.tabIs_of_head gTab tTab Tryz.underlying184 Tryz.underlying3 cellsE cellsT h
  have c : ∀ i (hi : i < 7), W.cell? ⟨0, i, none⟩ = some (.int .i64 ([0, 3, 7, 12, 20, 32, 64].getD i 0)) := fun i hi => hT.cell gTab i hi
  exact ⟨c 0 (by decide), c 1 (by decide), c 2 (by decide), c 3 (by decide), c 4 (by decide), c 5 (by decide), c 6 (by decide)⟩

set_option maxRecDepth 100000 in
theorem lifted (os : Os) (started : os.Started) (H : Type) (enc : TypeId × Value → H) :
    ReturnsInHanded {} Tryz.checked os 12 .any (fun w args => (Rows.entryRisingSpec.pre enc Tryz.prog Tryz.f12 [] false w args ∧ laidMetH Tryz.prog Rows.entryRisingRow.laid w) ∧ sizedMet enc Tryz.prog Tryz.f12 (OpenSpec.ofChange Rows.entryRisingSpec) false w args)
      (Rows.entryRisingSpec.post enc Tryz.prog Tryz.f12 false true false false) := by
  refine returnsInHanded_of_change_and (C := Tryz.checked) (X := fun w _ => laidMetH Tryz.prog Rows.entryRisingRow.laid w) (fun _ _ _ hh h => h.of_heap hh) own started (by kernel_rfl) Tryz.func12
    (ChangeSpec.witness_shaped (enc := enc) (C := Tryz.checked) (os := os) (X := fun w _ => laidMetH Tryz.prog Rows.entryRisingRow.laid w) false (World.doorLaid Tryz.prog 400 os) #[.slice none 0 0, .int .u8 0] 8 rfl (World.shaped_of_RefB (by kernel_rfl) (by kernel_rfl)) (by kernel_rfl) (by kernel_rfl) (by kernel_rfl) (door_met os _)) ?_
  intro W base args ds gs before hval0 hW _ hsz0 hL _
  have hsz : (DataW.weightsEach Tryz.prog (Tryz.f12.params.toList ++ Rows.entryRisingSpec.plain.varTypes Tryz.prog) (ds ++ gs)).all (· ≤ reachBytes) = true := hsz0
  clear hsz0
  have hval : ∀ (j : Nat) t v, Tryz.f12.params[j]? = some t → args[j]? = some v → Value.okWide Tryz.prog W .any base t v := hval0
  have hW' := hW
  obtain ⟨p, q, hA0, hV, rfl, hfz, hnd⟩ := hW
  have hA : DataW.TrodAll enc Tryz.prog W 0 (fun _ => true) true Tryz.f12.params.toList args.toList ds p := hA0
  rw [Tryz.params12] at hA hval hsz
  obtain ⟨v0, vs0, d0, ds0, p0, q0, hargs, rfl, rfl, h0, r0⟩ := trodAll_cons hA
  obtain ⟨v1, vs1, d1, ds1, p1, q1, rfl, rfl, rfl, h1, r1⟩ := trodAll_cons r0
  obtain ⟨rfl, rfl, rfl⟩ := trodAll_nil r1
  obtain rfl : args = #[v0, v1] := by cases args; simp_all
  obtain ⟨rfl, rfl⟩ := trodVars_none hV
  have k0 := h0
  have lt0 : ∀ x ∈ p0, x.block < W.heap.size := by obtain ⟨m, hm⟩ := k0; exact DataW.trod_lt m _ _ _ hm
  obtain ⟨a0, len0, cap0, rfl⟩ := okWide_slice Tryz.underlying22 (hval 0 22 v0 rfl rfl)
  obtain ⟨l0, e0, w0, s0, c0, z0, n0⟩ : ∃ l : List En.SV, len0 = l.length ∧ (l = [] ∨ ∃ b o, a0 = some ⟨b, o, none⟩) ∧ En.Sm W a0 l ∧ l.length ≤ cap0 ∧ (a0 = none → cap0 = 0) ∧ l.length ≤ 1500000000000 := by
    obtain ⟨fuel, hf⟩ := h0
    obtain ⟨A, l, c, hcs, hsp, hS, hlc, hz, hx⟩ := En.open_sm hf
    simp [Value.cells] at hcs
    obtain ⟨rfl, rfl, rfl⟩ := hcs
    refine ⟨l, rfl, hsp, hS, hlc, hz, ?_⟩
    rcases hx with h | ⟨elems, sp, hx, he⟩
    · omega
    · have hx' : d0 = .slice elems sp := hx
      have hs := sized_slice hsz (j := 0) (t := 22) (e := 41) (elems := elems) (spare := sp) rfl (by simp [hx']) Tryz.underlying22
      rw [bytesS] at hs
      simp only [reachBytes] at hs
      omega
  obtain ⟨a1, rfl, rfl, rfl, w1⟩ := open_int Tryz.underlying5 (hval 1 5 v1 rfl rfl) h1
  have hT := of_laid hL
  have hb1 : 0 ≤ a1 ∧ a1 ≤ 255 := bounds_u8 w1
  clear hA0 hval0
  have hmain : Calls Tryz.prog 12 #[.slice a0 len0 cap0, .int .u8 a1] W fun e W' => e = .returned (.bool true) ∧ Below W.heap.size W W' := by
    rcases w0 with rfl | ⟨b, o, rfl⟩
    · rw [e0]
      exact En.rising_zero a0 cap0 a1 W z0 hb1.1 hb1.2 hT
    · exact En.rising_main b o len0 cap0 l0 a1 W e0 (by omega) (by omega) s0 hb1.1 hb1.2 hT
  refine hmain.mono fun e W' ⟨he, bel⟩ => ?_
  subst he
  exact ⟨_, rfl, _, _, _, [], _, [], hW', trodAll_mk1 (shut_bool Tryz.underlying4 _), (trodAll_cons_mk (Below.trod laidOut (by kernel_rfl) (of_decide_eq_true (by kernel_rfl)) k0 bel lt0) (trodAll_cons_mk (shut_int Tryz.underlying5 w1) trodAll_mk0)), rfl, bel.frame _, fun h => by cases h⟩

/-- the row's closed facts, each reckoned by itself: together they want more memory than a build has -/
theorem f_inPlace : (Rows.entryRisingRow.inPlace == Tryz.pinned.checked.prog.inPlace 12) = true := by kernel_rfl
theorem f_unfollowed : (Rows.entryRisingRow.unfollowed == Tryz.pinned.checked.prog.unfollowed 12) = true := by kernel_rfl
theorem f_recurses : (Rows.entryRisingRow.recurses == Tryz.pinned.checked.prog.recurses 12) = true := by kernel_rfl
theorem f_named : (Rows.entryRisingRow.named == Tryz.pinned.checked.prog.varsNamed 12) = true := by kernel_rfl
theorem f_closed : joinedFacts Tryz.pinned.checked.prog 12 Tryz.f12 Rows.entryRisingSpec Rows.entryRisingRow = true := by
  unfold joinedFacts
  rw [f_inPlace, f_unfollowed, f_recurses, f_named]
  kernel_rfl

theorem row_holds : Rows.EntryRisingSaid :=
  OpenClaim.holds_of_wide 12 Tryz.f12 rfl rfl rfl rfl rfl rfl rfl ⟨rfl, rfl, rfl, rfl, rfl⟩ rfl rfl rfl rfl rfl (by kernel_rfl) Tryz.func12 f_closed
    (of_decide_eq_true (by kernel_rfl)) (by unfold Func.isWrapper; first | (rw [if_pos (by decide +kernel)]; kernel_rfl) | (rw [if_neg (by decide +kernel)]; exact ⟨rfl, rfl⟩))
    (fun os started H enc _ => lifted os started H enc)

theorem c_main : Tryz.pinned.checked.prog.mainIs = some (Rows.entryRisingCard.stood.harness.1, Rows.entryRisingCard.stood.harness.2.toList) := by kernel_rfl
theorem c_named : Tryz.prog.funcNamed "pluvial/pluviallaw15.EntryRising" = some 12 := by kernel_rfl
theorem c_looks : false = Tryz.pinned.checked.prog.looks [] := by kernel_rfl
theorem c_goes : false = Rows.entryRisingRow.goesBy Tryz.pinned.checked.prog := by kernel_rfl
theorem c_wants : ([22, 5].all fun u => !Tryz.prog.wantsStandIn u) = true := by kernel_rfl
theorem c_text : Rows.entryRisingRow.wfByText (OpenSpec.ofChange Rows.entryRisingSpec) = true := by kernel_rfl

theorem proved : Rows.EntryRisingCardSaid :=
  Claim7.holds_tied_plain_at .later [] [.data] true Rows.entryRisingCard.stood.harness false
    row_holds (fun _ h => by cases h) c_text (fun _ h => by cases h) entryRising_row_tie rfl ⟨rfl, rfl⟩ c_main rfl
    (fun f fn hf hfn => by
      obtain rfl : f = 12 := Option.some.inj (c_named.symm.trans hf) |>.symm
      obtain rfl : fn = Tryz.f12 := (Option.some.inj (Tryz.func12.symm.trans hfn)).symm
      exact ⟨c_looks, fun j t ht => by
        rw [Tryz.params12] at ht
        have hm : t ∈ [22, 5] := by simpa using Array.mem_of_getElem? ht
        exact (show Tryz.prog.wantsStandIn t = false by simpa using List.all_eq_true.1 c_wants t hm)⟩)
    c_goes
#print axioms proved
end Go.Proofs.YtjnienlidmmhdaaGreatDoor.entryRising
