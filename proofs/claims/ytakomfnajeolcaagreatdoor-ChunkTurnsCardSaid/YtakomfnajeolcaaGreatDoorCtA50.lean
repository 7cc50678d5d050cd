import Derived.Test.YtakomfnajeolcaaGreatDoorCtA49
import Derived.Deep.Slices
import Derived.Test.YtakomfnajeolcaaGreatDoorCards
import Derived.Test.YtakomfnajeolcaaGreatDoorTie
import Derived.SizedLaws
import Derived.LaidMore
import Derived.ShutString
import Derived.ChangeOld
import Derived.Stop.Joined
import Derived.Lib.LaidTab
import Derived.SevenTiedAt
set_option linter.unusedVariables false
/- Samples that come in, opened: what they hold, the room of their buckets, the bounds of their sums. -/
namespace Go.Proofs.YtakomfnajeolcaaGreatDoor.Ch
open Go.ChangeShapes Go.WideShapes Go.RowKit Go.Deep Go.Sort Go.Proofs.YtakomfnajeolcaaGreatDoor.En
set_option linter.unusedVariables false

theorem spot_none' {w : World} {a : Addr} {v : Value} {k : Nat} (h : w.cell? (a.add (0 * k)) = some v) : a = ⟨a.block, a.off, none⟩ := by
  simp [Addr.add] at h
  unfold World.cell? at h
  obtain ⟨b, o, s⟩ := a
  cases s with
  | none => rfl
  | some s =>
    simp only [Option.isSome_some, if_true] at h
    split at h <;> simp at h
theorem list_of' {α : Type} {R : Nat → α → Prop} : ∀ (n : Nat), (∀ i, i < n → ∃ p, R i p) → ∃ l : List α, l.length = n ∧ ∀ j p, l[j]? = some p → R j p := by
  intro n
  induction n with
  | zero => exact fun _ => ⟨[], rfl, by simp⟩
  | succ k ih =>
    intro hi
    obtain ⟨l, hl, hp⟩ := ih (fun i h => hi i (by omega))
    obtain ⟨q, hq⟩ := hi k (by omega)
    refine ⟨l ++ [q], by simp [hl], fun j p hj => ?_⟩
    by_cases hjk : j < l.length
    · rw [List.getElem?_append_left hjk] at hj
      exact hp j p hj
    · rw [List.getElem?_append_right (by omega)] at hj
      obtain ⟨h1, h2⟩ := List.getElem?_eq_some_iff.1 hj
      simp at h1 h2
      obtain rfl : j = k := by omega
      rw [← h2]
      exact hq
section
variable {H : Type} {enc : TypeId × Value → H} {w : World} {spare : Nat → Bool} {held : Bool}
/-- a slice of buckets, opened -/
theorem open_bk {fuel : Nat} {cs : List Value} {x : DataW H × List MemPlace} (h : DataW.trod enc Tryz.prog w 0 spare held fuel 37 cs = some x) : ∃ (A : Option Addr) (l : List (Int × Int)) (c : Nat), cs = [.slice A l.length c] ∧ Bk w A l ∧ l.length ≤ c ∧ c ≤ 9223372036854775807 := by
  rcases open_slice_pairs Tryz.underlying37 Tryz.underlying86 (by kernel_rfl) rfl rfl (by kernel_rfl) (by kernel_rfl) h with ⟨rfl, _⟩ | ⟨a, len, cap, m, n, V0, V1, D0, D1, P0, P1, rfl, _, hlc, hcm, hm, _, hc⟩
  · exact ⟨none, [], 0, rfl, ⟨by simp, by simp, .inl rfl⟩, by simp, by omega⟩
  · have hlm : len ≤ m := by rw [hm]; split <;> omega
    have hi : ∀ i, i < len → ∃ p : Int × Int, V0 i = .int .i64 p.1 ∧ V1 i = .int .u64 p.2 ∧ Wb p := fun i hi => by
      obtain ⟨_, _, t0, t1⟩ := hc i (by omega)
      obtain ⟨x0, e0, _, w0⟩ := DataW.trod_int Tryz.underlying3 t0
      obtain ⟨x1, e1, _, w1⟩ := DataW.trod_int Tryz.underlying36 t1
      simp only [List.cons.injEq, and_true] at e0 e1
      have b0 := bounds_i64 w0
      have b1 := bounds_u64 w1
      exact ⟨(x0, x1), e0, e1, b0.1, b0.2, b1.1, b1.2⟩
    have hw := list_of' len hi
    obtain ⟨l, rfl, hp⟩ := hw
    refine ⟨some a, l, cap, rfl, ⟨by unfold maxLen at hcm; omega, fun p hpm => ?_, ?_⟩, hlc, by unfold maxLen at hcm; omega⟩
    · obtain ⟨j, hj, e⟩ := List.getElem_of_mem hpm
      exact (hp j p (by rw [List.getElem?_eq_getElem hj, e])).2.2
    · by_cases h0 : l.length = 0
      · exact .inl h0
      · have ha := spot_none' (k := 2) (hc 0 (by omega)).1
        obtain ⟨b, o, sp⟩ := a
        simp only [Addr.mk.injEq, true_and] at ha
        subst ha
        refine .inr ⟨b, o, rfl, fun j p hj => ?_⟩
        have hjl := (List.getElem?_eq_some_iff.1 hj).1
        obtain ⟨e0, e1, _⟩ := hp j p hj
        obtain ⟨c0, c1, _, _⟩ := hc j (by omega)
        rw [e0, Tk.addr_add] at c0
        rw [e1, Tk.addr_add] at c1
        exact ⟨c0, by simpa [Nat.add_assoc] using c1⟩
theorem list8 {α : Type} : ∀ {l : List α}, l.length = 8 → ∃ a b c d e f g h, l = [a, b, c, d, e, f, g, h]
  | [a, b, c, d, e, f, g, h], _ => ⟨a, b, c, d, e, f, g, h, rfl⟩
theorem open_hc {fuel : Nat} {cs : List Value} {x : DataW H × List MemPlace} (h8 : cs.length = 8) (hf : DataW.trod enc Tryz.prog w 0 spare held fuel 39 cs = some x) :
    ∃ (h : HV) (A B : Option Addr) (c d : Nat), cs = [.int .i64 h.k, .int .i64 h.s, .int .i64 h.z, .int .u64 h.zc, .int .u64 h.ct, .int .i64 h.sm, .slice A h.P.length c, .slice B h.Q.length d] ∧ Bk w A h.P ∧ Bk w B h.Q ∧ (0 ≤ h.zc ∧ h.zc ≤ 18446744073709551615) ∧ (h.P.length ≤ c ∧ c ≤ 9223372036854775807) ∧ (h.Q.length ≤ d ∧ d ≤ 9223372036854775807) ∧ inI64 h.sm := by
  obtain ⟨v0, v1, v2, v3, v4, v5, v6, v7, rfl⟩ := list8 h8
  obtain ⟨xs, n, _, _, _, hlen, hfs⟩ := DataW.trod_struct Tryz.underlying39 hf
  obtain ⟨y0, y1, y2, y3, y4, y5, y6, y7, rfl⟩ := list8 (by simpa using hlen)
  have g0 := hfs 0 _ rfl
  have g1 := hfs 1 _ rfl
  have g2 := hfs 2 _ rfl
  have g3 := hfs 3 _ rfl
  have g4 := hfs 4 _ rfl
  have g5 := hfs 5 _ rfl
  have g6 := hfs 6 _ rfl
  have g7 := hfs 7 _ rfl
  have cj : Tryz.prog.cellsOf 2 = 1 := by kernel_rfl
  have ci : Tryz.prog.cellsOf 3 = 1 := by kernel_rfl
  have cu : Tryz.prog.cellsOf 36 = 1 := by kernel_rfl
  have cb : Tryz.prog.cellsOf 37 = 1 := by kernel_rfl
  simp [ci, cj, cu, cb] at g0 g1 g2 g3 g4 g5 g6 g7
  obtain ⟨k, e0, _, w0⟩ := DataW.trod_int Tryz.underlying3 g0
  obtain ⟨s, e1, _, w1⟩ := DataW.trod_int Tryz.underlying3 g1
  obtain ⟨z, e2, _, w2⟩ := DataW.trod_int Tryz.underlying3 g2
  obtain ⟨zc, e3, _, w3⟩ := DataW.trod_int Tryz.underlying36 g3
  obtain ⟨ct, e4, _, w4⟩ := DataW.trod_int Tryz.underlying36 g4
  obtain ⟨sm, e5, _, w5⟩ := DataW.trod_int Tryz.underlying2 g5
  obtain ⟨A, P, c, e6, hP, hPc⟩ := open_bk g6
  obtain ⟨B, Q, d, e7, hQ, hQd⟩ := open_bk g7
  simp only [List.cons.injEq, and_true] at e0 e1 e2 e3 e4 e5 e6 e7
  subst e0 e1 e2 e3 e4 e5 e6 e7
  exact ⟨⟨k, s, z, zc, ct, sm, P, Q⟩, A, B, c, d, rfl, hP, hQ, ⟨(bounds_u64 w3).1, (bounds_u64 w3).2⟩, hPc, hQd, bounds_i64 w5⟩
set_option maxRecDepth 100000 in
theorem open_sm {fuel : Nat} {cs : List Value} {x : DataW H × List MemPlace} (h : DataW.trod enc Tryz.prog w 0 spare held fuel 22 cs = some x) :
    ∃ (A : Option Addr) (l : List SV) (c : Nat), cs = [.slice A l.length c] ∧ Sm w A l ∧ Cpd w A l ∧ Sums l ∧ (l.length ≤ c ∧ c ≤ 9223372036854775807) ∧ (l.length = 0 ∨ ∃ elems sp, x.1 = .slice elems sp ∧ elems.length = l.length) := by
  rcases open_slice Tryz.underlying22 h with ⟨rfl, _⟩ | ⟨a, len, cap, m, n, D, Pl, rfl, _, hlc, hcm, hm, hx, hc⟩
  · exact ⟨none, [], 0, rfl, .inl rfl, fun j s h => by simp at h, fun x h => by simp at h, by simp, .inl rfl⟩
  · have hlm : len ≤ m := by rw [hm]; split <;> omega
    have c9 : Tryz.prog.cellsOf 41 = 9 := by kernel_rfl
    have cj : Tryz.prog.cellsOf 2 = 1 := by kernel_rfl
    have ch : Tryz.prog.cellsOf 39 = 8 := by kernel_rfl
    have hi : ∀ i, i < len → ∃ s : SV, ∃ (A B : Option Addr) (c d : Nat), (∀ t v, (smC s A B c d)[t]? = some v → w.cell? ((a.add (i * 9)).add t) = some v) ∧ (En.Sb w s A B ∧ (s.h.P.length ≤ c ∧ c ≤ 9223372036854775807) ∧ (s.h.Q.length ≤ d ∧ d ≤ 9223372036854775807) ∧ inI64 s.h.sm) := fun i hi => by
      obtain ⟨cs', h1, h2⟩ := hc i (by omega)
      rw [c9] at h1
      obtain ⟨_, hlen, hcell⟩ := World.cells?_some h1
      obtain ⟨xs, k, _, _, hl, hlen2, hf⟩ := DataW.trod_struct Tryz.underlying41 h2
      match cs', hlen, xs, hlen2 with
      | [v0, v1, v2, v3, v4, v5, v6, v7, v8], _, [y0, y1], _ =>
        have g0 := hf 0 _ rfl
        have g1 := hf 1 _ rfl
        simp [cj, ch] at g0 g1
        obtain ⟨t, e0, _, _⟩ := DataW.trod_int Tryz.underlying2 g0
        obtain ⟨hh, A, B, c, d, e1, hA, hB, hz, hcx⟩ := open_hc (by simp) g1
        simp only [List.cons.injEq, and_true] at e0 e1
        obtain ⟨f1, f2, f3, f4, f5, f6, f7, f8⟩ := e1
        subst e0 f1 f2 f3 f4 f5 f6 f7 f8
        refine ⟨⟨t, hh⟩, A, B, c, d, fun j v hj => ?_, ⟨hA, hB, hz.1, hz.2⟩, hcx⟩
        have hj9 : j < 9 := (List.getElem?_eq_some_iff.1 hj).1
        rw [hcell j (by omega)]
        exact hj
    obtain ⟨l, hl, hp⟩ := list_of' len hi
    subst hl
    have hsp : l = [] ∨ a = ⟨a.block, a.off, none⟩ := by
      by_cases h0 : l.length = 0
      · exact .inl (List.eq_nil_of_length_eq_zero h0)
      · obtain ⟨A, B, c, d, hp0, _⟩ := hp 0 l[0] (List.getElem?_eq_getElem (by omega))
        have hp0 := hp0 0 _ rfl
        refine .inr (spot_none' (k := 9) (w := w) (by
          have e : (a.add (0 * 9)).add 0 = a.add (0 * 9) := by simp [Addr.add]
          rw [e] at hp0
          exact hp0))
    have hci : ∀ i s, l[i]? = some s → ∃ A B c d, a = ⟨a.block, a.off, none⟩ ∧ (∀ t v, (smC s A B c d)[t]? = some v → w.cell? ⟨a.block, a.off + i * 9 + t, none⟩ = some v) ∧ (En.Sb w s A B ∧ (s.h.P.length ≤ c ∧ c ≤ 9223372036854775807) ∧ (s.h.Q.length ≤ d ∧ d ≤ 9223372036854775807) ∧ inI64 s.h.sm) := fun i s his => by
      obtain ⟨A, B, c, d, h1, h2⟩ := hp i s his
      have ha : a = ⟨a.block, a.off, none⟩ := by
        rcases hsp with h0 | ha
        · rw [h0] at his; simp at his
        · exact ha
      refine ⟨A, B, c, d, ha, fun j v hj => ?_, h2⟩
      have := h1 j v hj
      rw [ha, Tk.addr_add, Tk.addr_add] at this
      exact this
    refine ⟨some a, l, cap, rfl, ?_, fun j s hj => ?_, fun x hx => ?_, ⟨hlc, by unfold maxLen at hcm; omega⟩, .inr ⟨_, _, by rw [hx], by simp⟩⟩
    · rcases hsp with h0 | ha
      · exact .inl h0
      · refine .inr ⟨a.block, a.off, congrArg some ha, fun i s his => ?_⟩
        obtain ⟨A, B, c, d, _, h1, h2⟩ := hci i s his
        exact ⟨A, B, c, d, h1, h2.1⟩
    · obtain ⟨A, B, c, d, ha, h1, h2⟩ := hci j s hj
      exact ⟨a.block, a.off, A, B, c, d, congrArg some ha, h1 7 _ rfl, h1 8 _ rfl, h2.2.1, h2.2.2.1.1, h2.2.2.1.2⟩
    · obtain ⟨j, hj, e⟩ := List.getElem_of_mem hx
      obtain ⟨_, _, _, _, _, _, h2⟩ := hci j x (by rw [List.getElem?_eq_getElem hj, e])
      exact h2.2.2.2
end
end Go.Proofs.YtakomfnajeolcaaGreatDoor.Ch


/-
  For every two slices of samples and every uint8 the law ChunkTurns returns true and leaves its arguments as they were, where the variable classes of package bits reads as its initialiser lays it; the card ties that to the program's text.
-/
namespace Go.Proofs.YtakomfnajeolcaaGreatDoor.chunkTurns
open Go.ChangeShapes Go.WideShapes Go.ChangeAt Go.RowKit
set_option linter.unusedVariables false

theorem own : ownKnob Tryz.prog.godebug = none := by kernel_rfl
theorem laidOut : laidOutB Tryz.prog = true := by kernel_rfl
theorem gTab : Tryz.prog.globalNamed "pluvial/bits.classes" = some 0 := by kernel_rfl
theorem tTab : (Tryz.prog.globals[0]?).map (·.type) = some 109 := by kernel_rfl
theorem bytesS : Tryz.prog.bytesOf 41 = 104 := by kernel_rfl
theorem cellsE : Tryz.prog.cellsOf 3 = 1 := by kernel_rfl
theorem cellsT : Tryz.prog.cellsOf 109 = 7 := by kernel_rfl

/-- the door's own heap meets the condition -/
theorem door_met (os : Os) (args : Array Value) : laidMetH Tryz.prog Rows.chunkTurnsRow.laid ((World.doorLaid Tryz.prog 400 os).forCall (fun _ _ => 0) ⟨#[], args, []⟩).memory :=
  laidMetH_of_parts3 (fuel := 8) (laidMet_of_run' 8 (by kernel_rfl) (by kernel_rfl)) (by kernel_rfl) (by kernel_rfl)

/-- what the condition gives the walk: the table's cells -/
theorem of_laid {W : World} (h : laidMetH Tryz.prog Rows.chunkTurnsRow.laid W) : Tk.Tab W := by
  rw [MakeChecks.laidMetH_plain _ _ _ (by kernel_rfl)] at h
  have hT : Lib.TabIs Tryz.prog W "pluvial/bits.classes" .i64 [0, 3, 7, 12, 20, 32, 64] :=
    Lib.tabIs_of_head gTab tTab Tryz.underlying109 Tryz.underlying3 cellsE cellsT h
  have c : ∀ i (hi : i < 7), W.cell? ⟨0, i, none⟩ = some (.int .i64 ([0, 3, 7, 12, 20, 32, 64].getD i 0)) := fun i hi => hT.cell gTab i hi
  exact ⟨c 0 (by decide), c 1 (by decide), c 2 (by decide), c 3 (by decide), c 4 (by decide), c 5 (by decide), c 6 (by decide)⟩

set_option maxRecDepth 100000 in
theorem lifted (os : Os) (started : os.Started) (H : Type) (enc : TypeId × Value → H) :
    ReturnsInHanded {} Tryz.checked os 6 .any (fun w args => (Rows.chunkTurnsSpec.pre enc Tryz.prog Tryz.f6 [] false w args ∧ laidMetH Tryz.prog Rows.chunkTurnsRow.laid w) ∧ sizedMet enc Tryz.prog Tryz.f6 (OpenSpec.ofChange Rows.chunkTurnsSpec) false w args)
      (Rows.chunkTurnsSpec.post enc Tryz.prog Tryz.f6 false true false false) := by
  refine returnsInHanded_of_change_and (C := Tryz.checked) (X := fun w _ => laidMetH Tryz.prog Rows.chunkTurnsRow.laid w) (fun _ _ _ hh h => h.of_heap hh) own started (by kernel_rfl) Tryz.func6
    (ChangeSpec.witness_shaped (enc := enc) (C := Tryz.checked) (os := os) (X := fun w _ => laidMetH Tryz.prog Rows.chunkTurnsRow.laid w) false (World.doorLaid Tryz.prog 400 os) #[.slice none 0 0, .slice none 0 0, .int .u8 0] 8 rfl (World.shaped_of_RefB (by kernel_rfl) (by kernel_rfl)) (by kernel_rfl) (by kernel_rfl) (by kernel_rfl) (door_met os _)) ?_
  intro W base args ds gs before hval0 hW _ hsz0 hL _
  have hsz : (DataW.weightsEach Tryz.prog (Tryz.f6.params.toList ++ Rows.chunkTurnsSpec.plain.varTypes Tryz.prog) (ds ++ gs)).all (· ≤ reachBytes) = true := hsz0
  clear hsz0
  have hval : ∀ (j : Nat) t v, Tryz.f6.params[j]? = some t → args[j]? = some v → Value.okWide Tryz.prog W .any base t v := hval0
  have hW' := hW
  obtain ⟨p, q, hA0, hV, rfl, hfz, hnd⟩ := hW
  have hA : DataW.TrodAll enc Tryz.prog W 0 (fun _ => true) true Tryz.f6.params.toList args.toList ds p := hA0
  rw [Tryz.params6] at hA hval hsz
  obtain ⟨v0, vs0, d0, ds0, p0, q0, hargs, rfl, rfl, h0, r0⟩ := trodAll_cons hA
  obtain ⟨v1, vs1, d1, ds1, p1, q1, rfl, rfl, rfl, h1, r1⟩ := trodAll_cons r0
  obtain ⟨v2, vs2, d2, ds2, p2, q2, rfl, rfl, rfl, h2, r2⟩ := trodAll_cons r1
  obtain ⟨rfl, rfl, rfl⟩ := trodAll_nil r2
  obtain rfl : args = #[v0, v1, v2] := by cases args; simp_all
  obtain ⟨rfl, rfl⟩ := trodVars_none hV
  have k0 := h0
  have lt0 : ∀ x ∈ p0, x.block < W.heap.size := by obtain ⟨m, hm⟩ := k0; exact DataW.trod_lt m _ _ _ hm
  obtain ⟨a0, len0, cap0, rfl⟩ := okWide_slice Tryz.underlying22 (hval 0 22 v0 rfl rfl)
  obtain ⟨l0, s0⟩ : ∃ l : List En.SV, Ch.ArgS W a0 len0 cap0 l := by
    obtain ⟨fuel, hf⟩ := h0
    obtain ⟨A, l, c, hcs, hS, hC, hM, hlc, hx⟩ := Ch.open_sm hf
    simp [Value.cells] at hcs
    obtain ⟨rfl, rfl, rfl⟩ := hcs
    refine ⟨l, rfl, ?_, hlc, hS, hC, hM⟩
    rcases hx with h | ⟨elems, sp, hx, he⟩
    · omega
    · have hx' : d0 = .slice elems sp := hx
      have hs := sized_slice hsz (j := 0) (t := 22) (e := 41) (elems := elems) (spare := sp) rfl (by simp [hx']) Tryz.underlying22
      rw [bytesS] at hs
      simp only [reachBytes] at hs
      omega
  have k1 := h1
  have lt1 : ∀ x ∈ p1, x.block < W.heap.size := by obtain ⟨m, hm⟩ := k1; exact DataW.trod_lt m _ _ _ hm
  obtain ⟨a1, len1, cap1, rfl⟩ := okWide_slice Tryz.underlying22 (hval 1 22 v1 rfl rfl)
  obtain ⟨l1, s1⟩ : ∃ l : List En.SV, Ch.ArgS W a1 len1 cap1 l := by
    obtain ⟨fuel, hf⟩ := h1
    obtain ⟨A, l, c, hcs, hS, hC, hM, hlc, hx⟩ := Ch.open_sm hf
    simp [Value.cells] at hcs
    obtain ⟨rfl, rfl, rfl⟩ := hcs
    refine ⟨l, rfl, ?_, hlc, hS, hC, hM⟩
    rcases hx with h | ⟨elems, sp, hx, he⟩
    · omega
    · have hx' : d1 = .slice elems sp := hx
      have hs := sized_slice hsz (j := 1) (t := 22) (e := 41) (elems := elems) (spare := sp) rfl (by simp [hx']) Tryz.underlying22
      rw [bytesS] at hs
      simp only [reachBytes] at hs
      omega
  obtain ⟨a2, rfl, rfl, rfl, w2⟩ := open_int Tryz.underlying5 (hval 2 5 v2 rfl rfl) h2
  have hT := of_laid hL
  have hb2 : 0 ≤ a2 ∧ a2 ≤ 255 := bounds_u8 w2
  clear hA0 hval0
  have hmain : Calls Tryz.prog 6 #[.slice a0 len0 cap0, .slice a1 len1 cap1, .int .u8 a2] W fun e W' => e = .returned (.bool true) ∧ Below W.heap.size W W' := by
    have h := Ch.turns_main a0 a1 len0 cap0 len1 cap1 l0 l1 a2.toNat W s0 s1 (by omega) hT
    rwa [Int.toNat_of_nonneg hb2.1] at h
  refine hmain.mono fun e W' ⟨he, bel⟩ => ?_
  subst he
  exact ⟨_, rfl, _, _, _, [], _, [], hW', trodAll_mk1 (shut_bool Tryz.underlying4 _), (trodAll_cons_mk (Below.trod laidOut (by kernel_rfl) (of_decide_eq_true (by kernel_rfl)) k0 bel lt0) (trodAll_cons_mk (Below.trod laidOut (by kernel_rfl) (of_decide_eq_true (by kernel_rfl)) k1 bel lt1) (trodAll_cons_mk (shut_int Tryz.underlying5 w2) trodAll_mk0))), rfl, bel.frame _, fun h => by cases h⟩

/-- the row's closed facts, each reckoned by itself: together they want more memory than a build has -/
theorem f_inPlace : (Rows.chunkTurnsRow.inPlace == Tryz.pinned.checked.prog.inPlace 6) = true := by kernel_rfl
theorem f_unfollowed : (Rows.chunkTurnsRow.unfollowed == Tryz.pinned.checked.prog.unfollowed 6) = true := by kernel_rfl
theorem f_recurses : (Rows.chunkTurnsRow.recurses == Tryz.pinned.checked.prog.recurses 6) = true := by kernel_rfl
theorem f_named : (Rows.chunkTurnsRow.named == Tryz.pinned.checked.prog.varsNamed 6) = true := by kernel_rfl
theorem f_closed : joinedFacts Tryz.pinned.checked.prog 6 Tryz.f6 Rows.chunkTurnsSpec Rows.chunkTurnsRow = true := by
  unfold joinedFacts
  rw [f_inPlace, f_unfollowed, f_recurses, f_named]
  kernel_rfl

theorem row_holds : Rows.ChunkTurnsSaid :=
  OpenClaim.holds_of_wide 6 Tryz.f6 rfl rfl rfl rfl rfl rfl rfl ⟨rfl, rfl, rfl, rfl, rfl⟩ rfl rfl rfl rfl rfl (by kernel_rfl) Tryz.func6 f_closed
    (of_decide_eq_true (by kernel_rfl)) (by unfold Func.isWrapper; first | (rw [if_pos (by decide +kernel)]; kernel_rfl) | (rw [if_neg (by decide +kernel)]; exact ⟨rfl, rfl⟩))
    (fun os started H enc _ => lifted os started H enc)

theorem c_main : Tryz.pinned.checked.prog.mainIs = some (Rows.chunkTurnsCard.stood.harness.1, Rows.chunkTurnsCard.stood.harness.2.toList) := by kernel_rfl
theorem c_named : Tryz.prog.funcNamed "pluvial/pluviallaw09.ChunkTurns" = some 6 := by kernel_rfl
theorem c_looks : false = Tryz.pinned.checked.prog.looks [] := by kernel_rfl
theorem c_goes : false = Rows.chunkTurnsRow.goesBy Tryz.pinned.checked.prog := by kernel_rfl
theorem c_wants : ([22, 22, 5].all fun u => !Tryz.prog.wantsStandIn u) = true := by kernel_rfl
theorem c_text : Rows.chunkTurnsRow.wfByText (OpenSpec.ofChange Rows.chunkTurnsSpec) = true := by kernel_rfl

theorem proved : Rows.ChunkTurnsCardSaid :=
  Claim7.holds_tied_plain_at .later [] [.data] true Rows.chunkTurnsCard.stood.harness false
    row_holds (fun _ h => by cases h) c_text (fun _ h => by cases h) chunkTurns_row_tie rfl ⟨rfl, rfl⟩ c_main rfl
    (fun f fn hf hfn => by
      obtain rfl : f = 6 := Option.some.inj (c_named.symm.trans hf) |>.symm
      obtain rfl : fn = Tryz.f6 := (Option.some.inj (Tryz.func6.symm.trans hfn)).symm
      exact ⟨c_looks, fun j t ht => by
        rw [Tryz.params6] at ht
        have hm : t ∈ [22, 22, 5] := by simpa using Array.mem_of_getElem? ht
        exact (show Tryz.prog.wantsStandIn t = false by simpa using List.all_eq_true.1 c_wants t hm)⟩)
    c_goes
#print axioms proved
end Go.Proofs.YtakomfnajeolcaaGreatDoor.chunkTurns
