/- The contract of Of. -/
import Derived.Test.YtnbjgeamdipkcaaDoorSpN
import Derived.Laws.MakeOwn
namespace Go.Proofs.YtnbjgeamdipkcaaDoor
open Go.RowKit Go.Sort
set_option linter.unusedVariables false

theorem infoU : (Tryd.prog.info? 39).map (fun i => (i.zero, i.size, i.bytes)) = some (some (.int .u64 0), 1, 8) := by kernel_rfl
/-- make of so many numbers -/
theorem make_int (n : Nat) (hn : n ≤ 1000000) (w : World) : (Instr.makeSlice 54 (.int .i64 (n : Int)) (.int .i64 (n : Int))).run Tryd.prog w = .ok (.slice (some ⟨w.heap.size, 0, none⟩) n n) (w.alloc (.cells (madeCells #[.int .i64 0] n) 3)) := by
  obtain ⟨i0, hi, hz0, hz1, hz2⟩ := info_parts infoI
  have hr := run_make (P := Tryd.prog) w 54 3 i0 (.int .i64 0) Tryd.underlying54 hi hz0 .i64 .i64 n n (by omega) (Int.le_refl _) (by rw [hz2]; omega) (by omega)
  simp only [Int.toNat_natCast, hz1, Nat.mul_one] at hr
  exact hr
theorem made_own (k : IntKind) (t : TypeId) (n : Nat) (hn : n ≤ 1000000) (w : World) (B : Nat) (hB : B ≤ w.heap.size) : (w.alloc (.cells (madeCells #[.int k 0] n) t)).ownsRow B t 1 (.slice (some ⟨w.heap.size, 0, none⟩) n n) n (intsC k (List.replicate n 0)) := by
  have := World.ownsRow_lit (base := B) (size := 1) (e := t) w (madeCells #[.int k 0] n) n hB (by unfold maxLen; omega) (by simp [size_madeCells])
  rw [toList_madeCells_one] at this
  simpa [intsC] using this
/-- the numbers that are laid so far, and zeros -/
def doneL (xs : List Int) (n : Nat) : List Int := xs ++ List.replicate (n - xs.length) 0
theorem doneL_nil (n : Nat) : doneL [] n = List.replicate n 0 := by simp [doneL]
theorem doneL_all (xs : List Int) (n : Nat) (h : xs.length = n) : doneL xs n = xs := by simp [doneL, h]
theorem doneL_set (k : IntKind) (xs : List Int) (n : Nat) (x : Int) (h : xs.length < n) : (intsC k (doneL xs n)).set xs.length (.int k x) = intsC k (doneL (xs ++ [x]) n) := by
  unfold doneL
  rw [intsC_append, List.set_append_right _ _ (by rw [intsC_length]; omega), intsC_length, Nat.sub_self]
  obtain ⟨m, hm⟩ : ∃ m, n - xs.length = m + 1 := ⟨n - xs.length - 1, by omega⟩
  rw [hm, show n - (xs ++ [x]).length = m by simp; omega]
  simp [intsC, List.replicate_succ]
theorem doneL_length (xs : List Int) (n : Nat) (h : xs.length ≤ n) : (doneL xs n).length = n := by simp [doneL]; omega
/-- a cell of a row that is laid one by one -/
theorem done_cell {w : World} {B g n c : Nat} {k : IntKind} {t : TypeId} {xs : List Int} (h : w.ownsRow B t 1 (.slice (some ⟨g, 0, none⟩) n c) n (intsC k (doneL xs n))) (hx : xs.length < n) : w.cell? ⟨g, xs.length, none⟩ = some (.int k 0) ∧ w.frozen? ⟨g, xs.length, none⟩ = false := by
  refine ⟨?_, h.frozenAt _⟩
  rw [h.cellAt xs.length (by omega)]
  refine intsC_at ?_
  unfold doneL
  rw [List.getElem?_append_right (Nat.le_refl _), Nat.sub_self]
  obtain ⟨m, hm⟩ : ∃ m, n - xs.length = m + 1 := ⟨n - xs.length - 1, by omega⟩
  rw [hm, List.replicate_succ]
  rfl
/-- the indices of buckets -/
def idsL (l : List (Int × Int)) : List Int := l.map (·.1)
theorem idsL_take (l : List (Int × Int)) (k : Nat) : idsL (l.take k) = (idsL l).take k := by simp [idsL, List.map_take]
theorem runs_at (A : Option Addr) (n c : Nat) (l : List Int) (w : World) (hn : n = l.length) (hS : Cl w A (intsC .i64 l)) (ha : Asc l) (hi : Inb l) (hl : l.length ≤ 10000) :
    Calls Tryd.prog 20 #[.slice A n c] w (RunsPost w l) := by
  subst hn
  exact runs_any A c l w hS ha hi hl
def OfRel (l : List (Int × Int)) (w : World) (g : Nat) (i : Value) (wr : World) : Prop :=
  ∃ k : Nat, k ≤ l.length ∧ i = .int .i64 k ∧ wr.ownsRow w.heap.size 3 1 (.slice (some ⟨g, 0, none⟩) l.length l.length) l.length (intsC .i64 (doneL ((idsL l).take k) l.length)) ∧
    wr.heap[w.heap.size]? = some (.cells #[.int .i64 0, .slice none 0 0] 29 (0, 0)) ∧ Below w.heap.size w wr
set_option maxHeartbeats 1000000 in
set_option maxRecDepth 100000 in
theorem of_any (A : Option Addr) (c : Nat) (l : List (Int × Int)) (w : World) (hS : Cl w A (twoC .u64 l)) (ha : Asc (idsL l)) (hi : Inb (idsL l)) (hl : l.length ≤ 10000) :
    Calls Tryd.prog 12 #[.slice A l.length c] w (RunsPost w (idsL l)) := by
  have HS := Lib.hid hS
  have HI := Lib.hid (And.intro ha hi)
  have hlen : (idsL l).length = l.length := by simp [idsL]
  have HLEN := Lib.hid hlen
  have hmk := make_int l.length (by omega)
  obtain ⟨g, hg⟩ : ∃ g, w.heap.size + 1 = g := ⟨_, rfl⟩
  obtain ⟨W0, hW0⟩ : ∃ W, (w.alloc (.cells #[.int .i64 0, .slice none 0 0] 29)).alloc (.cells (madeCells #[.int .i64 0] l.length) 3) = W := ⟨_, rfl⟩
  have R0 : Hid (OfRel l w g (.int .i64 0) W0) := by
    refine ⟨0, by omega, rfl, ?_, ?_, ?_⟩
    · have := made_own .i64 3 l.length (by omega) (w.alloc (.cells #[.int .i64 0, .slice none 0 0] 29)) w.heap.size (by simp)
      rw [List.take_zero, doneL_nil, ← hW0, ← hg]
      simpa using this
    · rw [← hW0, Below.heap_alloc _ _ _ (by simp)]; exact heap_alloc_new w _
    · rw [← hW0]; exact ((Below.refl _ _).alloc (Nat.le_refl _) _).alloc (by simp) _
  have hWW := Lib.hid hW0
  have hGG := Lib.hid hg
  clear hS ha hi hlen hg hW0
  go_enter Tryd.func12, Tryd.ntmps12
  go_wp2_with fail
  simp only [hGG.out]
  rw [hWW.out]
  clear hmk
  go_loopw [11] (fun i wr => OfRel l w g i wr) (fun i _ => l.length - (intOf i).toNat)
  case atStart => exact R0.out
  case round =>
    obtain ⟨k, hk, rfl, ho, hbx, hb⟩ := hrel
    have HO := Lib.hid ho
    have HBX := Lib.hid hbx
    have HB := Lib.hid hb
    by_cases hlt : k < l.length
    · obtain ⟨b, off, rfl, hc⟩ := (HS.out.below hb).twos (by omega)
      obtain ⟨p, hp⟩ := getElem?_lt hlt
      obtain ⟨q1, q2⟩ := hc k p hp
      have htl : ((idsL l).take k).length = k := by rw [List.length_take, HLEN.out]; omega
      obtain ⟨d1, d2⟩ := done_cell ho (by rw [htl]; exact hlt)
      have hst := (ho.stored ((idsL l).take k).length (.int .i64 p.1)).1
      rw [doneL_set _ _ _ _ (by rw [htl]; exact hlt), ← take_snoc (idsL l) k p.1 (by simp [idsL, hp])] at hst
      rw [htl] at d1 d2 hst
      have hkg : k < l.length := hlt
      have hgb := (ho.lt g rfl)
      have HNX := Lib.hid (show OfRel l w g (.int .i64 ((k + 1 : Nat) : Int)) ((wr.setCell ⟨g, k, none⟩ (.int .i64 p.1)).alloc (.cells #[.int .i64 p.1, .int .u64 p.2] 41)) from
        ⟨k + 1, hlt, rfl, hst.alloc _, by
          rw [Below.heap_alloc _ _ _ (by have := hb.size; simp; have := (Array.getElem?_eq_some_iff.1 hbx).1; omega), Below.heap_setCell _ _ _ _ (by
            intro e
            have h1 := own_ne ho hbx (by decide)
            exact h1 (by simp [Value.ownBlock]; exact e.symm))]
          exact hbx, (hb.setCell hgb.1 _).alloc (by have := hb.size; simp; omega) _⟩)
      obtain ⟨pi, pc⟩ := p
      simp only at q1 q2 HNX
      have hki : (k : Int) < (l.length : Int) := by omega
      have hglt := hgb.2
      clear hc hp htl hst hgb ho hbx hb
      go_wp2_with fail
      go_roundw
      case rel => exact HNX.out
      case measure => simp [intOf]; omega
    · obtain rfl : k = l.length := by omega
      have hki : ¬ ((l.length : Int) < (l.length : Int)) := by omega
      have hall : doneL ((idsL l).take l.length) l.length = idsL l := by
        rw [List.take_of_length_le (by rw [HLEN.out]; exact Nat.le_refl _)]
        exact doneL_all _ _ HLEN.out
      have hcl := own_cl ho
      rw [hall] at hcl
      have HCL := Lib.hid hcl
      clear hcl hall ho hbx hb HO
      go_wp2_with fail
      refine (runs_at _ _ _ (idsL l) wr HLEN.out.symm HCL.out HI.out.1 HI.out.2 (by rw [HLEN.out]; exact hl)).mono ?_
      rintro e w2 ⟨A2, c2, rfl, hly, hnw, hb2⟩
      have hgw : w.heap.size < wr.heap.size := (Array.getElem?_eq_some_iff.1 HBX.out).1
      obtain ⟨z0, z1, zf⟩ := box2 ((hb2.block w.heap.size hgw).trans HBX.out)
      have zf0 := zf 0
      have zf1 := zf 1
      obtain ⟨F, hF⟩ : ∃ F, fstL (idsL l) = F := ⟨_, rfl⟩
      obtain ⟨M, hM⟩ : ∃ M, (runsL (idsL l)).length = M := ⟨_, rfl⟩
      have HEND := Lib.hid (show RunsPost w (idsL l) (.returned (.agg #[.int .i64 F, .slice A2 M c2])) ((w2.setCell ⟨w.heap.size, 0, none⟩ (.int .i64 F)).setCell ⟨w.heap.size, 1, none⟩ (.slice A2 M c2)) from by
        rw [← hF, ← hM]
        refine ⟨A2, c2, rfl, ?_, hnw.mono HB.out.size, ?_⟩
        · exact Cl.set (Cl.set hly (p := ⟨w.heap.size, 0, none⟩) (fun a ha => by have := hnw a ha; simp; omega) _) (p := ⟨w.heap.size, 1, none⟩) (fun a ha => by have := hnw a ha; simp; omega) _
        · exact ((HB.out.trans (hb2.mono HB.out.size)).setCell (Nat.le_refl _) _).setCell (Nat.le_refl _) _)
      rw [hF, hM]
      clear hly hnw hb2 zf hF hM
      go_wp2_with fail
      exact bodyPost_ret (v := .agg #[.int .i64 F, .slice A2 M c2]) (by simp [results, Tryd.results12, go_sem, z0, z1]) rfl HEND.out
end Go.Proofs.YtnbjgeamdipkcaaDoor
