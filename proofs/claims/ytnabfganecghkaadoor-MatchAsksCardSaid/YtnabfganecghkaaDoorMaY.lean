/- A selector's matchers, told back; the document's Print. -/
import Derived.Test.YtnabfganecghkaaDoorMaX
namespace Go.Proofs.YtnabfganecghkaaDoor
open Go.RowKit Go.Sort
set_option linter.unusedVariables false

set_option maxHeartbeats 4000000 in
set_option maxRecDepth 100000 in
theorem matchers_any (g : Nat) (ms : List Mt) (w : World) (hs : Sel w g ms) (hw : Wm ms) :
    Calls Tryd.prog 15 #[.pointer (some ⟨g, 0, none⟩)] w (ToP ms w) := by
  obtain ⟨B, d, rs, h1, h2, h3, h4, h5, h6⟩ := hs
  obtain ⟨N, hN⟩ : ∃ N, ms.length = N := ⟨_, rfl⟩
  have hrs : rs.length = N := by rw [← hN, ← h2, List.length_map]
  have HN := Lib.hid hN
  rw [hN] at h1
  have R0 := Lib.hid (show ToRel w ms (.slice none 0 0) (.int .i64 ((0 : Nat) : Int)) w from ⟨0, 0, none, rfl, rfl, by omega, World.ownsRow_nil _ _ _ _, Below.refl _ _⟩)
  have H2 := Lib.hid h2
  have H3 := Lib.hid h3
  have HRS := Lib.hid hrs
  have HW := Lib.hid hw
  have hN16 : N ≤ 16 := by omega
  clear h2 h3 h4 h5 hrs hN h6 hw
  go_enter Tryd.func15, Tryd.ntmps15
  go_wp2_with fail
  go_loopw [3, 13] (fun v3 v13 wr => Hid (ToRel w ms v3 v13 wr)) (fun _ v13 _ => N - (intOf v13).toNat)
  case atStart => exact R0
  case round =>
    clear R0
    obtain ⟨i, c1, A1, rfl, rfl, hi, hown, hb⟩ := hrel.out
    clear hrel
    have HOWN := Lib.hid hown
    have HB := Lib.hid hb
    by_cases hlt : i < N
    · have hki : (i : Int) < (N : Int) := by omega
      have hi16 : i ≤ 16 := by omega
      obtain ⟨r, hr⟩ : ∃ r, rs[i]? = some r := ⟨_, List.getElem?_eq_getElem (by rw [HRS.out]; exact hlt)⟩
      have hm : ms[i]? = some r.m := by rw [← H2.out, List.getElem?_map, hr]; rfl
      obtain ⟨b, off, hB, hc⟩ := H3.out.some_ (by rw [reC_length, HRS.out]; omega)
      subst hB
      have hcell : ∀ j u, j < 7 → (reE r)[j]? = some u → wr.cell? ⟨b, off + (i * 7 + j), none⟩ = some u := fun j u hj hu => cell_below (hc (i * 7 + j) u (by rw [reC_at hr hj]; exact hu)) hb
      have q0 := hcell 0 _ (by omega) rfl
      have q1 := hcell 1 _ (by omega) rfl
      have q2 := hcell 2 _ (by omega) rfl
      have q3 := hcell 3 _ (by omega) rfl
      have q4 := hcell 4 _ (by omega) rfl
      have q5 := hcell 5 _ (by omega) rfl
      have q6 := hcell 6 _ (by omega) rfl
      simp only [Nat.add_zero, ← Nat.add_assoc] at q0 q1 q2 q3 q4 q5 q6
      have HMI := Lib.hid (Lb.take_snoc _ _ _ hm)
      obtain ⟨⟨nm, op, vl⟩, A2, n2, c2, f, l, e⟩ := r
      obtain ⟨W5, hW5⟩ : ∃ W5, wr.alloc (.cells #[.string nm, .int .i64 op, .string vl, .slice A2 n2 c2, .int .u64 ((f : Nat) : Int), .int .u64 ((l : Nat) : Int), .bool e] 54 (0, 0)) = W5 := ⟨_, rfl⟩
      obtain ⟨g5, hg5⟩ : ∃ g5, wr.heap.size = g5 := ⟨_, rfl⟩
      obtain ⟨W6, hW6⟩ : ∃ W6, W5.alloc (.cells #[.string nm, .int .i64 op, .string vl] 40 (0, 0)) = W6 := ⟨_, rfl⟩
      obtain ⟨g6, hg6⟩ : ∃ g6, W5.heap.size = g6 := ⟨_, rfl⟩
      have b5 : Below wr.heap.size wr W5 := hW5 ▸ (Below.refl _ _).alloc (Nat.le_refl _) _
      have b6 : Below W5.heap.size W5 W6 := hW6 ▸ (Below.refl _ _).alloc (Nat.le_refl _) _
      have X5 := Lib.hid (show B7 W5 g5 nm op vl A2 n2 c2 f l e from hg5 ▸ hW5 ▸ B7.new wr _ _ _ _ _ _ _ _ _)
      have O6 := Lib.hid (own_below (own_below HOWN.out b5) b6)
      have B6 := Lib.hid (HB.out.trans ((b5.trans (b6.mono b5.size)).mono HB.out.size))
      have HY := Lib.hid (new_m3 hg6 hW6)
      obtain ⟨⟨p0, p1, p2, p3, p4, p5, p6⟩, _⟩ := X5.out.cells
      have HLT := Lib.hid hlt
      clear hown hb hc hcell hm hr b5 b6 hlt hi
      simp only at q0 q1 q2 q3 q4 q5 q6
      go_wp2_with (at_builtin; refine app_mt rfl _ _ rfl w.heap.size A1 i c1 (ms.take i) rfl O6.out g6 rfl ⟨nm, op, vl⟩ HY.out (by have := HLT.out; omega) B6.out.size ?_; intro A7 c7 w7 ho7 hg7; have HO7 := Lib.hid ho7; have HB7 := Lib.hid (B6.out.grown hg7 B6.out.size (fun k hk => (O6.out.lt k hk).1)); clear ho7 hg7)
      clear hW5 hg5 hW6 hg6
      go_roundw
      case rel => exact Lib.hid ⟨i + 1, c7, A7, rfl, by go_num, by have := HLT.out; have := HN.out; omega, by rw [HMI.out]; exact HO7.out, HB7.out⟩
      case measure => simp [intOf]; have := HLT.out; omega
    · obtain rfl : i = N := by have := HN.out; omega
      have hki : ¬ ((i : Nat) : Int) < (i : Int) := by omega
      clear hown hb
      go_wp2_with fail
      go_ret
      refine ⟨A1, c1, by rw [HN.out]; rfl, ⟨by rw [HN.out]; omega, HW.out, ?_⟩, HB.out⟩
      have := own_cl HOWN.out
      rw [List.take_of_length_le (by have := HN.out; omega)] at this
      exact this
theorem prT_le : ∀ (l : List Mt) (k : Nat), (prT (l.take k)).length ≤ (prT l).length
  | [], k => by simp
  | a :: r, 0 => by simp [prT]
  | a :: r, k + 1 => by
    rw [List.take_succ_cons]
    have ih := prT_le r k
    cases r with
    | nil => simp
    | cons b r =>
      cases k with
      | zero => rw [List.take_zero, prT_one, prT_cons a (by simp)]; simp
      | succ k =>
        rw [prT_cons a (by simp), prT_cons a (by simp), List.length_append, List.length_append, List.length_cons, List.length_cons]
        omega
theorem prT_step {l : List Mt} {k : Nat} {m : Mt} (h : l[k]? = some m) : prT (l.take (k + 1)) = if k = 0 then oneT m else prT (l.take k) ++ 44 :: oneT m := by
  rw [Lb.take_snoc _ _ _ h]
  by_cases h0 : k = 0
  · subst h0
    rw [if_pos rfl, List.take_zero, List.nil_append, prT_one]
  · rw [if_neg h0, prT_snoc]
    intro e
    have := congrArg List.length e
    rw [List.length_take, List.length_nil] at this
    have := (List.getElem?_eq_some_iff.1 h).1
    omega
end Go.Proofs.YtnabfganecghkaaDoor
