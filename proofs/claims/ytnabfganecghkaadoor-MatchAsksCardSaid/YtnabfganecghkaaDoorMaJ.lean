/- Reading a sign. -/
import Derived.Test.YtnabfganecghkaaDoorMaH
import Derived.Test.YtnabfganecghkaaDoorLbIs
/-! Light; the document's Check. -/
namespace Go.Proofs.YtnabfganecghkaaDoor
open Go.RowKit Go.Sort
set_option linter.unusedVariables false

/-- short enough -/
def Sm (ms : List Mt) (a : List Lb.Lab) : Prop := (∀ m ∈ ms, m.vl.size ≤ 100) ∧ ∀ p ∈ a, p.2.size ≤ 64
theorem Sm.lv {ms : List Mt} {a : List Lb.Lab} (h : Sm ms a) : Lv a := fun p hp => by have := h.2 p hp; omega
theorem mem_take {α : Type} {P : α → Prop} {l : List α} {i : Nat} {x : α} (h : ∀ y ∈ l.take i, P y) (hx : l[i]? = some x) (hp : P x) : ∀ y ∈ l.take (i + 1), P y := by
  rw [Lb.take_snoc _ _ _ hx]
  intro y hy
  rcases List.mem_append.1 hy with hy | hy
  · exact h y hy
  · simp at hy
    subst hy
    exact hp
theorem mem_all {α : Type} {P : α → Prop} {l : List α} {n : Nat} (h : ∀ y ∈ l.take n, P y) (hn : l.length ≤ n) : ∀ y ∈ l, P y := by
  rw [List.take_of_length_le hn] at h
  exact h
def Li1 (w : World) (ms : List Mt) (v5 v12 : Value) (wr : World) : Prop := ∃ (i : Nat) (x : Int), v5 = .int .i64 x ∧ v12 = .int .i64 (i : Int) ∧ i ≤ ms.length ∧ (∀ m ∈ ms.take i, m.vl.size ≤ 100) ∧ Below w.heap.size w wr
def Li2 (w : World) (a : List Lb.Lab) (v33 : Value) (wr : World) : Prop := ∃ j : Nat, v33 = .int .i64 (j : Int) ∧ j ≤ a.length ∧ (∀ p ∈ a.take j, p.2.size ≤ 64) ∧ Below w.heap.size w wr
def LiP (ms : List Mt) (a : List Lb.Lab) (w : World) (y : Ending) (w' : World) : Prop := ∃ q : Bool, y = .returned (.bool q) ∧ (q = true → Sm ms a) ∧ Below w.heap.size w w'
theorem lb_box2 {w W : World} {g : Nat} {s t : ByteArray} (hg : w.heap.size = g) (hW : w.alloc (.cells #[.string s, .string t] 43 (0, 0)) = W) : W.cell? ⟨g, 0, none⟩ = some (.string s) ∧ W.cell? ⟨g, 1, none⟩ = some (.string t) := by
  subst hg hW
  have hb := heap_alloc_new w (.cells #[.string s, .string t] 43 (0, 0))
  exact ⟨by rw [cell_of_row _ _ _ _ _ _ hb]; rfl, by rw [cell_of_row _ _ _ _ _ _ hb]; rfl⟩
set_option maxHeartbeats 4000000 in
theorem light_any (A B : Option Addr) (n m c d : Nat) (ms : List Mt) (a : List Lb.Lab) (w : World) (hn : n = ms.length) (hm : m = a.length) (h : Mq w A ms) (ha : Lb.Lw w B a) :
    Calls Tryd.prog 5 #[.slice A n c, .slice B m d] w (LiP ms a w) := by
  subst hn hm
  obtain ⟨N, hN⟩ : ∃ N, ms.length = N := ⟨_, rfl⟩
  obtain ⟨M, hM⟩ : ∃ M, a.length = M := ⟨_, rfl⟩
  have HN := Lib.hid hN
  have HMM := Lib.hid hM
  have HM := Lib.hid h
  have HA := Lib.hid ha
  have hNb : N ≤ 9223372036854775807 := by rw [← hN]; exact h.1
  have hMb : M ≤ 9223372036854775807 := by rw [← hM]; exact ha.1
  rw [hN, hM]
  clear h ha hN hM
  go_enter Tryd.func5, Tryd.ntmps5
  go_wp2_with fail
  go_loopw [5, 12] (fun v5 v12 wr => Hid (Li1 w ms v5 v12 wr)) (fun _ v12 _ => N - (intOf v12).toNat)
  case atStart => exact Lib.hid ⟨0, 0, rfl, rfl, by omega, fun m hm => by simp at hm, Below.refl _ _⟩
  case round =>
    obtain ⟨i, x, rfl, rfl, hi, hall, hb⟩ := hrel.out
    clear hrel
    have HB := Lib.hid hb
    have HALL := Lib.hid hall
    by_cases hlt : i < N
    · have hki : (i : Int) < (N : Int) := by omega
      have hib : i < 9223372036854775807 := by omega
      obtain ⟨m, hm⟩ : ∃ m, ms[i]? = some m := ⟨_, List.getElem?_eq_getElem (by rw [HN.out]; exact hlt)⟩
      obtain ⟨b, off, rfl, hc⟩ := (HM.out.below HB.out).some_ (by rw [HN.out]; omega)
      obtain ⟨k0, k1, k2⟩ := hc i m hm
      have HMI := Lib.hid hm
      obtain ⟨nm, op, vl⟩ := m
      obtain ⟨W5, hW5⟩ : ∃ W5, wr.alloc (.cells #[.string nm, .int .i64 op, .string vl] 39 (0, 0)) = W5 := ⟨_, rfl⟩
      obtain ⟨g5, hg5⟩ : ∃ g5, wr.heap.size = g5 := ⟨_, rfl⟩
      have b5 : Below wr.heap.size wr W5 := hW5 ▸ (Below.refl _ _).alloc (Nat.le_refl _) _
      have X5 := Lib.hid (show D3 W5 g5 nm op vl from hg5 ▸ hW5 ▸ D3.new wr _ _ _)
      have B5 := Lib.hid (HB.out.trans (b5.mono HB.out.size))
      obtain ⟨⟨x0, x1, x2⟩, _⟩ := X5.out.cells
      have HLT := Lib.hid hlt
      clear hall hb hc hm b5 hlt hi
      by_cases h100 : 100 < vl.size
      · have hci : (100 : Int) < (vl.size : Int) := by omega
        go_wp2_with fail
        go_ret
        exact ⟨false, rfl, (fun h => by cases h), B5.out⟩
      · have hci : ¬ (100 : Int) < (vl.size : Int) := by omega
        go_wp2_with fail
        clear hW5 hg5
        go_roundw
        case rel => exact Lib.hid ⟨i + 1, _, rfl, by go_num, by have := HLT.out; have := HN.out; omega, mem_take HALL.out HMI.out (by show vl.size ≤ 100; omega), B5.out⟩
        case measure => simp [intOf]; have := HLT.out; omega
    · obtain rfl : i = N := by have := HN.out; omega
      have hki : ¬ ((i : Nat) : Int) < (i : Int) := by omega
      have HALL2 := Lib.hid (mem_all HALL.out (by have := HN.out; omega))
      have R2 := Lib.hid (show Li2 w a (.int .i64 ((0 : Nat) : Int)) wr from ⟨0, rfl, by omega, fun m hm => by simp at hm, HB.out⟩)
      clear hall hb
      go_wp2_with fail
      obtain ⟨wA, hwA⟩ : ∃ W, W = wr := ⟨_, rfl⟩
      subst hwA
      go_loopw [33] (fun v33 wr => Hid (Li2 w a v33 wr)) (fun v33 _ => M - (intOf v33).toNat)
      case atStart => exact R2
      case round =>
        clear R2
        obtain ⟨j, rfl, hj, hall, hb⟩ := hrel.out
        clear hrel
        have HB2 := Lib.hid hb
        have HAL := Lib.hid hall
        by_cases hlt : j < M
        · have hki2 : (j : Int) < (M : Int) := by omega
          have hib : j < 9223372036854775807 := by omega
          obtain ⟨p, hp⟩ : ∃ p, a[j]? = some p := ⟨_, List.getElem?_eq_getElem (by rw [HMM.out]; exact hlt)⟩
          obtain ⟨b, off, rfl, hc⟩ := (HA.out.below HB2.out).some_ (by rw [HMM.out]; omega)
          obtain ⟨k0, k1⟩ := hc j p hp
          have HPJ := Lib.hid hp
          obtain ⟨s, t⟩ := p
          obtain ⟨W5, hW5⟩ : ∃ W5, wr.alloc (.cells #[.string s, .string t] 43 (0, 0)) = W5 := ⟨_, rfl⟩
          obtain ⟨g5, hg5⟩ : ∃ g5, wr.heap.size = g5 := ⟨_, rfl⟩
          have b5 : Below wr.heap.size wr W5 := hW5 ▸ (Below.refl _ _).alloc (Nat.le_refl _) _
          have B5 := Lib.hid (HB2.out.trans (b5.mono HB2.out.size))
          obtain ⟨x0, x1⟩ := lb_box2 hg5 hW5
          have HLT := Lib.hid hlt
          clear hall hb hc hp b5 hlt hj
          simp only at k0 k1
          by_cases h64 : 64 < t.size
          · have hci : (64 : Int) < (t.size : Int) := by omega
            go_wp2_with fail
            go_ret
            exact ⟨false, rfl, (fun h => by cases h), B5.out⟩
          · have hci : ¬ (64 : Int) < (t.size : Int) := by omega
            go_wp2_with fail
            clear hW5 hg5
            go_roundw
            case rel => exact Lib.hid ⟨j + 1, by go_num, by have := HLT.out; have := HMM.out; omega, mem_take HAL.out HPJ.out (by show t.size ≤ 64; omega), B5.out⟩
            case measure => simp [intOf]; have := HLT.out; omega
        · obtain rfl : j = M := by have := HMM.out; omega
          have hki2 : ¬ ((j : Nat) : Int) < (j : Int) := by omega
          have HAL2 := Lib.hid (mem_all HAL.out (by have := HMM.out; omega))
          clear hall hb
          by_cases h600 : x ≤ 600
          · go_wp2_with fail
            refine (Lb.light_any B j d a _ HMM.out.symm (HA.out.below HB2.out)).mono ?_
            rintro y w7 ⟨⟨q, rfl⟩, hb7⟩
            have HB7 := Lib.hid (HB2.out.trans (hb7.mono HB2.out.size))
            clear hb7
            go_wp2_with fail
            go_ret
            exact ⟨q, rfl, fun _ => ⟨HALL2.out, HAL2.out⟩, HB7.out⟩
          · go_wp2_with fail
            go_ret
            exact ⟨false, rfl, (fun h => by cases h), HB2.out⟩
def CkRel (w : World) (ms : List Mt) (v3 : Value) (wr : World) : Prop := ∃ i : Nat, v3 = .int .i64 (i : Int) ∧ i ≤ ms.length ∧ (∀ m ∈ ms.take i, prepE m = 0) ∧ Below w.heap.size w wr
set_option maxHeartbeats 4000000 in
theorem rcheck_any (A : Option Addr) (n c : Nat) (ms : List Mt) (w : World) (hn : n = ms.length) (h : Mq w A ms) :
    Calls Tryd.prog 9 #[.slice A n c] w fun y w' => y = .returned (.int .i64 (newE ms)) ∧ Below w.heap.size w w' := by
  subst hn
  by_cases h16 : 16 < ms.length
  · have h16i : (16 : Int) < (ms.length : Int) := by omega
    have HE := Lib.hid (newE_long h16)
    clear h16 h
    go_enter Tryd.func9, Tryd.ntmps9
    go_wp2_with fail
    go_ret
    exact ⟨by rw [HE.out]; rfl, Below.refl _ _⟩
  have h16i : ¬ (16 : Int) < (ms.length : Int) := by omega
  obtain ⟨V, hV⟩ : ∃ V, newE ms = V := ⟨_, rfl⟩
  have HE := Lib.hid (show newL ms = V by rw [← hV]; exact (newE_in h16).symm)
  rw [hV]
  obtain ⟨N, hN⟩ : ∃ N, ms.length = N := ⟨_, rfl⟩
  have HN := Lib.hid hN
  have HM := Lib.hid h
  rw [hN] at h16i ⊢
  have hN16 : N ≤ 16 := by omega
  clear h hN hV h16
  go_enter Tryd.func9, Tryd.ntmps9
  go_wp2_with fail
  go_loopw [3] (fun v wr => Hid (CkRel w ms v wr)) (fun v _ => N - (intOf v).toNat)
  case atStart => exact Lib.hid ⟨0, rfl, by omega, fun m hm => by simp at hm, Below.refl _ _⟩
  case round =>
    obtain ⟨i, rfl, hi, hall, hb⟩ := hrel.out
    clear hrel
    have HB := Lib.hid hb
    have HALL := Lib.hid hall
    by_cases hlt : i < N
    · have hki : (i : Int) < (N : Int) := by omega
      have hib : i ≤ 16 := by omega
      obtain ⟨m, hm⟩ : ∃ m, ms[i]? = some m := ⟨_, List.getElem?_eq_getElem (by rw [HN.out]; exact hlt)⟩
      obtain ⟨b, off, rfl, hc⟩ := (HM.out.below HB.out).some_ (by rw [HN.out]; omega)
      obtain ⟨k0, k1, k2⟩ := hc i m hm
      have HMI := Lib.hid hm
      have HWM := Lib.hid (HM.out.2.1 m (List.mem_of_getElem? hm))
      obtain ⟨nm, op, vl⟩ := m
      have HLT := Lib.hid hlt
      have HBAD := Lib.hid (fun (E : Int) (hE : prepE ⟨nm, op, vl⟩ = E) (h0 : E ≠ 0) => show V = E from by rw [← HE.out, ← hE]; exact newL_on HALL.out HMI.out (by rw [hE]; exact h0))
      clear hall hb hc hm hlt hi
      simp only at k0 k1 k2
      by_cases hop : op < 0 ∨ 4 ≤ op
      · have HV := Lib.hid (HBAD.out 1 (prep_1 hop) (by decide))
        have hop2 : op < 0 ∨ (¬ op < 0 ∧ 3 < op) := by omega
        clear hop
        rcases hop2 with h1 | ⟨h1, h2⟩
        all_goals
          go_wp2_with fail
          go_ret
          exact ⟨by rw [HV.out]; rfl, HB.out⟩
      have h1 : ¬ op < 0 := fun h => hop (.inl h)
      have h2 : ¬ 3 < op := fun h => hop (.inr (by omega))
      obtain ⟨z, hz⟩ : ∃ z, Lb.nameB nm = z := ⟨_, rfl⟩
      have HZ := Lib.hid hz
      by_cases hbad : Lb.nameB nm = false ∨ 64 < vl.size
      · have HV := Lib.hid (HBAD.out 26 (prep_26 hop hbad) (by decide))
        have hb2 : z = false ∨ (z = true ∧ 64 < vl.size) := by
          rw [hz] at hbad
          cases z
          · exact .inl rfl
          · rcases hbad with h | h
            · cases h
            · exact .inr ⟨rfl, h⟩
        clear hbad hop hz
        go_wp2_with fail
        refine (Lb.rname_any nm _ HWM.out.1).mono ?_
        rw [HZ.out]
        rintro y w2 ⟨rfl, rfl⟩
        rcases hb2 with rfl | ⟨rfl, h64⟩
        · go_wp2_with fail
          go_ret
          exact ⟨by rw [HV.out]; rfl, HB.out⟩
        · have h64i : (64 : Int) < (vl.size : Int) := by omega
          go_wp2_with fail
          go_ret
          exact ⟨by rw [HV.out]; rfl, HB.out⟩
      have hz1 : Lb.nameB nm = true := by
        cases hz1 : Lb.nameB nm
        · exact absurd (.inl hz1) hbad
        · rfl
      have HZ1 := Lib.hid hz1
      have h64i : ¬ (64 : Int) < (vl.size : Int) := by
        have : ¬ 64 < vl.size := fun h => hbad (.inr h)
        omega
      by_cases h2k : 2 ≤ op
      · obtain ⟨R, hR⟩ : ∃ R, parseF vl.data.toList = R := ⟨_, rfl⟩
        obtain ⟨E, hE⟩ : ∃ E, errN R = E := ⟨_, rfl⟩
        have HPE := Lib.hid (show prepE ⟨nm, op, vl⟩ = E from by
          rw [prep_r hop hbad h2k, rdR_yes h2k]
          show errN (parseF vl.data.toList) = E
          rw [hR, hE])
        have HRR := Lib.hid hR
        have HEE := Lib.hid hE
        clear hR hE hbad hop hz hz1
        go_wp2_with fail
        refine (Lb.rname_any nm _ HWM.out.1).mono ?_
        rw [HZ1.out]
        rintro y w2 ⟨rfl, rfl⟩
        go_wp2_with fail
        refine (rparse_any vl _).mono ?_
        rw [HRR.out]
        rintro y w4 ⟨kd, a1, n1, m1, a2, n2, m2, rfl, hb4, _, _⟩
        rw [HEE.out]
        obtain ⟨W5, hW5⟩ : ∃ W5, w4.alloc (.cells #[.string kd, .slice a1 n1 m1, .slice a2 n2 m2] 60 (0, 0)) = W5 := ⟨_, rfl⟩
        have b45 : Below w4.heap.size w4 W5 := hW5 ▸ (Below.refl _ _).alloc (Nat.le_refl _) _
        have B5 := Lib.hid ((HB.out.trans (hb4.mono HB.out.size)).trans (b45.mono (Nat.le_trans HB.out.size hb4.size)))
        clear hb4 b45
        by_cases hE0 : E = 0
        · subst hE0
          go_wp2_with fail
          clear hW5
          go_roundw
          case rel => exact Lib.hid ⟨i + 1, by go_num, by have := HLT.out; have := HN.out; omega, mem_take HALL.out HMI.out HPE.out, B5.out⟩
          case measure => simp [intOf]; have := HLT.out; omega
        · have hEb : (E != 0) = true := z_ne 0 hE0
          have HV := Lib.hid (HBAD.out E HPE.out hE0)
          clear hE0
          go_wp2_with fail
          go_ret
          exact ⟨by rw [HV.out]; rfl, B5.out⟩
      · have HPE := Lib.hid (prep_0 (m := ⟨nm, op, vl⟩) hop hbad h2k)
        clear hbad hop hz hz1
        go_wp2_with fail
        refine (Lb.rname_any nm _ HWM.out.1).mono ?_
        rw [HZ1.out]
        rintro y w2 ⟨rfl, rfl⟩
        go_wp2_with fail
        go_roundw
        case rel => exact Lib.hid ⟨i + 1, by go_num, by have := HLT.out; have := HN.out; omega, mem_take HALL.out HMI.out HPE.out, HB.out⟩
        case measure => simp [intOf]; have := HLT.out; omega
    · obtain rfl : i = N := by have := HN.out; omega
      have hki : ¬ ((i : Nat) : Int) < (i : Int) := by omega
      have HV := Lib.hid (show V = 0 by rw [← HE.out]; exact newL_ok (mem_all HALL.out (by have := HN.out; omega)))
      clear hall hb
      go_wp2_with fail
      go_ret
      exact ⟨by rw [HV.out]; rfl, HB.out⟩
end Go.Proofs.YtnabfganecghkaaDoor

/-! Reading a sign. -/
namespace Go.Proofs.YtnabfganecghkaaDoor
open Go.RowKit Go.Sort
set_option linter.unusedVariables false

def pre (p l : List UInt8) : Bool := Lib.hasPrefix l p
/-- the sign ahead of quotes, and what stands behind it -/
def sgF (l : List UInt8) : Option (Nat × List UInt8) :=
  if pre [61, 34] l then some (0, l.drop 1) else if pre [33, 61, 34] l then some (1, l.drop 2) else if pre [61, 126, 34] l then some (2, l.drop 2) else if pre [33, 126, 34] l then some (3, l.drop 2) else none
def sgT (k : Nat) : List UInt8 := if k = 0 then [61] else if k = 1 then [33, 61] else if k = 2 then [61, 126] else [33, 126]
def sgV (o : Option (Nat × List UInt8)) : Value := match o with
  | some (k, r) => .tuple #[.int .i64 (k : Int), .string (tx r), .bool true]
  | none => .tuple #[.int .i64 0, .string ⟨#[]⟩, .bool false]
theorem add_q (k : Nat) (hk : k < 4) : ∀ W : World, (Op.stringOp .add (signB (k : Int)) ⟨#[34]⟩).run Tryd.prog W = .ok (.string (tx (sgT k ++ [34]))) W := by
  rcases (show k = 0 ∨ k = 1 ∨ k = 2 ∨ k = 3 by omega) with rfl | rfl | rfl | rfl
  · obtain ⟨u, rfl, h⟩ := Lb.add_tx (s := ⟨#[61]⟩) (t := ⟨#[34]⟩) (X := [61]) (Y := [34]) rfl rfl (by simp)
    exact h
  · obtain ⟨u, rfl, h⟩ := Lb.add_tx (s := ⟨#[33, 61]⟩) (t := ⟨#[34]⟩) (X := [33, 61]) (Y := [34]) rfl rfl (by simp)
    exact h
  · obtain ⟨u, rfl, h⟩ := Lb.add_tx (s := ⟨#[61, 126]⟩) (t := ⟨#[34]⟩) (X := [61, 126]) (Y := [34]) rfl rfl (by simp)
    exact h
  · obtain ⟨u, rfl, h⟩ := Lb.add_tx (s := ⟨#[33, 126]⟩) (t := ⟨#[34]⟩) (X := [33, 126]) (Y := [34]) rfl rfl (by simp)
    exact h
theorem pref_any (s : ByteArray) (p : List UInt8) (w : World) (z : Bool) (h : pre p s.data.toList = z) : Calls Tryd.prog 66 #[.string s, .string (tx p)] w fun e w' => e = .returned (.bool z) ∧ w' = w :=
  (Tryd.strings_HasPrefix s (tx p) w).mono fun e w' ⟨he, hw⟩ => ⟨by rw [he, ← h]; rfl, hw⟩
theorem pre_len {p l : List UInt8} (h : pre p l = true) : p.length ≤ l.length := by
  unfold pre Lib.hasPrefix at h
  exact (List.isPrefixOf_iff_prefix.1 h).length_le
/-- none of the first ways -/
def noS (l : List UInt8) (i : Nat) : Prop := ∀ k, k < i → pre (sgT k ++ [34]) l = false
theorem sgF_at {l : List UInt8} {k : Nat} (hk : k < 4) (hn : noS l k) (h : pre (sgT k ++ [34]) l = true) : sgF l = some (k, l.drop (sgT k).length) := by
  unfold sgF
  rcases (show k = 0 ∨ k = 1 ∨ k = 2 ∨ k = 3 by omega) with rfl | rfl | rfl | rfl
  · have h' : pre [61, 34] l = true := h
    rw [if_pos h']; rfl
  · have h' : pre [33, 61, 34] l = true := h
    rw [if_neg (by rw [show pre [61, 34] l = false from hn 0 (by omega)]; simp), if_pos h']; rfl
  · have h' : pre [61, 126, 34] l = true := h
    rw [if_neg (by rw [show pre [61, 34] l = false from hn 0 (by omega)]; simp), if_neg (by rw [show pre [33, 61, 34] l = false from hn 1 (by omega)]; simp), if_pos h']; rfl
  · have h' : pre [33, 126, 34] l = true := h
    rw [if_neg (by rw [show pre [61, 34] l = false from hn 0 (by omega)]; simp), if_neg (by rw [show pre [33, 61, 34] l = false from hn 1 (by omega)]; simp), if_neg (by rw [show pre [61, 126, 34] l = false from hn 2 (by omega)]; simp), if_pos h']; rfl
theorem sgF_no {l : List UInt8} (hn : noS l 4) : sgF l = none := by
  unfold sgF
  rw [if_neg (by rw [show pre [61, 34] l = false from hn 0 (by omega)]; simp), if_neg (by rw [show pre [33, 61, 34] l = false from hn 1 (by omega)]; simp), if_neg (by rw [show pre [61, 126, 34] l = false from hn 2 (by omega)]; simp), if_neg (by rw [show pre [33, 126, 34] l = false from hn 3 (by omega)]; simp)]
def waysV : Value := .agg #[.string ⟨#[61]⟩, .bool false, .bool false, .string ⟨#[33, 61]⟩, .bool false, .bool true, .string ⟨#[61, 126]⟩, .bool true, .bool false, .string ⟨#[33, 126]⟩, .bool true, .bool true]
theorem way_0 (w : World) : (Instr.index 68 waysV (.int .i64 0)).run Tryd.prog w = .ok (.agg #[.string ⟨#[61]⟩, .bool false, .bool false]) w := by kernel_rfl
theorem way_1 (w : World) : (Instr.index 68 waysV (.int .i64 1)).run Tryd.prog w = .ok (.agg #[.string ⟨#[33, 61]⟩, .bool false, .bool true]) w := by kernel_rfl
theorem way_2 (w : World) : (Instr.index 68 waysV (.int .i64 2)).run Tryd.prog w = .ok (.agg #[.string ⟨#[61, 126]⟩, .bool true, .bool false]) w := by kernel_rfl
theorem way_3 (w : World) : (Instr.index 68 waysV (.int .i64 3)).run Tryd.prog w = .ok (.agg #[.string ⟨#[33, 126]⟩, .bool true, .bool true]) w := by kernel_rfl
def SgRl (w : World) (l : List UInt8) (v : Value) (wr : World) : Prop := ∃ i : Nat, v = .int .i64 (i : Int) ∧ i ≤ 4 ∧ noS l i ∧ Below w.heap.size w wr
set_option maxHeartbeats 4000000 in
set_option maxRecDepth 100000 in
theorem sign_any (s : ByteArray) (w : World) (hT : Tab w) (hs : s.size ≤ 4000) : Calls Tryd.prog 51 #[.string s] w fun y w' => y = .returned (sgV (sgF s.data.toList)) ∧ Below w.heap.size w w' := by
  obtain ⟨h0, h1, h2, h3, h4, h5, h6, h7, h8, h9, h10, h11⟩ := hT
  obtain ⟨l, hl⟩ : ∃ l, s.data.toList = l := ⟨_, rfl⟩
  have HL := Lib.hid hl
  obtain ⟨O, hO⟩ : ∃ O, sgF l = O := ⟨_, rfl⟩
  have HO := Lib.hid hO
  rw [hl, hO]
  clear hl hO
  go_enter Tryd.func51, Tryd.ntmps51
  go_wp2_with fail
  clear h0 h1 h2 h3 h4 h5 h6 h7 h8 h9 h10 h11
  go_loopw [8] (fun v wr => Hid (SgRl w l v wr)) (fun v _ => 4 - (intOf v).toNat)
  case atStart => exact Lib.hid ⟨0, rfl, by omega, fun k hk => by omega, Below.refl _ _⟩
  case round =>
    obtain ⟨i, rfl, hi, hno, hb⟩ := hrel.out
    clear hrel
    have HB := Lib.hid hb
    have HNO := Lib.hid hno
    have h5 : i = 4 ∨ i = 0 ∨ i = 1 ∨ i = 2 ∨ i = 3 := by omega
    clear hb hno hi
    rcases h5 with rfl | h5
    · have HF := Lib.hid (show O = none by rw [← HO.out]; exact sgF_no HNO.out)
      go_wp2_with fail
      go_ret3
      exact ⟨by rw [HF.out]; rfl, HB.out⟩
    · obtain ⟨S, hS⟩ : ∃ S, signB (i : Int) = S := ⟨_, rfl⟩
      have hi4 : i < 4 := by omega
      have hadd := add_q i hi4
      obtain ⟨W5, hW5⟩ : ∃ W5, wr.alloc (.cells #[.string S, .bool (likeB i), .bool (notB i)] 67 (0, 0)) = W5 := ⟨_, rfl⟩
      obtain ⟨g5, hg5⟩ : ∃ g5, wr.heap.size = g5 := ⟨_, rfl⟩
      have b5 : Below wr.heap.size wr W5 := hW5 ▸ (Below.refl _ _).alloc (Nat.le_refl _) _
      have X5 := Lib.hid (show W3 W5 g5 S (likeB i) (notB i) from hg5 ▸ hW5 ▸ W3.new wr _ _ _)
      have B5 := Lib.hid (HB.out.trans (b5.mono HB.out.size))
      obtain ⟨z, hz⟩ : ∃ z, pre (sgT i ++ [34]) l = z := ⟨_, rfl⟩
      have HPR := Lib.hid (fun (W : World) => pref_any s (sgT i ++ [34]) W z (by rw [HL.out]; exact hz))
      have HZ := Lib.hid hz
      have HSZ := Lib.hid (show z = true → (sgT i).length + 1 ≤ s.size from fun hzt => by
        have h1 := pre_len (hz.trans hzt)
        have h2 : s.data.toList.length = s.size := by rw [Array.length_toList]; rfl
        rw [HL.out] at h2
        simp at h1
        omega)
      have HSL := Lib.hid (show S.size = (sgT i).length by rw [← hS]; rcases h5 with rfl | rfl | rfl | rfl <;> rfl)
      obtain ⟨⟨x0, x1, x2⟩⟩ := And.intro X5.out.cells trivial
      rw [hS] at hadd
      clear b5 hz
      rcases h5 with rfl | rfl | rfl | rfl
      all_goals
        have hS3 := hS.symm
        simp [signB] at hS3
        subst hS3
        have ht1 := HSL.out
        simp only [likeB, notB] at hW5 x1 x2
        have HNX := Lib.hid (fun (hz0 : z = false) => show noS l (_ + 1) from fun k hk => by
          rcases Nat.lt_succ_iff_lt_or_eq.1 hk with h | h
          · exact HNO.out k h
          · subst h; rw [HZ.out]; exact hz0)
        have HYS := Lib.hid (fun (hz1 : z = true) => sgF_at hi4 HNO.out (HZ.out.trans hz1))
        clear hi4 hS ht1
        have i0 := way_0
        have i1 := way_1
        have i2 := way_2
        have i3 := way_3
        unfold waysV at i0 i1 i2 i3
        go_wp2_with fail
        refine (HPR.out _).mono ?_
        rintro y w6 ⟨rfl, rfl⟩
        cases z with
        | false =>
          go_wp2_with fail
          go_roundw
          case rel => exact Lib.hid ⟨_, by go_num, by omega, HNX.out (by simp), by have := B5.out; rw [← hW5] at this; exact this⟩
          case measure => simp [intOf]
        | true =>
          have hsz := HSZ.out (by simp)
          simp [sgT] at hsz
          have HF := Lib.hid (show O = _ from HO.out.symm.trans (HYS.out (by simp)))
          have HEX := Lib.hid (fun (k : Nat) => (Lb.ext_tx s k).trans (by rw [HL.out]))
          go_wp2_with fail
          go_region
          all_goals
            go_wp2_with fail
            go_ret3
            refine ⟨?_, by have := B5.out.drew; rw [← hW5] at this; exact this⟩
            rw [HF.out, HEX.out]
            rfl
end Go.Proofs.YtnabfganecghkaaDoor
