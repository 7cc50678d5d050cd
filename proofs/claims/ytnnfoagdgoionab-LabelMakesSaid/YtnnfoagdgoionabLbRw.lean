/- The document's Make, walked. -/
import Derived.Test.YtnnfoagdgoionabLbRm
import Derived.Laws.MakeOwn
namespace Go.Proofs.Ytnnfoagdgoionab
open Go.RowKit
set_option linter.unusedVariables false

/-- the block of what has been taken -/
def boC (U : List Bool) : Array Value := (U.map Value.bool).toArray
theorem boC_at {U : List Bool} {i : Nat} {u : Bool} (h : U[i]? = some u) : (boC U)[i]? = some (.bool u) := by
  unfold boC; simp [h]
theorem boC_set (U : List Bool) (i : Nat) (u : Bool) : (boC U).setIfInBounds i (.bool u) = boC (U.set i u) := by
  unfold boC; simp [List.map_set]
theorem infoB : (Try.prog.info? 4).map (fun i => (i.zero, i.size, i.bytes)) = some (some (.bool false), 1, 1) := by kernel_rfl
theorem make_bool (n : Nat) (hn : n ≤ 4398046511104) (w : World) : (Instr.makeSlice 54 (.int .i64 (n : Int)) (.int .i64 (n : Int))).run Try.prog w = .ok (.slice (some ⟨w.heap.size, 0, none⟩) n n) (w.alloc (.cells (boC (List.replicate n false)) 4)) := by
  obtain ⟨i0, hi, hz0, hz1, hz2⟩ := info_parts infoB
  have hr := run_make (P := Try.prog) w 54 4 i0 (.bool false) Try.underlying54 hi hz0 .i64 .i64 n n (by omega) (Int.le_refl _) (by rw [hz2]; omega) (by omega)
  simp only [Int.toNat_natCast, hz1, Nat.mul_one] at hr
  have e : madeCells (Value.bool false).cells n = boC (List.replicate n false) := by
    have hz : (Value.bool false).cells = #[.bool false] := rfl
    rw [hz]
    apply Array.toList_inj.1
    rw [toList_madeCells_one]
    simp [boC]
  rw [hr, e]
/-- the block of what has been taken, the row of what was found -/
def MRel (U : List Bool) (l O : List Lab) (g : Nat) (w : World) (v : Value) (wr : World) : Prop :=
  ∃ (A : Option Addr) (n c : Nat), v = .slice A n c ∧ wr.heap[g]? = some (.cells (boC U) 4 (0, 0)) ∧ wr.ownsRow w.heap.size 36 2 (.slice A n c) n (labC O) ∧ Below w.heap.size w wr
/-- what the inner loop has found -/
def BestP (U : List Bool) (l : List Lab) (k : Nat) (b : Value) : Prop := (b = .int .i64 (-1) ∧ NoneTill U l k) ∨ ∃ j : Nat, b = .int .i64 (j : Int) ∧ Least U l k j
theorem best_neg {U : List Bool} {l : List Lab} {k : Nat} {b : Value} (h : BestP U l k b) : ∃ x : Int, b = .int .i64 x := by
  rcases h with ⟨e, _⟩ | ⟨j, e, _⟩
  · exact ⟨_, e⟩
  · exact ⟨_, e⟩
def slLen (v : Value) : Nat := match v with
  | .slice _ n _ => n
  | _ => 0
theorem sel_len : ∀ (U : List Bool) (l : List Lab), (sel U l).length ≤ l.length
  | [], l => by simp [sel]
  | u :: us, [] => by simp [sel]
  | u :: us, p :: ps => by
    have := sel_len us ps
    unfold sel
    split <;> simp <;> omega
theorem own_set {w : World} {B g j n c size : Nat} {e t : TypeId} {A : Option Addr} {xs : List Value} {cs : Array Value} {fr : Nat × Nat} (h : w.ownsRow B e size (.slice A n c) n xs) (hb : w.heap[g]? = some (.cells cs t fr)) (hne : e ≠ t) (v : Value) : (w.setCell ⟨g, j, none⟩ v).ownsRow B e size (.slice A n c) n xs := by
  have hno := own_ne h hb hne
  refine ⟨h.1, ?_⟩
  rcases h.2 with h1 | ⟨g', cap, cur, h1, h2, h3, h4⟩
  · exact .inl h1
  · refine .inr ⟨g', cap, cur, h1, h2, ?_, h4⟩
    rw [Below.heap_setCell]
    · exact h3
    · intro e
      rw [h1] at hno
      exact hno (by simp only at e; rw [e]; rfl)
/-- append of a label behind its block: rows of bools stay -/
theorem put_labB {ops : Array Oper} {rest : List Oper} {o : Oper} {a : Act} {W w : World} {Q : Exit → Act → World → Prop} (hgd : o.guard = none) (s x : Operand)
    (ho : o.op = .call { callee := .builtin .append, args := #[s, x], argTypes := #[22, 22] })
    (base : Nat) (A : Option Addr) (n c : Nat) (l : List Lab) (hs : a.eval s = .slice A n c) (hown : w.ownsRow base 36 2 (.slice A n c) n (labC l)) (hb : Below base W w) (hbase : base ≤ w.heap.size) (hl : n + 1 ≤ 4398046511104)
    (b : Nat) (hbz : w.heap.size = b) (hx : a.eval x = .slice (some ⟨b, 0, none⟩) 1 1) (y : Lab)
    (h : ∀ A' c' w', w'.ownsRow base 36 2 (.slice A' (n + 1) c') (n + 1) (labC (l ++ [y])) → Below base W w' → base ≤ w'.heap.size → KeepT 4 w w' → wpList Try.prog ops Q rest (a.put o.dst (.slice A' (n + 1) c')) w') :
    wpList Try.prog ops Q (o :: rest) a (w.alloc (.cells #[.string y.1, .string y.2] 36)) := by
  subst hbz
  have hown1 := own_below hown ((Below.refl _ _).alloc (Nat.le_refl _) (.cells #[.string y.1, .string y.2] 36))
  refine app_lab hgd s x ho base A n c l hs hown1 w.heap.size hx y (new_two _ _ _ _).1 (new_two _ _ _ _).2 hl (by simp; omega) ?_
  intro A' c' w' h1 h2
  have hb' := below_app hb hbase hown (Nat.le_refl _) h2
  have hz := h2.size
  refine h A' c' w' h1 hb' ?_ ((keepT_alloc _ _ _).trans (keepT_grown hown1 h2 (by decide)))
  simp at hz
  omega
set_option maxRecDepth 100000 in
set_option maxHeartbeats 8000000 in
theorem rmake_any (A : Option Addr) (n c : Nat) (l : List Lab) (w : World) (hn : n = l.length) (h : Lw w A l) (hl : l.length ≤ 4398046510976) :
    Calls Try.prog 14 #[.slice A n c] w fun e w' => (∃ O, O.Perm (l.filter hasV) ∧ NSorted O ∧ ((chk O = 0 ∧ ∃ A n c, e = .returned (.tuple #[.slice A n c, .int .i64 0]) ∧ n = O.length ∧ Lw w' A O) ∨ (chk O ≠ 0 ∧ e = .returned (.tuple #[.slice none 0 0, .int .i64 (chk O)])))) ∧ Below w.heap.size w w' := by
  subst hn
  have HL := Lib.hid h
  have hmk := make_bool l.length (by omega)
  clear h
  go_enter Try.func14, Try.ntmps14
  go_wp2_with fail
  clear hmk
  have HU0 := Lib.hid (heap_alloc_new w (.cells (boC (List.replicate l.length false)) 4))
  obtain ⟨g, hg⟩ : ∃ g, w.heap.size = g := ⟨_, rfl⟩
  have HG := Lib.hid hg
  rw [hg]
  go_loopw [4] (fun v wr => ∃ (U : List Bool) (O : List Lab), Hid (SInv U l O) ∧ Hid (MRel U l O g w v wr)) (fun v _ => l.length - slLen v)
  case atStart => exact ⟨_, [], Lib.hid (sinv_zero l), Lib.hid ⟨none, 0, 0, rfl, hg ▸ HU0.out, own_nil _ _ _ _, (Below.refl _ _).alloc (Nat.le_refl _) _⟩⟩
  case round =>
    obtain ⟨U, O, HS, HM⟩ := hrel
    obtain ⟨A1, n1, c1, rfl, hgU, hown, hbw⟩ := HM.out
    have hn1 := own_nl hown
    have HGU := Lib.hid hgU
    have HO := Lib.hid hown
    have HW := Lib.hid hbw
    have HN1 := Lib.hid hn1
    obtain ⟨wo, rfl⟩ : ∃ wo : World, wo = wr := ⟨_, rfl⟩
    clear hgU hown hbw hn1 HM hg
    go_wp2_with fail
    go_loopw [6, 7] (fun b i wx => ∃ k : Nat, k ≤ l.length ∧ i = .int .i64 k ∧ Hid (BestP U l k b) ∧ ∃ q, wx = wo.drewN q) (fun _ i _ => l.length - (intOf i).toNat)
    case atStart => exact ⟨0, by omega, rfl, Lib.hid (.inl ⟨rfl, fun i q hi => absurd hi (by omega)⟩), 0, rfl⟩
    case round =>
      obtain ⟨k, hk, rfl, HB, nq, rfl⟩ := hrel
      by_cases hlt : k < l.length
      · have hki : (k : Int) < (l.length : Int) := by omega
        obtain ⟨p, hp⟩ := getElem?_lt hlt
        obtain ⟨u, hu⟩ := getElem?_lt (l := U) (k := k) (by rw [HS.out.len]; exact hlt)
        obtain ⟨bA, oA, rfl, hcell⟩ := (HL.out.below HW.out).some_ (by omega)
        obtain ⟨p0, p1⟩ := hcell k p hp
        have hu0 : wo.cell? ⟨g, k, none⟩ = some (.bool u) := by rw [cell_of_row _ _ _ _ _ _ HGU.out]; exact boC_at hu
        obtain ⟨v, hv⟩ : ∃ v, p.2.toList.isEmpty = v := ⟨_, rfl⟩
        have HV := Lib.hid (show hasV p = !v by unfold hasV; rw [hv])
        have HP := Lib.hid hp
        have HUU := Lib.hid hu
        have HC := Lib.hid hcell
        clear hcell hp hu
        cases u with
        | true =>
          have HE := Lib.hid (show ∀ q, ¬ Cand U l k q from fun q hq => by have := hq.1; rw [HUU.out] at this; cases this)
          rcases HB.out with ⟨rfl, hnn⟩ | ⟨j, rfl, hle⟩
          · have HX := Lib.hid (none_next hnn HE.out)
            clear hnn
            go_wp2_with fail
            go_quiet (fail)
            go_wp2_with fail
            go_roundw
            case rel => exact ⟨k + 1, by omega, by go_num, Lib.hid (.inl ⟨rfl, HX.out⟩), _, rfl⟩
            case measure => simp [intOf]; omega
          · obtain ⟨pj, hpj⟩ := getElem?_lt (l := l) (k := j) (by have := hle.1; omega)
            have HX := Lib.hid (least_keep hle hpj (fun q hq => absurd hq (HE.out q)))
            clear hle hpj
            go_wp2_with fail
            go_quiet (fail)
            go_wp2_with fail
            go_roundw
            case rel => exact ⟨k + 1, by omega, by go_num, Lib.hid (.inr ⟨j, rfl, HX.out⟩), _, rfl⟩
            case measure => simp [intOf]; omega
        | false =>
          cases v with
          | true =>
            have HE := Lib.hid (show ∀ q, ¬ Cand U l k q from fun q hq => by
              have h1 := hq.2.1
              rw [HP.out] at h1
              injection h1 with h1
              have h2 := hq.2.2
              rw [← h1, HV.out] at h2
              cases h2)
            rcases HB.out with ⟨rfl, hnn⟩ | ⟨j, rfl, hle⟩
            · have HX := Lib.hid (none_next hnn HE.out)
              clear hnn
              go_wp2_with fail
              go_quiet (fail)
              go_wp2_with fail
              go_roundw
              case rel => exact ⟨k + 1, by omega, by go_num, Lib.hid (.inl ⟨rfl, HX.out⟩), _, rfl⟩
              case measure => simp [intOf]; omega
            · obtain ⟨pj, hpj⟩ := getElem?_lt (l := l) (k := j) (by have := hle.1; omega)
              have HX := Lib.hid (least_keep hle hpj (fun q hq => absurd hq (HE.out q)))
              clear hle hpj
              go_wp2_with fail
              go_quiet (fail)
              go_wp2_with fail
              go_roundw
              case rel => exact ⟨k + 1, by omega, by go_num, Lib.hid (.inr ⟨j, rfl, HX.out⟩), _, rfl⟩
              case measure => simp [intOf]; omega
          | false =>
            have HE := Lib.hid (show Cand U l k p from ⟨HUU.out, HP.out, HV.out⟩)
            rcases HB.out with ⟨rfl, hnn⟩ | ⟨j, rfl, hle⟩
            · have HX := Lib.hid (least_first hnn HE.out)
              clear hnn
              go_wp2_with fail
              go_quiet (fail)
              go_wp2_with fail
              go_roundw
              case rel => exact ⟨k + 1, by omega, by go_num, Lib.hid (.inr ⟨k, rfl, HX.out⟩), _, rfl⟩
              case measure => simp [intOf]; omega
            · have hjk : j < k := hle.1
              have hjl : (j : Int) < (l.length : Int) := by omega
              have hj0 : decide ((j : Int) < (0 : Int)) = false := by simp
              obtain ⟨pj, hpj⟩ := getElem?_lt (l := l) (k := j) (by omega)
              obtain ⟨r0, r1⟩ := HC.out j pj hpj
              by_cases hls : ltS p.1 pj.1
              · have hz := less_true hls
                have HX := Lib.hid (least_new hle hpj HE.out hls)
                clear hle hpj hls
                go_wp2_with fail
                go_quiet (fail)
                go_wp2_with fail
                go_roundw
                case rel => exact ⟨k + 1, by omega, by go_num, Lib.hid (.inr ⟨k, rfl, HX.out⟩), _, rfl⟩
                case measure => simp [intOf]; omega
              · have hz := less_false hls
                have HX := Lib.hid (least_keep hle hpj (fun q hq => by
                  have h1 := hq.2.1
                  rw [HP.out] at h1
                  injection h1 with h1
                  rw [← h1]; exact hls))
                clear hle hpj hls
                go_wp2_with fail
                go_quiet (fail)
                go_wp2_with fail
                go_roundw
                case rel => exact ⟨k + 1, by omega, by go_num, Lib.hid (.inr ⟨j, rfl, HX.out⟩), _, rfl⟩
                case measure => simp [intOf]; omega
      · obtain rfl : k = l.length := by omega
        have hki : ¬ ((l.length : Int) < (l.length : Int)) := by omega
        rcases HB.out with ⟨rfl, hnn⟩ | ⟨j, rfl, hle⟩
        · obtain ⟨hperm, hsrt⟩ := sinv_end HS.out hnn
          have HPP := Lib.hid (And.intro hperm hsrt)
          have hfl := List.length_filter_le hasV l
          have hol := hperm.length_eq
          have HLO := Lib.hid (own_lw2 HO.out (wl_perm hperm (wl_filter HL.out.2.1)) (by omega))
          obtain ⟨E, hE⟩ : ∃ E, chk O = E := ⟨_, rfl⟩
          have HE := Lib.hid hE
          clear hnn hperm hsrt hfl hol
          go_wp2_with fail
          refine (rcheck_any A1 n1 c1 O _ HN1.out (HLO.out.below (below_drewN (Below.refl _ _) _))).mono ?_
          rw [hE]
          clear hE
          rintro e w3 ⟨rfl, q3, rfl⟩
          by_cases h0 : E = 0
          · subst h0
            go_wp2_with fail
            go_ret2
            exact ⟨⟨O, HPP.out.1, HPP.out.2, .inl ⟨HE.out, A1, n1, c1, rfl, HN1.out, HLO.out.below (below_drewN (Below.refl _ _) _)⟩⟩, below_drewN HW.out _⟩
          · have h0' : (E != 0) = true := by simp [h0]
            go_wp2_with fail
            go_ret2
            exact ⟨⟨O, HPP.out.1, HPP.out.2, .inr ⟨by rw [HE.out]; exact h0, by rw [HE.out]; rfl⟩⟩, below_drewN HW.out _⟩
        · have hjl : j < l.length := hle.1
          have hjli : (j : Int) < (l.length : Int) := by omega
          obtain ⟨pj, hpj⟩ := getElem?_lt hjl
          have HS2 := Lib.hid (sinv_next HS.out hpj hle)
          have huj : U[j]? = some false := by obtain ⟨_, p, hc, _⟩ := hle; exact hc.1
          obtain ⟨bA, oA, rfl, hcell⟩ := HL.out.some_ (by omega)
          obtain ⟨s0, s1⟩ := hcell j pj hpj
          have hbl := block_lt_of_cell s0
          simp only at hbl
          have hgb : bA < g := by have := HG.out; omega
          have hne : ¬ g = bA := by omega
          have hne' : ¬ bA = g := by omega
          obtain ⟨w5, hw5⟩ : ∃ W, wo.drewN nq = W := ⟨_, rfl⟩
          have HW5 := Lib.hid (show Below w.heap.size w w5 from hw5 ▸ below_drewN HW.out nq)
          have HO5 := Lib.hid (show w5.ownsRow w.heap.size 36 2 (.slice A1 n1 c1) n1 (labC O) from hw5 ▸ own_drewN HO.out nq)
          have HGU5 := Lib.hid (show w5.heap[g]? = some (.cells (boC U) 4 (0, 0)) from hw5 ▸ HGU.out)
          rw [hw5]
          have p0 := (HW5.out.cell (p := ⟨bA, oA + j * 2, none⟩) hbl).trans s0
          have p1 := (HW5.out.cell (p := ⟨bA, oA + j * 2 + 1, none⟩) hbl).trans s1
          have hu0 : w5.cell? ⟨g, j, none⟩ = some (.bool false) := by rw [cell_of_row _ _ _ _ _ _ HGU5.out]; exact boC_at huj
          have hfz : w5.frozen? ⟨g, j, none⟩ = false := by simp [World.frozen?, HGU5.out]
          have hgl : g < w5.heap.size := (Array.getElem?_eq_some_iff.1 HGU5.out).1
          have hgw : w.heap.size ≤ g := by have := HG.out; omega
          have HO6 := Lib.hid (own_set (j := j) HO5.out HGU5.out (by decide) (.bool true))
          have HW6 := Lib.hid (HW5.out.setCell (p := ⟨g, j, none⟩) hgw (.bool true))
          have HU6 := Lib.hid (show (w5.setCell ⟨g, j, none⟩ (.bool true)).heap[g]? = some (.cells (boC (U.set j true)) 4 (0, 0)) by
            have := heap_set_at (i := j) HGU5.out (.bool true)
            rw [boC_set] at this
            exact this)
          have hnl : n1 < l.length := by
            have h1 := HS2.out.perm.length_eq
            have h2 := sel_len (U.set j true) l
            rw [List.length_append, List.length_singleton] at h1
            have := HN1.out
            omega
          clear hpj hle huj s0 s1 hw5 hcell
          go_wp2_with (at_builtin; refine put_labB (W := w) rfl _ _ rfl w.heap.size A1 n1 c1 O rfl HO6.out HW6.out (Nat.le_trans hgw (Nat.le_of_lt (by simp [World.setCell]; exact hgl))) (by omega) w5.heap.size (by simp [World.setCell]) rfl pj ?_)
          intro A2 c2 w7 hown7 hb7 hw7 hk7
          have HM7 := Lib.hid (show MRel (U.set j true) l (O ++ [pj]) g w (.slice A2 (n1 + 1) c2) w7 from ⟨A2, n1 + 1, c2, rfl, hk7 _ _ _ HU6.out, hown7, hb7⟩)
          clear hown7 hb7 hk7 p0 p1 hu0 hfz
          go_wp2_with fail
          go_roundw
          case rel => exact ⟨U.set j true, O ++ [pj], HS2, HM7⟩
          case measure => simp only [slLen]; omega
end Go.Proofs.Ytnnfoagdgoionab
