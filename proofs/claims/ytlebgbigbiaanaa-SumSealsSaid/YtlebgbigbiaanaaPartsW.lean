/- The law SumParts' walk: for all slices of slices of bytes, every uint16 and every byte it returns true; of what was in memory nothing turns. -/
import Derived.Test.YtlebgbigbiaanaaAddsW
namespace Go.Proofs.Ytlebgbigbiaanaa
open Go.RowKit Go.Sort
set_option linter.unusedVariables false

/-- a slice of slices of bytes that came in -/
def Ls (w : World) (P : Option Addr) (ls : List (List Nat)) : Prop :=
  ls.length ≤ 9223372036854775807 ∧ (ls.length = 0 ∨ ∃ b off, P = some ⟨b, off, none⟩ ∧ ∀ (j : Nat) (l : List Nat), ls[j]? = some l → ∃ A c, w.cell? ⟨b, off + j, none⟩ = some (.slice A l.length c) ∧ Sl w A c l)
theorem Ls.ps {w : World} {P : Option Addr} {ls : List (List Nat)} (h : Ls w P ls) : Ps w P ls := by
  refine ⟨h.1, ?_⟩
  rcases h.2 with h0 | ⟨b, off, e, hc⟩
  · exact .inl h0
  · refine .inr ⟨b, off, e, fun j l hj => ?_⟩
    obtain ⟨A, c, h1, h2⟩ := hc j l hj
    exact ⟨A, c, h1, h2.2.2.2⟩
theorem Ls.some_ {w : World} {P : Option Addr} {ls : List (List Nat)} (h : Ls w P ls) (h0 : 0 < ls.length) : ∃ b off, P = some ⟨b, off, none⟩ ∧ ∀ (j : Nat) (l : List Nat), ls[j]? = some l → ∃ A c, w.cell? ⟨b, off + j, none⟩ = some (.slice A l.length c) ∧ Sl w A c l := by
  rcases h.2 with h | h
  · omega
  · exact h
theorem Ls.kept {w w' : World} {P : Option Addr} {ls : List (List Nat)} (h : Ls w P ls) (k : Kept w w') : Ls w' P ls := by
  refine ⟨h.1, ?_⟩
  rcases h.2 with h0 | ⟨b, off, e, hc⟩
  · exact .inl h0
  · refine .inr ⟨b, off, e, fun j l hj => ?_⟩
    obtain ⟨A, c, h1, h2⟩ := hc j l hj
    exact ⟨A, c, k _ _ h1, h2.kept k⟩
theorem Ls.b8 {w : World} {P : Option Addr} {ls : List (List Nat)} (h : Ls w P ls) : ∀ x ∈ ls.flatten, x < 256 := flat_lt (ps_lt h.ps)

/-- the bytes of the first k parts -/
def flK (ls : List (List Nat)) (k : Nat) : List Nat := (ls.take k).flatten
theorem flK_zero (ls : List (List Nat)) : flK ls 0 = [] := rfl
theorem flK_all (ls : List (List Nat)) : flK ls ls.length = ls.flatten := by unfold flK; rw [List.take_length]
theorem flK_snoc {ls : List (List Nat)} {k : Nat} {l : List Nat} (h : ls[k]? = some l) : flK ls (k + 1) = flK ls k ++ l := flat_snoc ls k l h
theorem pow_mod8 (m : Nat) : 0 < 2 ^ (m % 8) ∧ 2 ^ (m % 8) < 256 ∧ ((2 : Int) ^ (m % 8) % 256) = ((2 ^ (m % 8) : Nat) : Int) := by
  have h : m % 8 = 0 ∨ m % 8 = 1 ∨ m % 8 = 2 ∨ m % 8 = 3 ∨ m % 8 = 4 ∨ m % 8 = 5 ∨ m % 8 = 6 ∨ m % 8 = 7 := by omega
  rcases h with e | e | e | e | e | e | e | e <;> (rw [e]; decide)
theorem xor_ne {x t : Nat} (h : 0 < t) : x ^^^ t ≠ x := by
  intro e
  have : x ^^^ (x ^^^ t) = x ^^^ x := by rw [e]
  rw [← Nat.xor_assoc, Nat.xor_self, Nat.zero_xor] at this
  omega
theorem Bt.set_ {w : World} {g i y : Nat} {F : List Nat} {u : Value} (h : Bt w (some ⟨g, 0, none⟩) F) (hi : i < F.length) (hy : y < 256) (hu : w.cell? ⟨g, i, none⟩ = some u) : Bt (w.setCell ⟨g, i, none⟩ (.int .u8 (y : Int))) (some ⟨g, 0, none⟩) (F.set i y) := by
  obtain ⟨b', off', e, hc⟩ := h.some_ (by omega)
  obtain ⟨rfl, rfl⟩ : g = b' ∧ 0 = off' := by simpa using e
  refine ⟨fun z hz => ?_, by rw [List.length_set]; exact h.2.1, .inr ⟨g, 0, rfl, fun j z hj => ?_⟩⟩
  · rcases List.mem_or_eq_of_mem_set hz with hz | hz
    · exact h.1 z hz
    · omega
  · rw [Nat.zero_add]
    rw [List.getElem?_set] at hj
    by_cases e : i = j
    · subst e
      rw [if_pos rfl, if_pos hi] at hj
      have : z = y := by simpa using hj.symm
      subst this
      exact World.cell?_setCell_same _ _ _ hu
    · rw [if_neg e] at hj
      have := hc j z hj
      rw [Nat.zero_add] at this
      rw [World.cell?_setCell_other _ _ _ _ (by intro q; simp at q)]
      exact this
theorem turn_at {F : List Nat} {i x : Nat} (h : F[i]? = some x) (y : Nat) : F = F.take i ++ x :: F.drop (i + 1) ∧ F.set i y = F.take i ++ y :: F.drop (i + 1) := by
  obtain ⟨hi, rfl⟩ := List.getElem?_eq_some_iff.1 h
  refine ⟨by simp, ?_⟩
  rw [List.set_eq_take_append_cons_drop, if_pos hi]
theorem crc_set {F : List Nat} {i x y : Nat} (hF : ∀ z ∈ F, z < 256) (h : F[i]? = some x) (hy : y < 256) (hne : y ≠ x) : crcOf (F.set i y) ≠ crcOf F := by
  obtain ⟨e1, e2⟩ := turn_at h y
  rw [e2]
  conv => rhs; rw [e1]
  have hx : x < 256 := hF x (List.mem_of_getElem? h)
  exact crcOf_turned (fun z hz => hF z (List.mem_of_mem_take hz)) (fun z hz => hF z (List.mem_of_mem_drop hz)) hy hx hne

set_option maxHeartbeats 4000000 in
set_option maxRecDepth 100000 in
theorem parts_any (P : Option Addr) (c : Nat) (ls : List (List Nat)) (p m : Nat) (w : World) (S0 : Ls w P ls) (hp : p ≤ 65535) (hm : m ≤ 255) :
    Calls Try.prog 6 #[.slice P ls.length c, .int .u16 (p : Int), .int .u8 (m : Int)] w fun e w' => e = .returned (.bool true) ∧ Below w.heap.size w w' := by
  have H0 := Lib.hid S0
  have hlen := S0.1
  clear S0
  go_enter Try.func6, Try.ntmps6
  go_wp2_with fail
  go_loopw [7, 14] (fun v i wr => ∃ k : Nat, k ≤ ls.length ∧ i = .int .i64 k ∧ (flK ls k).length ≤ 300 * k ∧ (0 < k → ls.length ≤ 20) ∧ wr.ownsRow w.heap.size 5 1 v (flK ls k).length (cellsB (flK ls k)) ∧ Gr w wr) (fun _ i _ => ls.length - (intOf i).toNat)
  case atStart => exact ⟨0, by omega, rfl, by simp [flK_zero], by omega, World.ownsRow_nil _ _ _ _, Gr.refl _⟩
  case round =>
    obtain ⟨k, hk, rfl, hl3, hk20, hown, hg⟩ := hrel
    have HO := Lib.hid hown
    clear hown
    by_cases hlt : k < ls.length
    · have hki : (k : Int) < (ls.length : Int) := by omega
      obtain ⟨b, off, rfl, hc⟩ := (H0.out.kept hg.kept).some_ (by omega)
      obtain ⟨l, hl⟩ := getElem?_lt hlt
      obtain ⟨A, cA, q1, q2⟩ := hc k l hl
      have HS := Lib.hid (flK_snoc hl)
      have Q2 := Lib.hid q2
      clear hc hl q2
      by_cases h300 : 300 < l.length
      · have h300i : (300 : Int) < (l.length : Int) := by omega
        go_wp2_with fail
        refine (awake03 _).mono ?_
        rintro e w3 ⟨rfl, hb3⟩
        have hg3 : Gr w w3 := Gr.step hg hb3
        clear hb3
        go_wp2_with fail
        go_ret
        exact ⟨rfl, hg3⟩
      · have h300i : (l.length : Int) ≤ 300 := by omega
        by_cases h20 : 20 < ls.length
        · have h20i : (20 : Int) < (ls.length : Int) := by omega
          go_wp2_with fail
          refine (awake03 _).mono ?_
          rintro e w3 ⟨rfl, hb3⟩
          have hg3 : Gr w w3 := Gr.step hg hb3
          clear hb3
          go_wp2_with fail
          go_ret
          exact ⟨rfl, hg3⟩
        · have h20i : (ls.length : Int) ≤ 20 := by omega
          go_wp2_with (at_builtin; refine wpList_append_bt rfl _ _ rfl w.heap.size u7 (flK ls k).length (flK ls k) rfl ?c0 A l.length cA l rfl rfl ?c1 ?c2 ?c3 ?_)
          case c0 => exact HO.out
          case c1 => exact Q2.out
          case c2 => omega
          case c3 => exact hg.size
          intro v' w1 hown hgrow
          have hg1 : Gr w w1 := below_own hg hg.size HO.out hgrow
          rw [← HS.out] at hown
          have hN : (flK ls k).length + l.length = (flK ls (k + 1)).length := by rw [HS.out, List.length_append]
          rw [hN] at hown
          have HO1 := Lib.hid hown
          have HN := Lib.hid hN
          clear hown hgrow hN
          go_wp2_with fail
          go_roundw
          case rel => exact ⟨k + 1, by omega, by go_num, by rw [← HN.out]; omega, by omega, HO1.out, hg1⟩
          case measure => simp [intOf] <;> omega
    · obtain rfl : k = ls.length := by omega
      have hki : ¬ ((ls.length : Int) < (ls.length : Int)) := by omega
      rw [flK_all] at HO hl3
      obtain ⟨F, hF⟩ : ∃ F, ls.flatten = F := ⟨_, rfl⟩
      have F8 := Lib.hid H0.out.b8
      rw [hF] at HO hl3 F8
      have HF := Lib.hid hF
      clear hF
      have hn6 : F.length ≤ 6000 := by
        by_cases h0 : 0 < ls.length
        · have := hk20 h0; omega
        · omega
      obtain ⟨_, A, cA, rfl, hS⟩ := own_sl HO.out F8.out (by omega)
      have HS := Lib.hid hS
      clear hS HO hk20 hl3
      obtain ⟨V, hV⟩ : ∃ V, crcOf F = V := ⟨_, rfl⟩
      have HV := Lib.hid hV
      clear hV
      go_wp2_with fail
      refine (of_at P ls.length c ls V _ (H0.out.kept hg.kept).ps rfl (by rw [HF.out, HV.out])).mono ?_
      rintro e w1 ⟨rfl, hb1⟩
      have hg1 : Gr wr w1 := Gr.step (Gr.refl _) hb1
      clear hb1
      go_wp2_with fail
      refine (of_at _ 1 1 [F] V _ (ps_one rfl (HS.out.2.2.2.kept hg1.kept) _) rfl (by rw [← HV.out]; simp)).mono ?_
      rintro e w2 ⟨rfl, hb2⟩
      have hg2 : Gr wr w2 := Gr.step (Gr.alloc hg1 _) hb2
      clear hb2
      go_wp2_with fail
      refine (of_at _ 2 2 [F, []] V _ (ps_two rfl rfl (HS.out.2.2.2.kept hg2.kept) (Bt.nil _ _) _) rfl (by rw [← HV.out]; simp)).mono ?_
      rintro e w3 ⟨rfl, hb3⟩
      have hg3 : Gr wr w3 := Gr.step (Gr.alloc hg2 _) hb3
      clear hb3
      by_cases hz : F.length = 0
      · have hzi : ((F.length : Int) == 0) = true := by simp [hz]
        go_wp2_with fail
        refine (awake03 _).mono ?_
        rintro e w4 ⟨rfl, hb4⟩
        have hg4 : Gr wr w4 := Gr.step hg3 hb4
        clear hb4
        go_wp2_with fail
        go_ret
        exact ⟨rfl, Gr.step (w := w) hg hg4⟩
      · have hzi : ((F.length : Int) == 0) = false := by rw [beq_eq_false_iff_ne]; omega
        obtain ⟨i, hi⟩ : ∃ i, p % F.length = i := ⟨_, rfl⟩
        have hin : i < F.length := by rw [← hi]; exact Nat.mod_lt _ (by omega)
        have e1 : (p : Int) % (F.length : Int) = (i : Int) := by rw [← hi]; omega
        have hF1 : 1 ≤ (F.length : Int) := by omega
        obtain ⟨x, hx⟩ := getElem?_lt hin
        have hx8 : x < 256 := F8.out x (List.mem_of_getElem? hx)
        have HX := Lib.hid hx
        clear hi hx
        go_wp2_with (at_builtin; refine wpList_append_bt rfl _ _ rfl w3.heap.size (.slice (some ⟨w3.heap.size, 0, none⟩) 0 0) 0 [] rfl ?e0 A F.length cA F rfl rfl ?e1 ?e2 ?e3 ?_)
        case e0 => exact ownsRow_new w3
        case e1 => exact HS.out.kept (hg3.alloc _).kept
        case e2 => omega
        case e3 => simp
        intro v' w4 hown hgrow
        try simp only [Nat.zero_add, List.nil_append] at hown
        have hg4 : Gr w3 w4 := (Gr.alloc (Gr.refl w3) _).grown hgrow (by simp) (fun k hk => by simp [Value.ownBlock] at hk; omega)
        obtain ⟨g, cB, rfl, hcB, hcm, hgb, hgl, hB⟩ := own_bt hown rfl F8.out (by omega) (by omega)
        have hfz := hown.frozenAt i
        have hcell : w4.cell? ⟨g, i, none⟩ = some (.int .u8 (x : Int)) := by
          have := hown.cellAt i (by omega)
          rw [this]
          unfold cellsB
          rw [List.getElem?_map, HX.out]
          rfl
        have HB := Lib.hid hB
        clear hown hgrow hB
        have hpw := pow_mod8 m
        obtain ⟨y, hy⟩ : ∃ y, x ^^^ 2 ^ (m % 8) = y := ⟨_, rfl⟩
        have hy8 : y < 256 := by rw [← hy]; exact xor_lt8 hx8 hpw.2.1
        have hyx : y ≠ x := by rw [← hy]; exact xor_ne hpw.1
        have e2 : bits .xor .u8 (x : Int) (2 ^ (m % 8) % 256) = (y : Int) := by rw [hpw.2.2, u8_xor_nat x _ hx8 hpw.2.1, hy]
        have HYX := Lib.hid hyx
        have e3 : ((crcOf (F.set i y) : Nat) : Int) ≠ (V : Int) := by
          have := crc_set F8.out HX.out hy8 hyx
          rw [HV.out] at this
          omega
        obtain ⟨V', hV'⟩ : ∃ V', crcOf (F.set i y) = V' := ⟨_, rfl⟩
        rw [hV'] at e3
        have e4 : ((V' : Int) != (V : Int)) = true := by rw [bne_iff_ne]; exact e3
        have HV' := Lib.hid hV'
        clear hpw hy hyx hV' e3
        go_wp2_with fail
        have hset : Bt (w4.setCell ⟨g, i, none⟩ (.int .u8 (y : Int))) (some ⟨g, 0, none⟩) (F.set i y) := HB.out.set_ hin hy8 hcell
        have hg5 : Gr w3 (w4.setCell ⟨g, i, none⟩ (.int .u8 (y : Int))) := Below.setCell hg4 hgb _
        obtain ⟨w5, hw5⟩ : ∃ w5, w4.setCell ⟨g, i, none⟩ (.int .u8 (y : Int)) = w5 := ⟨_, rfl⟩
        rw [hw5] at hset hg5 ⊢
        have HB5 := Lib.hid hset
        clear hset hw5 hfz hcell e1 e2
        refine (awake03 _).mono ?_
        rintro e w6 ⟨rfl, hb6⟩
        have hg6 : Gr w5 w6 := Gr.step (Gr.refl _) hb6
        clear hb6
        go_wp2_with fail
        refine (of_at _ 1 1 [F.set i y] V' _ (ps_one (by rw [List.length_set]) (HB5.out.kept hg6.kept) _) rfl (by rw [← HV'.out]; simp)).mono ?_
        rintro e w7 ⟨rfl, hb7⟩
        have hg7 : Gr w5 w7 := Gr.step (Gr.alloc hg6 _) hb7
        clear hb7
        go_wp2_with fail
        go_ret
        exact ⟨rfl, Gr.step (w := w) hg (Gr.step hg3 (Gr.step hg5 hg7))⟩

theorem ls_nil (w : World) : Ls w none [] := ⟨by simp, .inl rfl⟩
theorem ls_of_rows {w : World} {x : Addr} {len cap : Nat} {A : Nat → Option Addr} {L C : Nat → Nat} {Z : Nat → List Int} (hl : len ≤ cap) (hm : cap ≤ maxLen)
    (hrows : ∀ r, r < cap → w.cell? (x.add r) = some (.slice (A r) (L r) (C r)) ∧ L r ≤ C r ∧ C r ≤ maxLen ∧ (Z r).length = C r ∧ (∀ n ∈ Z r, (Lit.int .u8 n).wf = true) ∧ (A r = none → C r = 0) ∧
      ∀ a', A r = some a' → 0 ≤ a'.block ∧ ∀ c, c < C r → w.cell? (a'.add c) = some (.int .u8 ((Z r).getD c 0))) :
    ∃ ls : List (List Nat), ls.length = len ∧ Ls w (some x) ls := by
  have each : ∀ r, r < cap → ∃ bs : List Nat, bs.length = L r ∧ Sl w (A r) (C r) bs := by
    intro r hr
    obtain ⟨_, h1, h2, h3, h4, h5, h6⟩ := hrows r hr
    refine sl_of_row (zs := Z r) ?_
    cases hA : A r with
    | none =>
      have hc := h5 hA
      exact .inl ⟨rfl, by omega, hc, List.eq_nil_of_length_eq_zero (by omega)⟩
    | some a' => exact .inr ⟨a', rfl, h1, h2, h3, fun i hi => (h6 a' hA).2 i (by omega), h4⟩
  obtain ⟨f, hf⟩ : ∃ f : Nat → List Nat, ∀ r, r < cap → (f r).length = L r ∧ Sl w (A r) (C r) (f r) :=
    ⟨fun r => if h : r < cap then Classical.choose (each r h) else [], fun r h => by simp only [dif_pos h]; exact Classical.choose_spec (each r h)⟩
  refine ⟨(List.range len).map f, by simp, by simp; unfold maxLen at hm; omega, ?_⟩
  by_cases h0 : len = 0
  · exact .inl (by simp [h0])
  · obtain ⟨b, off, spot⟩ := x
    have hs : spot = none := by simpa [Addr.add] using World.cell?_spot (hrows 0 (by omega)).1
    subst hs
    refine .inr ⟨b, off, rfl, fun j l hj => ?_⟩
    have hjl : j < len := by
      obtain ⟨h, _⟩ := List.getElem?_eq_some_iff.1 hj
      simpa using h
    have hl' : l = f j := by
      simp [hjl] at hj
      exact hj.symm
    subst hl'
    obtain ⟨g1, g2⟩ := hf j (by omega)
    refine ⟨A j, C j, ?_, g2⟩
    rw [g1]
    have := (hrows j (by omega)).1
    rw [addr_add] at this
    exact this
theorem sumParts_walk (a0 : Option Addr) (c0 : Nat) (ls : List (List Nat)) (a1 a2 : Int) (w : World) (w0 : Ls w a0 ls) (w1 : (Lit.int .u16 a1).wf = true) (w2 : (Lit.int .u8 a2).wf = true) :
    Calls Try.prog 6 #[.slice a0 ls.length c0, .int .u16 a1, .int .u8 a2] w fun e w' => e = .returned (.bool true) ∧ Below w.heap.size w w' := by
  obtain ⟨b1, b2⟩ := bounds_u16 w1
  obtain ⟨b3, b4⟩ := bounds_u8 w2
  obtain ⟨p, rfl⟩ := Int.eq_ofNat_of_zero_le b1
  obtain ⟨m, rfl⟩ := Int.eq_ofNat_of_zero_le b3
  exact parts_any a0 c0 ls p m w w0 (by omega) (by omega)
end Go.Proofs.Ytlebgbigbiaanaa
