/- Match: whether a pattern is all of a text. -/
import Derived.Test.YtnabfganecghkaaDoorRxV
namespace Go.Proofs.YtnabfganecghkaaDoor
open Go.RowKit Go.Sort
set_option linter.unusedVariables false

/-- what a match holds: its box, the places -/
structure Mw (w wr : World) (h : Nat) (A : Option Addr) (n c : Nat) (pc : Pc) (P : List Pl) : Prop where
  b : Below w.heap.size w wr
  hw : h < wr.heap.size
  blk : wr.heap[h]? = some (.cells #[.slice A n c, .int .u64 (pc.f : Nat), .int .u64 (pc.l : Nat), .bool pc.e] 52 (0, 0))
  cl : Cl wr A (plC P)
theorem Mw.below {w wr wr' : World} {h n c : Nat} {A : Option Addr} {pc : Pc} {P : List Pl} (m : Mw w wr h A n c pc P) (b : Below wr.heap.size wr wr') : Mw w wr' h A n c pc P :=
  ⟨m.b.trans (b.mono m.b.size), Nat.lt_of_lt_of_le m.hw b.size, (b.block h m.hw).trans m.blk, m.cl.below b⟩
theorem Mw.drewN {w wr : World} {h n c : Nat} {A : Option Addr} {pc : Pc} {P : List Pl} (m : Mw w wr h A n c pc P) (k : Nat) : Mw w (wr.drewN k) h A n c pc P :=
  m.below (below_drewN (Below.refl _ _) k)
theorem Mw.cells {w wr : World} {h n c : Nat} {A : Option Addr} {pc : Pc} {P : List Pl} (m : Mw w wr h A n c pc P) : wr.cell? ⟨h, 0, none⟩ = some (.slice A n c) ∧ wr.cell? ⟨h, 1, none⟩ = some (.int .u64 (pc.f : Nat)) ∧ wr.cell? ⟨h, 2, none⟩ = some (.int .u64 (pc.l : Nat)) ∧ wr.cell? ⟨h, 3, none⟩ = some (.bool pc.e) := by
  have hb := m.blk
  refine ⟨?_, ?_, ?_, ?_⟩
  · rw [cell_of_row _ _ _ _ _ _ hb]; rfl
  · rw [cell_of_row _ _ _ _ _ _ hb]; rfl
  · rw [cell_of_row _ _ _ _ _ _ hb]; rfl
  · rw [cell_of_row _ _ _ _ _ _ hb]; rfl
theorem Mw.place {w wr : World} {h n c b off : Nat} {pc : Pc} {P : List Pl} (m : Mw w wr h (some ⟨b, off, none⟩) n c pc P) {j : Nat} {p : Pl} (hp : P[j]? = some p) :
    wr.cell? ⟨b, off + j * 5, none⟩ = some (.int .u64 (wd p.X 0 : Nat)) ∧ wr.cell? ⟨b, off + j * 5 + 1, none⟩ = some (.int .u64 (wd p.X 1 : Nat)) ∧ wr.cell? ⟨b, off + j * 5 + 2, none⟩ = some (.int .u64 (wd p.X 2 : Nat)) ∧ wr.cell? ⟨b, off + j * 5 + 3, none⟩ = some (.int .u64 (wd p.X 3 : Nat)) ∧ wr.cell? ⟨b, off + j * 5 + 4, none⟩ = some (.int .u64 (p.n : Nat)) := by
  obtain ⟨b', o', e, hc⟩ := m.cl.some_ (by rw [plC_length]; have := (List.getElem?_eq_some_iff.1 hp).1; omega)
  injection e with e
  injection e with e1 e2 _
  subst e1 e2
  have h0 := fun i (hi : i < 5) (u : Value) (hu : (plE p)[i]? = some u) => hc (j * 5 + i) u (by rw [plC_at hp hi]; exact hu)
  refine ⟨h0 0 (by decide) _ rfl, ?_, ?_, ?_, ?_⟩
  · rw [Nat.add_assoc]; exact h0 1 (by decide) _ rfl
  · rw [Nat.add_assoc]; exact h0 2 (by decide) _ rfl
  · rw [Nat.add_assoc]; exact h0 3 (by decide) _ rfl
  · rw [Nat.add_assoc]; exact h0 4 (by decide) _ rfl
def MoRel (w : World) (h : Nat) (A : Option Addr) (n c : Nat) (pc : Pc) (P : List Pl) (S : List UInt8) (R : Bool) (v5 v6 v19 : Value) (wr : World) : Prop :=
  ∃ (k m : Nat) (e : Bool), v5 = .int .u64 (m : Nat) ∧ v6 = .bool e ∧ v19 = .int .i64 (k : Int) ∧ k ≤ S.length ∧ m < 18446744073709551616 ∧ simF P pc.l m e (S.drop k) = R ∧ Mw w wr h A n c pc P
def MiRel (w : World) (h : Nat) (A : Option Addr) (n c : Nat) (pc : Pc) (P : List Pl) (m cc : Nat) (T : Nat × Nat) (v8 v9 v25 : Value) (wr : World) : Prop :=
  ∃ (j a1 a2 : Nat), v8 = .int .u64 (a1 : Nat) ∧ v9 = .int .u64 (a2 : Nat) ∧ v25 = .int .i64 (j : Int) ∧ j ≤ P.length ∧ a1 < 18446744073709551616 ∧ a2 < 18446744073709551616 ∧ stepF m cc j (P.drop j) (a1, a2) = T ∧ Mw w wr h A n c pc P
theorem ne_nat (n : Nat) : (((n : Nat) : Int) != 0) = !(n == 0) := by
  by_cases h : n = 0
  · subst h; rfl
  · have h1 : (((n : Nat) : Int) != 0) = true := by
      rw [bne_iff_ne]
      omega
    have h2 : (n == 0) = false := by
      rw [beq_eq_false_iff_ne]
      exact h
    rw [h1, h2]
    rfl
set_option maxHeartbeats 4000000 in
theorem match_at (A : Option Addr) (n c : Nat) (P : List Pl) (pc : Pc) (t : ByteArray) (w : World) (hn : P.length = n) (hcl : Cl w A (plC P)) (hn64 : n ≤ 64) (hok : PlOk P) (hpok : PcOk pc) (ht : t.size ≤ 4611686018427387904) :
    Calls Tryd.prog 31 #[rgV A n c pc, .string t] w fun y w' => y = .returned (.bool (matchF pc P t.data.toList)) ∧ Below w.heap.size w w' := by
  obtain ⟨S, hS⟩ : ∃ S, t.data.toList = S := ⟨_, rfl⟩
  obtain ⟨R, hR⟩ : ∃ R, matchF pc P S = R := ⟨_, rfl⟩
  obtain ⟨W, hW⟩ : ∃ W, w.alloc (.cells #[.slice A n c, .int .u64 (pc.f : Nat), .int .u64 (pc.l : Nat), .bool pc.e] 52 (0, 0)) = W := ⟨_, rfl⟩
  obtain ⟨h, hh⟩ : ∃ h, w.heap.size = h := ⟨_, rfl⟩
  have bW : Below w.heap.size w W := hW ▸ (Below.refl _ _).alloc (Nat.le_refl _) _
  have MW := Lib.hid (show Mw w W h A n c pc P from ⟨bW, by rw [← hW, ← hh]; simp, hh ▸ hW ▸ heap_alloc_new w _, hcl.below bW⟩)
  obtain ⟨z0, z1, z2, z3⟩ := MW.out.cells
  have hlen : S.length = t.size := by rw [← hS, Array.length_toList]; rfl
  have HLEN := Lib.hid hlen
  have HN := Lib.hid hn
  have HOK := Lib.hid hok
  have HPO := Lib.hid hpok
  have HAT := Lib.hid (show ∀ (k : Nat) (hk : k < t.size), S.drop k = t[k] :: S.drop (k + 1) from fun k hk => by
    subst hS
    rw [List.drop_eq_getElem_cons (by rw [Array.length_toList]; exact hk)]
    rfl)
  rw [hS, hR]
  have HR := Lib.hid hR
  unfold rgV
  clear bW hcl hS hR hlen hn hok hpok
  go_enter Tryd.func31, Tryd.ntmps31
  go_wp2_with fail
  clear hW hh
  go_quiet (fail)
  go_wp2_with fail
  have MW2 := Lib.hid (MW.out.drewN nq)
  clear z0 z1 z2 z3
  go_loopw [5, 6, 19] (fun v5 v6 v19 wr => Hid (MoRel w h A n c pc P S R v5 v6 v19 wr)) (fun _ _ v19 _ => t.size - (intOf v19).toNat)
  case atStart => exact Lib.hid ⟨0, pc.f, pc.e, rfl, rfl, rfl, Nat.zero_le _, HPO.out.1, HR.out, MW2.out⟩
  case round =>
    clear MW2 MW
    obtain ⟨k, m, e, rfl, rfl, rfl, hk, hm, hsim, mw⟩ := hrel.out
    clear hrel
    have hkt : k ≤ t.size := by rw [← HLEN.out]; exact hk
    by_cases hlt : k < t.size
    · have hki : (k : Int) < (t.size : Int) := by omega
      have hsim2 := hsim
      rw [HAT.out k hlt, simF] at hsim2
      obtain ⟨cc, hcc⟩ : ∃ cc, t[k] = cc := ⟨_, rfl⟩
      rw [hcc] at hsim2
      obtain ⟨TT, hTT⟩ : ∃ TT, stepF m cc.toNat 0 P (0, 0) = TT := ⟨_, rfl⟩
      rw [hTT] at hsim2
      have HSIM := Lib.hid hsim2
      have HTT := Lib.hid hTT
      have HCC := Lib.hid hcc
      have MW := Lib.hid mw
      have HM := Lib.hid hm
      obtain ⟨wo, hwo⟩ : ∃ wo, wo = wr := ⟨_, rfl⟩
      obtain ⟨z0, z1, z2, z3⟩ := mw.cells
      clear hsim hsim2 hTT mw hk
      go_wp2_with fail
      clear hwo z0 z1 z2 z3
      go_loopw [8, 9, 25] (fun v8 v9 v25 wr => Hid (MiRel w h A n c pc P m cc.toNat TT v8 v9 v25 wr)) (fun _ _ v25 _ => n - (intOf v25).toNat)
      case atStart => exact Lib.hid ⟨0, 0, 0, rfl, rfl, rfl, Nat.zero_le _, by omega, by omega, HTT.out, MW.out⟩
      case round =>
        obtain ⟨j, a1, a2, rfl, rfl, rfl, hj, ha1, ha2, hst, mw⟩ := hrel.out
        clear hrel
        by_cases hjn : j < n
        · have hjP : j < P.length := by have := HN.out; omega
          have hji : (j : Int) < (n : Int) := by omega
          have hmin : min j 64 = j := by omega
          obtain ⟨p, hp⟩ : ∃ p, P[j]? = some p := ⟨P[j], List.getElem?_eq_getElem hjP⟩
          have hdr : P.drop j = p :: P.drop (j + 1) := by
            rw [List.drop_eq_getElem_cons hjP]
            have := List.getElem?_eq_getElem hjP
            rw [hp] at this
            injection this with this
            rw [this]
          rw [hdr, stepF] at hst
          obtain ⟨b, off, hA, _⟩ := mw.cl.some_ (by rw [plC_length]; omega)
          subst hA
          have hab := and_bit m j HM.out
          have MJ := Lib.hid mw
          obtain ⟨y0, y1, y2, y3⟩ := mw.cells
          obtain ⟨q0, q1, q2, q3, q4⟩ := mw.place hp
          have hcn : t[k].toNat = cc.toNat := by rw [HCC.out]
          have HP := Lib.hid hp
          by_cases htb : m.testBit j = true
          · rw [if_pos htb] at hab
            rw [htb, Bool.true_and] at hst
            obtain ⟨xb, hxb⟩ : ∃ xb, p.X cc.toNat = xb := ⟨_, rfl⟩
            rw [hxb] at hst
            have HST := Lib.hid hst
            have HX := Lib.hid hxb
            have y0' := cell_regrown y0
            have q0' := cell_regrown q0
            have q1' := cell_regrown q1
            have q2' := cell_regrown q2
            have q3' := cell_regrown q3
            clear hst hdr mw hp htb hxb
            go_wp2_with fail
            refine wp_region_quiet_below (by kernel_rfl) (by kernel_rfl) ?_
            repeat (any_goals (first | go_big_quiet_step (first | (go_at_call 45; exact Calls.regrown_of (has_any p.X cc _))) | quiet_step (first | (go_at_call 45; exact Calls.regrown_of (has_any p.X cc _)))))
            refine wpQuiet_nil ?_
            intro _ hw'
            obtain ⟨⟨dq, osq⟩, hw''⟩ := hw'
            subst hw''
            have M3 := MJ.out.below (below_regrown wr dq osq)
            clear y0' q0' q1' q2' q3' y0 y1 y2 y3 q0 q1 q2 q3 q4
            generalize grow (redrawn wr dq) osq = w3 at *
            rw [HX.out]
            cases xb with
            | false =>
              have M3 := Lib.hid M3
              go_wp2_with fail
              go_roundw
              case rel => exact Lib.hid ⟨j + 1, a1, a2, rfl, rfl, by go_num, by omega, ha1, ha2, HST.out, M3.out⟩
              case measure => simp [intOf]; omega
            | true =>
              obtain ⟨y0, y1, y2, y3⟩ := M3.cells
              obtain ⟨_, _, _, _, q4⟩ := M3.place HP.out
              obtain ⟨hw1, hw2⟩ := two_wrap j (by omega)
              have hor1 := u64_or_nat a1 (2 ^ j) ha1 hw2
              have h2p : ((2 ^ j : Nat) : Int) = (2 : Int) ^ j := by simp
              rw [h2p] at hw1 hor1
              have hpn : p.n < 18446744073709551616 := HOK.out p (List.mem_of_getElem? HP.out)
              have hor2 := u64_or_nat a2 p.n ha2 hpn
              have HN1 := Lib.hid (show (a1 ||| 2 ^ j) < 18446744073709551616 from Nat.or_lt_two_pow (n := 64) ha1 hw2)
              have HN2 := Lib.hid (show (a2 ||| p.n) < 18446744073709551616 from Nat.or_lt_two_pow (n := 64) ha2 hpn)
              simp only [if_true] at HST
              obtain ⟨N1, hN1⟩ : ∃ N1, a1 ||| 2 ^ j = N1 := ⟨_, rfl⟩
              obtain ⟨N2, hN2⟩ : ∃ N2, a2 ||| p.n = N2 := ⟨_, rfl⟩
              rw [hN1] at hor1 HN1
              rw [hN2] at hor2 HN2
              have HST2 := Lib.hid (show stepF m cc.toNat (j + 1) (P.drop (j + 1)) (N1, N2) = TT by
                have := HST.out
                rw [hN1, hN2] at this
                exact this)
              have M3 := Lib.hid M3
              clear HST h2p hN1 hN2 hw2 hpn
              go_wp2_with fail
              go_roundw
              case rel => exact Lib.hid ⟨j + 1, N1, N2, rfl, rfl, by go_num, by omega, HN1.out, HN2.out, HST2.out, M3.out⟩
              case measure => simp [intOf]; omega
          · rw [if_neg htb] at hab
            have htb' : m.testBit j = false := by simpa using htb
            rw [htb', Bool.false_and] at hst
            have HST := Lib.hid hst
            clear hst hdr mw hp htb htb'
            go_wp2_with fail
            go_quiet (fail)
            go_wp2_with fail
            go_roundw
            case rel => exact Lib.hid ⟨j + 1, a1, a2, rfl, rfl, by go_num, by omega, ha1, ha2, HST.out, MJ.out.drewN _⟩
            case measure => simp [intOf]; omega
        · obtain rfl : j = n := by have := HN.out; omega
          have hji : ¬ (j : Int) < (j : Int) := by omega
          have hTT : TT = (a1, a2) := by
            rw [List.drop_eq_nil_of_le (by rw [HN.out]; exact Nat.le_refl _), stepF] at hst
            exact hst.symm
          subst hTT
          have hand := u64_and_nat a1 pc.l ha1 HPO.out.2
          have hne := ne_nat (a1 &&& pc.l)
          obtain ⟨Z, hZ⟩ : ∃ Z, (!(a1 &&& pc.l == 0)) = Z := ⟨_, rfl⟩
          have HSIM2 := Lib.hid (show simF P pc.l a2 Z (S.drop (k + 1)) = R by rw [← hZ]; exact HSIM.out)
          rw [hZ] at hne
          obtain ⟨NA, hNA⟩ : ∃ NA, a1 &&& pc.l = NA := ⟨_, rfl⟩
          rw [hNA] at hand hne
          have MJ := Lib.hid mw
          obtain ⟨y0, y1, y2, y3⟩ := mw.cells
          clear hst mw hZ hNA
          go_wp2_with fail
          go_quiet (fail)
          go_wp2_with fail
          go_roundw
          case rel => exact Lib.hid ⟨k + 1, a2, Z, rfl, rfl, by go_num, by rw [HLEN.out]; omega, ha2, HSIM2.out, MJ.out.drewN _⟩
          case measure => simp [intOf]; omega
    · have hki : ¬ (k : Int) < (t.size : Int) := by omega
      have HE := Lib.hid (show e = R by
        have : S.drop k = [] := List.drop_eq_nil_of_le (by rw [HLEN.out]; omega)
        rw [this, simF] at hsim
        exact hsim)
      have HB := Lib.hid mw.b
      clear hsim mw
      go_wp2_with fail
      go_ret
      exact ⟨by rw [HE.out]; rfl, HB.out⟩
theorem match_any (V : Value) (P : List Pl) (pc : Pc) (t : ByteArray) (w : World) (h : Rg w V P pc) (ht : t.size ≤ 4611686018427387904) :
    Calls Tryd.prog 31 #[V, .string t] w fun y w' => y = .returned (.bool (matchF pc P t.data.toList)) ∧ Below w.heap.size w w' := by
  obtain ⟨A, c, rfl, hcl⟩ := h.ex
  exact match_at A P.length c P pc t w rfl hcl h.n64 h.ok h.pok ht
end Go.Proofs.YtnabfganecghkaaDoor
