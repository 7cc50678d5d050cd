/- The contract of what SumSeals asks of a beginning: so many open, as they were. -/
import Derived.Test.YtlebgbigbiaanaaSealA
import Derived.Test.YtlebgbigbiaanaaOpensW
namespace Go.Proofs.Ytlebgbigbiaanaa
open Go.RowKit Go.Sort
set_option linter.unusedVariables false
attribute [local go_sem ↓] Go.wp_at_zero Go.wp_at_succ

set_option maxHeartbeats 2000000 in
set_option maxRecDepth 100000 in
theorem check_any (A0 P : Option Addr) (n c k L cL pb : Nat) (T : List Nat) (ls : List (List Nat)) (w : World) (hS : Sl w A0 c T) (hn : n = T.length) (hl : T.length ≤ 100000) (hL : Ls w P ls) (hLL : L = ls.length) (hbox : w.cell? ⟨pb, 0, none⟩ = some (.slice P L cL)) (hk : k ≤ L)
    (hok : okF T k) (hst : stopF T k) (hit : ∀ j, j < k → itemF T j = ls.getD j []) :
    Calls Try.prog 23 #[.slice A0 n c, .int .i64 (k : Int), .pointer (some ⟨pb, 0, none⟩)] w fun e w' => e = .returned (.bool true) ∧ Gr w w' := by
  have HS := Lib.hid hS
  have HN := Lib.hid hn
  have HL := Lib.hid hL
  have HLL := Lib.hid hLL
  have HB := Lib.hid hbox
  have HT := Lib.hid (And.intro hok (And.intro hst hit))
  have hni : (n : Int) ≤ 100000 := by omega
  clear hS hn hL hLL hbox hok hst hit
  go_enter Try.func23, Try.ntmps23
  go_wp2_with fail
  refine (all_any A0 n c T w HS.out HN.out hl).mono ?_
  rintro e w1 ⟨K, P1, c1, er, hok1, rfl, hLs1, hg1, hend⟩
  have hK : K = k := by
    refine stop_uniq hok1 ?_ HT.out.1 HT.out.2.1
    rcases hend with ⟨h, _⟩ | ⟨h1, h2, h3⟩
    · exact .inl h
    · exact .inr ⟨h1, by rw [← h2]; exact h3⟩
  subst hK
  have H1 := Lib.hid (And.intro hLs1 hg1)
  have hKn := okF_len hok1
  have hKi : (K : Int) ≤ 100000 := by omega
  clear hok1 hLs1 hg1
  obtain ⟨p, hp⟩ : ∃ p, posF T K = p := ⟨_, rfl⟩
  rw [hp]
  have heq : (!((er : Int) == 0) == ((p : Int) == (n : Int))) = false := by
    rw [hp] at hend
    rw [HN.out]
    rcases hend with ⟨h1, h2⟩ | ⟨h1, _, h2⟩
    · rw [h1, h2]; simp
    · have e1 : ((er : Int) == 0) = false := beq_eq_false_iff_ne.2 (by omega)
      have e2 : ((p : Int) == (T.length : Int)) = false := beq_eq_false_iff_ne.2 (by omega)
      rw [e1, e2]; rfl
  clear hp hend
  go_wp2_with fail
  go_loopw [31] (fun i wr => ∃ j : Nat, j ≤ K ∧ i = .int .i64 ((j : Nat) : Int) ∧ Gr w1 wr) (fun i _ => K - (intOf i).toNat)
  case atStart => exact ⟨0, Nat.zero_le _, rfl, Gr.refl _⟩
  case round =>
    obtain ⟨j, hj, rfl, hg⟩ := hrel
    by_cases hlt : j < K
    · have hji : (j : Int) < (K : Int) := by omega
      have hjL : (j : Int) < (L : Int) := by omega
      have hgw : Gr w wr := Gr.step H1.out.2 hg
      have hLk : j < ls.length := by have := HLL.out; omega
      rcases H1.out.1.2 with h00 | ⟨b1, o1, hPe, hcl⟩
      · rw [itemsF_length] at h00; omega
      · subst hPe
        obtain ⟨A7, c7, hcell, hS7⟩ := hcl j (itemF T j) (itemsF_at hlt)
        obtain ⟨b2, o2, rfl, hcl2⟩ := HL.out.some_ (by omega)
        have hlj := List.getElem?_eq_getElem hLk
        obtain ⟨A8, c8, hcell8, hS8⟩ := hcl2 j _ hlj
        have he : itemF T j = ls[j] := by
          rw [HT.out.2.2 j hlt, List.getD_eq_getElem?_getD, hlj]
          rfl
        rw [he] at hcell hS7
        obtain ⟨l, hll⟩ : ∃ l, ls[j] = l := ⟨_, rfl⟩
        rw [hll] at hcell hS7 hcell8 hS8
        have q1 := fun (m : Nat) => sl_text (w := wr.drewN m) (hS7.kept hg.kept)
        have q2 := fun (m : Nat) => sl_text (w := wr.drewN m) (hS8.kept hgw.kept)
        have qc : ∀ m : Nat, (wr.drewN m).cell? ⟨b1, o1 + j, none⟩ = some (.slice A7 l.length c7) := fun m => hg.kept _ _ hcell
        have qd : ∀ m : Nat, (wr.drewN m).cell? ⟨b2, o2 + j, none⟩ = some (.slice A8 l.length c8) := fun m => hgw.kept _ _ hcell8
        have qb : ∀ m : Nat, (wr.drewN m).cell? ⟨pb, 0, none⟩ = some (.slice (some ⟨b2, o2, none⟩) L cL) := fun m => hgw.kept _ _ HB.out
        have HG := Lib.hid hg
        clear hcell hS7 hcl hcl2 hcell8 hS8 he hll hlj hg hgw heq
        go_wp2_with fail
        go_quiet (fail)
        go_wp2_with fail
        go_roundw
        case rel => exact ⟨j + 1, by omega, ret_val (by omega), Gr.step HG.out (Below.drewN_ _ _)⟩
        case measure => simp [intOf] <;> omega
    · obtain rfl : j = K := by omega
      have hki : ¬ ((j : Int) < (j : Int)) := by omega
      go_wp2_with fail
      go_ret
      exact ⟨rfl, Gr.step H1.out.2 hg⟩
end Go.Proofs.Ytlebgbigbiaanaa
