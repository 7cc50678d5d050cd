/- A place more: append of places, and one. -/
import Derived.Test.YtnabfganecghkaaDoorRxE
import Derived.Deep.RegionLaw
namespace Go.Proofs.YtnabfganecghkaaDoor
open Go.RowKit
set_option linter.unusedVariables false

theorem infoP : (Tryd.prog.info? 104).map (fun i => (i.zero, i.size, i.bytes)) = some (some (.agg #[.int .u64 0, .int .u64 0, .int .u64 0, .int .u64 0, .int .u64 0]), 5, 40) := by kernel_rfl
/-- append(x, y) at []place, at a step of a region: the row grows in its own block or in a new one -/
theorem step_app_pl {ops : Array Oper} {o : Oper} {a : Act} {w : World} {K : Act → World → Prop} {Q : Exit → Act → World → Prop} {E : Prop} (hgd : o.guard = none) (s x : Operand)
    (ho : o.op = .call { callee := .builtin .append, args := #[s, x], argTypes := #[47, 47] })
    (base : Nat) (v : Value) (n : Nat) (P : List Pl) (hs : a.eval s = v) (hown : w.ownsRow base 104 5 v n (plC P))
    (g : Nat) (hx : a.eval x = .slice (some ⟨g, 0, none⟩) 1 1) (y : Pl) (hy : ∀ (i : Nat) (u : Value), (plE y)[i]? = some u → w.cell? ⟨g, i, none⟩ = some u) (hl : n + 1 ≤ 1000) (hbase : base ≤ w.heap.size)
    (h : ∀ v' w', w'.ownsRow base 104 5 v' (n + 1) (plC (P ++ [y])) → w.grownBy w' v.ownBlock → Own v v' w → K (a.put o.dst v') w') : if Region.wanted o (yielded ops a.tmps) = true then Oper.wp Tryd.prog o a w K Q else E := by
  have hw : Region.wanted o (yielded ops a.tmps) = true := by simp [Region.wanted, hgd]
  rw [if_pos hw]
  obtain ⟨i0, hi, hz0, hz1, hz2⟩ := info_parts infoP
  have e : plC P ++ plE y = plC (P ++ [y]) := by simp [plC]
  have h1c : ∀ u ∈ plE y, u.oneCell' = true := by
    intro u hu
    exact plC_one [y] u (by simpa [plC] using hu)
  have hc : ∀ j u, (plE y)[j]? = some u → w.cell? ((⟨g, 0, none⟩ : Addr).add j) = some u := by
    intro j u hu
    rw [addr_at, Nat.zero_add]
    exact hy j u hu
  obtain ⟨A, c, rfl⟩ := own_shape hown
  have hL : (plC P).length = n * 5 := by have := hown.1; omega
  cases A with
  | none =>
    have h0 : n = 0 ∧ c = 0 := by
      rcases hown.2 with ⟨hv, h0⟩ | ⟨b, cap, cur, hv, _⟩
      · injection hv with e1 e2 e3
        exact ⟨h0, e3⟩
      · injection hv with e1 e2 e3
        cases e1
    obtain ⟨rfl, rfl⟩ := h0
    have hP : P = [] := List.eq_nil_of_length_eq_zero (by have := plC_length P; omega)
    subst hP
    obtain ⟨v', w', hrun, r1, r2, _⟩ := run_append_own (P := Tryd.prog) w w.heap.size 47 o.type 104 i0 (.agg #[.int .u64 0, .int .u64 0, .int .u64 0, .int .u64 0, .int .u64 0]) 5 40 Tryd.underlying47 hi hz0 hz1 hz2 rfl (by decide) (.slice none 0 0) 0 [] (World.ownsRow_nil w _ _ _) ⟨g, 0, none⟩ 1 1 (plE y) rfl hc h1c (by unfold maxLen; omega) (by omega) (Nat.le_refl _)
    unfold Oper.wp
    simp [execOp, ho, resolve, invoke, builtin, hs, hx, hrun, Result.andThen]
    have r1' : w'.ownsRow w.heap.size 104 5 v' (0 + 1) (plC ([] ++ [y])) := by rw [← e]; exact r1
    exact h _ w' (own_base r1' hbase) r2 (fun r hr => .inr (r1.lt r hr).1)
  | some ad =>
    obtain ⟨b, rfl⟩ : ∃ b, ad = ⟨b, 0, none⟩ := by
      rcases hown.2 with ⟨hv, _⟩ | ⟨b, cap, cur, hv, _⟩
      · injection hv with e1 e2 e3
        cases e1
      · injection hv with e1 e2 e3
        exact ⟨b, by injection e1⟩
    by_cases hfit : n + 1 ≤ c
    · obtain ⟨w', hrun, r1, r2⟩ := run_append_fits (P := Tryd.prog) w base 47 o.type 104 i0 5 Tryd.underlying47 hi hz1 b n c (plC P) hown ⟨g, 0, none⟩ 1 1 (plE y) rfl hc h1c hfit
      unfold Oper.wp
      simp [execOp, ho, resolve, invoke, builtin, hs, hx, hrun, Result.andThen]
      rw [e] at r1
      exact h _ w' r1 r2 (fun g hg => .inl hg)
    · obtain ⟨v', w', hrun, r1, r2⟩ := run_append_arg_grows (P := Tryd.prog) w 47 o.type 104 i0 (.agg #[.int .u64 0, .int .u64 0, .int .u64 0, .int .u64 0, .int .u64 0]) 5 40 Tryd.underlying47 hi hz0 hz1 hz2 rfl (by decide) ⟨b, 0, none⟩ n c (plC P) hL (fun j u hu => (own_cl hown).src j u hu) ⟨g, 0, none⟩ 1 1 (plE y) rfl hc (by omega) (by unfold maxLen; omega) (by omega)
      unfold Oper.wp
      simp [execOp, ho, resolve, invoke, builtin, hs, hx, hrun, Result.andThen]
      rw [e] at r1
      exact h _ w' (own_base r1 hbase) ⟨r2.os, r2.tape, r2.output, r2.size, fun k hk _ => r2.block k hk (by simp)⟩ (fun r hr => .inr (r1.lt r hr).1)

theorem two_wrap (n : Nat) (h : n ≤ 63) : IntKind.u64.wrap ((2 : Int) ^ n) = ((2 ^ n : Nat) : Int) ∧ 2 ^ n < 18446744073709551616 := by
  have h2 : 2 ^ n < 18446744073709551616 := by
    have : 2 ^ n ≤ 2 ^ 63 := Nat.pow_le_pow_right (by decide) h
    omega
  refine ⟨?_, h2⟩
  rw [show (2 : Int) ^ n = ((2 ^ n : Nat) : Int) by simp]
  generalize 2 ^ n = m at *
  exact IntWalk.u64_in _ (by omega)
/-- behind the append, and the store of the new slice -/
theorem Ps.pushed {w w1 : World} {g B : Nat} {l : List UInt8} {d n : Nat} {v v' : Value} {P Q : List Pl} {e : Int} (p : Ps w g B l d v P e) (hn : n = Q.length) (hown : w1.ownsRow B 104 5 v' n (plC Q)) (hg : w.grownBy w1 v.ownBlock) (ho : Own v v' w) (hok : PlOk Q) :
    Ps (w1.setCell ⟨g, 2, none⟩ v') g B l d v' Q e ∧ Go1 g v v' w (w1.setCell ⟨g, 2, none⟩ v') := by
  subst hn
  have hp : w1.heap[g]? = w.heap[g]? := hg.block g p.gw (fun h => p.ne h.symm)
  have d0 := (World.cell?_of_block hp).trans p.c0
  have d1 := (World.cell?_of_block hp).trans p.c1
  have d2 := (World.cell?_of_block hp).trans p.c2
  have d3 := (World.cell?_of_block hp).trans p.c3
  have e0 := (World.frozen?_of_block hp).trans p.f0
  have e1 := (World.frozen?_of_block hp).trans p.f1
  have e2 := (World.frozen?_of_block hp).trans p.f2
  have e3 := (World.frozen?_of_block hp).trans p.f3
  have hs := hg.size
  have hbw := p.bw
  refine ⟨⟨p.gb, by simp; omega, by simp [go_sem, d0], by simp [go_sem, d1], by simp [go_sem, d2], by simp [go_sem, d3], by simp [go_sem, e0], by simp [go_sem, e1], by simp [go_sem, e2], by simp [go_sem, e3], ownsRow_setCell_below hown p.gb v', hok⟩, ⟨hg.os, hg.tape, hg.output, by simp; omega, fun k hk hkp hr => ?_⟩, ho⟩
  rw [Below.heap_setCell w1 ⟨g, 2, none⟩ v' k hkp]
  exact hg.block k hk (fun h => hr h.symm)

theorem Ps.grown2 {w w1 : World} {g B : Nat} {l : List UInt8} {d : Nat} {v : Value} {P : List Pl} {e : Int} (p : Ps w g B l d v P e) (hg : w.grownBy w1 v.ownBlock) : w1.cell? ⟨g, 2, none⟩ = some v ∧ w1.frozen? ⟨g, 2, none⟩ = false := by
  have hp : w1.heap[g]? = w.heap[g]? := hg.block g p.gw (fun h => p.ne h.symm)
  exact ⟨(World.cell?_of_block hp).trans p.c2, (World.frozen?_of_block hp).trans p.f2⟩
theorem new_five {W W2 : World} {X : Nat → Bool} (h : W.alloc (.cells #[.int .u64 (wd X 0 : Nat), .int .u64 (wd X 1 : Nat), .int .u64 (wd X 2 : Nat), .int .u64 (wd X 3 : Nat), .int .u64 0] 104 (0, 0)) = W2) (i : Nat) (u : Value) (hu : (plE ⟨X, 0⟩)[i]? = some u) : W2.cell? ⟨W.heap.size, i, none⟩ = some u := by
  have hb : W2.heap[W.heap.size]? = some (.cells #[.int .u64 (wd X 0 : Nat), .int .u64 (wd X 1 : Nat), .int .u64 (wd X 2 : Nat), .int .u64 (wd X 3 : Nat), .int .u64 0] 104 (0, 0)) := by rw [← h]; exact heap_alloc_new W _
  rw [cell_of_row _ _ _ _ _ _ hb]
  have hi : i < 5 := (List.getElem?_eq_some_iff.1 hu).1
  rw [← hu]
  rcases (show i = 0 ∨ i = 1 ∨ i = 2 ∨ i = 3 ∨ i = 4 by omega) with rfl | rfl | rfl | rfl | rfl <;> rfl
theorem step_box {w w1 : World} {g h : Nat} {v : Value} {x : Pc} (b : Bx w h g v x) (hg : w.grownBy w1 v.ownBlock) (u : Value) (v' : Value) (ho : Own v v' w) : Bx (w1.setCell ⟨g, 2, none⟩ u) h g v' x :=
  ⟨by have := b.hw; have := hg.size; simp; omega, b.hg, fun e => (ho h e).elim b.hv (fun e' => by have := b.hw; omega), (Below.heap_setCell w1 ⟨g, 2, none⟩ u h b.hg).trans ((hg.block h b.hw (fun e => b.hv e.symm)).trans b.blk)⟩
set_option maxHeartbeats 1000000 in
theorem one_at (X : Nat → Bool) (g B : Nat) (l : List UInt8) (d : Nat) (A : Option Addr) (n c M : Nat) (P : List Pl) (e : Int) (w : World) (hn : P.length = n) (hM : 2 ^ n = M) (p : Ps w g B l d (.slice A n c) P e) (hP : n ≤ 63) :
    Calls Tryd.prog 84 #[.pointer (some ⟨g, 0, none⟩), setV X] w fun y w' => y = .returned (pcV ⟨M, M, false⟩) ∧ ∃ v', Out g B d (.slice A n c) w l (P ++ [⟨X, 0⟩]) e v' w' := by
  obtain ⟨hm, hm2⟩ := two_wrap n hP
  rw [hM] at hm hm2
  obtain ⟨W, hW⟩ : ∃ W, (w.alloc (.cells #[.int .u64 (wd X 0 : Nat), .int .u64 (wd X 1 : Nat), .int .u64 (wd X 2 : Nat), .int .u64 (wd X 3 : Nat)] 102 (0, 0))).alloc (.cells #[.int .u64 0, .int .u64 0, .bool false] 50 (0, 0)) = W := ⟨_, rfl⟩
  have pW : Ps W g B l d (.slice A n c) P e := hW ▸ (p.alloc _).alloc _
  have s2 : Sx W w.heap.size X := hW ▸ (Sx.new w X).below ((Below.refl _ _).alloc (Nat.le_refl _) _)
  have hz : (w.alloc (.cells #[.int .u64 (wd X 0 : Nat), .int .u64 (wd X 1 : Nat), .int .u64 (wd X 2 : Nat), .int .u64 (wd X 3 : Nat)] 102 (0, 0))).heap.size = w.heap.size + 1 := by simp
  have b2 : Bx W (w.heap.size + 1) g (.slice A n c) ⟨0, 0, false⟩ := by
    have := Bx.new (p.alloc (.cells #[.int .u64 (wd X 0 : Nat), .int .u64 (wd X 1 : Nat), .int .u64 (wd X 2 : Nat), .int .u64 (wd X 3 : Nat)] 102 (0, 0))) ⟨0, 0, false⟩
    rw [hz] at this
    exact hW ▸ this
  have gW : Go1 g (.slice A n c) (.slice A n c) w W := hW ▸ ((Go1.refl _ _ _).alloc _).alloc _
  clear hz
  have hP1 : (n : Int) ≤ 63 := by omega
  have c2 := pW.c2
  obtain ⟨q0, q1, q2, q3⟩ := s2.cells
  have PW := Lib.hid pW
  have SW := Lib.hid s2
  have BW := Lib.hid b2
  have GW := Lib.hid gW
  have HN := Lib.hid hn
  unfold setV
  clear p pW s2 b2 gW hn hM
  go_enter Tryd.func84, Tryd.ntmps84
  go_wp2_with fail
  clear hW
  have hn1 : n + 1 ≤ 1000 := by omega
  obtain ⟨W2, hW2⟩ : ∃ W2, W.drew.alloc (.cells #[.int .u64 (wd X 0 : Nat), .int .u64 (wd X 1 : Nat), .int .u64 (wd X 2 : Nat), .int .u64 (wd X 3 : Nat), .int .u64 0] 104 (0, 0)) = W2 := ⟨_, rfl⟩
  have P2 := Lib.hid (show Ps W2 g B l d (.slice A n c) P e from hW2 ▸ PW.out.drew.alloc _)
  have B2 := Lib.hid (show Bx W2 (w.heap.size + 1) g (.slice A n c) ⟨0, 0, false⟩ from hW2 ▸ BW.out.drew.alloc _)
  have G2 := Lib.hid (show Go1 g (.slice A n c) (.slice A n c) w W2 from hW2 ▸ GW.out.drew.alloc _)
  have O2 := Lib.hid (show W2.ownsRow B 104 5 (.slice A n c) n (plC P) by have := P2.out.own; rw [HN.out] at this; exact this)
  have HY := Lib.hid (new_five hW2)
  have HB2 := Lib.hid P2.out.bw
  have cd2 : W.drew.cell? ⟨g, 2, none⟩ = some (.slice A n c) := c2
  have ce2 := P2.out.c2
  go_region_law (refine step_app_pl rfl (.tmp 16) (.tmp 19) rfl B (.slice A n c) n P rfl O2.out W.heap.size rfl ⟨X, 0⟩ HY.out hn1 HB2.out ?_; intro v3 w3 ho3 hg3 hv3; obtain ⟨A3, c3, rfl⟩ := own_shape ho3; obtain ⟨k3, f3⟩ := P2.out.grown2 hg3; have HO3 := Lib.hid ho3; have HG3 := Lib.hid hg3; have HV3 := Lib.hid hv3; clear ho3 hg3 hv3)
  all_goals
    obtain ⟨p4, g4⟩ := Ps.pushed P2.out (Q := P ++ [⟨X, 0⟩]) (by have := HN.out; simp; omega) HO3.out HG3.out HV3.out (fun p hp => by
      rcases List.mem_append.1 hp with hp | hp
      · exact P2.out.ok p hp
      · simp at hp
        subst hp
        show 0 < 18446744073709551616
        omega)
    have b4 := step_box B2.out HG3.out (.slice A3 (n + 1) c3) (.slice A3 (n + 1) c3) HV3.out
    obtain ⟨W4, hW4⟩ : ∃ W4, w3.setCell ⟨g, 2, none⟩ (.slice A3 (n + 1) c3) = W4 := ⟨_, rfl⟩
    rw [hW4] at p4 g4 b4 ⊢
    obtain ⟨z0, z1, z2, zf0, zf1, zf2⟩ := b4.cells
    have B4 := Lib.hid b4
    have P4 := Lib.hid p4
    have G4 := Lib.hid (G2.out.trans g4)
    clear p4 g4 b4 k3 f3 cd2 ce2 c2 q0 q1 q2 q3 hW4 hW2
    go_wp2_with fail
    refine bodyPost_ret (v := pcV ⟨M, M, false⟩) (by simp [results, Tryd.results84, go_sem, z0, z1, z2, pcV]) rfl ⟨rfl, .slice A3 (n + 1) c3, P4.out.box B4.out ⟨M, M, false⟩, ?_⟩
    have hs : w.heap.size ≤ w.heap.size + 1 := Nat.le_succ _
    exact ((G4.out.other (a := ⟨w.heap.size + 1, 0, none⟩) hs _).other (a := ⟨w.heap.size + 1, 1, none⟩) hs _).other (a := ⟨w.heap.size + 1, 2, none⟩) hs _
theorem one_any (X : Nat → Bool) (g B : Nat) (l : List UInt8) (d : Nat) (v : Value) (P : List Pl) (e : Int) (w : World) (p : Ps w g B l d v P e) (hP : P.length ≤ 63) :
    Calls Tryd.prog 84 #[.pointer (some ⟨g, 0, none⟩), setV X] w fun y w' => y = .returned (pcV ⟨2 ^ P.length, 2 ^ P.length, false⟩) ∧ ∃ v', Out g B d v w l (P ++ [⟨X, 0⟩]) e v' w' := by
  obtain ⟨A, c, rfl⟩ := own_shape p.own
  exact one_at X g B l d A P.length c _ P e w rfl rfl p hP
end Go.Proofs.YtnabfganecghkaaDoor
