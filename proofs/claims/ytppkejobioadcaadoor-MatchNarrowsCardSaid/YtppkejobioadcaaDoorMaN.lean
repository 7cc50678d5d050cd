/- The walk of the law MatchNarrows. -/
import Derived.Test.YtppkejobioadcaaDoorMaT
import Derived.Laws.AppendOwnNone
namespace Go.Proofs.YtppkejobioadcaaDoor
open Go.RowKit Go.Sort
set_option linter.unusedVariables false

theorem mtC_one (l : List Mt) : ∀ u ∈ mtC l, u.oneCell' = true := by
  intro u hu
  obtain ⟨m, _, hm⟩ := List.mem_flatMap.1 hu
  simp [mtE] at hm
  rcases hm with rfl | rfl | rfl <;> rfl
/-- append(x, y...) at the document's matchers -/
theorem app_dms {ops : Array Oper} {rest : List Oper} {o : Oper} {a : Act} {w : World} {Q : Exit → Act → World → Prop} (hgd : o.guard = none) (s x : Operand)
    (ho : o.op = .call { callee := .builtin .append, args := #[s, x], argTypes := #[22, 22] })
    (base : Nat) (A : Option Addr) (n c : Nat) (l : List Mt) (hs : a.eval s = .slice A n c) (hown : w.ownsRow base 39 3 (.slice A n c) n (mtC l))
    (B : Option Addr) (m d : Nat) (y : List Mt) (hx : a.eval x = .slice B m d) (hd : B = none → d = 0) (hy : Cl w B (mtC y)) (hm : m = y.length) (k : Nat) (hk : n + m = k) (hl : k * 40 ≤ 140737488355328) (hbase : base ≤ w.heap.size)
    (h : ∀ A' c' w', w'.ownsRow base 39 3 (.slice A' k c') k (mtC (l ++ y)) → w.grownBy w' (Value.slice A n c).ownBlock → wpList Tryd.prog ops Q rest (a.put o.dst (.slice A' k c')) w') : wpList Tryd.prog ops Q (o :: rest) a w := by
  subst hm hk
  obtain ⟨i0, hi, hz0, hz1, hz2⟩ := info_parts infoDm
  cases B with
  | none =>
    have hy0 : y = [] := by
      rcases hy with h0 | ⟨_, _, h0, _⟩
      · cases y with
        | nil => rfl
        | cons p r => exact absurd (congrArg List.length h0) (by rw [mtC_length]; simp)
      · cases h0
    subst hy0
    obtain rfl := hd rfl
    exact wpList_append_own_none hgd s x 22 ho base 39 i0 3 Tryd.underlying22 hi _ n (mtC l) hs hown hx (h A c w (by rw [List.append_nil]; exact hown) (World.grownBy.refl w _))
  | some ad =>
    refine wpList_append_own w hgd s x 22 ho base 39 i0 (.agg #[.string ⟨#[]⟩, .int .i64 0, .string ⟨#[]⟩]) 3 40 Tryd.underlying22 hi hz0 hz1 hz2 rfl (by decide) _ n (mtC l) hs hown ad y.length d (mtC y) hx (mtC_length y) ?_ (mtC_one y) (by unfold maxLen; omega) hl hbase ?_
    · intro j u hu
      exact hy.src j u hu
    · intro v' w' h1 h2 _
      obtain ⟨A', c', rfl⟩ := own_shape h1
      rw [← mtC_append] at h1
      exact h A' c' w' h1 h2
/-- the same, where the order is drawn -/
theorem step_dms {ops : Array Oper} {o : Oper} {a : Act} {w : World} {K : Act → World → Prop} {Q : Exit → Act → World → Prop} {E : Prop} (hgd : o.guard = none) (s x : Operand)
    (ho : o.op = .call { callee := .builtin .append, args := #[s, x], argTypes := #[22, 22] })
    (base : Nat) (A : Option Addr) (n c : Nat) (l : List Mt) (hs : a.eval s = .slice A n c) (hown : w.ownsRow base 39 3 (.slice A n c) n (mtC l))
    (B : Option Addr) (m d : Nat) (y : List Mt) (hx : a.eval x = .slice B m d) (hd : B = none → d = 0) (hy : Cl w B (mtC y)) (hm : m = y.length) (k : Nat) (hk : n + m = k) (hl : k * 40 ≤ 140737488355328) (hbase : base ≤ w.heap.size)
    (h : ∀ A' c' w', w'.ownsRow base 39 3 (.slice A' k c') k (mtC (l ++ y)) → w.grownBy w' (Value.slice A n c).ownBlock → K (a.put o.dst (.slice A' k c')) w') : if Region.wanted o (yielded ops a.tmps) = true then Oper.wp Tryd.prog o a w K Q else E := by
  have hw : Region.wanted o (yielded ops a.tmps) = true := by simp [Region.wanted, hgd]
  rw [if_pos hw]
  subst hm hk
  obtain ⟨i0, hi, hz0, hz1, hz2⟩ := info_parts infoDm
  cases B with
  | none =>
    have hy0 : y = [] := by
      rcases hy with h0 | ⟨_, _, h0, _⟩
      · cases y with
        | nil => rfl
        | cons p r => exact absurd (congrArg List.length h0) (by rw [mtC_length]; simp)
      · cases h0
    subst hy0
    obtain rfl := hd rfl
    have hrun := run_append_owned_none (P := Tryd.prog) (w := w) base 22 o.type 39 i0 3 Tryd.underlying22 hi _ n (mtC l) hown
    unfold Oper.wp
    simp [execOp, ho, resolve, invoke, builtin, hs, hx, hrun, Result.andThen]
    exact h A c w (by rw [List.append_nil]; exact hown) (World.grownBy.refl w _)
  | some ad =>
    refine wp_append_own w s x 22 ho base 39 i0 (.agg #[.string ⟨#[]⟩, .int .i64 0, .string ⟨#[]⟩]) 3 40 Tryd.underlying22 hi hz0 hz1 hz2 rfl (by decide) _ n (mtC l) hs hown ad y.length d (mtC y) hx (mtC_length y) ?_ (mtC_one y) (by unfold maxLen; omega) hl hbase ?_
    · intro j u hu
      exact hy.src j u hu
    · intro v' w' h1 h2 _
      obtain ⟨A', c', rfl⟩ := own_shape h1
      rw [← mtC_append] at h1
      exact h A' c' w' h1 h2
theorem own_emptyD {w W : World} {g base : Nat} (hg : w.heap.size = g) (hW : w.alloc (.cells #[] 39 (0, 0)) = W) (hb : base ≤ w.heap.size) : W.ownsRow base 39 3 (.slice (some ⟨g, 0, none⟩) 0 0) 0 (mtC []) := by
  subst hg hW
  exact World.ownsRow_lit w #[] 0 hb (by unfold maxLen; omega) rfl
theorem cl_d3 {w : World} {g : Nat} {nm vl : ByteArray} {op : Int} (b : D3 w g nm op vl) : Cl w (some ⟨g, 0, none⟩) (mtC [⟨nm, op, vl⟩]) := by
  obtain ⟨⟨h0, h1, h2⟩, _⟩ := b.cells
  refine .inr ⟨g, 0, rfl, fun j v hj => ?_⟩
  rw [Nat.zero_add]
  rcases j with _ | _ | _ | j
  · simp [mtC, mtE] at hj; rw [← hj]; exact h0
  · simp [mtC, mtE] at hj; rw [← hj]; exact h1
  · simp [mtC, mtE] at hj; rw [← hj]; exact h2
  · simp [mtC, mtE] at hj

theorem wm_more {l : List Mt} {m : Mt} (h : Wm l) (hm : Wt m.nm ∧ Wt m.vl) : Wm (l ++ [m]) := by
  intro p hp
  rcases List.mem_append.1 hp with hp | hp
  · exact h p hp
  · simp at hp
    subst hp
    exact hm
theorem wm_two {l k : List Mt} (h : Wm l) (hm : Wm k) : Wm (l ++ k) := by
  intro p hp
  rcases List.mem_append.1 hp with hp | hp
  · exact h p hp
  · exact hm p hp
theorem mq_of {w : World} {base n c : Nat} {A : Option Addr} {X : List Mt} (h : w.ownsRow base 39 3 (.slice A n c) n (mtC X)) (hw : Wm X) (hl : X.length ≤ 9223372036854775807) : Mq w A X := ⟨hl, hw, own_cl h⟩
theorem allM_app (l k : List Mt) (a : List Lb.Lab) : allM (l ++ k) a = (allM l a && allM k a) := by unfold allM; rw [List.all_append]
theorem newE_nil : newE [] = 0 := newE_ok (by simp) (fun m hm => by simp at hm)

set_option maxHeartbeats 8000000 in
set_option maxRecDepth 100000 in
theorem narrow_main (A B : Option Addr) (n m c d : Nat) (nm vl : ByteArray) (op : Int) (ms : List Mt) (a : List Lb.Lab) (w : World) (hn : n = ms.length) (hm : m = a.length) (h : Mq w A ms) (ha : Lb.Lw w B a) (hT : Tab w) (hc : A = none → c = 0) (hM : ms.length ≤ 3518437208780) (hnm : Wt nm ∧ Wt vl) :
    Calls Tryd.prog 6 #[.slice A n c, .agg #[.string nm, .int .i64 op, .string vl], .slice B m d] w fun e w' => e = .returned (.bool true) ∧ Below w.heap.size w w' := by
  subst hn hm
  have HM := Lib.hid h
  have HA := Lib.hid ha
  have HT := Lib.hid hT
  have HC := Lib.hid hc
  have HWX := Lib.hid hnm
  obtain ⟨N, hN⟩ : ∃ N, ms.length = N := ⟨_, rfl⟩
  obtain ⟨M, hMM⟩ : ∃ M, a.length = M := ⟨_, rfl⟩
  have hNb : N ≤ 3518437208780 := by rw [← hN]; exact hM
  have HNB := Lib.hid hNb
  have HN := Lib.hid hN
  have HMM := Lib.hid hMM
  rw [hN, hMM]
  obtain ⟨g0, hg0⟩ : ∃ g0, w.heap.size = g0 := ⟨_, rfl⟩
  obtain ⟨W0, hW0⟩ : ∃ W0, w.alloc (.cells #[.string nm, .int .i64 op, .string vl] 39 (0, 0)) = W0 := ⟨_, rfl⟩
  have b0 : Below w.heap.size w W0 := hW0 ▸ (Below.refl _ _).alloc (Nat.le_refl _) _
  have Z0 : D3 W0 g0 nm op vl := hg0 ▸ hW0 ▸ D3.new w _ _ _
  have B0 := Lib.hid b0
  have X0 := Lib.hid Z0
  obtain ⟨⟨x0, x1, x2⟩, _⟩ := Z0.cells
  clear h ha hT hN hMM hM hc hnm Z0
  go_enter Tryd.func6, Tryd.ntmps6
  go_wp2_with fail
  have y0 : W0.drew.cell? ⟨g0, 0, none⟩ = some (.string nm) := x0
  have y1 : W0.drew.cell? ⟨g0, 1, none⟩ = some (.int .i64 op) := x1
  have y2 : W0.drew.cell? ⟨g0, 2, none⟩ = some (.string vl) := x2
  have BV := Lib.hid (show Below w.heap.size w W0.drew from B0.out.drew)
  have XV := Lib.hid (show D3 W0.drew g0 nm op vl from ⟨X0.out.hw, X0.out.blk⟩)
  have sV : W0.heap.size = g0 + 1 := by rw [← hW0, ← hg0]; simp
  have tV : W0.drew.heap.size = g0 + 1 := sV
  obtain ⟨WE, hWE⟩ : ∃ WE, W0.drew.alloc (.cells #[] 39 (0, 0)) = WE := ⟨_, rfl⟩
  obtain ⟨WO, hWO⟩ : ∃ WO, W0.drew.alloc (.cells #[.string nm, .int .i64 op, .string vl] 39 (0, 0)) = WO := ⟨_, rfl⟩
  obtain ⟨WEO, hWEO⟩ : ∃ WEO, WE.alloc (.cells #[.string nm, .int .i64 op, .string vl] 39 (0, 0)) = WEO := ⟨_, rfl⟩
  obtain ⟨WOE, hWOE⟩ : ∃ WOE, WO.alloc (.cells #[] 39 (0, 0)) = WOE := ⟨_, rfl⟩
  have bE : Below W0.drew.heap.size W0.drew WE := hWE ▸ (Below.refl _ _).alloc (Nat.le_refl _) _
  have bO : Below W0.drew.heap.size W0.drew WO := hWO ▸ (Below.refl _ _).alloc (Nat.le_refl _) _
  have bEO : Below WE.heap.size WE WEO := hWEO ▸ (Below.refl _ _).alloc (Nat.le_refl _) _
  have bOE : Below WO.heap.size WO WOE := hWOE ▸ (Below.refl _ _).alloc (Nat.le_refl _) _
  have sE : WE.heap.size = g0 + 1 + 1 := by rw [← hWE]; simp [tV]
  have sO : WO.heap.size = g0 + 1 + 1 := by rw [← hWO]; simp [tV]
  have BE := Lib.hid (BV.out.trans (bE.mono BV.out.size))
  have BO := Lib.hid (BV.out.trans (bO.mono BV.out.size))
  have BEO := Lib.hid (BE.out.trans (bEO.mono BE.out.size))
  have BOE := Lib.hid (BO.out.trans (bOE.mono BO.out.size))
  have OE := Lib.hid (own_emptyD tV hWE BV.out.size)
  have OOE := Lib.hid (own_emptyD sO hWOE BO.out.size)
  have OEO := Lib.hid (own_below OE.out bEO)
  have XE := Lib.hid (XV.out.below bE)
  obtain ⟨⟨e0, e1, e2⟩, _⟩ := XE.out.cells
  have XEO := Lib.hid (show D3 WEO (g0 + 1 + 1) nm op vl from sE ▸ hWEO ▸ D3.new WE _ _ _)
  have DO := Lib.hid (show D3 WO (g0 + 1) nm op vl from tV ▸ hWO ▸ D3.new W0.drew _ _ _)
  have XOE := Lib.hid (DO.out.below bOE)
  have MV := Lib.hid ((HM.out.below BE.out).2.2)
  have ME := Lib.hid ((HM.out.below BEO.out).2.2)
  have MO := Lib.hid ((HM.out.below BOE.out).2.2)
  have HNL := Lib.hid (show N * 40 ≤ 140737488355328 by omega)
  have HNL1 := Lib.hid (show (N + 1) * 40 ≤ 140737488355328 by omega)
  clear bE bO bEO bOE b0
  go_region_law (first
    | (refine step_dms rfl (.tmp 18) (.tmp 20) rfl w.heap.size A18 N c18 ms rfl O18.out (some ⟨g18, 0, none⟩) 1 1 [⟨nm, op, vl⟩] rfl (fun h => by cases h) L18.out rfl (N + 1) rfl HNL1.out B18.out.size ?_; intro A21 c21 w21 ho21 hg21; have O21 := Lib.hid ho21; have B21 := Lib.hid (B18.out.grown hg21 B18.out.size (fun k hk => (O18.out.lt k hk).1)); clear ho21 hg21)
    | (refine step_dms rfl (.tmp 16) (.tmp 17) rfl w.heap.size (some ⟨g0 + 1, 0, none⟩) 0 0 [] rfl OE.out A N c ms rfl HC.out MV.out HN.out.symm N (Nat.zero_add N) HNL.out BE.out.size ?_; intro A18 c18 w18 ho18 hg18
       have O18' := Lib.hid ho18
       have B18' := Lib.hid (BE.out.grown hg18 BE.out.size (fun k hk => (OE.out.lt k hk).1))
       have X18 := Lib.hid (show D3 w18 g0 nm op vl from ⟨Nat.lt_of_lt_of_le XE.out.hw hg18.size, (hg18.block g0 XE.out.hw (by simp [Value.ownBlock])).trans XE.out.blk⟩)
       obtain ⟨⟨f0, f1, f2⟩, _⟩ := X18.out.cells
       obtain ⟨g18, hg18z⟩ : ∃ g18, w18.heap.size = g18 := ⟨_, rfl⟩
       obtain ⟨W18, hW18⟩ : ∃ W18, w18.alloc (.cells #[.string nm, .int .i64 op, .string vl] 39 (0, 0)) = W18 := ⟨_, rfl⟩
       have b18 : Below w18.heap.size w18 W18 := hW18 ▸ (Below.refl _ _).alloc (Nat.le_refl _) _
       have B18 := Lib.hid (B18'.out.trans (b18.mono B18'.out.size))
       have O18 := Lib.hid (own_below O18'.out b18)
       have L18 := Lib.hid (cl_d3 (show D3 W18 g18 nm op vl from hg18z ▸ hW18 ▸ D3.new w18 _ _ _))
       clear ho18 hg18 b18)
    | (refine step_dms rfl (.tmp 16) (.tmp 17) rfl w.heap.size (some ⟨g0 + 1, 0, none⟩) 0 0 [] rfl OEO.out A N c ms rfl HC.out ME.out HN.out.symm N (Nat.zero_add N) HNL.out BEO.out.size ?_; intro A18 c18 w18 ho18 hg18
       have O18 := Lib.hid ho18
       have B18 := Lib.hid (BEO.out.grown hg18 BEO.out.size (fun k hk => (OEO.out.lt k hk).1))
       obtain ⟨g18, hg18z⟩ : ∃ g18, g0 + 1 + 1 = g18 := ⟨_, rfl⟩
       have L18 := Lib.hid (show Cl w18 (some ⟨g18, 0, none⟩) (mtC [⟨nm, op, vl⟩]) from hg18z ▸ cl_d3 (show D3 w18 (g0 + 1 + 1) nm op vl from ⟨Nat.lt_of_lt_of_le XEO.out.hw hg18.size, (hg18.block _ XEO.out.hw (by simp [Value.ownBlock])).trans XEO.out.blk⟩))
       clear ho18 hg18)
    | (refine step_dms rfl (.tmp 16) (.tmp 17) rfl w.heap.size (some ⟨g0 + 1 + 1, 0, none⟩) 0 0 [] rfl OOE.out A N c ms rfl HC.out MO.out HN.out.symm N (Nat.zero_add N) HNL.out BOE.out.size ?_; intro A18 c18 w18 ho18 hg18
       have O18 := Lib.hid ho18
       have B18 := Lib.hid (BOE.out.grown hg18 BOE.out.size (fun k hk => (OOE.out.lt k hk).1))
       obtain ⟨g18, hg18z⟩ : ∃ g18, g0 + 1 = g18 := ⟨_, rfl⟩
       have L18 := Lib.hid (show Cl w18 (some ⟨g18, 0, none⟩) (mtC [⟨nm, op, vl⟩]) from hg18z ▸ cl_d3 (show D3 w18 (g0 + 1) nm op vl from ⟨Nat.lt_of_lt_of_le XOE.out.hw hg18.size, (hg18.block _ XOE.out.hw (by simp [Value.ownBlock])).trans XOE.out.blk⟩))
       clear ho18 hg18))
  all_goals
    have HL1 := Lib.hid (show N + 1 = (ms ++ [(⟨nm, op, vl⟩ : Mt)]).length by rw [List.length_append, HN.out]; rfl)
    have HMA := Lib.hid (mq_of O21.out (wm_more HM.out.2.1 HWX.out) (by rw [← HL1.out]; have := HNB.out; omega))
    have HLI := Lib.hid (light_any A21 B (N + 1) M c21 d _ a w21 HL1.out HMM.out.symm HMA.out (HA.out.below B21.out))
    clear hW0 hWE hWO hWEO hWOE sE sO sV tV x0 x1 x2 y0 y1 y2 e0 e1 e2 hg0 hg18z
    go_wp2_with fail
    refine HLI.out.mono ?_
    rintro y w2 ⟨q, rfl, hsm, hb2⟩
    have HSM := Lib.hid hsm
    have B2 := Lib.hid (B21.out.trans (hb2.mono B21.out.size))
    have HMA2 := Lib.hid (HMA.out.below hb2)
    clear hsm hb2
    cases q with
    | false =>
      go_wp2_with fail
      refine (awake_any _ (HT.out.below B2.out)).mono ?_
      rintro y wz ⟨rfl, hbz⟩
      have BZ := Lib.hid (B2.out.trans (hbz.mono B2.out.size))
      clear hbz
      go_wp2_with fail
      go_ret
      exact ⟨rfl, BZ.out⟩
    | true =>
      have HS := Lib.hid (HSM.out (by simp))
      obtain ⟨E, hE⟩ : ∃ E, newE (ms ++ [(⟨nm, op, vl⟩ : Mt)]) = E := ⟨_, rfl⟩
      have HE := Lib.hid hE
      have HCK := Lib.hid (rcheck_any A21 (N + 1) c21 _ w2 HL1.out HMA2.out)
      rw [hE] at HCK
      clear hE
      go_wp2_with fail
      refine HCK.out.mono ?_
      rintro y w3 ⟨rfl, hb3⟩
      have B3' := Lib.hid (B2.out.trans (hb3.mono B2.out.size))
      have HMA3 := Lib.hid (HMA2.out.below hb3)
      clear hb3
      by_cases hE0 : E = 0
      case neg =>
        have hEb : (E != 0) = true := z_ne 0 hE0
        clear hE0
        go_wp2_with fail
        refine (awake_any _ (HT.out.below B3'.out)).mono ?_
        rintro y wz ⟨rfl, hbz⟩
        have BZ := Lib.hid (B3'.out.trans (hbz.mono B3'.out.size))
        clear hbz
        go_wp2_with fail
        go_ret
        exact ⟨rfl, BZ.out⟩
      subst hE0
      by_cases h8 : 8 < N
      · have h8i : (8 : Int) < (N : Int) := by omega
        clear h8
        go_wp2_with fail
        refine (awake_any _ (HT.out.below B3'.out)).mono ?_
        rintro y wz ⟨rfl, hbz⟩
        have BZ := Lib.hid (B3'.out.trans (hbz.mono B3'.out.size))
        clear hbz
        go_wp2_with fail
        go_ret
        exact ⟨rfl, BZ.out⟩
      have h8i : ¬ (8 : Int) < (N : Int) := by omega
      have HN8 := Lib.hid (show N ≤ 8 by omega)
      have HOK := Lib.hid (newE_all HE.out)
      have E1 := Lib.hid (show newE ms = 0 from newE_ok (by have := HN.out; omega) (fun m hm => HOK.out.2 m (List.mem_append_left _ hm)))
      have E2 := Lib.hid (show newE (ms ++ ms) = 0 from newE_ok (by rw [List.length_append, HN.out]; omega) (fun m hm => by
        rcases List.mem_append.1 hm with h | h
        · exact HOK.out.2 m (List.mem_append_left _ h)
        · exact HOK.out.2 m (List.mem_append_left _ h)))
      have HL2 := Lib.hid (show N + N = (ms ++ ms).length by rw [List.length_append, HN.out])
      have HT1 := Lib.hid (to_any A N c ms w3 HN.out.symm (HM.out.below B3'.out) (by omega))
      clear h8
      go_wp2_with fail
      refine HT1.out.mono ?_
      rintro y w5 ⟨A5, c5, rfl, hm5, hb5⟩
      rw [HN.out]
      have HN5 := Lib.hid (new_any A5 N c5 ms w5 HN.out.symm ((HT.out.below B3'.out).below hb5) hm5)
      have B5 := Lib.hid (B3'.out.trans (hb5.mono B3'.out.size))
      have HMA5 := Lib.hid (HMA3.out.below hb5)
      clear hm5 hb5
      go_wp2_with fail
      refine HN5.out.mono ?_
      intro y w6 hp
      obtain ⟨g6, rfl, hs6, hb6⟩ := newP_ok hp E1.out
      have HS6 := Lib.hid hs6
      have B6 := Lib.hid (B5.out.trans (hb6.mono B5.out.size))
      have HT2 := Lib.hid (to_any A21 (N + 1) c21 _ w6 HL1.out (HMA5.out.below hb6) (by omega))
      clear hp hs6 hb6
      go_wp2_with fail
      refine HT2.out.mono ?_
      rintro y w7 ⟨A7, c7, rfl, hm7, hb7⟩
      rw [← HL1.out]
      have B7' := Lib.hid (B6.out.trans (hb7.mono B6.out.size))
      have HS7 := Lib.hid (HS6.out.below hb7)
      have HN7 := Lib.hid (new_any A7 (N + 1) c7 _ w7 HL1.out (HT.out.below B7'.out) hm7)
      clear hm7 hb7
      go_wp2_with fail
      refine HN7.out.mono ?_
      intro y w8 hp
      obtain ⟨g8, rfl, hs8, hb8⟩ := newP_ok hp HE.out
      have HS8 := Lib.hid hs8
      have S68 := Lib.hid (HS7.out.below hb8)
      have B8 := Lib.hid (B7'.out.trans (hb8.mono B7'.out.size))
      obtain ⟨W9, hW9⟩ : ∃ W9, w8.alloc (.cells #[] 39 (0, 0)) = W9 := ⟨_, rfl⟩
      obtain ⟨g9, hg9⟩ : ∃ g9, w8.heap.size = g9 := ⟨_, rfl⟩
      have b9 : Below w8.heap.size w8 W9 := hW9 ▸ (Below.refl _ _).alloc (Nat.le_refl _) _
      have B9 := Lib.hid b9
      have O9 := Lib.hid (own_emptyD hg9 hW9 (Nat.le_refl w8.heap.size))
      have M8 := Lib.hid (HM.out.below B8.out)
      have M9 := Lib.hid (M8.out.below b9).2.2
      have HNL := Lib.hid (show N * 40 ≤ 140737488355328 by have := HN8.out; omega)
      have HNN := Lib.hid (show (N + N) * 40 ≤ 140737488355328 by have := HN8.out; omega)
      clear hp hs8 hb8 b9
      go_wp2_with (first
        | (at_builtin; refine app_dms rfl _ _ rfl w8.heap.size (some ⟨g9, 0, none⟩) 0 0 [] rfl O9.out A N c ms rfl HC.out M9.out HN.out.symm N (Nat.zero_add N) HNL.out B9.out.size ?_; intro A10 c10 w10 ho10 hg10; have O10 := Lib.hid ho10; have B10 := Lib.hid (B9.out.grown hg10 B9.out.size (fun k hk => (O9.out.lt k hk).1)); have M10 := Lib.hid (M8.out.below B10.out).2.2; clear ho10 hg10)
        | (at_builtin; refine app_dms rfl _ _ rfl w8.heap.size A10 N c10 ms rfl O10.out A N c ms rfl HC.out M10.out HN.out.symm (N + N) rfl HNN.out B10.out.size ?_; intro A11 c11 w11 ho11 hg11; have O11 := Lib.hid ho11; have B11 := Lib.hid (B10.out.grown hg11 B10.out.size (fun k hk => (O10.out.lt k hk).1)); clear ho11 hg11))
      clear hW9 hg9
      have BX := Lib.hid (B8.out.trans (B11.out.mono B8.out.size))
      have T6 := Lib.hid (S68.out.below B11.out)
      have T8 := Lib.hid (HS8.out.below B11.out)
      refine (to_any A11 (N + N) c11 (ms ++ ms) w11 HL2.out (mq_of O11.out (wm_two HM.out.2.1 HM.out.2.1) (by rw [← HL2.out]; have := HN8.out; omega)) HNN.out).mono ?_
      rintro y w12 ⟨A12, c12, rfl, hm12, hb12⟩
      rw [← HL2.out]
      have B12 := Lib.hid (BX.out.trans (hb12.mono BX.out.size))
      have U6 := Lib.hid (T6.out.below hb12)
      have U8 := Lib.hid (T8.out.below hb12)
      have HN12 := Lib.hid (new_any A12 (N + N) c12 _ w12 HL2.out (HT.out.below B12.out) hm12)
      clear hm12 hb12
      go_wp2_with fail
      refine HN12.out.mono ?_
      intro y w14 hp
      obtain ⟨g14, rfl, hs14, hb14⟩ := newP_ok hp E2.out
      have B14 := Lib.hid (B12.out.trans (hb14.mono B12.out.size))
      have V6 := Lib.hid (U6.out.below hb14)
      have V8 := Lib.hid (U8.out.below hb14)
      have V14 := Lib.hid hs14
      have HN15 := Lib.hid (new_any none 0 0 [] w14 rfl (HT.out.below B14.out) (Mq.nil _ _))
      clear hp hs14 hb14
      go_wp2_with fail
      refine HN15.out.mono ?_
      intro y w16 hp
      obtain ⟨g16, rfl, hs16, hb16⟩ := newP_ok hp newE_nil
      have B16 := Lib.hid (B14.out.trans (hb16.mono B14.out.size))
      have X6 := Lib.hid (V6.out.below hb16)
      have X8 := Lib.hid (V8.out.below hb16)
      have X14 := Lib.hid (V14.out.below hb16)
      have X16 := Lib.hid hs16
      clear hp hs16 hb16
      go_wp2_with fail
      refine (awake_any _ (HT.out.below B16.out)).mono ?_
      rintro y wz ⟨rfl, hbz⟩
      have BZ := Lib.hid (B16.out.trans (hbz.mono B16.out.size))
      obtain ⟨za, hza⟩ : ∃ z, allM ms a = z := ⟨_, rfl⟩
      obtain ⟨zb, hzb⟩ : ∃ z, allM (ms ++ [(⟨nm, op, vl⟩ : Mt)]) a = z := ⟨_, rfl⟩
      have HZ1 := Lib.hid hza
      have HZ2 := Lib.hid (show allM (ms ++ ms) a = za by rw [allM_app, hza, Bool.and_self])
      have HZB := Lib.hid (show zb = true → za = true from fun h => by rw [← hzb, allM_app, hza] at h; simp at h; exact h.1)
      have HB1 := Lib.hid (match_sel g8 _ B M d a wz (HT.out.below BZ.out) (X8.out.below hbz) HMM.out.symm (HA.out.below BZ.out) HS.out.lv)
      rw [hzb] at HB1
      have Y6 := Lib.hid (X6.out.below hbz)
      have Y14 := Lib.hid (X14.out.below hbz)
      have Y16 := Lib.hid (X16.out.below hbz)
      clear hbz hza hzb
      go_wp2_with fail
      refine HB1.out.mono ?_
      rintro y w20 ⟨rfl, hb20⟩
      have B20 := Lib.hid (BZ.out.trans (hb20.mono BZ.out.size))
      have P6 := Lib.hid (Y6.out.below hb20)
      have P14 := Lib.hid (Y14.out.below hb20)
      have P16 := Lib.hid (Y16.out.below hb20)
      clear hb20
      cases zb with
      | false =>
        have HC1 := Lib.hid (match_sel g14 (ms ++ ms) B M d a w20 (HT.out.below B20.out) P14.out HMM.out.symm (HA.out.below B20.out) HS.out.lv)
        rw [HZ2.out] at HC1
        go_wp2_with fail
        refine HC1.out.mono ?_
        rintro y w22 ⟨rfl, hb22⟩
        have B22 := Lib.hid (B20.out.trans (hb22.mono B20.out.size))
        have HA2 := Lib.hid (match_sel g6 ms B M d a w22 (HT.out.below B22.out) (P6.out.below hb22) HMM.out.symm (HA.out.below B22.out) HS.out.lv)
        rw [HZ1.out] at HA2
        have S16 := Lib.hid (P16.out.below hb22)
        clear hb22
        go_wp2_with fail
        refine HA2.out.mono ?_
        rintro y w23 ⟨rfl, hb23⟩
        have B23 := Lib.hid (B22.out.trans (hb23.mono B22.out.size))
        have HD2 := Lib.hid (match_sel g16 [] B M d a w23 (HT.out.below B23.out) (S16.out.below hb23) HMM.out.symm (HA.out.below B23.out) HS.out.lv)
        rw [show allM [] a = true from rfl] at HD2
        clear hb23
        cases za
        all_goals
          go_wp2_with fail
          refine HD2.out.mono ?_
          rintro y w24 ⟨rfl, hb24⟩
          have B24 := Lib.hid (B23.out.trans (hb24.mono B23.out.size))
          clear hb24
          go_wp2_with fail
          go_ret
          exact ⟨rfl, B24.out⟩
      | true =>
        obtain rfl : za = true := HZB.out (by simp)
        have HA1 := Lib.hid (match_sel g6 ms B M d a w20 (HT.out.below B20.out) P6.out HMM.out.symm (HA.out.below B20.out) HS.out.lv)
        rw [HZ1.out] at HA1
        go_wp2_with fail
        refine HA1.out.mono ?_
        rintro y w21 ⟨rfl, hb21⟩
        have B21' := Lib.hid (B20.out.trans (hb21.mono B20.out.size))
        have R6 := Lib.hid (P6.out.below hb21)
        have R14 := Lib.hid (P14.out.below hb21)
        have R16 := Lib.hid (P16.out.below hb21)
        clear hb21
        have HC1 := Lib.hid (match_sel g14 (ms ++ ms) B M d a w21 (HT.out.below B21'.out) R14.out HMM.out.symm (HA.out.below B21'.out) HS.out.lv)
        rw [HZ2.out] at HC1
        go_wp2_with fail
        refine HC1.out.mono ?_
        rintro y w22 ⟨rfl, hb22⟩
        have B22 := Lib.hid (B21'.out.trans (hb22.mono B21'.out.size))
        have HA2 := Lib.hid (match_sel g6 ms B M d a w22 (HT.out.below B22.out) (R6.out.below hb22) HMM.out.symm (HA.out.below B22.out) HS.out.lv)
        rw [HZ1.out] at HA2
        have S16 := Lib.hid (R16.out.below hb22)
        clear hb22
        go_wp2_with fail
        refine HA2.out.mono ?_
        rintro y w23 ⟨rfl, hb23⟩
        have B23 := Lib.hid (B22.out.trans (hb23.mono B22.out.size))
        have HD2 := Lib.hid (match_sel g16 [] B M d a w23 (HT.out.below B23.out) (S16.out.below hb23) HMM.out.symm (HA.out.below B23.out) HS.out.lv)
        rw [show allM [] a = true from rfl] at HD2
        clear hb23
        all_goals
          go_wp2_with fail
          refine HD2.out.mono ?_
          rintro y w24 ⟨rfl, hb24⟩
          have B24 := Lib.hid (B23.out.trans (hb24.mono B23.out.size))
          clear hb24
          go_wp2_with fail
          go_ret
          exact ⟨rfl, B24.out⟩
end Go.Proofs.YtppkejobioadcaaDoor
