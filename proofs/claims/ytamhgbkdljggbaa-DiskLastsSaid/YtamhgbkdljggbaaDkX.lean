/- The document's Sync, Append. -/
import Derived.Test.YtamhgbkdljggbaaDkW
import Derived.Test.YtamhgbkdljggbaaRgI
import Derived.Maps.AppendAt
namespace Go.Proofs.Ytamhgbkdljggbaa.Dk
open Go.RowKit Go.Maps
set_option linter.unusedVariables false

theorem Rg.wanted_undef {ops : Array Oper} {o : Oper} {A : Array Value} {g : Nat} {p : Bool} {t : Tmp} (h : o.guard = some (g, p)) (ht : Rg.dstOf ops g = some t) (hv : A[t]? = some undef) : Region.wanted o (yielded ops A) = false := by
  unfold Region.wanted
  rw [h]
  unfold Rg.dstOf at ht
  simp only [yielded, ht, Option.bind_some, hv]
  rfl
theorem RD.cell {O : Nat → Prop} {w : World} {q M M' g c j : Nat} {S : RS} {u : Value} (h : RD O w q M S) (hv : S.v = .slice (some ⟨g, 0, none⟩) S.n c) (hu : u.oneCell' = true) (hfc : FC (S.xs.set j u) S.n M') (hj : j < S.n * 2) (hM : M ≤ M') :
    RD O (w.setCell ⟨g, j, none⟩ u) q M' { S with xs := S.xs.set j u } ∧ Fr O w (w.setCell ⟨g, j, none⟩ u) := by
  have hr : S.v.ownBlock = some g := by rw [hv]; rfl
  obtain ⟨n1, n2⟩ := h.row_ne hr
  have hk : ∀ k, k ≠ g → (w.setCell ⟨g, j, none⟩ u).heap[k]? = w.heap[k]? := fun k hk => Below.heap_setCell _ _ _ _ hk
  have hrow := h.row
  rw [hv] at hrow
  refine ⟨⟨(hk q (fun e => n1 e.symm)).trans h.box, h.oq, (h.now.keep (hk _ (fun e => ?_))).mono (Nat.le_refl _) hM, (h.sure.keep (hk _ (fun e => ?_))).mono (Nat.le_refl _) hM, h.onow, h.osure, h.apart, ?_, hfc, h.orow, Nat.le_trans h.nM hM, fun k hO => by simpa using h.bound k hO⟩, Fr.set (O := O) w _ u (h.orow g hr)⟩
  · obtain ⟨es, clock, hh⟩ := h.now.isMap
    exact n2 es clock (e ▸ hh)
  · obtain ⟨es, clock, hh⟩ := h.sure.isMap
    exact n2 es clock (e ▸ hh)
  · show (w.setCell ⟨g, j, none⟩ u).ownsRow 0 82 2 S.v S.n (S.xs.set j u)
    rw [hv]
    exact (hrow.stored j u).1
/-- a file's cells -/
theorem RD.file {O : Nat → Prop} {w : World} {q M m : Nat} {S : RS} (h : RD O w q M S) (hm : m < S.n) : ∃ g c t z, S.v = .slice (some ⟨g, 0, none⟩) S.n c ∧ w.cell? ⟨g, m * 2, none⟩ = some (.string t) ∧ w.cell? ⟨g, m * 2 + 1, none⟩ = some (.int .i64 z) ∧ t.size ≤ M ∧ ∀ j, w.frozen? ⟨g, j, none⟩ = false := by
  obtain ⟨⟨t, ht1, ht2⟩, z, hz⟩ := h.fc.2 m hm
  rcases h.row.2 with ⟨_, hn0⟩ | ⟨g, c, cur, hv, _⟩
  · omega
  · have hrow := h.row
    rw [hv] at hrow
    exact ⟨g, c, t, z, hv, by rw [hrow.cellAt _ (by omega), ht1], by rw [hrow.cellAt _ (by omega), hz], ht2, fun j => hrow.frozenAt j⟩
set_option maxHeartbeats 2000000 in
theorem rsync_any (O : Nat → Prop) (q M : Nat) (S : RS) (s : ByteArray) (w : World) (h : RD O w q M S) (hs : Ks s) (hM : M ≤ 1000000) : Calls Try.prog 29 #[.pointer (some ⟨q, 0, none⟩), .string s] w (RoP O w q M) := by
  show Calls Try.prog 29 #[.pointer (some ⟨q, 0, none⟩), .string s] w fun e w' => RoP O w q M e w'
  have HS := Lib.hid (rstep_any O q M S w h)
  have HK := Lib.hid hs
  clear h hs
  go_enter Try.func29, Try.ntmps29
  go_wp2_with fail
  refine HS.out.mono ?_
  rintro e w1 ⟨b, S1, rfl, h1, hf1⟩
  have H1 := Lib.hid (And.intro h1 hf1)
  cases b with
  | false =>
    clear h1 hf1
    go_wp2_with fail
    go_ret
    exact ⟨_, rfl, RP.of H1.out.1 H1.out.2 (Nat.le_refl _)⟩
  | true =>
    obtain ⟨z, ok, hrun, hz⟩ := h1.now.look HK.out
    obtain ⟨⟨c0, c1, c2, c3, c4, c5, c6⟩, _⟩ := h1.cells
    cases ok with
    | false =>
      clear h1 hf1 hz
      go_wp2_with fail
      go_ret
      exact ⟨_, rfl, RP.of H1.out.1 H1.out.2 (Nat.le_refl _)⟩
    | true =>
      obtain ⟨m, hm, rfl⟩ := hz rfl
      obtain ⟨g, c, t, zz, hv, q1, q2, ht, hfz⟩ := h1.file hm
      have hmi : (m : Int) < (S1.n : Int) := by omega
      obtain ⟨n, hn⟩ : ∃ n, S1.n = n := ⟨_, rfl⟩
      rw [hv, hn] at c1
      rw [hn] at hmi
      have HM := Lib.hid (And.intro hm (And.intro hv hn))
      have htl : (t.size : Int) ≤ 1000000 := by omega
      clear h1 hf1 hz hm hv hn ht hfz
      go_wp2_with fail
      refine Rg.wp_region_invG (R := fun sl v w => match sl with
          | 21 => v = .pointer (some ⟨q, 0, none⟩)
          | 22 => v = .pointer (some ⟨q, 0, none⟩)
          | 23 => v = .pointer (some ⟨q, 1, none⟩)
          | 24 => v = .slice (some ⟨g, 0, none⟩) n c
          | 25 => v = .int .i64 (m : Int)
          | 26 => v = .pointer (some ⟨q, 0, none⟩)
          | 27 => v = .pointer (some ⟨q, 0, none⟩)
          | 28 => v = .pointer (some ⟨q, 1, none⟩)
          | 29 => v = .slice (some ⟨g, 0, none⟩) n c
          | 30 => v = .int .i64 (m : Int)
          | 31 => v = .pointer (some ⟨g, m * 2, none⟩)
          | 32 => v = .pointer (some ⟨g, m * 2, none⟩)
          | 33 => v = .string t
          | 34 => v = .int .i64 (t.size : Int)
          | 35 => v = .pointer (some ⟨g, m * 2, none⟩)
          | 36 => v = .pointer (some ⟨g, m * 2 + 1, none⟩)
          | _ => True) (fun a w => True) 16 [21, 22, 23, 24, 25, 26, 27, 28, 29, 30, 31, 32, 33, 34, 35, 36] 37 [false, false, false, false, false, false, false, false, false, false, false, false, false, false, false, false, false, false, false, false, false, true, true, true, true, true, true, true, true, true, true, true, true, true, true, true, true] (by kernel_rfl) rfl (by kernel_rfl) (by kernel_rfl) (by kernel_rfl) (by kernel_rfl) (Nat.le_of_ble_eq_true (by kernel_rfl)) (by kernel_rfl) (by kernel_rfl) ?mono ?g0 ?good ?done
      case mono =>
        refine List.forall_mem_cons.2 ⟨fun _ _ _ _ _ h => h, ?_⟩
        refine List.forall_mem_cons.2 ⟨fun _ _ _ _ _ h => h, ?_⟩
        refine List.forall_mem_cons.2 ⟨fun _ _ _ _ _ h => h, ?_⟩
        refine List.forall_mem_cons.2 ⟨fun _ _ _ _ _ h => h, ?_⟩
        refine List.forall_mem_cons.2 ⟨fun _ _ _ _ _ h => h, ?_⟩
        refine List.forall_mem_cons.2 ⟨fun _ _ _ _ _ h => h, ?_⟩
        refine List.forall_mem_cons.2 ⟨fun _ _ _ _ _ h => h, ?_⟩
        refine List.forall_mem_cons.2 ⟨fun _ _ _ _ _ h => h, ?_⟩
        refine List.forall_mem_cons.2 ⟨fun _ _ _ _ _ h => h, ?_⟩
        refine List.forall_mem_cons.2 ⟨fun _ _ _ _ _ h => h, ?_⟩
        refine List.forall_mem_cons.2 ⟨fun _ _ _ _ _ h => h, ?_⟩
        refine List.forall_mem_cons.2 ⟨fun _ _ _ _ _ h => h, ?_⟩
        refine List.forall_mem_cons.2 ⟨fun _ _ _ _ _ h => h, ?_⟩
        refine List.forall_mem_cons.2 ⟨fun _ _ _ _ _ h => h, ?_⟩
        refine List.forall_mem_cons.2 ⟨fun _ _ _ _ _ h => h, ?_⟩
        refine List.forall_mem_cons.2 ⟨fun _ _ _ _ _ h => h, ?_⟩
        exact fun _ h => absurd h (by simp)
      case g0 => exact trivial
      case good =>
        refine Rg.goodG_cons ?_ ?_
        · intro ac w' cx hg hn
          have e0 := cx.at_ 0 (by kernel_rfl) rfl
          refine .inl ⟨(Rg.wanted_none rfl), fun K hK => ?_⟩
          go_simp
          exact hK _ _ (Below.refl _ _) (fun t ht => by injection ht with ht; subst ht; exact rfl) trivial
        refine Rg.goodG_cons ?_ ?_
        · intro ac w' cx hg hn
          obtain ⟨v21, e21, r21⟩ := hn 21 (Rg.mem_of (by kernel_rfl))
          obtain rfl : v21 = .pointer (some ⟨q, 0, none⟩) := r21
          refine .inl ⟨(Rg.wanted_none rfl), fun K hK => ?_⟩
          go_simp
          exact hK _ _ (Below.refl _ _) (fun t ht => by injection ht with ht; subst ht; exact rfl) trivial
        refine Rg.goodG_cons ?_ ?_
        · intro ac w' cx hg hn
          obtain ⟨v22, e22, r22⟩ := hn 22 (Rg.mem_of (by kernel_rfl))
          obtain rfl : v22 = .pointer (some ⟨q, 0, none⟩) := r22
          refine .inl ⟨(Rg.wanted_none rfl), fun K hK => ?_⟩
          go_simp
          exact hK _ _ (Below.refl _ _) (fun t ht => by injection ht with ht; subst ht; exact rfl) trivial
        refine Rg.goodG_cons ?_ ?_
        · intro ac w' cx hg hn
          obtain ⟨v23, e23, r23⟩ := hn 23 (Rg.mem_of (by kernel_rfl))
          obtain rfl : v23 = .pointer (some ⟨q, 1, none⟩) := r23
          have hx := cb c1 cx.bel
          refine .inl ⟨(Rg.wanted_none rfl), fun K hK => ?_⟩
          go_simp
          exact hK _ _ (Below.refl _ _) (fun t ht => by injection ht with ht; subst ht; exact rfl) trivial
        refine Rg.goodG_cons ?_ ?_
        · intro ac w' cx hg hn
          have e5 := cx.at_ 5 (by kernel_rfl) rfl
          refine .inl ⟨(Rg.wanted_none rfl), fun K hK => ?_⟩
          go_simp
          exact hK _ _ (Below.refl _ _) (fun t ht => by injection ht with ht; subst ht; exact rfl) trivial
        refine Rg.goodG_cons ?_ ?_
        · intro ac w' cx hg hn
          have e0 := cx.at_ 0 (by kernel_rfl) rfl
          refine .inl ⟨(Rg.wanted_none rfl), fun K hK => ?_⟩
          go_simp
          exact hK _ _ (Below.refl _ _) (fun t ht => by injection ht with ht; subst ht; exact rfl) trivial
        refine Rg.goodG_cons ?_ ?_
        · intro ac w' cx hg hn
          obtain ⟨v26, e26, r26⟩ := hn 26 (Rg.mem_of (by kernel_rfl))
          obtain rfl : v26 = .pointer (some ⟨q, 0, none⟩) := r26
          refine .inl ⟨(Rg.wanted_none rfl), fun K hK => ?_⟩
          go_simp
          exact hK _ _ (Below.refl _ _) (fun t ht => by injection ht with ht; subst ht; exact rfl) trivial
        refine Rg.goodG_cons ?_ ?_
        · intro ac w' cx hg hn
          obtain ⟨v27, e27, r27⟩ := hn 27 (Rg.mem_of (by kernel_rfl))
          obtain rfl : v27 = .pointer (some ⟨q, 0, none⟩) := r27
          refine .inl ⟨(Rg.wanted_none rfl), fun K hK => ?_⟩
          go_simp
          exact hK _ _ (Below.refl _ _) (fun t ht => by injection ht with ht; subst ht; exact rfl) trivial
        refine Rg.goodG_cons ?_ ?_
        · intro ac w' cx hg hn
          obtain ⟨v28, e28, r28⟩ := hn 28 (Rg.mem_of (by kernel_rfl))
          obtain rfl : v28 = .pointer (some ⟨q, 1, none⟩) := r28
          have hx := cb c1 cx.bel
          refine .inl ⟨(Rg.wanted_none rfl), fun K hK => ?_⟩
          go_simp
          exact hK _ _ (Below.refl _ _) (fun t ht => by injection ht with ht; subst ht; exact rfl) trivial
        refine Rg.goodG_cons ?_ ?_
        · intro ac w' cx hg hn
          have e5 := cx.at_ 5 (by kernel_rfl) rfl
          refine .inl ⟨(Rg.wanted_none rfl), fun K hK => ?_⟩
          go_simp
          exact hK _ _ (Below.refl _ _) (fun t ht => by injection ht with ht; subst ht; exact rfl) trivial
        refine Rg.goodG_cons ?_ ?_
        · intro ac w' cx hg hn
          obtain ⟨v29, e29, r29⟩ := hn 29 (Rg.mem_of (by kernel_rfl))
          obtain rfl : v29 = .slice (some ⟨g, 0, none⟩) n c := r29
          obtain ⟨v30, e30, r30⟩ := hn 30 (Rg.mem_of (by kernel_rfl))
          obtain rfl : v30 = .int .i64 (m : Int) := r30
          refine .inl ⟨(Rg.wanted_none rfl), fun K hK => ?_⟩
          go_simp
          exact hK _ _ (Below.refl _ _) (fun t ht => by injection ht with ht; subst ht; exact rfl) trivial
        refine Rg.goodG_cons ?_ ?_
        · intro ac w' cx hg hn
          obtain ⟨v31, e31, r31⟩ := hn 31 (Rg.mem_of (by kernel_rfl))
          obtain rfl : v31 = .pointer (some ⟨g, m * 2, none⟩) := r31
          refine .inl ⟨(Rg.wanted_none rfl), fun K hK => ?_⟩
          go_simp
          exact hK _ _ (Below.refl _ _) (fun t ht => by injection ht with ht; subst ht; exact rfl) trivial
        refine Rg.goodG_cons ?_ ?_
        · intro ac w' cx hg hn
          obtain ⟨v32, e32, r32⟩ := hn 32 (Rg.mem_of (by kernel_rfl))
          obtain rfl : v32 = .pointer (some ⟨g, m * 2, none⟩) := r32
          have hx := cb q1 cx.bel
          refine .inl ⟨(Rg.wanted_none rfl), fun K hK => ?_⟩
          go_simp
          exact hK _ _ (Below.refl _ _) (fun t ht => by injection ht with ht; subst ht; exact rfl) trivial
        refine Rg.goodG_cons ?_ ?_
        · intro ac w' cx hg hn
          obtain ⟨v33, e33, r33⟩ := hn 33 (Rg.mem_of (by kernel_rfl))
          obtain rfl : v33 = .string t := r33
          refine .inl ⟨(Rg.wanted_none rfl), fun K hK => ?_⟩
          go_simp
          exact hK _ _ (Below.refl _ _) (fun t ht => by injection ht with ht; subst ht; exact rfl) trivial
        refine Rg.goodG_cons ?_ ?_
        · intro ac w' cx hg hn
          obtain ⟨v24, e24, r24⟩ := hn 24 (Rg.mem_of (by kernel_rfl))
          obtain rfl : v24 = .slice (some ⟨g, 0, none⟩) n c := r24
          obtain ⟨v25, e25, r25⟩ := hn 25 (Rg.mem_of (by kernel_rfl))
          obtain rfl : v25 = .int .i64 (m : Int) := r25
          refine .inl ⟨(Rg.wanted_none rfl), fun K hK => ?_⟩
          go_simp
          exact hK _ _ (Below.refl _ _) (fun t ht => by injection ht with ht; subst ht; exact rfl) trivial
        refine Rg.goodG_cons ?_ ?_
        · intro ac w' cx hg hn
          obtain ⟨v35, e35, r35⟩ := hn 35 (Rg.mem_of (by kernel_rfl))
          obtain rfl : v35 = .pointer (some ⟨g, m * 2, none⟩) := r35
          refine .inl ⟨(Rg.wanted_none rfl), fun K hK => ?_⟩
          go_simp
          exact hK _ _ (Below.refl _ _) (fun t ht => by injection ht with ht; subst ht; exact rfl) trivial
        exact Rg.goodG_nil
      case done =>
        intro u w3 hb3 hr _
        have e34 : u 34 = .int .i64 (t.size : Int) := hr 34 (by simp)
        have e36 : u 36 = .pointer (some ⟨g, m * 2 + 1, none⟩) := hr 36 (by simp)
        simp only [Rg.fillL_cons, Rg.fillL_nil, if_true, if_false, Bool.false_eq_true, e34, e36]
        change wpList _ _ _ [_] _ _
        obtain ⟨hm, hv, hn⟩ := HM.out
        have h3 := H1.out.1.below hb3
        obtain ⟨g', c', t', z', hv', _, x2, _, hfz⟩ := h3.file hm
        rw [hv] at hv'
        injection hv' with hv' _ _
        injection hv' with hv'
        injection hv' with hv' _
        subst hv'
        have fx := hfz (m * 2 + 1)
        obtain ⟨r1, r2⟩ := h3.cell (M' := M) hv (u := .int .i64 (t.size : Int)) (j := m * 2 + 1) rfl (h3.fc.numb hm _) (by omega) (Nat.le_refl _)
        have HP := Lib.hid (show RP O w q M (w3.setCell ⟨g, m * 2 + 1, none⟩ (.int .i64 (t.size : Int))) from RP.then (H1.out.2.trans (Fr.of_below (O := O) hb3) (fun x hx => .inl hx)) (RP.of r1 r2 (Nat.le_refl _)))
        clear hr hb3 hm hv hn h3 hfz r1 r2 e34 e36 c1 q1 q2
        go_wp2_with fail
        go_ret
        exact ⟨_, rfl, HP.out⟩
theorem infoFile : (Try.prog.info? 82).map (fun i => (i.zero, i.size, i.bytes)) = some (some (.agg #[.string ⟨#[]⟩, .int .i64 0]), 2, 24) := by kernel_rfl
theorem RP.step {O : Nat → Prop} {w w1 w2 : World} {q M : Nat} (hF : Fr O w w1) (h : RP (On O w w1) w1 q M w2) : RP O w q M w2 := by
  obtain ⟨S, h, h2⟩ := h
  refine ⟨S, h.mono (fun k hk => ?_) (fun k hk => ?_) (Nat.le_refl _), hF.trans h2 (fun x hx => by rcases hx with hx | ⟨hx, _⟩; exact .inl hx; exact .inr hx)⟩
  · rcases hk with (hk | ⟨h3, h4⟩) | ⟨h3, h4⟩
    · exact .inl hk
    · exact .inr ⟨h3, Nat.lt_of_lt_of_le h4 h2.size⟩
    · exact .inr ⟨Nat.le_trans hF.size h3, h4⟩
  · rcases hk with hk | ⟨_, hk⟩
    · exact h.bound k (.inl (.inl hk))
    · exact hk
/-- a file more -/
theorem RD.grow {O : Nat → Prop} {w w2 w3 : World} {q M : Nat} {S : RS} (h : RD O w q M S) (hb2 : Below w.heap.size w w2) {v' : Value} (hrow : w3.ownsRow 0 82 2 v' (S.n + 1) (S.xs ++ [.string ⟨#[]⟩, .int .i64 0])) (hg : w2.grownBy w3 S.v.ownBlock) (ho : v'.ownBlock = S.v.ownBlock ∨ v'.ownBlock = some w2.heap.size) :
    RD (On O w (w3.setCell ⟨q, 1, none⟩ v')) (w3.setCell ⟨q, 1, none⟩ v') q (M + 1) { S with v := v', n := S.n + 1, xs := S.xs ++ [.string ⟨#[]⟩, .int .i64 0] } ∧ Fr O w (w3.setCell ⟨q, 1, none⟩ v') := by
  have h2 := h.below hb2
  have s2 := hb2.size
  have s3 := hg.size
  have hq := h.bound q h.oq
  have nq : some q ≠ S.v.ownBlock := fun e => (h.row_ne e.symm).1 rfl
  have mp : ∀ b, (∃ es clock, w.heap[b]? = some (.map es clock)) → some b ≠ S.v.ownBlock := fun b ⟨es, clock, hb⟩ e => (h.row_ne e.symm).2 es clock hb
  have k3 : ∀ k, k < w2.heap.size → some k ≠ S.v.ownBlock → k ≠ q → (w3.setCell ⟨q, 1, none⟩ v').heap[k]? = w2.heap[k]? := fun k hk hn hne => by rw [Below.heap_setCell _ _ _ _ hne]; exact hg.block k hk hn
  have hbx : w3.heap[q]? = some (.cells #[.int .i64 S.room, S.v, .map (some S.nb), .map (some S.sb), .int .i64 S.fuse, .bool S.down, .int .i64 S.steps] 66 (0, 0)) := (hg.block q (by omega) nq).trans h2.box
  have e1 := h.bound _ h.onow
  have e2 := h.bound _ h.osure
  have own : ∀ r, v'.ownBlock = some r → O r ∨ (w.heap.size ≤ r ∧ r < w3.heap.size) := fun r hr => by
    have hlt := (hrow.lt r hr).2
    rcases ho with h5 | h5
    · exact .inl (h.orow r (by rw [← h5]; exact hr))
    · rw [h5] at hr
      injection hr with hr
      exact .inr ⟨by omega, hlt⟩
  have hF : Fr O w w3 := (Fr.of_below hb2).trans (Fr.grown (O := O) hg (fun b e => h.orow b e)) (fun x hx => .inl hx)
  refine ⟨⟨heap_set_at hbx v', .inl h.oq, (h2.now.keep (k3 _ (by omega) (mp _ h.now.isMap) (h.map_ne h.now))).mono (Nat.le_succ _) (Nat.le_succ _), (h2.sure.keep (k3 _ (by omega) (mp _ h.sure.isMap) (h.map_ne h.sure))).mono (Nat.le_succ _) (Nat.le_succ _), .inl h.onow, .inl h.osure, h.apart, own_abide hrow (fun k hk => Below.heap_setCell _ _ _ _ (fun e => ?_)), (h.fc.mono (Nat.le_succ _)).snoc, fun r hr => ?_, Nat.succ_le_succ h.nM, fun k hk => ?_⟩, hF.trans (Fr.set (O := O) w3 _ _ h.oq) (fun x hx => .inl hx)⟩
  · have e' : k = q := e
    rcases ho with h5 | h5
    · rw [h5] at hk
      exact nq (by rw [hk, e'])
    · rw [h5] at hk
      injection hk with hk
      omega
  · rcases own r hr with h6 | ⟨h6, h7⟩
    · exact .inl h6
    · exact .inr ⟨h6, by simpa using h7⟩
  · rcases hk with hk | ⟨_, hk⟩
    · have := h.bound k hk
      simp
      omega
    · exact hk
set_option maxHeartbeats 4000000 in
set_option maxRecDepth 100000 in
theorem rappend_any (O : Nat → Prop) (q M : Nat) (S : RS) (s b : ByteArray) (w : World) (h : RD O w q M S) (hs : Ks s) (hb : b.size ≤ 100000) (hM : M ≤ 400000) : Calls Try.prog 28 #[.pointer (some ⟨q, 0, none⟩), .string s, .string b] w (RoP O w q (M + b.size + 2)) := by
  show Calls Try.prog 28 #[.pointer (some ⟨q, 0, none⟩), .string s, .string b] w fun e w' => RoP O w q (M + b.size + 2) e w'
  have HS := Lib.hid (rstep_any O q M S w h)
  have HK := Lib.hid hs
  have HRN := Lib.hid (fun w => rname_any s w hs)
  clear h hs
  go_enter Try.func28, Try.ntmps28
  go_wp2_with fail
  refine HS.out.mono ?_
  rintro e w1 ⟨bs, S1, rfl, h1, hf1⟩
  have H1 := Lib.hid (And.intro h1 hf1)
  cases bs with
  | false =>
    clear h1 hf1
    go_wp2_with fail
    go_ret
    exact ⟨_, rfl, RP.of H1.out.1 H1.out.2 (by omega)⟩
  | true =>
  clear h1 hf1
  go_wp2_with fail
  refine (HRN.out _).mono ?_
  rintro e w2 ⟨bn, rfl, rfl⟩
  cases bn with
  | false =>
    go_wp2_with fail
    go_ret
    exact ⟨_, rfl, RP.of H1.out.1 H1.out.2 (by omega)⟩
  | true =>
  have h1 := H1.out.1
  obtain ⟨z, ok, hrun, hz⟩ := h1.now.look HK.out
  obtain ⟨⟨c0, c1, c2, c3, c4, c5, c6⟩, _⟩ := h1.cells
  obtain ⟨D, hD1, hD2⟩ := h1.now
  obtain ⟨hT0, hT1, _⟩ := rused_at O q M S1 w1 D h1 hD1 hD2 (by omega)
  have HUS := Lib.hid (fun (W : World) (hb : Below w1.heap.size w1 W) => (rused_at O q M S1 W D (H1.out.1.below hb) (own_num hD1 (hb.block _ hD1.lt)) hD2 (by omega)).2.2)
  have HLEN := Lib.hid (fun (W : World) (hb : Below w1.heap.size w1 W) => (own_num (w' := W) hD1 (hb.block _ hD1.lt)).len Try.underlying63 3)
  obtain ⟨T, hT⟩ : ∃ T, usedT D S1.xs = T := ⟨_, rfl⟩
  rw [hT] at hT0 hT1 HUS
  obtain ⟨zl, hzl⟩ : ∃ zl, Maps.size D = zl := ⟨_, rfl⟩
  rw [hzl] at HLEN
  obtain ⟨X, hX⟩ : ∃ X, T + (b.size : Int) = X := ⟨_, rfl⟩
  have hX0 : IntKind.i64.wrap (T + (b.size : Int)) = X := by rw [IntWalk.i64_in _ ⟨by omega, by omega⟩, hX]
  have hX1 : wrap64 (T + (b.size : Int)) = X := by rw [← IntWalk.i64_left]; exact hX0
  have hX2 : IntKind.i64.wrap X = X := IntWalk.i64_in _ ⟨by omega, by omega⟩
  obtain ⟨nb, hnb⟩ : ∃ nb, S1.nb = nb := ⟨_, rfl⟩
  obtain ⟨room, hroom⟩ : ∃ room, S1.room = room := ⟨_, rfl⟩
  rw [hnb] at c2 HLEN hrun
  rw [hroom] at c0
  have HNB := Lib.hid hnb
  clear h1 hD1 hD2 hT hzl hnb hroom hT0 hT1
  by_cases hc : room < X
  · have hcd : decide (room < X) = true := by simpa using hc
    clear hc hz
    go_wp2_with fail
    refine Rg.wp_region_inv (R := fun sl v w => match sl with
        | 24 => v = .pointer (some ⟨q, 0, none⟩)
        | 25 => v = .int .i64 T
        | 26 => v = .string b
        | 27 => v = .int .i64 (b.size : Int)
        | 28 => v = .int .i64 X
        | 29 => v = .pointer (some ⟨q, 0, none⟩)
        | 30 => v = .pointer (some ⟨q, 0, none⟩)
        | 31 => v = .pointer (some ⟨q, 0, none⟩)
        | 32 => v = .int .i64 room
        | 33 => v = .bool true
        | 34 => v = .bool true
        | 35 => v = undef
        | 36 => v = undef
        | 37 => v = undef
        | 38 => v = undef
        | 39 => v = undef
        | 40 => v = undef
        | 41 => v = undef
        | 42 => v = undef
        | 43 => v = undef
        | 44 => v = undef
        | 45 => v = .bool true
        | _ => True) [24, 25, 26, 27, 28, 29, 30, 31, 32, 33, 34, 35, 36, 37, 38, 39, 40, 41, 42, 43, 44, 45] 86 [false, false, false, false, false, false, false, false, false, false, false, false, false, false, false, false, false, false, false, false, false, false, false, false, true, true, true, true, true, true, true, true, true, true, true, true, true, true, true, true, true, true, true, true, true, true, false, false, false, false, false, false, false, false, false, false, false, false, false, false, false, false, false, false, false, false, false, false, false, false, false, false, false, false, false, false, false, false, false, false, false, false, false, false, false, false] (by kernel_rfl) rfl (by kernel_rfl) (by kernel_rfl) (by kernel_rfl) (by kernel_rfl) (by kernel_rfl) ?mono ?good ?done
    case mono =>
      refine List.forall_mem_cons.2 ⟨fun _ _ _ _ _ h => h, ?_⟩
      refine List.forall_mem_cons.2 ⟨fun _ _ _ _ _ h => h, ?_⟩
      refine List.forall_mem_cons.2 ⟨fun _ _ _ _ _ h => h, ?_⟩
      refine List.forall_mem_cons.2 ⟨fun _ _ _ _ _ h => h, ?_⟩
      refine List.forall_mem_cons.2 ⟨fun _ _ _ _ _ h => h, ?_⟩
      refine List.forall_mem_cons.2 ⟨fun _ _ _ _ _ h => h, ?_⟩
      refine List.forall_mem_cons.2 ⟨fun _ _ _ _ _ h => h, ?_⟩
      refine List.forall_mem_cons.2 ⟨fun _ _ _ _ _ h => h, ?_⟩
      refine List.forall_mem_cons.2 ⟨fun _ _ _ _ _ h => h, ?_⟩
      refine List.forall_mem_cons.2 ⟨fun _ _ _ _ _ h => h, ?_⟩
      refine List.forall_mem_cons.2 ⟨fun _ _ _ _ _ h => h, ?_⟩
      refine List.forall_mem_cons.2 ⟨fun _ _ _ _ _ h => h, ?_⟩
      refine List.forall_mem_cons.2 ⟨fun _ _ _ _ _ h => h, ?_⟩
      refine List.forall_mem_cons.2 ⟨fun _ _ _ _ _ h => h, ?_⟩
      refine List.forall_mem_cons.2 ⟨fun _ _ _ _ _ h => h, ?_⟩
      refine List.forall_mem_cons.2 ⟨fun _ _ _ _ _ h => h, ?_⟩
      refine List.forall_mem_cons.2 ⟨fun _ _ _ _ _ h => h, ?_⟩
      refine List.forall_mem_cons.2 ⟨fun _ _ _ _ _ h => h, ?_⟩
      refine List.forall_mem_cons.2 ⟨fun _ _ _ _ _ h => h, ?_⟩
      refine List.forall_mem_cons.2 ⟨fun _ _ _ _ _ h => h, ?_⟩
      refine List.forall_mem_cons.2 ⟨fun _ _ _ _ _ h => h, ?_⟩
      refine List.forall_mem_cons.2 ⟨fun _ _ _ _ _ h => h, ?_⟩
      exact fun _ h => absurd h (by simp)
    case good =>
      refine Rg.good_cons ?_ ?_
      · intro ac w' cx hn
        have e0 := cx.at_ 0 (by kernel_rfl) rfl
        refine .inl ⟨(Rg.wanted_none rfl), fun K hK => ?_⟩
        go_simp
        exact hK _ _ (Below.refl _ _) (fun t ht => by injection ht with ht; subst ht; exact rfl)
      refine Rg.good_cons ?_ ?_
      · intro ac w' cx hn
        obtain ⟨v24, e24, r24⟩ := hn 24 (Rg.mem_of (by kernel_rfl))
        obtain rfl : v24 = .pointer (some ⟨q, 0, none⟩) := r24
        refine .inl ⟨(Rg.wanted_none rfl), fun K hK => ?_⟩
        go_simp
        refine (HUS.out _ cx.bel).mono ?_
        rintro y w5 ⟨rfl, hb5⟩
        exact hK _ _ hb5 (fun t ht => by injection ht with ht; subst ht; exact rfl)
      refine Rg.good_cons ?_ ?_
      · intro ac w' cx hn
        have e2 := cx.at_ 2 (by kernel_rfl) rfl
        refine .inl ⟨(Rg.wanted_none rfl), fun K hK => ?_⟩
        go_simp
        exact hK _ _ (Below.refl _ _) (fun t ht => by injection ht with ht; subst ht; exact rfl)
      refine Rg.good_cons ?_ ?_
      · intro ac w' cx hn
        obtain ⟨v26, e26, r26⟩ := hn 26 (Rg.mem_of (by kernel_rfl))
        obtain rfl : v26 = .string b := r26
        refine .inl ⟨(Rg.wanted_none rfl), fun K hK => ?_⟩
        go_simp
        exact hK _ _ (Below.refl _ _) (fun t ht => by injection ht with ht; subst ht; exact rfl)
      refine Rg.good_cons ?_ ?_
      · intro ac w' cx hn
        obtain ⟨v25, e25, r25⟩ := hn 25 (Rg.mem_of (by kernel_rfl))
        obtain rfl : v25 = .int .i64 T := r25
        obtain ⟨v27, e27, r27⟩ := hn 27 (Rg.mem_of (by kernel_rfl))
        obtain rfl : v27 = .int .i64 (b.size : Int) := r27
        refine .inl ⟨(Rg.wanted_none rfl), fun K hK => ?_⟩
        go_simp
        exact hK _ _ (Below.refl _ _) (fun t ht => by injection ht with ht; subst ht; exact (by first | rfl | exact congrArg (Value.int .i64) hX0 | exact congrArg (Value.int .i64) hX2))
      refine Rg.good_cons ?_ ?_
      · intro ac w' cx hn
        have e0 := cx.at_ 0 (by kernel_rfl) rfl
        refine .inl ⟨(Rg.wanted_none rfl), fun K hK => ?_⟩
        go_simp
        exact hK _ _ (Below.refl _ _) (fun t ht => by injection ht with ht; subst ht; exact rfl)
      refine Rg.good_cons ?_ ?_
      · intro ac w' cx hn
        obtain ⟨v29, e29, r29⟩ := hn 29 (Rg.mem_of (by kernel_rfl))
        obtain rfl : v29 = .pointer (some ⟨q, 0, none⟩) := r29
        refine .inl ⟨(Rg.wanted_none rfl), fun K hK => ?_⟩
        go_simp
        exact hK _ _ (Below.refl _ _) (fun t ht => by injection ht with ht; subst ht; exact rfl)
      refine Rg.good_cons ?_ ?_
      · intro ac w' cx hn
        obtain ⟨v30, e30, r30⟩ := hn 30 (Rg.mem_of (by kernel_rfl))
        obtain rfl : v30 = .pointer (some ⟨q, 0, none⟩) := r30
        refine .inl ⟨(Rg.wanted_none rfl), fun K hK => ?_⟩
        go_simp
        exact hK _ _ (Below.refl _ _) (fun t ht => by injection ht with ht; subst ht; exact rfl)
      refine Rg.good_cons ?_ ?_
      · intro ac w' cx hn
        obtain ⟨v31, e31, r31⟩ := hn 31 (Rg.mem_of (by kernel_rfl))
        obtain rfl : v31 = .pointer (some ⟨q, 0, none⟩) := r31
        have hx := cb c0 cx.bel
        refine .inl ⟨(Rg.wanted_none rfl), fun K hK => ?_⟩
        go_simp
        exact hK _ _ (Below.refl _ _) (fun t ht => by injection ht with ht; subst ht; exact rfl)
      refine Rg.good_cons ?_ ?_
      · intro ac w' cx hn
        obtain ⟨v28, e28, r28⟩ := hn 28 (Rg.mem_of (by kernel_rfl))
        obtain rfl : v28 = .int .i64 X := r28
        obtain ⟨v32, e32, r32⟩ := hn 32 (Rg.mem_of (by kernel_rfl))
        obtain rfl : v32 = .int .i64 room := r32
        refine .inl ⟨(Rg.wanted_none rfl), fun K hK => ?_⟩
        go_simp
        exact hK _ _ (Below.refl _ _) (fun t ht => by injection ht with ht; subst ht; exact rfl)
      refine Rg.good_cons ?_ ?_
      · intro ac w' cx hn
        obtain ⟨v33, e33, r33⟩ := hn 33 (Rg.mem_of (by kernel_rfl))
        obtain rfl : v33 = .bool true := r33
        refine .inl ⟨(Rg.wanted_none rfl), fun K hK => ?_⟩
        go_simp
        exact hK _ _ (Below.refl _ _) (fun t ht => by injection ht with ht; subst ht; exact rfl)
      refine Rg.good_cons ?_ ?_
      · intro ac w' cx hn
        have e8 := cx.at_ 8 (by kernel_rfl) rfl
        obtain ⟨v34, e34, r34⟩ := hn 34 (Rg.mem_of (by kernel_rfl))
        obtain rfl : v34 = .bool true := r34
        exact .inr ⟨((Rg.wanted_some (t := 34) rfl (by kernel_rfl) e34).trans rfl), fun t ht => by injection ht with ht; subst ht; exact rfl⟩
      refine Rg.good_cons ?_ ?_
      · intro ac w' cx hn
        obtain ⟨v35, e35, r35⟩ := hn 35 (Rg.mem_of (by kernel_rfl))
        obtain rfl : v35 = undef := r35
        obtain ⟨v34, e34, r34⟩ := hn 34 (Rg.mem_of (by kernel_rfl))
        obtain rfl : v34 = .bool true := r34
        exact .inr ⟨((Rg.wanted_some (t := 34) rfl (by kernel_rfl) e34).trans rfl), fun t ht => by injection ht with ht; subst ht; exact rfl⟩
      refine Rg.good_cons ?_ ?_
      · intro ac w' cx hn
        obtain ⟨v36, e36, r36⟩ := hn 36 (Rg.mem_of (by kernel_rfl))
        obtain rfl : v36 = undef := r36
        obtain ⟨v34, e34, r34⟩ := hn 34 (Rg.mem_of (by kernel_rfl))
        obtain rfl : v34 = .bool true := r34
        exact .inr ⟨((Rg.wanted_some (t := 34) rfl (by kernel_rfl) e34).trans rfl), fun t ht => by injection ht with ht; subst ht; exact rfl⟩
      refine Rg.good_cons ?_ ?_
      · intro ac w' cx hn
        have e0 := cx.at_ 0 (by kernel_rfl) rfl
        obtain ⟨v37, e37, r37⟩ := hn 37 (Rg.mem_of (by kernel_rfl))
        obtain rfl : v37 = undef := r37
        exact .inr ⟨(Rg.wanted_undef (t := 37) rfl (by kernel_rfl) e37), fun t ht => by injection ht with ht; subst ht; exact rfl⟩
      refine Rg.good_cons ?_ ?_
      · intro ac w' cx hn
        obtain ⟨v38, e38, r38⟩ := hn 38 (Rg.mem_of (by kernel_rfl))
        obtain rfl : v38 = undef := r38
        obtain ⟨v37, e37, r37⟩ := hn 37 (Rg.mem_of (by kernel_rfl))
        obtain rfl : v37 = undef := r37
        exact .inr ⟨(Rg.wanted_undef (t := 37) rfl (by kernel_rfl) e37), fun t ht => by injection ht with ht; subst ht; exact rfl⟩
      refine Rg.good_cons ?_ ?_
      · intro ac w' cx hn
        obtain ⟨v39, e39, r39⟩ := hn 39 (Rg.mem_of (by kernel_rfl))
        obtain rfl : v39 = undef := r39
        obtain ⟨v37, e37, r37⟩ := hn 37 (Rg.mem_of (by kernel_rfl))
        obtain rfl : v37 = undef := r37
        exact .inr ⟨(Rg.wanted_undef (t := 37) rfl (by kernel_rfl) e37), fun t ht => by injection ht with ht; subst ht; exact rfl⟩
      refine Rg.good_cons ?_ ?_
      · intro ac w' cx hn
        obtain ⟨v40, e40, r40⟩ := hn 40 (Rg.mem_of (by kernel_rfl))
        obtain rfl : v40 = undef := r40
        have hx := cb c2 cx.bel
        obtain ⟨v37, e37, r37⟩ := hn 37 (Rg.mem_of (by kernel_rfl))
        obtain rfl : v37 = undef := r37
        exact .inr ⟨(Rg.wanted_undef (t := 37) rfl (by kernel_rfl) e37), fun t ht => by injection ht with ht; subst ht; exact rfl⟩
      refine Rg.good_cons ?_ ?_
      · intro ac w' cx hn
        obtain ⟨v41, e41, r41⟩ := hn 41 (Rg.mem_of (by kernel_rfl))
        obtain rfl : v41 = undef := r41
        obtain ⟨v37, e37, r37⟩ := hn 37 (Rg.mem_of (by kernel_rfl))
        obtain rfl : v37 = undef := r37
        exact .inr ⟨(Rg.wanted_undef (t := 37) rfl (by kernel_rfl) e37), fun t ht => by injection ht with ht; subst ht; exact rfl⟩
      refine Rg.good_cons ?_ ?_
      · intro ac w' cx hn
        obtain ⟨v42, e42, r42⟩ := hn 42 (Rg.mem_of (by kernel_rfl))
        obtain rfl : v42 = undef := r42
        obtain ⟨v37, e37, r37⟩ := hn 37 (Rg.mem_of (by kernel_rfl))
        obtain rfl : v37 = undef := r37
        exact .inr ⟨(Rg.wanted_undef (t := 37) rfl (by kernel_rfl) e37), fun t ht => by injection ht with ht; subst ht; exact rfl⟩
      refine Rg.good_cons ?_ ?_
      · intro ac w' cx hn
        obtain ⟨v37, e37, r37⟩ := hn 37 (Rg.mem_of (by kernel_rfl))
        obtain rfl : v37 = undef := r37
        obtain ⟨v43, e43, r43⟩ := hn 43 (Rg.mem_of (by kernel_rfl))
        obtain rfl : v43 = undef := r43
        obtain ⟨v34, e34, r34⟩ := hn 34 (Rg.mem_of (by kernel_rfl))
        obtain rfl : v34 = .bool true := r34
        exact .inr ⟨((Rg.wanted_some (t := 34) rfl (by kernel_rfl) e34).trans rfl), fun t ht => by injection ht with ht; subst ht; exact rfl⟩
      refine Rg.good_cons ?_ ?_
      · intro ac w' cx hn
        obtain ⟨v34, e34, r34⟩ := hn 34 (Rg.mem_of (by kernel_rfl))
        obtain rfl : v34 = .bool true := r34
        obtain ⟨v44, e44, r44⟩ := hn 44 (Rg.mem_of (by kernel_rfl))
        obtain rfl : v44 = undef := r44
        refine .inl ⟨(Rg.wanted_none rfl), fun K hK => ?_⟩
        go_simp
        exact hK _ _ (Below.refl _ _) (fun t ht => by injection ht with ht; subst ht; exact rfl)
      exact Rg.good_nil
    case done =>
      intro u w3 hb3 hr
      have e45 : u 45 = .bool true := hr 45 (by simp)
      simp only [Rg.fillL_cons, Rg.fillL_nil, if_true, if_false, Bool.false_eq_true, e45]
      have HP := Lib.hid (show RP O w q (M + b.size + 2) w3 from RP.of (H1.out.1.below hb3) (H1.out.2.trans (Fr.of_below (O := O) hb3) (fun x hx => .inl hx)) (by omega))
      clear hr hb3 e45
      go_wp2_with fail
      go_ret
      exact ⟨_, rfl, HP.out⟩
  · have hcd : decide (room < X) = false := by simpa using hc
    clear hc
    cases ok with
    | true =>
      obtain ⟨m, hm, rfl⟩ := hz rfl
      have HMN := Lib.hid hm
      clear hz hm
      go_wp2_with fail
      refine Rg.wp_region_inv (R := fun sl v w => match sl with
          | 24 => v = .pointer (some ⟨q, 0, none⟩)
          | 25 => v = .int .i64 T
          | 26 => v = .string b
          | 27 => v = .int .i64 (b.size : Int)
          | 28 => v = .int .i64 X
          | 29 => v = .pointer (some ⟨q, 0, none⟩)
          | 30 => v = .pointer (some ⟨q, 0, none⟩)
          | 31 => v = .pointer (some ⟨q, 0, none⟩)
          | 32 => v = .int .i64 room
          | 33 => v = .bool false
          | 34 => v = .bool false
          | 35 => v = .bool true
          | 36 => v = .bool false
          | 37 => v = .bool false
          | 38 => v = undef
          | 39 => v = undef
          | 40 => v = undef
          | 41 => v = undef
          | 42 => v = undef
          | 43 => v = undef
          | 44 => v = .bool false
          | 45 => v = .bool false
          | _ => True) [24, 25, 26, 27, 28, 29, 30, 31, 32, 33, 34, 35, 36, 37, 38, 39, 40, 41, 42, 43, 44, 45] 86 [false, false, false, false, false, false, false, false, false, false, false, false, false, false, false, false, false, false, false, false, false, false, false, false, true, true, true, true, true, true, true, true, true, true, true, true, true, true, true, true, true, true, true, true, true, true, false, false, false, false, false, false, false, false, false, false, false, false, false, false, false, false, false, false, false, false, false, false, false, false, false, false, false, false, false, false, false, false, false, false, false, false, false, false, false, false] (by kernel_rfl) rfl (by kernel_rfl) (by kernel_rfl) (by kernel_rfl) (by kernel_rfl) (by kernel_rfl) ?mono ?good ?done
      case mono =>
        refine List.forall_mem_cons.2 ⟨fun _ _ _ _ _ h => h, ?_⟩
        refine List.forall_mem_cons.2 ⟨fun _ _ _ _ _ h => h, ?_⟩
        refine List.forall_mem_cons.2 ⟨fun _ _ _ _ _ h => h, ?_⟩
        refine List.forall_mem_cons.2 ⟨fun _ _ _ _ _ h => h, ?_⟩
        refine List.forall_mem_cons.2 ⟨fun _ _ _ _ _ h => h, ?_⟩
        refine List.forall_mem_cons.2 ⟨fun _ _ _ _ _ h => h, ?_⟩
        refine List.forall_mem_cons.2 ⟨fun _ _ _ _ _ h => h, ?_⟩
        refine List.forall_mem_cons.2 ⟨fun _ _ _ _ _ h => h, ?_⟩
        refine List.forall_mem_cons.2 ⟨fun _ _ _ _ _ h => h, ?_⟩
        refine List.forall_mem_cons.2 ⟨fun _ _ _ _ _ h => h, ?_⟩
        refine List.forall_mem_cons.2 ⟨fun _ _ _ _ _ h => h, ?_⟩
        refine List.forall_mem_cons.2 ⟨fun _ _ _ _ _ h => h, ?_⟩
        refine List.forall_mem_cons.2 ⟨fun _ _ _ _ _ h => h, ?_⟩
        refine List.forall_mem_cons.2 ⟨fun _ _ _ _ _ h => h, ?_⟩
        refine List.forall_mem_cons.2 ⟨fun _ _ _ _ _ h => h, ?_⟩
        refine List.forall_mem_cons.2 ⟨fun _ _ _ _ _ h => h, ?_⟩
        refine List.forall_mem_cons.2 ⟨fun _ _ _ _ _ h => h, ?_⟩
        refine List.forall_mem_cons.2 ⟨fun _ _ _ _ _ h => h, ?_⟩
        refine List.forall_mem_cons.2 ⟨fun _ _ _ _ _ h => h, ?_⟩
        refine List.forall_mem_cons.2 ⟨fun _ _ _ _ _ h => h, ?_⟩
        refine List.forall_mem_cons.2 ⟨fun _ _ _ _ _ h => h, ?_⟩
        refine List.forall_mem_cons.2 ⟨fun _ _ _ _ _ h => h, ?_⟩
        exact fun _ h => absurd h (by simp)
      case good =>
        refine Rg.good_cons ?_ ?_
        · intro ac w' cx hn
          have e0 := cx.at_ 0 (by kernel_rfl) rfl
          refine .inl ⟨(Rg.wanted_none rfl), fun K hK => ?_⟩
          go_simp
          exact hK _ _ (Below.refl _ _) (fun t ht => by injection ht with ht; subst ht; exact rfl)
        refine Rg.good_cons ?_ ?_
        · intro ac w' cx hn
          obtain ⟨v24, e24, r24⟩ := hn 24 (Rg.mem_of (by kernel_rfl))
          obtain rfl : v24 = .pointer (some ⟨q, 0, none⟩) := r24
          refine .inl ⟨(Rg.wanted_none rfl), fun K hK => ?_⟩
          go_simp
          refine (HUS.out _ cx.bel).mono ?_
          rintro y w5 ⟨rfl, hb5⟩
          exact hK _ _ hb5 (fun t ht => by injection ht with ht; subst ht; exact rfl)
        refine Rg.good_cons ?_ ?_
        · intro ac w' cx hn
          have e2 := cx.at_ 2 (by kernel_rfl) rfl
          refine .inl ⟨(Rg.wanted_none rfl), fun K hK => ?_⟩
          go_simp
          exact hK _ _ (Below.refl _ _) (fun t ht => by injection ht with ht; subst ht; exact rfl)
        refine Rg.good_cons ?_ ?_
        · intro ac w' cx hn
          obtain ⟨v26, e26, r26⟩ := hn 26 (Rg.mem_of (by kernel_rfl))
          obtain rfl : v26 = .string b := r26
          refine .inl ⟨(Rg.wanted_none rfl), fun K hK => ?_⟩
          go_simp
          exact hK _ _ (Below.refl _ _) (fun t ht => by injection ht with ht; subst ht; exact rfl)
        refine Rg.good_cons ?_ ?_
        · intro ac w' cx hn
          obtain ⟨v25, e25, r25⟩ := hn 25 (Rg.mem_of (by kernel_rfl))
          obtain rfl : v25 = .int .i64 T := r25
          obtain ⟨v27, e27, r27⟩ := hn 27 (Rg.mem_of (by kernel_rfl))
          obtain rfl : v27 = .int .i64 (b.size : Int) := r27
          refine .inl ⟨(Rg.wanted_none rfl), fun K hK => ?_⟩
          go_simp
          exact hK _ _ (Below.refl _ _) (fun t ht => by injection ht with ht; subst ht; exact (by first | rfl | exact congrArg (Value.int .i64) hX0 | exact congrArg (Value.int .i64) hX2))
        refine Rg.good_cons ?_ ?_
        · intro ac w' cx hn
          have e0 := cx.at_ 0 (by kernel_rfl) rfl
          refine .inl ⟨(Rg.wanted_none rfl), fun K hK => ?_⟩
          go_simp
          exact hK _ _ (Below.refl _ _) (fun t ht => by injection ht with ht; subst ht; exact rfl)
        refine Rg.good_cons ?_ ?_
        · intro ac w' cx hn
          obtain ⟨v29, e29, r29⟩ := hn 29 (Rg.mem_of (by kernel_rfl))
          obtain rfl : v29 = .pointer (some ⟨q, 0, none⟩) := r29
          refine .inl ⟨(Rg.wanted_none rfl), fun K hK => ?_⟩
          go_simp
          exact hK _ _ (Below.refl _ _) (fun t ht => by injection ht with ht; subst ht; exact rfl)
        refine Rg.good_cons ?_ ?_
        · intro ac w' cx hn
          obtain ⟨v30, e30, r30⟩ := hn 30 (Rg.mem_of (by kernel_rfl))
          obtain rfl : v30 = .pointer (some ⟨q, 0, none⟩) := r30
          refine .inl ⟨(Rg.wanted_none rfl), fun K hK => ?_⟩
          go_simp
          exact hK _ _ (Below.refl _ _) (fun t ht => by injection ht with ht; subst ht; exact rfl)
        refine Rg.good_cons ?_ ?_
        · intro ac w' cx hn
          obtain ⟨v31, e31, r31⟩ := hn 31 (Rg.mem_of (by kernel_rfl))
          obtain rfl : v31 = .pointer (some ⟨q, 0, none⟩) := r31
          have hx := cb c0 cx.bel
          refine .inl ⟨(Rg.wanted_none rfl), fun K hK => ?_⟩
          go_simp
          exact hK _ _ (Below.refl _ _) (fun t ht => by injection ht with ht; subst ht; exact rfl)
        refine Rg.good_cons ?_ ?_
        · intro ac w' cx hn
          obtain ⟨v28, e28, r28⟩ := hn 28 (Rg.mem_of (by kernel_rfl))
          obtain rfl : v28 = .int .i64 X := r28
          obtain ⟨v32, e32, r32⟩ := hn 32 (Rg.mem_of (by kernel_rfl))
          obtain rfl : v32 = .int .i64 room := r32
          refine .inl ⟨(Rg.wanted_none rfl), fun K hK => ?_⟩
          go_simp
          exact hK _ _ (Below.refl _ _) (fun t ht => by injection ht with ht; subst ht; exact rfl)
        refine Rg.good_cons ?_ ?_
        · intro ac w' cx hn
          obtain ⟨v33, e33, r33⟩ := hn 33 (Rg.mem_of (by kernel_rfl))
          obtain rfl : v33 = .bool false := r33
          refine .inl ⟨(Rg.wanted_none rfl), fun K hK => ?_⟩
          go_simp
          exact hK _ _ (Below.refl _ _) (fun t ht => by injection ht with ht; subst ht; exact rfl)
        refine Rg.good_cons ?_ ?_
        · intro ac w' cx hn
          have e8 := cx.at_ 8 (by kernel_rfl) rfl
          obtain ⟨v34, e34, r34⟩ := hn 34 (Rg.mem_of (by kernel_rfl))
          obtain rfl : v34 = .bool false := r34
          refine .inl ⟨((Rg.wanted_some (t := 34) rfl (by kernel_rfl) e34).trans rfl), fun K hK => ?_⟩
          go_simp
          exact hK _ _ (Below.refl _ _) (fun t ht => by injection ht with ht; subst ht; exact rfl)
        refine Rg.good_cons ?_ ?_
        · intro ac w' cx hn
          obtain ⟨v35, e35, r35⟩ := hn 35 (Rg.mem_of (by kernel_rfl))
          obtain rfl : v35 = .bool true := r35
          obtain ⟨v34, e34, r34⟩ := hn 34 (Rg.mem_of (by kernel_rfl))
          obtain rfl : v34 = .bool false := r34
          refine .inl ⟨((Rg.wanted_some (t := 34) rfl (by kernel_rfl) e34).trans rfl), fun K hK => ?_⟩
          go_simp
          exact hK _ _ (Below.refl _ _) (fun t ht => by injection ht with ht; subst ht; exact rfl)
        refine Rg.good_cons ?_ ?_
        · intro ac w' cx hn
          obtain ⟨v36, e36, r36⟩ := hn 36 (Rg.mem_of (by kernel_rfl))
          obtain rfl : v36 = .bool false := r36
          obtain ⟨v34, e34, r34⟩ := hn 34 (Rg.mem_of (by kernel_rfl))
          obtain rfl : v34 = .bool false := r34
          refine .inl ⟨((Rg.wanted_some (t := 34) rfl (by kernel_rfl) e34).trans rfl), fun K hK => ?_⟩
          go_simp
          exact hK _ _ (Below.refl _ _) (fun t ht => by injection ht with ht; subst ht; exact rfl)
        refine Rg.good_cons ?_ ?_
        · intro ac w' cx hn
          have e0 := cx.at_ 0 (by kernel_rfl) rfl
          obtain ⟨v37, e37, r37⟩ := hn 37 (Rg.mem_of (by kernel_rfl))
          obtain rfl : v37 = .bool false := r37
          exact .inr ⟨((Rg.wanted_some (t := 37) rfl (by kernel_rfl) e37).trans rfl), fun t ht => by injection ht with ht; subst ht; exact rfl⟩
        refine Rg.good_cons ?_ ?_
        · intro ac w' cx hn
          obtain ⟨v38, e38, r38⟩ := hn 38 (Rg.mem_of (by kernel_rfl))
          obtain rfl : v38 = undef := r38
          obtain ⟨v37, e37, r37⟩ := hn 37 (Rg.mem_of (by kernel_rfl))
          obtain rfl : v37 = .bool false := r37
          exact .inr ⟨((Rg.wanted_some (t := 37) rfl (by kernel_rfl) e37).trans rfl), fun t ht => by injection ht with ht; subst ht; exact rfl⟩
        refine Rg.good_cons ?_ ?_
        · intro ac w' cx hn
          obtain ⟨v39, e39, r39⟩ := hn 39 (Rg.mem_of (by kernel_rfl))
          obtain rfl : v39 = undef := r39
          obtain ⟨v37, e37, r37⟩ := hn 37 (Rg.mem_of (by kernel_rfl))
          obtain rfl : v37 = .bool false := r37
          exact .inr ⟨((Rg.wanted_some (t := 37) rfl (by kernel_rfl) e37).trans rfl), fun t ht => by injection ht with ht; subst ht; exact rfl⟩
        refine Rg.good_cons ?_ ?_
        · intro ac w' cx hn
          obtain ⟨v40, e40, r40⟩ := hn 40 (Rg.mem_of (by kernel_rfl))
          obtain rfl : v40 = undef := r40
          have hx := cb c2 cx.bel
          obtain ⟨v37, e37, r37⟩ := hn 37 (Rg.mem_of (by kernel_rfl))
          obtain rfl : v37 = .bool false := r37
          exact .inr ⟨((Rg.wanted_some (t := 37) rfl (by kernel_rfl) e37).trans rfl), fun t ht => by injection ht with ht; subst ht; exact rfl⟩
        refine Rg.good_cons ?_ ?_
        · intro ac w' cx hn
          obtain ⟨v41, e41, r41⟩ := hn 41 (Rg.mem_of (by kernel_rfl))
          obtain rfl : v41 = undef := r41
          obtain ⟨v37, e37, r37⟩ := hn 37 (Rg.mem_of (by kernel_rfl))
          obtain rfl : v37 = .bool false := r37
          exact .inr ⟨((Rg.wanted_some (t := 37) rfl (by kernel_rfl) e37).trans rfl), fun t ht => by injection ht with ht; subst ht; exact rfl⟩
        refine Rg.good_cons ?_ ?_
        · intro ac w' cx hn
          obtain ⟨v42, e42, r42⟩ := hn 42 (Rg.mem_of (by kernel_rfl))
          obtain rfl : v42 = undef := r42
          obtain ⟨v37, e37, r37⟩ := hn 37 (Rg.mem_of (by kernel_rfl))
          obtain rfl : v37 = .bool false := r37
          exact .inr ⟨((Rg.wanted_some (t := 37) rfl (by kernel_rfl) e37).trans rfl), fun t ht => by injection ht with ht; subst ht; exact rfl⟩
        refine Rg.good_cons ?_ ?_
        · intro ac w' cx hn
          obtain ⟨v37, e37, r37⟩ := hn 37 (Rg.mem_of (by kernel_rfl))
          obtain rfl : v37 = .bool false := r37
          obtain ⟨v43, e43, r43⟩ := hn 43 (Rg.mem_of (by kernel_rfl))
          obtain rfl : v43 = undef := r43
          obtain ⟨v34, e34, r34⟩ := hn 34 (Rg.mem_of (by kernel_rfl))
          obtain rfl : v34 = .bool false := r34
          refine .inl ⟨((Rg.wanted_some (t := 34) rfl (by kernel_rfl) e34).trans rfl), fun K hK => ?_⟩
          go_simp
          exact hK _ _ (Below.refl _ _) (fun t ht => by injection ht with ht; subst ht; exact rfl)
        refine Rg.good_cons ?_ ?_
        · intro ac w' cx hn
          obtain ⟨v34, e34, r34⟩ := hn 34 (Rg.mem_of (by kernel_rfl))
          obtain rfl : v34 = .bool false := r34
          obtain ⟨v44, e44, r44⟩ := hn 44 (Rg.mem_of (by kernel_rfl))
          obtain rfl : v44 = .bool false := r44
          refine .inl ⟨(Rg.wanted_none rfl), fun K hK => ?_⟩
          go_simp
          exact hK _ _ (Below.refl _ _) (fun t ht => by injection ht with ht; subst ht; exact rfl)
        exact Rg.good_nil
      case done =>
        intro u w3 hb3 hr
        have e45 : u 45 = .bool false := hr 45 (by simp)
        simp only [Rg.fillL_cons, Rg.fillL_nil, if_true, if_false, Bool.false_eq_true, e45]
        have H3 := Lib.hid (And.intro (H1.out.1.below hb3) (H1.out.2.trans (Fr.of_below (O := O) hb3) (fun x hx => .inl hx)))
        obtain ⟨g, c, t, zz, hv, q1, _, ht, _⟩ := H3.out.1.file HMN.out
        obtain ⟨n, hn⟩ : ∃ n, S1.n = n := ⟨_, rfl⟩
        have hmi : (m : Int) < (n : Int) := by have := HMN.out; omega
        have k1 := H3.out.1.cells.1.2.1
        rw [hv, hn] at k1
        have HT := Lib.hid (And.intro hv ht)
        have HMK := Lib.hid (show ∀ w', RP O w3 q (M + b.size + 2) w' → RP O w q (M + b.size + 2) w' from fun w' hp => RP.then H3.out.2 hp)
        clear hr hb3 e45 hv ht hn
        go_wp2_with fail
        refine Rg.wp_region_invG (R := fun sl v w => match sl with
            | 69 => v = .pointer (some ⟨q, 0, none⟩)
            | 70 => v = .pointer (some ⟨q, 0, none⟩)
            | 71 => v = .pointer (some ⟨q, 1, none⟩)
            | 72 => v = .slice (some ⟨g, 0, none⟩) n c
            | 73 => v = .int .i64 (m : Int)
            | 74 => v = .pointer (some ⟨q, 0, none⟩)
            | 75 => v = .pointer (some ⟨q, 0, none⟩)
            | 76 => v = .pointer (some ⟨q, 1, none⟩)
            | 77 => v = .slice (some ⟨g, 0, none⟩) n c
            | 78 => v = .int .i64 (m : Int)
            | 79 => v = .pointer (some ⟨g, m * 2, none⟩)
            | 80 => v = .pointer (some ⟨g, m * 2, none⟩)
            | 81 => v = .string t
            | 82 => v = .string b
            | 83 => v = .string (t ++ b)
            | 84 => v = .pointer (some ⟨g, m * 2, none⟩)
            | 85 => v = .pointer (some ⟨g, m * 2, none⟩)
            | _ => True) (fun a w => True) 17 [69, 70, 71, 72, 73, 74, 75, 76, 77, 78, 79, 80, 81, 82, 83, 84, 85] 86 [false, false, false, false, false, false, false, false, false, false, false, false, false, false, false, false, false, false, false, false, false, false, false, false, false, false, false, false, false, false, false, false, false, false, false, false, false, false, false, false, false, false, false, false, false, false, false, false, false, false, false, false, false, false, false, false, false, false, false, false, false, false, false, false, false, false, false, false, false, true, true, true, true, true, true, true, true, true, true, true, true, true, true, true, true, true] (by kernel_rfl) rfl (by kernel_rfl) (by kernel_rfl) (by kernel_rfl) (by kernel_rfl) (Nat.le_of_ble_eq_true (by kernel_rfl)) (by kernel_rfl) (by kernel_rfl) ?mono ?g0 ?good ?done
        case mono =>
          refine List.forall_mem_cons.2 ⟨fun _ _ _ _ _ h => h, ?_⟩
          refine List.forall_mem_cons.2 ⟨fun _ _ _ _ _ h => h, ?_⟩
          refine List.forall_mem_cons.2 ⟨fun _ _ _ _ _ h => h, ?_⟩
          refine List.forall_mem_cons.2 ⟨fun _ _ _ _ _ h => h, ?_⟩
          refine List.forall_mem_cons.2 ⟨fun _ _ _ _ _ h => h, ?_⟩
          refine List.forall_mem_cons.2 ⟨fun _ _ _ _ _ h => h, ?_⟩
          refine List.forall_mem_cons.2 ⟨fun _ _ _ _ _ h => h, ?_⟩
          refine List.forall_mem_cons.2 ⟨fun _ _ _ _ _ h => h, ?_⟩
          refine List.forall_mem_cons.2 ⟨fun _ _ _ _ _ h => h, ?_⟩
          refine List.forall_mem_cons.2 ⟨fun _ _ _ _ _ h => h, ?_⟩
          refine List.forall_mem_cons.2 ⟨fun _ _ _ _ _ h => h, ?_⟩
          refine List.forall_mem_cons.2 ⟨fun _ _ _ _ _ h => h, ?_⟩
          refine List.forall_mem_cons.2 ⟨fun _ _ _ _ _ h => h, ?_⟩
          refine List.forall_mem_cons.2 ⟨fun _ _ _ _ _ h => h, ?_⟩
          refine List.forall_mem_cons.2 ⟨fun _ _ _ _ _ h => h, ?_⟩
          refine List.forall_mem_cons.2 ⟨fun _ _ _ _ _ h => h, ?_⟩
          refine List.forall_mem_cons.2 ⟨fun _ _ _ _ _ h => h, ?_⟩
          exact fun _ h => absurd h (by simp)
        case g0 => exact trivial
        case good =>
          refine Rg.goodG_cons ?_ ?_
          · intro ac w' cx hg hn
            have e0 := cx.at_ 0 (by kernel_rfl) rfl
            refine .inl ⟨(Rg.wanted_none rfl), fun K hK => ?_⟩
            go_simp
            exact hK _ _ (Below.refl _ _) (fun t ht => by injection ht with ht; subst ht; exact rfl) trivial
          refine Rg.goodG_cons ?_ ?_
          · intro ac w' cx hg hn
            obtain ⟨v69, e69, r69⟩ := hn 69 (Rg.mem_of (by kernel_rfl))
            obtain rfl : v69 = .pointer (some ⟨q, 0, none⟩) := r69
            refine .inl ⟨(Rg.wanted_none rfl), fun K hK => ?_⟩
            go_simp
            exact hK _ _ (Below.refl _ _) (fun t ht => by injection ht with ht; subst ht; exact rfl) trivial
          refine Rg.goodG_cons ?_ ?_
          · intro ac w' cx hg hn
            obtain ⟨v70, e70, r70⟩ := hn 70 (Rg.mem_of (by kernel_rfl))
            obtain rfl : v70 = .pointer (some ⟨q, 0, none⟩) := r70
            refine .inl ⟨(Rg.wanted_none rfl), fun K hK => ?_⟩
            go_simp
            exact hK _ _ (Below.refl _ _) (fun t ht => by injection ht with ht; subst ht; exact rfl) trivial
          refine Rg.goodG_cons ?_ ?_
          · intro ac w' cx hg hn
            obtain ⟨v71, e71, r71⟩ := hn 71 (Rg.mem_of (by kernel_rfl))
            obtain rfl : v71 = .pointer (some ⟨q, 1, none⟩) := r71
            have hx := cb k1 cx.bel
            refine .inl ⟨(Rg.wanted_none rfl), fun K hK => ?_⟩
            go_simp
            exact hK _ _ (Below.refl _ _) (fun t ht => by injection ht with ht; subst ht; exact rfl) trivial
          refine Rg.goodG_cons ?_ ?_
          · intro ac w' cx hg hn
            have e7 := cx.at_ 7 (by kernel_rfl) rfl
            refine .inl ⟨(Rg.wanted_none rfl), fun K hK => ?_⟩
            go_simp
            exact hK _ _ (Below.refl _ _) (fun t ht => by injection ht with ht; subst ht; exact rfl) trivial
          refine Rg.goodG_cons ?_ ?_
          · intro ac w' cx hg hn
            have e0 := cx.at_ 0 (by kernel_rfl) rfl
            refine .inl ⟨(Rg.wanted_none rfl), fun K hK => ?_⟩
            go_simp
            exact hK _ _ (Below.refl _ _) (fun t ht => by injection ht with ht; subst ht; exact rfl) trivial
          refine Rg.goodG_cons ?_ ?_
          · intro ac w' cx hg hn
            obtain ⟨v74, e74, r74⟩ := hn 74 (Rg.mem_of (by kernel_rfl))
            obtain rfl : v74 = .pointer (some ⟨q, 0, none⟩) := r74
            refine .inl ⟨(Rg.wanted_none rfl), fun K hK => ?_⟩
            go_simp
            exact hK _ _ (Below.refl _ _) (fun t ht => by injection ht with ht; subst ht; exact rfl) trivial
          refine Rg.goodG_cons ?_ ?_
          · intro ac w' cx hg hn
            obtain ⟨v75, e75, r75⟩ := hn 75 (Rg.mem_of (by kernel_rfl))
            obtain rfl : v75 = .pointer (some ⟨q, 0, none⟩) := r75
            refine .inl ⟨(Rg.wanted_none rfl), fun K hK => ?_⟩
            go_simp
            exact hK _ _ (Below.refl _ _) (fun t ht => by injection ht with ht; subst ht; exact rfl) trivial
          refine Rg.goodG_cons ?_ ?_
          · intro ac w' cx hg hn
            obtain ⟨v76, e76, r76⟩ := hn 76 (Rg.mem_of (by kernel_rfl))
            obtain rfl : v76 = .pointer (some ⟨q, 1, none⟩) := r76
            have hx := cb k1 cx.bel
            refine .inl ⟨(Rg.wanted_none rfl), fun K hK => ?_⟩
            go_simp
            exact hK _ _ (Below.refl _ _) (fun t ht => by injection ht with ht; subst ht; exact rfl) trivial
          refine Rg.goodG_cons ?_ ?_
          · intro ac w' cx hg hn
            have e7 := cx.at_ 7 (by kernel_rfl) rfl
            refine .inl ⟨(Rg.wanted_none rfl), fun K hK => ?_⟩
            go_simp
            exact hK _ _ (Below.refl _ _) (fun t ht => by injection ht with ht; subst ht; exact rfl) trivial
          refine Rg.goodG_cons ?_ ?_
          · intro ac w' cx hg hn
            obtain ⟨v77, e77, r77⟩ := hn 77 (Rg.mem_of (by kernel_rfl))
            obtain rfl : v77 = .slice (some ⟨g, 0, none⟩) n c := r77
            obtain ⟨v78, e78, r78⟩ := hn 78 (Rg.mem_of (by kernel_rfl))
            obtain rfl : v78 = .int .i64 (m : Int) := r78
            refine .inl ⟨(Rg.wanted_none rfl), fun K hK => ?_⟩
            go_simp
            exact hK _ _ (Below.refl _ _) (fun t ht => by injection ht with ht; subst ht; exact rfl) trivial
          refine Rg.goodG_cons ?_ ?_
          · intro ac w' cx hg hn
            obtain ⟨v79, e79, r79⟩ := hn 79 (Rg.mem_of (by kernel_rfl))
            obtain rfl : v79 = .pointer (some ⟨g, m * 2, none⟩) := r79
            refine .inl ⟨(Rg.wanted_none rfl), fun K hK => ?_⟩
            go_simp
            exact hK _ _ (Below.refl _ _) (fun t ht => by injection ht with ht; subst ht; exact rfl) trivial
          refine Rg.goodG_cons ?_ ?_
          · intro ac w' cx hg hn
            obtain ⟨v80, e80, r80⟩ := hn 80 (Rg.mem_of (by kernel_rfl))
            obtain rfl : v80 = .pointer (some ⟨g, m * 2, none⟩) := r80
            have hx := cb q1 cx.bel
            refine .inl ⟨(Rg.wanted_none rfl), fun K hK => ?_⟩
            go_simp
            exact hK _ _ (Below.refl _ _) (fun t ht => by injection ht with ht; subst ht; exact rfl) trivial
          refine Rg.goodG_cons ?_ ?_
          · intro ac w' cx hg hn
            have e2 := cx.at_ 2 (by kernel_rfl) rfl
            refine .inl ⟨(Rg.wanted_none rfl), fun K hK => ?_⟩
            go_simp
            exact hK _ _ (Below.refl _ _) (fun t ht => by injection ht with ht; subst ht; exact rfl) trivial
          refine Rg.goodG_cons ?_ ?_
          · intro ac w' cx hg hn
            obtain ⟨v81, e81, r81⟩ := hn 81 (Rg.mem_of (by kernel_rfl))
            obtain rfl : v81 = .string t := r81
            obtain ⟨v82, e82, r82⟩ := hn 82 (Rg.mem_of (by kernel_rfl))
            obtain rfl : v82 = .string b := r82
            refine .inl ⟨(Rg.wanted_none rfl), fun K hK => ?_⟩
            have h9 : ¬ (9223372036854775807 < t.size + b.size) := by have := HT.out.2; omega
            go_simp
            exact hK _ _ (Below.refl _ _) (fun t ht => by injection ht with ht; subst ht; exact rfl) trivial
          refine Rg.goodG_cons ?_ ?_
          · intro ac w' cx hg hn
            obtain ⟨v72, e72, r72⟩ := hn 72 (Rg.mem_of (by kernel_rfl))
            obtain rfl : v72 = .slice (some ⟨g, 0, none⟩) n c := r72
            obtain ⟨v73, e73, r73⟩ := hn 73 (Rg.mem_of (by kernel_rfl))
            obtain rfl : v73 = .int .i64 (m : Int) := r73
            refine .inl ⟨(Rg.wanted_none rfl), fun K hK => ?_⟩
            go_simp
            exact hK _ _ (Below.refl _ _) (fun t ht => by injection ht with ht; subst ht; exact rfl) trivial
          refine Rg.goodG_cons ?_ ?_
          · intro ac w' cx hg hn
            obtain ⟨v84, e84, r84⟩ := hn 84 (Rg.mem_of (by kernel_rfl))
            obtain rfl : v84 = .pointer (some ⟨g, m * 2, none⟩) := r84
            refine .inl ⟨(Rg.wanted_none rfl), fun K hK => ?_⟩
            go_simp
            exact hK _ _ (Below.refl _ _) (fun t ht => by injection ht with ht; subst ht; exact rfl) trivial
          exact Rg.goodG_nil
        case done =>
          intro u w7 hb7 hr _
          have e83 : u 83 = .string (t ++ b) := hr 83 (by simp)
          have e85 : u 85 = .pointer (some ⟨g, m * 2, none⟩) := hr 85 (by simp)
          simp only [Rg.fillL_cons, Rg.fillL_nil, if_true, if_false, Bool.false_eq_true, e83, e85]
          change wpList _ _ _ [_] _ _
          have h7 := (H3.out.1).below hb7
          obtain ⟨hv, ht⟩ := HT.out
          obtain ⟨g', c', t', z', hv', x1, _, _, hfz⟩ := h7.file HMN.out
          rw [hv] at hv'
          injection hv' with hv' _ _
          injection hv' with hv'
          injection hv' with hv' _
          subst hv'
          have fx := hfz (m * 2)
          obtain ⟨r1, r2⟩ := h7.cell (M' := M + b.size + 2) hv (u := .string (t ++ b)) (j := m * 2) rfl (h7.fc.text HMN.out (by rw [ByteArray.size_append]; omega) (by omega)) (by have := HMN.out; first | omega | (simp only; omega)) (by omega)
          have HP := Lib.hid (HMK.out _ (RP.then (Fr.of_below hb7) (RP.of r1 r2 (Nat.le_refl _))))
          clear hr hb7 hv ht h7 hfz r1 r2 e83 e85 k1 q1
          go_wp2_with fail
          go_ret
          exact ⟨_, rfl, HP.out⟩
      
    | false =>
      clear hz
      by_cases h256 : 256 ≤ zl
      · have hd : decide ((256 : Int) ≤ (zl : Int)) = true := by simp; omega
        clear h256
        go_wp2_with fail
        refine Rg.wp_region_inv (R := fun sl v w => match sl with
            | 24 => v = .pointer (some ⟨q, 0, none⟩)
            | 25 => v = .int .i64 T
            | 26 => v = .string b
            | 27 => v = .int .i64 (b.size : Int)
            | 28 => v = .int .i64 X
            | 29 => v = .pointer (some ⟨q, 0, none⟩)
            | 30 => v = .pointer (some ⟨q, 0, none⟩)
            | 31 => v = .pointer (some ⟨q, 0, none⟩)
            | 32 => v = .int .i64 room
            | 33 => v = .bool false
            | 34 => v = .bool false
            | 35 => v = .bool false
            | 36 => v = .bool true
            | 37 => v = .bool true
            | 38 => v = .pointer (some ⟨q, 0, none⟩)
            | 39 => v = .pointer (some ⟨q, 0, none⟩)
            | 40 => v = .pointer (some ⟨q, 2, none⟩)
            | 41 => v = .map (some nb)
            | 42 => v = .int .i64 (zl : Int)
            | 43 => v = .bool true
            | 44 => v = .bool true
            | 45 => v = .bool true
            | _ => True) [24, 25, 26, 27, 28, 29, 30, 31, 32, 33, 34, 35, 36, 37, 38, 39, 40, 41, 42, 43, 44, 45] 86 [false, false, false, false, false, false, false, false, false, false, false, false, false, false, false, false, false, false, false, false, false, false, false, false, true, true, true, true, true, true, true, true, true, true, true, true, true, true, true, true, true, true, true, true, true, true, false, false, false, false, false, false, false, false, false, false, false, false, false, false, false, false, false, false, false, false, false, false, false, false, false, false, false, false, false, false, false, false, false, false, false, false, false, false, false, false] (by kernel_rfl) rfl (by kernel_rfl) (by kernel_rfl) (by kernel_rfl) (by kernel_rfl) (by kernel_rfl) ?mono ?good ?done
        case mono =>
          refine List.forall_mem_cons.2 ⟨fun _ _ _ _ _ h => h, ?_⟩
          refine List.forall_mem_cons.2 ⟨fun _ _ _ _ _ h => h, ?_⟩
          refine List.forall_mem_cons.2 ⟨fun _ _ _ _ _ h => h, ?_⟩
          refine List.forall_mem_cons.2 ⟨fun _ _ _ _ _ h => h, ?_⟩
          refine List.forall_mem_cons.2 ⟨fun _ _ _ _ _ h => h, ?_⟩
          refine List.forall_mem_cons.2 ⟨fun _ _ _ _ _ h => h, ?_⟩
          refine List.forall_mem_cons.2 ⟨fun _ _ _ _ _ h => h, ?_⟩
          refine List.forall_mem_cons.2 ⟨fun _ _ _ _ _ h => h, ?_⟩
          refine List.forall_mem_cons.2 ⟨fun _ _ _ _ _ h => h, ?_⟩
          refine List.forall_mem_cons.2 ⟨fun _ _ _ _ _ h => h, ?_⟩
          refine List.forall_mem_cons.2 ⟨fun _ _ _ _ _ h => h, ?_⟩
          refine List.forall_mem_cons.2 ⟨fun _ _ _ _ _ h => h, ?_⟩
          refine List.forall_mem_cons.2 ⟨fun _ _ _ _ _ h => h, ?_⟩
          refine List.forall_mem_cons.2 ⟨fun _ _ _ _ _ h => h, ?_⟩
          refine List.forall_mem_cons.2 ⟨fun _ _ _ _ _ h => h, ?_⟩
          refine List.forall_mem_cons.2 ⟨fun _ _ _ _ _ h => h, ?_⟩
          refine List.forall_mem_cons.2 ⟨fun _ _ _ _ _ h => h, ?_⟩
          refine List.forall_mem_cons.2 ⟨fun _ _ _ _ _ h => h, ?_⟩
          refine List.forall_mem_cons.2 ⟨fun _ _ _ _ _ h => h, ?_⟩
          refine List.forall_mem_cons.2 ⟨fun _ _ _ _ _ h => h, ?_⟩
          refine List.forall_mem_cons.2 ⟨fun _ _ _ _ _ h => h, ?_⟩
          refine List.forall_mem_cons.2 ⟨fun _ _ _ _ _ h => h, ?_⟩
          exact fun _ h => absurd h (by simp)
        case good =>
          refine Rg.good_cons ?_ ?_
          · intro ac w' cx hn
            have e0 := cx.at_ 0 (by kernel_rfl) rfl
            refine .inl ⟨(Rg.wanted_none rfl), fun K hK => ?_⟩
            go_simp
            exact hK _ _ (Below.refl _ _) (fun t ht => by injection ht with ht; subst ht; exact rfl)
          refine Rg.good_cons ?_ ?_
          · intro ac w' cx hn
            obtain ⟨v24, e24, r24⟩ := hn 24 (Rg.mem_of (by kernel_rfl))
            obtain rfl : v24 = .pointer (some ⟨q, 0, none⟩) := r24
            refine .inl ⟨(Rg.wanted_none rfl), fun K hK => ?_⟩
            go_simp
            refine (HUS.out _ cx.bel).mono ?_
            rintro y w5 ⟨rfl, hb5⟩
            exact hK _ _ hb5 (fun t ht => by injection ht with ht; subst ht; exact rfl)
          refine Rg.good_cons ?_ ?_
          · intro ac w' cx hn
            have e2 := cx.at_ 2 (by kernel_rfl) rfl
            refine .inl ⟨(Rg.wanted_none rfl), fun K hK => ?_⟩
            go_simp
            exact hK _ _ (Below.refl _ _) (fun t ht => by injection ht with ht; subst ht; exact rfl)
          refine Rg.good_cons ?_ ?_
          · intro ac w' cx hn
            obtain ⟨v26, e26, r26⟩ := hn 26 (Rg.mem_of (by kernel_rfl))
            obtain rfl : v26 = .string b := r26
            refine .inl ⟨(Rg.wanted_none rfl), fun K hK => ?_⟩
            go_simp
            exact hK _ _ (Below.refl _ _) (fun t ht => by injection ht with ht; subst ht; exact rfl)
          refine Rg.good_cons ?_ ?_
          · intro ac w' cx hn
            obtain ⟨v25, e25, r25⟩ := hn 25 (Rg.mem_of (by kernel_rfl))
            obtain rfl : v25 = .int .i64 T := r25
            obtain ⟨v27, e27, r27⟩ := hn 27 (Rg.mem_of (by kernel_rfl))
            obtain rfl : v27 = .int .i64 (b.size : Int) := r27
            refine .inl ⟨(Rg.wanted_none rfl), fun K hK => ?_⟩
            go_simp
            exact hK _ _ (Below.refl _ _) (fun t ht => by injection ht with ht; subst ht; exact (by first | rfl | exact congrArg (Value.int .i64) hX0 | exact congrArg (Value.int .i64) hX2))
          refine Rg.good_cons ?_ ?_
          · intro ac w' cx hn
            have e0 := cx.at_ 0 (by kernel_rfl) rfl
            refine .inl ⟨(Rg.wanted_none rfl), fun K hK => ?_⟩
            go_simp
            exact hK _ _ (Below.refl _ _) (fun t ht => by injection ht with ht; subst ht; exact rfl)
          refine Rg.good_cons ?_ ?_
          · intro ac w' cx hn
            obtain ⟨v29, e29, r29⟩ := hn 29 (Rg.mem_of (by kernel_rfl))
            obtain rfl : v29 = .pointer (some ⟨q, 0, none⟩) := r29
            refine .inl ⟨(Rg.wanted_none rfl), fun K hK => ?_⟩
            go_simp
            exact hK _ _ (Below.refl _ _) (fun t ht => by injection ht with ht; subst ht; exact rfl)
          refine Rg.good_cons ?_ ?_
          · intro ac w' cx hn
            obtain ⟨v30, e30, r30⟩ := hn 30 (Rg.mem_of (by kernel_rfl))
            obtain rfl : v30 = .pointer (some ⟨q, 0, none⟩) := r30
            refine .inl ⟨(Rg.wanted_none rfl), fun K hK => ?_⟩
            go_simp
            exact hK _ _ (Below.refl _ _) (fun t ht => by injection ht with ht; subst ht; exact rfl)
          refine Rg.good_cons ?_ ?_
          · intro ac w' cx hn
            obtain ⟨v31, e31, r31⟩ := hn 31 (Rg.mem_of (by kernel_rfl))
            obtain rfl : v31 = .pointer (some ⟨q, 0, none⟩) := r31
            have hx := cb c0 cx.bel
            refine .inl ⟨(Rg.wanted_none rfl), fun K hK => ?_⟩
            go_simp
            exact hK _ _ (Below.refl _ _) (fun t ht => by injection ht with ht; subst ht; exact rfl)
          refine Rg.good_cons ?_ ?_
          · intro ac w' cx hn
            obtain ⟨v28, e28, r28⟩ := hn 28 (Rg.mem_of (by kernel_rfl))
            obtain rfl : v28 = .int .i64 X := r28
            obtain ⟨v32, e32, r32⟩ := hn 32 (Rg.mem_of (by kernel_rfl))
            obtain rfl : v32 = .int .i64 room := r32
            refine .inl ⟨(Rg.wanted_none rfl), fun K hK => ?_⟩
            go_simp
            exact hK _ _ (Below.refl _ _) (fun t ht => by injection ht with ht; subst ht; exact rfl)
          refine Rg.good_cons ?_ ?_
          · intro ac w' cx hn
            obtain ⟨v33, e33, r33⟩ := hn 33 (Rg.mem_of (by kernel_rfl))
            obtain rfl : v33 = .bool false := r33
            refine .inl ⟨(Rg.wanted_none rfl), fun K hK => ?_⟩
            go_simp
            exact hK _ _ (Below.refl _ _) (fun t ht => by injection ht with ht; subst ht; exact rfl)
          refine Rg.good_cons ?_ ?_
          · intro ac w' cx hn
            have e8 := cx.at_ 8 (by kernel_rfl) rfl
            obtain ⟨v34, e34, r34⟩ := hn 34 (Rg.mem_of (by kernel_rfl))
            obtain rfl : v34 = .bool false := r34
            refine .inl ⟨((Rg.wanted_some (t := 34) rfl (by kernel_rfl) e34).trans rfl), fun K hK => ?_⟩
            go_simp
            exact hK _ _ (Below.refl _ _) (fun t ht => by injection ht with ht; subst ht; exact rfl)
          refine Rg.good_cons ?_ ?_
          · intro ac w' cx hn
            obtain ⟨v35, e35, r35⟩ := hn 35 (Rg.mem_of (by kernel_rfl))
            obtain rfl : v35 = .bool false := r35
            obtain ⟨v34, e34, r34⟩ := hn 34 (Rg.mem_of (by kernel_rfl))
            obtain rfl : v34 = .bool false := r34
            refine .inl ⟨((Rg.wanted_some (t := 34) rfl (by kernel_rfl) e34).trans rfl), fun K hK => ?_⟩
            go_simp
            exact hK _ _ (Below.refl _ _) (fun t ht => by injection ht with ht; subst ht; exact rfl)
          refine Rg.good_cons ?_ ?_
          · intro ac w' cx hn
            obtain ⟨v36, e36, r36⟩ := hn 36 (Rg.mem_of (by kernel_rfl))
            obtain rfl : v36 = .bool true := r36
            obtain ⟨v34, e34, r34⟩ := hn 34 (Rg.mem_of (by kernel_rfl))
            obtain rfl : v34 = .bool false := r34
            refine .inl ⟨((Rg.wanted_some (t := 34) rfl (by kernel_rfl) e34).trans rfl), fun K hK => ?_⟩
            go_simp
            exact hK _ _ (Below.refl _ _) (fun t ht => by injection ht with ht; subst ht; exact rfl)
          refine Rg.good_cons ?_ ?_
          · intro ac w' cx hn
            have e0 := cx.at_ 0 (by kernel_rfl) rfl
            obtain ⟨v37, e37, r37⟩ := hn 37 (Rg.mem_of (by kernel_rfl))
            obtain rfl : v37 = .bool true := r37
            refine .inl ⟨((Rg.wanted_some (t := 37) rfl (by kernel_rfl) e37).trans rfl), fun K hK => ?_⟩
            go_simp
            exact hK _ _ (Below.refl _ _) (fun t ht => by injection ht with ht; subst ht; exact rfl)
          refine Rg.good_cons ?_ ?_
          · intro ac w' cx hn
            obtain ⟨v38, e38, r38⟩ := hn 38 (Rg.mem_of (by kernel_rfl))
            obtain rfl : v38 = .pointer (some ⟨q, 0, none⟩) := r38
            obtain ⟨v37, e37, r37⟩ := hn 37 (Rg.mem_of (by kernel_rfl))
            obtain rfl : v37 = .bool true := r37
            refine .inl ⟨((Rg.wanted_some (t := 37) rfl (by kernel_rfl) e37).trans rfl), fun K hK => ?_⟩
            go_simp
            exact hK _ _ (Below.refl _ _) (fun t ht => by injection ht with ht; subst ht; exact rfl)
          refine Rg.good_cons ?_ ?_
          · intro ac w' cx hn
            obtain ⟨v39, e39, r39⟩ := hn 39 (Rg.mem_of (by kernel_rfl))
            obtain rfl : v39 = .pointer (some ⟨q, 0, none⟩) := r39
            obtain ⟨v37, e37, r37⟩ := hn 37 (Rg.mem_of (by kernel_rfl))
            obtain rfl : v37 = .bool true := r37
            refine .inl ⟨((Rg.wanted_some (t := 37) rfl (by kernel_rfl) e37).trans rfl), fun K hK => ?_⟩
            go_simp
            exact hK _ _ (Below.refl _ _) (fun t ht => by injection ht with ht; subst ht; exact rfl)
          refine Rg.good_cons ?_ ?_
          · intro ac w' cx hn
            obtain ⟨v40, e40, r40⟩ := hn 40 (Rg.mem_of (by kernel_rfl))
            obtain rfl : v40 = .pointer (some ⟨q, 2, none⟩) := r40
            have hx := cb c2 cx.bel
            obtain ⟨v37, e37, r37⟩ := hn 37 (Rg.mem_of (by kernel_rfl))
            obtain rfl : v37 = .bool true := r37
            refine .inl ⟨((Rg.wanted_some (t := 37) rfl (by kernel_rfl) e37).trans rfl), fun K hK => ?_⟩
            go_simp
            exact hK _ _ (Below.refl _ _) (fun t ht => by injection ht with ht; subst ht; exact rfl)
          refine Rg.good_cons ?_ ?_
          · intro ac w' cx hn
            obtain ⟨v41, e41, r41⟩ := hn 41 (Rg.mem_of (by kernel_rfl))
            obtain rfl : v41 = .map (some nb) := r41
            obtain ⟨v37, e37, r37⟩ := hn 37 (Rg.mem_of (by kernel_rfl))
            obtain rfl : v37 = .bool true := r37
            refine .inl ⟨((Rg.wanted_some (t := 37) rfl (by kernel_rfl) e37).trans rfl), fun K hK => ?_⟩
            have hlen := HLEN.out _ cx.bel
            go_simp
            exact hK _ _ (Below.refl _ _) (fun t ht => by injection ht with ht; subst ht; exact rfl)
          refine Rg.good_cons ?_ ?_
          · intro ac w' cx hn
            obtain ⟨v42, e42, r42⟩ := hn 42 (Rg.mem_of (by kernel_rfl))
            obtain rfl : v42 = .int .i64 (zl : Int) := r42
            obtain ⟨v37, e37, r37⟩ := hn 37 (Rg.mem_of (by kernel_rfl))
            obtain rfl : v37 = .bool true := r37
            refine .inl ⟨((Rg.wanted_some (t := 37) rfl (by kernel_rfl) e37).trans rfl), fun K hK => ?_⟩
            go_simp
            exact hK _ _ (Below.refl _ _) (fun t ht => by injection ht with ht; subst ht; exact rfl)
          refine Rg.good_cons ?_ ?_
          · intro ac w' cx hn
            obtain ⟨v37, e37, r37⟩ := hn 37 (Rg.mem_of (by kernel_rfl))
            obtain rfl : v37 = .bool true := r37
            obtain ⟨v43, e43, r43⟩ := hn 43 (Rg.mem_of (by kernel_rfl))
            obtain rfl : v43 = .bool true := r43
            obtain ⟨v34, e34, r34⟩ := hn 34 (Rg.mem_of (by kernel_rfl))
            obtain rfl : v34 = .bool false := r34
            refine .inl ⟨((Rg.wanted_some (t := 34) rfl (by kernel_rfl) e34).trans rfl), fun K hK => ?_⟩
            go_simp
            exact hK _ _ (Below.refl _ _) (fun t ht => by injection ht with ht; subst ht; exact rfl)
          refine Rg.good_cons ?_ ?_
          · intro ac w' cx hn
            obtain ⟨v34, e34, r34⟩ := hn 34 (Rg.mem_of (by kernel_rfl))
            obtain rfl : v34 = .bool false := r34
            obtain ⟨v44, e44, r44⟩ := hn 44 (Rg.mem_of (by kernel_rfl))
            obtain rfl : v44 = .bool true := r44
            refine .inl ⟨(Rg.wanted_none rfl), fun K hK => ?_⟩
            go_simp
            exact hK _ _ (Below.refl _ _) (fun t ht => by injection ht with ht; subst ht; exact rfl)
          exact Rg.good_nil
        case done =>
          intro u w3 hb3 hr
          have e45 : u 45 = .bool true := hr 45 (by simp)
          simp only [Rg.fillL_cons, Rg.fillL_nil, if_true, if_false, Bool.false_eq_true, e45]
          have HP := Lib.hid (show RP O w q (M + b.size + 2) w3 from RP.of (H1.out.1.below hb3) (H1.out.2.trans (Fr.of_below (O := O) hb3) (fun x hx => .inl hx)) (by omega))
          clear hr hb3 e45
          go_wp2_with fail
          go_ret
          exact ⟨_, rfl, HP.out⟩
      · have hd : decide ((256 : Int) ≤ (zl : Int)) = false := by simp; omega
        clear h256
        go_wp2_with fail
        refine Rg.wp_region_inv (R := fun sl v w => match sl with
            | 24 => v = .pointer (some ⟨q, 0, none⟩)
            | 25 => v = .int .i64 T
            | 26 => v = .string b
            | 27 => v = .int .i64 (b.size : Int)
            | 28 => v = .int .i64 X
            | 29 => v = .pointer (some ⟨q, 0, none⟩)
            | 30 => v = .pointer (some ⟨q, 0, none⟩)
            | 31 => v = .pointer (some ⟨q, 0, none⟩)
            | 32 => v = .int .i64 room
            | 33 => v = .bool false
            | 34 => v = .bool false
            | 35 => v = .bool false
            | 36 => v = .bool true
            | 37 => v = .bool true
            | 38 => v = .pointer (some ⟨q, 0, none⟩)
            | 39 => v = .pointer (some ⟨q, 0, none⟩)
            | 40 => v = .pointer (some ⟨q, 2, none⟩)
            | 41 => v = .map (some nb)
            | 42 => v = .int .i64 (zl : Int)
            | 43 => v = .bool false
            | 44 => v = .bool false
            | 45 => v = .bool false
            | _ => True) [24, 25, 26, 27, 28, 29, 30, 31, 32, 33, 34, 35, 36, 37, 38, 39, 40, 41, 42, 43, 44, 45] 86 [false, false, false, false, false, false, false, false, false, false, false, false, false, false, false, false, false, false, false, false, false, false, false, false, true, true, true, true, true, true, true, true, true, true, true, true, true, true, true, true, true, true, true, true, true, true, false, false, false, false, false, false, false, false, false, false, false, false, false, false, false, false, false, false, false, false, false, false, false, false, false, false, false, false, false, false, false, false, false, false, false, false, false, false, false, false] (by kernel_rfl) rfl (by kernel_rfl) (by kernel_rfl) (by kernel_rfl) (by kernel_rfl) (by kernel_rfl) ?mono ?good ?done
        case mono =>
          refine List.forall_mem_cons.2 ⟨fun _ _ _ _ _ h => h, ?_⟩
          refine List.forall_mem_cons.2 ⟨fun _ _ _ _ _ h => h, ?_⟩
          refine List.forall_mem_cons.2 ⟨fun _ _ _ _ _ h => h, ?_⟩
          refine List.forall_mem_cons.2 ⟨fun _ _ _ _ _ h => h, ?_⟩
          refine List.forall_mem_cons.2 ⟨fun _ _ _ _ _ h => h, ?_⟩
          refine List.forall_mem_cons.2 ⟨fun _ _ _ _ _ h => h, ?_⟩
          refine List.forall_mem_cons.2 ⟨fun _ _ _ _ _ h => h, ?_⟩
          refine List.forall_mem_cons.2 ⟨fun _ _ _ _ _ h => h, ?_⟩
          refine List.forall_mem_cons.2 ⟨fun _ _ _ _ _ h => h, ?_⟩
          refine List.forall_mem_cons.2 ⟨fun _ _ _ _ _ h => h, ?_⟩
          refine List.forall_mem_cons.2 ⟨fun _ _ _ _ _ h => h, ?_⟩
          refine List.forall_mem_cons.2 ⟨fun _ _ _ _ _ h => h, ?_⟩
          refine List.forall_mem_cons.2 ⟨fun _ _ _ _ _ h => h, ?_⟩
          refine List.forall_mem_cons.2 ⟨fun _ _ _ _ _ h => h, ?_⟩
          refine List.forall_mem_cons.2 ⟨fun _ _ _ _ _ h => h, ?_⟩
          refine List.forall_mem_cons.2 ⟨fun _ _ _ _ _ h => h, ?_⟩
          refine List.forall_mem_cons.2 ⟨fun _ _ _ _ _ h => h, ?_⟩
          refine List.forall_mem_cons.2 ⟨fun _ _ _ _ _ h => h, ?_⟩
          refine List.forall_mem_cons.2 ⟨fun _ _ _ _ _ h => h, ?_⟩
          refine List.forall_mem_cons.2 ⟨fun _ _ _ _ _ h => h, ?_⟩
          refine List.forall_mem_cons.2 ⟨fun _ _ _ _ _ h => h, ?_⟩
          refine List.forall_mem_cons.2 ⟨fun _ _ _ _ _ h => h, ?_⟩
          exact fun _ h => absurd h (by simp)
        case good =>
          refine Rg.good_cons ?_ ?_
          · intro ac w' cx hn
            have e0 := cx.at_ 0 (by kernel_rfl) rfl
            refine .inl ⟨(Rg.wanted_none rfl), fun K hK => ?_⟩
            go_simp
            exact hK _ _ (Below.refl _ _) (fun t ht => by injection ht with ht; subst ht; exact rfl)
          refine Rg.good_cons ?_ ?_
          · intro ac w' cx hn
            obtain ⟨v24, e24, r24⟩ := hn 24 (Rg.mem_of (by kernel_rfl))
            obtain rfl : v24 = .pointer (some ⟨q, 0, none⟩) := r24
            refine .inl ⟨(Rg.wanted_none rfl), fun K hK => ?_⟩
            go_simp
            refine (HUS.out _ cx.bel).mono ?_
            rintro y w5 ⟨rfl, hb5⟩
            exact hK _ _ hb5 (fun t ht => by injection ht with ht; subst ht; exact rfl)
          refine Rg.good_cons ?_ ?_
          · intro ac w' cx hn
            have e2 := cx.at_ 2 (by kernel_rfl) rfl
            refine .inl ⟨(Rg.wanted_none rfl), fun K hK => ?_⟩
            go_simp
            exact hK _ _ (Below.refl _ _) (fun t ht => by injection ht with ht; subst ht; exact rfl)
          refine Rg.good_cons ?_ ?_
          · intro ac w' cx hn
            obtain ⟨v26, e26, r26⟩ := hn 26 (Rg.mem_of (by kernel_rfl))
            obtain rfl : v26 = .string b := r26
            refine .inl ⟨(Rg.wanted_none rfl), fun K hK => ?_⟩
            go_simp
            exact hK _ _ (Below.refl _ _) (fun t ht => by injection ht with ht; subst ht; exact rfl)
          refine Rg.good_cons ?_ ?_
          · intro ac w' cx hn
            obtain ⟨v25, e25, r25⟩ := hn 25 (Rg.mem_of (by kernel_rfl))
            obtain rfl : v25 = .int .i64 T := r25
            obtain ⟨v27, e27, r27⟩ := hn 27 (Rg.mem_of (by kernel_rfl))
            obtain rfl : v27 = .int .i64 (b.size : Int) := r27
            refine .inl ⟨(Rg.wanted_none rfl), fun K hK => ?_⟩
            go_simp
            exact hK _ _ (Below.refl _ _) (fun t ht => by injection ht with ht; subst ht; exact (by first | rfl | exact congrArg (Value.int .i64) hX0 | exact congrArg (Value.int .i64) hX2))
          refine Rg.good_cons ?_ ?_
          · intro ac w' cx hn
            have e0 := cx.at_ 0 (by kernel_rfl) rfl
            refine .inl ⟨(Rg.wanted_none rfl), fun K hK => ?_⟩
            go_simp
            exact hK _ _ (Below.refl _ _) (fun t ht => by injection ht with ht; subst ht; exact rfl)
          refine Rg.good_cons ?_ ?_
          · intro ac w' cx hn
            obtain ⟨v29, e29, r29⟩ := hn 29 (Rg.mem_of (by kernel_rfl))
            obtain rfl : v29 = .pointer (some ⟨q, 0, none⟩) := r29
            refine .inl ⟨(Rg.wanted_none rfl), fun K hK => ?_⟩
            go_simp
            exact hK _ _ (Below.refl _ _) (fun t ht => by injection ht with ht; subst ht; exact rfl)
          refine Rg.good_cons ?_ ?_
          · intro ac w' cx hn
            obtain ⟨v30, e30, r30⟩ := hn 30 (Rg.mem_of (by kernel_rfl))
            obtain rfl : v30 = .pointer (some ⟨q, 0, none⟩) := r30
            refine .inl ⟨(Rg.wanted_none rfl), fun K hK => ?_⟩
            go_simp
            exact hK _ _ (Below.refl _ _) (fun t ht => by injection ht with ht; subst ht; exact rfl)
          refine Rg.good_cons ?_ ?_
          · intro ac w' cx hn
            obtain ⟨v31, e31, r31⟩ := hn 31 (Rg.mem_of (by kernel_rfl))
            obtain rfl : v31 = .pointer (some ⟨q, 0, none⟩) := r31
            have hx := cb c0 cx.bel
            refine .inl ⟨(Rg.wanted_none rfl), fun K hK => ?_⟩
            go_simp
            exact hK _ _ (Below.refl _ _) (fun t ht => by injection ht with ht; subst ht; exact rfl)
          refine Rg.good_cons ?_ ?_
          · intro ac w' cx hn
            obtain ⟨v28, e28, r28⟩ := hn 28 (Rg.mem_of (by kernel_rfl))
            obtain rfl : v28 = .int .i64 X := r28
            obtain ⟨v32, e32, r32⟩ := hn 32 (Rg.mem_of (by kernel_rfl))
            obtain rfl : v32 = .int .i64 room := r32
            refine .inl ⟨(Rg.wanted_none rfl), fun K hK => ?_⟩
            go_simp
            exact hK _ _ (Below.refl _ _) (fun t ht => by injection ht with ht; subst ht; exact rfl)
          refine Rg.good_cons ?_ ?_
          · intro ac w' cx hn
            obtain ⟨v33, e33, r33⟩ := hn 33 (Rg.mem_of (by kernel_rfl))
            obtain rfl : v33 = .bool false := r33
            refine .inl ⟨(Rg.wanted_none rfl), fun K hK => ?_⟩
            go_simp
            exact hK _ _ (Below.refl _ _) (fun t ht => by injection ht with ht; subst ht; exact rfl)
          refine Rg.good_cons ?_ ?_
          · intro ac w' cx hn
            have e8 := cx.at_ 8 (by kernel_rfl) rfl
            obtain ⟨v34, e34, r34⟩ := hn 34 (Rg.mem_of (by kernel_rfl))
            obtain rfl : v34 = .bool false := r34
            refine .inl ⟨((Rg.wanted_some (t := 34) rfl (by kernel_rfl) e34).trans rfl), fun K hK => ?_⟩
            go_simp
            exact hK _ _ (Below.refl _ _) (fun t ht => by injection ht with ht; subst ht; exact rfl)
          refine Rg.good_cons ?_ ?_
          · intro ac w' cx hn
            obtain ⟨v35, e35, r35⟩ := hn 35 (Rg.mem_of (by kernel_rfl))
            obtain rfl : v35 = .bool false := r35
            obtain ⟨v34, e34, r34⟩ := hn 34 (Rg.mem_of (by kernel_rfl))
            obtain rfl : v34 = .bool false := r34
            refine .inl ⟨((Rg.wanted_some (t := 34) rfl (by kernel_rfl) e34).trans rfl), fun K hK => ?_⟩
            go_simp
            exact hK _ _ (Below.refl _ _) (fun t ht => by injection ht with ht; subst ht; exact rfl)
          refine Rg.good_cons ?_ ?_
          · intro ac w' cx hn
            obtain ⟨v36, e36, r36⟩ := hn 36 (Rg.mem_of (by kernel_rfl))
            obtain rfl : v36 = .bool true := r36
            obtain ⟨v34, e34, r34⟩ := hn 34 (Rg.mem_of (by kernel_rfl))
            obtain rfl : v34 = .bool false := r34
            refine .inl ⟨((Rg.wanted_some (t := 34) rfl (by kernel_rfl) e34).trans rfl), fun K hK => ?_⟩
            go_simp
            exact hK _ _ (Below.refl _ _) (fun t ht => by injection ht with ht; subst ht; exact rfl)
          refine Rg.good_cons ?_ ?_
          · intro ac w' cx hn
            have e0 := cx.at_ 0 (by kernel_rfl) rfl
            obtain ⟨v37, e37, r37⟩ := hn 37 (Rg.mem_of (by kernel_rfl))
            obtain rfl : v37 = .bool true := r37
            refine .inl ⟨((Rg.wanted_some (t := 37) rfl (by kernel_rfl) e37).trans rfl), fun K hK => ?_⟩
            go_simp
            exact hK _ _ (Below.refl _ _) (fun t ht => by injection ht with ht; subst ht; exact rfl)
          refine Rg.good_cons ?_ ?_
          · intro ac w' cx hn
            obtain ⟨v38, e38, r38⟩ := hn 38 (Rg.mem_of (by kernel_rfl))
            obtain rfl : v38 = .pointer (some ⟨q, 0, none⟩) := r38
            obtain ⟨v37, e37, r37⟩ := hn 37 (Rg.mem_of (by kernel_rfl))
            obtain rfl : v37 = .bool true := r37
            refine .inl ⟨((Rg.wanted_some (t := 37) rfl (by kernel_rfl) e37).trans rfl), fun K hK => ?_⟩
            go_simp
            exact hK _ _ (Below.refl _ _) (fun t ht => by injection ht with ht; subst ht; exact rfl)
          refine Rg.good_cons ?_ ?_
          · intro ac w' cx hn
            obtain ⟨v39, e39, r39⟩ := hn 39 (Rg.mem_of (by kernel_rfl))
            obtain rfl : v39 = .pointer (some ⟨q, 0, none⟩) := r39
            obtain ⟨v37, e37, r37⟩ := hn 37 (Rg.mem_of (by kernel_rfl))
            obtain rfl : v37 = .bool true := r37
            refine .inl ⟨((Rg.wanted_some (t := 37) rfl (by kernel_rfl) e37).trans rfl), fun K hK => ?_⟩
            go_simp
            exact hK _ _ (Below.refl _ _) (fun t ht => by injection ht with ht; subst ht; exact rfl)
          refine Rg.good_cons ?_ ?_
          · intro ac w' cx hn
            obtain ⟨v40, e40, r40⟩ := hn 40 (Rg.mem_of (by kernel_rfl))
            obtain rfl : v40 = .pointer (some ⟨q, 2, none⟩) := r40
            have hx := cb c2 cx.bel
            obtain ⟨v37, e37, r37⟩ := hn 37 (Rg.mem_of (by kernel_rfl))
            obtain rfl : v37 = .bool true := r37
            refine .inl ⟨((Rg.wanted_some (t := 37) rfl (by kernel_rfl) e37).trans rfl), fun K hK => ?_⟩
            go_simp
            exact hK _ _ (Below.refl _ _) (fun t ht => by injection ht with ht; subst ht; exact rfl)
          refine Rg.good_cons ?_ ?_
          · intro ac w' cx hn
            obtain ⟨v41, e41, r41⟩ := hn 41 (Rg.mem_of (by kernel_rfl))
            obtain rfl : v41 = .map (some nb) := r41
            obtain ⟨v37, e37, r37⟩ := hn 37 (Rg.mem_of (by kernel_rfl))
            obtain rfl : v37 = .bool true := r37
            refine .inl ⟨((Rg.wanted_some (t := 37) rfl (by kernel_rfl) e37).trans rfl), fun K hK => ?_⟩
            have hlen := HLEN.out _ cx.bel
            go_simp
            exact hK _ _ (Below.refl _ _) (fun t ht => by injection ht with ht; subst ht; exact rfl)
          refine Rg.good_cons ?_ ?_
          · intro ac w' cx hn
            obtain ⟨v42, e42, r42⟩ := hn 42 (Rg.mem_of (by kernel_rfl))
            obtain rfl : v42 = .int .i64 (zl : Int) := r42
            obtain ⟨v37, e37, r37⟩ := hn 37 (Rg.mem_of (by kernel_rfl))
            obtain rfl : v37 = .bool true := r37
            refine .inl ⟨((Rg.wanted_some (t := 37) rfl (by kernel_rfl) e37).trans rfl), fun K hK => ?_⟩
            go_simp
            exact hK _ _ (Below.refl _ _) (fun t ht => by injection ht with ht; subst ht; exact rfl)
          refine Rg.good_cons ?_ ?_
          · intro ac w' cx hn
            obtain ⟨v37, e37, r37⟩ := hn 37 (Rg.mem_of (by kernel_rfl))
            obtain rfl : v37 = .bool true := r37
            obtain ⟨v43, e43, r43⟩ := hn 43 (Rg.mem_of (by kernel_rfl))
            obtain rfl : v43 = .bool false := r43
            obtain ⟨v34, e34, r34⟩ := hn 34 (Rg.mem_of (by kernel_rfl))
            obtain rfl : v34 = .bool false := r34
            refine .inl ⟨((Rg.wanted_some (t := 34) rfl (by kernel_rfl) e34).trans rfl), fun K hK => ?_⟩
            go_simp
            exact hK _ _ (Below.refl _ _) (fun t ht => by injection ht with ht; subst ht; exact rfl)
          refine Rg.good_cons ?_ ?_
          · intro ac w' cx hn
            obtain ⟨v34, e34, r34⟩ := hn 34 (Rg.mem_of (by kernel_rfl))
            obtain rfl : v34 = .bool false := r34
            obtain ⟨v44, e44, r44⟩ := hn 44 (Rg.mem_of (by kernel_rfl))
            obtain rfl : v44 = .bool false := r44
            refine .inl ⟨(Rg.wanted_none rfl), fun K hK => ?_⟩
            go_simp
            exact hK _ _ (Below.refl _ _) (fun t ht => by injection ht with ht; subst ht; exact rfl)
          exact Rg.good_nil
        case done =>
          intro u w3 hb3 hr
          have e45 : u 45 = .bool false := hr 45 (by simp)
          simp only [Rg.fillL_cons, Rg.fillL_nil, if_true, if_false, Bool.false_eq_true, e45]
          have H3 := Lib.hid (And.intro (H1.out.1.below hb3) (H1.out.2.trans (Fr.of_below (O := O) hb3) (fun x hx => .inl hx)))
          obtain ⟨⟨k0, k1, k2, k3, k4, k5, k6⟩, kz⟩ := H3.out.1.cells
          have f1 := kz 1
          obtain ⟨n, hn⟩ : ∃ n, S1.n = n := ⟨_, rfl⟩
          obtain ⟨A, c, hv⟩ : ∃ A c, S1.v = .slice A n c := by
            rcases H3.out.1.row.2 with ⟨hv, hz⟩ | ⟨g', cap, cur, hv, _⟩
            · exact ⟨none, 0, by rw [hv, ← hn, hz]⟩
            · exact ⟨_, _, by rw [hv, hn]⟩
          have hrow := H3.out.1.row
          rw [hv, hn] at hrow
          rw [hv] at k1
          have hn9 : n ≤ 400000 := by have := H3.out.1.nM; omega
          have HN := Lib.hid (And.intro hn hv)
          obtain ⟨W2, hW2⟩ : ∃ W2, w3.alloc (.cells #[.string ⟨#[]⟩, .int .i64 0] 82 (0, 0)) = W2 := ⟨_, rfl⟩
          have hg2 : Below w3.heap.size w3 W2 := hW2 ▸ grows w3 _
          have hbx2 : W2.heap[w3.heap.size]? = some (.cells #[.string ⟨#[]⟩, .int .i64 0] 82 (0, 0)) := hW2 ▸ heap_alloc_new w3 _
          have hrow2 : W2.ownsRow 0 82 2 (.slice A n c) n S1.xs := own_abide hrow (fun k hk => hg2.block k (hrow.lt k hk).2)
          obtain ⟨i0, hi, hz0, hz1, hz2⟩ := info_parts infoFile
          have hcs : ∀ j u, ([.string ⟨#[]⟩, .int .i64 0] : List Value)[j]? = some u → W2.cell? ((⟨w3.heap.size, 0, none⟩ : Addr).add j) = some u := fun j u hj => by
            rw [Tk.addr_add, cell_of_row _ _ _ _ _ _ hbx2]
            match j, hj with
            | 0, hj => exact hj
            | 1, hj => exact hj
          subst hW2
          have HG2 := Lib.hid hg2
          have HR2 := Lib.hid hrow2
          have HCS := Lib.hid hcs
          have HB2 := Lib.hid hbx2
          clear hr hb3 e45 hv hn hrow kz hg2 hbx2 hrow2 hcs k0 k2 k3 k4 k5 k6 c0 c1 c2 c3 c4 c5 c6
          go_wp2_with (
            at_builtin
            refine wpList_append_own_at _ rfl _ _ 64 rfl 0 82 i0 (.agg #[.string ⟨#[]⟩, .int .i64 0]) 2 24 Try.underlying64 hi hz0 hz1 hz2 rfl (by decide) (.slice A n c) n S1.xs rfl HR2.out ⟨w3.heap.size, 0, none⟩ 1 1 [.string ⟨#[]⟩, .int .i64 0] rfl rfl HCS.out (by simp [Value.oneCell']) (by unfold maxLen; omega) (by omega) (Nat.zero_le _) ?_
            intro v' w4 hr4 hg4 _ ho4
            obtain ⟨A', c', rfl⟩ : ∃ A' c', v' = .slice A' (n + 1) c' := by
              rcases hr4.2 with ⟨hv, hz⟩ | ⟨g', cap, cur, hv, _⟩
              · omega
              · exact ⟨_, _, hv⟩
            obtain ⟨hn, hv⟩ := HN.out
            obtain ⟨hG1, hG2⟩ := H3.out.1.grow HG2.out (v' := .slice A' (n + 1) c') (by rw [hn]; exact hr4) (by rw [hv]; exact hg4) (by rw [hv]; exact ho4)
            have nq : some q ≠ (Value.slice A n c).ownBlock := fun e => (H3.out.1.row_ne (by rw [hv]; exact e.symm)).1 rfl
            have hbx4 := ((hg4.block q (Nat.lt_of_lt_of_le (H3.out.1.bound q H3.out.1.oq) HG2.out.size) nq).trans (H3.out.1.below HG2.out).box)
            rw [hv] at hbx4
            have qc : w4.cell? ⟨q, 1, none⟩ = some (.slice A n c) := by rw [cell_of_row _ _ _ _ _ _ hbx4]; rfl
            have qf : w4.frozen? ⟨q, 1, none⟩ = false := by simp [World.frozen?, hbx4]
            obtain ⟨W5, hW5⟩ : ∃ W5, w4.setCell ⟨q, 1, none⟩ (.slice A' (n + 1) c') = W5 := ⟨_, rfl⟩
            rw [hW5] at hG1 hG2
            have k2 : W5.cell? ⟨q, 2, none⟩ = some (.map (some nb)) := by have := hG1.cells.1.2.2.1; rw [← HNB.out]; exact this
            obtain ⟨w6, hst, hnm6, hg6⟩ := hG1.now.store (by unfold maxLen; omega) HK.out (show n < S1.n + 1 by omega)
            obtain ⟨hP1, hP2⟩ := hG1.nowput hnm6 hg6 (Nat.le_succ _)
            have hst : (Instr.mapUpdate 63 (.map (some nb)) (.string s) (.int .i64 (n : Int))).run Try.prog W5 = .ok () w6 := by rw [← HNB.out]; exact hst
            have H6 := Lib.hid hP1
            have HMK := Lib.hid (show ∀ w', RP (On O w3 W5) w6 q (M + b.size + 2) w' → RP O w q (M + b.size + 2) w' from fun w' hp => RP.then H3.out.2 (RP.step hG2 (RP.then hP2 hp)))
            obtain ⟨g, c2, t, zz, hv6, q1, _, ht, _⟩ := hP1.file (m := n) (show n < S1.n + 1 by omega)
            have k1 : w6.cell? ⟨q, 1, none⟩ = some (.slice A' (n + 1) c') := hP1.cells.1.2.1
            have hv6' : Value.slice A' (n + 1) c' = .slice (some ⟨g, 0, none⟩) (S1.n + 1) c2 := hv6
            rw [hn] at hv6'
            injection hv6' with a1 _ a2
            subst a1 a2
            have HNI := Lib.hid (show n < S1.n + 1 by omega)
            have HT := Lib.hid (And.intro hv6 ht)
            obtain ⟨n1, hn1⟩ : ∃ n1, n + 1 = n1 := ⟨_, rfl⟩
            rw [hn1] at k1
            have hmi : (n : Int) < (n1 : Int) := by omega
            clear hn1 hr4 hg4 ho4 hG1 hG2 nq hbx4 hnm6 hg6 hP1 hP2 hv6 ht hn hv)
          refine Rg.wp_region_invG (R := fun sl v w => match sl with
              | 69 => v = .pointer (some ⟨q, 0, none⟩)
              | 70 => v = .pointer (some ⟨q, 0, none⟩)
              | 71 => v = .pointer (some ⟨q, 1, none⟩)
              | 72 => v = .slice (some ⟨g, 0, none⟩) n1 c'
              | 73 => v = .int .i64 (n : Int)
              | 74 => v = .pointer (some ⟨q, 0, none⟩)
              | 75 => v = .pointer (some ⟨q, 0, none⟩)
              | 76 => v = .pointer (some ⟨q, 1, none⟩)
              | 77 => v = .slice (some ⟨g, 0, none⟩) n1 c'
              | 78 => v = .int .i64 (n : Int)
              | 79 => v = .pointer (some ⟨g, n * 2, none⟩)
              | 80 => v = .pointer (some ⟨g, n * 2, none⟩)
              | 81 => v = .string t
              | 82 => v = .string b
              | 83 => v = .string (t ++ b)
              | 84 => v = .pointer (some ⟨g, n * 2, none⟩)
              | 85 => v = .pointer (some ⟨g, n * 2, none⟩)
              | _ => True) (fun a w => True) 17 [69, 70, 71, 72, 73, 74, 75, 76, 77, 78, 79, 80, 81, 82, 83, 84, 85] 86 [false, false, false, false, false, false, false, false, false, false, false, false, false, false, false, false, false, false, false, false, false, false, false, false, false, false, false, false, false, false, false, false, false, false, false, false, false, false, false, false, false, false, false, false, false, false, false, false, false, false, false, false, false, false, false, false, false, false, false, false, false, false, false, false, false, false, false, false, false, true, true, true, true, true, true, true, true, true, true, true, true, true, true, true, true, true] (by kernel_rfl) rfl (by kernel_rfl) (by kernel_rfl) (by kernel_rfl) (by kernel_rfl) (Nat.le_of_ble_eq_true (by kernel_rfl)) (by kernel_rfl) (by kernel_rfl) ?mono ?g0 ?good ?done
          case mono =>
            refine List.forall_mem_cons.2 ⟨fun _ _ _ _ _ h => h, ?_⟩
            refine List.forall_mem_cons.2 ⟨fun _ _ _ _ _ h => h, ?_⟩
            refine List.forall_mem_cons.2 ⟨fun _ _ _ _ _ h => h, ?_⟩
            refine List.forall_mem_cons.2 ⟨fun _ _ _ _ _ h => h, ?_⟩
            refine List.forall_mem_cons.2 ⟨fun _ _ _ _ _ h => h, ?_⟩
            refine List.forall_mem_cons.2 ⟨fun _ _ _ _ _ h => h, ?_⟩
            refine List.forall_mem_cons.2 ⟨fun _ _ _ _ _ h => h, ?_⟩
            refine List.forall_mem_cons.2 ⟨fun _ _ _ _ _ h => h, ?_⟩
            refine List.forall_mem_cons.2 ⟨fun _ _ _ _ _ h => h, ?_⟩
            refine List.forall_mem_cons.2 ⟨fun _ _ _ _ _ h => h, ?_⟩
            refine List.forall_mem_cons.2 ⟨fun _ _ _ _ _ h => h, ?_⟩
            refine List.forall_mem_cons.2 ⟨fun _ _ _ _ _ h => h, ?_⟩
            refine List.forall_mem_cons.2 ⟨fun _ _ _ _ _ h => h, ?_⟩
            refine List.forall_mem_cons.2 ⟨fun _ _ _ _ _ h => h, ?_⟩
            refine List.forall_mem_cons.2 ⟨fun _ _ _ _ _ h => h, ?_⟩
            refine List.forall_mem_cons.2 ⟨fun _ _ _ _ _ h => h, ?_⟩
            refine List.forall_mem_cons.2 ⟨fun _ _ _ _ _ h => h, ?_⟩
            exact fun _ h => absurd h (by simp)
          case g0 => exact trivial
          case good =>
            refine Rg.goodG_cons ?_ ?_
            · intro ac w' cx hg hn
              have e0 := cx.at_ 0 (by kernel_rfl) rfl
              refine .inl ⟨(Rg.wanted_none rfl), fun K hK => ?_⟩
              go_simp
              exact hK _ _ (Below.refl _ _) (fun t ht => by injection ht with ht; subst ht; exact rfl) trivial
            refine Rg.goodG_cons ?_ ?_
            · intro ac w' cx hg hn
              obtain ⟨v69, e69, r69⟩ := hn 69 (Rg.mem_of (by kernel_rfl))
              obtain rfl : v69 = .pointer (some ⟨q, 0, none⟩) := r69
              refine .inl ⟨(Rg.wanted_none rfl), fun K hK => ?_⟩
              go_simp
              exact hK _ _ (Below.refl _ _) (fun t ht => by injection ht with ht; subst ht; exact rfl) trivial
            refine Rg.goodG_cons ?_ ?_
            · intro ac w' cx hg hn
              obtain ⟨v70, e70, r70⟩ := hn 70 (Rg.mem_of (by kernel_rfl))
              obtain rfl : v70 = .pointer (some ⟨q, 0, none⟩) := r70
              refine .inl ⟨(Rg.wanted_none rfl), fun K hK => ?_⟩
              go_simp
              exact hK _ _ (Below.refl _ _) (fun t ht => by injection ht with ht; subst ht; exact rfl) trivial
            refine Rg.goodG_cons ?_ ?_
            · intro ac w' cx hg hn
              obtain ⟨v71, e71, r71⟩ := hn 71 (Rg.mem_of (by kernel_rfl))
              obtain rfl : v71 = .pointer (some ⟨q, 1, none⟩) := r71
              have hx := cb k1 cx.bel
              refine .inl ⟨(Rg.wanted_none rfl), fun K hK => ?_⟩
              go_simp
              exact hK _ _ (Below.refl _ _) (fun t ht => by injection ht with ht; subst ht; exact rfl) trivial
            refine Rg.goodG_cons ?_ ?_
            · intro ac w' cx hg hn
              have e7 := cx.at_ 7 (by kernel_rfl) rfl
              refine .inl ⟨(Rg.wanted_none rfl), fun K hK => ?_⟩
              go_simp
              exact hK _ _ (Below.refl _ _) (fun t ht => by injection ht with ht; subst ht; exact rfl) trivial
            refine Rg.goodG_cons ?_ ?_
            · intro ac w' cx hg hn
              have e0 := cx.at_ 0 (by kernel_rfl) rfl
              refine .inl ⟨(Rg.wanted_none rfl), fun K hK => ?_⟩
              go_simp
              exact hK _ _ (Below.refl _ _) (fun t ht => by injection ht with ht; subst ht; exact rfl) trivial
            refine Rg.goodG_cons ?_ ?_
            · intro ac w' cx hg hn
              obtain ⟨v74, e74, r74⟩ := hn 74 (Rg.mem_of (by kernel_rfl))
              obtain rfl : v74 = .pointer (some ⟨q, 0, none⟩) := r74
              refine .inl ⟨(Rg.wanted_none rfl), fun K hK => ?_⟩
              go_simp
              exact hK _ _ (Below.refl _ _) (fun t ht => by injection ht with ht; subst ht; exact rfl) trivial
            refine Rg.goodG_cons ?_ ?_
            · intro ac w' cx hg hn
              obtain ⟨v75, e75, r75⟩ := hn 75 (Rg.mem_of (by kernel_rfl))
              obtain rfl : v75 = .pointer (some ⟨q, 0, none⟩) := r75
              refine .inl ⟨(Rg.wanted_none rfl), fun K hK => ?_⟩
              go_simp
              exact hK _ _ (Below.refl _ _) (fun t ht => by injection ht with ht; subst ht; exact rfl) trivial
            refine Rg.goodG_cons ?_ ?_
            · intro ac w' cx hg hn
              obtain ⟨v76, e76, r76⟩ := hn 76 (Rg.mem_of (by kernel_rfl))
              obtain rfl : v76 = .pointer (some ⟨q, 1, none⟩) := r76
              have hx := cb k1 cx.bel
              refine .inl ⟨(Rg.wanted_none rfl), fun K hK => ?_⟩
              go_simp
              exact hK _ _ (Below.refl _ _) (fun t ht => by injection ht with ht; subst ht; exact rfl) trivial
            refine Rg.goodG_cons ?_ ?_
            · intro ac w' cx hg hn
              have e7 := cx.at_ 7 (by kernel_rfl) rfl
              refine .inl ⟨(Rg.wanted_none rfl), fun K hK => ?_⟩
              go_simp
              exact hK _ _ (Below.refl _ _) (fun t ht => by injection ht with ht; subst ht; exact rfl) trivial
            refine Rg.goodG_cons ?_ ?_
            · intro ac w' cx hg hn
              obtain ⟨v77, e77, r77⟩ := hn 77 (Rg.mem_of (by kernel_rfl))
              obtain rfl : v77 = .slice (some ⟨g, 0, none⟩) n1 c' := r77
              obtain ⟨v78, e78, r78⟩ := hn 78 (Rg.mem_of (by kernel_rfl))
              obtain rfl : v78 = .int .i64 (n : Int) := r78
              refine .inl ⟨(Rg.wanted_none rfl), fun K hK => ?_⟩
              go_simp
              exact hK _ _ (Below.refl _ _) (fun t ht => by injection ht with ht; subst ht; exact rfl) trivial
            refine Rg.goodG_cons ?_ ?_
            · intro ac w' cx hg hn
              obtain ⟨v79, e79, r79⟩ := hn 79 (Rg.mem_of (by kernel_rfl))
              obtain rfl : v79 = .pointer (some ⟨g, n * 2, none⟩) := r79
              refine .inl ⟨(Rg.wanted_none rfl), fun K hK => ?_⟩
              go_simp
              exact hK _ _ (Below.refl _ _) (fun t ht => by injection ht with ht; subst ht; exact rfl) trivial
            refine Rg.goodG_cons ?_ ?_
            · intro ac w' cx hg hn
              obtain ⟨v80, e80, r80⟩ := hn 80 (Rg.mem_of (by kernel_rfl))
              obtain rfl : v80 = .pointer (some ⟨g, n * 2, none⟩) := r80
              have hx := cb q1 cx.bel
              refine .inl ⟨(Rg.wanted_none rfl), fun K hK => ?_⟩
              go_simp
              exact hK _ _ (Below.refl _ _) (fun t ht => by injection ht with ht; subst ht; exact rfl) trivial
            refine Rg.goodG_cons ?_ ?_
            · intro ac w' cx hg hn
              have e2 := cx.at_ 2 (by kernel_rfl) rfl
              refine .inl ⟨(Rg.wanted_none rfl), fun K hK => ?_⟩
              go_simp
              exact hK _ _ (Below.refl _ _) (fun t ht => by injection ht with ht; subst ht; exact rfl) trivial
            refine Rg.goodG_cons ?_ ?_
            · intro ac w' cx hg hn
              obtain ⟨v81, e81, r81⟩ := hn 81 (Rg.mem_of (by kernel_rfl))
              obtain rfl : v81 = .string t := r81
              obtain ⟨v82, e82, r82⟩ := hn 82 (Rg.mem_of (by kernel_rfl))
              obtain rfl : v82 = .string b := r82
              refine .inl ⟨(Rg.wanted_none rfl), fun K hK => ?_⟩
              have h9 : ¬ (9223372036854775807 < t.size + b.size) := by have := HT.out.2; omega
              go_simp
              exact hK _ _ (Below.refl _ _) (fun t ht => by injection ht with ht; subst ht; exact rfl) trivial
            refine Rg.goodG_cons ?_ ?_
            · intro ac w' cx hg hn
              obtain ⟨v72, e72, r72⟩ := hn 72 (Rg.mem_of (by kernel_rfl))
              obtain rfl : v72 = .slice (some ⟨g, 0, none⟩) n1 c' := r72
              obtain ⟨v73, e73, r73⟩ := hn 73 (Rg.mem_of (by kernel_rfl))
              obtain rfl : v73 = .int .i64 (n : Int) := r73
              refine .inl ⟨(Rg.wanted_none rfl), fun K hK => ?_⟩
              go_simp
              exact hK _ _ (Below.refl _ _) (fun t ht => by injection ht with ht; subst ht; exact rfl) trivial
            refine Rg.goodG_cons ?_ ?_
            · intro ac w' cx hg hn
              obtain ⟨v84, e84, r84⟩ := hn 84 (Rg.mem_of (by kernel_rfl))
              obtain rfl : v84 = .pointer (some ⟨g, n * 2, none⟩) := r84
              refine .inl ⟨(Rg.wanted_none rfl), fun K hK => ?_⟩
              go_simp
              exact hK _ _ (Below.refl _ _) (fun t ht => by injection ht with ht; subst ht; exact rfl) trivial
            exact Rg.goodG_nil
          case done =>
            intro u w7 hb7 hr _
            have e83 : u 83 = .string (t ++ b) := hr 83 (by simp)
            have e85 : u 85 = .pointer (some ⟨g, n * 2, none⟩) := hr 85 (by simp)
            simp only [Rg.fillL_cons, Rg.fillL_nil, if_true, if_false, Bool.false_eq_true, e83, e85]
            change wpList _ _ _ [_] _ _
            have h7 := (H6.out).below hb7
            obtain ⟨hv, ht⟩ := HT.out
            obtain ⟨g', c', t', z', hv', x1, _, _, hfz⟩ := h7.file HNI.out
            rw [hv] at hv'
            injection hv' with hv' _ _
            injection hv' with hv'
            injection hv' with hv' _
            subst hv'
            have fx := hfz (n * 2)
            obtain ⟨r1, r2⟩ := h7.cell (M' := M + b.size + 2) hv (u := .string (t ++ b)) (j := n * 2) rfl (h7.fc.text HNI.out (by rw [ByteArray.size_append]; omega) (by omega)) (by have := HNI.out; first | omega | (simp only; omega)) (by omega)
            have HP := Lib.hid (HMK.out _ (RP.then (Fr.of_below hb7) (RP.of r1 r2 (Nat.le_refl _))))
            clear hr hb7 hv ht h7 hfz r1 r2 e83 e85 k1 q1
            go_wp2_with fail
            go_ret
            exact ⟨_, rfl, HP.out⟩
      
end Go.Proofs.Ytamhgbkdljggbaa.Dk
