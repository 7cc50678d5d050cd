/- Where ranges begin and end, by the document; are ranges apart. -/
import Derived.Test.YtdmlogpmojmikaaTmL
namespace Go.Proofs.Ytdmlogpmojmikaa.Tm
open Go.RowKit Go.Sort
set_option linter.unusedVariables false

def edgE (r : Rg) : List Int := [r.1 - 1, r.1, r.2, r.2 + 1]
def edgesL (l : List Rg) : List Int := (l.filter rightB).flatMap edgE
theorem edgesL_snoc (l : List Rg) (r : Rg) : edgesL (l ++ [r]) = edgesL l ++ if rightB r then edgE r else [] := by
  unfold edgesL
  rw [List.filter_append, List.flatMap_append, List.filter_cons]
  cases rightB r <;> simp
theorem edgesL_len (l : List Rg) : (edgesL l).length ≤ 4 * l.length := by
  induction l with
  | nil => simp [edgesL]
  | cons a r ih =>
    unfold edgesL at *
    rw [List.filter_cons]
    cases rightB a
    · simp at *; omega
    · simp [edgE] at *; omega
theorem edgesL_mem {l : List Rg} {r : Rg} (h : r ∈ l) (hr : RightP r) : r.1 ∈ edgesL l := by
  unfold edgesL
  exact List.mem_flatMap.2 ⟨r, List.mem_filter.2 ⟨h, by simp [rightB, hr]⟩, by simp [edgE]⟩
theorem infoE : (Try.prog.info? 2).map (fun i => (i.zero, i.size, i.bytes)) = some (some (.int .i64 0), 1, 8) := by kernel_rfl
/-- append(s, x...) at int64s -/
theorem app_i64s {ops : Array Oper} {rest : List Oper} {o : Oper} {a : Act} {w : World} {Q : Exit → Act → World → Prop} (hgd : o.guard = none) (s x : Operand)
    (ho : o.op = .call { callee := .builtin .append, args := #[s, x], argTypes := #[38, 38] })
    (base : Nat) (A : Option Addr) (n c : Nat) (l : List Int) (hs : a.eval s = .slice A n c) (hown : w.ownsRow base 2 1 (.slice A n c) n (intsC .i64 l))
    (B : Option Addr) (m d : Nat) (L : List Int) (hx : a.eval x = .slice B m d) (hd : B = none → d = 0) (hL : L.length = m) (hc : Cl w B (intsC .i64 L)) (k : Nat) (hk : n + m = k) (hl : k ≤ 1000000) (hbase : base ≤ w.heap.size)
    (h : ∀ A' c' w', w'.ownsRow base 2 1 (.slice A' k c') k (intsC .i64 (l ++ L)) → w.grownBy w' (Value.slice A n c).ownBlock → wpList Try.prog ops Q rest (a.put o.dst (.slice A' k c')) w') : wpList Try.prog ops Q (o :: rest) a w := by
  subst hk hL
  obtain ⟨i0, hi, hz0, hz1, hz2⟩ := info_parts infoE
  cases B with
  | none =>
    have hy0 : L = [] := by
      rcases hc with h0 | ⟨_, _, h0, _⟩
      · cases L with
        | nil => rfl
        | cons p r => simp [intsC] at h0
      · cases h0
    subst hy0
    obtain rfl := hd rfl
    refine wpList_append_own_none hgd s x 38 ho base 2 i0 1 Try.underlying38 hi _ n (intsC .i64 l) hs hown hx ?_
    have := h A c w (by simpa using hown) (World.grownBy.refl w _)
    simpa using this
  | some ad =>
    refine wpList_append_own w hgd s x 38 ho base 2 i0 (.int .i64 0) 1 8 Try.underlying38 hi hz0 hz1 hz2 rfl (by decide) _ n (intsC .i64 l) hs hown ad L.length d (intsC .i64 L) hx (by rw [intsC_length]; omega) (fun j u hu => hc.src j u hu) (intsC_one _ L) (by unfold maxLen; omega) (by omega) hbase ?_
    intro v' w' h1 h2 _
    obtain ⟨A', c', rfl⟩ := own_shape h1
    rw [← intsC_append] at h1
    exact h A' c' w' h1 h2
theorem own_lenI {w : World} {B n c : Nat} {e : TypeId} {A : Option Addr} {l : List Int} (h : w.ownsRow B e 1 (.slice A n c) n (intsC .i64 l)) : n = l.length := by
  have := h.1
  rw [intsC_length] at this
  omega
/-- a new slice that reads as numbers -/
def FourS (L : List Int) (v : Value) (w : World) : Prop := ∃ b, v = .slice (some ⟨b, 0, none⟩) L.length L.length ∧ Cl w (some ⟨b, 0, none⟩) (intsC .i64 L)
theorem FourS.below {L : List Int} {v : Value} {w w' : World} (h : FourS L v w) (hb : Below w.heap.size w w') : FourS L v w' := by
  obtain ⟨b, h1, h2⟩ := h
  exact ⟨b, h1, h2.below hb⟩
theorem new_ints (w : World) (cs : Array Value) (L : List Int) (t : TypeId) (h : cs.toList = intsC .i64 L) : Cl (w.alloc (.cells cs t)) (some ⟨w.heap.size, 0, none⟩) (intsC .i64 L) := by
  refine .inr ⟨w.heap.size, 0, rfl, fun j v hj => ?_⟩
  rw [← h] at hj
  rw [Nat.zero_add, cell_of_row _ _ _ _ _ _ (heap_alloc_new w _)]
  simpa using hj
def IRel (w : World) (X : List Int) (v : Value) (wr : World) : Prop := ∃ (A : Option Addr) (n c : Nat), v = .slice A n c ∧ wr.ownsRow w.heap.size 2 1 (.slice A n c) n (intsC .i64 X) ∧ Below w.heap.size w wr
set_option maxHeartbeats 4000000 in
set_option maxRecDepth 100000 in
theorem edges_any (A : Option Addr) (n c : Nat) (l : List Rg) (w : World) (hn : n = l.length) (h : Cl w A (twoC .i64 l)) (hl : l.length ≤ 1000) :
    Calls Try.prog 15 #[.slice A n c] w fun e w' => ∃ v, e = .returned v ∧ IRel w (edgesL l) v w' := by
  subst hn
  obtain ⟨n, hn⟩ : ∃ n, l.length = n := ⟨_, rfl⟩
  have HN := Lib.hid hn
  have HL := Lib.hid h
  rw [hn] at hl ⊢
  have hni : (n : Int) ≤ 1000 := by omega
  clear h hn
  go_enter Try.func15, Try.ntmps15
  go_wp2_with fail
  go_loopw [3, 4] (fun v i wr => ∃ k : Nat, k ≤ n ∧ i = .int .i64 k ∧ Hid (IRel w (edgesL (l.take k)) v wr)) (fun _ i _ => n - (intOf i).toNat)
  case atStart => exact ⟨0, by omega, rfl, Lib.hid ⟨none, 0, 0, rfl, own_nil _ _ _ _, Below.refl _ _⟩⟩
  case round =>
    obtain ⟨k, hk, rfl, HR⟩ := hrel
    obtain ⟨B, m, d, rfl, hown, hb⟩ := HR.out
    by_cases hlt : k < n
    · have hki : (k : Int) < (n : Int) := by omega
      obtain ⟨p, hp⟩ := getElem?_lt (l := l) (k := k) (by rw [HN.out]; exact hlt)
      obtain ⟨b, off, rfl, hcell⟩ := (HL.out.below hb).twos (by rw [HN.out]; omega)
      obtain ⟨q0, q1⟩ := hcell k p hp
      have hm := own_lenI hown
      have hml : m + 4 ≤ 1000000 := by
        have h1 := edgesL_len (l.take k)
        rw [List.length_take] at h1
        omega
      have HT := Lib.hid (show edgesL (l.take (k + 1)) = edgesL (l.take k) ++ if rightB p then edgE p else [] by rw [take_snoc l k p hp, edgesL_snoc])
      have HO := Lib.hid hown
      have HB := Lib.hid hb
      obtain ⟨z, hz⟩ : ∃ z, rightB p = z := ⟨_, rfl⟩
      have HZ := Lib.hid hz
      rw [hz] at HT
      obtain ⟨p1, p2⟩ := p
      simp only at q0 q1
      clear hcell hp hown hb hm HR hz
      go_wp2_with fail
      refine (rright_any (p1, p2) wr).mono ?_
      rw [HZ.out]
      rintro e w2 ⟨rfl, hb2⟩
      have HB2 := Lib.hid (HB.out.trans (hb2.mono HB.out.size))
      have HO2 := Lib.hid (own_below HO.out hb2)
      have c0 := cell_below q0 hb2
      have c1 := cell_below q1 hb2
      clear hb2 q0 q1
      cases z with
      | false =>
        have hown3 := HO2.out
        have e1 : edgesL (l.take k) = edgesL (l.take (k + 1)) := by rw [HT.out]; simp
        rw [e1] at hown3
        have HR3 := Lib.hid (show IRel w (edgesL (l.take (k + 1))) (.slice B m d) w2 from ⟨B, m, d, rfl, hown3, HB2.out⟩)
        clear hown3 e1
        go_wp2_with fail
        go_roundw
        case rel => exact ⟨k + 1, by omega, by go_num, HR3⟩
        case measure => simp [intOf]; omega
      | true =>
        have hr : RightP (p1, p2) := by have := HZ.out; unfold rightB at this; exact of_decide_eq_true this
        obtain ⟨r1, r2, r3⟩ := hr
        simp only at r1 r2 r3
        have HT' := Lib.hid (show edgesL (l.take k) ++ [p1 - 1, p1, p2, p2 + 1] = edgesL (l.take (k + 1)) from by rw [HT.out]; rfl)
        go_wp2_with fail
        refine Rg.wp_region_invG (R := fun t v w => match t with
            | 16 => v = .slice B m d
            | 17 => v = .slice (some ⟨b, off, none⟩) n c
            | 18 => v = .int .i64 (k : Int)
            | 19 => v = .pointer (some ⟨b, off + k * 2, none⟩)
            | 20 => v = .pointer (some ⟨b, off + k * 2, none⟩)
            | 21 => v = .int .i64 p1
            | 22 => v = .int .i64 (p1 - 1)
            | 23 => v = .slice (some ⟨b, off, none⟩) n c
            | 24 => v = .int .i64 (k : Int)
            | 25 => v = .pointer (some ⟨b, off + k * 2, none⟩)
            | 26 => v = .pointer (some ⟨b, off + k * 2, none⟩)
            | 27 => v = .int .i64 p1
            | 28 => v = .slice (some ⟨b, off, none⟩) n c
            | 29 => v = .int .i64 (k : Int)
            | 30 => v = .pointer (some ⟨b, off + k * 2, none⟩)
            | 31 => v = .pointer (some ⟨b, off + k * 2 + 1, none⟩)
            | 32 => v = .int .i64 p2
            | 33 => v = .slice (some ⟨b, off, none⟩) n c
            | 34 => v = .int .i64 (k : Int)
            | 35 => v = .pointer (some ⟨b, off + k * 2, none⟩)
            | 36 => v = .pointer (some ⟨b, off + k * 2 + 1, none⟩)
            | 37 => v = .int .i64 p2
            | 38 => v = .int .i64 (p2 + 1)
            | 39 => FourS [p1 - 1, p1, p2, p2 + 1] v w
            | _ => True) (fun a w => True) 24 [16, 17, 18, 19, 20, 21, 22, 23, 24, 25, 26, 27, 28, 29, 30, 31, 32, 33, 34, 35, 36, 37, 38, 39] 42 [false, false, false, false, false, false, false, false, false, false, false, false, false, false, false, false, true, true, true, true, true, true, true, true, true, true, true, true, true, true, true, true, true, true, true, true, true, true, true, true, false, false] (by kernel_rfl) rfl (by kernel_rfl) (by kernel_rfl) (by kernel_rfl) (by kernel_rfl) (Nat.le_of_ble_eq_true (by kernel_rfl)) (by kernel_rfl) (by kernel_rfl) ?mono ?g0 ?good ?done
        case mono =>
          refine List.forall_mem_cons.2 ⟨fun _ _ _ _ _ h => h, ?_⟩
          refine List.forall_mem_cons.2 ⟨fun _ _ _ _ _ h => h, ?_⟩
          refine List.forall_mem_cons.2 ⟨fun _ _ _ _ _ h => h, ?_⟩
          refine List.forall_mem_cons.2 ⟨fun _ _ _ _ _ h => h, ?_⟩
          refine List.forall_mem_cons.2 ⟨fun _ _ _ _ _ h => h, ?_⟩
          refine List.forall_mem_cons.2 ⟨fun _ _ _ _ _ h => h, ?_⟩
          refine List.forall_mem_cons.2 ⟨fun _ _ _ _ _ h => h, ?_⟩
          refine List.forall_mem_cons.2 ⟨fun _ _ _ _ _ h => h, ?_⟩
          refine List.forall_mem_cons.2 ⟨fun _ _ _ _ _ h => h, ?_⟩
          refine List.forall_mem_cons.2 ⟨fun _ _ _ _ _ h => h, ?_⟩
          refine List.forall_mem_cons.2 ⟨fun _ _ _ _ _ h => h, ?_⟩
          refine List.forall_mem_cons.2 ⟨fun _ _ _ _ _ h => h, ?_⟩
          refine List.forall_mem_cons.2 ⟨fun _ _ _ _ _ h => h, ?_⟩
          refine List.forall_mem_cons.2 ⟨fun _ _ _ _ _ h => h, ?_⟩
          refine List.forall_mem_cons.2 ⟨fun _ _ _ _ _ h => h, ?_⟩
          refine List.forall_mem_cons.2 ⟨fun _ _ _ _ _ h => h, ?_⟩
          refine List.forall_mem_cons.2 ⟨fun _ _ _ _ _ h => h, ?_⟩
          refine List.forall_mem_cons.2 ⟨fun _ _ _ _ _ h => h, ?_⟩
          refine List.forall_mem_cons.2 ⟨fun _ _ _ _ _ h => h, ?_⟩
          refine List.forall_mem_cons.2 ⟨fun _ _ _ _ _ h => h, ?_⟩
          refine List.forall_mem_cons.2 ⟨fun _ _ _ _ _ h => h, ?_⟩
          refine List.forall_mem_cons.2 ⟨fun _ _ _ _ _ h => h, ?_⟩
          refine List.forall_mem_cons.2 ⟨fun _ _ _ _ _ h => h, ?_⟩
          refine List.forall_mem_cons.2 ⟨fun _ _ _ _ hb h => FourS.below h hb, ?_⟩
          exact fun _ h => absurd h (by simp)
        case g0 => exact trivial
        case good =>
          refine Rg.goodG_cons ?_ ?_
          · intro a w' cx hg hn
            have e3 := cx.at_ 3 (by kernel_rfl) rfl
            refine .inl ⟨(Rg.wanted_none rfl), fun K hK => ?_⟩
            go_simp
            exact hK _ _ (Below.refl _ _) (fun t ht => by injection ht with ht; subst ht; exact rfl) trivial
          refine Rg.goodG_cons ?_ ?_
          · intro a w' cx hg hn
            have e0 := cx.at_ 0 (by kernel_rfl) rfl
            refine .inl ⟨(Rg.wanted_none rfl), fun K hK => ?_⟩
            go_simp
            exact hK _ _ (Below.refl _ _) (fun t ht => by injection ht with ht; subst ht; exact rfl) trivial
          refine Rg.goodG_cons ?_ ?_
          · intro a w' cx hg hn
            have e4 := cx.at_ 4 (by kernel_rfl) rfl
            refine .inl ⟨(Rg.wanted_none rfl), fun K hK => ?_⟩
            go_simp
            exact hK _ _ (Below.refl _ _) (fun t ht => by injection ht with ht; subst ht; exact rfl) trivial
          refine Rg.goodG_cons ?_ ?_
          · intro a w' cx hg hn
            obtain ⟨v17, e17, r17⟩ := hn 17 (Rg.mem_of (by kernel_rfl))
            obtain rfl : v17 = .slice (some ⟨b, off, none⟩) n c := r17
            obtain ⟨v18, e18, r18⟩ := hn 18 (Rg.mem_of (by kernel_rfl))
            obtain rfl : v18 = .int .i64 (k : Int) := r18
            refine .inl ⟨(Rg.wanted_none rfl), fun K hK => ?_⟩
            go_simp
            exact hK _ _ (Below.refl _ _) (fun t ht => by injection ht with ht; subst ht; exact rfl) trivial
          refine Rg.goodG_cons ?_ ?_
          · intro a w' cx hg hn
            obtain ⟨v19, e19, r19⟩ := hn 19 (Rg.mem_of (by kernel_rfl))
            obtain rfl : v19 = .pointer (some ⟨b, off + k * 2, none⟩) := r19
            refine .inl ⟨(Rg.wanted_none rfl), fun K hK => ?_⟩
            go_simp
            exact hK _ _ (Below.refl _ _) (fun t ht => by injection ht with ht; subst ht; exact rfl) trivial
          refine Rg.goodG_cons ?_ ?_
          · intro a w' cx hg hn
            obtain ⟨v20, e20, r20⟩ := hn 20 (Rg.mem_of (by kernel_rfl))
            obtain rfl : v20 = .pointer (some ⟨b, off + k * 2, none⟩) := r20
            have hx := cell_below c0 cx.bel
            refine .inl ⟨(Rg.wanted_none rfl), fun K hK => ?_⟩
            go_simp
            exact hK _ _ (Below.refl _ _) (fun t ht => by injection ht with ht; subst ht; exact rfl) trivial
          refine Rg.goodG_cons ?_ ?_
          · intro a w' cx hg hn
            obtain ⟨v21, e21, r21⟩ := hn 21 (Rg.mem_of (by kernel_rfl))
            obtain rfl : v21 = .int .i64 p1 := r21
            refine .inl ⟨(Rg.wanted_none rfl), fun K hK => ?_⟩
            have hw := IntWalk.i64_in (p1 - 1) (by omega)
            go_simp
            exact hK _ _ (Below.refl _ _) (fun t ht => by injection ht with ht; subst ht; exact rfl) trivial
          refine Rg.goodG_cons ?_ ?_
          · intro a w' cx hg hn
            have e0 := cx.at_ 0 (by kernel_rfl) rfl
            refine .inl ⟨(Rg.wanted_none rfl), fun K hK => ?_⟩
            go_simp
            exact hK _ _ (Below.refl _ _) (fun t ht => by injection ht with ht; subst ht; exact rfl) trivial
          refine Rg.goodG_cons ?_ ?_
          · intro a w' cx hg hn
            have e4 := cx.at_ 4 (by kernel_rfl) rfl
            refine .inl ⟨(Rg.wanted_none rfl), fun K hK => ?_⟩
            go_simp
            exact hK _ _ (Below.refl _ _) (fun t ht => by injection ht with ht; subst ht; exact rfl) trivial
          refine Rg.goodG_cons ?_ ?_
          · intro a w' cx hg hn
            obtain ⟨v23, e23, r23⟩ := hn 23 (Rg.mem_of (by kernel_rfl))
            obtain rfl : v23 = .slice (some ⟨b, off, none⟩) n c := r23
            obtain ⟨v24, e24, r24⟩ := hn 24 (Rg.mem_of (by kernel_rfl))
            obtain rfl : v24 = .int .i64 (k : Int) := r24
            refine .inl ⟨(Rg.wanted_none rfl), fun K hK => ?_⟩
            go_simp
            exact hK _ _ (Below.refl _ _) (fun t ht => by injection ht with ht; subst ht; exact rfl) trivial
          refine Rg.goodG_cons ?_ ?_
          · intro a w' cx hg hn
            obtain ⟨v25, e25, r25⟩ := hn 25 (Rg.mem_of (by kernel_rfl))
            obtain rfl : v25 = .pointer (some ⟨b, off + k * 2, none⟩) := r25
            refine .inl ⟨(Rg.wanted_none rfl), fun K hK => ?_⟩
            go_simp
            exact hK _ _ (Below.refl _ _) (fun t ht => by injection ht with ht; subst ht; exact rfl) trivial
          refine Rg.goodG_cons ?_ ?_
          · intro a w' cx hg hn
            obtain ⟨v26, e26, r26⟩ := hn 26 (Rg.mem_of (by kernel_rfl))
            obtain rfl : v26 = .pointer (some ⟨b, off + k * 2, none⟩) := r26
            have hx := cell_below c0 cx.bel
            refine .inl ⟨(Rg.wanted_none rfl), fun K hK => ?_⟩
            go_simp
            exact hK _ _ (Below.refl _ _) (fun t ht => by injection ht with ht; subst ht; exact rfl) trivial
          refine Rg.goodG_cons ?_ ?_
          · intro a w' cx hg hn
            have e0 := cx.at_ 0 (by kernel_rfl) rfl
            refine .inl ⟨(Rg.wanted_none rfl), fun K hK => ?_⟩
            go_simp
            exact hK _ _ (Below.refl _ _) (fun t ht => by injection ht with ht; subst ht; exact rfl) trivial
          refine Rg.goodG_cons ?_ ?_
          · intro a w' cx hg hn
            have e4 := cx.at_ 4 (by kernel_rfl) rfl
            refine .inl ⟨(Rg.wanted_none rfl), fun K hK => ?_⟩
            go_simp
            exact hK _ _ (Below.refl _ _) (fun t ht => by injection ht with ht; subst ht; exact rfl) trivial
          refine Rg.goodG_cons ?_ ?_
          · intro a w' cx hg hn
            obtain ⟨v28, e28, r28⟩ := hn 28 (Rg.mem_of (by kernel_rfl))
            obtain rfl : v28 = .slice (some ⟨b, off, none⟩) n c := r28
            obtain ⟨v29, e29, r29⟩ := hn 29 (Rg.mem_of (by kernel_rfl))
            obtain rfl : v29 = .int .i64 (k : Int) := r29
            refine .inl ⟨(Rg.wanted_none rfl), fun K hK => ?_⟩
            go_simp
            exact hK _ _ (Below.refl _ _) (fun t ht => by injection ht with ht; subst ht; exact rfl) trivial
          refine Rg.goodG_cons ?_ ?_
          · intro a w' cx hg hn
            obtain ⟨v30, e30, r30⟩ := hn 30 (Rg.mem_of (by kernel_rfl))
            obtain rfl : v30 = .pointer (some ⟨b, off + k * 2, none⟩) := r30
            refine .inl ⟨(Rg.wanted_none rfl), fun K hK => ?_⟩
            go_simp
            exact hK _ _ (Below.refl _ _) (fun t ht => by injection ht with ht; subst ht; exact rfl) trivial
          refine Rg.goodG_cons ?_ ?_
          · intro a w' cx hg hn
            obtain ⟨v31, e31, r31⟩ := hn 31 (Rg.mem_of (by kernel_rfl))
            obtain rfl : v31 = .pointer (some ⟨b, off + k * 2 + 1, none⟩) := r31
            have hx := cell_below c1 cx.bel
            refine .inl ⟨(Rg.wanted_none rfl), fun K hK => ?_⟩
            go_simp
            exact hK _ _ (Below.refl _ _) (fun t ht => by injection ht with ht; subst ht; exact rfl) trivial
          refine Rg.goodG_cons ?_ ?_
          · intro a w' cx hg hn
            have e0 := cx.at_ 0 (by kernel_rfl) rfl
            refine .inl ⟨(Rg.wanted_none rfl), fun K hK => ?_⟩
            go_simp
            exact hK _ _ (Below.refl _ _) (fun t ht => by injection ht with ht; subst ht; exact rfl) trivial
          refine Rg.goodG_cons ?_ ?_
          · intro a w' cx hg hn
            have e4 := cx.at_ 4 (by kernel_rfl) rfl
            refine .inl ⟨(Rg.wanted_none rfl), fun K hK => ?_⟩
            go_simp
            exact hK _ _ (Below.refl _ _) (fun t ht => by injection ht with ht; subst ht; exact rfl) trivial
          refine Rg.goodG_cons ?_ ?_
          · intro a w' cx hg hn
            obtain ⟨v33, e33, r33⟩ := hn 33 (Rg.mem_of (by kernel_rfl))
            obtain rfl : v33 = .slice (some ⟨b, off, none⟩) n c := r33
            obtain ⟨v34, e34, r34⟩ := hn 34 (Rg.mem_of (by kernel_rfl))
            obtain rfl : v34 = .int .i64 (k : Int) := r34
            refine .inl ⟨(Rg.wanted_none rfl), fun K hK => ?_⟩
            go_simp
            exact hK _ _ (Below.refl _ _) (fun t ht => by injection ht with ht; subst ht; exact rfl) trivial
          refine Rg.goodG_cons ?_ ?_
          · intro a w' cx hg hn
            obtain ⟨v35, e35, r35⟩ := hn 35 (Rg.mem_of (by kernel_rfl))
            obtain rfl : v35 = .pointer (some ⟨b, off + k * 2, none⟩) := r35
            refine .inl ⟨(Rg.wanted_none rfl), fun K hK => ?_⟩
            go_simp
            exact hK _ _ (Below.refl _ _) (fun t ht => by injection ht with ht; subst ht; exact rfl) trivial
          refine Rg.goodG_cons ?_ ?_
          · intro a w' cx hg hn
            obtain ⟨v36, e36, r36⟩ := hn 36 (Rg.mem_of (by kernel_rfl))
            obtain rfl : v36 = .pointer (some ⟨b, off + k * 2 + 1, none⟩) := r36
            have hx := cell_below c1 cx.bel
            refine .inl ⟨(Rg.wanted_none rfl), fun K hK => ?_⟩
            go_simp
            exact hK _ _ (Below.refl _ _) (fun t ht => by injection ht with ht; subst ht; exact rfl) trivial
          refine Rg.goodG_cons ?_ ?_
          · intro a w' cx hg hn
            obtain ⟨v37, e37, r37⟩ := hn 37 (Rg.mem_of (by kernel_rfl))
            obtain rfl : v37 = .int .i64 p2 := r37
            refine .inl ⟨(Rg.wanted_none rfl), fun K hK => ?_⟩
            have hw := IntWalk.i64_in (p2 + 1) (by omega)
            go_simp
            exact hK _ _ (Below.refl _ _) (fun t ht => by injection ht with ht; subst ht; exact rfl) trivial
          refine Rg.goodG_cons ?_ ?_
          · intro a w' cx hg hn
            obtain ⟨v22, e22, r22⟩ := hn 22 (Rg.mem_of (by kernel_rfl))
            obtain rfl : v22 = .int .i64 (p1 - 1) := r22
            obtain ⟨v27, e27, r27⟩ := hn 27 (Rg.mem_of (by kernel_rfl))
            obtain rfl : v27 = .int .i64 p1 := r27
            obtain ⟨v32, e32, r32⟩ := hn 32 (Rg.mem_of (by kernel_rfl))
            obtain rfl : v32 = .int .i64 p2 := r32
            obtain ⟨v38, e38, r38⟩ := hn 38 (Rg.mem_of (by kernel_rfl))
            obtain rfl : v38 = .int .i64 (p2 + 1) := r38
            refine .inl ⟨(Rg.wanted_none rfl), fun K hK => ?_⟩
            go_simp
            exact hK _ _ (grows _ _) (fun t ht => by injection ht with ht; subst ht; exact ⟨_, rfl, new_ints _ _ _ _ rfl⟩) trivial
          exact Rg.goodG_nil
        case done =>
          intro u w6 hb6 hr _
          obtain ⟨b4, q39, hc39⟩ : FourS [p1 - 1, p1, p2, p2 + 1] (u 39) w6 := hr 39 (by simp)
          have q16 : u 16 = .slice B m d := hr 16 (by simp)
          simp only [Rg.fillL_cons, Rg.fillL_nil, if_true, if_false, Bool.false_eq_true, q16, q39]
          have HB6 := Lib.hid (HB2.out.trans (hb6.mono HB2.out.size))
          have HO6 := Lib.hid (own_below HO2.out hb6)
          have HC6 := Lib.hid hc39
          clear hr hb6 hc39 c0 c1
          refine app_i64s rfl _ _ rfl w.heap.size B m d (edgesL (l.take k)) rfl HO6.out (some ⟨b4, 0, none⟩) 4 4 [p1 - 1, p1, p2, p2 + 1] rfl (fun e => by cases e) rfl HC6.out (m + 4) rfl hml HB6.out.size ?_
          intro A7 c7 w7 ho7 hg7
          rw [HT'.out] at ho7
          have HR7 := Lib.hid (show IRel w (edgesL (l.take (k + 1))) (.slice A7 (m + 4) c7) w7 from ⟨A7, m + 4, c7, rfl, ho7, HB6.out.grown hg7 HB6.out.size (fun k hk => (HO6.out.lt k hk).1)⟩)
          clear ho7 hg7
          go_wp2_with fail
          go_roundw
          case rel => exact ⟨k + 1, by omega, by go_num, HR7⟩
          case measure => simp [intOf]; omega
    · obtain rfl : k = n := by omega
      have hki : ¬ ((k : Int) < (k : Int)) := by omega
      rw [List.take_of_length_le (by rw [HN.out]; exact Nat.le_refl _)] at hown
      have HP := Lib.hid (show IRel w (edgesL l) (.slice B m d) wr from ⟨B, m, d, rfl, hown, hb⟩)
      clear hown hb HR
      go_wp2_with fail
      go_ret
      exact ⟨_, rfl, HP.out⟩
end Go.Proofs.Ytdmlogpmojmikaa.Tm
