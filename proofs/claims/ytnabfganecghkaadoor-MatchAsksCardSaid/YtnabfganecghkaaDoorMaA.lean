/- The walk of the law MatchAsks. -/
import Derived.Test.YtnabfganecghkaaDoorMaP
import Derived.Test.YtnabfganecghkaaDoorMaT
/-! The program's Print of a selector. -/
namespace Go.Proofs.YtnabfganecghkaaDoor
open Go.RowKit Go.Sort
open Lb (stC stC_length stC_at)
set_option linter.unusedVariables false
theorem infoT : (Tryd.prog.info? 9).map (fun i => (i.zero, i.size, i.bytes)) = some (some (.string ⟨#[]⟩), 1, 16) := by kernel_rfl
/-- append(x, y) at []string -/
theorem app_str {ops : Array Oper} {rest : List Oper} {o : Oper} {a : Act} {w : World} {Q : Exit → Act → World → Prop} (hgd : o.guard = none) (s x : Operand)
    (ho : o.op = .call { callee := .builtin .append, args := #[s, x], argTypes := #[65, 65] })
    (base : Nat) (A : Option Addr) (n c : Nat) (l : List ByteArray) (hs : a.eval s = .slice A n c) (hown : w.ownsRow base 9 1 (.slice A n c) n (stC l))
    (g : Nat) (hx : a.eval x = .slice (some ⟨g, 0, none⟩) 1 1) (y : ByteArray) (hy : w.cell? ⟨g, 0, none⟩ = some (.string y)) (hl : n + 1 ≤ 4398046511104) (hbase : base ≤ w.heap.size)
    (h : ∀ A' c' w', w'.ownsRow base 9 1 (.slice A' (n + 1) c') (n + 1) (stC (l ++ [y])) → w.grownBy w' (Value.slice A n c).ownBlock → wpList Tryd.prog ops Q rest (a.put o.dst (.slice A' (n + 1) c')) w') : wpList Tryd.prog ops Q (o :: rest) a w := by
  obtain ⟨i0, hi, hz0, hz1, hz2⟩ := info_parts infoT
  refine wpList_append_own w hgd s x 65 ho base 9 i0 (.string ⟨#[]⟩) 1 16 Tryd.underlying65 hi hz0 hz1 hz2 rfl (by decide) _ n (stC l) hs hown ⟨g, 0, none⟩ 1 1 [.string y] hx rfl ?_ (by simp [Value.oneCell']) (by unfold maxLen; omega) (by omega) hbase ?_
  · intro j u hu
    have hj : j < 1 := (List.getElem?_eq_some_iff.1 hu).1
    obtain rfl : j = 0 := by omega
    rw [addr_at]
    simp at hu
    subst hu
    exact hy
  · intro v' w' h1 h2 _
    obtain ⟨A', c', rfl⟩ := own_shape h1
    have e : stC l ++ [.string y] = stC (l ++ [y]) := by simp [stC]
    rw [e] at h1
    exact h A' c' w' h1 h2
def jn : List (List UInt8) → List UInt8
  | [] => []
  | x :: r => match r with
    | [] => x
    | _ :: _ => x ++ 44 :: jn r
theorem jn_one (x : List UInt8) : jn [x] = x := rfl
theorem jn_two (x y : List UInt8) (r : List (List UInt8)) : jn (x :: y :: r) = x ++ 44 :: jn (y :: r) := rfl
theorem jn_join : ∀ xs : List (List UInt8), Lib.join xs [44] = jn xs
  | [] => rfl
  | [x] => Lib.join_one x [44]
  | x :: y :: r => by
    have ih := jn_join (y :: r)
    rw [jn_two, ← ih]
    simp [Lib.join, List.intercalate]
theorem jn_snoc : ∀ (xs : List (List UInt8)) (y : List UInt8), jn (xs ++ [y]) = if xs = [] then y else jn xs ++ 44 :: y
  | [], y => rfl
  | [x], y => rfl
  | x :: z :: r, y => by
    have ih := jn_snoc (z :: r) y
    rw [if_neg (by simp)] at ih ⊢
    show jn (x :: z :: (r ++ [y])) = _
    rw [jn_two, jn_two]
    have e : z :: (r ++ [y]) = (z :: r) ++ [y] := rfl
    rw [e, ih]; simp
theorem joinC_any (A : Option Addr) (n c : Nat) (xs : List ByteArray) (w : World) (hn : n = xs.length) (h : Cl w A (stC xs)) (hc : n ≤ c ∨ n = 0) (hl : (jn (xs.map (·.data.toList))).length ≤ 4000) (h16 : xs.length ≤ 16) :
    Calls Tryd.prog 24 #[.slice A n c, .string ⟨#[44]⟩] w fun e w' => e = .returned (.string (Lb.tx (jn (xs.map (·.data.toList))))) ∧ Below w.heap.size w w' := by
  subst hn
  by_cases h0 : xs.length = 0
  · have hx : xs = [] := List.eq_nil_of_length_eq_zero h0
    subst hx
    exact (Tryd.strings_Join_none A c ⟨#[44]⟩ w).mono fun e w' ⟨he, hw⟩ => ⟨he, by rw [hw]; exact Below.refl _ _⟩
  · obtain ⟨b, off, rfl, hcell⟩ := h.some_ (by rw [stC_length]; omega)
    have hlt : b < w.heap.size := block_lt_of_cell (hcell 0 _ (stC_at (List.getElem?_eq_getElem (by omega))))
    have hj : Lib.join (xs.map (·.data.toList)) ((⟨#[44]⟩ : ByteArray).data.toList) = jn (xs.map (·.data.toList)) := jn_join _
    refine (Tryd.strings_Join b off c xs ⟨#[44]⟩ w (fun j x hx => hcell j _ (stC_at hx)) hlt (by omega) (by omega) (by rw [hj]; omega)).mono fun e w' ⟨he, hb⟩ => ⟨?_, hb⟩
    rw [he, hj]; rfl
theorem own_capS {w : World} {base n c : Nat} {A : Option Addr} {X : List ByteArray} (h : w.ownsRow base 9 1 (.slice A n c) n (stC X)) : n ≤ c ∨ n = 0 := by
  rcases h.2 with ⟨h1, h2⟩ | ⟨g, cap, cur, h1, h2, h3, h4, _⟩
  · exact .inr h2
  · injection h1 with _ _ e3
    exact .inl (by omega)

theorem jn_prT : ∀ l : List Mt, jn (l.map oneT) = prT l
  | [] => rfl
  | [m] => by rw [prT_one]; rfl
  | m :: b :: r => by
    have ih := jn_prT (b :: r)
    rw [prT_cons m (by simp), ← ih]; rfl
theorem quoteL_len (l : List UInt8) : (Lb.quoteL l).length ≤ 2 * l.length + 2 := by
  unfold Lb.quoteL
  have h : (l.flatMap Lb.qB).length ≤ 2 * l.length := by
    induction l with
    | nil => simp
    | cons c r ih =>
      rw [List.flatMap_cons, List.length_append, List.length_cons]
      have : (Lb.qB c).length ≤ 2 := by unfold Lb.qB; split <;> (try split) <;> simp
      omega
  simp only [List.length_cons, List.length_append, List.length_nil]
  omega
theorem sgT_len (k : Nat) : (sgT k).length ≤ 2 := by unfold sgT; split <;> (try split) <;> (try split) <;> simp
theorem name_len {s : ByteArray} (h : Lb.nameB s = true) : s.size ≤ 64 := by
  have h1 := ((Lb.nameB_iff s).1 h).1
  unfold Lb.valB at h1
  simp at h1
  omega
theorem oneT_len {m : Mt} (h : Lb.nameB m.nm = true) (hv : m.vl.size ≤ 64) : (oneT m).length ≤ 196 := by
  have h1 := quoteL_len m.vl.data.toList
  have h2 := sgT_len m.op.toNat
  have h3 := name_len h
  have e1 : m.nm.data.toList.length = m.nm.size := by rw [Array.length_toList]; rfl
  have e2 : m.vl.data.toList.length = m.vl.size := by rw [Array.length_toList]; rfl
  unfold oneT
  rw [List.length_append, List.length_append]
  omega
theorem prT_len : ∀ {l : List Mt}, (∀ m ∈ l, Lb.nameB m.nm = true ∧ m.vl.size ≤ 64) → (prT l).length ≤ 197 * l.length
  | [], _ => by simp [prT]
  | m :: r, h => by
    have ih := prT_len (l := r) (fun x hx => h x (List.mem_cons_of_mem _ hx))
    have h1 := oneT_len (h m List.mem_cons_self).1 (h m List.mem_cons_self).2
    rw [prT, List.length_append, List.length_cons]
    split
    · simp; omega
    · simp; omega
def mtx (l : List Mt) : List ByteArray := l.map fun m => Lb.tx (oneT m)
theorem mtx_data (l : List Mt) : (mtx l).map (·.data.toList) = l.map oneT := by
  unfold mtx
  rw [List.map_map]
  rfl
/-- a row of one text, made in the region -/
def Row1 (U : ByteArray) (v : Value) (w : World) : Prop := ∃ g, v = .slice (some ⟨g, 0, none⟩) 1 1 ∧ w.heap[g]? = some (.cells #[.string U] 9 (0, 0))
theorem Row1.below {U : ByteArray} {v : Value} {w w' : World} (h : Row1 U v w) (hb : Below w.heap.size w w') : Row1 U v w' := by
  obtain ⟨g, h1, h2⟩ := h
  exact ⟨g, h1, (hb.block g (Array.getElem?_eq_some_iff.1 h2).1).trans h2⟩
theorem quote_is (s : ByteArray) (w : World) (hs : s.size ≤ 4000) (Q : ByteArray) (h : Lb.tx (Lb.quoteL s.data.toList) = Q) : Calls Tryd.prog 23 #[.string s] w fun e w' => e = .returned (.string Q) ∧ Below w.heap.size w w' := h ▸ Lb.quote_any s w hs
def SpRel (w : World) (ms : List Mt) (v3 v9 : Value) (wr : World) : Prop := ∃ (i c : Nat) (A : Option Addr), v3 = .slice A i c ∧ v9 = .int .i64 (i : Int) ∧ i ≤ ms.length ∧ wr.ownsRow w.heap.size 9 1 (.slice A i c) i (stC (mtx (ms.take i))) ∧ Below w.heap.size w wr
set_option maxHeartbeats 4000000 in
set_option maxRecDepth 100000 in
theorem sprint_any (g : Nat) (ms : List Mt) (w : World) (hT : Tab w) (hs : Sel w g ms) :
    Calls Tryd.prog 12 #[.pointer (some ⟨g, 0, none⟩)] w fun e w' => e = .returned (.string (Lb.tx (printF ms))) ∧ Below w.heap.size w w' := by
  obtain ⟨N, hN⟩ : ∃ N, ms.length = N := ⟨_, rfl⟩
  have hop : ∀ m ∈ ms, (0 ≤ m.op ∧ m.op < 4) ∧ prepE m = 0 := by obtain ⟨_, _, _, _, _, _, _, h5, _⟩ := hs; exact h5
  have hn16 : N ≤ 16 := by obtain ⟨_, _, _, _, _, _, _, _, h6⟩ := hs; omega
  have hpp : ∀ m ∈ ms, Lb.nameB m.nm = true ∧ m.vl.size ≤ 64 := fun m hm => prep_parts (hop m hm).1 (hop m hm).2
  have hwm : Wm ms := fun m hm => ⟨by have := name_len (hpp m hm).1; unfold Wt; omega, by have := (hpp m hm).2; unfold Wt; omega⟩
  have HM := Lib.hid (matchers_any g ms w hs hwm)
  have HPL := Lib.hid (show (prT ms).length ≤ 4000 by have := prT_len hpp; omega)
  have HOP := Lib.hid hop
  have HPP := Lib.hid hpp
  have HT := Lib.hid hT
  have HN := Lib.hid hN
  clear hop hpp hwm hT hs hN
  go_enter Tryd.func12, Tryd.ntmps12
  go_wp2_with fail
  refine HM.out.mono ?_
  rintro y w2 ⟨B, d, rfl, hmq, hb2⟩
  have HMQ := Lib.hid hmq
  have B2 := Lib.hid hb2
  have R0 := Lib.hid (show SpRel w2 ms (.slice none 0 0) (.int .i64 ((0 : Nat) : Int)) w2 from ⟨0, 0, none, rfl, rfl, by omega, World.ownsRow_nil _ _ _ _, Below.refl _ _⟩)
  rw [HN.out]
  clear hmq hb2 HM
  go_wp2_with fail
  go_loopw [3, 9] (fun v3 v9 wr => Hid (SpRel w2 ms v3 v9 wr)) (fun _ v9 _ => N - (intOf v9).toNat)
  case atStart => exact R0
  case round =>
    clear R0
    obtain ⟨i, c1, A1, rfl, rfl, hi, hown, hb⟩ := hrel.out
    clear hrel
    have HOWN := Lib.hid hown
    have HB := Lib.hid hb
    by_cases hlt : i < N
    · have hki : (i : Int) < (N : Int) := by omega
      have hi16 : i ≤ 16 := by omega
      obtain ⟨x, hx⟩ : ∃ x, ms[i]? = some x := ⟨_, List.getElem?_eq_getElem (by rw [HN.out]; exact hlt)⟩
      have hxm := List.mem_of_getElem? hx
      obtain ⟨b, off, hB, hc⟩ := (HMQ.out.below HB.out).some_ (by rw [HN.out]; omega)
      subst hB
      obtain ⟨q0, q1, q2⟩ := hc i x hx
      have HMI := Lib.hid (show mtx (ms.take (i + 1)) = mtx (ms.take i) ++ [Lb.tx (oneT x)] by rw [Lb.take_snoc _ _ _ hx]; simp [mtx])
      have hol := oneT_len (HPP.out x hxm).1 (HPP.out x hxm).2
      have hvl := (HPP.out x hxm).2
      obtain ⟨o0, o1⟩ := (HOP.out x hxm).1
      obtain ⟨nm, op, vl⟩ := x
      simp only at o0 o1 q0 q1 q2 hvl
      obtain ⟨kk, rfl⟩ : ∃ kk : Nat, op = (kk : Int) := ⟨op.toNat, by omega⟩
      have hk4 : kk < 4 := by omega
      obtain ⟨Q, hQ⟩ : ∃ Q, Lb.tx (Lb.quoteL vl.data.toList) = Q := ⟨_, rfl⟩
      have HQ := Lib.hid (fun W => quote_is vl W (by omega) Q hQ)
      have e2 : oneT ⟨nm, (kk : Int), vl⟩ = nm.data.toList ++ (sgT kk ++ Lb.quoteL vl.data.toList) := by unfold oneT; simp
      rw [e2] at HMI hol
      have hSS : signB (kk : Int) = Lb.tx (sgT kk) := by
        rcases (show kk = 0 ∨ kk = 1 ∨ kk = 2 ∨ kk = 3 by omega) with rfl | rfl | rfl | rfl <;> rfl
      obtain ⟨S, hS⟩ : ∃ S, signB (kk : Int) = S := ⟨_, rfl⟩
      rw [hS] at hSS
      obtain ⟨U1, hU1, hadd1⟩ := Lb.add_tx (s := nm) (t := S) (X := nm.data.toList) (Y := sgT kk) (Lb.tx_of _).symm hSS (by simp at hol ⊢; omega)
      obtain ⟨U2, hU2, hadd2⟩ := Lb.add_tx (s := U1) (t := Q) (Y := Lb.quoteL vl.data.toList) hU1 hQ.symm (by simp at hol ⊢; omega)
      have HU := Lib.hid (show mtx (ms.take (i + 1)) = mtx (ms.take i) ++ [U2] by rw [HMI.out, hU2, List.append_assoc])
      have HS := Lib.hid hS
      have HK4 := Lib.hid hk4
      obtain ⟨W5, hW5⟩ : ∃ W5, wr.alloc (.cells #[.string nm, .int .i64 (kk : Int), .string vl] 40 (0, 0)) = W5 := ⟨_, rfl⟩
      obtain ⟨g5, hg5⟩ : ∃ g5, wr.heap.size = g5 := ⟨_, rfl⟩
      have b5 : Below wr.heap.size wr W5 := hW5 ▸ (Below.refl _ _).alloc (Nat.le_refl _) _
      have X5 := Lib.hid (show B3 W5 g5 nm (kk : Int) vl from hg5 ▸ hW5 ▸ B3.new wr _ _ _)
      have O5 := Lib.hid (own_below HOWN.out b5)
      have B5 := Lib.hid (HB.out.trans (b5.mono HB.out.size))
      have HT5 := Lib.hid (HT.out.below (B2.out.trans (B5.out.mono B2.out.size)))
      have HLT := Lib.hid hlt
      clear hown hb hc hx b5 hlt hi hxm hol hvl e2 hSS hS hU1 hU2 hQ HMI o0 o1
      go_wp2_with fail
      clear hW5 hg5 q0 q1 q2
      refine Rg.wp_region_invG (R := fun sl v w => match sl with
          | 13 => v = .slice A1 i c1
          | 14 => v = .pointer (some ⟨g5, 0, none⟩)
          | 15 => v = .string nm
          | 16 => v = .pointer (some ⟨g5, 1, none⟩)
          | 17 => v = .int .i64 (kk : Int)
          | 18 => SgAt S v w
          | 19 => SgAt S v w
          | 20 => v = .string S
          | 21 => v = .string U1
          | 22 => v = .pointer (some ⟨g5, 2, none⟩)
          | 23 => v = .string vl
          | 24 => v = .string Q
          | 25 => v = .string U2
          | 26 => Row1 U2 v w
          | _ => True) (fun a w => True) 14 [13, 14, 15, 16, 17, 18, 19, 20, 21, 22, 23, 24, 25, 26] 33 [false, false, false, false, false, false, false, false, false, false, false, false, false, true, true, true, true, true, true, true, true, true, true, true, true, true, true, false, false, false, false, false, false] (by kernel_rfl) rfl (by kernel_rfl) (by kernel_rfl) (by kernel_rfl) (by kernel_rfl) (Nat.le_of_ble_eq_true (by kernel_rfl)) (by kernel_rfl) (by kernel_rfl) ?mono ?g0 ?good ?done
      case mono =>
        refine List.forall_mem_cons.2 ⟨fun _ _ _ _ _ h => h, ?_⟩
        refine List.forall_mem_cons.2 ⟨fun _ _ _ _ _ h => h, ?_⟩
        refine List.forall_mem_cons.2 ⟨fun _ _ _ _ _ h => h, ?_⟩
        refine List.forall_mem_cons.2 ⟨fun _ _ _ _ _ h => h, ?_⟩
        refine List.forall_mem_cons.2 ⟨fun _ _ _ _ _ h => h, ?_⟩
        refine List.forall_mem_cons.2 ⟨fun _ _ _ _ hb h => SgAt.below h hb, ?_⟩
        refine List.forall_mem_cons.2 ⟨fun _ _ _ _ hb h => SgAt.below h hb, ?_⟩
        refine List.forall_mem_cons.2 ⟨fun _ _ _ _ _ h => h, ?_⟩
        refine List.forall_mem_cons.2 ⟨fun _ _ _ _ _ h => h, ?_⟩
        refine List.forall_mem_cons.2 ⟨fun _ _ _ _ _ h => h, ?_⟩
        refine List.forall_mem_cons.2 ⟨fun _ _ _ _ _ h => h, ?_⟩
        refine List.forall_mem_cons.2 ⟨fun _ _ _ _ _ h => h, ?_⟩
        refine List.forall_mem_cons.2 ⟨fun _ _ _ _ _ h => h, ?_⟩
        refine List.forall_mem_cons.2 ⟨fun _ _ _ _ hb h => Row1.below h hb, ?_⟩
        exact fun _ h => absurd h (by simp)
      case g0 => exact trivial
      case good =>
        refine Rg.goodG_cons ?_ ?_
        · intro ac w' cx hg hn
          have e3 := cx.at_ 3 (by kernel_rfl) rfl
          refine .inl ⟨(Rg.wanted_none rfl), fun K hK => ?_⟩
          go_simp
          exact hK _ _ (Below.refl _ _) (fun t ht => by injection ht with ht; subst ht; exact rfl) trivial
        refine Rg.goodG_cons ?_ ?_
        · intro ac w' cx hg hn
          have e5 := cx.at_ 5 (by kernel_rfl) rfl
          refine .inl ⟨(Rg.wanted_none rfl), fun K hK => ?_⟩
          go_simp
          exact hK _ _ (Below.refl _ _) (fun t ht => by injection ht with ht; subst ht; exact rfl) trivial
        refine Rg.goodG_cons ?_ ?_
        · intro ac w' cx hg hn
          obtain ⟨v14, e14, r14⟩ := hn 14 (Rg.mem_of (by kernel_rfl))
          obtain rfl : v14 = .pointer (some ⟨g5, 0, none⟩) := r14
          have hx := (X5.out.below cx.bel).cells.1
          refine .inl ⟨(Rg.wanted_none rfl), fun K hK => ?_⟩
          go_simp
          exact hK _ _ (Below.refl _ _) (fun t ht => by injection ht with ht; subst ht; exact rfl) trivial
        refine Rg.goodG_cons ?_ ?_
        · intro ac w' cx hg hn
          have e5 := cx.at_ 5 (by kernel_rfl) rfl
          refine .inl ⟨(Rg.wanted_none rfl), fun K hK => ?_⟩
          go_simp
          exact hK _ _ (Below.refl _ _) (fun t ht => by injection ht with ht; subst ht; exact rfl) trivial
        refine Rg.goodG_cons ?_ ?_
        · intro ac w' cx hg hn
          obtain ⟨v16, e16, r16⟩ := hn 16 (Rg.mem_of (by kernel_rfl))
          obtain rfl : v16 = .pointer (some ⟨g5, 1, none⟩) := r16
          have hx := (X5.out.below cx.bel).cells.2.1
          refine .inl ⟨(Rg.wanted_none rfl), fun K hK => ?_⟩
          go_simp
          exact hK _ _ (Below.refl _ _) (fun t ht => by injection ht with ht; subst ht; exact rfl) trivial
        refine Rg.goodG_cons ?_ ?_
        · intro ac w' cx hg hn
          obtain ⟨v17, e17, r17⟩ := hn 17 (Rg.mem_of (by kernel_rfl))
          obtain rfl : v17 = .int .i64 (kk : Int) := r17
          refine .inl ⟨(Rg.wanted_none rfl), fun K hK => ?_⟩
          obtain ⟨t0, t1, t2, t3, t4, t5, t6, t7, t8, t9, t10, t11⟩ := HT5.out.below cx.bel
          have hS := HS.out
          rcases (show kk = 0 ∨ kk = 1 ∨ kk = 2 ∨ kk = 3 by have := HK4.out; omega) with rfl | rfl | rfl | rfl
          all_goals
            subst hS
            go_simp
            exact hK _ _ (Below.refl _ _) (fun t ht => by injection ht with ht; subst ht; exact ⟨_, _, rfl, by assumption⟩) trivial
        refine Rg.goodG_cons ?_ ?_
        · intro ac w' cx hg hn
          obtain ⟨v18, e18, r18⟩ := hn 18 (Rg.mem_of (by kernel_rfl))
          replace r18 : SgAt S v18 w' := r18
          refine .inl ⟨(Rg.wanted_none rfl), fun K hK => ?_⟩
          obtain ⟨gj, jj, rfl, hx⟩ := r18
          go_simp
          exact hK _ _ (Below.refl _ _) (fun t ht => by injection ht with ht; subst ht; exact ⟨_, _, rfl, hx⟩) trivial
        refine Rg.goodG_cons ?_ ?_
        · intro ac w' cx hg hn
          obtain ⟨v19, e19, r19⟩ := hn 19 (Rg.mem_of (by kernel_rfl))
          replace r19 : SgAt S v19 w' := r19
          obtain ⟨gj, jj, rfl, hx⟩ := r19
          refine .inl ⟨(Rg.wanted_none rfl), fun K hK => ?_⟩
          go_simp
          exact hK _ _ (Below.refl _ _) (fun t ht => by injection ht with ht; subst ht; exact rfl) trivial
        refine Rg.goodG_cons ?_ ?_
        · intro ac w' cx hg hn
          obtain ⟨v15, e15, r15⟩ := hn 15 (Rg.mem_of (by kernel_rfl))
          obtain rfl : v15 = .string nm := r15
          obtain ⟨v20, e20, r20⟩ := hn 20 (Rg.mem_of (by kernel_rfl))
          obtain rfl : v20 = .string S := r20
          refine .inl ⟨(Rg.wanted_none rfl), fun K hK => ?_⟩
          go_simp
          exact hK _ _ (Below.refl _ _) (fun t ht => by injection ht with ht; subst ht; exact rfl) trivial
        refine Rg.goodG_cons ?_ ?_
        · intro ac w' cx hg hn
          have e5 := cx.at_ 5 (by kernel_rfl) rfl
          refine .inl ⟨(Rg.wanted_none rfl), fun K hK => ?_⟩
          go_simp
          exact hK _ _ (Below.refl _ _) (fun t ht => by injection ht with ht; subst ht; exact rfl) trivial
        refine Rg.goodG_cons ?_ ?_
        · intro ac w' cx hg hn
          obtain ⟨v22, e22, r22⟩ := hn 22 (Rg.mem_of (by kernel_rfl))
          obtain rfl : v22 = .pointer (some ⟨g5, 2, none⟩) := r22
          have hx := (X5.out.below cx.bel).cells.2.2
          refine .inl ⟨(Rg.wanted_none rfl), fun K hK => ?_⟩
          go_simp
          exact hK _ _ (Below.refl _ _) (fun t ht => by injection ht with ht; subst ht; exact rfl) trivial
        refine Rg.goodG_cons ?_ ?_
        · intro ac w' cx hg hn
          obtain ⟨v23, e23, r23⟩ := hn 23 (Rg.mem_of (by kernel_rfl))
          obtain rfl : v23 = .string vl := r23
          refine .inl ⟨(Rg.wanted_none rfl), fun K hK => ?_⟩
          go_simp
          refine (HQ.out _).mono ?_
          rintro y w5 ⟨rfl, hb⟩
          exact hK _ _ hb (fun t ht => by injection ht with ht; subst ht; exact rfl) trivial
        refine Rg.goodG_cons ?_ ?_
        · intro ac w' cx hg hn
          obtain ⟨v21, e21, r21⟩ := hn 21 (Rg.mem_of (by kernel_rfl))
          obtain rfl : v21 = .string U1 := r21
          obtain ⟨v24, e24, r24⟩ := hn 24 (Rg.mem_of (by kernel_rfl))
          obtain rfl : v24 = .string Q := r24
          refine .inl ⟨(Rg.wanted_none rfl), fun K hK => ?_⟩
          go_simp
          exact hK _ _ (Below.refl _ _) (fun t ht => by injection ht with ht; subst ht; exact rfl) trivial
        refine Rg.goodG_cons ?_ ?_
        · intro ac w' cx hg hn
          obtain ⟨v25, e25, r25⟩ := hn 25 (Rg.mem_of (by kernel_rfl))
          obtain rfl : v25 = .string U2 := r25
          refine .inl ⟨(Rg.wanted_none rfl), fun K hK => ?_⟩
          go_simp
          exact hK _ _ ((Below.refl _ _).alloc (Nat.le_refl _) _) (fun t ht => by injection ht with ht; subst ht; exact ⟨_, rfl, heap_alloc_new _ _⟩) trivial
        exact Rg.goodG_nil
      case done =>
        intro u w6 hb6 hr _
        have q13 : u 13 = .slice A1 i c1 := hr 13 (by simp)
        obtain ⟨g26, q26, x26⟩ : Row1 U2 (u 26) w6 := hr 26 (by simp)
        simp only [Rg.fillL_cons, Rg.fillL_nil, if_true, if_false, Bool.false_eq_true, q13, q26]
        change wpList _ _ _ [_, _] _ _
        have O6 := Lib.hid (own_below O5.out hb6)
        have B6 := Lib.hid (B5.out.trans (hb6.mono B5.out.size))
        have Y26 := Lib.hid (show w6.cell? ⟨g26, 0, none⟩ = some (.string U2) by rw [cell_of_row _ _ _ _ _ _ x26]; rfl)
        clear hr hb6 x26
        go_wp2_with (at_builtin; refine app_str rfl _ _ rfl w2.heap.size A1 i c1 (mtx (ms.take i)) rfl O6.out g26 rfl U2 Y26.out (by have := HLT.out; omega) B6.out.size ?_; intro A7 c7 w7 ho7 hg7; have HO7 := Lib.hid ho7; have HB7 := Lib.hid (B6.out.grown hg7 B6.out.size (fun k hk => (O6.out.lt k hk).1)); clear ho7 hg7)
        go_roundw
        case rel => exact Lib.hid ⟨i + 1, c7, A7, rfl, by go_num, by have := HLT.out; have := HN.out; omega, by rw [HU.out]; exact HO7.out, HB7.out⟩
        case measure => simp [intOf]; have := HLT.out; omega
    · obtain rfl : i = N := by have := HN.out; omega
      have hki : ¬ ((i : Nat) : Int) < (i : Int) := by omega
      have hfull : ms.take i = ms := List.take_of_length_le (by have := HN.out; omega)
      rw [hfull] at hown
      obtain ⟨J, hJ⟩ : ∃ J, Lb.tx (prT ms) = J := ⟨_, rfl⟩
      have hjp : jn ((mtx ms).map (·.data.toList)) = prT ms := by rw [mtx_data, jn_prT]
      have HJ := Lib.hid (joinC_any A1 i c1 (mtx ms) wr (by unfold mtx; rw [List.length_map]; exact HN.out.symm) (own_cl hown) (own_capS hown) (by rw [hjp]; exact HPL.out) (by unfold mtx; rw [List.length_map]; have := HN.out; omega))
      rw [hjp, hJ] at HJ
      have hpl := HPL.out
      obtain ⟨V1, hV1, hadd1⟩ := Lb.add_tx (s := ⟨#[123]⟩) (t := J) (X := [123]) (Y := prT ms) rfl hJ.symm (by simp; omega)
      obtain ⟨V2, hV2, hadd2⟩ := Lb.add_tx (s := V1) (t := ⟨#[125]⟩) (Y := [125]) hV1 rfl (by simp; omega)
      have HV := Lib.hid (show V2 = Lb.tx (printF ms) by rw [hV2]; unfold printF; simp)
      have BW := Lib.hid (B2.out.trans (hb.mono B2.out.size))
      clear hown hb hfull HOWN hjp hJ hV1 hV2 hpl
      go_wp2_with fail
      refine HJ.out.mono ?_
      rintro y w3 ⟨rfl, hb3⟩
      have B3' := Lib.hid (BW.out.trans (hb3.mono BW.out.size))
      clear hb3
      go_wp2_with fail
      go_ret
      exact ⟨by rw [HV.out]; rfl, B3'.out⟩
end Go.Proofs.YtnabfganecghkaaDoor

/-! What is printed is read as it was. -/
namespace Go.Proofs.YtnabfganecghkaaDoor
open Go.RowKit Go.Sort
set_option linter.unusedVariables false

theorem nmC_no {c : UInt8} (h : Lb.nmC c = true) : sg2.data.toList.contains c = false := by
  cases hc : sg2.data.toList.contains c with
  | false => rfl
  | true =>
    have hm : c ∈ ([123, 125, 61, 33, 126, 44, 34] : List UInt8) := List.contains_iff_mem.1 hc
    simp at hm
    rcases hm with rfl | rfl | rfl | rfl | rfl | rfl | rfl <;> revert h <;> decide
theorem ix_at : ∀ (P : List UInt8) (c : UInt8) (R : List UInt8), (∀ b ∈ P, sg2.data.toList.contains b = false) → sg2.data.toList.contains c = true → ixM (P ++ c :: R) = P.length
  | [], c, R, _, hc => by
    show Lib.indexAny (c :: R) _ = 0
    unfold Lib.indexAny
    rw [if_pos hc]
  | b :: P, c, R, h, hc => by
    have ih := ix_at P c R (fun x hx => h x (List.mem_cons_of_mem _ hx)) hc
    unfold ixM at ih ⊢
    rw [List.cons_append, Lib.indexAny, if_neg (by rw [h b List.mem_cons_self]; simp), ih, List.length_cons]
    have hne : (((P.length : Nat) : Int) == -1) = false := by simp
    rw [hne]
    simp
theorem sgF_back (k : Nat) (hk : k < 4) (R : List UInt8) : sgF (sgT k ++ 34 :: R) = some (k, 34 :: R) := by
  rcases (show k = 0 ∨ k = 1 ∨ k = 2 ∨ k = 3 by omega) with rfl | rfl | rfl | rfl <;> simp [sgF, sgT, pre, Lib.hasPrefix, List.isPrefixOf]
theorem sgT_head (k : Nat) : ∃ d R, sgT k = d :: R ∧ sg2.data.toList.contains d = true := by
  unfold sgT
  split
  · exact ⟨_, _, rfl, by decide⟩
  split
  · exact ⟨_, _, rfl, by decide⟩
  split
  · exact ⟨_, _, rfl, by decide⟩
  · exact ⟨_, _, rfl, by decide⟩
theorem name_no {s : ByteArray} (h : Lb.nameB s = true) : ∀ b ∈ s.data.toList, sg2.data.toList.contains b = false := by
  intro b hb
  obtain ⟨i, hi, e⟩ := List.getElem_of_mem hb
  have hs : i < s.size := by rw [Array.length_toList] at hi; exact hi
  have h1 := ((Lb.nameB_iff s).1 h).2.2 i hs
  have e2 : s[i] = b := by rw [← e, Array.getElem_toList]; rfl
  rw [e2] at h1
  exact nmC_no h1
theorem oneM_back {m : Mt} (R : List UInt8) (hop : 0 ≤ m.op ∧ m.op < 4) (hn : Lb.nameB m.nm = true) : oneM (oneT m ++ R) = some (m, R) := by
  obtain ⟨nm, op, vl⟩ := m
  obtain ⟨k, rfl⟩ : ∃ k : Nat, op = (k : Int) := ⟨op.toNat, by have : (0 : Int) ≤ op := hop.1; omega⟩
  have hk : k < 4 := by have : (k : Int) < 4 := hop.2; omega
  obtain ⟨d, S, hS, hd⟩ := sgT_head k
  obtain ⟨Z, hZ⟩ : ∃ Z, Lb.quoteL vl.data.toList = 34 :: Z := ⟨_, rfl⟩
  have e1 : oneT ⟨nm, (k : Int), vl⟩ ++ R = nm.data.toList ++ (sgT k ++ (Lb.quoteL vl.data.toList ++ R)) := by unfold oneT; simp
  have hix : ixM (nm.data.toList ++ (sgT k ++ (Lb.quoteL vl.data.toList ++ R))) = nm.data.toList.length := by
    rw [hS, List.cons_append]
    exact ix_at _ _ _ (name_no hn) hd
  unfold oneM
  rw [e1, hix, if_neg (by omega), Int.toNat_natCast, List.drop_left]
  rw [show sgF (sgT k ++ (Lb.quoteL vl.data.toList ++ R)) = some (k, Lb.quoteL vl.data.toList ++ R) by rw [hZ, List.cons_append]; exact sgF_back k hk _]
  unfold oneG
  simp only [Lb.unqF_quote, List.take_left]
  rw [tx_of, tx_of]
theorem rdL_back : ∀ (ms : List Mt) (n : Nat) (c : UInt8), ms ≠ [] → ms.length ≤ n → (∀ m ∈ ms, (0 ≤ m.op ∧ m.op < 4) ∧ Lb.nameB m.nm = true) → rdL n c (c :: (prT ms ++ [125])) = some ms
  | [], n, c, h, _, _ => absurd rfl h
  | [m], 0, c, _, hn, _ => by simp at hn
  | [m], n + 1, c, _, _, h => by
    have h1 := h m List.mem_cons_self
    rw [prT_one]
    exact rdL_end (by simp [Lb.hdB]) (show oneM (oneT m ++ [125]) = some (m, [125]) from oneM_back _ h1.1 h1.2) rfl
  | m :: b :: r, 0, c, _, hn, _ => by simp at hn
  | m :: b :: r, n + 1, c, _, hn, h => by
    have h1 := h m List.mem_cons_self
    have ih := rdL_back (b :: r) n 44 (by simp) (by simp at hn ⊢; omega) (fun x hx => h x (List.mem_cons_of_mem _ hx))
    rw [prT_cons m (by simp), List.append_assoc, List.cons_append]
    rw [rdL_on (l := c :: (oneT m ++ 44 :: (prT (b :: r) ++ [125]))) (r := 44 :: (prT (b :: r) ++ [125])) (m := m) (by simp [Lb.hdB]) (show oneM (oneT m ++ 44 :: (prT (b :: r) ++ [125])) = _ from oneM_back _ h1.1 h1.2) (by simp), ih]
    rfl
theorem oneT_pos (m : Mt) : 1 ≤ (oneT m).length := by
  obtain ⟨d, S, hS, _⟩ := sgT_head m.op.toNat
  unfold oneT
  rw [hS]
  simp; omega
theorem prT_pos : ∀ ms : List Mt, ms.length ≤ (prT ms).length
  | [] => by simp
  | m :: r => by
    have ih := prT_pos r
    have h1 := oneT_pos m
    rw [prT, List.length_append, List.length_cons]
    split
    · rename_i h; subst h; simp; omega
    · simp; omega
theorem readF_back {ms : List Mt} (h : ∀ m ∈ ms, (0 ≤ m.op ∧ m.op < 4) ∧ Lb.nameB m.nm = true) : readF (printF ms) = some ms := by
  by_cases h0 : ms = []
  · subst h0; rfl
  · have hp := prT_pos ms
    have hl : 1 ≤ ms.length := by
      cases ms with
      | nil => exact absurd rfl h0
      | cons _ _ => simp
    unfold readF
    rw [if_neg (by
      intro e
      have := congrArg List.length e
      unfold printF at this
      rw [List.length_cons, List.length_append] at this
      simp only [List.length_cons, List.length_nil] at this
      omega)]
    exact rdL_back ms _ 123 h0 (by unfold printF; simp; omega) h
end Go.Proofs.YtnabfganecghkaaDoor

/-! The document's Match of labels. -/
namespace Go.Proofs.YtnabfganecghkaaDoor
open Go.RowKit Go.Sort
set_option linter.unusedVariables false

theorem getV_cons (p : Lb.Lab) (r : List Lb.Lab) (s : ByteArray) : Lb.getV (p :: r) s = if Lb.isN s p = true then p.2 else Lb.getV r s := by
  unfold Lb.getV Lb.getK
  rw [List.find?_cons]
  cases h : Lb.isN s p <;> simp
theorem getV_small {l : List Lb.Lab} (h : ∀ p ∈ l, p.2.size ≤ 64) (s : ByteArray) : (Lb.getV l s).size ≤ 64 := by
  induction l with
  | nil => show (0 : Nat) ≤ 64; omega
  | cons p r ih =>
    rw [getV_cons]
    split
    · exact h p List.mem_cons_self
    · exact ih (fun x hx => h x (List.mem_cons_of_mem _ hx))
theorem getV_drop {l : List Lb.Lab} {k : Nat} {p : Lb.Lab} (h : l[k]? = some p) (s : ByteArray) : Lb.getV (l.drop k) s = if Lb.isN s p = true then p.2 else Lb.getV (l.drop (k + 1)) s := by
  obtain ⟨hk, rfl⟩ := List.getElem?_eq_some_iff.1 h
  rw [List.drop_eq_getElem_cons hk, getV_cons]
theorem rmt_is {x : Rx} {l s : List UInt8} {nd : Nd} {q : Bool} (hq : q = true ↔ (Ln nd).1 s) (hL : ∀ s, (Ln nd).1 s ↔ Lang x s) : q = mtR (.ok x l) s := by
  rw [Bool.eq_iff_iff, hq, hL, mtR_ok]
def RmI (w : World) (a : List Lb.Lab) (nm : ByteArray) (v6 v7 : Value) (wr : World) : Prop := ∃ j : Nat, j ≤ a.length ∧ v7 = .int .i64 ((j : Int) - 1) ∧ v6 = .string (Lb.getV (a.drop j) nm) ∧ Below w.heap.size w wr
def RmO (w : World) (ms : List Mt) (a : List Lb.Lab) (v5 : Value) (wr : World) : Prop := ∃ i : Nat, v5 = .int .i64 (i : Int) ∧ i ≤ ms.length ∧ allM (ms.take i) a = true ∧ Below w.heap.size w wr
theorem allM_on {ms : List Mt} {a : List Lb.Lab} {i : Nat} {m : Mt} (h : allM (ms.take i) a = true) (hm : ms[i]? = some m) (hz : holdsM m (Lb.getV a m.nm) = true) : allM (ms.take (i + 1)) a = true := by
  rw [Lb.take_snoc _ _ _ hm]
  unfold allM at h ⊢
  rw [List.all_append, h]
  simpa using hz
theorem allM_bad {ms : List Mt} {a : List Lb.Lab} {i : Nat} {m : Mt} (hm : ms[i]? = some m) (hz : holdsM m (Lb.getV a m.nm) = false) : allM ms a = false := by
  cases h : allM ms a with
  | false => rfl
  | true =>
    unfold allM at h
    have := List.all_eq_true.1 h m (List.mem_of_getElem? hm)
    rw [hz] at this
    cases this
set_option maxHeartbeats 8000000 in
set_option maxRecDepth 100000 in
theorem rmatch12_any (A B : Option Addr) (n m c d : Nat) (ms : List Mt) (a : List Lb.Lab) (w : World) (hn : n = ms.length) (hm : m = a.length) (h : Mq w A ms) (ha : Lb.Lw w B a) (hop : ∀ m ∈ ms, (0 ≤ m.op ∧ m.op < 4) ∧ prepE m = 0) (hv : ∀ p ∈ a, p.2.size ≤ 64) :
    Calls Tryd.prog 11 #[.slice A n c, .slice B m d] w fun e w' => e = .returned (.bool (allM ms a)) ∧ Below w.heap.size w w' := by
  subst hn hm
  obtain ⟨N, hN⟩ : ∃ N, ms.length = N := ⟨_, rfl⟩
  obtain ⟨M, hM⟩ : ∃ M, a.length = M := ⟨_, rfl⟩
  obtain ⟨z, hz⟩ : ∃ z, allM ms a = z := ⟨_, rfl⟩
  have hN9 : N ≤ 9223372036854775807 := by have := h.1; omega
  have hM9 : M ≤ 9223372036854775807 := by have := ha.1; omega
  have HM := Lib.hid h
  have HA := Lib.hid ha
  have HOP := Lib.hid hop
  have HV := Lib.hid hv
  have HN := Lib.hid hN
  have HMM := Lib.hid hM
  have HZ := Lib.hid hz
  have hw0 := IntWalk.i64_in ((M : Int) - 1) (by omega)
  rw [hN, hM, hz]
  have R0 := Lib.hid (show RmO w ms a (.int .i64 ((0 : Nat) : Int)) w from ⟨0, rfl, by omega, by simp [allM], Below.refl _ _⟩)
  clear h ha hop hv hN hM hz
  go_enter Tryd.func11, Tryd.ntmps11
  go_wp2_with fail
  go_loopw [5] (fun v5 wr => Hid (RmO w ms a v5 wr)) (fun v5 _ => N - (intOf v5).toNat)
  case atStart => exact R0
  case round =>
    clear R0
    obtain ⟨i, rfl, hi, hall, hb⟩ := hrel.out
    clear hrel
    have HB := Lib.hid hb
    have HALL := Lib.hid hall
    by_cases hlt : i < N
    · have hki : (i : Int) < (N : Int) := by omega
      obtain ⟨x, hx⟩ : ∃ x, ms[i]? = some x := ⟨_, List.getElem?_eq_getElem (by rw [HN.out]; exact hlt)⟩
      obtain ⟨b1, off, hA1, hc⟩ := HM.out.some_ (by rw [HN.out]; omega)
      subst hA1
      have HC := Lib.hid (fun (W : World) (hW : Below w.heap.size w W) => show W.cell? ⟨b1, off + i * 3, none⟩ = some (.string x.nm) ∧ W.cell? ⟨b1, off + i * 3 + 1, none⟩ = some (.int .i64 x.op) ∧ W.cell? ⟨b1, off + i * 3 + 2, none⟩ = some (.string x.vl) from ⟨cell_below (hc i x hx).1 hW, cell_below (hc i x hx).2.1 hW, cell_below (hc i x hx).2.2 hW⟩)
      have HX := Lib.hid hx
      have hxo := HOP.out x (List.mem_of_getElem? hx)
      obtain ⟨nm, op, vl⟩ := x
      obtain ⟨kk, rfl⟩ : ∃ kk : Nat, op = (kk : Int) := ⟨op.toNat, by have : (0 : Int) ≤ op := hxo.1.1; omega⟩
      have hk4 : kk < 4 := by have : (kk : Int) < 4 := hxo.1.2; omega
      have HK4 := Lib.hid hk4
      have HPE := Lib.hid hxo.2
      have HLT := Lib.hid hlt
      have R1 := Lib.hid (show RmI w a nm (.string ⟨#[]⟩) (.int .i64 ((M : Int) - 1)) wr from ⟨M, by rw [HMM.out]; exact Nat.le_refl _, rfl, by rw [← HMM.out, List.drop_length]; rfl, HB.out⟩)
      clear hc hx hxo hk4 hlt hi hall hb
      go_wp2_with fail
      go_loopw [6, 7] (fun v6 v7 wr => Hid (RmI w a nm v6 v7 wr)) (fun _ v7 _ => (intOf v7 + 1).toNat)
      case atStart => exact R1
      case round =>
        clear R1
        obtain ⟨j, hj, rfl, rfl, hb⟩ := hrel.out
        clear hrel
        have HBJ := Lib.hid hb
        rcases j with _ | j
        · have e0 : (((0 : Nat) : Int) - 1) = -1 := rfl
          rw [e0, List.drop_zero]
          obtain ⟨V, hV⟩ : ∃ V, Lb.getV a nm = V := ⟨_, rfl⟩
          have HVS := Lib.hid (show V.size ≤ 64 by rw [← hV]; exact getV_small HV.out nm)
          have HVV := Lib.hid hV
          obtain ⟨c0, c1, c2⟩ := HC.out _ HBJ.out
          obtain ⟨q, hq⟩ : ∃ q, decide (V = vl) = q := ⟨_, rfl⟩
          have hqe : (V.toList == vl.toList) = q := (text_eq V vl).trans hq
          rw [hV]
          have HQ := Lib.hid hq
          clear hb hj hV e0 hq
          rcases (show kk = 0 ∨ kk = 1 ∨ kk = 2 ∨ kk = 3 by have := HK4.out; omega) with rfl | rfl | rfl | rfl
          · obtain ⟨zz, hzz⟩ : ∃ zz, holdsM ⟨nm, ((0 : Nat) : Int), vl⟩ V = zz := ⟨_, rfl⟩
            have HZZ := Lib.hid (show zz = q by rw [← hzz, ← HQ.out]; unfold holdsM; simp)
            have HX2 := Lib.hid (show holdsM ⟨nm, ((0 : Nat) : Int), vl⟩ (Lb.getV a nm) = zz by rw [HVV.out]; exact hzz)
            clear hzz
            cases q with
            | false =>
              have HF := Lib.hid (show z = false by rw [← HZ.out]; exact allM_bad HX.out (HX2.out.trans HZZ.out))
              go_wp2_with fail
              go_ret
              exact ⟨by rw [HF.out]; rfl, HBJ.out⟩
            | true =>
              go_wp2_with fail
              go_roundw
              case rel => exact Lib.hid ⟨i + 1, by go_num, by have := HLT.out; have := HN.out; omega, allM_on HALL.out HX.out (HX2.out.trans HZZ.out), HBJ.out⟩
              case measure => simp [intOf]; have := HLT.out; omega
          · obtain ⟨zz, hzz⟩ : ∃ zz, holdsM ⟨nm, ((1 : Nat) : Int), vl⟩ V = zz := ⟨_, rfl⟩
            have HZZ := Lib.hid (show zz = !q by rw [← hzz, ← HQ.out]; unfold holdsM; simp)
            have HX2 := Lib.hid (show holdsM ⟨nm, ((1 : Nat) : Int), vl⟩ (Lb.getV a nm) = zz by rw [HVV.out]; exact hzz)
            clear hzz
            cases q with
            | false =>
              go_wp2_with fail
              go_roundw
              case rel => exact Lib.hid ⟨i + 1, by go_num, by have := HLT.out; have := HN.out; omega, allM_on HALL.out HX.out (HX2.out.trans HZZ.out), HBJ.out⟩
              case measure => simp [intOf]; have := HLT.out; omega
            | true =>
              have HF := Lib.hid (show z = false by rw [← HZ.out]; exact allM_bad HX.out (HX2.out.trans HZZ.out))
              go_wp2_with fail
              go_ret
              exact ⟨by rw [HF.out]; rfl, HBJ.out⟩
          · have hpe := HPE.out
            unfold prepE at hpe
            rw [if_neg (by show ¬ (((2 : Nat) : Int) < 0 ∨ 4 ≤ ((2 : Nat) : Int)); omega)] at hpe
            have hpe2 : errN (parseF vl.data.toList) = 0 := by
              split at hpe
              · cases hpe
              · rw [if_pos (by show (2 : Int) ≤ ((2 : Nat) : Int); omega)] at hpe
                exact hpe
            have HE := Lib.hid hpe2
            have HP := Lib.hid (rparse_any vl wr)
            obtain ⟨rr, hrr⟩ : ∃ rr, parseF vl.data.toList = rr := ⟨_, rfl⟩
            rw [hrr] at HP HE
            have HRR := Lib.hid hrr
            clear hpe hpe2 hrr
            go_wp2_with fail
            refine HP.out.mono ?_
            rintro y w5 ⟨kd, a1, n1, m1, a2, n2, m2, rfl, hb5, herr, hnode⟩
            obtain ⟨xx, ll, hxl⟩ : ∃ xx ll, rr = .ok xx ll := by
              cases rr with
              | ok x l => exact ⟨x, l, rfl⟩
              | err e => exact absurd HE.out (herr e rfl)
            obtain ⟨nd, hnd1, hnd2, hnd3⟩ := hnode xx ll hxl
            rw [HE.out]
            obtain ⟨W6, hW6⟩ : ∃ W6, w5.alloc (.cells #[.string kd, .slice a1 n1 m1, .slice a2 n2 m2] 60 (0, 0)) = W6 := ⟨_, rfl⟩
            obtain ⟨g6, hg6⟩ : ∃ g6, w5.heap.size = g6 := ⟨_, rfl⟩
            have b6 : Below w5.heap.size w5 W6 := hW6 ▸ (Below.refl _ _).alloc (Nat.le_refl _) _
            have X6 := Lib.hid (show Nb W6 g6 kd (.slice a1 n1 m1) (.slice a2 n2 m2) from hg6 ▸ hW6 ▸ Nb.new w5 _ _ _)
            have B6 := Lib.hid (HBJ.out.trans ((hb5.trans (b6.mono hb5.size)).mono HBJ.out.size))
            have HM6 := Lib.hid (rmt_any nd _ kd a1 a2 n1 m1 n2 m2 V W6 hnd1 (hnd2.below b6) (by have := HVS.out; omega))
            have HRT := Lib.hid (fun (q : Bool) (hq : q = true ↔ (Ln nd).1 V.data.toList) => (rmt_is (l := ll) hq hnd3).trans (by rw [← hxl]))
            obtain ⟨⟨x0, x1, x2⟩, _⟩ := X6.out.cells
            clear hb5 herr hnode hnd1 hnd2 hnd3 hxl b6 c0 c1 c2
            go_wp2_with fail
            clear hW6 hg6 x0 x1 x2
            refine HM6.out.mono ?_
            rintro y w7 ⟨r, rfl, hr, hb7⟩
            have B7' := Lib.hid (B6.out.trans (hb7.mono B6.out.size))
            obtain ⟨c0, c1, c2⟩ := HC.out _ B7'.out
            have HRE := Lib.hid (HRT.out r hr)
            obtain ⟨zz, hzz⟩ : ∃ zz, holdsM ⟨nm, ((2 : Nat) : Int), vl⟩ V = zz := ⟨_, rfl⟩
            have HZZ := Lib.hid (show zz = r by rw [← hzz, HRE.out, ← HRR.out]; unfold holdsM; simp)
            have HX2 := Lib.hid (show holdsM ⟨nm, ((2 : Nat) : Int), vl⟩ (Lb.getV a nm) = zz by rw [HVV.out]; exact hzz)
            clear hzz hb7 hr
            cases r with
            | false =>
              have HF := Lib.hid (show z = false by rw [← HZ.out]; exact allM_bad HX.out (HX2.out.trans HZZ.out))
              go_wp2_with fail
              go_ret
              exact ⟨by rw [HF.out]; rfl, B7'.out⟩
            | true =>
              go_wp2_with fail
              go_roundw
              case rel => exact Lib.hid ⟨i + 1, by go_num, by have := HLT.out; have := HN.out; omega, allM_on HALL.out HX.out (HX2.out.trans HZZ.out), B7'.out⟩
              case measure => simp [intOf]; have := HLT.out; omega
          · have hpe := HPE.out
            unfold prepE at hpe
            rw [if_neg (by show ¬ (((3 : Nat) : Int) < 0 ∨ 4 ≤ ((3 : Nat) : Int)); omega)] at hpe
            have hpe2 : errN (parseF vl.data.toList) = 0 := by
              split at hpe
              · cases hpe
              · rw [if_pos (by show (2 : Int) ≤ ((3 : Nat) : Int); omega)] at hpe
                exact hpe
            have HE := Lib.hid hpe2
            have HP := Lib.hid (rparse_any vl wr)
            obtain ⟨rr, hrr⟩ : ∃ rr, parseF vl.data.toList = rr := ⟨_, rfl⟩
            rw [hrr] at HP HE
            have HRR := Lib.hid hrr
            clear hpe hpe2 hrr
            go_wp2_with fail
            refine HP.out.mono ?_
            rintro y w5 ⟨kd, a1, n1, m1, a2, n2, m2, rfl, hb5, herr, hnode⟩
            obtain ⟨xx, ll, hxl⟩ : ∃ xx ll, rr = .ok xx ll := by
              cases rr with
              | ok x l => exact ⟨x, l, rfl⟩
              | err e => exact absurd HE.out (herr e rfl)
            obtain ⟨nd, hnd1, hnd2, hnd3⟩ := hnode xx ll hxl
            rw [HE.out]
            obtain ⟨W6, hW6⟩ : ∃ W6, w5.alloc (.cells #[.string kd, .slice a1 n1 m1, .slice a2 n2 m2] 60 (0, 0)) = W6 := ⟨_, rfl⟩
            obtain ⟨g6, hg6⟩ : ∃ g6, w5.heap.size = g6 := ⟨_, rfl⟩
            have b6 : Below w5.heap.size w5 W6 := hW6 ▸ (Below.refl _ _).alloc (Nat.le_refl _) _
            have X6 := Lib.hid (show Nb W6 g6 kd (.slice a1 n1 m1) (.slice a2 n2 m2) from hg6 ▸ hW6 ▸ Nb.new w5 _ _ _)
            have B6 := Lib.hid (HBJ.out.trans ((hb5.trans (b6.mono hb5.size)).mono HBJ.out.size))
            have HM6 := Lib.hid (rmt_any nd _ kd a1 a2 n1 m1 n2 m2 V W6 hnd1 (hnd2.below b6) (by have := HVS.out; omega))
            have HRT := Lib.hid (fun (q : Bool) (hq : q = true ↔ (Ln nd).1 V.data.toList) => (rmt_is (l := ll) hq hnd3).trans (by rw [← hxl]))
            obtain ⟨⟨x0, x1, x2⟩, _⟩ := X6.out.cells
            clear hb5 herr hnode hnd1 hnd2 hnd3 hxl b6 c0 c1 c2
            go_wp2_with fail
            clear hW6 hg6 x0 x1 x2
            refine HM6.out.mono ?_
            rintro y w7 ⟨r, rfl, hr, hb7⟩
            have B7' := Lib.hid (B6.out.trans (hb7.mono B6.out.size))
            obtain ⟨c0, c1, c2⟩ := HC.out _ B7'.out
            have HRE := Lib.hid (HRT.out r hr)
            obtain ⟨zz, hzz⟩ : ∃ zz, holdsM ⟨nm, ((3 : Nat) : Int), vl⟩ V = zz := ⟨_, rfl⟩
            have HZZ := Lib.hid (show zz = !r by rw [← hzz, HRE.out, ← HRR.out]; unfold holdsM; simp)
            have HX2 := Lib.hid (show holdsM ⟨nm, ((3 : Nat) : Int), vl⟩ (Lb.getV a nm) = zz by rw [HVV.out]; exact hzz)
            clear hzz hb7 hr
            cases r with
            | false =>
              go_wp2_with fail
              go_roundw
              case rel => exact Lib.hid ⟨i + 1, by go_num, by have := HLT.out; have := HN.out; omega, allM_on HALL.out HX.out (HX2.out.trans HZZ.out), B7'.out⟩
              case measure => simp [intOf]; have := HLT.out; omega
            | true =>
              have HF := Lib.hid (show z = false by rw [← HZ.out]; exact allM_bad HX.out (HX2.out.trans HZZ.out))
              go_wp2_with fail
              go_ret
              exact ⟨by rw [HF.out]; rfl, B7'.out⟩
        · have e0 : (((j + 1 : Nat) : Int) - 1) = (j : Int) := by omega
          rw [e0]
          obtain ⟨p, hp⟩ : ∃ p, a[j]? = some p := ⟨_, List.getElem?_eq_getElem (by omega)⟩
          obtain ⟨b2, of2, hB2, hc2⟩ := HA.out.some_ (by omega)
          subst hB2
          have d0 := cell_below (hc2 j p hp).1 HBJ.out
          have d1 := cell_below (hc2 j p hp).2 HBJ.out
          obtain ⟨c0, _, _⟩ := HC.out _ HBJ.out
          have hji : (j : Int) < (M : Int) := by have := HMM.out; omega
          have hw1 := IntWalk.i64_in ((j : Int) - 1) (by omega)
          obtain ⟨q, hq⟩ : ∃ q, Lb.isN nm p = q := ⟨_, rfl⟩
          have hqe : (p.1.toList == nm.toList) = q := hq
          have HG := Lib.hid (show Lb.getV (a.drop j) nm = if q = true then p.2 else Lb.getV (a.drop (j + 1)) nm by rw [getV_drop hp, hq])
          obtain ⟨V, hV⟩ : ∃ V, Lb.getV (a.drop (j + 1)) nm = V := ⟨_, rfl⟩
          rw [hV] at HG ⊢
          have HJ := Lib.hid hj
          obtain ⟨p1, p2⟩ := p
          simp only at d0 d1 hqe
          clear hb hc2 hp hq hV e0 hj
          go_wp2_with fail
          go_quiet (fail)
          cases q with
          | false =>
            go_wp2_with fail
            go_roundw
            case rel => exact Lib.hid ⟨j, by have := HJ.out; omega, by go_num, by rw [HG.out]; rfl, by (repeat apply below_drewN); exact HBJ.out⟩
            case measure => simp [intOf] <;> omega
          | true =>
            go_wp2_with fail
            go_roundw
            case rel => exact Lib.hid ⟨j, by have := HJ.out; omega, by go_num, by rw [HG.out]; rfl, by (repeat apply below_drewN); exact HBJ.out⟩
            case measure => simp [intOf] <;> omega
    · obtain rfl : i = N := by have := HN.out; omega
      have hki : ¬ ((i : Nat) : Int) < (i : Int) := by omega
      have HF := Lib.hid (show z = true by
        have := HALL.out
        rw [List.take_of_length_le (by have := HN.out; omega)] at this
        rw [← HZ.out]
        exact this)
      clear hb hall
      go_wp2_with fail
      go_ret
      exact ⟨by rw [HF.out]; rfl, HB.out⟩
end Go.Proofs.YtnabfganecghkaaDoor

/-! The walk of the law MatchAsks. -/
namespace Go.Proofs.YtnabfganecghkaaDoor
open Go.RowKit Go.Sort
set_option linter.unusedVariables false

theorem nil_matchers (w : World) : Calls Tryd.prog 15 #[.pointer none] w fun y w' => y = .returned (.slice none 0 0) ∧ w' = w := by
  go_enter Tryd.func15, Tryd.ntmps15
  go_wp2_with fail
  go_ret
  exact ⟨rfl, rfl⟩
def NpR (w : World) (v3 v9 : Value) (wr : World) : Prop := v3 = .slice none 0 0 ∧ v9 = .int .i64 0 ∧ Below w.heap.size w wr
theorem jn_none (wr : World) : Calls Tryd.prog 24 #[.slice none 0 0, .string ⟨#[44]⟩] wr fun e w' => e = .returned (.string (Lb.tx [])) ∧ Below wr.heap.size wr w' := joinC_any none 0 0 [] wr rfl (Cl.nil _ _) (.inr rfl) (by simp [jn]) (by simp)
set_option maxHeartbeats 400000 in
set_option maxRecDepth 100000 in
theorem nil_print (w : World) : Calls Tryd.prog 12 #[.pointer none] w fun y w' => y = .returned (.string ⟨#[123, 125]⟩) ∧ Below w.heap.size w w' := by
  obtain ⟨J, hJ⟩ : ∃ J, Lb.tx [] = J := ⟨_, rfl⟩
  have HJ := Lib.hid (fun wr => jn_none wr)
  rw [hJ] at HJ
  obtain ⟨V1, hV1, hadd1⟩ := Lb.add_tx (s := ⟨#[123]⟩) (t := J) (X := [123]) (Y := []) rfl hJ.symm (by simp)
  obtain ⟨V2, hV2, hadd2⟩ := Lb.add_tx (s := V1) (t := ⟨#[125]⟩) (Y := [125]) hV1 rfl (by simp)
  have HV := Lib.hid (show V2 = ⟨#[123, 125]⟩ by rw [hV2]; rfl)
  clear hV1 hV2 hJ
  have R0 := Lib.hid (show NpR w (.slice none 0 0) (.int .i64 0) w from ⟨rfl, rfl, Below.refl _ _⟩)
  have HNM := Lib.hid (nil_matchers w)
  go_enter Tryd.func12, Tryd.ntmps12
  go_wp2_with fail
  refine HNM.out.mono ?_
  intro y w2 hy
  obtain ⟨hy1, hy2⟩ := hy
  rw [hy1, hy2]
  go_wp2_with fail
  go_loopw [3, 9] (fun v3 v9 wr => Hid (NpR w v3 v9 wr)) (fun _ v9 _ => 0 - (intOf v9).toNat)
  case atStart => exact R0
  case round =>
    obtain ⟨rfl, rfl, hb⟩ := hrel.out
    have HB := Lib.hid hb
    have HJ2 := Lib.hid (HJ.out wr)
    clear hrel R0 hb HJ
    go_wp2_with fail
    refine HJ2.out.mono ?_
    intro y w3 hy
    obtain ⟨hy1, hy2⟩ := hy
    have B3' := Lib.hid (HB.out.trans (hy2.mono HB.out.size))
    rw [hy1]
    clear hy1 hy2
    go_wp2_with fail
    go_ret
    exact ⟨by rw [HV.out]; rfl, B3'.out⟩
set_option maxHeartbeats 8000000 in
set_option maxRecDepth 100000 in
theorem asks_main (A B : Option Addr) (n m c d : Nat) (ms : List Mt) (a : List Lb.Lab) (w : World) (hn : n = ms.length) (hm : m = a.length) (h : Mq w A ms) (ha : Lb.Lw w B a) (hT : Tab w) (hM : ms.length ≤ 3518437208780) :
    Calls Tryd.prog 3 #[.slice A n c, .slice B m d] w fun e w' => e = .returned (.bool true) ∧ Below w.heap.size w w' := by
  subst hn hm
  have HM := Lib.hid h
  have HA := Lib.hid ha
  have HT := Lib.hid hT
  obtain ⟨N, hN⟩ : ∃ N, ms.length = N := ⟨_, rfl⟩
  obtain ⟨M, hMM⟩ : ∃ M, a.length = M := ⟨_, rfl⟩
  obtain ⟨E, hE⟩ : ∃ E, newE ms = E := ⟨_, rfl⟩
  have HN := Lib.hid hN
  have HMM := Lib.hid hMM
  have HE := Lib.hid hE
  have hNb : N ≤ 3518437208780 := by omega
  have HLI := Lib.hid (light_any A B N M c d ms a w hN.symm hMM.symm h ha)
  rw [hN, hMM]
  clear h ha hT hN hMM hM hE
  go_enter Tryd.func3, Tryd.ntmps3
  go_wp2_with fail
  refine HLI.out.mono ?_
  rintro y w2 ⟨q, rfl, hsm, hb2⟩
  have HSM := Lib.hid hsm
  have B2 := Lib.hid hb2
  clear hsm hb2 HLI
  cases q with
  | false =>
    go_wp2_with fail
    refine (awake_any _ (HT.out.below B2.out)).mono ?_
    rintro y w3 ⟨rfl, hb3⟩
    have B3' := Lib.hid (B2.out.trans (hb3.mono B2.out.size))
    clear hb3
    go_wp2_with fail
    go_ret
    exact ⟨rfl, B3'.out⟩
  | true =>
    have HS := Lib.hid (HSM.out (by simp))
    have HT1 := Lib.hid (to_any A N c ms w2 HN.out.symm (HM.out.below B2.out) (by omega))
    clear HSM
    go_wp2_with fail
    refine HT1.out.mono ?_
    rintro y w3 ⟨A3, c3, rfl, hm3, hb3⟩
    rw [HN.out]
    have B3' := Lib.hid (B2.out.trans (hb3.mono B2.out.size))
    have HNW := Lib.hid (new_any A3 N c3 ms w3 HN.out.symm (HT.out.below B3'.out) hm3)
    clear hm3 hb3 HT1
    go_wp2_with fail
    refine HNW.out.mono ?_
    rintro y w4 ⟨p, rfl, hp, hb4⟩
    have HPP := hp
    have B4 := Lib.hid (B3'.out.trans (hb4.mono B3'.out.size))
    have HCK := Lib.hid (rcheck_any A N c ms w4 HN.out.symm (HM.out.below B4.out))
    rw [HE.out] at HPP HCK ⊢
    clear hp hb4 HNW
    go_wp2_with fail
    refine HCK.out.mono ?_
    rintro y w5 ⟨rfl, hb5⟩
    have B5 := Lib.hid (B4.out.trans (hb5.mono B4.out.size))
    by_cases hE0 : E = 0
    case neg =>
      have hEb : (E != 0) = true := z_ne 0 hE0
      have hpn : p = .pointer none := by
        rcases HPP.out with ⟨h1, _⟩ | ⟨_, h2⟩
        · exact absurd h1 hE0
        · exact h2
      subst hpn
      clear hE0 HPP hb5
      go_wp2_with fail
      refine (awake_any _ (HT.out.below B5.out)).mono ?_
      rintro y w6 ⟨rfl, hb6⟩
      have B6 := Lib.hid (B5.out.trans (hb6.mono B5.out.size))
      clear hb6
      go_wp2_with fail
      go_ret
      exact ⟨rfl, B6.out⟩
    subst hE0
    obtain ⟨g, rfl, hsel⟩ : ∃ g, p = .pointer (some ⟨g, 0, none⟩) ∧ Sel w4 g ms := by
      rcases HPP.out with ⟨_, h2⟩ | ⟨h1, _⟩
      · exact h2
      · exact absurd rfl h1
    have hsel5 := hsel.below hb5
    have hop : ∀ m ∈ ms, (0 ≤ m.op ∧ m.op < 4) ∧ prepE m = 0 := by obtain ⟨_, _, _, _, _, _, _, h5, _⟩ := hsel; exact h5
    have hn16 : ms.length ≤ 16 := by obtain ⟨_, _, _, _, _, _, _, _, h6⟩ := hsel; exact h6
    have hpp : ∀ m ∈ ms, Lb.nameB m.nm = true ∧ m.vl.size ≤ 64 := fun m hm => prep_parts (hop m hm).1 (hop m hm).2
    have hprl : (prT ms).length ≤ 4000 - 2 := by have := prT_len hpp; omega
    have hwm : Wm ms := fun m hm => ⟨by have := name_len (hpp m hm).1; unfold Wt; omega, by have := (hpp m hm).2; unfold Wt; omega⟩
    have HWM := Lib.hid hwm
    have hN16 : N ≤ 16 := by have := HN.out; omega
    obtain ⟨am, ham⟩ : ∃ am, allM ms a = am := ⟨_, rfl⟩
    obtain ⟨PF, hPF⟩ : ∃ PF, Lb.tx (printF ms) = PF := ⟨_, rfl⟩
    have HMA := Lib.hid (fun (k : Nat) (W : World) (hW : Below w5.heap.size w5 W) (hs : Sel W k ms) => match_sel k ms B M d a W (HT.out.below (B5.out.trans (hW.mono B5.out.size))) hs HMM.out.symm (HA.out.below (B5.out.trans (hW.mono B5.out.size))) HS.out.lv)
    have HMR := Lib.hid (fun (W : World) (hW : Below w5.heap.size w5 W) => rmatch12_any A B N M c d ms a W HN.out.symm HMM.out.symm (HM.out.below (B5.out.trans (hW.mono B5.out.size))) (HA.out.below (B5.out.trans (hW.mono B5.out.size))) hop HS.out.2)
    have HPS := Lib.hid (fun (W : World) (hW : Below w5.heap.size w5 W) => sprint_any g ms W (HT.out.below (B5.out.trans (hW.mono B5.out.size))) (hsel5.below hW))
    have HPR := Lib.hid (fun (W : World) (hW : Below w5.heap.size w5 W) => rprint_any A N c ms W HN.out.symm (HM.out.below (B5.out.trans (hW.mono B5.out.size))) hn16 (fun m hm => (hop m hm).1) (fun m hm => by have := (hpp m hm).2; omega) (by omega))
    rw [ham] at HMA HMR
    rw [hPF] at HPS HPR
    have HSL := Lib.hid (fun (W : World) (hW : Below w5.heap.size w5 W) => hsel5.below hW)
    have HRB := Lib.hid (show PF.size ≤ 4000 ∧ readF PF.data.toList = some ms ∧ parE PF.data.toList = 0 from by
      have e : PF.data.toList = printF ms := by rw [← hPF, Lb.tx_data]
      have e2 : readF PF.data.toList = some ms := by rw [e]; exact readF_back (fun m hm => ⟨(hop m hm).1, (hpp m hm).1⟩)
      refine ⟨?_, e2, ?_⟩
      · rw [← hPF, Lb.tx_size]; unfold printF; simp; omega
      · unfold parE; rw [e2]; exact HE.out)
    clear hsel hsel5 hop hn16 hpp hprl hwm HPP hb5 ham hPF HCK
    go_wp2_with fail
    refine (HMA.out g w5 (Below.refl _ _) (HSL.out w5 (Below.refl _ _))).mono ?_
    rintro y w6 ⟨rfl, hb6⟩
    have C6 := Lib.hid hb6
    clear hb6
    go_wp2_with fail
    refine (HMR.out w6 C6.out).mono ?_
    rintro y w7 ⟨rfl, hb7⟩
    have C7 := Lib.hid (C6.out.trans (hb7.mono C6.out.size))
    clear hb7
    go_wp2_with fail
    refine (HPS.out w7 C7.out).mono ?_
    rintro y w8 ⟨rfl, hb8⟩
    have C8 := Lib.hid (C7.out.trans (hb8.mono C7.out.size))
    clear hb8
    go_wp2_with fail
    refine (HPR.out w8 C8.out).mono ?_
    rintro y w9 ⟨rfl, hb9⟩
    have C9 := Lib.hid (C8.out.trans (hb9.mono C8.out.size))
    clear hb9
    go_wp2_with fail
    refine (HPS.out w9 C9.out).mono ?_
    rintro y w10 ⟨rfl, hb10⟩
    have C10 := Lib.hid (C9.out.trans (hb10.mono C9.out.size))
    clear hb10
    have HPA := Lib.hid (mparse_any PF w10 (HT.out.below (B5.out.trans (C10.out.mono B5.out.size))) HRB.out.1)
    go_wp2_with fail
    refine HPA.out.mono ?_
    rintro y w11 ⟨p2, rfl, hp2, hb11⟩
    obtain ⟨g2, rfl, hs2⟩ : ∃ g2, p2 = .pointer (some ⟨g2, 0, none⟩) ∧ Sel w11 g2 ms := by
      rcases hp2.out with ⟨_, g2, ms2, h2, h3, h4⟩ | ⟨h1, _⟩
      · rw [HRB.out.2.1] at h2
        injection h2 with h2
        subst h2
        exact ⟨g2, h3, h4⟩
      · exact absurd HRB.out.2.2 h1
    rw [HRB.out.2.2]
    have C11 := Lib.hid (C10.out.trans (hb11.mono C10.out.size))
    have HS2 := Lib.hid hs2
    clear hb11 hs2 hp2 HPA
    go_wp2_with fail
    refine (HMA.out g2 w11 C11.out HS2.out).mono ?_
    rintro y w12 ⟨rfl, hb12⟩
    have C12 := Lib.hid (C11.out.trans (hb12.mono C11.out.size))
    have HS12 := Lib.hid (HS2.out.below hb12)
    clear hb12
    go_wp2_with fail
    refine (HMA.out g w12 C12.out (HSL.out w12 C12.out)).mono ?_
    rintro y w13 ⟨rfl, hb13⟩
    have C13 := Lib.hid (C12.out.trans (hb13.mono C12.out.size))
    have HMS := Lib.hid (matchers_any g2 ms w13 (HS12.out.below hb13) HWM.out)
    clear hb13
    go_wp2_with fail
    refine HMS.out.mono ?_
    rintro y w14 ⟨A9, c9, rfl, hq9, hb14⟩
    rw [HN.out]
    have C14 := Lib.hid (C13.out.trans (hb14.mono C13.out.size))
    have D14 := Lib.hid (B5.out.trans (C14.out.mono B5.out.size))
    have HQ9 := Lib.hid hq9
    have HM14 := Lib.hid (HM.out.below D14.out)
    clear hb14 hq9 HMS
    go_wp2_with fail
    have R0 := Lib.hid (show TvRel w14 N (.int .i64 ((0 : Nat) : Int)) w14 from ⟨0, rfl, by omega, Below.refl _ _⟩)
    go_loopw [90] (fun v90 wr => Hid (TvRel w14 N v90 wr)) (fun v90 _ => N - (intOf v90).toNat)
    case atStart => exact R0
    case round =>
      clear R0
      obtain ⟨i, rfl, hi, hb⟩ := hrel.out
      clear hrel
      have HB := Lib.hid hb
      by_cases hlt : i < N
      · have hki : (i : Int) < (N : Int) := by omega
        obtain ⟨x, hx⟩ : ∃ x, ms[i]? = some x := ⟨_, List.getElem?_eq_getElem (by rw [HN.out]; exact hlt)⟩
        obtain ⟨b1, o1, hA1, hc1⟩ := (HM14.out.below HB.out).some_ (by rw [HN.out]; omega)
        obtain ⟨b2, o2, hA2, hc2⟩ := (HQ9.out.below HB.out).some_ (by rw [HN.out]; omega)
        subst hA1 hA2
        obtain ⟨q0, q1, q2⟩ := hc1 i x hx
        obtain ⟨t0, t1, t2⟩ := hc2 i x hx
        obtain ⟨nm, op, vl⟩ := x
        have HLT := Lib.hid hlt
        clear hc1 hc2 hx hb hi hlt
        go_wp2_with fail
        go_quiet (fail)
        go_wp2_with fail
        go_roundw
        case rel => first | exact Lib.hid ⟨i + 1, by go_num, by have := HLT.out; omega, by (repeat apply below_drewN); exact HB.out⟩ | ((repeat apply Exists.intro); exact ⟨Lib.hid ⟨i + 1, by go_num, by have := HLT.out; omega, by (repeat apply below_drewN); exact HB.out⟩, rfl⟩)
        case measure => simp [intOf]; have := HLT.out; omega
      · obtain rfl : i = N := by omega
        have hki : ¬ ((i : Nat) : Int) < (i : Int) := by omega
        have D15 := Lib.hid (D14.out.trans (hb.mono D14.out.size))
        clear hb
        go_wp2_with fail
        refine (awake_any _ (HT.out.below D15.out)).mono ?_
        rintro y w16 ⟨rfl, hb16⟩
        have D16 := Lib.hid (D15.out.trans (hb16.mono D15.out.size))
        clear hb16
        go_wp2_with fail
        refine (nil_match B M d _).mono ?_
        rintro y w17 ⟨rfl, rfl⟩
        go_wp2_with fail
        refine (nil_matchers _).mono ?_
        rintro y w18 ⟨rfl, rfl⟩
        go_wp2_with fail
        refine (nil_print _).mono ?_
        rintro y w19 ⟨rfl, hb19⟩
        have D19 := Lib.hid (D16.out.trans (hb19.mono D16.out.size))
        clear hb19
        go_wp2_with fail
        go_ret
        exact ⟨rfl, D19.out⟩
end Go.Proofs.YtnabfganecghkaaDoor
