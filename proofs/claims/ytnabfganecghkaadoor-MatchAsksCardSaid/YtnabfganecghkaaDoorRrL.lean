/- The document's Ends, kind by kind. -/
import Derived.Test.YtnabfganecghkaaDoorRrK
import Derived.Laws.MakeOwn
namespace Go.Proofs.YtnabfganecghkaaDoor
open Go.RowKit
set_option linter.unusedVariables false

/-- the first n bools of a block -/
def Pb (w : World) (b n : Nat) (F : Nat → Bool) : Prop := ∀ i, i < n → w.cell? ⟨b, i, none⟩ = some (.bool (F i))
theorem Pb.below {w w' : World} {b n : Nat} {F : Nat → Bool} (h : Pb w b n F) (k : Below w.heap.size w w') : Pb w' b n F := fun i hi => (k.cell (block_lt_of_cell (h i hi))).trans (h i hi)
theorem Pb.congr {w : World} {b n : Nat} {F G : Nat → Bool} (h : Pb w b n F) (e : ∀ i, i < n → F i = G i) : Pb w b n G := fun i hi => by rw [h i hi, e i hi]
theorem infoB : (Tryd.prog.info? 4).map (fun i => (i.zero, i.size, i.bytes)) = some (some (.bool false), 1, 1) := by kernel_rfl
def boA (n : Nat) : Array Value := (List.replicate n (.bool false)).toArray
theorem make_bools (n : Nat) (hn : n ≤ 1000000) (w : World) : (Instr.makeSlice 57 (.int .i64 (n : Int)) (.int .i64 (n : Int))).run Tryd.prog w = .ok (.slice (some ⟨w.heap.size, 0, none⟩) n n) (w.alloc (.cells (boA n) 4)) := by
  obtain ⟨i0, hi, hz0, hz1, hz2⟩ := info_parts infoB
  have hr := run_make (P := Tryd.prog) w 57 4 i0 (.bool false) Tryd.underlying57 hi hz0 .i64 .i64 n n (by omega) (Int.le_refl _) (by rw [hz2]; omega) (by omega)
  simp only [Int.toNat_natCast, hz1, Nat.mul_one] at hr
  have e : madeCells (Value.bool false).cells n = boA n := by
    have hz : (Value.bool false).cells = #[.bool false] := rfl
    rw [hz]
    apply Array.toList_inj.1
    rw [toList_madeCells_one]
    simp [boA]
  rw [hr, e]
theorem new_bools (w : World) (n : Nat) : Pb (w.alloc (.cells (boA n) 4)) w.heap.size n (fun _ => false) ∧ ∀ i, (w.alloc (.cells (boA n) 4)).frozen? ⟨w.heap.size, i, none⟩ = false := by
  have hb : (w.alloc (.cells (boA n) 4)).heap[w.heap.size]? = some (.cells (boA n) 4 (0, 0)) := heap_alloc_new w _
  refine ⟨fun i hi => ?_, fun i => ?_⟩
  · rw [cell_of_row _ _ _ _ _ _ hb]
    simp [boA, hi]
  · generalize w.alloc (.cells (boA n) 4) = W at *
    simp [World.frozen?, hb]
/-- append(x, y) at []bool -/
theorem app_bool {ops : Array Oper} {rest : List Oper} {o : Oper} {a : Act} {w : World} {Q : Exit → Act → World → Prop} (hgd : o.guard = none) (s x : Operand)
    (ho : o.op = .call { callee := .builtin .append, args := #[s, x], argTypes := #[57, 57] })
    (base : Nat) (A : Option Addr) (n c : Nat) (l : List Value) (hs : a.eval s = .slice A n c) (hown : w.ownsRow base 4 1 (.slice A n c) n l)
    (g : Nat) (hx : a.eval x = .slice (some ⟨g, 0, none⟩) 1 1) (y : Bool) (hy : w.cell? ⟨g, 0, none⟩ = some (.bool y)) (hl : n + 1 ≤ 1000000) (hbase : base ≤ w.heap.size)
    (h : ∀ A' c' w', w'.ownsRow base 4 1 (.slice A' (n + 1) c') (n + 1) (l ++ [.bool y]) → w.grownBy w' (Value.slice A n c).ownBlock → wpList Tryd.prog ops Q rest (a.put o.dst (.slice A' (n + 1) c')) w') : wpList Tryd.prog ops Q (o :: rest) a w := by
  obtain ⟨i0, hi, hz0, hz1, hz2⟩ := info_parts infoB
  refine wpList_append_own w hgd s x 57 ho base 4 i0 (.bool false) 1 1 Tryd.underlying57 hi hz0 hz1 hz2 rfl (by decide) _ n l hs hown ⟨g, 0, none⟩ 1 1 [.bool y] hx rfl ?_ (by simp [Value.oneCell']) (by unfold maxLen; omega) (by omega) hbase ?_
  · intro j u hu
    have hj : j < 1 := (List.getElem?_eq_some_iff.1 hu).1
    obtain rfl : j = 0 := by omega
    rw [addr_at]
    simp at hu
    subst hu
    exact hy
  · intro v' w' h1 h2 _
    obtain ⟨A', c', rfl⟩ := own_shape h1
    exact h A' c' w' h1 h2
def orL (F G : Nat → Bool) (n : Nat) : List Value := (List.range n).map fun i => .bool (F i || G i)
theorem orL_succ (F G : Nat → Bool) (n : Nat) : orL F G (n + 1) = orL F G n ++ [.bool (F n || G n)] := by simp [orL, List.range_succ]
def OrRel (F G : Nat → Bool) (n : Nat) (w : World) (v5 v6 : Value) (wr : World) : Prop :=
  ∃ (i c : Nat) (A : Option Addr), v5 = .slice A i c ∧ v6 = .int .i64 (i : Int) ∧ i ≤ n ∧ wr.ownsRow w.heap.size 4 1 (.slice A i c) i (orL F G i) ∧ Below w.heap.size w wr
/-- new bools -/
def BoP (n : Nat) (G : Nat → Bool) (w : World) (y : Ending) (w' : World) : Prop := ∃ b c, y = .returned (.slice (some ⟨b, 0, none⟩) n c) ∧ Pb w' b n G ∧ Below w.heap.size w w'
set_option maxHeartbeats 2000000 in
theorem or_any (n a1 c1 a2 c2 : Nat) (F G : Nat → Bool) (w : World) (h1 : Pb w a1 n F) (h2 : Pb w a2 n G) (hn : 0 < n) (hn2 : n ≤ 2000) :
    Calls Tryd.prog 46 #[.slice (some ⟨a1, 0, none⟩) n c1, .slice (some ⟨a2, 0, none⟩) n c2] w (BoP n (fun i => F i || G i) w) := by
  have H1 := Lib.hid h1
  have H2 := Lib.hid h2
  have HN := Lib.hid hn
  clear h1 h2
  go_enter Tryd.func46, Tryd.ntmps46
  go_wp2_with fail
  go_loopw [5, 6] (fun v5 v6 wr => Hid (OrRel F G n w v5 v6 wr)) (fun _ v6 _ => n - (intOf v6).toNat)
  case atStart => exact Lib.hid ⟨0, 0, none, rfl, rfl, by omega, World.ownsRow_nil _ _ _ _, Below.refl _ _⟩
  case round =>
    obtain ⟨i, c, A, rfl, rfl, hi, hown, hb⟩ := hrel.out
    clear hrel
    have HOWN := Lib.hid hown
    have HB := Lib.hid hb
    by_cases hlt : i < n
    · have hki : (i : Int) < (n : Int) := by omega
      have k1 := H1.out.below hb i hlt
      have k2 := H2.out.below hb i hlt
      have hi2 : i ≤ 2000 := by omega
      obtain ⟨x, hx⟩ : ∃ x, F i = x := ⟨_, rfl⟩
      obtain ⟨y, hy⟩ : ∃ y, G i = y := ⟨_, rfl⟩
      rw [hx] at k1
      rw [hy] at k2
      obtain ⟨z, hz⟩ : ∃ z, (x || y) = z := ⟨_, rfl⟩
      have HS := Lib.hid (show orL F G (i + 1) = orL F G i ++ [.bool z] by rw [orL_succ, hx, hy, hz])
      have HI := Lib.hid hi2
      have HLT := Lib.hid hlt
      clear hown hb hx hy
      cases x
      all_goals
        have hz' := hz
        simp only [Bool.false_or, Bool.true_or] at hz'
        obtain ⟨g, hg⟩ : ∃ g, wr.heap.size = g := ⟨_, rfl⟩
        obtain ⟨W, hW⟩ : ∃ W, wr.alloc (.cells #[.bool z] 4 (0, 0)) = W := ⟨_, rfl⟩
        have hA : Below wr.heap.size wr W := hW ▸ (Below.refl _ _).alloc (Nat.le_refl _) _
        have HC := Lib.hid (show W.cell? ⟨g, 0, none⟩ = some (.bool z) from by
          have hb : W.heap[g]? = some (.cells #[.bool z] 4 (0, 0)) := by rw [← hW, ← hg]; exact heap_alloc_new wr _
          rw [cell_of_row _ _ _ _ _ _ hb]; rfl)
        have HO2 := Lib.hid (own_below HOWN.out hA)
        have HB2 := Lib.hid (HB.out.trans (hA.mono HB.out.size))
        subst hz'
        clear hA hz
        go_wp2_with (at_builtin; refine app_bool rfl _ _ rfl w.heap.size A i c (orL F G i) rfl HO2.out g rfl _ HC.out (by have := HI.out; omega) HB2.out.size ?_; intro A3 c3 w3 ho3 hg3; have HO3 := Lib.hid ho3; have HB3 := Lib.hid (HB2.out.grown hg3 HB2.out.size (fun k hk => (HO2.out.lt k hk).1)); clear ho3 hg3)
        go_roundw
        case rel => exact Lib.hid ⟨i + 1, c3, A3, rfl, by go_num, by have := HLT.out; omega, by rw [HS.out]; exact HO3.out, HB3.out⟩
        case measure => simp [intOf]; have := HLT.out; omega
    · obtain rfl : i = n := by omega
      have hki : ¬ ((i : Nat) : Int) < (i : Int) := by omega
      have hL : (orL F G i).length = i * 1 := hown.1
      obtain ⟨g, cap, hv, _, _⟩ := hown.form hn
      injection hv with e1 e2 e3
      subst e1
      clear hown hb
      go_wp2_with fail
      go_ret
      refine ⟨g, _, rfl, fun j hj => ?_, HB.out⟩
      rw [HOWN.out.cellAt j (by omega)]
      unfold orL
      rw [List.getElem?_map, List.getElem?_range hj]
      rfl
/-- what Ends pays, at a node -/
def EnP (nd : Nd) (s : Bs) (F : Nat → Bool) (w : World) (y : Ending) (w' : World) : Prop :=
  ∃ b c G, y = .returned (.slice (some ⟨b, 0, none⟩) (s.length + 1) c) ∧ Pb w' b (s.length + 1) G ∧ EndsOk (Ln nd).1 s F G ∧ Below w.heap.size w w'
def EnQ (nd : Nd) : Prop := ∀ (w : World) (U : Nat → Prop) (V : Value) (s : ByteArray) (L : Bs) (F : Nat → Bool) (b c : Nat), NdV w U nd V → s = tx L → L.length ≤ 1000 → Pb w b (L.length + 1) F →
  Calls Tryd.prog 34 #[V, .string s, .slice (some ⟨b, 0, none⟩) (L.length + 1) c] w (EnP nd L F w)
/-- where a part of bytes may end, so far -/
def byG (F X : Nat → Bool) (L : Bs) (i : Nat) : Nat → Bool := fun j => decide (1 ≤ j) && decide (j ≤ i) && (F (j - 1) && X ((L[j - 1]?.getD 0).toNat))
theorem byG_zero (F X : Nat → Bool) (L : Bs) : ∀ j, byG F X L 0 j = false := by
  intro j
  unfold byG
  cases j <;> simp
theorem byG_set (F X : Nat → Bool) (L : Bs) (i : Nat) (hi : i < L.length) : byG F X L (i + 1) (i + 1) = (F i && X (L[i]).toNat) := by
  unfold byG
  simp [List.getElem?_eq_getElem hi]
theorem byG_same (F X : Nat → Bool) (L : Bs) (i j : Nat) (hj : j ≠ i + 1) : byG F X L (i + 1) j = byG F X L i j := by
  unfold byG
  congr 2
  exact decide_eq_decide.2 (by omega)
theorem byG_end (F X : Nat → Bool) (L : Bs) : EndsOk (fun w => ∃ c, w = [c] ∧ X c.toNat = true) L F (byG F X L L.length) := by
  refine ends_byte (byG_zero F X L 0 ▸ by unfold byG; simp) fun i hi => ?_
  unfold byG
  simp [List.getElem?_eq_getElem hi]
  intro _ h
  omega
theorem pb_put {w : World} {g n K : Nat} {P Q : Nat → Bool} {v : Bool} (h : Pb w g n P) (hK : K < n) (hs : ∀ j, j < n → j ≠ K → Q j = P j) (hv : Q K = v) : Pb (w.setCell ⟨g, K, none⟩ (.bool v)).drew g n Q := by
  intro j hj
  show (w.setCell ⟨g, K, none⟩ (.bool v)).cell? ⟨g, j, none⟩ = _
  by_cases hjk : j = K
  · subst hjk
    have hc := h j hj
    rw [hv]
    simp [go_sem, hc]
  · have hne : (⟨g, K, none⟩ : Addr) ≠ ⟨g, j, none⟩ := fun e => hjk (by injection e with _ e2 _; exact e2.symm)
    rw [World.cell?_setCell_other _ _ _ _ hne, hs j hj hjk]
    exact h j hj
theorem Nb.drew {w : World} {h : Nat} {kd : ByteArray} {hs ks : Value} (b : Nb w h kd hs ks) : Nb w.drew h kd hs ks := ⟨b.hw, b.blk⟩
/-- the result, its node's box -/
def EbRel (w : World) (F X : Nat → Bool) (L : Bs) (bx bb h g : Nat) (v8 : Value) (wr : World) : Prop :=
  ∃ i : Nat, v8 = .int .i64 (i : Int) ∧ i ≤ L.length ∧ Pb wr g (L.length + 1) (byG F X L i) ∧ (∀ j, wr.frozen? ⟨g, j, none⟩ = false) ∧ Nb wr h byteB (.slice (some ⟨bx, 0, none⟩) 256 256) nvo ∧ Below w.heap.size w wr
set_option maxHeartbeats 4000000 in
set_option maxRecDepth 100000 in
theorem ends_bytes (X : Nat → Bool) : EnQ (.byte X) := by
  intro w U V s L F b c hV hs hL hF
  obtain ⟨bx, rfl, hU, hX⟩ := hV
  obtain ⟨S, hS⟩ : ∃ S, L.length = S := ⟨_, rfl⟩
  have hsz : s.size = S := by rw [hs, tx_size, hS]
  obtain ⟨h, hh⟩ : ∃ h, w.heap.size = h := ⟨_, rfl⟩
  obtain ⟨W1, hW1⟩ : ∃ W1, w.alloc (.cells #[.string byteB, .slice (some ⟨bx, 0, none⟩) 256 256, .slice none 0 0] 60 (0, 0)) = W1 := ⟨_, rfl⟩
  obtain ⟨W2, hW2⟩ : ∃ W2, W1.alloc (.cells (boA (S + 1)) 4) = W2 := ⟨_, rfl⟩
  have s1 : W1.heap.size = h + 1 := by rw [← hW1, ← hh]; simp
  have B1 : Below w.heap.size w W1 := hW1 ▸ (Below.refl _ _).alloc (Nat.le_refl _) _
  have B2 : Below W1.heap.size W1 W2 := hW2 ▸ (Below.refl _ _).alloc (Nat.le_refl _) _
  have n1 : Nb W1 h byteB (.slice (some ⟨bx, 0, none⟩) 256 256) nvo := hh ▸ hW1 ▸ Nb.new w _ _ _
  have N2 := Lib.hid (n1.below B2)
  have BB := Lib.hid (B1.trans (B2.mono B1.size))
  have P2 := new_bools W1 (S + 1)
  rw [hW2, s1] at P2
  have R0 := Lib.hid (show EbRel w F X L bx b h (h + 1) (.int .i64 ((0 : Nat) : Int)) W2 from ⟨0, rfl, by omega, (show Pb W2 (h + 1) (L.length + 1) (fun _ => false) from hS.symm ▸ P2.1).congr (fun i _ => (byG_zero F X L i).symm), P2.2, N2.out, BB.out⟩)
  have hmk : ∀ W : World, (Instr.makeSlice 57 (.int .i64 ((S : Int) + 1)) (.int .i64 ((S : Int) + 1))).run Tryd.prog W = .ok (.slice (some ⟨W.heap.size, 0, none⟩) (S + 1) (S + 1)) (W.alloc (.cells (boA (S + 1)) 4)) := fun W => make_bools (S + 1) (by omega) W
  have hS2 : S ≤ 1000 := by omega
  have HF := Lib.hid hF
  have HX := Lib.hid hX
  have HSS := Lib.hid hS
  have HST := Lib.hid hs
  have HHH := Lib.hid (show w.heap.size ≤ h by omega)
  rw [hS]
  obtain ⟨⟨z0, z1, z2⟩, zf0, zf1, zf2⟩ := N2.out.cells
  have hbx : byteB = ⟨#[98, 121, 116, 101]⟩ := rfl
  rw [hbx] at hW1 z0 ⊢
  clear B1 B2 n1 P2 hF hX hS hL hs hbx
  go_enter Tryd.func34, Tryd.ntmps34
  go_wp2_with fail
  clear hW1 hW2 hmk s1 hh z0 z1 z2 zf0 zf1 zf2
  go_loopw [8] (fun v8 wr => Hid (EbRel w F X L bx b h (h + 1) v8 wr)) (fun v8 _ => S - (intOf v8).toNat)
  case atStart => exact R0
  case round =>
    clear R0
    obtain ⟨i, rfl, hi, hp, hfz, hn, hb⟩ := hrel.out
    clear hrel
    have HP := Lib.hid hp
    have HFZ := Lib.hid hfz
    have HNB := Lib.hid hn
    have HB := Lib.hid hb
    have HI := Lib.hid (show i ≤ S by rw [← HSS.out]; exact hi)
    obtain ⟨⟨z0, z1, z2⟩, zf0, zf1, zf2⟩ := hn.cells
    by_cases hlt : i < S
    · have hki : (i : Int) < (S : Int) := by omega
      have hiL : i < L.length := by rw [HSS.out]; exact hlt
      have his : i < s.size := by rw [hsz]; exact hlt
      have hby : s[i].toNat = L[i].toNat := by
        have e := HST.out
        subst e
        rfl
      obtain ⟨bb, hbb⟩ : ∃ bb, L[i].toNat = bb := ⟨_, rfl⟩
      have hb256 : bb < 256 := by rw [← hbb]; exact L[i].toNat_lt
      obtain ⟨K, hK⟩ : ∃ K, i + 1 = K := ⟨_, rfl⟩
      have hwk : IntKind.i64.wrap ((i : Int) + 1) = (K : Int) := by
        rw [← hK]
        exact (IntWalk.i64_in _ (by omega)).trans (by omega)
      have hk1 : (K : Int) < (S : Int) + 1 := by omega
      have hk2 : ¬ (S : Int) + 1 ≤ (K : Int) := by omega
      have hK0 : K < S + 1 := by omega
      have hi2 : (i : Int) < (S : Int) + 1 := by omega
      have f1 := HF.out.below hb i (by omega)
      have x1 := (hb.cell (block_lt_of_cell (HX.out bb hb256))).trans (HX.out bb hb256)
      have o1 := hp K (by omega)
      have o2 := hfz K
      have HV := Lib.hid (show byG F X L K K = (F i && X bb) by rw [← hK, byG_set F X L i hiL, hbb])
      have HKK := Lib.hid hK
      have HLT := Lib.hid hlt
      rw [hbb] at hby
      obtain ⟨fi, hfi⟩ : ∃ fi, F i = fi := ⟨_, rfl⟩
      obtain ⟨xi, hxi⟩ : ∃ xi, X bb = xi := ⟨_, rfl⟩
      rw [hfi] at f1 HV
      rw [hxi] at x1 HV
      clear hfi hxi hbb hK hp hfz hn hb hiL hlt
      cases fi
      all_goals
        go_wp2_with fail
        go_region
        all_goals
          clear hwk hk1 hk2
          go_wp2_with fail
          go_roundw
          case rel => exact Lib.hid ⟨i + 1, by go_num, by have := HLT.out; have := HSS.out; omega, pb_put HP.out (by have := HKK.out; have := HLT.out; have := HSS.out; omega) (fun j hj hjk => by rw [byG_same F X L i j (by have := HKK.out; omega)]) (by rw [HKK.out, HV.out]; rfl), fun j => (by simp [go_sem]; exact HFZ.out j), (HNB.out.other (a := ⟨h + 1, K, none⟩) (by show h ≠ h + 1; omega) _).drew, (HB.out.setCell (p := ⟨h + 1, K, none⟩) (by have := HHH.out; show w.heap.size ≤ h + 1; omega) _).drew⟩
          case measure => simp [intOf]; have := HLT.out; omega
    · obtain rfl : i = S := by have := HI.out; omega
      have hki : ¬ ((i : Nat) : Int) < (i : Int) := by omega
      clear hp hfz hn hb
      go_wp2_with fail
      go_ret
      refine ⟨h + 1, i + 1, byG F X L i, by rw [HSS.out]; rfl, HP.out, ?_, HB.out⟩
      rw [← HSS.out]
      exact byG_end F X L
end Go.Proofs.YtnabfganecghkaaDoor
