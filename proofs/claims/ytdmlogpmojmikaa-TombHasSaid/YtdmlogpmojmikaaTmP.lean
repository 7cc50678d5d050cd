/- Samples whose histograms have no buckets: Keep. -/
import Derived.Test.YtdmlogpmojmikaaTmL
namespace Go.Proofs.Ytdmlogpmojmikaa.Tm
open Go.RowKit Go.Sort
set_option linter.unusedVariables false

theorem setCell_id {w : World} {g i : Nat} {cs : Array Value} {t : TypeId} {fr : Nat × Nat} {v : Value} (h : w.heap[g]? = some (.cells cs t fr)) (hv : cs[i]? = some v) : w.setCell ⟨g, i, none⟩ v = w := by
  have e : (w.setCell ⟨g, i, none⟩ v).heap = w.heap := by
    apply Array.ext_getElem?
    intro k
    by_cases hk : k = g
    · subst hk
      rw [heap_set_at h, h]
      congr 2
      apply Array.ext_getElem?
      intro j
      rw [Array.getElem?_setIfInBounds]
      split
      · subst_vars
        split
        · exact hv.symm
        · rename_i h1
          rw [Array.getElem?_eq_none (by omega)]
      · rfl
    · exact Below.heap_setCell _ _ _ _ hk
  have e2 : w.setCell ⟨g, i, none⟩ v = { w with heap := (w.setCell ⟨g, i, none⟩ v).heap } := rfl
  rw [e2, e]
/-- a sample: its time and its sum, nothing else -/
abbrev Sm := Int × Int
def smA (p : Sm) : Array Value := #[.int .i64 p.1, .int .i64 0, .int .i64 0, .int .i64 0, .int .u64 0, .int .u64 0, .int .i64 p.2, .slice none 0 0, .slice none 0 0]
def smE (p : Sm) : List Value := (smA p).toList
def smC (l : List Sm) : List Value := l.flatMap smE
theorem smE_len (p : Sm) : (smE p).length = 9 := rfl
theorem smC_length (l : List Sm) : (smC l).length = l.length * 9 := by
  induction l with
  | nil => rfl
  | cons a r ih => simp [smC, smE, smA] at *; omega
theorem smC_append (l m : List Sm) : smC (l ++ m) = smC l ++ smC m := by simp [smC]
theorem smC_at : ∀ {l : List Sm} {k : Nat} {p : Sm} {j : Nat}, l[k]? = some p → j < 9 → (smC l)[k * 9 + j]? = (smE p)[j]?
  | [], k, p, j, h, _ => by simp at h
  | a :: r, 0, p, j, h, hj => by
    simp at h
    subst h
    have e : smC (a :: r) = smE a ++ smC r := rfl
    rw [e, Nat.zero_mul, Nat.zero_add, List.getElem?_append_left (by rw [smE_len]; exact hj)]
  | a :: r, k + 1, p, j, h, hj => by
    have e : smC (a :: r) = smE a ++ smC r := rfl
    rw [e, show (k + 1) * 9 + j = 9 + (k * 9 + j) by omega, List.getElem?_append_right (by rw [smE_len]; omega), smE_len, Nat.add_sub_cancel_left]
    exact smC_at (by simpa using h) hj
theorem smC_one (l : List Sm) : ∀ u ∈ smC l, u.oneCell' = true := by
  intro u hu
  obtain ⟨p, _, hp⟩ := List.mem_flatMap.1 hu
  simp [smE, smA] at hp
  rcases hp with rfl | rfl | rfl | rfl | rfl | rfl | rfl | rfl <;> rfl
theorem infoP : (Try.prog.info? 49).map (fun i => (i.zero, i.size, i.bytes)) = some (some (.agg #[.int .i64 0, .int .i64 0, .int .i64 0, .int .i64 0, .int .u64 0, .int .u64 0, .int .i64 0, .slice none 0 0, .slice none 0 0]), 9, 104) := by kernel_rfl
/-- what a slice of samples holds, one by one -/
theorem Cl.sms {w : World} {A : Option Addr} {l : List Sm} (h : Cl w A (smC l)) (h0 : 0 < l.length) : ∃ b off, A = some ⟨b, off, none⟩ ∧ ∀ (k : Nat) (p : Sm), l[k]? = some p → ∀ j, j < 9 → w.cell? ⟨b, off + k * 9 + j, none⟩ = (smE p)[j]? := by
  obtain ⟨b, off, e, hc⟩ := h.some_ (by rw [smC_length]; omega)
  refine ⟨b, off, e, fun k p hk j hj => ?_⟩
  have h1 := smC_at hk hj
  have h2 : (smE p)[j]? = some ((smE p)[j]'(by rw [smE_len]; exact hj)) := List.getElem?_eq_getElem _
  rw [h2] at h1 ⊢
  rw [Nat.add_assoc]
  exact hc _ _ h1
/-- append(s, p) at samples -/
theorem app_sm {ops : Array Oper} {rest : List Oper} {o : Oper} {a : Act} {W w : World} {Q : Exit → Act → World → Prop} (hgd : o.guard = none) (s x : Operand)
    (ho : o.op = .call { callee := .builtin .append, args := #[s, x], argTypes := #[42, 42] })
    (base : Nat) (A : Option Addr) (n c : Nat) (l : List Sm) (hs : a.eval s = .slice A n c) (hown : w.ownsRow base 49 9 (.slice A n c) n (smC l)) (hb : Below base W w) (hbase : base ≤ w.heap.size) (hl : n + 1 ≤ 1000000)
    (b : Nat) (hbz : w.heap.size = b) (hx : a.eval x = .slice (some ⟨b, 0, none⟩) 1 1) (p : Sm)
    (h : ∀ A' c' w', w'.ownsRow base 49 9 (.slice A' (n + 1) c') (n + 1) (smC (l ++ [p])) → Below base W w' → base ≤ w'.heap.size → wpList Try.prog ops Q rest (a.put o.dst (.slice A' (n + 1) c')) w') :
    wpList Try.prog ops Q (o :: rest) a (w.alloc (.cells (smA p) 49)) := by
  subst hbz
  obtain ⟨i0, hi, hz0, hz1, hz2⟩ := info_parts infoP
  refine wpList_append_own _ hgd s x 42 ho base 49 i0 _ 9 104 Try.underlying42 hi hz0 hz1 hz2 rfl (by decide) _ n (smC l) hs (own_below hown (grows _ _)) ⟨w.heap.size, 0, none⟩ 1 1 (smC [p]) hx (by rw [smC_length]; rfl) ?_ (smC_one _) (by unfold maxLen; omega) (by omega) (by simp; omega) ?_
  · intro j u hu
    have hj : j < 9 := by
      have := (List.getElem?_eq_some_iff.1 hu).1
      rw [smC_length] at this
      simpa using this
    rw [addr_at, Nat.zero_add, cell_of_row _ _ _ _ _ _ (heap_alloc_new w _)]
    have e : smC [p] = (smA p).toList := by simp [smC, smE]
    rw [e, Array.getElem?_toList] at hu
    exact hu
  · intro v' w' h1 h2 _
    obtain ⟨A', c', rfl⟩ := own_shape h1
    rw [← smC_append] at h1
    refine h A' c' w' h1 ((hb.alloc hbase _).grown h2 (by simp; omega) (fun k hk => (hown.lt k hk).1)) ?_
    have hz := h2.size
    simp at hz
    omega
theorem cloneK_nil (w : World) :
    Calls Try.prog 30 #[.slice none 0 0] w fun e w' => e = .returned (.slice none 0 0) ∧ w = w' := by
  have hnil := fun (w : World) => Lib.run_eql_slice_nil (P := Try.prog) w 45 66 none 0 0 0 0 Try.underlying45
  go_enter Try.func30, Try.ntmps30
  go_wp2_with fail
  go_ret
  exact ⟨rfl, rfl⟩
def SmP (w : World) (X : List Sm) (e : Ending) (w' : World) : Prop := ∃ A c, e = .returned (.slice A X.length c) ∧ (A = none → c = 0) ∧ Cl w' A (smC X) ∧ Below w.heap.size w w'
def SRel (w : World) (X : List Sm) (v : Value) (wr : World) : Prop := ∃ (A : Option Addr) (n c : Nat), v = .slice A n c ∧ wr.ownsRow w.heap.size 49 9 (.slice A n c) n (smC X) ∧ Below w.heap.size w wr
theorem own_lenS {w : World} {B n c : Nat} {e : TypeId} {A : Option Addr} {l : List Sm} (h : w.ownsRow B e 9 (.slice A n c) n (smC l)) : n = l.length := by
  have := h.1
  rw [smC_length] at this
  omega
/-- does a sample stay? -/
def out (X : List Rg) (p : Sm) : Bool := !hasB X p.1
set_option maxHeartbeats 4000000 in
set_option maxRecDepth 100000 in
theorem keep_any (v : Value) (X : List Rg) (A : Option Addr) (n c : Nat) (l : List Sm) (w : World) (hn : n = l.length) (h : St w v X) (hc : Can X) (hX : X.length ≤ 10000) (hA : Cl w A (smC l)) (hl : l.length ≤ 1000) :
    Calls Try.prog 18 #[v, .slice A n c] w (SmP w (l.filter (out X))) := by
  subst hn
  obtain ⟨D, d, rfl, h1, h2⟩ := h
  obtain ⟨N, hN⟩ : ∃ N, X.length = N := ⟨_, rfl⟩
  obtain ⟨W1, hW1⟩ : ∃ W1, w.alloc (.cells #[.slice D N d] 28) = W1 := ⟨_, rfl⟩
  obtain ⟨g2, hg2⟩ : ∃ g2, w.heap.size = g2 := ⟨_, rfl⟩
  have b1 : Below w.heap.size w W1 := hW1 ▸ grows w _
  have x2 : W1.heap[g2]? = some (.cells #[.slice D N d] 28 (0, 0)) := hg2 ▸ hW1 ▸ heap_alloc_new w _
  have HX2 := Lib.hid x2
  have B1 := Lib.hid b1
  have HL := Lib.hid (hA.below b1)
  have HS := Lib.hid (show St W1 (.agg #[.slice D N d]) X from ⟨D, d, by rw [hN], h1, h2.below b1⟩)
  have HC := Lib.hid (And.intro hc hX)
  have hli : (l.length : Int) ≤ 1000 := by omega
  rw [hN]
  clear h1 h2 hN hA b1 x2 hc hX
  go_enter Try.func18, Try.ntmps18
  go_wp2_with fail
  clear hW1
  go_loopw [5, 10] (fun v5 i wr => ∃ k : Nat, k ≤ l.length ∧ i = .int .i64 k ∧ Hid (SRel W1 ((l.take k).filter (out X)) v5 wr)) (fun _ i _ => l.length - (intOf i).toNat)
  case atStart => exact ⟨0, by omega, rfl, Lib.hid ⟨none, 0, 0, rfl, own_nil _ _ _ _, Below.refl _ _⟩⟩
  case round =>
    obtain ⟨k, hk, rfl, HR⟩ := hrel
    obtain ⟨B, m, e0, rfl, hown, hb⟩ := HR.out
    by_cases hlt : k < l.length
    · have hki : (k : Int) < (l.length : Int) := by omega
      obtain ⟨p, hp⟩ := getElem?_lt hlt
      obtain ⟨b, off, rfl, hcell⟩ := (HL.out.below hb).sms (by omega)
      have hcp := hcell k p hp
      have hm := own_lenS hown
      have hml : m ≤ k := by
        rw [hm]
        have h1 := List.length_filter_le (out X) (l.take k)
        rw [List.length_take] at h1
        omega
      have HT := Lib.hid (take_snoc l k p hp)
      obtain ⟨p1, p2⟩ := p
      have q0 : wr.cell? ⟨b, off + k * 9, none⟩ = some (.int .i64 p1) := hcp 0 (by omega)
      have q1 : wr.cell? ⟨b, off + k * 9 + 1, none⟩ = some (.int .i64 0) := hcp 1 (by omega)
      have q2 : wr.cell? ⟨b, off + k * 9 + 2, none⟩ = some (.int .i64 0) := hcp 2 (by omega)
      have q3 : wr.cell? ⟨b, off + k * 9 + 3, none⟩ = some (.int .i64 0) := hcp 3 (by omega)
      have q4 : wr.cell? ⟨b, off + k * 9 + 4, none⟩ = some (.int .u64 0) := hcp 4 (by omega)
      have q5 : wr.cell? ⟨b, off + k * 9 + 5, none⟩ = some (.int .u64 0) := hcp 5 (by omega)
      have q6 : wr.cell? ⟨b, off + k * 9 + 6, none⟩ = some (.int .i64 p2) := hcp 6 (by omega)
      have q7 : wr.cell? ⟨b, off + k * 9 + 7, none⟩ = some (.slice none 0 0) := hcp 7 (by omega)
      have q8 : wr.cell? ⟨b, off + k * 9 + 8, none⟩ = some (.slice none 0 0) := hcp 8 (by omega)
      obtain ⟨y0, _⟩ := box1 ((hb.block g2 (Array.getElem?_eq_some_iff.1 HX2.out).1).trans HX2.out)
      obtain ⟨W7, hW7⟩ : ∃ W7, wr.alloc (.cells #[.int .i64 p1, .int .i64 0, .int .i64 0, .int .i64 0, .int .u64 0, .int .u64 0, .int .i64 p2, .slice none 0 0, .slice none 0 0] 49 (0, 0)) = W7 := ⟨_, rfl⟩
      obtain ⟨g7, hg7⟩ : ∃ g7, wr.heap.size = g7 := ⟨_, rfl⟩
      have x7 : W7.heap[g7]? = some (.cells (smA (p1, p2)) 49 (0, 0)) := hg7 ▸ hW7 ▸ heap_alloc_new wr _
      have c7 : Below wr.heap.size wr W7 := hW7 ▸ grows wr _
      have HX7 := Lib.hid x7
      have B7 := Lib.hid (hb.trans (c7.mono hb.size))
      have HO7 := Lib.hid (own_below hown c7)
      obtain ⟨z, hz⟩ : ∃ z, hasB X p1 = z := ⟨_, rfl⟩
      have HZ := Lib.hid hz
      have HH := Lib.hid (has_any (.agg #[.slice D N d]) X p1 W7 (HS.out.below B7.out) HC.out.1 HC.out.2)
      rw [hz] at HH
      have u0 : W7.cell? ⟨g7, 0, none⟩ = some (.int .i64 p1) := by rw [cell_of_row _ _ _ _ _ _ x7]; rfl
      have u2 := cell_below y0 c7
      have u7 : W7.cell? ⟨g7, 7, none⟩ = some (.slice none 0 0) := by rw [cell_of_row _ _ _ _ _ _ x7]; rfl
      have u8 : W7.cell? ⟨g7, 8, none⟩ = some (.slice none 0 0) := by rw [cell_of_row _ _ _ _ _ _ x7]; rfl
      have uf7 : W7.frozen? ⟨g7, 7, none⟩ = false := by simp [World.frozen?, x7]
      have uf8 : W7.frozen? ⟨g7, 8, none⟩ = false := by simp [World.frozen?, x7]
      have ui7 : W7.setCell ⟨g7, 7, none⟩ (.slice none 0 0) = W7 := setCell_id x7 rfl
      have ui8 : W7.setCell ⟨g7, 8, none⟩ (.slice none 0 0) = W7 := setCell_id x7 rfl
      have hml2 : m + 1 ≤ 1000000 := by omega
      clear hcp hcell hp hown hb HR hz x7 c7 hm
      go_wp2_with fail
      clear hW7 q0 q1 q2 q3 q4 q5 q6 q7 q8 y0 u0 u2 u7 u8 uf7 uf8 ui7 ui8
      refine HH.out.mono ?_
      rintro e w8 ⟨rfl, hb8⟩
      have x8 := (hb8.block g7 (Array.getElem?_eq_some_iff.1 HX7.out).1).trans HX7.out
      have B8 := Lib.hid (B7.out.trans (hb8.mono B7.out.size))
      have HO8 := Lib.hid (own_below HO7.out hb8)
      cases z with
      | true =>
        have HF := Lib.hid (show (l.take k).filter (out X) = (l.take (k + 1)).filter (out X) by rw [HT.out, List.filter_append, List.filter_cons]; simp [out, HZ.out])
        have hown3 := HO8.out
        rw [HF.out] at hown3
        have HR3 := Lib.hid (show SRel W1 ((l.take (k + 1)).filter (out X)) (.slice B m e0) w8 from ⟨B, m, e0, rfl, hown3, B8.out⟩)
        clear hown3 hb8 x8
        go_wp2_with fail
        go_roundw
        case rel => exact ⟨k + 1, by omega, by go_num, HR3⟩
        case measure => simp [intOf]; omega
      | false =>
        have HF := Lib.hid (show (l.take k).filter (out X) ++ [(p1, p2)] = (l.take (k + 1)).filter (out X) by rw [HT.out, List.filter_append, List.filter_cons]; simp [out, HZ.out])
        have cc : ∀ j, w8.cell? ⟨g7, j, none⟩ = (smA (p1, p2))[j]? := fun j => cell_of_row _ _ _ _ _ _ x8
        have f7 : w8.frozen? ⟨g7, 7, none⟩ = false := by simp [World.frozen?, x8]
        have f8 : w8.frozen? ⟨g7, 8, none⟩ = false := by simp [World.frozen?, x8]
        have i7 : w8.setCell ⟨g7, 7, none⟩ (.slice none 0 0) = w8 := setCell_id x8 rfl
        have i8 : w8.setCell ⟨g7, 8, none⟩ (.slice none 0 0) = w8 := setCell_id x8 rfl
        have c0 : w8.cell? ⟨g7, 0, none⟩ = some (.int .i64 p1) := cc 0
        have c1 : w8.cell? ⟨g7, 1, none⟩ = some (.int .i64 0) := cc 1
        have c2 : w8.cell? ⟨g7, 2, none⟩ = some (.int .i64 0) := cc 2
        have c3 : w8.cell? ⟨g7, 3, none⟩ = some (.int .i64 0) := cc 3
        have c4 : w8.cell? ⟨g7, 4, none⟩ = some (.int .u64 0) := cc 4
        have c5 : w8.cell? ⟨g7, 5, none⟩ = some (.int .u64 0) := cc 5
        have c6 : w8.cell? ⟨g7, 6, none⟩ = some (.int .i64 p2) := cc 6
        have c7 : w8.cell? ⟨g7, 7, none⟩ = some (.slice none 0 0) := cc 7
        have c8 : w8.cell? ⟨g7, 8, none⟩ = some (.slice none 0 0) := cc 8
        have HCK := Lib.hid (cloneK_nil w8)
        clear cc hb8 x8
        go_wp2_with fail
        refine HCK.out.mono ?_
        rintro e w9 ⟨rfl, rfl⟩
        go_wp2_with fail
        refine HCK.out.mono ?_
        rintro e w9 ⟨rfl, rfl⟩
        go_wp2_with (at_builtin; refine app_sm (W := W1) rfl _ _ rfl W1.heap.size B m e0 ((l.take k).filter (out X)) rfl HO8.out B8.out B8.out.size hml2 w8.heap.size rfl rfl (p1, p2) ?_; intro A2 c2 w3 hown3 hb3 hw3; rw [HF.out] at hown3; have HR3 := Lib.hid (show SRel W1 ((l.take (k + 1)).filter (out X)) (.slice A2 (m + 1) c2) w3 from ⟨A2, m + 1, c2, rfl, hown3, hb3⟩); clear hown3 hb3 hw3)
        go_roundw
        case rel => exact ⟨k + 1, by omega, by go_num, HR3⟩
        case measure => simp [intOf]; omega
    · obtain rfl : k = l.length := by omega
      have hki : ¬ ((l.length : Int) < (l.length : Int)) := by omega
      have HP := Lib.hid (show SmP w (l.filter (out X)) (.returned (.slice B m e0)) wr from by
        rw [List.take_length] at hown
        exact ⟨B, e0, by rw [own_lenS hown], own_none hown, own_cl hown, B1.out.trans (hb.mono B1.out.size)⟩)
      clear hown hb HR
      go_wp2_with fail
      go_ret
      exact HP.out
end Go.Proofs.Ytdmlogpmojmikaa.Tm
