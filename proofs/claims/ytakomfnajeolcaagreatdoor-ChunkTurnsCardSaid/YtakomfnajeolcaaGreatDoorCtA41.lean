import Derived.Test.YtakomfnajeolcaaGreatDoorCtA40
set_option linter.unusedVariables false
/- A reader, while blocks of a set G stay as they are. -/
namespace Go.Proofs.YtakomfnajeolcaaGreatDoor.Ch
open Go.RowKit Go.Sort
set_option linter.unusedVariables false

/-- the reader at block q stands at s; blocks of G are none of its own -/
structure RG (G : Nat → Prop) (W0 : World) (q : Nat) (a : Option Addr) (l c : Nat) (bs : List Nat) (s : Nat × Int) (w : World) : Prop where
  rd : Tk.Rd w q a l c bs s
  bel : Below W0.heap.size W0 w
  g : ∀ g, G g → g ≠ q ∧ g < w.heap.size ∧ ∀ x, a = some x → 0 < l → x.block ≠ g
section
variable {G : Nat → Prop} {W0 : World} {q : Nat} {a : Option Addr} {l c : Nat} {bs : List Nat} {s s' : Nat × Int} {w w' : World}
theorem RG.lt (h : RG G W0 q a l c bs s w) {g : Nat} (hg : G g) : g < w.heap.size := (h.g g hg).2.1
theorem rd_src (h : Tk.Rd w q a l c bs s) : 0 < l → ∀ r o, a = some ⟨r, o, none⟩ → r < w.heap.size := fun h0 r o e => by
  obtain ⟨r', o', e', hr, hc⟩ := h.lies h0
  have hl : 0 < bs.length := by rw [← h.len]; exact h0
  have := block_lt_of_cell (hc 0 _ (List.getElem?_eq_getElem hl))
  rw [e'] at e
  simp at e
  rw [← e.1]
  exact this
theorem RG.less {H : Nat → Prop} (h : RG G W0 q a l c bs s w) (k : ∀ g, H g → G g) : RG H W0 q a l c bs s w := ⟨h.rd, h.bel, fun g hg => h.g g (k g hg)⟩
theorem RG.more (h : RG G W0 q a l c bs s w) (hb : Below w.heap.size w w') : RG (NewG G w w') W0 q a l c bs s w' := by
  have hs := rd_src h.rd
  refine ⟨h.rd.elsewhere hs h.rd.qw hb, h.bel.trans (hb.mono h.bel.size), fun g hg => ?_⟩
  rcases hg with hg | hg
  · exact ⟨(h.g g hg).1, Nat.lt_of_lt_of_le (h.g g hg).2.1 hb.size, (h.g g hg).2.2⟩
  · refine ⟨by have := h.rd.qw; omega, hg.2, fun x hx h0 e => ?_⟩
    obtain ⟨r', o', e', hr, hc⟩ := h.rd.lies h0
    have := hs h0 r' o' e'
    rw [hx] at e'
    injection e' with e'
    rw [e'] at e
    simp at e
    omega
theorem RG.below (h : RG G W0 q a l c bs s w) (hb : Below w.heap.size w w') : RG G W0 q a l c bs s w' := (h.more hb).less fun g hg => .inl hg
/-- a step of it -/
theorem RG.step (h : RG G W0 q a l c bs s w) (hq : W0.heap.size ≤ q) (r : Tk.Rd w' q a l c bs s') (st : Tk.Step q none w w') : RG G W0 q a l c bs s' w' ∧ KpG G w w' := by
  refine ⟨⟨r, ⟨st.os.trans h.bel.os, st.tape.trans h.bel.tape, st.output.trans h.bel.output, Nat.le_trans h.bel.size st.size, fun k hk => ?_⟩, fun g hg => ⟨(h.g g hg).1, Nat.lt_of_lt_of_le (h.g g hg).2.1 st.size, (h.g g hg).2.2⟩⟩, st.size, fun g hg => st.block g (h.g g hg).2.1 (h.g g hg).1 (by simp)⟩
  rw [st.block k (Nat.lt_of_lt_of_le hk h.bel.size) (by omega) (by simp)]
  exact h.bel.block k hk
/-- a row of G grows -/
theorem RG.grown {r : Option Nat} (h : RG G W0 q a l c bs s w) (hg : w.grownBy w' r) (hr : ∀ k, r = some k → G k ∧ W0.heap.size ≤ k) : RG (NewG G w w') W0 q a l c bs s w' := by
  have hs := rd_src h.rd
  have hsz : w.heap.size ≤ w'.heap.size := hg.size
  have hq : w'.heap[q]? = w.heap[q]? := hg.block q h.rd.qw (fun e => (h.g _ (hr _ e.symm).1).1 rfl)
  have hc : ∀ j, w'.cell? ⟨q, j, none⟩ = w.cell? ⟨q, j, none⟩ := fun j => World.cell?_of_block hq
  have hf : ∀ j, w'.frozen? ⟨q, j, none⟩ = w.frozen? ⟨q, j, none⟩ := fun j => by unfold World.frozen?; rw [hq]
  have hd := h.rd
  refine ⟨⟨Nat.lt_of_lt_of_le hd.qw hsz, (hc _).trans hd.c0, (hc _).trans hd.c1, (hc _).trans hd.c2, (hf _).trans hd.f1, (hf _).trans hd.f2, hd.len, hd.byte, fun h0 => ?_, hd.tl, hd.lb⟩, h.bel.grown hg h.bel.size (fun k hk => (hr k hk).2), fun g hgg => ?_⟩
  · obtain ⟨r', o', e', hne, hcc⟩ := hd.lies h0
    refine ⟨r', o', e', hne, fun j b hj => ?_⟩
    have hx : w'.heap[r']? = w.heap[r']? := hg.block r' (hs h0 r' o' e') (fun e => (h.g _ (hr _ e.symm).1).2.2 _ e' h0 rfl)
    exact (World.cell?_of_block (a := ⟨r', o' + j, none⟩) hx).trans (hcc j b hj)
  · rcases hgg with hgg | hgg
    · exact ⟨(h.g g hgg).1, Nat.lt_of_lt_of_le (h.g g hgg).2.1 hsz, (h.g g hgg).2.2⟩
    · refine ⟨by have := hd.qw; omega, hgg.2, fun x hx h0 e => ?_⟩
      obtain ⟨r', o', e', hne, hcc⟩ := hd.lies h0
      have := hs h0 r' o' e'
      rw [hx] at e'
      injection e' with e'
      rw [e'] at e
      simp at e
      omega
end
/-- what a call of the reader leaves -/
def RPost (G : Nat → Prop) (W0 : World) (q : Nat) (a : Option Addr) (l c : Nat) (bs : List Nat) (v : Value) (s : Nat × Int) (w : World) (e : Ending) (w' : World) : Prop := e = .returned v ∧ RG G W0 q a l c bs s w' ∧ KpG G w w'
section
variable {G : Nat → Prop} {W0 : World} {q : Nat} {a : Option Addr} {l c : Nat} {bs : List Nat} {s : Nat × Int} {w : World}
theorem RG.tab (h : RG G W0 q a l c bs s w) (hT : Tk.Tab W0) : Tk.Tab w := Tl.tab_below hT h.bel
theorem rpost_of {v : Value} {s' : Nat × Int} (h : RG G W0 q a l c bs s w) (hq : W0.heap.size ≤ q) {e : Ending} {w' : World} (k : Tk.TakePost q a l c bs v s' w e w') : RPost G W0 q a l c bs v s' w e w' := by
  obtain ⟨rfl, r1, r2⟩ := k
  exact ⟨rfl, h.step hq r1 r2⟩
theorem q_ne (hq : W0.heap.size ≤ q) (hT : Tk.Tab W0) : q ≠ 0 := by have := Tl.tab_pos hT; omega
theorem rcount_g (h : RG G W0 q a l c bs s w) (hq : W0.heap.size ≤ q) (hT : Tk.Tab W0) :
    Calls Tryz.prog 97 #[.pointer (some ⟨q, 0, none⟩)] w (RPost G W0 q a l c bs (.int .u64 (((Tk.countF bs s).1 : Nat) : Int)) (Tk.countF bs s).2 w) :=
  (Tk.count_any q l c a bs s w h.rd (h.tab hT) (q_ne hq hT)).mono fun e w' k => rpost_of h hq k
theorem rint_g (h : RG G W0 q a l c bs s w) (hq : W0.heap.size ≤ q) (hT : Tk.Tab W0) :
    Calls Tryz.prog 94 #[.pointer (some ⟨q, 0, none⟩)] w (RPost G W0 q a l c bs (.int .i64 (intF bs s).1) (intF bs s).2 w) :=
  (Tk.int_any q l c a bs s w h.rd (h.tab hT) (q_ne hq hT)).mono fun e w' k => rpost_of h hq k
theorem rsmall_g (m : Nat) (mi : Int) (hm : mi = (m : Int)) (hm9 : m ≤ 1099511627776) (h : RG G W0 q a l c bs s w) (hq : W0.heap.size ≤ q) (hT : Tk.Tab W0) :
    Calls Tryz.prog 64 #[.pointer (some ⟨q, 0, none⟩), .int .i64 mi] w (RPost G W0 q a l c bs (.int .i64 (((Tk.smallF bs m s).1 : Nat) : Int)) (Tk.smallF bs m s).2 w) := by
  subst hm
  exact (Tk.small_any m q l c a bs s w h.rd (h.tab hT) (q_ne hq hT) hm9).mono fun e w' k => rpost_of h hq k
theorem rget_g (k : Nat) (ki : Int) (hk : ki = (k : Int)) (hk9 : k ≤ 64) (h : RG G W0 q a l c bs s w) (hq : W0.heap.size ≤ q) :
    Calls Tryz.prog 93 #[.pointer (some ⟨q, 0, none⟩), .int .i64 ki] w (RPost G W0 q a l c bs (.int .u64 (((Tk.getF bs k s).1 : Nat) : Int)) (Tk.getF bs k s).2 w) := by
  subst hk
  exact (Tk.get_any q l c k a bs s w h.rd hk9).mono fun e w' k => rpost_of h hq k
theorem rbit_g (h : RG G W0 q a l c bs s w) (hq : W0.heap.size ≤ q) :
    Calls Tryz.prog 92 #[.pointer (some ⟨q, 0, none⟩)] w (RPost G W0 q a l c bs (.bool (Tk.bitF bs s)) (Tk.getF bs 1 s).2 w) :=
  (Tk.bit_any q l c a bs s w h.rd).mono fun e w' k => rpost_of h hq k
/-- a layout is taken -/
def RLay (G : Nat → Prop) (W0 : World) (q : Nat) (a : Option Addr) (l c : Nat) (bs : List Nat) (r : (Int × List (Int × Int)) × (Nat × Int)) (w : World) (e : Ending) (w' : World) : Prop :=
  ∃ A d, e = .returned (.agg #[.int .i64 r.1.1, .slice A r.1.2.length d]) ∧ Tk.Cl w' A (Tk.twoC .i64 r.1.2) ∧ (∀ x, A = some x → w.heap.size ≤ x.block) ∧ RG G W0 q a l c bs r.2 w' ∧ KpG G w w' ∧ Tk.Step q none w w'
theorem rtakes_g (h : RG G W0 q a l c bs s w) (hq : W0.heap.size ≤ q) (hT : Tk.Tab W0) :
    Calls Tryz.prog 95 #[.pointer (some ⟨q, 0, none⟩), .int .i64 512] w (RLay G W0 q a l c bs (takeS (fun f L => Tk.rightF f L 512) bs 511 s) w) := by
  refine (Tk.takes_any 511 512 rfl (by decide) q l c a bs s w h.rd (h.tab hT) (q_ne hq hT)).mono ?_
  rintro e w' ⟨f, A, d, L, s', e1, rfl, hc, st, rd, hn⟩
  rw [e1]
  exact ⟨A, d, rfl, hc, hn, (h.step hq rd st).1, (h.step hq rd st).2, st⟩
end
end Go.Proofs.YtakomfnajeolcaaGreatDoor.Ch


/- takeTime and takeRow: a time and a row of numbers are taken. -/
namespace Go.Proofs.YtakomfnajeolcaaGreatDoor.Ch
open Go.RowKit Go.Sort Go.Proofs.YtakomfnajeolcaaGreatDoor.En
set_option linter.unusedVariables false

theorem timeF_few {bs : List Nat} {R : List Int} {s : Nat × Int} (h : R.length ≤ 1) : timeF bs R s = ((nextT R + ((Tk.smallF bs 1099511627776 s).1 : Int), true), (Tk.smallF bs 1099511627776 s).2) := by
  match R, h with
  | [], _ => rfl
  | [a], _ => rfl
theorem timeF_more {bs : List Nat} {R : List Int} {s : Nat × Int} (h : 2 ≤ R.length) : timeF bs R s = if (intF bs s).1 < -(nextT R) ∨ (intF bs s).1 > 1099511627776 - nextT R then ((0, false), (intF bs s).2) else ((nextT R + (intF bs s).1, true), (intF bs s).2) := by
  match R, h with
  | a :: b :: R, _ => rfl
theorem intF_bd (bs : List Nat) (s : Nat × Int) : -9223372036854775808 ≤ (intF bs s).1 ∧ (intF bs s).1 ≤ 9223372036854775807 := by
  have := Tk.countF_u64 bs s
  unfold intF
  exact Tk.zag_bd (by omega) (by omega)
/-- a time is taken -/
def TimeP (G : Nat → Prop) (W0 : World) (q : Nat) (a : Option Addr) (l c : Nat) (bs : List Nat) (r : (Int × Bool) × (Nat × Int)) (w : World) (e : Ending) (w' : World) : Prop := e = .returned (.tuple #[.int .i64 r.1.1, .bool r.1.2]) ∧ RG G W0 q a l c bs r.2 w' ∧ KpG G w w'
set_option maxHeartbeats 1000000 in
set_option maxRecDepth 100000 in
theorem taketime_g (D : Option Addr) (n cp : Nat) (L : List SV) (G : Nat → Prop) (W0 : World) (q : Nat) (a : Option Addr) (l c : Nat) (bs : List Nat) (s : Nat × Int) (w : World) (h : RG G W0 q a l c bs s w) (hq : W0.heap.size ≤ q) (hT : Tk.Tab W0) (hn : n = L.length) (hn9 : n ≤ 1000) (hS : Sm w D L)
    (ht : ∀ s ∈ L, 0 ≤ s.t ∧ s.t ≤ 5000000000000) :
    Calls Tryz.prog 65 #[.pointer (some ⟨q, 0, none⟩), .slice D n cp] w (TimeP G W0 q a l c bs (timeF bs (L.map (·.t)).reverse s) w) := by
  have HN := Lib.hid (nexttime_any D n cp L w hn hn9 hS (fun s hs => by have := ht s hs; omega))
  obtain ⟨b0, b1⟩ := nextT_bd (L.map (·.t)).reverse (fun x hx => by
    simp only [List.mem_reverse, List.mem_map] at hx
    obtain ⟨s, hs, rfl⟩ := hx
    exact ht s hs)
  have hlen : (L.map (·.t)).reverse.length = n := by simp [hn]
  obtain ⟨R, hR⟩ : ∃ R, (L.map (·.t)).reverse = R := ⟨_, rfl⟩
  rw [hR] at HN b0 b1 hlen ⊢
  obtain ⟨N, hN⟩ : ∃ N, nextT R = N := ⟨_, rfl⟩
  rw [hN] at HN b0 b1
  have HG := Lib.hid h
  have HR := Lib.hid (And.intro hlen hN)
  clear h hS ht hn hR hN hlen
  by_cases h1 : n ≤ 1
  · have HE := Lib.hid (show timeF bs R s = ((N + ((Tk.smallF bs 1099511627776 s).1 : Int), true), (Tk.smallF bs 1099511627776 s).2) by rw [timeF_few (by rw [HR.out.1]; omega), HR.out.2])
    have hsl := Tk.smallF_le bs 1099511627776 s
    obtain ⟨V, S', hv⟩ : ∃ v s', Tk.smallF bs 1099511627776 s = (v, s') := ⟨_, _, rfl⟩
    rw [hv] at HE hsl
    simp only at HE hsl
    have HV := Lib.hid hv
    have h0 : ((n : Int) == 0) = true ∨ ((n : Int) == 0) = false ∧ ((n : Int) == 1) = true := by
      rcases (show n = 0 ∨ n = 1 by omega) with h | h
      · left; simp; omega
      · right; constructor <;> simp <;> omega
    rw [HE.out]
    clear hv
    rcases h0 with h0 | ⟨h0, h2⟩
    all_goals
      go_enter Tryz.func65, Tryz.ntmps65
      go_wp2_with fail
      refine HN.out.mono ?_
      rintro e w1 ⟨rfl, hb⟩
      have HB := Lib.hid hb
      clear hb
      go_wp2_with fail
      refine (rsmall_g 1099511627776 1099511627776 rfl (by decide) (HG.out.below HB.out) hq hT).mono ?_
      rw [HV.out]
      rintro e w2 ⟨rfl, r1, r2⟩
      have R1 := Lib.hid (And.intro r1 r2)
      clear r1 r2
      go_wp2_with fail
      exact bodyPost_ret (v := .tuple #[.int .i64 (N + (V : Int)), .bool true]) (by simp [results, Tryz.results65, go_sem]) rfl ⟨rfl, R1.out.1, (KpG.of_below (fun g hg => HG.out.lt hg) HB.out).trans R1.out.2⟩
  · have h0 : ((n : Int) == 0) = false := by simp; omega
    have h2 : ((n : Int) == 1) = false := by simp; omega
    have hbd := intF_bd bs s
    have HE := Lib.hid (show timeF bs R s = if (intF bs s).1 < -N ∨ (intF bs s).1 > 1099511627776 - N then ((0, false), (intF bs s).2) else ((N + (intF bs s).1, true), (intF bs s).2) by rw [timeF_more (by rw [HR.out.1]; omega), HR.out.2])
    obtain ⟨V, S', hv⟩ : ∃ v s', intF bs s = (v, s') := ⟨_, _, rfl⟩
    rw [hv] at HE hbd
    simp only at HE hbd
    have HV := Lib.hid hv
    obtain ⟨v0, v1⟩ := hbd
    clear hv
    by_cases c1 : V < -N
    · rw [HE.out, if_pos (Or.inl c1)]
      go_enter Tryz.func65, Tryz.ntmps65
      go_wp2_with fail
      refine HN.out.mono ?_
      rintro e w1 ⟨rfl, hb⟩
      have HB := Lib.hid hb
      clear hb
      go_wp2_with fail
      refine (rint_g (HG.out.below HB.out) hq hT).mono ?_
      rw [HV.out]
      rintro e w2 ⟨rfl, r1, r2⟩
      have R1 := Lib.hid (And.intro r1 r2)
      clear r1 r2
      go_wp2_with fail
      exact bodyPost_ret (v := .tuple #[.int .i64 (0), .bool false]) (by simp [results, Tryz.results65, go_sem]) rfl ⟨rfl, R1.out.1, (KpG.of_below (fun g hg => HG.out.lt hg) HB.out).trans R1.out.2⟩
    · by_cases c2 : 1099511627776 - N < V
      · rw [HE.out, if_pos (Or.inr c2)]
        go_enter Tryz.func65, Tryz.ntmps65
        go_wp2_with fail
        refine HN.out.mono ?_
        rintro e w1 ⟨rfl, hb⟩
        have HB := Lib.hid hb
        clear hb
        go_wp2_with fail
        refine (rint_g (HG.out.below HB.out) hq hT).mono ?_
        rw [HV.out]
        rintro e w2 ⟨rfl, r1, r2⟩
        have R1 := Lib.hid (And.intro r1 r2)
        clear r1 r2
        go_wp2_with fail
        exact bodyPost_ret (v := .tuple #[.int .i64 (0), .bool false]) (by simp [results, Tryz.results65, go_sem]) rfl ⟨rfl, R1.out.1, (KpG.of_below (fun g hg => HG.out.lt hg) HB.out).trans R1.out.2⟩
      · rw [HE.out, if_neg (by omega)]
        have hs1 : -9223372036854775808 ≤ N + V := by omega
        have hs2 : N + V ≤ 9223372036854775807 := by omega
        go_enter Tryz.func65, Tryz.ntmps65
        go_wp2_with fail
        refine HN.out.mono ?_
        rintro e w1 ⟨rfl, hb⟩
        have HB := Lib.hid hb
        clear hb
        go_wp2_with fail
        refine (rint_g (HG.out.below HB.out) hq hT).mono ?_
        rw [HV.out]
        rintro e w2 ⟨rfl, r1, r2⟩
        have R1 := Lib.hid (And.intro r1 r2)
        clear r1 r2
        go_wp2_with fail
        exact bodyPost_ret (v := .tuple #[.int .i64 (N + V), .bool true]) (by simp [results, Tryz.results65, go_sem]) rfl ⟨rfl, R1.out.1, (KpG.of_below (fun g hg => HG.out.lt hg) HB.out).trans R1.out.2⟩
/-! a row -/
theorem rowF_snoc {bs : List Nat} {F : Bool} : ∀ {N : List Int} {k : Nat} {a : Int} {s : Nat × Int}, N[k]? = some a → rowF bs F (N.take (k + 1)) s = ((rowF bs F (N.take k) s).1 ++ [(numF bs F a (rowF bs F (N.take k) s).2).1], (numF bs F a (rowF bs F (N.take k) s).2).2)
  | [], k, a, s, h => by simp at h
  | n :: N, 0, a, s, h => by simp at h; subst h; simp [rowF]
  | n :: N, k + 1, a, s, h => by
    have ih := rowF_snoc (bs := bs) (F := F) (N := N) (k := k) (a := a) (s := (numF bs F n s).2) (by simpa using h)
    rw [List.take_succ_cons, List.take_succ_cons]
    simp only [rowF]
    rw [ih]
    simp
theorem numF_bd (bs : List Nat) (F : Bool) (n : Int) (s : Nat × Int) : 0 ≤ (numF bs F n s).1 ∧ (numF bs F n s).1 ≤ 18446744073709551615 := by
  unfold numF
  split <;> exact um_bd _
theorem rowF_r (bs : List Nat) (F : Bool) : ∀ (N : List Int) (s : Nat × Int), ∀ x ∈ (rowF bs F N s).1, 0 ≤ x ∧ x ≤ 18446744073709551615
  | [], s, x, hx => by simp [rowF] at hx
  | n :: N, s, x, hx => by
    simp only [rowF] at hx
    rcases List.mem_cons.1 hx with rfl | hx
    · exact numF_bd bs F n s
    · exact rowF_r bs F N _ x hx
/-- the numbers taken so far, and noughts -/
def mixR (bs : List Nat) (F : Bool) (N Z : List Int) (s : Nat × Int) (k : Nat) : List Int := (rowF bs F (N.take k) s).1 ++ Z.drop k
theorem mixR_zero (bs : List Nat) (F : Bool) (N Z : List Int) (s : Nat × Int) : mixR bs F N Z s 0 = Z := by simp [mixR, rowF]
theorem mixR_all {bs : List Nat} {F : Bool} {N Z : List Int} {s : Nat × Int} (h : N.length = Z.length) : mixR bs F N Z s Z.length = (rowF bs F N s).1 := by
  unfold mixR
  rw [List.take_of_length_le (by omega), List.drop_length, List.append_nil]
theorem mixR_length {bs : List Nat} {F : Bool} {N Z : List Int} {s : Nat × Int} {k : Nat} (h : N.length = Z.length) : (mixR bs F N Z s k).length = Z.length := by
  unfold mixR
  rw [List.length_append, rowF_length, List.length_take, List.length_drop]
  omega
theorem mixR_set {bs : List Nat} {F : Bool} {N Z : List Int} {s : Nat × Int} {k : Nat} {a : Int} (h : N.length = Z.length) (ha : N[k]? = some a) : (mixR bs F N Z s k).set k (numF bs F a (rowF bs F (N.take k) s).2).1 = mixR bs F N Z s (k + 1) := by
  have hk : k < N.length := (List.getElem?_eq_some_iff.1 ha).1
  unfold mixR
  rw [rowF_snoc ha]
  have hl : (rowF bs F (N.take k) s).1.length = k := by rw [rowF_length, List.length_take]; omega
  rw [List.set_append_right _ _ (by omega), hl, Nat.sub_self, List.drop_eq_getElem_cons (by omega : k < Z.length), List.set_cons_zero, List.append_assoc]
  rfl
end Go.Proofs.YtakomfnajeolcaaGreatDoor.Ch


/- takeRow: a row of numbers is taken. -/
namespace Go.Proofs.YtakomfnajeolcaaGreatDoor.Ch
open Go.RowKit Go.Sort Go.Proofs.YtakomfnajeolcaaGreatDoor.En
set_option linter.unusedVariables false

theorem grown_set (w : World) (p : Addr) (v : Value) : w.grownBy (w.setCell p v) (some p.block) := by
  have hb := (Below.refl w.heap.size w)
  refine ⟨rfl, rfl, rfl, by simp [World.setCell], fun k hk hne => ?_⟩
  simp only [World.setCell, Array.getElem?_modify]
  rw [if_neg (fun e => hne (by rw [e]))]
section
variable {G : Nat → Prop} {W0 : World} {q : Nat} {a : Option Addr} {l c : Nat} {bs : List Nat} {s s' : Nat × Int} {w w' : World}
theorem RG.new (h : RG G W0 q a l c bs s w) (h' : RG G W0 q a l c bs s' w') (hs : w.heap.size ≤ w'.heap.size) : RG (NewG G w w') W0 q a l c bs s' w' := by
  have hsr := rd_src h.rd
  refine ⟨h'.rd, h'.bel, fun g hg => ?_⟩
  rcases hg with hg | hg
  · exact h'.g g hg
  · refine ⟨by have := h.rd.qw; omega, hg.2, fun x hx h0 e => ?_⟩
    obtain ⟨r', o', e', hne, hcc⟩ := h.rd.lies h0
    have := hsr h0 r' o' e'
    rw [hx] at e'
    injection e' with e'
    rw [e'] at e
    simp at e
    omega
theorem RG.set (h : RG G W0 q a l c bs s w) (p : Addr) (v : Value) (hp : G p.block) (h0 : W0.heap.size ≤ p.block) : RG G W0 q a l c bs s (w.setCell p v) :=
  (h.grown (grown_set w p v) (fun k hk => by injection hk with hk; subst hk; exact ⟨hp, h0⟩)).less fun g hg => .inl hg
end
theorem intsC_set (k : IntKind) : ∀ (l : List Int) (i : Nat) (x : Int), (Tk.intsC k l).set i (.int k x) = Tk.intsC k (l.set i x)
  | [], i, x => by simp [Tk.intsC]
  | y :: r, 0, x => by simp [Tk.intsC]
  | y :: r, i + 1, x => by
    have := intsC_set k r i x
    simp only [Tk.intsC, List.map_cons, List.set_cons_succ] at this ⊢
    rw [this]
def zeroHV : HV := ⟨0, 0, 0, 0, 0, 0, [], []⟩
def RowPo (G : Nat → Prop) (W0 : World) (q : Nat) (a : Option Addr) (l c : Nat) (bs : List Nat) (r : List Int × (Nat × Int)) (w : World) (e : Ending) (w' : World) : Prop :=
  ∃ A d, e = .returned (rowV A r.1 d) ∧ OwnU (NewG G w w') w.heap.size w' A d r.1 ∧ RG (NewG G w w') W0 q a l c bs r.2 w' ∧ KpG G w w'
/-- what the loop keeps: the row lies at gr -/
def TrRel (G G1 : Nat → Prop) (W0 : World) (q : Nat) (a : Option Addr) (l c : Nat) (bs : List Nat) (F : Bool) (N Z : List Int) (s : Nat × Int) (gr cr : Nat) (w : World) (i : Value) (wr : World) : Prop :=
  ∃ k : Nat, k ≤ Z.length ∧ i = .int .i64 (k : Int) ∧ RG G1 W0 q a l c bs (rowF bs F (N.take k) s).2 wr ∧ KpG G w wr ∧ wr.ownsRow w.heap.size 36 1 (.slice (some ⟨gr, 0, none⟩) Z.length cr) Z.length (Tk.intsC .u64 (mixR bs F N Z s k))
set_option maxHeartbeats 2000000 in
set_option maxRecDepth 100000 in
theorem takerow_g (D : Option Addr) (n cp : Nat) (Q : List (List Int)) (m : Nat) (xs ys : List Int) (f1 : Int) (A1 : Option Addr) (n1 c1 : Nat) (f2 : Int) (B1 : Option Addr) (n2 d1 : Nat) (G : Nat → Prop) (W0 : World) (q : Nat) (a : Option Addr) (l c : Nat) (bs : List Nat) (s : Nat × Int) (w : World) (h : RG G W0 q a l c bs s w) (hq : W0.heap.size ≤ q) (hT : Tk.Tab W0)
    (hn : n = Q.length) (hn9 : n ≤ 1000) (hQ : RwG G w D Q) (hQr : ∀ r ∈ Q, RowR m r) (hm : m = nNum xs ys) (hx : Iw xs) (hy : Iw ys) (hv : LyV w xs ys (.agg #[.int .i64 f1, .slice A1 n1 c1, .int .i64 f2, .slice B1 n2 d1])) :
    Calls Tryz.prog 66 #[.pointer (some ⟨q, 0, none⟩), .slice D n cp, .agg #[.int .i64 f1, .slice A1 n1 c1, .int .i64 f2, .slice B1 n2 d1]] w (RowPo G W0 q a l c bs (rowF bs Q.reverse.isEmpty (nextR m Q.reverse) s) w) := by
  have hm9 : m ≤ 2002 := by rw [hm]; unfold nNum; have := hx.len; have := hy.len; omega
  have hm2 : 2 ≤ m := by rw [hm]; unfold nNum; omega
  obtain ⟨F, hF⟩ : ∃ F, Q.reverse.isEmpty = F := ⟨_, rfl⟩
  have hFn : F = decide (n = 0) := by rw [← hF, List.isEmpty_reverse, hn]; cases Q <;> simp
  have hnl : (nextR m Q.reverse).length = m := nextR_length _ (fun r hr => (hQr r (by simpa using hr)).1)
  have HNX := Lib.hid (fun (w1 : World) (k : KpG G w w1) (i : Nat) (z : Int) (hz : (nextR m Q.reverse)[i]? = some z) => nextnum_any D n cp Q m i z w1 hn hn9 (hQ.kept k).rw hQr (by omega) hz)
  obtain ⟨N, hN⟩ : ∃ N, nextR m Q.reverse = N := ⟨_, rfl⟩
  rw [hN] at hnl HNX ⊢
  rw [hF]
  obtain ⟨Z, hZ⟩ : ∃ Z, numsL xs ys zeroHV = Z := ⟨_, rfl⟩
  have hZl : Z.length = m := by rw [← hZ, numsL_length, hm]
  obtain ⟨w1, hw1⟩ : ∃ W, w.alloc (.cells #[.int .i64 f1, .slice A1 n1 c1, .int .i64 f2, .slice B1 n2 d1] 54) = W := ⟨_, rfl⟩
  have hb1 : Below w.heap.size w w1 := by rw [← hw1]; exact (Below.refl _ _).alloc (Nat.le_refl _) _
  have hbx : w1.heap[w.heap.size]? = some (.cells #[.int .i64 f1, .slice A1 n1 c1, .int .i64 f2, .slice B1 n2 d1] 54 (0, 0)) := by rw [← hw1]; exact heap_alloc_new w _
  have HNU := Lib.hid (numbers_any zeroHV none none 0 0 xs ys f1 A1 n1 c1 f2 B1 n2 d1 w1 (Bk.nil _ _) (Bk.nil _ _) ⟨by decide, by decide⟩ ⟨by decide, by decide⟩ hx hy (by unfold inI64 zeroHV; decide) (hv.below hb1))
  rw [hZ] at HNU
  have HG := Lib.hid h
  have HB1 := Lib.hid hb1
  have HNL := Lib.hid (show N.length = Z.length by omega)
  have HZL := Lib.hid hZl
  have HW1 := Lib.hid hw1
  have p0 := bx hbx 0 _ rfl
  have p1 := bx hbx 1 _ rfl
  have p2 := bx hbx 2 _ rfl
  have p3 := bx hbx 3 _ rfl
  rw [← hw1] at p0 p1 p2 p3
  have hZ9 : Z.length ≤ 2002 := by omega
  have hZ2 : 2 ≤ Z.length := by omega
  clear hZl
  unfold hvA zeroHV at HNU
  simp only [List.length_nil] at HNU
  clear h hQ hQr hn hm hx hy hv hF hN hZ hb1 hbx hw1 hnl
  go_enter Tryz.func66, Tryz.ntmps66
  go_wp2_with fail
  rw [HW1.out]
  refine HNU.out.mono ?_
  rintro e w2 ⟨AR, cr, rfl, hor, hb2⟩
  have hZp : 0 < Z.length := by omega
  obtain ⟨gr, cr', hgr, hgr2, _⟩ := hor.form hZp
  injection hgr with e1 e2 e3
  subst e1 e3
  have hgb : w1.heap.size ≤ gr ∧ gr < w2.heap.size := hor.lt gr rfl
  obtain ⟨G1, hG1⟩ : ∃ G1, NewG G w w2 = G1 := ⟨_, rfl⟩
  have hb02 : Below w.heap.size w w2 := HB1.out.trans (hb2.mono HB1.out.size)
  have hGr : G1 gr := by rw [← hG1]; exact .inr ⟨Nat.le_trans HB1.out.size hgb.1, hgb.2⟩
  have HGR := Lib.hid hGr
  have HG1 := Lib.hid (show RG G1 W0 q a l c bs s w2 from by rw [← hG1]; exact HG.out.more hb02)
  have HL1 := Lib.hid (fun y (hy : G y) => show G1 y from by rw [← hG1]; exact .inl hy)
  have HNG := Lib.hid (fun y (hy : G y) => show y ≠ gr from by have := HG.out.lt hy; have := HB1.out.size; omega)
  have HG1N := Lib.hid (fun (W : World) (hW : w2.heap.size ≤ W.heap.size) y (hy : G1 y) => show NewG G w W y from by
    rw [← hG1] at hy
    rcases hy with hy | hy
    · exact .inl hy
    · exact .inr ⟨hy.1, by omega⟩)
  have HK2 := Lib.hid (KpG.of_below (fun y hy => HG.out.lt hy) hb02)
  have hs0 : W0.heap.size ≤ w1.heap.size := Nat.le_trans HG.out.bel.size HB1.out.size
  have HO := Lib.hid (show w2.ownsRow w.heap.size 36 1 (.slice (some ⟨gr, 0, none⟩) Z.length cr) Z.length (Tk.intsC .u64 (mixR bs F N Z s 0)) from by rw [mixR_zero]; exact Bw.ownsRow_base hor HB1.out.size)
  have hgW : W0.heap.size ≤ gr := by omega
  clear hor hb2 hgr2 p0 p1 p2 p3 hgb hG1 hb02 hGr hs0
  go_wp2_with fail
  go_loopw [15] (fun i wr => TrRel G G1 W0 q a l c bs F N Z s gr cr w i wr ∧ w2.heap.size ≤ wr.heap.size) (fun i _ => Z.length - (intOf i).toNat)
  case atStart => exact ⟨⟨0, by omega, rfl, HG1.out, HK2.out, HO.out⟩, Nat.le_refl _⟩
  case round =>
    obtain ⟨⟨k, hk, rfl, hrg, hkp, hown⟩, hsz⟩ := hrel
    have HR := Lib.hid hrg
    have HK := Lib.hid hkp
    have HOW := Lib.hid hown
    clear hrg hkp hown
    by_cases hlt : k < Z.length
    · obtain ⟨z, hz⟩ := getElem?_lt (l := N) (k := k) (by rw [HNL.out]; exact hlt)
      have HZ := Lib.hid hz
      have HST := Lib.hid (rowF_snoc (bs := bs) (F := F) (s := s) hz)
      have HMS := Lib.hid (mixR_set (bs := bs) (F := F) (s := s) HNL.out hz)
      obtain ⟨S1, hS1⟩ : ∃ S1, (rowF bs F (N.take k) s).2 = S1 := ⟨_, rfl⟩
      rw [hS1] at HR HST HMS
      have hki : (k : Int) < (Z.length : Int) := by omega
      clear hz hS1
      by_cases h0 : n = 0
      · have h0' : ((n : Int) == 0) = true := by simp; exact h0
        have HZN := Lib.hid h0
        clear h0
        go_wp2_with fail
        refine (rcount_g HR.out hq hT).mono ?_
        rintro e w3 ⟨rfl, r1, r2⟩
        obtain ⟨V, S2, hv⟩ : ∃ v s', Tk.countF bs S1 = (v, s') := ⟨_, _, rfl⟩
        have HV := Lib.hid hv
        have hv9 : V ≤ 18446744073709551615 := by have := Tk.countF_u64 bs S1; rw [hv] at this; exact this
        rw [hv] at r1 ⊢
        have HR3 := Lib.hid r1
        have HK3 := Lib.hid (HK.out.trans (r2.less HL1.out))
        have HO3 := Lib.hid (Tk.own_abide HOW.out fun y hy => r2.2 y (by have : y = gr := by simp [Value.ownBlock] at hy; exact hy.symm
                                                                         rw [this]; exact HGR.out))
        have hs3 := r2.1
        clear r1 r2 hv
        go_wp2_with fail
        refine (HNX.out _ HK3.out k z HZ.out).mono ?_
        rintro e w4 ⟨rfl, hb4⟩
        have HR4 := Lib.hid (HR3.out.below hb4)
        have HK4 := Lib.hid (HK3.out.trans (KpG.of_below (fun y hy => HR3.out.lt (HL1.out y hy)) hb4))
        have HO4 := Lib.hid (Tk.own_abide HO3.out fun y hy => hb4.block y (HO3.out.lt y hy).2)
        have hs4 := hb4.size
        obtain ⟨NV, hnv⟩ : ∃ x, (numF bs F z S1).1 = x := ⟨_, rfl⟩
        have hval : IntKind.u64.wrap (z + (V : Int)) = NV := by
          rw [← hnv]
          unfold numF
          rw [hFn, decide_eq_true HZN.out, HV.out]
          simp only [if_true, if_false, Bool.false_eq_true]
          rw [IntKind.wrap_u64]; rfl
        have HST' := Lib.hid (show (rowF bs F (N.take (k + 1)) s).2 = S2 from by
          rw [HST.out]
          show (numF bs F z S1).2 = S2
          unfold numF
          rw [hFn, decide_eq_true HZN.out, HV.out]
          rfl)
        rw [hnv] at HMS
        have HMS' := Lib.hid HMS.out
        obtain ⟨ov, hov⟩ := getElem?_lt (l := mixR bs F N Z s k) (k := k) (by rw [mixR_length HNL.out]; exact hlt)
        obtain ⟨gb, go, eg, cold⟩ := cl_num (Tk.own_cl HO4.out) hov
        obtain ⟨rfl, rfl⟩ : gr = gb ∧ 0 = go := by simpa using eg
        rw [Nat.zero_add] at cold
        have fold := HO4.out.frozenAt k
        clear hb4 hnv eg hov
        go_wp2_with fail
        go_roundw
        case rel =>
          refine ⟨⟨k + 1, by omega, by go_num, ?_, ?_, ?_⟩, by simp [World.setCell]; omega⟩
          · rw [HST'.out]; exact HR4.out.set ⟨gr, k, none⟩ _ HGR.out hgW
          · exact HK4.out.trans ⟨by simp [World.setCell], fun y hy => (grown_set w4 ⟨gr, k, none⟩ _).block y (by have := HR4.out.lt (HL1.out y hy); exact this) (fun e => HNG.out y hy (by injection e))⟩
          · have := (HO4.out.stored k (.int .u64 NV)).1
            rw [intsC_set, HMS'.out] at this
            exact this
        case measure => simp [intOf]; omega
      · have h0' : ((n : Int) == 0) = false := by simp; exact h0
        have HZN := Lib.hid h0
        clear h0
        go_wp2_with fail
        refine (rint_g HR.out hq hT).mono ?_
        rintro e w3 ⟨rfl, r1, r2⟩
        obtain ⟨V, S2, hv⟩ : ∃ v s', intF bs S1 = (v, s') := ⟨_, _, rfl⟩
        have HV := Lib.hid hv
        have hv9 := intF_bd bs S1
        rw [hv] at hv9
        obtain ⟨hv1, hv2⟩ := hv9
        rw [hv] at r1 ⊢
        have HR3 := Lib.hid r1
        have HK3 := Lib.hid (HK.out.trans (r2.less HL1.out))
        have HO3 := Lib.hid (Tk.own_abide HOW.out fun y hy => r2.2 y (by have : y = gr := by simp [Value.ownBlock] at hy; exact hy.symm
                                                                         rw [this]; exact HGR.out))
        have hs3 := r2.1
        clear r1 r2 hv
        go_wp2_with fail
        refine (HNX.out _ HK3.out k z HZ.out).mono ?_
        rintro e w4 ⟨rfl, hb4⟩
        have HR4 := Lib.hid (HR3.out.below hb4)
        have HK4 := Lib.hid (HK3.out.trans (KpG.of_below (fun y hy => HR3.out.lt (HL1.out y hy)) hb4))
        have HO4 := Lib.hid (Tk.own_abide HO3.out fun y hy => hb4.block y (HO3.out.lt y hy).2)
        have hs4 := hb4.size
        obtain ⟨NV, hnv⟩ : ∃ x, (numF bs F z S1).1 = x := ⟨_, rfl⟩
        have hval : IntKind.u64.wrap (z + IntKind.u64.wrap V) = NV := by
          rw [← hnv]
          unfold numF
          rw [hFn, decide_eq_false HZN.out, HV.out]
          simp only [if_true, if_false, Bool.false_eq_true]
          rw [IntKind.wrap_u64, IntKind.wrap_u64]; unfold um; rfl
        have HST' := Lib.hid (show (rowF bs F (N.take (k + 1)) s).2 = S2 from by
          rw [HST.out]
          show (numF bs F z S1).2 = S2
          unfold numF
          rw [hFn, decide_eq_false HZN.out, HV.out]
          rfl)
        rw [hnv] at HMS
        have HMS' := Lib.hid HMS.out
        obtain ⟨ov, hov⟩ := getElem?_lt (l := mixR bs F N Z s k) (k := k) (by rw [mixR_length HNL.out]; exact hlt)
        obtain ⟨gb, go, eg, cold⟩ := cl_num (Tk.own_cl HO4.out) hov
        obtain ⟨rfl, rfl⟩ : gr = gb ∧ 0 = go := by simpa using eg
        rw [Nat.zero_add] at cold
        have fold := HO4.out.frozenAt k
        clear hb4 hnv eg hov
        go_wp2_with fail
        go_roundw
        case rel =>
          refine ⟨⟨k + 1, by omega, by go_num, ?_, ?_, ?_⟩, by simp [World.setCell]; omega⟩
          · rw [HST'.out]; exact HR4.out.set ⟨gr, k, none⟩ _ HGR.out hgW
          · exact HK4.out.trans ⟨by simp [World.setCell], fun y hy => (grown_set w4 ⟨gr, k, none⟩ _).block y (by have := HR4.out.lt (HL1.out y hy); exact this) (fun e => HNG.out y hy (by injection e))⟩
          · have := (HO4.out.stored k (.int .u64 NV)).1
            rw [intsC_set, HMS'.out] at this
            exact this
        case measure => simp [intOf]; omega
    · obtain rfl : k = Z.length := by omega
      have HE := Lib.hid (show mixR bs F N Z s Z.length = (rowF bs F N s).1 from mixR_all HNL.out)
      have HE2 := Lib.hid (show N.take Z.length = N from List.take_of_length_le (by rw [HNL.out]; exact Nat.le_refl _))
      go_wp2_with fail
      go_ret
      have hl : (rowF bs F N s).1.length = Z.length := by rw [rowF_length, HNL.out]
      have hszw : w.heap.size ≤ wr.heap.size := HK.out.1
      refine ⟨some ⟨gr, 0, none⟩, cr, by unfold rowV; rw [hl]; rfl, ⟨by unfold rowV; rw [hl]; have := HOW.out; rw [HE.out] at this; exact this, fun y hy => ?_⟩, ?_, HK.out⟩
      · have : y = gr := by unfold rowV at hy; simp [Value.ownBlock] at hy; exact hy.symm
        subst this
        exact HG1N.out wr hsz _ HGR.out
      · have := HR.out
        rw [HE2.out] at this
        exact HG.out.new (this.less HL1.out) hszw
end Go.Proofs.YtakomfnajeolcaaGreatDoor.Ch
