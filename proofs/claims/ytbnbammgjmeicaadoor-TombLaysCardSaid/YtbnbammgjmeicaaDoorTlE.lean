/- The document's Bytes: bits as bytes, walked. -/
import Derived.Test.YtbnbammgjmeicaaDoorTlD
namespace Go.Proofs.YtbnbammgjmeicaaDoor.Tl
open Go.RowKit Go.Sort
set_option linter.unusedVariables false

theorem T_at (l : List Bool) (i : Nat) (h : i < (Tk.T l).size) (b : Bool) (hb : l[i]? = some b) : ((((Tk.T l)[i]'h).toNat : Int) == 49) = b := by
  have hl : i < l.length := (List.getElem?_eq_some_iff.1 hb).1
  obtain ⟨_, rfl⟩ := List.getElem?_eq_some_iff.1 hb
  have e : (Tk.T l)[i]'h = (l.map Tk.ch)[i]'(by rw [List.length_map]; exact hl) := rfl
  rw [e, List.getElem_map]
  unfold Tk.ch
  cases l[i] <;> rfl
/-- a byte before the bit that comes next is laid in it -/
def NextB (l : List Bool) (i : Nat) (cs : List Nat) (b : Nat) : Prop :=
  cs.length = i / 8 ∧ b < 256 ∧ (∀ x ∈ cs, x < 256) ∧ ∀ x : Bool, l[i]? = some x → b + x.toNat * 2 ^ (7 - i % 8) < 256 ∧ LaidL (cs ++ [b + x.toNat * 2 ^ (7 - i % 8)]) (l.take (i + 1))
theorem take_next {l : List Bool} {i : Nat} {x : Bool} (h : l[i]? = some x) : (l.take (i + 1)).length = (l.take i).length + 1 ∧ valB (l.take (i + 1)) = valB (l.take i) * 2 + x.toNat ∧ (l.take i).length = i := by
  have hl := (List.getElem?_eq_some_iff.1 h).1
  rw [Tm.take_snoc l i x h, valB_snoc]
  exact ⟨by simp, rfl, by rw [List.length_take]; omega⟩
theorem next_new {bs : List Nat} {l : List Bool} {i : Nat} (h : LaidL bs (l.take i)) (hi : i < l.length) (h8 : i % 8 = 0) : NextB l i bs 0 := by
  have hlen : (l.take i).length = i := by rw [List.length_take]; omega
  unfold LaidL at h
  rw [hlen] at h
  obtain ⟨f1, _, _, _⟩ := h.fresh (x := 0) h8 (by omega)
  refine ⟨f1, by omega, h.2.1, fun x hx => ?_⟩
  obtain ⟨e1, e2, e3⟩ := take_next hx
  obtain ⟨_, _, g3, g4⟩ := h.fresh (x := x.toNat) h8 (by cases x <;> simp)
  unfold LaidL
  rw [e1, e2, e3, Nat.zero_add, show 7 - i % 8 = 7 by omega]
  exact ⟨g3, g4⟩
theorem next_same {bs : List Nat} {l : List Bool} {i : Nat} (h : LaidL bs (l.take i)) (hi : i < l.length) (h8 : ¬ i % 8 = 0) : ∃ cs b, bs = cs ++ [b] ∧ NextB l i cs b := by
  have hlen : (l.take i).length = i := by rw [List.length_take]; omega
  unfold LaidL at h
  rw [hlen] at h
  have hl := h.1
  have hne : bs ≠ [] := by intro e; rw [e] at hl; simp at hl; omega
  obtain ⟨cs, b, rfl⟩ : ∃ cs b, bs = cs ++ [b] := ⟨bs.dropLast, bs.getLast hne, (List.dropLast_concat_getLast hne).symm⟩
  obtain ⟨f1, f2, _, _, _⟩ := h.same (x := 0) h8 (by omega)
  refine ⟨cs, b, rfl, f1, f2, fun x hx => h.2.1 x (by simp [hx]), fun x hx => ?_⟩
  obtain ⟨e1, e2, e3⟩ := take_next hx
  obtain ⟨_, _, _, g3, g4⟩ := h.same (x := x.toNat) h8 (by cases x <;> simp)
  unfold LaidL
  rw [e1, e2, e3]
  exact ⟨g3, g4⟩
/-- out's row between two rounds -/
def RbR (w : World) (l : List Bool) (v3 v4 : Value) (wr : World) : Prop :=
  ∃ (i m c : Nat) (A : Option Addr) (bs : List Nat), v4 = .int .i64 (i : Int) ∧ i ≤ l.length ∧ v3 = .slice A m c ∧ wr.ownsRow w.heap.size 5 1 (.slice A m c) m (Tk.cellsB bs) ∧ LaidL bs (l.take i) ∧ Below w.heap.size w wr
theorem laid8 {bs : List Nat} {l : List Bool} (h : LaidL bs l) : ∀ x ∈ bs, x < 256 := h.2.1
def RbP (w : World) (l : List Bool) (e : Ending) (w' : World) : Prop := ∃ A n c bs, e = .returned (.slice A n c) ∧ n = bs.length ∧ Tk.Sl w' A c bs ∧ LaidL bs l ∧ Below w.heap.size w w'
theorem cellsB_snoc (bs : List Nat) (b : Nat) : Tk.cellsB (bs ++ [b]) = Tk.cellsB bs ++ [.int .u8 (b : Int)] := by unfold Tk.cellsB; simp
theorem row_last {w : World} {B g m c : Nat} {cs : List Nat} {b : Nat} (h : w.ownsRow B 5 1 (.slice (some ⟨g, 0, none⟩) m c) m (Tk.cellsB (cs ++ [b]))) :
    w.cell? ⟨g, cs.length, none⟩ = some (.int .u8 (b : Int)) ∧ w.frozen? ⟨g, cs.length, none⟩ = false := by
  have hm : m = cs.length + 1 := by have := h.1; rw [Tk.cellsB_length] at this; simp at this; omega
  refine ⟨?_, h.frozenAt _⟩
  have := h.cells (g := g) rfl cs.length (.int .u8 (b : Int)) (by rw [cellsB_snoc]; rw [List.getElem?_append_right (by rw [Tk.cellsB_length]; omega), Tk.cellsB_length, Nat.sub_self]; rfl)
  rw [Tk.addr_add, Nat.zero_add] at this
  exact this
theorem row_put {w : World} {B g m c : Nat} {cs : List Nat} {b d : Nat} (h : w.ownsRow B 5 1 (.slice (some ⟨g, 0, none⟩) m c) m (Tk.cellsB (cs ++ [b]))) :
    (w.setCell ⟨g, cs.length, none⟩ (.int .u8 (d : Int))).ownsRow B 5 1 (.slice (some ⟨g, 0, none⟩) m c) m (Tk.cellsB (cs ++ [d])) := by
  obtain ⟨s1, _⟩ := h.stored cs.length (.int .u8 (d : Int))
  have e : (Tk.cellsB (cs ++ [b])).set cs.length (.int .u8 (d : Int)) = Tk.cellsB (cs ++ [d]) := by
    rw [cellsB_snoc, cellsB_snoc, List.set_append]
    simp [Tk.cellsB_length]
  rw [e] at s1
  exact s1
theorem half_pow {k r : Nat} (h : k < r) (hr : r ≤ 7) : (2 : Nat) ^ (7 - k) / 2 = 2 ^ (7 - (k + 1)) := by
  rw [show 7 - k = (7 - (k + 1)) + 1 by omega, Nat.pow_succ]
  omega

set_option maxHeartbeats 2000000 in
theorem rbytes_any (l : List Bool) (w : World) (hl : l.length ≤ 100000) :
    Calls Tryd.prog 12 #[.string (Tk.T l)] w (RbP w l) := by
  have hsz := Tk.T_size l
  have HAT := Lib.hid (T_at l)
  obtain ⟨S, hS⟩ : ∃ S, Tk.T l = S := ⟨_, rfl⟩
  rw [hS] at hsz HAT ⊢
  obtain ⟨N, hN⟩ : ∃ N, l.length = N := ⟨_, rfl⟩
  have HSZ := Lib.hid hsz
  have HN := Lib.hid hN
  rw [hN] at hl
  have hsN : S.size = N := by omega
  have hni : (N : Int) ≤ 100000 := by omega
  have R0 := Lib.hid (show RbR w l (.slice none 0 0) (.int .i64 ((0 : Nat) : Int)) w from ⟨0, 0, 0, none, [], rfl, by omega, rfl, Tm.own_nil _ _ _ _, LaidL.nil, Below.refl _ _⟩)
  clear hS hN hsz
  go_enter Tryd.func12, Tryd.ntmps12
  go_wp2_with fail
  go_loopw [3, 4] (fun v3 v4 wr => Hid (RbR w l v3 v4 wr)) (fun _ v4 _ => N - (intOf v4).toNat)
  case atStart => exact R0
  case round =>
    clear R0
    obtain ⟨i, m, c, A, bs, rfl, hi, rfl, hown, hla, hb⟩ := hrel.out
    clear hrel
    by_cases hlt : i < N
    · have hki : (i : Int) < (N : Int) := by omega
      obtain ⟨x, hx⟩ := Tm.getElem?_lt (l := l) (k := i) (by rw [HN.out]; exact hlt)
      have hiS : i < S.size := by omega
      have hbit := HAT.out i hiS x hx
      have HX := Lib.hid hx
      have HLT := Lib.hid hlt
      have HB := Lib.hid hb
      have hmb : m = bs.length := by have := hown.1; rw [Tk.cellsB_length] at this; omega
      have hml : bs.length ≤ 20000 := by have := hla.1; rw [List.length_take] at this; omega
      have HKEY : Hid (∀ (A2 : Option Addr) (m2 c2 : Nat) (cs : List Nat) (b : Nat) (W : World), W.ownsRow w.heap.size 5 1 (.slice A2 m2 c2) m2 (Tk.cellsB (cs ++ [b])) → NextB l i cs b → ∃ g, A2 = some ⟨g, 0, none⟩ ∧ m2 = i / 8 + 1 ∧ w.heap.size ≤ g ∧
          W.cell? ⟨g, i / 8, none⟩ = some (.int .u8 (b : Int)) ∧ W.frozen? ⟨g, i / 8, none⟩ = false ∧ b < 256 ∧ b + x.toNat * 2 ^ (7 - i % 8) < 256 ∧ LaidL (cs ++ [b + x.toNat * 2 ^ (7 - i % 8)]) (l.take (i + 1)) ∧
          (W.setCell ⟨g, i / 8, none⟩ (.int .u8 ((b + 1 * 2 ^ (7 - i % 8) : Nat) : Int))).ownsRow w.heap.size 5 1 (.slice A2 m2 c2) m2 (Tk.cellsB (cs ++ [b + 1 * 2 ^ (7 - i % 8)]))) := Lib.hid (by
        intro A2 m2 c2 cs b W ho hn
        obtain ⟨n1, n2, n3, n4⟩ := hn
        have hm2 : m2 = (cs ++ [b]).length := by have := ho.1; rw [Tk.cellsB_length] at this; omega
        obtain ⟨g, cc, hv, _, _, hg, _, _⟩ := Tk.own_bt ho hm2 (by intro y hy; rcases List.mem_append.1 hy with h | h; exact n3 y h; simp at h; omega) (by simp; omega) (by rw [hm2]; simp)
        injection hv with hA hnn hcc
        subst hA
        obtain ⟨r1, r2⟩ := row_last ho
        rw [n1] at r1 r2
        obtain ⟨t1, t2⟩ := n4 x HX.out
        have rp := row_put (d := b + 1 * 2 ^ (7 - i % 8)) ho
        rw [n1] at rp
        exact ⟨g, rfl, by rw [hm2]; simp; omega, hg, r1, r2, n2, t1, t2, rp⟩)
      have HDONE : Hid (∀ (A2 : Option Addr) (m2 c2 : Nat) (bs2 : List Nat) (W : World), W.ownsRow w.heap.size 5 1 (.slice A2 m2 c2) m2 (Tk.cellsB bs2) → LaidL bs2 (l.take (i + 1)) → Below w.heap.size w W → RbR w l (.slice A2 m2 c2) (.int .i64 ((i : Int) + 1)) W) := Lib.hid (by
        intro A2 m2 c2 bs2 W h1 h2 h3
        exact ⟨i + 1, m2, c2, A2, bs2, by go_num, by have := HLT.out; have := HN.out; omega, rfl, h1, h2, h3⟩)
      cases x with
      | false =>
        by_cases h8 : i % 8 = 0
        case' pos =>
          have h8b : ((i : Int) % 8 == 0) = true := by simp; omega
          have HNX := Lib.hid (next_new hla (by rw [HN.out]; exact hlt) h8)
          have hb1 : Below wr.heap.size wr (wr.alloc (.cells #[.int .u8 0] 5)) := (Below.refl _ _).alloc (Nat.le_refl _) _
          have HO1 := Lib.hid (Tm.own_below hown hb1)
          have HB1 := Lib.hid (hb.alloc hb.size (.cells #[.int .u8 0] 5))
          have HSL := Lib.hid (show Tk.Sl (wr.alloc (.cells #[.int .u8 0] 5)) (some ⟨wr.heap.size, 0, none⟩) 1 [0] from ⟨by simp, by omega, fun e => (by cases e), by simp, by simp, .inr ⟨_, _, rfl, fun j y hj => by
            match j, hj with
            | 0, hj => simp at hj; subst hj; rw [cell_of_row _ _ _ _ _ _ (heap_alloc_new wr _)]; rfl
            | j + 1, hj => simp at hj⟩⟩)
          have hl9 : m + 1 ≤ 1000000 := by omega
          clear hown hla hb hb1 hx hlt h8 hmb hml
          go_wp2_with (at_builtin; refine Tk.wpList_append_bt rfl _ _ rfl w.heap.size (.slice A m c) m bs rfl HO1.out (some ⟨wr.heap.size, 0, none⟩) 1 1 [0] rfl rfl HSL.out hl9 HB1.out.size ?_; intro v7 w7 ho7 hg7; have hb7 := HB1.out.grown hg7 HB1.out.size (fun k hk => (HO1.out.lt k hk).1); obtain ⟨A2, c2, rfl⟩ := Tm.own_shape ho7; generalize hM : m + 1 = M at ho7 ⊢; obtain ⟨cs, hcs⟩ : ∃ cs, bs = cs := ⟨_, rfl⟩; obtain ⟨b, hb0⟩ : ∃ b : Nat, 0 = b := ⟨_, rfl⟩; have hnx := HNX.out; rw [hcs, hb0] at ho7 hnx; obtain ⟨g, rfl, hM2, hgB, q0, qf, hb256, hbx, hlx, hput⟩ := HKEY.out A2 M c2 cs b w7 ho7 hnx; have HO7 := Lib.hid ho7; have HB7 := Lib.hid hb7; have hidx : (i : Int) / 8 < (M : Int) := (by omega); clear ho7 hg7 hb7 hM hM2 hcs hb0 hnx)
        case' neg =>
          have h8b : ((i : Int) % 8 == 0) = false := by simp; omega
          obtain ⟨cs, b, hcs, hnx⟩ := next_same hla (by rw [HN.out]; exact hlt) h8
          subst hcs
          obtain ⟨w7, hw7⟩ : ∃ w7, wr = w7 := ⟨_, rfl⟩
          obtain ⟨M, hM⟩ : ∃ M, m = M := ⟨_, rfl⟩
          obtain ⟨A2, hA2⟩ : ∃ A2, A = A2 := ⟨_, rfl⟩
          obtain ⟨c2, hc2⟩ : ∃ c2, c = c2 := ⟨_, rfl⟩
          subst hw7 hM hA2 hc2
          obtain ⟨g, rfl, hM2, hgB, q0, qf, hb256, hbx, hlx, hput⟩ := HKEY.out A m c cs b wr hown hnx
          have HO7 := Lib.hid hown
          have HB7 := Lib.hid hb
          have hidx : (i : Int) / 8 < (m : Int) := by omega
          obtain ⟨w7, hw7⟩ : ∃ w7, wr = w7 := ⟨_, rfl⟩
          obtain ⟨M, hM⟩ : ∃ M, m = M := ⟨_, rfl⟩
          subst hw7 hM
          clear hown hla hb hx hlt h8 hmb hml hnx hM2
          go_wp2_with fail
        all_goals
          have HEND := Lib.hid (HDONE.out _ _ _ (cs ++ [b]) _ HO7.out (by simpa using hlx) HB7.out)
          clear hlx hput hbx q0 qf hbit
          go_roundw
          case rel => exact HEND
          case measure => simp [intOf]; have := HLT.out; omega
      | true =>
        by_cases h8 : i % 8 = 0
        case' pos =>
          have h8b : ((i : Int) % 8 == 0) = true := by simp; omega
          have HNX := Lib.hid (next_new hla (by rw [HN.out]; exact hlt) h8)
          have hb1 : Below wr.heap.size wr (wr.alloc (.cells #[.int .u8 0] 5)) := (Below.refl _ _).alloc (Nat.le_refl _) _
          have HO1 := Lib.hid (Tm.own_below hown hb1)
          have HB1 := Lib.hid (hb.alloc hb.size (.cells #[.int .u8 0] 5))
          have HSL := Lib.hid (show Tk.Sl (wr.alloc (.cells #[.int .u8 0] 5)) (some ⟨wr.heap.size, 0, none⟩) 1 [0] from ⟨by simp, by omega, fun e => (by cases e), by simp, by simp, .inr ⟨_, _, rfl, fun j y hj => by
            match j, hj with
            | 0, hj => simp at hj; subst hj; rw [cell_of_row _ _ _ _ _ _ (heap_alloc_new wr _)]; rfl
            | j + 1, hj => simp at hj⟩⟩)
          have hl9 : m + 1 ≤ 1000000 := by omega
          clear hown hla hb hb1 hx hlt h8 hmb hml
          go_wp2_with (at_builtin; refine Tk.wpList_append_bt rfl _ _ rfl w.heap.size (.slice A m c) m bs rfl HO1.out (some ⟨wr.heap.size, 0, none⟩) 1 1 [0] rfl rfl HSL.out hl9 HB1.out.size ?_; intro v7 w7 ho7 hg7; have hb7 := HB1.out.grown hg7 HB1.out.size (fun k hk => (HO1.out.lt k hk).1); obtain ⟨A2, c2, rfl⟩ := Tm.own_shape ho7; generalize hM : m + 1 = M at ho7 ⊢; obtain ⟨cs, hcs⟩ : ∃ cs, bs = cs := ⟨_, rfl⟩; obtain ⟨b, hb0⟩ : ∃ b : Nat, 0 = b := ⟨_, rfl⟩; have hnx := HNX.out; rw [hcs, hb0] at ho7 hnx; obtain ⟨g, rfl, hM2, hgB, q0, qf, hb256, hbx, hlx, hput⟩ := HKEY.out A2 M c2 cs b w7 ho7 hnx; have HO7 := Lib.hid ho7; have HB7 := Lib.hid hb7; have hidx : (i : Int) / 8 < (M : Int) := (by omega); clear ho7 hg7 hb7 hM hM2 hcs hb0 hnx)
        case' neg =>
          have h8b : ((i : Int) % 8 == 0) = false := by simp; omega
          obtain ⟨cs, b, hcs, hnx⟩ := next_same hla (by rw [HN.out]; exact hlt) h8
          subst hcs
          obtain ⟨w7, hw7⟩ : ∃ w7, wr = w7 := ⟨_, rfl⟩
          obtain ⟨M, hM⟩ : ∃ M, m = M := ⟨_, rfl⟩
          obtain ⟨A2, hA2⟩ : ∃ A2, A = A2 := ⟨_, rfl⟩
          obtain ⟨c2, hc2⟩ : ∃ c2, c = c2 := ⟨_, rfl⟩
          subst hw7 hM hA2 hc2
          obtain ⟨g, rfl, hM2, hgB, q0, qf, hb256, hbx, hlx, hput⟩ := HKEY.out A m c cs b wr hown hnx
          have HO7 := Lib.hid hown
          have HB7 := Lib.hid hb
          have hidx : (i : Int) / 8 < (m : Int) := by omega
          obtain ⟨w7, hw7⟩ : ∃ w7, wr = w7 := ⟨_, rfl⟩
          obtain ⟨M, hM⟩ : ∃ M, m = M := ⟨_, rfl⟩
          subst hw7 hM
          clear hown hla hb hx hlt h8 hmb hml hnx hM2
          go_wp2_with fail
        all_goals
          simp only [Bool.toNat_true, Nat.one_mul] at hbx hlx hput
          have HLX := Lib.hid hlx
          have HPUT := Lib.hid hput
          have hr7 : i % 8 ≤ 7 := by omega
          clear hlx hput hbit
          go_loop [5, 6] (fun v5 v6 => ∃ k : Nat, k ≤ i % 8 ∧ v6 = .int .i64 (k : Int) ∧ v5 = .int .i64 ((2 ^ (7 - k) : Nat) : Int)) (fun _ v6 => i % 8 - (intOf v6).toNat)
          case atStart => exact ⟨0, by omega, rfl, rfl⟩
          case round =>
            obtain ⟨k, hk, rfl, rfl⟩ := hrel
            have hP128 : 2 ^ (7 - k) ≤ 128 := Nat.le_trans (Nat.pow_le_pow_right (by omega : 0 < 2) (show 7 - k ≤ 7 by omega)) (by decide)
            by_cases hkr : k < i % 8
            · have hk2 : (k : Int) < (i : Int) % 8 := by omega
              have hhalf := half_pow hkr hr7
              obtain ⟨P, hP⟩ : ∃ P, 2 ^ (7 - k) = P := ⟨_, rfl⟩
              rw [hP] at hhalf hP128 ⊢
              have HH := Lib.hid hhalf
              clear hP hhalf
              go_wp2_with fail
              go_round
              case rel => exact ⟨k + 1, hkr, by go_num, by rw [← HH.out]; go_num⟩
              case measure => simp [intOf]; omega
            · obtain rfl : k = i % 8 := by omega
              have hk2 : ¬ (((i % 8 : Nat) : Int) < (i : Int) % 8) := by omega
              obtain ⟨P, hP⟩ : ∃ P, 2 ^ (7 - i % 8) = P := ⟨_, rfl⟩
              rw [hP] at hbx HLX HPUT hP128 ⊢
              have e1 : ((b + P : Nat) : Int) = (b : Int) + (P : Int) := by omega
              rw [e1] at HPUT
              have hbp : (b : Int) + (P : Int) < 256 := by omega
              have HEND := Lib.hid (HDONE.out _ _ _ (cs ++ [b + P]) _ HPUT.out HLX.out (HB7.out.setCell (show w.heap.size ≤ (⟨g, i / 8, none⟩ : Addr).block from hgB) _))
              clear hP e1 HPUT HLX hbx
              go_wp2_with fail
              go_roundw
              case rel => exact HEND
              case measure => simp [intOf]; have := HLT.out; omega
    · obtain rfl : i = N := by have := HN.out; omega
      have hki : ¬ ((i : Int) < (i : Int)) := by omega
      have HF := Lib.hid (show RbP w l (.returned (.slice A m c)) wr from by
        obtain ⟨h1, A', c', h2, h3⟩ := Tk.own_sl hown (laid8 hla) (by have := hla.1; rw [List.length_take] at this; omega)
        injection h2 with e1 _ e3
        subst e1 e3
        exact ⟨A, m, c, bs, rfl, h1, h3, by rw [List.take_of_length_le (by have := HN.out; have := HSZ.out; omega)] at hla; exact hla, hb⟩)
      clear hown hla hb
      go_wp2_with fail
      go_ret
      exact HF.out
end Go.Proofs.YtbnbammgjmeicaaDoor.Tl
