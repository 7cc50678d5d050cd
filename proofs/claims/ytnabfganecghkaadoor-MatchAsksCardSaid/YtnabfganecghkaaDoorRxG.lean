/- Pieces behind each other: link, join. -/
import Derived.Test.YtnabfganecghkaaDoorRxF
namespace Go.Proofs.YtnabfganecghkaaDoor
open Go.RowKit
set_option linter.unusedVariables false

def linkTo (i : Nat) (P : List Pl) (a b : Nat) : List Pl := P.mapIdx fun k p => if decide (k < i) && a.testBit k then ⟨p.X, p.n ||| b⟩ else p
theorem linkTo_zero (P : List Pl) (a b : Nat) : linkTo 0 P a b = P := by
  apply List.ext_getElem?
  intro j
  unfold linkTo
  rw [List.getElem?_mapIdx]
  cases P[j]? <;> simp
theorem linkTo_all (P : List Pl) (a b : Nat) : linkTo P.length P a b = linkP P a b := by
  apply List.ext_getElem?
  intro j
  unfold linkTo linkP
  rw [List.getElem?_mapIdx, List.getElem?_mapIdx]
  cases h : P[j]? with
  | none => rfl
  | some p =>
    have hj : j < P.length := (List.getElem?_eq_some_iff.1 h).1
    simp [hj]
theorem linkTo_length (i : Nat) (P : List Pl) (a b : Nat) : (linkTo i P a b).length = P.length := by simp [linkTo]
theorem linkP_length (P : List Pl) (a b : Nat) : (linkP P a b).length = P.length := by simp [linkP]
theorem linkTo_at {i : Nat} {P : List Pl} {p : Pl} (a b : Nat) (h : P[i]? = some p) : (linkTo i P a b)[i]? = some p := by
  unfold linkTo
  rw [List.getElem?_mapIdx, h]
  simp
theorem linkTo_on {i : Nat} {P : List Pl} {p : Pl} (a b : Nat) (h : P[i]? = some p) (ht : a.testBit i = true) : (linkTo i P a b).set i ⟨p.X, p.n ||| b⟩ = linkTo (i + 1) P a b := by
  apply List.ext_getElem?
  intro j
  unfold linkTo
  rw [List.getElem?_set, List.getElem?_mapIdx, List.getElem?_mapIdx]
  by_cases hij : i = j
  · subst hij
    rw [h]
    have hi : i < P.length := (List.getElem?_eq_some_iff.1 h).1
    simp [ht, hi]
  · rw [if_neg hij]
    have e : (j < i + 1) = (j < i) := by apply propext; omega
    simp only [e]
theorem linkTo_off {i : Nat} {P : List Pl} (a b : Nat) (ht : a.testBit i = false) : linkTo i P a b = linkTo (i + 1) P a b := by
  apply List.ext_getElem?
  intro j
  unfold linkTo
  rw [List.getElem?_mapIdx, List.getElem?_mapIdx]
  by_cases hij : j = i
  · subst hij
    simp [ht]
  · have e : (j < i + 1) = (j < i) := by apply propext; omega
    simp only [e]
theorem and_bit (x k : Nat) (h : x < 18446744073709551616) : bits BinOp.and IntKind.u64 ((x : Int) / 2 ^ k) 1 = if x.testBit k = true then 1 else 0 := by
  have e : ((x : Int) / 2 ^ k) = ((x / 2 ^ k : Nat) : Int) := by simp
  have hd : x / 2 ^ k ≤ x := Nat.div_le_self _ _
  rw [e, Nat.testBit_eq_decide_div_mod_eq]
  generalize x / 2 ^ k = y at *
  rw [and_one_u64 _ (by omega) (by omega)]
  by_cases h1 : y % 2 = 1
  · simp [h1]; omega
  · simp [h1]; omega
theorem Ps.cell {w : World} {g B r n c : Nat} {l : List UInt8} {d : Nat} {P : List Pl} {e : Int} (p : Ps w g B l d (.slice (some ⟨r, 0, none⟩) n c) P e) (hn : P.length = n) {k : Nat} {q : Pl} (hq : P[k]? = some q) :
    w.cell? ⟨r, k * 5 + 4, none⟩ = some (.int .u64 (q.n : Nat)) ∧ w.frozen? ⟨r, k * 5 + 4, none⟩ = false := by
  have hk : k < P.length := (List.getElem?_eq_some_iff.1 hq).1
  have ho := p.own
  rw [hn] at ho
  refine ⟨?_, ho.frozenAt _⟩
  have hc := plC_at hq (show 4 < 5 by decide)
  rw [ho.cellAt (k * 5 + 4) (by omega), hc]
  rfl
theorem Ps.linked {w : World} {g B r n c : Nat} {l : List UInt8} {d : Nat} {P : List Pl} {e : Int} (p : Ps w g B l d (.slice (some ⟨r, 0, none⟩) n c) P e) {k : Nat} {q : Pl} (hq : P[k]? = some q) (m : Nat) (hm : m < 18446744073709551616) :
    Ps (w.setCell ⟨r, k * 5 + 4, none⟩ (.int .u64 (m : Nat))) g B l d (.slice (some ⟨r, 0, none⟩) n c) (P.set k ⟨q.X, m⟩) e ∧ Go1 g (.slice (some ⟨r, 0, none⟩) n c) (.slice (some ⟨r, 0, none⟩) n c) w (w.setCell ⟨r, k * 5 + 4, none⟩ (.int .u64 (m : Nat))) := by
  have hrg : g ≠ r := fun h => p.ne (by rw [h]; rfl)
  have hg : (w.setCell ⟨r, k * 5 + 4, none⟩ (.int .u64 (m : Nat))).heap[g]? = w.heap[g]? := Below.heap_setCell w _ _ g hrg
  have hn : P.length = n := by
    have := p.own.1
    rcases p.own.2 with ⟨hv, _⟩ | ⟨b, cap, cur, hv, _⟩
    · injection hv with e1 e2 e3
      cases e1
    · injection hv with e1 e2 e3
      exact e2.symm
  refine ⟨⟨p.gb, by simpa using p.bw, (World.cell?_of_block hg).trans p.c0, (World.cell?_of_block hg).trans p.c1, (World.cell?_of_block hg).trans p.c2, (World.cell?_of_block hg).trans p.c3, (World.frozen?_of_block hg).trans p.f0, (World.frozen?_of_block hg).trans p.f1, (World.frozen?_of_block hg).trans p.f2, (World.frozen?_of_block hg).trans p.f3, ?_, ?_⟩, ⟨rfl, rfl, rfl, by simp, fun j _ _ hj => Below.heap_setCell w _ _ j (fun e => hj (by rw [e]; rfl))⟩, fun _ h => .inl h⟩
  · have ho := p.own
    rw [hn] at ho
    have hs := (ho.stored (k * 5 + 4) (.int .u64 (m : Nat))).1
    rw [plC_set hq] at hs
    rw [List.length_set, hn]
    exact hs
  · intro x hx
    rcases List.mem_or_eq_of_mem_set hx with hx | hx
    · exact p.ok x hx
    · subst hx
      exact hm
def LkRel (g B : Nat) (l : List UInt8) (d : Nat) (v : Value) (P : List Pl) (e : Int) (al bf h : Nat) (a b : Pc) (w : World) (c : Value) (wr : World) : Prop :=
  ∃ k : Nat, c = .int .i64 (k : Int) ∧ k ≤ P.length ∧ Ps wr g B l d v (linkTo k P al bf) e ∧ Go1 g v v w wr ∧ Bx wr h g v a ∧ Bx wr (h + 1) g v b
set_option maxHeartbeats 1000000 in
theorem link_at (g B : Nat) (l : List UInt8) (d : Nat) (A : Option Addr) (n c : Nat) (P : List Pl) (e : Int) (a b : Pc) (w : World) (hn : P.length = n) (p : Ps w g B l d (.slice A n c) P e) (ha : PcOk a) (hb : PcOk b) (hn64 : n ≤ 64) :
    Calls Tryd.prog 78 #[.pointer (some ⟨g, 0, none⟩), pcV a, pcV b] w fun y w' => y = .returned (.tuple #[]) ∧ Out g B d (.slice A n c) w l (linkP P a.l b.f) e (.slice A n c) w' := by
  obtain ⟨W, hW⟩ : ∃ W, (w.alloc (.cells #[.int .u64 (a.f : Nat), .int .u64 (a.l : Nat), .bool a.e] 50 (0, 0))).alloc (.cells #[.int .u64 (b.f : Nat), .int .u64 (b.l : Nat), .bool b.e] 50 (0, 0)) = W := ⟨_, rfl⟩
  have pW : Ps W g B l d (.slice A n c) P e := hW ▸ (p.alloc _).alloc _
  have b1 : Bx W w.heap.size g (.slice A n c) a := hW ▸ (Bx.new p a).alloc _
  have hz : (w.alloc (.cells #[.int .u64 (a.f : Nat), .int .u64 (a.l : Nat), .bool a.e] 50 (0, 0))).heap.size = w.heap.size + 1 := by simp
  have b2 : Bx W (w.heap.size + 1) g (.slice A n c) b := by
    have := Bx.new (p.alloc (.cells #[.int .u64 (a.f : Nat), .int .u64 (a.l : Nat), .bool a.e] 50 (0, 0))) b
    rw [hz] at this
    exact hW ▸ this
  have gW : Go1 g (.slice A n c) (.slice A n c) w W := hW ▸ ((Go1.refl _ _ _).alloc _).alloc _
  clear hz
  have c2 := pW.c2
  have GW := Lib.hid gW
  obtain ⟨h, hh⟩ : ∃ h, w.heap.size = h := ⟨_, rfl⟩
  rw [hh] at b1 b2
  have S0 := Lib.hid (show LkRel g B l d (.slice A n c) P e a.l b.f h a b w (.int .i64 ((0 : Nat) : Int)) W from ⟨0, rfl, by omega, by rw [linkTo_zero]; exact pW, gW, b1, b2⟩)
  have HN := Lib.hid hn
  have hn6 : (n : Int) ≤ 64 := by omega
  have HH := Lib.hid hh
  unfold pcV
  clear p pW b1 b2 gW hn hh
  go_enter Tryd.func78, Tryd.ntmps78
  go_wp2_with fail
  rw [HH.out]
  clear hW
  go_loopw [12] (fun i wr => Hid (LkRel g B l d (.slice A n c) P e a.l b.f h a b w i wr)) (fun i _ => n - (intOf i).toNat)
  case atStart => exact S0
  case round =>
    obtain ⟨k, rfl, hk, pr, gr, x1, x2⟩ := hrel.out
    have hkn : k ≤ n := by have := HN.out; omega
    obtain ⟨y0, y1, y2, _⟩ := x1.cells
    obtain ⟨z0, z1, z2, _⟩ := x2.cells
    have X1 := Lib.hid x1
    have X2 := Lib.hid x2
    have GR := Lib.hid gr
    have PR := Lib.hid pr
    have d2 := pr.c2
    by_cases hlt : k < n
    · have hki : (k : Int) < (n : Int) := by omega
      have hkP : k < P.length := by have := HN.out; omega
      obtain ⟨q, hq⟩ : ∃ q, P[k]? = some q := ⟨P[k], List.getElem?_eq_getElem hkP⟩
      have hq2 := linkTo_at a.l b.f hq
      have hab := and_bit a.l k ha.2
      have hmin : min k 64 = k := by omega
      by_cases ht : a.l.testBit k = true
      · rw [if_pos ht] at hab
        obtain ⟨r, rfl⟩ : ∃ r, A = some ⟨r, 0, none⟩ := by
          rcases pr.own.2 with ⟨hv, h0⟩ | ⟨r, cap, cur, hv, _⟩
          · have := linkTo_length k P a.l b.f
            omega
          · injection hv with e1 e2 e3
            exact ⟨r, e1⟩
        obtain ⟨u0, u1⟩ := pr.cell (by rw [linkTo_length]; exact HN.out) hq2
        have hrg : r ≠ g := fun h => pr.ne (by rw [h]; rfl)
        have hor : q.n < 18446744073709551616 := pr.ok q (List.mem_of_getElem? hq2)
        have hor2 := u64_or_nat q.n b.f hor hb.1
        have hlt64 : q.n ||| b.f < 18446744073709551616 := Nat.or_lt_two_pow (n := 64) hor hb.1
        have HQ := Lib.hid hq
        have HQ2 := Lib.hid hq2
        have HT := Lib.hid ht
        have HL := Lib.hid hlt64
        obtain ⟨m, hm⟩ : ∃ m, q.n ||| b.f = m := ⟨_, rfl⟩
        rw [hm] at hor2
        have HM := Lib.hid hm
        clear hq hq2 ht x1 x2 gr pr hrel S0 hor hlt64 hm hkP
        go_wp2_with fail
        go_region
        all_goals
          go_wp2_with fail
          obtain ⟨p5, g5⟩ := PR.out.linked HQ2.out m (by rw [← HM.out]; exact HL.out)
          rw [← HM.out, linkTo_on a.l b.f HQ.out HT.out, HM.out] at p5
          refine ⟨Lib.hid ⟨k + 1, by simp, by have := HN.out; omega, p5.drew, (GR.out.trans g5).drew, (X1.out.other (fun h => X1.out.hv (by rw [← h]; rfl)) _).drew, (X2.out.other (fun h => X2.out.hv (by rw [← h]; rfl)) _).drew⟩, by simp [intOf]; omega⟩
      · have ht' : a.l.testBit k = false := by simpa using ht
        rw [if_neg ht] at hab
        have HO := linkTo_off (i := k) (P := P) a.l b.f ht'
        have HE := Lib.hid HO
        clear hq hq2 ht ht' x1 x2 gr pr hrel S0 HO
        go_wp2_with fail
        go_roundw
        case rel => exact Lib.hid ⟨k + 1, by go_num, by have := HN.out; omega, by rw [← HE.out]; exact PR.out, GR.out, X1.out, X2.out⟩
        case measure => simp [intOf]; omega
    · obtain rfl : k = n := by omega
      have hki : ¬ ((k : Int) < (k : Int)) := by omega
      have HE := Lib.hid (show Out g B d (.slice A k c) w l (linkP P a.l b.f) e (.slice A k c) wr from ⟨by rw [← linkTo_all, HN.out]; exact pr, gr⟩)
      clear x1 x2 gr pr hrel S0
      go_wp2_with fail
      go_end0
      exact ⟨rfl, HE.out⟩
end Go.Proofs.YtnabfganecghkaaDoor
