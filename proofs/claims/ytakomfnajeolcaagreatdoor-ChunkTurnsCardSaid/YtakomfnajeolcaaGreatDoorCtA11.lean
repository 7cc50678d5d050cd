import Derived.Test.YtakomfnajeolcaaGreatDoorCtA10
set_option linter.unusedVariables false
/- A writer whose bits are a list, while blocks of a set G stay as they are. -/
namespace Go.Proofs.YtakomfnajeolcaaGreatDoor.Ch
open Go.RowKit Go.Sort
set_option linter.unusedVariables false
open Tl (valB LaidL tab_below tab_pos)

/-- the writer at block p has laid l; blocks of G are none of its own -/
def WG (G : Nat → Prop) (W0 : World) (p B : Nat) (l : List Bool) (w : World) : Prop :=
  (∃ v bs, Bw.Wr w p B v bs l.length ∧ LaidL bs l ∧ ∀ g, G g → v.ownBlock ≠ some g) ∧ Below W0.heap.size W0 w ∧ ∀ g, G g → g ≠ p ∧ g < w.heap.size
/-- blocks of G are as they were -/
def KpG (G : Nat → Prop) (w w' : World) : Prop := w.heap.size ≤ w'.heap.size ∧ ∀ g, G g → w'.heap[g]? = w.heap[g]?
theorem KpG.refl (G : Nat → Prop) (w : World) : KpG G w w := ⟨Nat.le_refl _, fun _ _ => rfl⟩
theorem KpG.trans {G : Nat → Prop} {a b c : World} (h : KpG G a b) (k : KpG G b c) : KpG G a c := ⟨Nat.le_trans h.1 k.1, fun g hg => (k.2 g hg).trans (h.2 g hg)⟩
theorem KpG.of_below {G : Nat → Prop} {w w' : World} (h : ∀ g, G g → g < w.heap.size) (hb : Below w.heap.size w w') : KpG G w w' := ⟨hb.size, fun g hg => hb.block g (h g hg)⟩
theorem KpG.less {G H : Nat → Prop} {w w' : World} (h : KpG G w w') (k : ∀ g, H g → G g) : KpG H w w' := ⟨h.1, fun g hg => h.2 g (k g hg)⟩
theorem KpG.cell {G : Nat → Prop} {w w' : World} (h : KpG G w w') {a : Addr} (ha : G a.block) : w'.cell? a = w.cell? a := World.cell?_of_block (h.2 _ ha)
section
variable {G : Nat → Prop} {W0 w : World} {p B : Nat} {l : List Bool}
theorem WG.lt (h : WG G W0 p B l w) {g : Nat} (hg : G g) : g < w.heap.size := (h.2.2 g hg).2
theorem WG.bel (h : WG G W0 p B l w) : Below W0.heap.size W0 w := h.2.1
theorem WG.ws (h : WG G W0 p B l w) : Tl.WS W0 p B l w := by
  obtain ⟨⟨v, bs, h1, h2, _⟩, h3, _⟩ := h
  exact ⟨⟨v, bs, h1, h2⟩, h3⟩
theorem WG.of_ws (h : Tl.WS W0 p B l w) : WG (fun _ => False) W0 p B l w := by
  obtain ⟨⟨v, bs, h1, h2⟩, h3⟩ := h
  exact ⟨⟨v, bs, h1, h2, fun _ hg => hg.elim⟩, h3, fun _ hg => hg.elim⟩
theorem WG.less {H : Nat → Prop} (h : WG G W0 p B l w) (k : ∀ g, H g → G g) : WG H W0 p B l w := by
  obtain ⟨⟨v, bs, h1, h2, h3⟩, h4, h5⟩ := h
  exact ⟨⟨v, bs, h1, h2, fun g hg => h3 g (k g hg)⟩, h4, fun g hg => h5 g (k g hg)⟩
/-- memory is made: the new blocks are none of the writer's -/
theorem WG.more (h : WG G W0 p B l w) {w' : World} (hb : Below w.heap.size w w') : WG (fun k => G k ∨ (w.heap.size ≤ k ∧ k < w'.heap.size)) W0 p B l w' := by
  obtain ⟨⟨v, bs, h1, h2, h3⟩, h4, h5⟩ := h
  have hpw : p < w.heap.size := by have := h1.pb; have := h1.bw; omega
  refine ⟨⟨v, bs, h1.below hb, h2, fun g hg => ?_⟩, h4.trans (hb.mono h4.size), fun g hg => ?_⟩
  · rcases hg with hg | hg
    · exact h3 g hg
    · intro e
      have := (h1.own.lt g e).2
      omega
  · rcases hg with hg | hg
    · exact ⟨(h5 g hg).1, Nat.lt_of_lt_of_le (h5 g hg).2 hb.size⟩
    · exact ⟨by omega, hg.2⟩
theorem WG.below (h : WG G W0 p B l w) {w' : World} (hb : Below w.heap.size w w') : WG G W0 p B l w' := (h.more hb).less fun g hg => .inl hg
/-- one step of it -/
theorem WG.step (h : WG G W0 p B l w) (hp : W0.heap.size ≤ p) {w' : World} {c : List Bool} {v v' : Value} {bs bs' : List Nat} (h1 : Bw.Wr w p B v bs l.length) (h2 : LaidL bs l) (h4 : ∀ g, G g → v.ownBlock ≠ some g)
    (r1 : Bw.Wr w' p B v' bs' (l.length + c.length)) (r2 : Bw.Laid bs' (l.length + c.length) (valB l * 2 ^ c.length + valB c)) (r3 : Bw.Step p v.ownBlock w w') (r4 : Bw.Own v v' w) : WG G W0 p B (l ++ c) w' ∧ KpG G w w' := by
  obtain ⟨_, h3, h5⟩ := h
  refine ⟨⟨⟨v', bs', by rw [List.length_append]; exact r1, LaidL.step r2, fun g hg e => ?_⟩, ⟨r3.os.trans h3.os, r3.tape.trans h3.tape, r3.output.trans h3.output, Nat.le_trans h3.size r3.size, fun k hk => ?_⟩, fun g hg => ⟨(h5 g hg).1, Nat.lt_of_lt_of_le (h5 g hg).2 r3.size⟩⟩, r3.size, fun g hg => r3.block g (h5 g hg).2 (h5 g hg).1 (h4 g hg)⟩
  · rcases r4 g e with e | e
    · exact h4 g hg e
    · have := (h5 g hg).2; omega
  · rw [r3.block k (Nat.lt_of_lt_of_le hk h3.size) (by omega) (fun e => by have := (h1.own.lt k e).1; have := h1.pb; omega)]
    exact h3.block k hk
end
/-- what a call of the writer leaves -/
def WPost (G : Nat → Prop) (W0 : World) (p B : Nat) (l c : List Bool) (w : World) (e : Ending) (w' : World) : Prop := e = .returned (.tuple #[]) ∧ WG G W0 p B (l ++ c) w' ∧ KpG G w w'
theorem count_g (y : Int) (G : Nat → Prop) (W0 : World) (p B : Nat) (l : List Bool) (w : World) (h : WG G W0 p B l w) (hp : W0.heap.size ≤ p) (hT : Tk.Tab W0) (hn : l.length ≤ 8000000) (y0 : 0 ≤ y) (y1 : y ≤ 18446744073709551615) :
    Calls Tryz.prog 24 #[.pointer (some ⟨p, 0, none⟩), .int .u64 y] w (WPost G W0 p B l (Tk.codeL y.toNat) w) := by
  have hh := h
  obtain ⟨⟨v, bs, h1, h2, h4⟩, h3, h5⟩ := h
  obtain ⟨x, rfl⟩ := Int.eq_ofNat_of_zero_le y0
  have hx : x ≤ 18446744073709551615 := by omega
  obtain ⟨c1, c2, _⟩ := Tl.codeL_parts x hx
  have hz := tab_pos hT
  refine (Bw.count_any x p B l.length (valB l) v bs w h1 h2 (Tl.tab_eq (tab_below hT h3)) (by omega) hn hx).mono ?_
  rintro e w' ⟨rfl, v', bs', r1, r2, r3, r4⟩
  rw [Int.toNat_natCast]
  rw [← c1, ← c2] at r2
  rw [← c1] at r1
  exact ⟨rfl, hh.step hp h1 h2 h4 r1 r2 r3 r4⟩
theorem put_g (x k : Nat) (G : Nat → Prop) (W0 : World) (p B : Nat) (l : List Bool) (w : World) (h : WG G W0 p B l w) (hp : W0.heap.size ≤ p) (hn : l.length ≤ 8000000) (hk : k ≤ 64) (x1 : x ≤ 18446744073709551615) :
    Calls Tryz.prog 54 #[.pointer (some ⟨p, 0, none⟩), .int .u64 (x : Int), .int .i64 (k : Int)] w (WPost G W0 p B l (Tk.bitsL k x) w) := by
  have hh := h
  obtain ⟨⟨v, bs, h1, h2, h4⟩, h3, h5⟩ := h
  have c1 : (Tk.bitsL k x).length = k := Tk.bitsL_length k x
  have c2 : valB (Tk.bitsL k x) = x % 2 ^ k := Tl.valB_bitsL k x
  refine (Bw.put_any x p B l.length (valB l) k v bs w h1 h2 hk x1 (by omega)).mono ?_
  rintro e w' ⟨rfl, v', bs', r1, r2, r3, r4⟩
  have r2' : Bw.Laid bs' (l.length + (Tk.bitsL k x).length) (valB l * 2 ^ (Tk.bitsL k x).length + valB (Tk.bitsL k x)) := by rw [c1, c2]; exact r2
  have r1' : Bw.Wr w' p B v' bs' (l.length + (Tk.bitsL k x).length) := by rw [c1]; exact r1
  exact ⟨rfl, hh.step hp h1 h2 h4 r1' r2' r3 r4⟩
theorem bit_g (b : Bool) (x : Nat) (hx : x = b.toNat) (G : Nat → Prop) (W0 : World) (p B : Nat) (l : List Bool) (w : World) (h : WG G W0 p B l w) (hp : W0.heap.size ≤ p) (hn : l.length ≤ 8000000) :
    Calls Tryz.prog 53 #[.pointer (some ⟨p, 0, none⟩), .bool b] w (WPost G W0 p B l (Tk.bitsL 1 x) w) := by
  subst hx
  have hh := h
  obtain ⟨⟨v, bs, h1, h2, h4⟩, h3, h5⟩ := h
  have c1 : (Tk.bitsL 1 b.toNat).length = 1 := Tk.bitsL_length 1 _
  have c2 : valB (Tk.bitsL 1 b.toNat) = b.toNat := by rw [Tl.valB_bitsL]; cases b <;> rfl
  refine (Bw.bit_any b p B l.length (valB l) v bs w h1 h2 (by omega)).mono ?_
  rintro e w' ⟨rfl, v', bs', r1, r2, r3, r4⟩
  have r2' : Bw.Laid bs' (l.length + (Tk.bitsL 1 b.toNat).length) (valB l * 2 ^ (Tk.bitsL 1 b.toNat).length + valB (Tk.bitsL 1 b.toNat)) := by rw [c1, c2]; exact r2
  have r1' : Bw.Wr w' p B v' bs' (l.length + (Tk.bitsL 1 b.toNat).length) := by rw [c1]; exact r1
  exact ⟨rfl, hh.step hp h1 h2 h4 r1' r2' r3 r4⟩
theorem zig_any (n : Int) (w : World) (h1 : -9223372036854775808 ≤ n) (h2 : n ≤ 9223372036854775807) :
    Calls Tryz.prog 89 #[.int .i64 n] w fun e w' => e = .returned (.int .u64 (Tk.zigv n)) ∧ w = w' := by
  by_cases h : n < 0
  · have e1 : Tk.zigv n = (-n - 1) * 2 + 1 := by unfold Tk.zigv; rw [if_pos h]; omega
    have hE := Lib.hid e1
    have hs : IntKind.i64.signed = true := rfl
    have hx := Tk.not_i64 h1 h2
    have ho := Tk.or_one_even (m := -n - 1) (by omega) (by omega)
    clear e1
    go_enter Tryz.func89, Tryz.ntmps89
    go_wp2
    go_ret
    exact ⟨Tk.ret_int hE.out.symm, rfl⟩
  · have e1 : Tk.zigv n = n * 2 := by unfold Tk.zigv; rw [if_neg h]; omega
    have hE := Lib.hid e1
    clear e1
    go_enter Tryz.func89, Tryz.ntmps89
    go_wp2
    go_ret
    exact ⟨Tk.ret_int hE.out.symm, rfl⟩
theorem int_g (z : Int) (G : Nat → Prop) (W0 : World) (p B : Nat) (l : List Bool) (w : World) (h : WG G W0 p B l w) (hp : W0.heap.size ≤ p) (hT : Tk.Tab W0) (hn : l.length ≤ 8000000) (z0 : -9223372036854775808 ≤ z) (z1 : z ≤ 9223372036854775807) :
    Calls Tryz.prog 55 #[.pointer (some ⟨p, 0, none⟩), .int .i64 z] w (WPost G W0 p B l (intL z) w) := by
  obtain ⟨b0, b1⟩ := Tk.zig_bd z0 z1
  have HC := Lib.hid (count_g (Tk.zigv z) G W0 p B l w h hp hT hn b0 b1)
  obtain ⟨Z, hZ⟩ : ∃ Z, Tk.zigv z = Z := ⟨_, rfl⟩
  have HZ := Lib.hid hZ
  rw [hZ] at HC
  clear h b0 b1 hZ
  go_enter Tryz.func55, Tryz.ntmps55
  go_wp2_with fail
  refine (zig_any z w z0 z1).mono ?_
  rintro e w2 ⟨rfl, rfl⟩
  rw [HZ.out]
  go_wp2_with fail
  refine HC.out.mono ?_
  rintro e w3 ⟨rfl, r⟩
  have R := Lib.hid r
  clear r
  go_wp2_with fail
  go_end0
  exact ⟨rfl, by unfold intL; rw [HZ.out]; exact R.out⟩
end Go.Proofs.YtakomfnajeolcaaGreatDoor.Ch


/- Times as bits, told from where the next one is looked for; taken again. Nothing of the program stands here. -/
namespace Go.Proofs.YtakomfnajeolcaaGreatDoor.Ch
open Go.RowKit
set_option linter.unusedVariables false

/-- where the next time is looked for, behind these (the latest one first) -/
def nextT : List Int → Int
  | [] => 0
  | [a] => a + 1
  | a :: b :: _ => 2 * a - b
def timeL : List Int → Int → List Bool
  | a :: b :: R, t => intL (t - nextT (a :: b :: R))
  | R, t => Tk.codeL (t - nextT R).toNat
def timeF (bs : List Nat) : List Int → Nat × Int → (Int × Bool) × (Nat × Int)
  | a :: b :: R, s =>
    if (intF bs s).1 < -(nextT (a :: b :: R)) ∨ (intF bs s).1 > 1099511627776 - nextT (a :: b :: R) then ((0, false), (intF bs s).2)
    else ((nextT (a :: b :: R) + (intF bs s).1, true), (intF bs s).2)
  | R, s => ((nextT R + ((Tk.smallF bs 1099511627776 s).1 : Int), true), (Tk.smallF bs 1099511627776 s).2)
theorem timeF_back {bs : List Nat} (hb : ∀ b ∈ bs, b < 256) : ∀ (R : List Int) (t : Int) (p : Nat), 0 ≤ t → t ≤ 1099511627776 → (∀ x ∈ R, 0 ≤ x ∧ x ≤ 1099511627776) → (∀ a, R.head? = some a → a < t) → At bs p (timeL R t) →
    timeF bs R (p, 0) = ((t, true), (p + (timeL R t).length, 0))
  | [], t, p, h0, h1, _, _, h => by
    have e := At.small hb (m := 1099511627776) (x := (t - nextT []).toNat) (by simp [nextT]; omega) (by simp [nextT]; omega) h
    show ((nextT [] + ((Tk.smallF bs 1099511627776 (p, 0)).1 : Int), true), (Tk.smallF bs 1099511627776 (p, 0)).2) = _
    rw [e]
    simp only
    rw [Int.toNat_of_nonneg (by simp [nextT]; omega)]
    refine Prod.ext (Prod.ext ?_ rfl) rfl
    show nextT [] + (t - nextT []) = t
    omega
  | [a], t, p, h0, h1, hR, hl, h => by
    have ha := hl a rfl
    have hx := hR a (by simp)
    have e := At.small hb (m := 1099511627776) (x := (t - nextT [a]).toNat) (by simp [nextT]; omega) (by simp [nextT]; omega) h
    show ((nextT [a] + ((Tk.smallF bs 1099511627776 (p, 0)).1 : Int), true), (Tk.smallF bs 1099511627776 (p, 0)).2) = _
    rw [e]
    simp only
    rw [Int.toNat_of_nonneg (by simp [nextT]; omega)]
    refine Prod.ext (Prod.ext ?_ rfl) rfl
    show nextT [a] + (t - nextT [a]) = t
    omega
  | a :: b :: R, t, p, h0, h1, hR, hl, h => by
    have hx := hR a (by simp)
    have hy := hR b (by simp)
    have hn : nextT (a :: b :: R) = 2 * a - b := rfl
    have e := At.int hb (z := t - nextT (a :: b :: R)) (by rw [hn]; omega) (by rw [hn]; omega) h
    show (if (intF bs (p, 0)).1 < -(nextT (a :: b :: R)) ∨ (intF bs (p, 0)).1 > 1099511627776 - nextT (a :: b :: R) then ((0, false), (intF bs (p, 0)).2) else ((nextT (a :: b :: R) + (intF bs (p, 0)).1, true), (intF bs (p, 0)).2)) = _
    rw [e]
    simp only
    rw [if_neg (by omega)]
    refine Prod.ext (Prod.ext ?_ rfl) rfl
    show nextT (a :: b :: R) + (t - nextT (a :: b :: R)) = t
    omega
end Go.Proofs.YtakomfnajeolcaaGreatDoor.Ch


/- A row of numbers as bits, told from what it would be; taken again. Nothing of the program stands here. -/
namespace Go.Proofs.YtakomfnajeolcaaGreatDoor.Ch
open Go.RowKit
set_option linter.unusedVariables false

/-- a number modulo 2^64, and that as one that may be below 0 -/
def um (x : Int) : Int := x % 18446744073709551616
def sgn (x : Int) : Int := if um x < 9223372036854775808 then um x else um x - 18446744073709551616
theorem um_bd (x : Int) : 0 ≤ um x ∧ um x ≤ 18446744073709551615 := by unfold um; omega
theorem sgn_bd (x : Int) : -9223372036854775808 ≤ sgn x ∧ sgn x ≤ 9223372036854775807 := by
  have := um_bd x
  unfold sgn
  split <;> omega
theorem um_back {x n : Int} (h0 : 0 ≤ x) (h1 : x ≤ 18446744073709551615) : um (n + um (x - n)) = x := by unfold um; omega
theorem sgn_back {x n : Int} (h0 : 0 ≤ x) (h1 : x ≤ 18446744073709551615) : um (n + um (sgn (x - n))) = x := by
  unfold sgn um
  split <;> omega
/-- one number, where n was looked for -/
def numL (first : Bool) (n x : Int) : List Bool := if first then Tk.codeL (um (x - n)).toNat else intL (sgn (x - n))
def numF (bs : List Nat) (first : Bool) (n : Int) (s : Nat × Int) : Int × (Nat × Int) :=
  if first then (um (n + ((Tk.countF bs s).1 : Int)), (Tk.countF bs s).2) else (um (n + um (intF bs s).1), (intF bs s).2)
theorem numF_back {bs : List Nat} (hb : ∀ b ∈ bs, b < 256) {first : Bool} {n x : Int} {t : Nat} (h0 : 0 ≤ x) (h1 : x ≤ 18446744073709551615) (h : At bs t (numL first n x)) : numF bs first n (t, 0) = (x, (t + (numL first n x).length, 0)) := by
  have hu := um_bd (x - n)
  have hs := sgn_bd (x - n)
  cases first with
  | true =>
    have e := At.count hb (x := (um (x - n)).toNat) (by omega) h
    unfold numF
    rw [if_pos rfl, e]
    simp only
    rw [Int.toNat_of_nonneg hu.1, um_back h0 h1]
    rfl
  | false =>
    have e := At.int hb (z := sgn (x - n)) hs.1 hs.2 h
    unfold numF
    rw [if_neg (by decide), e]
    simp only
    rw [sgn_back h0 h1]
    rfl
/-- a row, where N was looked for -/
def rowL (first : Bool) : List Int → List Int → List Bool
  | n :: N, x :: r => numL first n x ++ rowL first N r
  | _, _ => []
def rowF (bs : List Nat) (first : Bool) : List Int → Nat × Int → List Int × (Nat × Int)
  | [], s => ([], s)
  | n :: N, s => ((numF bs first n s).1 :: (rowF bs first N (numF bs first n s).2).1, (rowF bs first N (numF bs first n s).2).2)
theorem rowF_length (bs : List Nat) (first : Bool) : ∀ (N : List Int) (s : Nat × Int), (rowF bs first N s).1.length = N.length
  | [], s => rfl
  | n :: N, s => by simp [rowF, rowF_length bs first N]
theorem rowF_back {bs : List Nat} (hb : ∀ b ∈ bs, b < 256) {first : Bool} : ∀ (N r : List Int) (t : Nat), N.length = r.length → (∀ x ∈ r, 0 ≤ x ∧ x ≤ 18446744073709551615) → At bs t (rowL first N r) →
    rowF bs first N (t, 0) = (r, (t + (rowL first N r).length, 0))
  | [], [], t, _, _, _ => by simp [rowF, rowL]
  | [], x :: r, t, h, _, _ => by simp at h
  | n :: N, [], t, h, _, _ => by simp at h
  | n :: N, x :: r, t, hl, hr, h => by
    obtain ⟨x0, x1⟩ := hr x (by simp)
    unfold rowL at h
    obtain ⟨h1, h2⟩ := h.cut
    have e1 := numF_back hb x0 x1 h1
    have e2 := rowF_back hb N r _ (by simpa using hl) (fun y hy => hr y (by simp [hy])) h2
    unfold rowF
    rw [e1]
    simp only
    rw [e2]
    refine Prod.ext rfl ?_
    show (_, _) = (_, _)
    simp only [rowL, List.length_append]
    congr 1
    omega
/-- what a row would be if it went on as in those ahead; n numbers -/
def nextR (n : Nat) : List (List Int) → List Int
  | [] => List.replicate n 0
  | [r] => r
  | a :: b :: _ => (a.zip b).map fun p => um (2 * p.1 - p.2)
theorem nextR_length {n : Nat} : ∀ (R : List (List Int)), (∀ r ∈ R, r.length = n) → (nextR n R).length = n
  | [], _ => by simp [nextR]
  | [r], h => h r (by simp)
  | a :: b :: _, h => by
    have h1 := h a (by simp)
    have h2 := h b (by simp)
    simp [nextR, h1, h2]
end Go.Proofs.YtakomfnajeolcaaGreatDoor.Ch


/- Samples behind each other as bits, by their times and rows; taken again. Nothing of the program stands here. -/
namespace Go.Proofs.YtakomfnajeolcaaGreatDoor.Ch
open Go.RowKit
set_option linter.unusedVariables false

def bodyL (n : Nat) : List Int → List (List Int) → List (Int × List Int) → List Bool
  | _, _, [] => []
  | R, Q, p :: l => (timeL R p.1 ++ rowL Q.isEmpty (nextR n Q) p.2) ++ bodyL n (p.1 :: R) (p.2 :: Q) l
/-- so many samples taken; none, where a time is none, or a row's histogram -/
def bodyF (bs : List Nat) (ok : List Int → Bool) (n : Nat) : Nat → List Int → List (List Int) → Nat × Int → Option (List (Int × List Int)) × (Nat × Int)
  | 0, _, _, s => (some [], s)
  | k + 1, R, Q, s =>
    if (timeF bs R s).1.2 = false ∨ ok (rowF bs Q.isEmpty (nextR n Q) (timeF bs R s).2).1 = false then (none, (rowF bs Q.isEmpty (nextR n Q) (timeF bs R s).2).2)
    else ((bodyF bs ok n k ((timeF bs R s).1.1 :: R) ((rowF bs Q.isEmpty (nextR n Q) (timeF bs R s).2).1 :: Q) (rowF bs Q.isEmpty (nextR n Q) (timeF bs R s).2).2).1.map fun l => ((timeF bs R s).1.1, (rowF bs Q.isEmpty (nextR n Q) (timeF bs R s).2).1) :: l,
      (bodyF bs ok n k ((timeF bs R s).1.1 :: R) ((rowF bs Q.isEmpty (nextR n Q) (timeF bs R s).2).1 :: Q) (rowF bs Q.isEmpty (nextR n Q) (timeF bs R s).2).2).2)
def RowR (n : Nat) (r : List Int) : Prop := r.length = n ∧ ∀ x ∈ r, 0 ≤ x ∧ x ≤ 18446744073709551615
theorem bodyF_back {bs : List Nat} (hb : ∀ b ∈ bs, b < 256) {ok : List Int → Bool} {n : Nat} : ∀ (l : List (Int × List Int)) (R : List Int) (Q : List (List Int)) (p : Nat), (∀ x ∈ R, 0 ≤ x ∧ x ≤ 1099511627776) → (∀ r ∈ Q, RowR n r) →
    (∀ q ∈ l, 0 ≤ q.1 ∧ q.1 ≤ 1099511627776 ∧ RowR n q.2 ∧ ok q.2 = true) → (l.map (·.1)).Pairwise (· < ·) → (∀ a, R.head? = some a → ∀ q ∈ l, a < q.1) → At bs p (bodyL n R Q l) →
    bodyF bs ok n l.length R Q (p, 0) = (some l, (p + (bodyL n R Q l).length, 0))
  | [], R, Q, p, _, _, _, _, _, _ => by simp [bodyF, bodyL]
  | q :: l, R, Q, p, hR, hQ, hl, hp, hh, h => by
    obtain ⟨a0, a1, a2, a3⟩ := hl q (by simp)
    unfold bodyL at h
    obtain ⟨h1, h2⟩ := h.cut
    obtain ⟨h3, h4⟩ := h1.cut
    have e1 := timeF_back hb R q.1 p a0 a1 hR (fun a ha => hh a ha q (by simp)) h3
    have e2 := rowF_back hb (first := Q.isEmpty) (nextR n Q) q.2 _ (by rw [nextR_length Q (fun r hr => (hQ r hr).1), a2.1]) a2.2 h4
    rw [List.length_append] at h2
    simp only [List.map_cons, List.pairwise_cons] at hp
    have e3 := bodyF_back hb (ok := ok) (n := n) l (q.1 :: R) (q.2 :: Q) _ (fun x hx => by
      rcases List.mem_cons.1 hx with rfl | hx
      · exact ⟨a0, a1⟩
      · exact hR x hx) (fun r hr => by
      rcases List.mem_cons.1 hr with rfl | hr
      · exact a2
      · exact hQ r hr) (fun x hx => hl x (by simp [hx])) hp.2 (fun a ha x hx => by
      simp at ha
      subst ha
      exact hp.1 x.1 (List.mem_map_of_mem hx)) h2
    rw [List.length_cons]
    unfold bodyF
    rw [e1]
    simp only
    rw [e2]
    simp only
    rw [if_neg (by simp [a3]), show p + (timeL R q.1).length + (rowL Q.isEmpty (nextR n Q) q.2).length = p + ((timeL R q.1).length + (rowL Q.isEmpty (nextR n Q) q.2).length) by omega, e3]
    refine Prod.ext (by simp) ?_
    show (_, _) = (_, _)
    simp only [bodyL, List.length_append]
    congr 1
    omega
end Go.Proofs.YtakomfnajeolcaaGreatDoor.Ch


/- Plain arithmetic for the seat's contracts: division by powers of two, rounded up and down. Nothing of the program stands here. -/
/-! Plain arithmetic for the seat's contracts: division by powers of two, rounded up and down. Nothing of the program stands here. -/
namespace Go.Proofs.YtakomfnajeolcaaGreatDoor

/-- a number divided by a power of two, rounded up -/
def upv (n : Int) (k : Nat) : Int := -((-n) / 2 ^ k)

theorem two_pow_pos' (k : Nat) : (0 : Int) < 2 ^ k := Int.pow_pos (by decide)

theorem upv_exact {n : Int} {k : Nat} (h : n / 2 ^ k * 2 ^ k = n) : n / 2 ^ k = upv n k := by
  unfold upv
  have hp := two_pow_pos' k
  generalize (2 : Int) ^ k = p at *
  have e : -n = -(n / p) * p := by rw [Int.neg_mul, h]
  rw [e, Int.mul_ediv_cancel _ (by omega)]
  omega

theorem upv_more {n : Int} {k : Nat} (h : ¬ n / 2 ^ k * 2 ^ k = n) : n / 2 ^ k + 1 = upv n k := by
  unfold upv
  have hp := two_pow_pos' k
  generalize (2 : Int) ^ k = p at *
  have h1 := Int.mul_ediv_add_emod n p
  have h2 := Int.emod_nonneg n (show p ≠ 0 by omega)
  have h3 := Int.emod_lt_of_pos n hp
  have hc : p * (n / p) = n / p * p := Int.mul_comm _ _
  have hr : 0 < n % p := by omega
  have hm : p * (-(n / p) - 1) = -(p * (n / p)) - p := by rw [Int.mul_sub, Int.mul_neg, Int.mul_one]
  have e : -n = (p - n % p) + p * (-(n / p) - 1) := by omega
  have hq : (p - n % p) / p = 0 := Int.ediv_eq_zero_of_lt (by omega) (by omega)
  have e2 : (-n) / p = (p - n % p) / p + (-(n / p) - 1) := by
    conv => lhs; rw [e]
    exact Int.add_mul_ediv_left _ _ (by omega)
  rw [e2, hq]
  omega

/-- the bounds that the walk asks of 'down << bits' -/
theorem back_bounds (n : Int) (k : Nat) : n / 2 ^ k * 2 ^ k ≤ n ∧ n < n / 2 ^ k * 2 ^ k + 2 ^ k := by
  have hp := two_pow_pos' k
  generalize (2 : Int) ^ k = p at *
  have h1 := Int.mul_ediv_add_emod n p
  have h2 := Int.emod_nonneg n (show p ≠ 0 by omega)
  have h3 := Int.emod_lt_of_pos n hp
  have hc : p * (n / p) = n / p * p := Int.mul_comm _ _
  omega

theorem pow_le_60 {k : Nat} (h : k ≤ 60) : (2 : Int) ^ k ≤ 1152921504606846976 := by
  have h1 : (2 : Nat) ^ k ≤ 2 ^ 60 := Nat.pow_le_pow_right (by decide) h
  have h2 : ((2 ^ k : Nat) : Int) ≤ ((2 ^ 60 : Nat) : Int) := by exact_mod_cast h1
  simpa using h2

theorem div_bounds (n : Int) (k : Nat) (B : Int) (h1 : -B ≤ n) (h2 : n ≤ B) : -B ≤ n / 2 ^ k ∧ n / 2 ^ k ≤ B := by
  have hp := two_pow_pos' k
  generalize (2 : Int) ^ k = p at *
  constructor
  · rw [Int.le_ediv_iff_mul_le hp]
    have : (-B) * p ≤ (-B) * 1 := Int.mul_le_mul_of_nonpos_left (show -B ≤ 0 by omega) (show (1 : Int) ≤ p by omega)
    omega
  · have h := Int.ediv_le_ediv hp h2
    have hB : 0 ≤ B := by omega
    have h0 : B / p ≤ B := Int.ediv_le_self p hB
    omega
end Go.Proofs.YtakomfnajeolcaaGreatDoor
/-! Plain arithmetic for the seat's contracts: sums of many numbers, and when they are too great. Nothing of the program stands here. -/
namespace Go.Proofs.YtakomfnajeolcaaGreatDoor

/-- the sum of the first k numbers of f -/
def sumTo (f : Nat → Int) : Nat → Int
  | 0 => 0
  | k + 1 => sumTo f k + f k
def maxU : Int := 18446744073709551615
def addV (f : Nat → Int) (n : Nat) : Int := if sumTo f n ≤ maxU then sumTo f n else 0
def addE (f : Nat → Int) (n : Nat) : Int := if sumTo f n ≤ maxU then 0 else 5
def inI64 (s : Int) : Prop := -9223372036854775808 ≤ s ∧ s ≤ 9223372036854775807
instance (s : Int) : Decidable (inI64 s) := by unfold inI64; infer_instance
def intV (s : Int) : Int := if inI64 s then s else 0
def intE (s : Int) : Int := if inI64 s then 0 else 5

theorem sumTo_mono (f : Nat → Int) (n : Nat) (h : ∀ i, i < n → 0 ≤ f i) : ∀ k, k ≤ n → 0 ≤ sumTo f k ∧ (∀ j, j ≤ k → sumTo f j ≤ sumTo f k) := by
  intro k
  induction k with
  | zero => exact fun _ => ⟨Int.le_refl _, fun j hj => by rw [show j = 0 by omega]; exact Int.le_refl _⟩
  | succ k ih =>
    intro hk
    obtain ⟨i1, i2⟩ := ih (by omega)
    have hf := h k (by omega)
    refine ⟨by show 0 ≤ sumTo f k + f k; omega, fun j hj => ?_⟩
    by_cases e : j = k + 1
    · rw [e]; exact Int.le_refl _
    · have := i2 j (by omega)
      show sumTo f j ≤ sumTo f k + f k
      omega

theorem add_over {f : Nat → Int} {n k : Nat} (h : ∀ i, i < n → 0 ≤ f i) (hk : k < n) (ho : maxU < sumTo f k + f k) : addV f n = 0 ∧ addE f n = 5 := by
  have h1 := (sumTo_mono f n h n (Nat.le_refl _)).2 (k + 1) (by omega)
  have h2 : sumTo f (k + 1) = sumTo f k + f k := rfl
  unfold addV addE
  rw [if_neg (by omega), if_neg (by omega)]
  exact ⟨rfl, rfl⟩
theorem add_fits {f : Nat → Int} {n : Nat} (ho : sumTo f n ≤ maxU) : addV f n = sumTo f n ∧ addE f n = 0 := by
  unfold addV addE
  rw [if_pos ho, if_pos ho]
  exact ⟨rfl, rfl⟩

theorem int_fits {s : Int} (h : inI64 s) : intV s = s ∧ intE s = 0 := by unfold intV intE; rw [if_pos h, if_pos h]; exact ⟨rfl, rfl⟩
theorem int_over {s : Int} (h : ¬ inI64 s) : intV s = 0 ∧ intE s = 5 := by unfold intV intE; rw [if_neg h, if_neg h]; exact ⟨rfl, rfl⟩

end Go.Proofs.YtakomfnajeolcaaGreatDoor


/- Plain arithmetic of buckets' bounds: schemas, units, indices. Nothing of the program stands here. -/
namespace Go.Proofs.YtakomfnajeolcaaGreatDoor

def rightB (s : Int) : Bool := decide (-4 ≤ s ∧ s ≤ 8)
/-- a bucket's width in units -/
def uw (s : Int) : Int := 2 ^ (8 - s).toNat
/-- where a bucket ends -/
def un (s i : Int) : Int := i * uw s
/-- the bucket of a place -/
def cl (s u : Int) : Int := upv u (8 - s).toNat
def mostV (s : Int) : Int := if rightB s = true then 262144 / uw s else 0
def leastV (s : Int) : Int := 1 - mostV s
def inB (s i : Int) : Bool := decide (leastV s ≤ i ∧ i ≤ mostV s)
/-- is there a bucket of the schema t that has the bucket i of the schema f? -/
def okTo (f t : Int) : Bool := rightB f && (rightB t && decide (t ≤ f))
def toV (f t i : Int) : Int := upv i (f - t).toNat
def offB (s u : Int) : Bool := !rightB s || (decide (u ≤ -262144) || decide (262144 < u))

theorem right_iff {s : Int} : rightB s = true ↔ -4 ≤ s ∧ s ≤ 8 := by unfold rightB; simp
theorem right_yes {s : Int} (h : rightB s = true) : -4 ≤ s ∧ s ≤ 8 := right_iff.1 h
theorem schemas {s : Int} (h : rightB s = true) : s = -4 ∨ s = -3 ∨ s = -2 ∨ s = -1 ∨ s = 0 ∨ s = 1 ∨ s = 2 ∨ s = 3 ∨ s = 4 ∨ s = 5 ∨ s = 6 ∨ s = 7 ∨ s = 8 := by
  have := right_yes h
  omega
theorem uw_at : uw (-4) = 4096 ∧ uw (-3) = 2048 ∧ uw (-2) = 1024 ∧ uw (-1) = 512 ∧ uw 0 = 256 ∧ uw 1 = 128 ∧ uw 2 = 64 ∧ uw 3 = 32 ∧ uw 4 = 16 ∧ uw 5 = 8 ∧ uw 6 = 4 ∧ uw 7 = 2 ∧ uw 8 = 1 := by decide
theorem uw_cases {s : Int} (h : rightB s = true) : uw s = 4096 ∨ uw s = 2048 ∨ uw s = 1024 ∨ uw s = 512 ∨ uw s = 256 ∨ uw s = 128 ∨ uw s = 64 ∨ uw s = 32 ∨ uw s = 16 ∨ uw s = 8 ∨ uw s = 4 ∨ uw s = 2 ∨ uw s = 1 := by
  obtain ⟨a, b, c, d, e, f, g, i, j, k, l, m, n⟩ := uw_at
  rcases schemas h with rfl | rfl | rfl | rfl | rfl | rfl | rfl | rfl | rfl | rfl | rfl | rfl | rfl <;> omega
theorem uw_bd {s : Int} (h : rightB s = true) : 1 ≤ uw s ∧ uw s ≤ 4096 := by
  rcases uw_cases h with e | e | e | e | e | e | e | e | e | e | e | e | e <;> omega

theorem un_bd {s i : Int} (h : rightB s = true) (B : Int) (h1 : -B ≤ i) (h2 : i ≤ B) : -(B * 4096) ≤ un s i ∧ un s i ≤ B * 4096 := by
  unfold un
  rcases uw_cases h with e | e | e | e | e | e | e | e | e | e | e | e | e <;> rw [e] <;> omega
theorem un_pred (s i : Int) : un s (i - 1) = un s i - uw s := by unfold un; rw [Int.sub_mul, Int.one_mul]
/-- the bucket of a place, as a floor -/
theorem cl_eq (s u : Int) : cl s u = -((-u) / uw s) := rfl
theorem cl_bounds {s : Int} (h : rightB s = true) (u : Int) : un s (cl s u - 1) < u ∧ u ≤ un s (cl s u) := by
  rw [un_pred, cl_eq]
  unfold un
  rcases uw_cases h with e | e | e | e | e | e | e | e | e | e | e | e | e <;> rw [e] <;> omega
theorem cl_in {s : Int} (h : rightB s = true) {u : Int} (h1 : -262144 < u) (h2 : u ≤ 262144) : inB s (cl s u) = true := by
  unfold inB leastV mostV
  rw [if_pos h, cl_eq, decide_eq_true_eq]
  rcases uw_cases h with e | e | e | e | e | e | e | e | e | e | e | e | e <;> rw [e] <;> omega
theorem most_bd (s : Int) : 0 ≤ mostV s ∧ mostV s ≤ 262144 := by
  unfold mostV
  split
  · rename_i h
    rcases uw_cases h with e | e | e | e | e | e | e | e | e | e | e | e | e <;> rw [e] <;> omega
  · omega
theorem in_iff {s i : Int} (h : rightB s = true) : inB s i = true ↔ -262144 < un s i ∧ un s i ≤ 262144 := by
  unfold inB leastV mostV un
  rw [if_pos h, decide_eq_true_eq]
  rcases uw_cases h with e | e | e | e | e | e | e | e | e | e | e | e | e <;> rw [e] <;> omega
theorem in_bd {s i : Int} (h : inB s i = true) : -262144 < i ∧ i ≤ 262144 := by
  have := most_bd s
  unfold inB leastV at h
  rw [decide_eq_true_eq] at h
  omega
/-- a coarser bucket in units: as the finer one's end is cut up -/
theorem to_cl {f t i : Int} (hf : rightB f = true) (ht : rightB t = true) (h : t ≤ f) : toV f t i = cl t (un f i) := by
  have bf := right_yes hf
  have bt := right_yes ht
  unfold toV cl upv un uw
  have e : (8 - t).toNat = (f - t).toNat + (8 - f).toNat := by omega
  have hp := two_pow_pos' (8 - f).toNat
  rw [e, Int.pow_add, ← Int.neg_mul, Int.mul_ediv_mul_of_pos_left _ _ hp]
theorem to_bd {f t i : Int} (hi : inB f i = true) : -262144 < toV f t i ∧ toV f t i ≤ 262144 := by
  have b := in_bd hi
  unfold toV
  have h1 := div_bounds (-i) (f - t).toNat 262144 (by omega) (by omega)
  unfold upv
  have hp := two_pow_pos' (f - t).toNat
  have h2 : (-i) / 2 ^ (f - t).toNat ≤ 262143 := by
    have h3 := Int.ediv_le_ediv hp (show -i ≤ 262143 by omega)
    have h4 : (262143 : Int) / 2 ^ (f - t).toNat ≤ 262143 := Int.ediv_le_self _ (by decide)
    omega
  omega
end Go.Proofs.YtakomfnajeolcaaGreatDoor
