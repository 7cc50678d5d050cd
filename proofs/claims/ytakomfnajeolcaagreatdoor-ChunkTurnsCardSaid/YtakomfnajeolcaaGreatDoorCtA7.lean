import Derived.Test.YtakomfnajeolcaaGreatDoorCtA6
set_option linter.unusedVariables false
/- What a writer of bits holds in memory, what laying a bit leaves as it was, and the contract of one bit laid. -/
namespace Go.Proofs.YtakomfnajeolcaaGreatDoor.Bw
open Go.RowKit

theorem ret_int {k : IntKind} {a b : Int} (h : a = b) : Ending.returned (.int k a) = .returned (.int k b) := by rw [h]
theorem ret_val {k : IntKind} {a b : Int} (h : a = b) : Value.int k a = .int k b := by rw [h]

/-- bytes as cells -/
def cellsOf (bs : List Nat) : List Value := bs.map fun b => Value.int IntKind.u8 (Int.ofNat b)
theorem cellsOf_length (bs : List Nat) : (cellsOf bs).length = bs.length := by unfold cellsOf; simp

/-- the writer at block p holds the slice v, whose bytes are bs, and n bits; its bytes lie from block B on -/
structure Wr (w : World) (p B : Nat) (v : Value) (bs : List Nat) (n : Nat) : Prop where
  pb : p < B
  bw : B ≤ w.heap.size
  c0 : w.cell? ⟨p, 0, none⟩ = some v
  c1 : w.cell? ⟨p, 1, none⟩ = some (.int .i64 (n : Int))
  f0 : w.frozen? ⟨p, 0, none⟩ = false
  f1 : w.frozen? ⟨p, 1, none⟩ = false
  own : w.ownsRow B 5 1 v bs.length (cellsOf bs)

/-- of what was there, only block p and the row's block may have turned -/
structure Step (p : Nat) (r : Option Nat) (w w' : World) : Prop where
  os : w'.os = w.os
  tape : w'.tape = w.tape
  output : w'.output = w.output
  size : w.heap.size ≤ w'.heap.size
  block : ∀ k, k < w.heap.size → k ≠ p → r ≠ some k → w'.heap[k]? = w.heap[k]?

theorem Tryz.info5 : (Tryz.prog.info? 5).map (fun i => (i.zero, i.size, i.bytes)) = some (some (.int .u8 0), 1, 1) := by kernel_rfl

/-- where the row of v' lies: in v's own block, or in a new one -/
def Own (v v' : Value) (w : World) : Prop := ∀ g, v'.ownBlock = some g → v.ownBlock = some g ∨ w.heap.size ≤ g

theorem ownsRow_base {w : World} {B B' : Nat} {e : TypeId} {size : Nat} {v : Value} {n : Nat} {xs : List Value} (h : w.ownsRow B' e size v n xs) (hB : B ≤ B') : w.ownsRow B e size v n xs := by
  obtain ⟨h1, h2⟩ := h
  refine ⟨h1, ?_⟩
  rcases h2 with h2 | ⟨g, cap, cur, hv, hg, r⟩
  · exact .inl h2
  · exact .inr ⟨g, cap, cur, hv, by omega, r⟩

theorem grown_alloc {w w1 : World} {o : Obj} {r : Option Nat} (h : (w.alloc o).grownBy w1 r) : w.grownBy w1 r := by
  obtain ⟨h1, h2, h3, h4, h5⟩ := h
  refine ⟨h1, h2, h3, ?_, fun k hk hr => ?_⟩
  · simp at h4; omega
  · rw [h5 k (by simp; omega) hr]
    exact Below.heap_alloc w o k hk

theorem grown_weak {w w1 : World} {r : Option Nat} (h : w.grownBy w1 none) : w.grownBy w1 r :=
  ⟨h.os, h.tape, h.output, h.size, fun k hk _ => h.block k hk (by simp)⟩

/-- behind the append, and the store of the new slice: the writer still, with a byte more -/
theorem pushed {p B n : Nat} {v v' : Value} {bs : List Nat} {w w1 : World} (hw : Wr w p B v bs n) (hown : w1.ownsRow B 5 1 v' (bs.length + 1) (cellsOf bs ++ [.int .u8 0])) (hg : w.grownBy w1 v.ownBlock) :
    Wr (w1.setCell ⟨p, 0, none⟩ v') p B v' (bs ++ [0]) n ∧ Step p v.ownBlock w (w1.setCell ⟨p, 0, none⟩ v') := by
  obtain ⟨pb, bw, c0, c1, f0, f1, own⟩ := hw
  have hne : v.ownBlock ≠ some p := fun h => by have := (own.lt p h).1; omega
  have hp : w1.heap[p]? = w.heap[p]? := hg.block p (by omega) (fun h => hne h.symm)
  have d0 : w1.cell? ⟨p, 0, none⟩ = some v := (World.cell?_of_block hp).trans c0
  have d1 : w1.cell? ⟨p, 1, none⟩ = some (.int .i64 n) := (World.cell?_of_block hp).trans c1
  have e0 : w1.frozen? ⟨p, 0, none⟩ = false := (World.frozen?_of_block hp).trans f0
  have e1 : w1.frozen? ⟨p, 1, none⟩ = false := (World.frozen?_of_block hp).trans f1
  have hs := hg.size
  refine ⟨⟨pb, by simp; omega, by simp [go_sem, d0], by simp [go_sem, d1], by simp [go_sem, e0], by simp [go_sem, e1], ?_⟩, ?_⟩
  · have h := ownsRow_setCell_below hown (a := ⟨p, 0, none⟩) pb v'
    have e : cellsOf (bs ++ [0]) = cellsOf bs ++ [.int .u8 0] := by unfold cellsOf; simp
    have e2 : (bs ++ [0]).length = bs.length + 1 := by simp
    rw [e, e2]
    exact h
  · refine ⟨hg.os, hg.tape, hg.output, by simp; omega, fun k hk hkp hr => ?_⟩
    rw [Below.heap_setCell w1 ⟨p, 0, none⟩ v' k hkp]
    exact hg.block k hk (fun h => hr h.symm)

theorem wr_form {p B n : Nat} {v : Value} {bs : List Nat} {w : World} (h : Wr w p B v bs n) (hb : 0 < bs.length) :
    ∃ g cap m, m = bs.length ∧ v = .slice (some ⟨g, 0, none⟩) m cap ∧ B ≤ g ∧ g < w.heap.size := by
  rcases h.own.2 with ⟨_, hz⟩ | ⟨g, cap, cur, hv, hBg, hg, _⟩
  · omega
  · exact ⟨g, cap, _, rfl, hv, hBg, (h.own.lt g (by rw [hv]; rfl)).2⟩

/-- the byte at a place, and that it may be written -/
theorem wr_byte {p B n g cap m : Nat} {bs : List Nat} {w : World} (hm : m = bs.length) (h : Wr w p B (.slice (some ⟨g, 0, none⟩) m cap) bs n) {k b : Nat} (hk : bs[k]? = some b) :
    w.cell? ⟨g, k, none⟩ = some (.int .u8 (b : Int)) ∧ w.frozen? ⟨g, k, none⟩ = false := by
  subst hm
  obtain ⟨hl, he⟩ := List.getElem?_eq_some_iff.mp hk
  refine ⟨?_, h.own.frozenAt k⟩
  rw [h.own.cellAt k (by omega)]
  unfold cellsOf
  rw [List.getElem?_map, hk]
  rfl

theorem Step.refl (p : Nat) (r : Option Nat) (w : World) : Step p r w w := ⟨rfl, rfl, rfl, Nat.le_refl _, fun _ _ _ _ => rfl⟩
theorem Step.trans {p : Nat} {v v' : Value} {w w1 w2 : World} (h : Step p v.ownBlock w w1) (o : Own v v' w) (k : Step p v'.ownBlock w1 w2) : Step p v.ownBlock w w2 :=
  ⟨k.os.trans h.os, k.tape.trans h.tape, k.output.trans h.output, Nat.le_trans h.size k.size, fun j hj hp hr =>
    (k.block j (Nat.lt_of_lt_of_le hj h.size) hp (fun e => (o j e).elim hr (fun e' => by omega))).trans (h.block j hj hp hr)⟩
theorem Own.trans {p : Nat} {r : Option Nat} {v v' v'' : Value} {w w1 : World} (h : Own v v' w) (s : Step p r w w1) (k : Own v' v'' w1) : Own v v'' w := fun g hg => by
  rcases k g hg with h1 | h1
  · exact h g h1
  · exact .inr (Nat.le_trans s.size h1)
theorem Own.refl (v : Value) (w : World) : Own v v w := fun _ h => .inl h

/-- the byte stored, and the count of bits -/
theorem stored {p B n g cap m b c : Nat} {cs : List Nat} {W : World} {nb : Int} (hm : m = (cs ++ [b]).length) (hP : Wr W p B (.slice (some ⟨g, 0, none⟩) m cap) (cs ++ [b]) n) (hk : cs.length = n / 8) (hc : nb = (c : Int)) :
    Wr ((W.setCell ⟨g, n / 8, none⟩ (.int .u8 nb)).setCell ⟨p, 1, none⟩ (.int .i64 ((n : Int) + 1))).drew p B (.slice (some ⟨g, 0, none⟩) m cap) (cs ++ [c]) (n + 1) ∧
      Step p (some g) W ((W.setCell ⟨g, n / 8, none⟩ (.int .u8 nb)).setCell ⟨p, 1, none⟩ (.int .i64 ((n : Int) + 1))).drew := by
  subst hm hc
  obtain ⟨pb, bw, c0, c1, f0, f1, own⟩ := hP
  have hgp := (own.lt g rfl).1
  obtain ⟨s1, s2⟩ := own.stored (n / 8) (.int .u8 (c : Int))
  have e : (cellsOf (cs ++ [b])).set (n / 8) (.int .u8 (c : Int)) = cellsOf (cs ++ [c]) := by
    unfold cellsOf
    rw [List.map_append, List.map_append, List.set_append]
    simp [hk]
  rw [e] at s1
  have hl : (cs ++ [c]).length = (cs ++ [b]).length := by simp
  refine ⟨⟨pb, by simpa using bw, ?_, ?_, ?_, ?_, ?_⟩, ?_⟩
  · show ((W.setCell ⟨g, n / 8, none⟩ (.int .u8 (c : Int))).setCell ⟨p, 1, none⟩ (.int .i64 ((n : Int) + 1))).cell? ⟨p, 0, none⟩ = _
    rw [World.cell?_setCell_other _ _ _ _ (by simp), World.cell?_setCell_other _ _ _ _ (by first | (simp; done) | (simp; omega))]
    exact c0
  · have h1 : (W.setCell ⟨g, n / 8, none⟩ (.int .u8 (c : Int))).cell? ⟨p, 1, none⟩ = some (.int .i64 (n : Int)) := by
      rw [World.cell?_setCell_other _ _ _ _ (by first | (simp; done) | (simp; omega))]; exact c1
    simp [go_sem, h1]
  · simp [go_sem, f0]
  · simp [go_sem, f1]
  · rw [hl]
    exact (ownsRow_setCell_below s1 (a := ⟨p, 1, none⟩) pb _).drew
  · refine ⟨rfl, rfl, rfl, by simp, fun k hk hkp hr => ?_⟩
    show ((W.setCell ⟨g, n / 8, none⟩ (.int .u8 (c : Int))).setCell ⟨p, 1, none⟩ (.int .i64 ((n : Int) + 1))).heap[k]? = W.heap[k]?
    rw [Below.heap_setCell _ ⟨p, 1, none⟩ _ k hkp, Below.heap_setCell W ⟨g, n / 8, none⟩ _ k (fun h => hr (by rw [h]))]

/-- what a bit laid leaves -/
def LayPost (p B n V : Nat) (v : Value) (w : World) (e : Ending) (w' : World) : Prop :=
  e = .returned (.tuple #[]) ∧ ∃ v' bs', Wr w' p B v' bs' n ∧ Laid bs' n V ∧ Step p v.ownBlock w w' ∧ Own v v' w

theorem or_byte {b k j : Nat} {X : Int} (hX : X = (k : Int)) (hb : b < 256) (hlt : b + k * 2 ^ j < 256) (hor : (b ||| k * 2 ^ j) = b + k * 2 ^ j) :
    bits .or .u8 (b : Int) (X * 2 ^ j % 256) = ((b + k * 2 ^ j : Nat) : Int) := by
  have e : X * 2 ^ j % 256 = ((k * 2 ^ j : Nat) : Int) := by
    have h : X * 2 ^ j = ((k * 2 ^ j : Nat) : Int) := by rw [hX]; simp
    rw [h]; omega
  rw [e, u8_or_nat _ _ hb (by omega), hor]

set_option maxHeartbeats 400000 in
theorem lay_same (x : Int) (p B n V : Nat) (v : Value) (bs : List Nat) (w : World) (hw : Wr w p B v bs n) (hl : Laid bs n V) (h8 : ¬ n % 8 = 0) (x0 : 0 ≤ x) (x1 : x ≤ 18446744073709551615) (hn : n ≤ 10000000) :
    Calls Tryz.prog 88 #[.pointer (some ⟨p, 0, none⟩), .int .u64 x] w (LayPost p B (n + 1) (V * 2 + (x % 2).toNat) v w) := by
  have ht : ((n : Int) % 8 == 0) = false := by simp; omega
  obtain ⟨X, hX⟩ : ∃ X, bits .and .u64 x 1 = X := ⟨_, rfl⟩
  have hX' : X = x % 2 := by rw [← hX]; exact and_one_u64 x x0 x1
  have X0 : 0 ≤ X := by omega
  have X1 : X ≤ 1 := by omega
  have XN : X = (X.toNat : Int) := by omega
  have HX := Lib.hid hX'
  have HXN := Lib.hid XN
  have hlen := hl.1
  have hne : bs ≠ [] := by intro h; rw [h] at hlen; simp at hlen; omega
  obtain ⟨cs, b, rfl⟩ : ∃ cs b, bs = cs ++ [b] := ⟨bs.dropLast, bs.getLast hne, (List.dropLast_concat_getLast hne).symm⟩
  obtain ⟨g, cap, m, hm, rfl, hBg, hgs⟩ := wr_form hw (by simp)
  obtain ⟨hk, hb256, hor, hlt, hlaid⟩ := hl.same (x := X.toNat) h8 (by omega)
  have hgp : g ≠ p := by have := hw.pb; omega
  have hP := hw
  obtain ⟨kb, fb⟩ := wr_byte hm hP (k := n / 8) (b := b) (by rw [← hk]; simp)
  have hml : m = cs.length + 1 := by rw [hm]; simp
  have hm1 : (n : Int) / 8 < (m : Int) := by omega
  have HP := Lib.hid hP
  have HM := Lib.hid hm
  have HK := Lib.hid hk
  obtain ⟨_, _, kp0, kp1, fp0, fp1, _⟩ := hP
  obtain ⟨nb, hnb⟩ : ∃ nb, bits .or .u8 (b : Int) (X * 2 ^ (7 - n % 8) % 256) = nb := ⟨_, rfl⟩
  have HN : Hid (nb = ((b + X.toNat * 2 ^ (7 - n % 8) : Nat) : Int)) := hnb.symm.trans (or_byte XN hb256 hlt hor)
  have HLA := Lib.hid hlaid
  clear hw hl h8 hX' XN hlen hne hm hk hb256 hor hlt hlaid hml
  go_enter Tryz.func88, Tryz.ntmps88
  go_wp2_with fail
  go_region
  all_goals
    go_wp2_with fail
    go_end0
    obtain ⟨r1, r2⟩ := stored HM.out HP.out HK.out HN.out
    have hv : (x % 2).toNat = X.toNat := by rw [HX.out]
    exact ⟨rfl, _, _, r1, by rw [hv]; exact HLA.out, r2, Own.refl _ _⟩

set_option maxHeartbeats 400000 in
theorem lay_nil (x : Int) (p B n V : Nat) (bs : List Nat) (w : World) (hw : Wr w p B (.slice none 0 0) bs n) (hb0 : bs = []) (hl : Laid bs n V) (h8 : n % 8 = 0) (x0 : 0 ≤ x) (x1 : x ≤ 18446744073709551615) (hn : n ≤ 10000000) :
    Calls Tryz.prog 88 #[.pointer (some ⟨p, 0, none⟩), .int .u64 x] w (LayPost p B (n + 1) (V * 2 + (x % 2).toNat) (.slice none 0 0) w) := by
  have ht : ((n : Int) % 8 == 0) = true := by simp; omega
  obtain ⟨X, hX⟩ : ∃ X, bits .and .u64 x 1 = X := ⟨_, rfl⟩
  have hX' : X = x % 2 := by rw [← hX]; exact and_one_u64 x x0 x1
  have X0 : 0 ≤ X := by omega
  have X1 : X ≤ 1 := by omega
  have XN : X = (X.toNat : Int) := by omega
  have HX := Lib.hid hX'
  have HXN := Lib.hid XN
  have hlen := hl.1
  obtain ⟨i0, hi, hz0, hz1, hz2⟩ := info_parts Tryz.info5
  have HW := Lib.hid hw
  obtain ⟨hk0, hor0, hlt0, hlaid0⟩ := hl.fresh (x := X.toNat) h8 (by omega)
  have H8 := Lib.hid h8
  obtain ⟨pb, bw, c0, c1, f0, f1, own⟩ := hw
  clear own h8
  go_enter Tryz.func88, Tryz.ntmps88
  go_wp2_with (at_builtin; refine wpList_append_grows _ rfl _ _ 26 rfl 5 i0 (.int .u8 0) 1 1 Tryz.underlying26 hi hz0 hz1 hz2 rfl (by decide) none 0 0 [] rfl (fun _ => ⟨rfl, rfl⟩) rfl (by simp) ⟨w.heap.size, 0, none⟩ 1 1 [.int .u8 0] rfl rfl ?c1 ?c2 ?c3 ?c4 ?c5 ?_)
  case c1 => exact cell_one_new _ _ _
  case c2 => simp [Value.oneCell']
  case c3 => omega
  case c4 => unfold maxLen; omega
  case c5 => omega
  intro v' w1 hown0 hgrow
  have hgr : w.grownBy w1 (Value.ownBlock (.slice none 0 0)) := grown_alloc hgrow
  have hown : Own (.slice none 0 0) v' w := fun g hg => .inr (by have := (hown0.lt g hg).1; first | omega | (simp at this; omega))
  have hown' : w1.ownsRow B 5 1 v' (bs.length + 1) (cellsOf bs ++ [.int .u8 0]) := by rw [hb0]; exact ownsRow_base hown0 (by first | omega | (simp; omega))
  have hpr : some p ≠ Value.ownBlock (.slice none 0 0) := by simp [Value.ownBlock]
  clear hown0 hgrow hb0
  obtain ⟨hP, hS⟩ := pushed HW.out hown' hgr
  have d0 : w1.cell? ⟨p, 0, none⟩ = some (.slice none 0 0) := (World.cell?_of_block (hgr.block p (by omega) hpr)).trans c0
  have e0 : w1.frozen? ⟨p, 0, none⟩ = false := (World.frozen?_of_block (hgr.block p (by omega) hpr)).trans f0
  obtain ⟨g, cap, m, hm, rfl, hBg, hgs⟩ := wr_form hP (by simp)
  have hgp : g ≠ p := by omega
  obtain ⟨cs, hcs⟩ : ∃ cs, cs = bs := ⟨_, rfl⟩
  rw [← hcs] at hP hm
  have hk : cs.length = n / 8 := by rw [hcs]; exact hk0
  have hPm := And.intro hP hm
  clear hP hm
  obtain ⟨b, hb, hP, hm⟩ : ∃ b : Nat, b = 0 ∧ Wr (w1.setCell ⟨p, 0, none⟩ (.slice (some ⟨g, 0, none⟩) m cap)) p B (.slice (some ⟨g, 0, none⟩) m cap) (cs ++ [b]) n ∧ m = (cs ++ [b]).length := ⟨0, rfl, hPm.1, hPm.2⟩
  clear hPm
  have e7 : 7 - n % 8 = 7 := by rw [H8.out]
  have hb256 : b < 256 := by omega
  have hor : (b ||| X.toNat * 2 ^ (7 - n % 8)) = b + X.toNat * 2 ^ (7 - n % 8) := by rw [hb, e7, Nat.zero_add]; exact hor0
  have hlt : b + X.toNat * 2 ^ (7 - n % 8) < 256 := by rw [hb, e7, Nat.zero_add]; exact hlt0
  have hlaid : Laid (cs ++ [b + X.toNat * 2 ^ (7 - n % 8)]) (n + 1) (V * 2 + X.toNat) := by rw [hb, e7, Nat.zero_add, hcs]; exact hlaid0
  obtain ⟨kb, fb⟩ := wr_byte hm hP (k := n / 8) (b := b) (by rw [← hk]; simp)
  have hml : m = cs.length + 1 := by rw [hm]; simp
  have hm1 : (n : Int) / 8 < (m : Int) := by omega
  have HP := Lib.hid hP
  have HM := Lib.hid hm
  have HK := Lib.hid hk
  obtain ⟨_, _, kp0, kp1, fp0, fp1, _⟩ := hP
  obtain ⟨nb, hnb⟩ : ∃ nb, bits .or .u8 (b : Int) (X * 2 ^ (7 - n % 8) % 256) = nb := ⟨_, rfl⟩
  have HN : Hid (nb = ((b + X.toNat * 2 ^ (7 - n % 8) : Nat) : Int)) := hnb.symm.trans (or_byte XN hb256 hlt hor)
  have HLA := Lib.hid hlaid
  have HS := Lib.hid hS
  have HO := Lib.hid hown
  clear hS hown hgr hX' XN hlen hm hk hb256 hor hlt hlaid hml hk0 hor0 hlt0 hlaid0 hl hcs hb e7 c0 c1 f0 f1 hown' hpr
  go_wp2_with fail
  generalize hW : w1.setCell ⟨p, 0, none⟩ (.slice (some ⟨g, 0, none⟩) m cap) = W at *
  clear hW d0 e0
  go_region
  all_goals
    go_wp2_with fail
    go_end0
    obtain ⟨r1, r2⟩ := stored HM.out HP.out HK.out HN.out
    have hv : (x % 2).toNat = X.toNat := by rw [HX.out]
    exact ⟨rfl, _, _, r1, by rw [hv]; exact HLA.out, HS.out.trans HO.out r2, HO.out⟩

set_option maxHeartbeats 400000 in
theorem lay_grows (x : Int) (p B n V : Nat) (g0 l cap0 : Nat) (bs : List Nat) (w : World) (hw : Wr w p B (.slice (some ⟨g0, 0, none⟩) l cap0) bs n) (hl0 : l = bs.length) (hcap : cap0 ≤ l) (hl : Laid bs n V) (h8 : n % 8 = 0) (x0 : 0 ≤ x) (x1 : x ≤ 18446744073709551615) (hn : n ≤ 10000000) :
    Calls Tryz.prog 88 #[.pointer (some ⟨p, 0, none⟩), .int .u64 x] w (LayPost p B (n + 1) (V * 2 + (x % 2).toNat) (.slice (some ⟨g0, 0, none⟩) l cap0) w) := by
  have ht : ((n : Int) % 8 == 0) = true := by simp; omega
  obtain ⟨X, hX⟩ : ∃ X, bits .and .u64 x 1 = X := ⟨_, rfl⟩
  have hX' : X = x % 2 := by rw [← hX]; exact and_one_u64 x x0 x1
  have X0 : 0 ≤ X := by omega
  have X1 : X ≤ 1 := by omega
  have XN : X = (X.toNat : Int) := by omega
  have HX := Lib.hid hX'
  have HXN := Lib.hid XN
  have hlen := hl.1
  obtain ⟨i0, hi, hz0, hz1, hz2⟩ := info_parts Tryz.info5
  have HW := Lib.hid hw
  obtain ⟨hk0, hor0, hlt0, hlaid0⟩ := hl.fresh (x := X.toNat) h8 (by omega)
  have H8 := Lib.hid h8
  obtain ⟨pb, bw, c0, c1, f0, f1, own⟩ := hw
  have hB0 := (own.lt g0 rfl).1
  have OWN := Lib.hid own
  have HL0 := Lib.hid hl0
  clear own h8 hl0
  go_enter Tryz.func88, Tryz.ntmps88
  go_wp2_with (at_builtin; refine wpList_append_grows _ rfl _ _ 26 rfl 5 i0 (.int .u8 0) 1 1 Tryz.underlying26 hi hz0 hz1 hz2 rfl (by decide) (some ⟨g0, 0, none⟩) l cap0 (cellsOf bs) rfl (by simp) ?c6 ?c7 ⟨w.heap.size, 0, none⟩ 1 1 [.int .u8 0] rfl rfl ?c1 ?c2 ?c3 ?c4 ?c5 ?_)
  case c6 => rw [cellsOf_length]; have := HL0.out; omega
  case c7 =>
    intro a ha j u hu
    obtain rfl : a = ⟨g0, 0, none⟩ := by simpa using ha.symm
    exact (OWN.out.alloc _).cells rfl j u hu
  case c1 => exact cell_one_new _ _ _
  case c2 => simp [Value.oneCell']
  case c3 => omega
  case c4 => have := HL0.out; unfold maxLen; omega
  case c5 => have := HL0.out; omega
  intro v' w1 hown0 hgrow
  have hgr : w.grownBy w1 (Value.ownBlock (.slice (some ⟨g0, 0, none⟩) l cap0)) := grown_weak (grown_alloc hgrow)
  have hown : Own (.slice (some ⟨g0, 0, none⟩) l cap0) v' w := fun g hg => .inr (by have := (hown0.lt g hg).1; first | omega | (simp at this; omega))
  have hown' : w1.ownsRow B 5 1 v' (bs.length + 1) (cellsOf bs ++ [.int .u8 0]) := by rw [← HL0.out]; exact ownsRow_base hown0 (by first | omega | (simp; omega))
  have hpr : some p ≠ Value.ownBlock (.slice (some ⟨g0, 0, none⟩) l cap0) := by simp [Value.ownBlock]; omega
  clear hown0 hgrow
  obtain ⟨hP, hS⟩ := pushed HW.out hown' hgr
  have d0 : w1.cell? ⟨p, 0, none⟩ = some (.slice (some ⟨g0, 0, none⟩) l cap0) := (World.cell?_of_block (hgr.block p (by omega) hpr)).trans c0
  have e0 : w1.frozen? ⟨p, 0, none⟩ = false := (World.frozen?_of_block (hgr.block p (by omega) hpr)).trans f0
  obtain ⟨g, cap, m, hm, rfl, hBg, hgs⟩ := wr_form hP (by simp)
  have hgp : g ≠ p := by omega
  obtain ⟨cs, hcs⟩ : ∃ cs, cs = bs := ⟨_, rfl⟩
  rw [← hcs] at hP hm
  have hk : cs.length = n / 8 := by rw [hcs]; exact hk0
  have hPm := And.intro hP hm
  clear hP hm
  obtain ⟨b, hb, hP, hm⟩ : ∃ b : Nat, b = 0 ∧ Wr (w1.setCell ⟨p, 0, none⟩ (.slice (some ⟨g, 0, none⟩) m cap)) p B (.slice (some ⟨g, 0, none⟩) m cap) (cs ++ [b]) n ∧ m = (cs ++ [b]).length := ⟨0, rfl, hPm.1, hPm.2⟩
  clear hPm
  have e7 : 7 - n % 8 = 7 := by rw [H8.out]
  have hb256 : b < 256 := by omega
  have hor : (b ||| X.toNat * 2 ^ (7 - n % 8)) = b + X.toNat * 2 ^ (7 - n % 8) := by rw [hb, e7, Nat.zero_add]; exact hor0
  have hlt : b + X.toNat * 2 ^ (7 - n % 8) < 256 := by rw [hb, e7, Nat.zero_add]; exact hlt0
  have hlaid : Laid (cs ++ [b + X.toNat * 2 ^ (7 - n % 8)]) (n + 1) (V * 2 + X.toNat) := by rw [hb, e7, Nat.zero_add, hcs]; exact hlaid0
  obtain ⟨kb, fb⟩ := wr_byte hm hP (k := n / 8) (b := b) (by rw [← hk]; simp)
  have hml : m = cs.length + 1 := by rw [hm]; simp
  have hm1 : (n : Int) / 8 < (m : Int) := by omega
  have HP := Lib.hid hP
  have HM := Lib.hid hm
  have HK := Lib.hid hk
  obtain ⟨_, _, kp0, kp1, fp0, fp1, _⟩ := hP
  obtain ⟨nb, hnb⟩ : ∃ nb, bits .or .u8 (b : Int) (X * 2 ^ (7 - n % 8) % 256) = nb := ⟨_, rfl⟩
  have HN : Hid (nb = ((b + X.toNat * 2 ^ (7 - n % 8) : Nat) : Int)) := hnb.symm.trans (or_byte XN hb256 hlt hor)
  have HLA := Lib.hid hlaid
  have HS := Lib.hid hS
  have HO := Lib.hid hown
  clear hS hown hgr hX' XN hlen hm hk hb256 hor hlt hlaid hml hk0 hor0 hlt0 hlaid0 hl hcs hb e7 c0 c1 f0 f1 hown' hpr
  go_wp2_with fail
  generalize hW : w1.setCell ⟨p, 0, none⟩ (.slice (some ⟨g, 0, none⟩) m cap) = W at *
  clear hW d0 e0
  go_region
  all_goals
    go_wp2_with fail
    go_end0
    obtain ⟨r1, r2⟩ := stored HM.out HP.out HK.out HN.out
    have hv : (x % 2).toNat = X.toNat := by rw [HX.out]
    exact ⟨rfl, _, _, r1, by rw [hv]; exact HLA.out, HS.out.trans HO.out r2, HO.out⟩

set_option maxHeartbeats 400000 in
theorem lay_fits (x : Int) (p B n V : Nat) (g0 l cap0 : Nat) (bs : List Nat) (w : World) (hw : Wr w p B (.slice (some ⟨g0, 0, none⟩) l cap0) bs n) (hl0 : l = bs.length) (hcap : l + 1 ≤ cap0) (hl : Laid bs n V) (h8 : n % 8 = 0) (x0 : 0 ≤ x) (x1 : x ≤ 18446744073709551615) (hn : n ≤ 10000000) :
    Calls Tryz.prog 88 #[.pointer (some ⟨p, 0, none⟩), .int .u64 x] w (LayPost p B (n + 1) (V * 2 + (x % 2).toNat) (.slice (some ⟨g0, 0, none⟩) l cap0) w) := by
  have ht : ((n : Int) % 8 == 0) = true := by simp; omega
  obtain ⟨X, hX⟩ : ∃ X, bits .and .u64 x 1 = X := ⟨_, rfl⟩
  have hX' : X = x % 2 := by rw [← hX]; exact and_one_u64 x x0 x1
  have X0 : 0 ≤ X := by omega
  have X1 : X ≤ 1 := by omega
  have XN : X = (X.toNat : Int) := by omega
  have HX := Lib.hid hX'
  have HXN := Lib.hid XN
  have hlen := hl.1
  obtain ⟨i0, hi, hz0, hz1, hz2⟩ := info_parts Tryz.info5
  have HW := Lib.hid hw
  obtain ⟨hk0, hor0, hlt0, hlaid0⟩ := hl.fresh (x := X.toNat) h8 (by omega)
  have H8 := Lib.hid h8
  obtain ⟨pb, bw, c0, c1, f0, f1, own⟩ := hw
  have hB0 := (own.lt g0 rfl).1
  have OWN := Lib.hid own
  have HL0 := Lib.hid hl0
  clear own h8 hl0
  go_enter Tryz.func88, Tryz.ntmps88
  have OWN' : Hid (w.ownsRow B 5 1 (.slice (some ⟨g0, 0, none⟩) l cap0) l (cellsOf bs)) := by have h := OWN.out; rw [← HL0.out] at h; exact h
  go_wp2_with (at_builtin; refine wpList_append_fits _ rfl _ _ 26 rfl B 5 i0 1 Tryz.underlying26 hi hz1 g0 l cap0 (cellsOf bs) rfl (OWN'.out.alloc _) ⟨w.heap.size, 0, none⟩ 1 1 [.int .u8 0] rfl rfl ?c1 ?c2 ?c3 ?_)
  case c1 => exact cell_one_new _ _ _
  case c2 => simp [Value.oneCell']
  case c3 => omega
  intro w1 hown0 hgrow
  have hgr : w.grownBy w1 (Value.ownBlock (.slice (some ⟨g0, 0, none⟩) l cap0)) := grown_alloc hgrow
  have hown : Own (.slice (some ⟨g0, 0, none⟩) l cap0) (.slice (some ⟨g0, 0, none⟩) (l + 1) cap0) w := fun g hg => .inl hg
  have hown' : w1.ownsRow B 5 1 (.slice (some ⟨g0, 0, none⟩) (l + 1) cap0) (bs.length + 1) (cellsOf bs ++ [.int .u8 0]) := by rw [← HL0.out]; exact hown0
  have hpr : some p ≠ Value.ownBlock (.slice (some ⟨g0, 0, none⟩) l cap0) := by simp [Value.ownBlock]; omega
  clear hown0 hgrow
  obtain ⟨hP, hS⟩ := pushed HW.out hown' hgr
  have d0 : w1.cell? ⟨p, 0, none⟩ = some (.slice (some ⟨g0, 0, none⟩) l cap0) := (World.cell?_of_block (hgr.block p (by omega) hpr)).trans c0
  have e0 : w1.frozen? ⟨p, 0, none⟩ = false := (World.frozen?_of_block (hgr.block p (by omega) hpr)).trans f0
  obtain ⟨g, rfl⟩ : ∃ g, g = g0 := ⟨_, rfl⟩
  obtain ⟨cap, rfl⟩ : ∃ c, c = cap0 := ⟨_, rfl⟩
  obtain ⟨m, hm0⟩ : ∃ m, l + 1 = m := ⟨_, rfl⟩
  have hm : m = (bs ++ [0]).length := by have := HL0.out; simp; omega
  rw [hm0] at hP hown hS
  have hBg := hB0
  clear hB0
  have hgp : g ≠ p := by omega
  obtain ⟨cs, hcs⟩ : ∃ cs, cs = bs := ⟨_, rfl⟩
  rw [← hcs] at hP hm
  have hk : cs.length = n / 8 := by rw [hcs]; exact hk0
  have hPm := And.intro hP hm
  clear hP hm
  obtain ⟨b, hb, hP, hm⟩ : ∃ b : Nat, b = 0 ∧ Wr (w1.setCell ⟨p, 0, none⟩ (.slice (some ⟨g, 0, none⟩) m cap)) p B (.slice (some ⟨g, 0, none⟩) m cap) (cs ++ [b]) n ∧ m = (cs ++ [b]).length := ⟨0, rfl, hPm.1, hPm.2⟩
  clear hPm
  have e7 : 7 - n % 8 = 7 := by rw [H8.out]
  have hb256 : b < 256 := by omega
  have hor : (b ||| X.toNat * 2 ^ (7 - n % 8)) = b + X.toNat * 2 ^ (7 - n % 8) := by rw [hb, e7, Nat.zero_add]; exact hor0
  have hlt : b + X.toNat * 2 ^ (7 - n % 8) < 256 := by rw [hb, e7, Nat.zero_add]; exact hlt0
  have hlaid : Laid (cs ++ [b + X.toNat * 2 ^ (7 - n % 8)]) (n + 1) (V * 2 + X.toNat) := by rw [hb, e7, Nat.zero_add, hcs]; exact hlaid0
  obtain ⟨kb, fb⟩ := wr_byte hm hP (k := n / 8) (b := b) (by rw [← hk]; simp)
  have hml : m = cs.length + 1 := by rw [hm]; simp
  have hm1 : (n : Int) / 8 < (m : Int) := by omega
  have HP := Lib.hid hP
  have HM := Lib.hid hm
  have HK := Lib.hid hk
  obtain ⟨_, _, kp0, kp1, fp0, fp1, _⟩ := hP
  obtain ⟨nb, hnb⟩ : ∃ nb, bits .or .u8 (b : Int) (X * 2 ^ (7 - n % 8) % 256) = nb := ⟨_, rfl⟩
  have HN : Hid (nb = ((b + X.toNat * 2 ^ (7 - n % 8) : Nat) : Int)) := hnb.symm.trans (or_byte XN hb256 hlt hor)
  have HLA := Lib.hid hlaid
  have HS := Lib.hid hS
  have HO := Lib.hid hown
  clear hS hown hgr hX' XN hlen hm hk hb256 hor hlt hlaid hml hk0 hor0 hlt0 hlaid0 hl hcs hb e7 c0 c1 f0 f1 hown' hpr
  go_wp2_with fail
  generalize hW : w1.setCell ⟨p, 0, none⟩ (.slice (some ⟨g, 0, none⟩) m cap) = W at *
  clear hW d0 e0
  go_region
  all_goals
    go_wp2_with fail
    go_end0
    obtain ⟨r1, r2⟩ := stored HM.out HP.out HK.out HN.out
    have hv : (x % 2).toNat = X.toNat := by rw [HX.out]
    exact ⟨rfl, _, _, r1, by rw [hv]; exact HLA.out, HS.out.trans HO.out r2, HO.out⟩

theorem lay_any (x : Int) (p B n V : Nat) (v : Value) (bs : List Nat) (w : World) (hw : Wr w p B v bs n) (hl : Laid bs n V) (x0 : 0 ≤ x) (x1 : x ≤ 18446744073709551615) (hn : n ≤ 10000000) :
    Calls Tryz.prog 88 #[.pointer (some ⟨p, 0, none⟩), .int .u64 x] w (LayPost p B (n + 1) (V * 2 + (x % 2).toNat) v w) := by
  by_cases h8 : n % 8 = 0
  · rcases hw.own.2 with ⟨rfl, hz⟩ | ⟨g, cap, cur, rfl, hBg, hg, hnc, hcm, hcs, htk⟩
    · exact lay_nil x p B n V bs w hw (List.length_eq_zero_iff.mp hz) hl h8 x0 x1 hn
    · by_cases hc : bs.length + 1 ≤ cap
      · exact lay_fits x p B n V g bs.length cap bs w hw rfl hc hl h8 x0 x1 hn
      · exact lay_grows x p B n V g bs.length cap bs w hw rfl (by omega) hl h8 x0 x1 hn
  · exact lay_same x p B n V v bs w hw hl h8 x0 x1 hn
end Go.Proofs.YtakomfnajeolcaaGreatDoor.Bw


/- Contracts of a writer's Put, Bit and Len: numbers of so many bits laid behind others. -/
namespace Go.Proofs.YtakomfnajeolcaaGreatDoor.Bw
open Go.RowKit

theorem within_any (k : Int) (w : World) (k0 : 0 ≤ k) (k1 : k ≤ 64) :
    Calls Tryz.prog 87 #[.int .i64 k] w fun e w' => e = .returned (.int .i64 k) ∧ w = w' := by
  have h1 : max k 0 = k := by omega
  have h2 : min k 64 = k := by omega
  go_enter Tryz.func87, Tryz.ntmps87
  go_wp2
  go_ret
  exact ⟨ret_int (by omega), rfl⟩

/-- what is laid after t rounds of k -/
def putV (V x k t : Nat) : Nat := V * 2 ^ t + x / 2 ^ (k - t) % 2 ^ t
theorem putV_zero (V x k : Nat) : putV V x k 0 = V := by unfold putV; simp [Nat.mod_one]
theorem putV_all (V x k : Nat) : putV V x k k = V * 2 ^ k + x % 2 ^ k := by unfold putV; simp
theorem mod_two_succ (y i : Nat) : y % 2 ^ (i + 1) = y / 2 % 2 ^ i * 2 + y % 2 := by
  have h := Nat.mod_mul (x := y) (a := 2) (b := 2 ^ i)
  rw [Nat.pow_succ, Nat.mul_comm (2 ^ i) 2, h]
  omega
theorem putV_succ (V x k t : Nat) (h : t < k) : putV V x k (t + 1) = putV V x k t * 2 + x / 2 ^ (k - 1 - t) % 2 := by
  unfold putV
  have e1 : k - (t + 1) = k - 1 - t := by omega
  have e2 : x / 2 ^ (k - t) = x / 2 ^ (k - 1 - t) / 2 := by
    rw [Nat.div_div_eq_div_mul, show k - t = k - 1 - t + 1 by omega, Nat.pow_succ]
  rw [e1, e2, mod_two_succ (x / 2 ^ (k - 1 - t)) t, Nat.pow_succ]
  rw [Nat.add_mul, Nat.mul_assoc]
  omega

/-- what holds at each round of Put -/
def PutRel (p B n V x k : Nat) (v : Value) (w : World) (i : Value) (wr : World) : Prop :=
  ∃ t : Nat, t ≤ k ∧ i = .int .i64 (t : Int) ∧ ∃ v' bs', Wr wr p B v' bs' (n + t) ∧ Laid bs' (n + t) (putV V x k t) ∧ Step p v.ownBlock w wr ∧ Own v v' w

set_option maxHeartbeats 400000 in
theorem put_any (x p B n V k : Nat) (v : Value) (bs : List Nat) (w : World) (hw : Wr w p B v bs n) (hl : Laid bs n V) (hk : k ≤ 64) (x1 : x ≤ 18446744073709551615) (hn : n ≤ 9000000) :
    Calls Tryz.prog 54 #[.pointer (some ⟨p, 0, none⟩), .int .u64 (x : Int), .int .i64 (k : Int)] w (LayPost p B (n + k) (V * 2 ^ k + x % 2 ^ k) v w) := by
  have H0 : Hid (PutRel p B n V x k v w (.int .i64 0) w) := ⟨0, Nat.zero_le _, rfl, v, bs, hw, by rw [putV_zero]; exact hl, Step.refl _ _ _, Own.refl _ _⟩
  clear hw hl
  go_enter Tryz.func54, Tryz.ntmps54
  go_wp2_with fail
  refine (within_any _ _ (by omega) (by omega)).mono ?_
  rintro e w' ⟨rfl, rfl⟩
  go_wp2_with fail
  go_loopw [12] (fun i wr => PutRel p B n V x k v w i wr) (fun i _ => k - (intOf i).toNat)
  case atStart => exact H0.out
  case round =>
    obtain ⟨t, ht, rfl, v', bs', q1, q2, q3, q4⟩ := hrel
    by_cases hlt : t < k
    · have Q1 := Lib.hid q1
      have Q2 := Lib.hid q2
      have Q3 := Lib.hid q3
      have Q4 := Lib.hid q4
      clear q1 q2 q3 q4
      have hx0 : (0 : Int) ≤ (x : Int) / 2 ^ (k - 1 - t) := Int.ediv_nonneg (by omega) (Int.le_of_lt (Int.pow_pos (by decide)))
      have hx1 : (x : Int) / 2 ^ (k - 1 - t) ≤ 18446744073709551615 := by
        have := Int.ediv_le_self ((2 : Int) ^ (k - 1 - t)) (show (0 : Int) ≤ (x : Int) by omega)
        omega
      have hb : ((x : Int) / 2 ^ (k - 1 - t) % 2).toNat = x / 2 ^ (k - 1 - t) % 2 := by
        have h : (x : Int) / 2 ^ (k - 1 - t) = ((x / 2 ^ (k - 1 - t) : Nat) : Int) := by simp
        rw [h]; omega
      have HB := Lib.hid hb
      have HX0 := Lib.hid hx0
      have HX1 := Lib.hid hx1
      clear hb hx0 hx1
      go_wp2_with fail
      refine (lay_any _ p B (n + t) _ v' bs' _ Q1.out Q2.out HX0.out HX1.out (by omega)).mono ?_
      rintro e w' ⟨rfl, v'', bs'', r1, r2, r3, r4⟩
      have R : Hid (PutRel p B n V x k v w (.int .i64 ((t : Int) + 1)) w') := by
        refine ⟨t + 1, by omega, ret_val (by omega), v'', bs'', r1, ?_, Q3.out.trans Q4.out r3, Q4.out.trans Q3.out r4⟩
        rw [putV_succ _ _ _ _ hlt, ← HB.out]
        exact r2
      clear r1 r2 r3 r4
      go_wp2_with fail
      go_roundw
      case rel => exact R.out
      case measure => simp [intOf]; omega
    · obtain rfl : t = k := by omega
      have Q : Hid (LayPost p B (n + t) (V * 2 ^ t + x % 2 ^ t) v w (.returned (.tuple #[])) wr) := ⟨rfl, v', bs', q1, by rw [← putV_all]; exact q2, q3, q4⟩
      clear q1 q2 q3 q4
      go_wp2_with fail
      go_end0
      exact Q.out
end Go.Proofs.YtakomfnajeolcaaGreatDoor.Bw
