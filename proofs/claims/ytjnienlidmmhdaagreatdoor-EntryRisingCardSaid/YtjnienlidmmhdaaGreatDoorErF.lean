/- A Retain, encoded and decoded; the document's example. -/
import Derived.Test.YtjnienlidmmhdaaGreatDoorErE
import Derived.Test.YtjnienlidmmhdaaGreatDoorErA
namespace Go.Proofs.YtjnienlidmmhdaaGreatDoor.En
open Go.RowKit Go.Sort
set_option linter.unusedVariables false
open Tl (WS WX valB LaidL tab_below tab_pos)

def ret3 (m : Int) : List Bool := Tk.bitsL 2 3 ++ Tk.codeL m.toNat
theorem inT_of {m : Int} (h : inT m = true) : 0 ≤ m ∧ m ≤ 1099511627776 := by
  unfold inT at h
  rw [Bool.and_eq_true] at h
  exact ⟨of_decide_eq_true h.1, of_decide_eq_true h.2⟩
/-- a change in a box of its own -/
theorem box4 {w W1 : World} {g : Nat} {v0 v1 v2 v3 : Value} (hW : w.alloc (.cells #[v0, v1, v2, v3] 58 (0, 0)) = W1) (hg : w.heap.size = g) :
    (W1.cell? ⟨g, 0, none⟩ = some v0 ∧ W1.cell? ⟨g, 1, none⟩ = some v1 ∧ W1.cell? ⟨g, 2, none⟩ = some v2 ∧ W1.cell? ⟨g, 3, none⟩ = some v3) ∧ W1.heap[g]? = some (.cells #[v0, v1, v2, v3] 58 (0, 0)) ∧ Below w.heap.size w W1 := by
  have hbx : W1.heap[g]? = some (.cells #[v0, v1, v2, v3] 58 (0, 0)) := hg ▸ hW ▸ heap_alloc_new w _
  refine ⟨⟨?_, ?_, ?_, ?_⟩, hbx, hW ▸ (Below.refl _ _).alloc (Nat.le_refl _) _⟩
  all_goals (rw [cell_of_row _ _ _ _ _ _ hbx]; rfl)
theorem row4 {w : World} {g : Nat} {v0 v1 v2 v3 : Value} (hbx : w.heap[g]? = some (.cells #[v0, v1, v2, v3] 58 (0, 0))) :
    (w.cell? ⟨g, 0, none⟩ = some v0 ∧ w.cell? ⟨g, 1, none⟩ = some v1 ∧ w.cell? ⟨g, 2, none⟩ = some v2 ∧ w.cell? ⟨g, 3, none⟩ = some v3) := by
  refine ⟨?_, ?_, ?_, ?_⟩
  all_goals (rw [cell_of_row _ _ _ _ _ _ hbx]; rfl)
set_option maxHeartbeats 1000000 in
set_option maxRecDepth 100000 in
theorem right3_any (m : Int) (w : World) (hm : inT m = true) :
    Calls Tryz.prog 31 #[.agg #[.int .i64 3, .slice none 0 0, .slice none 0 0, .int .i64 m]] w fun e w' => e = .returned (.bool true) ∧ Below w.heap.size w w' := by
  obtain ⟨W1, hW1⟩ : ∃ W1, w.alloc (.cells #[.int .i64 3, .slice none 0 0, .slice none 0 0, .int .i64 m] 58 (0, 0)) = W1 := ⟨_, rfl⟩
  obtain ⟨g, hg⟩ : ∃ g, w.heap.size = g := ⟨_, rfl⟩
  obtain ⟨⟨x0, x1, x2, x3⟩, _, hb1⟩ := box4 hW1 hg
  have HB1 := Lib.hid hb1
  have HT := Lib.hid (istime_any m W1)
  rw [hm] at HT
  clear hb1 hm
  go_enter Tryz.func31, Tryz.ntmps31
  go_wp2_with fail
  refine HT.out.mono ?_
  rintro e w' ⟨rfl, rfl⟩
  go_wp2_with fail
  go_ret
  exact ⟨rfl, HB1.out⟩
set_option maxHeartbeats 1000000 in
set_option maxRecDepth 100000 in
theorem lay3_any (m : Int) (W0 w : World) (p B : Nat) (l : List Bool) (hm : inT m = true) (h : WS W0 p B l w) (hp : W0.heap.size ≤ p) (hT : Tk.Tab W0) (hn : l.length ≤ 700000) :
    Calls Tryz.prog 81 #[.pointer (some ⟨p, 0, none⟩), .agg #[.int .i64 3, .slice none 0 0, .slice none 0 0, .int .i64 m]] w fun e w' => e = .returned (.tuple #[]) ∧ WS W0 p B (l ++ ret3 m) w' := by
  obtain ⟨hm0, hm1⟩ := inT_of hm
  obtain ⟨W1, hW1⟩ : ∃ W1, w.alloc (.cells #[.int .i64 3, .slice none 0 0, .slice none 0 0, .int .i64 m] 58 (0, 0)) = W1 := ⟨_, rfl⟩
  obtain ⟨g, hg⟩ : ∃ g, w.heap.size = g := ⟨_, rfl⟩
  obtain ⟨⟨x0, x1, x2, x3⟩, hbx, hb1⟩ := box4 hW1 hg
  have hpg : p < w.heap.size := by obtain ⟨⟨v, bs, h1, _⟩, _⟩ := h; have := h1.pb; have := h1.bw; omega
  have hx1 : WX W0 p B g l W1 := hg ▸ hW1 ▸ h.box _
  have HP := Lib.hid (put_x 3 2 W0 p B g l W1 hx1 hp ((Array.getElem?_eq_some_iff.1 hbx).1) (by omega) (by omega) (by omega) (by omega))
  have HR := Lib.hid (And.intro hbx (And.intro hp (And.intro hT (And.intro hn (And.intro hpg (And.intro hg hb1))))))
  clear hb1 hm h hp hT hn hpg hx1 hbx
  go_enter Tryz.func81, Tryz.ntmps81
  go_wp2_with fail
  refine HP.out.mono ?_
  rintro e w2 ⟨rfl, hx2, hb2, hs2⟩
  obtain ⟨hbx, hp, hT, hn, hpg, hg', hb1⟩ := HR.out
  obtain ⟨y0, y1, y2, y3⟩ := row4 (hb2.trans hbx)
  have HC := Lib.hid (Tl.count_x m W0 p B g (l ++ Tk.bitsL 2 3) w2 hx2 hp hT (by have := (Array.getElem?_eq_some_iff.1 hbx).1; omega) (by omega) (by rw [List.length_append, Tk.bitsL_length]; omega) hm0 (by omega))
  clear hx2 hb2 hs2 hbx hp hT hn hpg hb1 x0 x1 x2 x3 HP
  go_wp2_with fail
  refine HC.out.mono ?_
  rintro e w3 ⟨rfl, hx3, _, _⟩
  have HX := Lib.hid (show WS W0 p B (l ++ ret3 m) w3 from by unfold ret3; rw [← List.append_assoc]; exact hx3.out)
  clear hx3
  go_wp2_with fail
  go_end0
  exact ⟨rfl, HX.out⟩
/-- its bytes -/
def EncP (l : List Bool) (w : World) (e : Ending) (w' : World) : Prop := ∃ A c bs, e = .returned (.tuple #[.slice A bs.length c, .int .i64 0]) ∧ Tk.Sl w' A c bs ∧ LaidL bs l ∧ Below w.heap.size w w'
set_option maxHeartbeats 1000000 in
set_option maxRecDepth 100000 in
theorem encode3_any (m : Int) (w : World) (hm : inT m = true) (hT : Tk.Tab w) :
    Calls Tryz.prog 29 #[.agg #[.int .i64 3, .slice none 0 0, .slice none 0 0, .int .i64 m]] w (EncP (ret3 m) w) := by
  show Calls Tryz.prog 29 #[.agg #[.int .i64 3, .slice none 0 0, .slice none 0 0, .int .i64 m]] w fun e w' => EncP (ret3 m) w e w'
  obtain ⟨W1, hW1⟩ : ∃ W1, w.alloc (.cells #[.int .i64 3, .slice none 0 0, .slice none 0 0, .int .i64 m] 58 (0, 0)) = W1 := ⟨_, rfl⟩
  obtain ⟨g, hg⟩ : ∃ g, w.heap.size = g := ⟨_, rfl⟩
  obtain ⟨⟨x0, x1, x2, x3⟩, hbx, hb1⟩ := box4 hW1 hg
  have HR := Lib.hid (right3_any m W1 hm)
  have H1 := Lib.hid (And.intro hm (And.intro hT (And.intro hbx hb1)))
  clear hm hT hbx hb1
  go_enter Tryz.func29, Tryz.ntmps29
  go_wp2_with fail
  refine HR.out.mono ?_
  rintro e w2 ⟨rfl, hb2⟩
  obtain ⟨hm, hT, hbx, hb1⟩ := H1.out
  have hgl := (Array.getElem?_eq_some_iff.1 hbx).1
  have hbx2 : w2.heap[g]? = some (.cells #[.int .i64 3, .slice none 0 0, .slice none 0 0, .int .i64 m] 58 (0, 0)) := (hb2.block g hgl).trans hbx
  obtain ⟨W3, hW3⟩ : ∃ W3, w2.alloc (.cells #[.slice none 0 0, .int .i64 0] 96 (0, 0)) = W3 := ⟨_, rfl⟩
  obtain ⟨g3, hg3⟩ : ∃ g3, w2.heap.size = g3 := ⟨_, rfl⟩
  have hws : WS w2 g3 (g3 + 1) [] W3 := hg3 ▸ hW3 ▸ ws_new w2
  have hb3 : Below w2.heap.size w2 W3 := hws.2
  obtain ⟨y0, y1, y2, y3⟩ := row4 ((hb3.block g (Nat.lt_of_lt_of_le hgl hb2.size)).trans hbx2)
  have hT2 : Tk.Tab w2 := tab_below (tab_below hT hb1) hb2
  have HL := Lib.hid (lay3_any m w2 W3 g3 (g3 + 1) [] hm hws (by omega) hT2 (by simp))
  have HB2 := Lib.hid (show Below w.heap.size w w2 from hb1.trans (hb2.mono hb1.size))
  clear hm hT hbx hb1 hb2 hbx2 hws hb3 hT2 hgl x0 x1 x2 x3 HR
  go_wp2_with fail
  refine HL.out.mono ?_
  rintro e w4 ⟨rfl, hw4⟩
  have hlen : ([] ++ ret3 m).length ≤ 900000 := by
    unfold ret3
    rw [List.nil_append, List.length_append, Tk.bitsL_length]
    have := Tk.codeL_length m.toNat
    omega
  have HBY := Lib.hid (bytes_s w2 g3 (g3 + 1) ([] ++ ret3 m) w4 hw4 hlen)
  clear hw4 hlen HL
  go_wp2_with fail
  refine HBY.out.mono ?_
  rintro e w5 ⟨A, c, bs, rfl, hsl, hla, hb5⟩
  have HX := Lib.hid (And.intro hsl (And.intro hla (HB2.out.trans (hb5.mono HB2.out.size))))
  clear hsl hla hb5 HBY
  go_wp2_with fail
  go_ret2
  obtain ⟨h1, h2, h3⟩ := HX.out
  exact ⟨A, c, bs, rfl, h1, h2, h3⟩
/-- what is read of it -/
theorem read3 {m : Int} (hm : inT m = true) {bs : List Nat} (h : LaidL bs (ret3 m)) : Tk.getF bs 2 (0, 0) = (3, (2, 0)) ∧ ∃ u, Tk.smallF bs 1099511627776 (2, 0) = (m.toNat, (u, 0)) := by
  obtain ⟨hm0, hm1⟩ := inT_of hm
  obtain ⟨s1, s2, s3⟩ := h.sub
  have hb := h.2.1
  have hl : (ret3 m).length = 2 + (Tk.codeL m.toNat).length := by unfold ret3; rw [List.length_append, Tk.bitsL_length]
  have hcut := Tl.sub_cut (bs := bs) (t := 0) (a := Tk.bitsL 2 3) (b := Tk.codeL m.toNat) (by unfold ret3 at s1; omega) (by rw [Nat.zero_add]; exact s3)
  rw [Tk.bitsL_length] at hcut
  have hg := Tl.getF_back (l := Tk.bitsL 2 3) hb (t := 0) (by rw [Tk.bitsL_length]; omega) (by rw [Tk.bitsL_length]; exact hcut.1)
  rw [Tk.bitsL_length] at hg
  refine ⟨hg, ?_⟩
  have hc := Tl.countF_back hb (t := 2) (x := m.toNat) (by omega) (by omega) hcut.2
  refine ⟨2 + (Tk.codeL m.toNat).length, ?_⟩
  unfold Tk.smallF
  rw [hc]
  simp only [ne_eq, not_true, if_false]
  rw [if_neg (by omega)]
end Go.Proofs.YtjnienlidmmhdaaGreatDoor.En
