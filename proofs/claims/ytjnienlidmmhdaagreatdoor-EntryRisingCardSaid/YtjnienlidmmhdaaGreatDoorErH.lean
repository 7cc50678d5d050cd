/- A Retain read; the document's example. -/
import Derived.Test.YtjnienlidmmhdaaGreatDoorErG
namespace Go.Proofs.YtjnienlidmmhdaaGreatDoor.En
open Go.RowKit Go.Sort
set_option linter.unusedVariables false
open Tl (WS WX valB LaidL tab_below tab_pos)

theorem step_below {q : Nat} {W w w' : World} (s : Tk.Step q none w w') (hb : Below W.heap.size W w) (hq : W.heap.size ≤ q) : Below W.heap.size W w' :=
  ⟨s.os.trans hb.os, s.tape.trans hb.tape, s.output.trans hb.output, Nat.le_trans hb.size s.size, fun k hk => (s.block k (Nat.lt_of_lt_of_le hk hb.size) (by omega) (by simp)).trans (hb.block k hk)⟩
theorem fz4 {w : World} {g : Nat} {v0 v1 v2 v3 : Value} (h : w.heap[g]? = some (.cells #[v0, v1, v2, v3] 58 (0, 0))) : ∀ i, w.frozen? ⟨g, i, none⟩ = false := fun i => by simp [World.frozen?, h]
set_option maxHeartbeats 4000000 in
set_option maxRecDepth 100000 in
theorem read3_any (m : Int) (A : Option Addr) (n c : Nat) (bs : List Nat) (w : World) (hm : inT m = true) (hl : LaidL bs (ret3 m)) (hs : Tk.Sl w A c bs) (hn : n = bs.length) (hb1 : bs.length ≤ 1000000) (hT : Tk.Tab w) :
    Calls Tryz.prog 85 #[.slice A n c, .func (.func 86) #[] #[], .func (.func 29) #[] #[]] w fun e w' => e = .returned (.tuple #[.agg #[.int .i64 3, .slice none 0 0, .slice none 0 0, .int .i64 m], .int .i64 0]) ∧ Below w.heap.size w w' := by
  obtain ⟨W1, hW1⟩ : ∃ W1, w.alloc (.cells #[.int .i64 0, .slice none 0 0, .slice none 0 0, .int .i64 0] 58 (0, 0)) = W1 := ⟨_, rfl⟩
  obtain ⟨g6, hg6⟩ : ∃ g, w.heap.size = g := ⟨_, rfl⟩
  obtain ⟨_, hbx6, hbl1⟩ := box4 hW1 hg6
  obtain ⟨W2, hW2⟩ : ∃ W2, W1.alloc (.cells #[.int .i64 0, .slice none 0 0, .slice none 0 0, .int .i64 0] 58 (0, 0)) = W2 := ⟨_, rfl⟩
  obtain ⟨g8, hg8⟩ : ∃ g, W1.heap.size = g := ⟨_, rfl⟩
  obtain ⟨_, _, hbl2⟩ := box4 hW2 hg8
  have hw2 : Below w.heap.size w W2 := hbl1.trans (hbl2.mono hbl1.size)
  have hx6 : W2.heap[g6]? = some (.cells #[.int .i64 0, .slice none 0 0, .slice none 0 0, .int .i64 0] 58 (0, 0)) := (hbl2.block g6 (Array.getElem?_eq_some_iff.1 hbx6).1).trans hbx6
  have HRD := Lib.hid (Tk.read_any A n c bs W2 (hs.kept (Tk.Kept.of_below hw2)) hn hb1)
  have H1 := Lib.hid (And.intro hm (And.intro hl (And.intro hs (And.intro hn (And.intro hT (And.intro hw2 (And.intro hx6 hg6)))))))
  clear hm hl hs hn hT hw2 hx6 hbx6 hbl1 hbl2
  go_enter Tryz.func85, Tryz.ntmps85
  go_wp2_with fail
  refine HRD.out.mono ?_
  rintro e w3 ⟨q, a', c', rfl, hrd, hq, hb3⟩
  obtain ⟨hm, hl, hs, hn, hT, hw2, hx6, hg6'⟩ := H1.out
  have hw3 : Below w.heap.size w w3 := hw2.trans (hb3.mono hw2.size)
  have hq0 : q ≠ 0 := by have := tab_pos hT; have := hw2.size; omega
  have HT := Lib.hid (take3_any m q n c' a' bs w3 hm hl hrd (tab_below hT hw3) hq0)
  have H3 := Lib.hid (And.intro hw3 (And.intro hq hb3))
  clear hm hl hs hn hT hw2 hx6 hrd hq hb3 hw3 hq0 HRD hW1 hW2
  go_wp2_with fail
  refine HT.out.mono ?_
  rintro e w4 ⟨rfl, hst4⟩
  obtain ⟨hm, hl, hs, hn, hT, hw2, hx6, hg6'⟩ := H1.out
  obtain ⟨hw3, hq, hb3⟩ := H3.out
  have hw24 : Below W2.heap.size W2 w4 := step_below hst4 hb3 hq
  have hw4 : Below w.heap.size w w4 := hw2.trans (hw24.mono hw2.size)
  obtain ⟨W5, hW5⟩ : ∃ W5, w4.alloc (.cells #[.int .i64 3, .slice none 0 0, .slice none 0 0, .int .i64 m] 58 (0, 0)) = W5 := ⟨_, rfl⟩
  obtain ⟨g9, hg9⟩ : ∃ g, w4.heap.size = g := ⟨_, rfl⟩
  obtain ⟨⟨x0, x1, x2, x3⟩, hbx9, hbl5⟩ := box4 hW5 hg9
  have hw5 : Below w.heap.size w W5 := hw4.trans (hbl5.mono hw4.size)
  have HE := Lib.hid (encode3_any m W5 hm (tab_below hT hw5))
  have hx65 : W5.heap[g6]? = some (.cells #[.int .i64 0, .slice none 0 0, .slice none 0 0, .int .i64 0] 58 (0, 0)) := (hbl5.block g6 (by have := hw4.size; have := (Array.getElem?_eq_some_iff.1 hx6).1; have := hw24.size; omega)).trans ((hw24.block g6 (Array.getElem?_eq_some_iff.1 hx6).1).trans hx6)
  have H5 := Lib.hid (And.intro hw5 (And.intro hbx9 (And.intro hx65 (show g6 ≠ g9 by have := (Array.getElem?_eq_some_iff.1 hx6).1; have := hw24.size; omega))))
  have HW5 := Lib.hid hW5
  clear hm hl hs hn hT hw2 hx6 hw3 hq hb3 hst4 hw24 hw4 hbx9 hbl5 hw5 hx65 HT hW5 x0 x1 x2 x3
  go_wp2_with fail
  simp only [HW5.out]
  refine HE.out.mono ?_
  rintro e w6 ⟨A2, c2, bs2, rfl, hs2, hl2, hb6⟩
  obtain ⟨hm, hl, hs, hn, hT, hw2, hx6, hg6'⟩ := H1.out
  obtain ⟨hw5, hbx9, hx65, hne⟩ := H5.out
  have hw6 : Below w.heap.size w w6 := hw5.trans (hb6.mono hw5.size)
  have hbb : bs2 = bs := hl2.inj hl
  subst hbb
  have HQ := Lib.hid (equal_any A2 A c2 c bs2 bs2 w6 hs2 (hs.kept (Tk.Kept.of_below hw6)))
  rw [decide_eq_true rfl, ← hn] at HQ
  have z9 : w6.heap[g9]? = some (.cells #[.int .i64 3, .slice none 0 0, .slice none 0 0, .int .i64 m] 58 (0, 0)) := (hb6.block g9 (Array.getElem?_eq_some_iff.1 hbx9).1).trans hbx9
  have z6 : w6.heap[g6]? = some (.cells #[.int .i64 0, .slice none 0 0, .slice none 0 0, .int .i64 0] 58 (0, 0)) := (hb6.block g6 (Array.getElem?_eq_some_iff.1 hx65).1).trans hx65
  obtain ⟨y0, y1, y2, y3⟩ := row4 z9
  obtain ⟨t0, t1, t2, t3⟩ := row4 z6
  have e0 := fz4 z6 0
  have e1 := fz4 z6 1
  have e2 := fz4 z6 2
  have e3 := fz4 z6 3
  have H6 := Lib.hid (And.intro hw6 (And.intro z6 hg6'))
  rw [← hn]
  clear hm hl hs hn hT hw2 hx6 hw5 hbx9 hx65 hne hs2 hl2 hb6 hw6 z9 z6 HE
  go_wp2_with fail
  refine HQ.out.mono ?_
  rintro e w7 ⟨rfl, rfl⟩
  go_wp2_with fail
  obtain ⟨q1, q2⟩ := set4 (.int .i64 3) (.slice none 0 0) (.slice none 0 0) (.int .i64 m) H6.out.2.1
  obtain ⟨W8, hW8⟩ : ∃ W8, ((((w7.setCell ⟨g6, 0, none⟩ (.int .i64 3)).setCell ⟨g6, 1, none⟩ (.slice none 0 0)).setCell ⟨g6, 2, none⟩ (.slice none 0 0)).setCell ⟨g6, 3, none⟩ (.int .i64 m)) = W8 := ⟨_, rfl⟩
  rw [hW8] at q1 q2 ⊢
  obtain ⟨p0, p1, p2, p3⟩ := row4 q1
  have HX := Lib.hid (show Below w.heap.size w W8 from step_below q2 H6.out.1 (by have := H6.out.2.2; omega))
  clear q1 q2 hW8
  refine bodyPost_ret (v := .tuple #[.agg #[.int .i64 3, .slice none 0 0, .slice none 0 0, .int .i64 m], .int .i64 0]) (by simp [results, Tryz.results85, go_sem, p0, p1, p2, p3]; try rfl) rfl ?_
  exact ⟨rfl, HX.out⟩
set_option maxHeartbeats 4000000 in
set_option maxRecDepth 100000 in
theorem decode3_any (m : Int) (A : Option Addr) (n c : Nat) (bs : List Nat) (w : World) (hm : inT m = true) (hl : LaidL bs (ret3 m)) (hs : Tk.Sl w A c bs) (hn : n = bs.length) (hb1 : bs.length ≤ 1000000) (hT : Tk.Tab w) :
    Calls Tryz.prog 32 #[.slice A n c] w fun e w' => e = .returned (.tuple #[.agg #[.int .i64 3, .slice none 0 0, .slice none 0 0, .int .i64 m], .int .i64 0]) ∧ Below w.heap.size w w' := by
  obtain ⟨W1, hW1⟩ : ∃ W1, w.alloc (.cells #[.int .i64 0, .slice none 0 0, .slice none 0 0, .int .i64 0] 58 (0, 0)) = W1 := ⟨_, rfl⟩
  obtain ⟨g6, hg6⟩ : ∃ g, w.heap.size = g := ⟨_, rfl⟩
  obtain ⟨_, hbx6, hbl1⟩ := box4 hW1 hg6
  have HR := Lib.hid (read3_any m A n c bs W1 hm hl (hs.kept (Tk.Kept.of_below hbl1)) hn hb1 (tab_below hT hbl1))
  have H1 := Lib.hid (And.intro hbl1 (And.intro hbx6 hg6))
  clear hm hl hs hn hT hbx6 hbl1
  go_enter Tryz.func32, Tryz.ntmps32
  go_wp2_with fail
  refine HR.out.mono ?_
  rintro e w2 ⟨rfl, hb2⟩
  obtain ⟨hbl1, hbx6, hg⟩ := H1.out
  have z6 : w2.heap[g6]? = some (.cells #[.int .i64 0, .slice none 0 0, .slice none 0 0, .int .i64 0] 58 (0, 0)) := (hb2.block g6 (Array.getElem?_eq_some_iff.1 hbx6).1).trans hbx6
  obtain ⟨t0, t1, t2, t3⟩ := row4 z6
  have e0 := fz4 z6 0
  have e1 := fz4 z6 1
  have e2 := fz4 z6 2
  have e3 := fz4 z6 3
  have H6 := Lib.hid (And.intro (show Below w.heap.size w w2 from hbl1.trans (hb2.mono hbl1.size)) (And.intro z6 hg))
  clear hbl1 hbx6 hb2 z6 HR hW1
  go_wp2_with fail
  obtain ⟨q1, q2⟩ := set4 (.int .i64 3) (.slice none 0 0) (.slice none 0 0) (.int .i64 m) H6.out.2.1
  obtain ⟨W8, hW8⟩ : ∃ W8, ((((w2.setCell ⟨g6, 0, none⟩ (.int .i64 3)).setCell ⟨g6, 1, none⟩ (.slice none 0 0)).setCell ⟨g6, 2, none⟩ (.slice none 0 0)).setCell ⟨g6, 3, none⟩ (.int .i64 m)) = W8 := ⟨_, rfl⟩
  rw [hW8] at q1 q2 ⊢
  obtain ⟨p0, p1, p2, p3⟩ := row4 q1
  have HX := Lib.hid (show Below w.heap.size w W8 from step_below q2 H6.out.1 (by have := H6.out.2.2; omega))
  clear q1 q2 hW8
  refine bodyPost_ret (v := .tuple #[.agg #[.int .i64 3, .slice none 0 0, .slice none 0 0, .int .i64 m], .int .i64 0]) (by simp [results, Tryz.results32, go_sem, p0, p1, p2, p3]; try rfl) rfl ?_
  exact ⟨rfl, HX.out⟩
set_option maxHeartbeats 4000000 in
set_option maxRecDepth 100000 in
theorem awake15 (w : World) (hT : Tk.Tab w) : Calls Tryz.prog 27 #[] w fun e w' => e = .returned (.bool true) ∧ Below w.heap.size w w' := by
  have HE := Lib.hid (encode3_any 5 w (by decide) hT)
  have HT := Lib.hid hT
  clear hT
  go_enter Tryz.func27, Tryz.ntmps27
  go_wp2_with fail
  refine HE.out.mono ?_
  rintro e w2 ⟨A, c, bs, rfl, hs, hl, hb2⟩
  have hlen : bs.length ≤ 1000000 := by
    have h1 := hl.sub.2.1
    have h2 : (ret3 5).length ≤ 1000 := by
      unfold ret3
      rw [List.length_append, Tk.bitsL_length]
      have := Tk.codeL_length (5 : Int).toNat
      omega
    omega
  have HD := Lib.hid (decode3_any 5 A bs.length c bs w2 (by decide) hl hs rfl hlen (tab_below HT.out hb2))
  have HB2 := Lib.hid hb2
  clear hs hl hb2 hlen HE
  obtain ⟨n, hn⟩ : ∃ n, bs.length = n := ⟨_, rfl⟩
  rw [hn] at HD ⊢
  clear hn
  go_wp2_with fail
  refine HD.out.mono ?_
  rintro e w3 ⟨rfl, hb3⟩
  obtain ⟨W5, hW5⟩ : ∃ W5, w3.alloc (.cells #[.int .i64 3, .slice none 0 0, .slice none 0 0, .int .i64 5] 58 (0, 0)) = W5 := ⟨_, rfl⟩
  obtain ⟨g9, hg9⟩ : ∃ g, w3.heap.size = g := ⟨_, rfl⟩
  obtain ⟨⟨x0, x1, x2, x3⟩, _, hbl5⟩ := box4 hW5 hg9
  have HB5 := Lib.hid (show Below w.heap.size w W5 from (HB2.out.trans (hb3.mono HB2.out.size)).trans (hbl5.mono (Nat.le_trans HB2.out.size hb3.size)))
  have HW5 := Lib.hid hW5
  clear hb3 hbl5 hW5 HD x0 x1 x2 x3
  go_wp2_with fail
  simp only [HW5.out]
  go_ret
  exact ⟨rfl, HB5.out⟩
end Go.Proofs.YtjnienlidmmhdaaGreatDoor.En
