import Derived.Test.YtakomfnajeolcaaGreatDoorCtA42
set_option linter.unusedVariables false
/- takeHead: what a chunk tells once is taken. -/
namespace Go.Proofs.YtakomfnajeolcaaGreatDoor.Ch
open Go.RowKit Go.Sort Go.Proofs.YtakomfnajeolcaaGreatDoor.En
set_option linter.unusedVariables false

/-- cells that lie in blocks of G, if there are any -/
def ClG (G : Nat → Prop) (w : World) (A : Option Addr) (l : List Value) : Prop := Tk.Cl w A l ∧ (l ≠ [] → ∀ x, A = some x → G x.block)
theorem ClG.kept {G : Nat → Prop} {w w' : World} {A : Option Addr} {l : List Value} (h : ClG G w A l) (k : KpG G w w') : ClG G w' A l := by
  refine ⟨?_, h.2⟩
  by_cases hl : l = []
  · subst hl; exact Tk.Cl.nil _ _
  · exact cl_g h.1 (h.2 hl) k
theorem ClG.inc {G H : Nat → Prop} {w : World} {A : Option Addr} {l : List Value} (h : ClG G w A l) (k : ∀ g, G g → H g) : ClG H w A l := ⟨h.1, fun hl x hx => k _ (h.2 hl x hx)⟩
theorem clg_new {G : Nat → Prop} {w w' : World} {A : Option Addr} {l : List Value} (h : Tk.Cl w' A l) (hn : ∀ x, A = some x → w.heap.size ≤ x.block) : ClG (NewG G w w') w' A l := by
  refine ⟨h, fun hl x hx => .inr ⟨hn x hx, ?_⟩⟩
  rcases h with h | ⟨b, o, e, hc⟩
  · exact absurd h hl
  · rw [hx] at e
    injection e with e
    subst e
    cases l with
    | nil => exact absurd rfl hl
    | cons v r => exact block_lt_of_cell (hc 0 v rfl)
theorem NewG.trans {G : Nat → Prop} {a b c : World} (h1 : a.heap.size ≤ b.heap.size) (h2 : b.heap.size ≤ c.heap.size) {g : Nat} (h : NewG (NewG G a b) b c g) : NewG G a c g := by
  rcases h with (h | h) | h
  · exact .inl h
  · exact .inr ⟨h.1, by omega⟩
  · exact .inr ⟨by omega, h.2⟩
theorem NewG.mono {G : Nat → Prop} {a b c : World} (h2 : b.heap.size ≤ c.heap.size) {g : Nat} (h : NewG G a b g) : NewG G a c g := by
  rcases h with h | h
  · exact .inl h
  · exact .inr ⟨h.1, by omega⟩
theorem RG.setL {G : Nat → Prop} {W0 : World} {q : Nat} {a : Option Addr} {l c : Nat} {bs : List Nat} {s : Nat × Int} {g : Nat} (hp : G g) (h0 : W0.heap.size ≤ g) : ∀ {L : List Value} {i : Nat} {w : World}, RG G W0 q a l c bs s w → RG G W0 q a l c bs s (setL w g i L)
  | [], i, w, h => h
  | u :: r, i, w, h => by
    unfold Ch.setL
    exact RG.setL hp h0 (h.set ⟨g, i, none⟩ u hp h0)
/-- what takeHead leaves -/
def HeadP (G : Nat → Prop) (W0 : World) (q : Nat) (a : Option Addr) (l c : Nat) (bs : List Nat) (w : World) (e : Ending) (w' : World) : Prop :=
  ∃ A1 c1 B1 d1, e = .returned (.tuple #[.agg #[.int .i64 (kOf bs), .int .i64 (sOf bs), .int .i64 (zOf bs), .int .u64 0, .int .u64 0, .int .i64 0, .slice none 0 0, .slice none 0 0], .agg #[.int .i64 (tkP bs).1.1, .slice A1 (tkP bs).1.2.length c1, .int .i64 (tkQ bs).1.1, .slice B1 (tkQ bs).1.2.length d1]]) ∧
    ClG (NewG G w w') w' A1 (Tk.twoC .i64 (tkP bs).1.2) ∧ ClG (NewG G w w') w' B1 (Tk.twoC .i64 (tkQ bs).1.2) ∧ RG (NewG G w w') W0 q a l c bs (tkQ bs).2 w' ∧ KpG G w w'
theorem setL_block {g k : Nat} (hk : k ≠ g) : ∀ {l : List Value} {i : Nat} {W : World}, (setL W g i l).heap[k]? = W.heap[k]?
  | [], i, W => rfl
  | u :: r, i, W => by
    unfold setL
    rw [setL_block hk, heap_setCell_other _ _ _ _ hk]
theorem setL_size {g : Nat} : ∀ {l : List Value} {i : Nat} {W : World}, (setL W g i l).heap.size = W.heap.size
  | [], i, W => rfl
  | u :: r, i, W => by
    unfold setL
    rw [setL_size]; simp [World.setCell]
theorem kp_set {G G1 : Nat → Prop} {W0 : World} {q : Nat} {a : Option Addr} {l c : Nat} {bs : List Nat} {s : Nat × Int} {w : World} (h : RG G1 W0 q a l c bs s w) {p : Addr} {v : Value} (h1 : ∀ y, G y → G1 y) (hn : ∀ y, G y → y ≠ p.block) : KpG G w (w.setCell p v) :=
  ⟨by simp [World.setCell], fun y hy => (grown_set w p v).block y (h.lt (h1 y hy)) (fun e => hn y hy (by injection e))⟩
theorem getF_st (bs : List Nat) (k : Nat) (s : Nat × Int) : (Tk.getF bs k s).1 < 2 ^ k := Tk.getF_lt bs k s
theorem two_sets {w : World} {g : Nat} {L M : List Value} {cs ds : Array Value} {t u : TypeId} (hx : w.heap[g]? = some (.cells cs t (0, 0))) (hy : w.heap[g + 1]? = some (.cells ds u (0, 0))) :
    (setL (setL w g 0 L) (g + 1) 0 M).drew.heap[g]? = some (.cells (setA cs 0 L) t (0, 0)) ∧ (setL (setL w g 0 L) (g + 1) 0 M).drew.heap[g + 1]? = some (.cells (setA ds 0 M) u (0, 0)) ∧ (setL (setL w g 0 L) (g + 1) 0 M).drew.heap.size = w.heap.size ∧ ∀ y, y < g → (setL (setL w g 0 L) (g + 1) 0 M).drew.heap[y]? = w.heap[y]? := by
  have hd : (setL (setL w g 0 L) (g + 1) 0 M).drew.heap = (setL (setL w g 0 L) (g + 1) 0 M).heap := rfl
  rw [hd]
  refine ⟨?_, ?_, ?_, fun y hy => ?_⟩
  · rw [setL_block (by omega), setL_at hx]
  · rw [setL_at ((setL_block (by omega)).trans hy)]
  · rw [setL_size, setL_size]
  · rw [setL_block (by omega), setL_block (by omega)]
theorem two_rg {G : Nat → Prop} {W0 : World} {q : Nat} {a : Option Addr} {l c : Nat} {bs : List Nat} {s : Nat × Int} {w : World} {g : Nat} {L M : List Value} (h : RG G W0 q a l c bs s w) (h1 : G g) (h2 : G (g + 1)) (h0 : W0.heap.size ≤ g) : RG G W0 q a l c bs s (setL (setL w g 0 L) (g + 1) 0 M).drew :=
  (RG.setL h2 (by omega) (RG.setL h1 h0 h)).below (Below.refl _ _).drew
theorem two_cl {w : World} {A : Option Addr} {xs : List Value} {g : Nat} {L M : List Value} (h : Tk.Cl w A xs) (hn : ∀ x, A = some x → g + 1 < x.block) : Tk.Cl (setL (setL w g 0 L) (g + 1) 0 M).drew A xs :=
  (setL_cl (fun x hx => hn x hx) (setL_cl (fun x hx => by have := hn x hx; omega) h)).below (Below.refl _ _).drew
set_option maxHeartbeats 4000000 in
set_option maxRecDepth 100000 in
theorem takehead_g (G : Nat → Prop) (W0 : World) (q : Nat) (a : Option Addr) (l c : Nat) (bs : List Nat) (w : World) (h : RG G W0 q a l c bs (0, 0) w) (hq : W0.heap.size ≤ q) (hT : Tk.Tab W0) :
    Calls Tryz.prog 63 #[.pointer (some ⟨q, 0, none⟩)] w (HeadP G W0 q a l c bs w) := by
  obtain ⟨g, hg⟩ : ∃ g, w.heap.size = g := ⟨_, rfl⟩
  obtain ⟨w9, hw9⟩ : ∃ W, ((w.alloc (.cells #[.int .i64 0, .int .i64 0, .int .i64 0, .int .u64 0, .int .u64 0, .int .i64 0, .slice none 0 0, .slice none 0 0] 39)).alloc (.cells #[.int .i64 0, .slice none 0 0, .int .i64 0, .slice none 0 0] 54)).alloc (.cells #[.int .i64 0, .int .i64 0, .int .i64 0, .int .u64 0, .int .u64 0, .int .i64 0, .slice none 0 0, .slice none 0 0] 39) = W := ⟨_, rfl⟩
  have hb9 : Below w.heap.size w w9 := by rw [← hw9]; exact (((Below.refl _ _).alloc (Nat.le_refl _) _).alloc (by simp) _).alloc (by simp; omega) _
  have hsz9 : w9.heap.size = g + 3 := by rw [← hw9]; simp [hg]
  have hx0a : w9.heap[g]? = some (.cells #[.int .i64 0, .int .i64 0, .int .i64 0, .int .u64 0, .int .u64 0, .int .i64 0, .slice none 0 0, .slice none 0 0] 39 (0, 0)) := by rw [← hw9, ← hg, Below.heap_alloc _ _ _ (by simp; omega), Below.heap_alloc _ _ _ (by simp)]; exact heap_alloc_new w _
  have hx1a : w9.heap[g + 1]? = some (.cells #[.int .i64 0, .slice none 0 0, .int .i64 0, .slice none 0 0] 54 (0, 0)) := by
    have hz : (w.alloc (.cells #[.int .i64 0, .int .i64 0, .int .i64 0, .int .u64 0, .int .u64 0, .int .i64 0, .slice none 0 0, .slice none 0 0] 39)).heap.size = g + 1 := by simp [hg]
    rw [← hw9, Below.heap_alloc _ _ _ (by simp; omega), ← hz]; exact heap_alloc_new _ _
  have hx2a : w9.heap[g + 1 + 1]? = some (.cells #[.int .i64 0, .int .i64 0, .int .i64 0, .int .u64 0, .int .u64 0, .int .i64 0, .slice none 0 0, .slice none 0 0] 39 (0, 0)) := by
    have hz : ((w.alloc (.cells #[.int .i64 0, .int .i64 0, .int .i64 0, .int .u64 0, .int .u64 0, .int .i64 0, .slice none 0 0, .slice none 0 0] 39)).alloc (.cells #[.int .i64 0, .slice none 0 0, .int .i64 0, .slice none 0 0] 54)).heap.size = g + 1 + 1 := by simp [hg]
    rw [← hw9, ← hz]; exact heap_alloc_new _ _
  obtain ⟨w1, hw1⟩ : ∃ W, setL w9 (g + 1 + 1) 0 [.int .i64 0, .int .i64 0, .int .i64 0, .int .u64 0, .int .u64 0, .int .i64 0, .slice none 0 0, .slice none 0 0] = W := ⟨_, rfl⟩
  have hb1 : Below w.heap.size w w1 := by rw [← hw1]; exact setL_below (by omega) hb9
  have hx2 : w1.heap[g + 1 + 1]? = some (.cells #[.int .i64 0, .int .i64 0, .int .i64 0, .int .u64 0, .int .u64 0, .int .i64 0, .slice none 0 0, .slice none 0 0] 39 (0, 0)) := by rw [← hw1, setL_at hx2a, setA8]
  have hx0 : w1.heap[g]? = some (.cells #[.int .i64 0, .int .i64 0, .int .i64 0, .int .u64 0, .int .u64 0, .int .i64 0, .slice none 0 0, .slice none 0 0] 39 (0, 0)) := by rw [← hw1, setL_block (by omega)]; exact hx0a
  have hx1 : w1.heap[g + 1]? = some (.cells #[.int .i64 0, .slice none 0 0, .int .i64 0, .slice none 0 0] 54 (0, 0)) := by rw [← hw1, setL_block (by omega)]; exact hx1a
  have hsz1 : w1.heap.size = g + 3 := by rw [← hw1, setL_size]; exact hsz9
  obtain ⟨m0, m1, m2, m3, m4, m5, m6, m7, fm⟩ := box8 hx2a
  have f0 := fm 0
  have f1 := fm 1
  have f2 := fm 2
  have f3 := fm 3
  have f4 := fm 4
  have f5 := fm 5
  have f6 := fm 6
  have f7 := fm 7
  simp only [setL] at hw1
  have HLE := Lib.hid h
  have HSZ1 := Lib.hid hsz1
  obtain ⟨G1, hG1⟩ : ∃ G1, NewG G w w1 = G1 := ⟨_, rfl⟩
  have HR1 := Lib.hid (show RG G1 W0 q a l c bs (0, 0) w1 from by rw [← hG1]; exact h.more hb1)
  have HG3 := Lib.hid (show G1 g ∧ G1 (g + 1) ∧ G1 (g + 1 + 1) from by rw [← hG1]; exact ⟨.inr ⟨by omega, by omega⟩, .inr ⟨by omega, by omega⟩, .inr ⟨by omega, by omega⟩⟩)
  have HL1 := Lib.hid (fun y (hy : G y) => show G1 y from by rw [← hG1]; exact .inl hy)
  have HGT := Lib.hid (fun y (hy : G y) => show y < g from by have := h.lt hy; omega)
  have HG1 := Lib.hid hG1
  have HK1 := Lib.hid (KpG.of_below (fun y hy => h.lt hy) hb1)
  have HX := Lib.hid (And.intro hx0 (And.intro hx1 hx2))
  have HW1 := Lib.hid hw1
  have HGE := Lib.hid hg
  have HWg : W0.heap.size ≤ g := by have := h.bel.size; omega
  clear h hb1 hsz1 hx0 hx1 hx2 hG1 hb9 hsz9 hx0a hx1a hx2a fm
  obtain ⟨BT, hBT⟩ : ∃ b, Tk.bitF bs (0, 0) = b := ⟨_, rfl⟩
  have HBT := Lib.hid hBT
  have HKO := Lib.hid (show kOf bs = if BT then 1 else 0 from by unfold kOf; rw [hBT])
  clear hBT
  cases BT with
  | false =>
    go_enter Tryz.func63, Tryz.ntmps63
    go_wp2_with fail
    clear m0 m1 m2 m3 m4 m5 m6 m7 f0 f1 f2 f3 f4 f5 f6 f7 hw9
    refine (rbit_g HR1.out hq).mono ?_
    rintro e w2 ⟨rfl, r1, r2⟩
    rw [HBT.out]
    have HR2 := Lib.hid (show RG G1 W0 q a l c bs (st1 bs) w2 from r1)
    have HK2 := Lib.hid r2
    have hy2 := (r2.2 _ HG3.out.2.2).trans HX.out.2.2
    clear r1 r2 hw1 hg
    have HR3 := HR2
    have HK3 := Lib.hid (HK1.out.trans (HK2.out.less HL1.out))
    have HX3 := Lib.hid (show w2.heap[g]? = _ ∧ w2.heap[g + 1]? = _ ∧ w2.heap[g + 1 + 1]? = some (.cells #[.int .i64 0, .int .i64 0, .int .i64 0, .int .u64 0, .int .u64 0, .int .i64 0, .slice none 0 0, .slice none 0 0] 39 (0, 0)) from ⟨(HK2.out.2 _ HG3.out.1).trans HX.out.1, (HK2.out.2 _ HG3.out.2.1).trans HX.out.2.1, hy2⟩)
    clear hy2
    go_wp2_with fail
    refine (rget_g 4 4 rfl (by decide) HR3.out hq).mono ?_
    obtain ⟨V4, S4, hv4⟩ : ∃ v s, Tk.getF bs 4 (st1 bs) = (v, s) := ⟨_, _, rfl⟩
    have hs2 : st2 bs = S4 := by unfold st2; rw [hv4]
    have hso : sOf bs = (V4 : Int) - 4 := by unfold sOf; rw [hv4]
    have hv16 : V4 < 16 := by have := getF_st bs 4 (st1 bs); rw [hv4] at this; simpa using this
    rw [hv4]
    rintro e w4 ⟨rfl, r1, r2⟩
    have HS2 := Lib.hid (And.intro hs2 hso)
    have HR4 := Lib.hid (show RG G1 W0 q a l c bs (st2 bs) w4 from by rw [hs2]; exact r1)
    have HK4 := Lib.hid (HK3.out.trans (r2.less HL1.out))
    have HX4 := Lib.hid (show w4.heap[g]? = _ ∧ w4.heap[g + 1]? = _ ∧ w4.heap[g + 1 + 1]? = some (.cells #[.int .i64 0, .int .i64 0, .int .i64 0, .int .u64 0, .int .u64 0, .int .i64 0, .slice none 0 0, .slice none 0 0] 39 (0, 0)) from ⟨(r2.2 _ HG3.out.1).trans HX3.out.1, (r2.2 _ HG3.out.2.1).trans HX3.out.2.1, (r2.2 _ HG3.out.2.2).trans HX3.out.2.2⟩)
    clear r1 r2 hv4 hs2 hso
    have k1 := bx HX4.out.2.2 1 _ rfl
    have j1 : w4.frozen? ⟨g + 1 + 1, 1, none⟩ = false := by simp [World.frozen?, HX4.out.2.2]
    have hadd : (V4 : Int) + -4 = (V4 : Int) - 4 := by omega
    go_wp2_with fail
    clear k1 j1
    obtain ⟨w5, hw5⟩ : ∃ W, w4.setCell ⟨g + 1 + 1, 1, none⟩ (.int .i64 ((V4 : Int) + -4)) = W := ⟨_, rfl⟩
    try rw [hadd] at hw5
    obtain ⟨SO, hSO⟩ : ∃ x, (V4 : Int) - 4 = x := ⟨_, rfl⟩
    rw [hSO] at hw5
    have HR5 := Lib.hid (show RG G1 W0 q a l c bs (st2 bs) w5 from by rw [← hw5]; exact HR4.out.set ⟨g + 1 + 1, 1, none⟩ _ HG3.out.2.2 (by simp; omega))
    have HK5 := Lib.hid (show KpG G w w5 from by rw [← hw5]; exact HK4.out.trans (kp_set HR4.out (fun y hy => HL1.out y hy) (fun y hy => by have := HGT.out y hy; simp; omega)))
    have HX5 := Lib.hid (show w5.heap[g]? = _ ∧ w5.heap[g + 1]? = _ ∧ w5.heap[g + 1 + 1]? = some (.cells #[.int .i64 0, .int .i64 SO, .int .i64 0, .int .u64 0, .int .u64 0, .int .i64 0, .slice none 0 0, .slice none 0 0] 39 (0, 0)) from by
      rw [← hw5]
      exact ⟨(heap_setCell_other _ _ _ _ (by simp; omega)).trans HX4.out.1, (heap_setCell_other _ _ _ _ (by simp)).trans HX4.out.2.1, by rw [put_at HX4.out.2.2]; rfl⟩)
    have HSO := Lib.hid (show sOf bs = SO from by rw [HS2.out.2, hSO])
    simp only [hSO, hw5]
    clear hw5 hSO hadd
    refine (rint_g HR5.out hq hT).mono ?_
    obtain ⟨ZO, S6, hv6⟩ : ∃ v s, intF bs (st2 bs) = (v, s) := ⟨_, _, rfl⟩
    have hs3 : st3 bs = S6 := by unfold st3; rw [hv6]
    have HZO := Lib.hid (show zOf bs = ZO from by unfold zOf; rw [hv6])
    rw [hv6]
    rintro e w6 ⟨rfl, r1, r2⟩
    have HR6 := Lib.hid (show RG G1 W0 q a l c bs (st3 bs) w6 from by rw [hs3]; exact r1)
    have HK6 := Lib.hid (HK5.out.trans (r2.less HL1.out))
    have HX6 := Lib.hid (show w6.heap[g]? = _ ∧ w6.heap[g + 1]? = _ ∧ w6.heap[g + 1 + 1]? = some (.cells #[.int .i64 0, .int .i64 SO, .int .i64 0, .int .u64 0, .int .u64 0, .int .i64 0, .slice none 0 0, .slice none 0 0] 39 (0, 0)) from ⟨(r2.2 _ HG3.out.1).trans HX5.out.1, (r2.2 _ HG3.out.2.1).trans HX5.out.2.1, (r2.2 _ HG3.out.2.2).trans HX5.out.2.2⟩)
    clear r1 r2 hv6 hs3
    have k1 := bx HX6.out.2.2 2 _ rfl
    have j1 : w6.frozen? ⟨g + 1 + 1, 2, none⟩ = false := by simp [World.frozen?, HX6.out.2.2]
    go_wp2_with fail
    clear k1 j1
    obtain ⟨w7, hw7⟩ : ∃ W, w6.setCell ⟨g + 1 + 1, 2, none⟩ (.int .i64 ZO) = W := ⟨_, rfl⟩
    have HR7 := Lib.hid (show RG G1 W0 q a l c bs (st3 bs) w7 from by rw [← hw7]; exact HR6.out.set ⟨g + 1 + 1, 2, none⟩ _ HG3.out.2.2 (by simp; omega))
    have HK7 := Lib.hid (show KpG G w w7 from by rw [← hw7]; exact HK6.out.trans (kp_set HR6.out (fun y hy => HL1.out y hy) (fun y hy => by have := HGT.out y hy; simp; omega)))
    have HX7 := Lib.hid (show w7.heap[g]? = _ ∧ w7.heap[g + 1]? = _ ∧ w7.heap[g + 1 + 1]? = some (.cells #[.int .i64 0, .int .i64 SO, .int .i64 ZO, .int .u64 0, .int .u64 0, .int .i64 0, .slice none 0 0, .slice none 0 0] 39 (0, 0)) from by
      rw [← hw7]
      exact ⟨(heap_setCell_other _ _ _ _ (by simp; omega)).trans HX6.out.1, (heap_setCell_other _ _ _ _ (by simp)).trans HX6.out.2.1, by rw [put_at HX6.out.2.2]; rfl⟩)
    simp only [hw7]
    clear hw7
    have HTK := rtakes_g HR7.out hq hT
    rw [show takeS (fun f L => Tk.rightF f L 512) bs 511 (st3 bs) = tkP bs from rfl] at HTK
    refine HTK.mono ?_
    clear HTK
    rintro e w8 ⟨A1, c1, rfl, hc1, hn1, r1, r2, _⟩
    obtain ⟨F1, hF1⟩ : ∃ f, (tkP bs).1.1 = f := ⟨_, rfl⟩
    obtain ⟨N1, hN1⟩ : ∃ f, (tkP bs).1.2.length = f := ⟨_, rfl⟩
    have HFN1 := Lib.hid (And.intro hF1 hN1)
    rw [hF1, hN1]
    obtain ⟨G2, hG2⟩ : ∃ G2, NewG G1 w7 w8 = G2 := ⟨_, rfl⟩
    have HR8 := Lib.hid (show RG G2 W0 q a l c bs (tkP bs).2 w8 from by rw [← hG2]; exact HR7.out.new r1 r2.1)
    have HC8 := Lib.hid (show ClG G2 w8 A1 (Tk.twoC .i64 (tkP bs).1.2) from by rw [← hG2]; exact clg_new hc1 hn1)
    have HL2 := Lib.hid (fun y (hy : G1 y) => show G2 y from by rw [← hG2]; exact .inl hy)
    have HK8 := Lib.hid (HK7.out.trans (r2.less HL1.out))
    have HX8 := Lib.hid (show w8.heap[g]? = _ ∧ w8.heap[g + 1]? = _ ∧ w8.heap[g + 1 + 1]? = some (.cells #[.int .i64 0, .int .i64 SO, .int .i64 ZO, .int .u64 0, .int .u64 0, .int .i64 0, .slice none 0 0, .slice none 0 0] 39 (0, 0)) from ⟨(r2.2 _ HG3.out.1).trans HX7.out.1, (r2.2 _ HG3.out.2.1).trans HX7.out.2.1, (r2.2 _ HG3.out.2.2).trans HX7.out.2.2⟩)
    have HNW2 := Lib.hid (fun y (hy : G2 y) => show NewG G w w8 y from by
      rw [← hG2, ← HG1.out] at hy
      have h1 := HSZ1.out
      have h7 := (Array.getElem?_eq_some_iff.1 HX7.out.2.2).1
      have h8 := r2.1
      rcases hy with hy | hy
      · exact NewG.mono (by omega) hy
      · exact .inr ⟨by have := HGE.out; omega, hy.2⟩)
    have HA1 := Lib.hid (fun x (hx : A1 = some x) => show g + 1 < x.block from by have := hn1 x hx; have := (Array.getElem?_eq_some_iff.1 HX7.out.2.2).1; omega)
    clear hc1 hn1 r1 r2 hG2 hF1 hN1
    obtain ⟨g5, hg5⟩ : ∃ g5, w8.heap.size = g5 := ⟨_, rfl⟩
    have hgg5 : g + 1 + 1 < g5 := by have := (Array.getElem?_eq_some_iff.1 HX8.out.2.2).1; omega
    obtain ⟨u8, hu8⟩ : ∃ W, w8.alloc (.cells #[.int .i64 0, .slice none 0 0] 52) = W := ⟨_, rfl⟩
    have hy5 : u8.heap[g5]? = some (.cells #[.int .i64 0, .slice none 0 0] 52 (0, 0)) := by rw [← hu8, ← hg5]; exact heap_alloc_new _ _
    obtain ⟨w9, hw9⟩ : ∃ W, (u8.setCell ⟨g5, 0, none⟩ (.int .i64 F1)).setCell ⟨g5, 1, none⟩ (.slice A1 N1 c1) = W := ⟨_, rfl⟩
    have hb9 : Below w8.heap.size w8 w9 := by rw [← hw9, ← hu8]; exact ((((Below.refl _ _).alloc (Nat.le_refl _) _).setCell (p := ⟨g5, 0, none⟩) (by simp; omega) _).setCell (p := ⟨g5, 1, none⟩) (by simp; omega) _)
    have hz5 : w9.heap[g5]? = some (.cells #[.int .i64 F1, .slice A1 N1 c1] 52 (0, 0)) := by rw [← hw9, put_at (put_at hy5 _) _]; rfl
    have hsz9 : w9.heap.size = g5 + 1 := by rw [← hw9, ← hu8]; simp [World.setCell, hg5]
    obtain ⟨k0, k1, kf⟩ := Tk.box2 hy5
    have kf0 := kf 0
    have kf1 := kf 1
    obtain ⟨G3, hG3'⟩ : ∃ G3, NewG G2 w8 w9 = G3 := ⟨_, rfl⟩
    have HR9 := Lib.hid (show RG G3 W0 q a l c bs (tkP bs).2 w9 from by rw [← hG3']; exact HR8.out.more hb9)
    have HK89 := Lib.hid (KpG.of_below (fun y hy => HR8.out.lt hy) hb9)
    have HL3 := Lib.hid (fun y (hy : G2 y) => show G3 y from by rw [← hG3']; exact .inl hy)
    have HC9 := Lib.hid ((HC8.out.kept HK89.out).inc HL3.out)
    have HG5 := Lib.hid (show G3 g5 from by rw [← hG3']; exact .inr ⟨by omega, by omega⟩)
    have HK9 := Lib.hid (HK8.out.trans (HK89.out.less fun y hy => HL2.out y (HL1.out y hy)))
    have HX9 := Lib.hid (show (w9.heap[g]? = _ ∧ w9.heap[g + 1]? = _ ∧ w9.heap[g + 1 + 1]? = some (.cells #[.int .i64 0, .int .i64 SO, .int .i64 ZO, .int .u64 0, .int .u64 0, .int .i64 0, .slice none 0 0, .slice none 0 0] 39 (0, 0))) ∧ w9.heap[g5]? = _ from ⟨⟨(hb9.block _ (by omega)).trans HX8.out.1, (hb9.block _ (by omega)).trans HX8.out.2.1, (hb9.block _ (by omega)).trans HX8.out.2.2⟩, hz5⟩)
    have HNW3 := Lib.hid (fun y (hy : G3 y) => show NewG G w w9 y from by
      rw [← hG3'] at hy
      have h8 := HK8.out.1
      have h9 := hb9.size
      rcases hy with hy | hy
      · exact NewG.mono h9 (HNW2.out y hy)
      · exact .inr ⟨by omega, hy.2⟩)
    clear hy5 hb9 hz5 hG3' kf
    go_wp2_with fail
    clear k0 k1 kf0 kf1 hu8 hg5
    have HTK := rtakes_g HR9.out hq hT
    rw [show takeS (fun f L => Tk.rightF f L 512) bs 511 (tkP bs).2 = tkQ bs from rfl] at HTK
    refine HTK.mono ?_
    clear HTK
    rintro e w10 ⟨B1, d1, rfl, hc1, hn1, r1, r2, _⟩
    obtain ⟨F2, hF2⟩ : ∃ f, (tkQ bs).1.1 = f := ⟨_, rfl⟩
    obtain ⟨N2, hN2⟩ : ∃ f, (tkQ bs).1.2.length = f := ⟨_, rfl⟩
    have HFN2 := Lib.hid (And.intro hF2 hN2)
    rw [hF2, hN2]
    obtain ⟨G4, hG4⟩ : ∃ G4, NewG G3 w9 w10 = G4 := ⟨_, rfl⟩
    have HL4 := Lib.hid (fun y (hy : G3 y) => show G4 y from by rw [← hG4]; exact .inl hy)
    have HR10 := Lib.hid (show RG G4 W0 q a l c bs (tkQ bs).2 w10 from by rw [← hG4]; exact HR9.out.new r1 r2.1)
    have HC10 := Lib.hid (And.intro ((HC9.out.kept r2).inc HL4.out) (show ClG G4 w10 B1 (Tk.twoC .i64 (tkQ bs).1.2) from by rw [← hG4]; exact clg_new hc1 hn1))
    have HK10 := Lib.hid (HK9.out.trans (r2.less fun y hy => HL3.out y (HL2.out y (HL1.out y hy))))
    have HX10 := Lib.hid (show (w10.heap[g]? = _ ∧ w10.heap[g + 1]? = _ ∧ w10.heap[g + 1 + 1]? = some (.cells #[.int .i64 0, .int .i64 SO, .int .i64 ZO, .int .u64 0, .int .u64 0, .int .i64 0, .slice none 0 0, .slice none 0 0] 39 (0, 0))) ∧ w10.heap[g5]? = _ from ⟨⟨(r2.2 _ (HL3.out _ (HL2.out _ HG3.out.1))).trans HX9.out.1.1, (r2.2 _ (HL3.out _ (HL2.out _ HG3.out.2.1))).trans HX9.out.1.2.1, (r2.2 _ (HL3.out _ (HL2.out _ HG3.out.2.2))).trans HX9.out.1.2.2⟩, (r2.2 _ HG5.out).trans HX9.out.2⟩)
    have HNW4 := Lib.hid (fun y (hy : G4 y) => show NewG G w w10 y from by
      rw [← hG4] at hy
      have h9 := HK9.out.1
      have h10 := r2.1
      rcases hy with hy | hy
      · exact NewG.mono h10 (HNW3.out y hy)
      · exact .inr ⟨by omega, hy.2⟩)
    have HA2 := Lib.hid (fun x (hx : B1 = some x) => show g + 1 < x.block from by have := hn1 x hx; have := (Array.getElem?_eq_some_iff.1 HX9.out.2).1; omega)
    clear hc1 hn1 r1 r2 hG4 hF2 hN2
    obtain ⟨g6, hg6⟩ : ∃ g6, w10.heap.size = g6 := ⟨_, rfl⟩
    have hgg6 : g5 < g6 := by have := (Array.getElem?_eq_some_iff.1 HX10.out.2).1; omega
    obtain ⟨u10, hu10⟩ : ∃ W, w10.alloc (.cells #[.int .i64 0, .slice none 0 0] 52) = W := ⟨_, rfl⟩
    have hy6 : u10.heap[g6]? = some (.cells #[.int .i64 0, .slice none 0 0] 52 (0, 0)) := by rw [← hu10, ← hg6]; exact heap_alloc_new _ _
    obtain ⟨w11, hw11⟩ : ∃ W, (u10.setCell ⟨g6, 0, none⟩ (.int .i64 F2)).setCell ⟨g6, 1, none⟩ (.slice B1 N2 d1) = W := ⟨_, rfl⟩
    have hb11 : Below w10.heap.size w10 w11 := by rw [← hw11, ← hu10]; exact ((((Below.refl _ _).alloc (Nat.le_refl _) _).setCell (p := ⟨g6, 0, none⟩) (by simp; omega) _).setCell (p := ⟨g6, 1, none⟩) (by simp; omega) _)
    have hz6 : w11.heap[g6]? = some (.cells #[.int .i64 F2, .slice B1 N2 d1] 52 (0, 0)) := by rw [← hw11, put_at (put_at hy6 _) _]; rfl
    have hsz11 : w11.heap.size = g6 + 1 := by rw [← hw11, ← hu10]; simp [World.setCell, hg6]
    obtain ⟨k0, k1, kf⟩ := Tk.box2 hy6
    have kf0 := kf 0
    have kf1 := kf 1
    obtain ⟨G5, hG5'⟩ : ∃ G5, NewG G4 w10 w11 = G5 := ⟨_, rfl⟩
    have HR11 := Lib.hid (show RG G5 W0 q a l c bs (tkQ bs).2 w11 from by rw [← hG5']; exact HR10.out.more hb11)
    have HK1011 := Lib.hid (KpG.of_below (fun y hy => HR10.out.lt hy) hb11)
    have HL5 := Lib.hid (fun y (hy : G4 y) => show G5 y from by rw [← hG5']; exact .inl hy)
    have HC11 := Lib.hid (And.intro ((HC10.out.1.kept HK1011.out).inc HL5.out) ((HC10.out.2.kept HK1011.out).inc HL5.out))
    have HLA := Lib.hid (fun y (hy : G y) => HL5.out y (HL4.out y (HL3.out y (HL2.out y (HL1.out y hy)))))
    have HK11 := Lib.hid (HK10.out.trans (HK1011.out.less fun y hy => HL4.out y (HL3.out y (HL2.out y (HL1.out y hy)))))
    have HX11 := Lib.hid (show (w11.heap[g]? = _ ∧ w11.heap[g + 1]? = _ ∧ w11.heap[g + 1 + 1]? = some (.cells #[.int .i64 0, .int .i64 SO, .int .i64 ZO, .int .u64 0, .int .u64 0, .int .i64 0, .slice none 0 0, .slice none 0 0] 39 (0, 0))) ∧ w11.heap[g5]? = _ ∧ w11.heap[g6]? = _ from ⟨⟨(hb11.block _ (by omega)).trans HX10.out.1.1, (hb11.block _ (by omega)).trans HX10.out.1.2.1, (hb11.block _ (by omega)).trans HX10.out.1.2.2⟩, (hb11.block _ (by omega)).trans HX10.out.2, hz6⟩)
    have HG55 := Lib.hid (show G5 g ∧ G5 (g + 1) from ⟨HL5.out _ (HL4.out _ (HL3.out _ (HL2.out _ HG3.out.1))), HL5.out _ (HL4.out _ (HL3.out _ (HL2.out _ HG3.out.2.1)))⟩)
    have HNW5 := Lib.hid (fun y (hy : G5 y) => show NewG G w w11 y from by
      rw [← hG5'] at hy
      have h10 := HK10.out.1
      have h11 := hb11.size
      rcases hy with hy | hy
      · exact NewG.mono h11 (HNW4.out y hy)
      · exact .inr ⟨by omega, hy.2⟩)
    clear hy6 hb11 hz6 hG5' kf
    obtain ⟨s0, s1, s2, s3, s4, s5, s6, s7, _⟩ := box8 HX11.out.1.2.2
    obtain ⟨n0, n1, n2, n3, n4, n5, n6, n7, fn⟩ := box8 HX11.out.1.1
    obtain ⟨l0, l1, l2, l3, e0, e1, e2, e3⟩ := box4f HX11.out.1.2.1
    obtain ⟨p0, p1, _⟩ := Tk.box2 HX11.out.2.1
    obtain ⟨p2, p3, _⟩ := Tk.box2 HX11.out.2.2
    have f0 := fn 0
    have f1 := fn 1
    have f2 := fn 2
    have f3 := fn 3
    have f4 := fn 4
    have f5 := fn 5
    have f6 := fn 6
    have f7 := fn 7
    have d5 : g ≠ g5 := by omega
    have d6 : g ≠ g6 := by omega
    have d7 : g + 1 ≠ g5 := by omega
    have d8 : g + 1 ≠ g6 := by omega
    clear fn hgg5 hgg6 hsz9 hsz11
    go_wp2_with fail
    clear k0 k1 kf0 kf1 hu10 hg6
    go_region
    obtain ⟨w12, hw12⟩ : ∃ W, (setL (setL w11 g 0 [.int .i64 0, .int .i64 SO, .int .i64 ZO, .int .u64 0, .int .u64 0, .int .i64 0, .slice none 0 0, .slice none 0 0]) (g + 1) 0 [.int .i64 F1, .slice A1 N1 c1, .int .i64 F2, .slice B1 N2 d1]).drew = W := ⟨_, rfl⟩
    obtain ⟨hx12, hy12, hs12, hbl12⟩ := two_sets (L := [.int .i64 0, .int .i64 SO, .int .i64 ZO, .int .u64 0, .int .u64 0, .int .i64 0, .slice none 0 0, .slice none 0 0]) (M := [.int .i64 F1, .slice A1 N1 c1, .int .i64 F2, .slice B1 N2 d1]) HX11.out.1.1 HX11.out.1.2.1
    have hr12 := two_rg (L := [.int .i64 0, .int .i64 SO, .int .i64 ZO, .int .u64 0, .int .u64 0, .int .i64 0, .slice none 0 0, .slice none 0 0]) (M := [.int .i64 F1, .slice A1 N1 c1, .int .i64 F2, .slice B1 N2 d1]) HR11.out HG55.out.1 HG55.out.2 HWg
    have hc12 := two_cl (L := [.int .i64 0, .int .i64 SO, .int .i64 ZO, .int .u64 0, .int .u64 0, .int .i64 0, .slice none 0 0, .slice none 0 0]) (M := [.int .i64 F1, .slice A1 N1 c1, .int .i64 F2, .slice B1 N2 d1]) (g := g) HC11.out.1.1 (fun x hx => HA1.out x hx)
    have hd12 := two_cl (L := [.int .i64 0, .int .i64 SO, .int .i64 ZO, .int .u64 0, .int .u64 0, .int .i64 0, .slice none 0 0, .slice none 0 0]) (M := [.int .i64 F1, .slice A1 N1 c1, .int .i64 F2, .slice B1 N2 d1]) (g := g) HC11.out.2.1 (fun x hx => HA2.out x hx)
    rw [setA8, hw12] at hx12
    rw [setA4, hw12] at hy12
    rw [hw12] at hs12 hbl12 hr12 hc12 hd12
    have hk12 : KpG G w w12 := HK11.out.trans ⟨by omega, fun y hy => hbl12 y (HGT.out y hy)⟩
    have HEND := Lib.hid (show HeadP G W0 q a l c bs w (.returned (.tuple #[.agg #[.int .i64 0, .int .i64 SO, .int .i64 ZO, .int .u64 0, .int .u64 0, .int .i64 0, .slice none 0 0, .slice none 0 0], .agg #[.int .i64 F1, .slice A1 N1 c1, .int .i64 F2, .slice B1 N2 d1]])) w12 from by
      have hnw : ∀ y, G5 y → NewG G w w12 y := fun y hy => by
        have := HNW5.out y hy
        unfold NewG at this ⊢
        rw [hs12]; exact this
      refine ⟨A1, c1, B1, d1, ?_, ⟨hc12, fun hne x hx => hnw _ (HC11.out.1.2 hne x hx)⟩, ⟨hd12, fun hne x hx => hnw _ (HC11.out.2.2 hne x hx)⟩, HLE.out.new (hr12.less fun y hy => HLA.out y hy) hk12.1, hk12⟩
      rw [HKO.out, HSO.out, HZO.out, HFN1.out.1, HFN1.out.2, HFN2.out.1, HFN2.out.2]
      rfl)
    obtain ⟨z0, z1, z2, z3, z4, z5, z6, z7, _⟩ := box8 hx12
    obtain ⟨y0, y1, y2, y3, _⟩ := box4f hy12
    simp only [setL] at hw12
    rw [hw12]
    clear hx12 hy12 hs12 hr12 hc12 hd12 hbl12 hk12 hw12 s0 s1 s2 s3 s4 s5 s6 s7 n0 n1 n2 n3 n4 n5 n6 n7 l0 l1 l2 l3 e0 e1 e2 e3 p0 p1 p2 p3 f0 f1 f2 f3 f4 f5 f6 f7
    go_wp2_with fail
    exact bodyPost_ret (v := .tuple #[.agg #[.int .i64 0, .int .i64 SO, .int .i64 ZO, .int .u64 0, .int .u64 0, .int .i64 0, .slice none 0 0, .slice none 0 0], .agg #[.int .i64 F1, .slice A1 N1 c1, .int .i64 F2, .slice B1 N2 d1]]) (by simp [results, Tryz.results63, go_sem, z0, z1, z2, z3, z4, z5, z6, z7, y0, y1, y2, y3]) rfl HEND.out
  | true =>
    go_enter Tryz.func63, Tryz.ntmps63
    go_wp2_with fail
    clear m0 m1 m2 m3 m4 m5 m6 m7 f0 f1 f2 f3 f4 f5 f6 f7 hw9
    refine (rbit_g HR1.out hq).mono ?_
    rintro e w2 ⟨rfl, r1, r2⟩
    rw [HBT.out]
    have HR2 := Lib.hid (show RG G1 W0 q a l c bs (st1 bs) w2 from r1)
    have HK2 := Lib.hid r2
    have hy2 := (r2.2 _ HG3.out.2.2).trans HX.out.2.2
    clear r1 r2 hw1 hg
    have k0 := bx hy2 0 _ rfl
    have j0 : w2.frozen? ⟨g + 1 + 1, 0, none⟩ = false := by simp [World.frozen?, hy2]
    go_wp2_with fail
    clear k0 j0
    obtain ⟨w3, hw3⟩ : ∃ W, w2.setCell ⟨g + 1 + 1, 0, none⟩ (.int .i64 1) = W := ⟨_, rfl⟩
    have HR3 := Lib.hid (show RG G1 W0 q a l c bs (st1 bs) w3 from by rw [← hw3]; exact HR2.out.set ⟨g + 1 + 1, 0, none⟩ _ HG3.out.2.2 (by simp; omega))
    have HK3 := Lib.hid (show KpG G w w3 from by rw [← hw3]; exact (HK1.out.trans (HK2.out.less HL1.out)).trans (kp_set HR2.out (fun y hy => HL1.out y hy) (fun y hy => by have := HGT.out y hy; simp; omega)))
    have HX3 := Lib.hid (show w3.heap[g]? = _ ∧ w3.heap[g + 1]? = _ ∧ w3.heap[g + 1 + 1]? = some (.cells #[.int .i64 1, .int .i64 0, .int .i64 0, .int .u64 0, .int .u64 0, .int .i64 0, .slice none 0 0, .slice none 0 0] 39 (0, 0)) from by
      rw [← hw3]
      exact ⟨(heap_setCell_other _ _ _ _ (by simp; omega)).trans ((HK2.out.2 _ HG3.out.1).trans HX.out.1), (heap_setCell_other _ _ _ _ (by simp)).trans ((HK2.out.2 _ HG3.out.2.1).trans HX.out.2.1), by rw [put_at hy2]; rfl⟩)
    simp only [hw3]
    clear hw3
    clear hy2
    refine (rget_g 4 4 rfl (by decide) HR3.out hq).mono ?_
    obtain ⟨V4, S4, hv4⟩ : ∃ v s, Tk.getF bs 4 (st1 bs) = (v, s) := ⟨_, _, rfl⟩
    have hs2 : st2 bs = S4 := by unfold st2; rw [hv4]
    have hso : sOf bs = (V4 : Int) - 4 := by unfold sOf; rw [hv4]
    have hv16 : V4 < 16 := by have := getF_st bs 4 (st1 bs); rw [hv4] at this; simpa using this
    rw [hv4]
    rintro e w4 ⟨rfl, r1, r2⟩
    have HS2 := Lib.hid (And.intro hs2 hso)
    have HR4 := Lib.hid (show RG G1 W0 q a l c bs (st2 bs) w4 from by rw [hs2]; exact r1)
    have HK4 := Lib.hid (HK3.out.trans (r2.less HL1.out))
    have HX4 := Lib.hid (show w4.heap[g]? = _ ∧ w4.heap[g + 1]? = _ ∧ w4.heap[g + 1 + 1]? = some (.cells #[.int .i64 1, .int .i64 0, .int .i64 0, .int .u64 0, .int .u64 0, .int .i64 0, .slice none 0 0, .slice none 0 0] 39 (0, 0)) from ⟨(r2.2 _ HG3.out.1).trans HX3.out.1, (r2.2 _ HG3.out.2.1).trans HX3.out.2.1, (r2.2 _ HG3.out.2.2).trans HX3.out.2.2⟩)
    clear r1 r2 hv4 hs2 hso
    have k1 := bx HX4.out.2.2 1 _ rfl
    have j1 : w4.frozen? ⟨g + 1 + 1, 1, none⟩ = false := by simp [World.frozen?, HX4.out.2.2]
    have hadd : (V4 : Int) + -4 = (V4 : Int) - 4 := by omega
    go_wp2_with fail
    clear k1 j1
    obtain ⟨w5, hw5⟩ : ∃ W, w4.setCell ⟨g + 1 + 1, 1, none⟩ (.int .i64 ((V4 : Int) + -4)) = W := ⟨_, rfl⟩
    try rw [hadd] at hw5
    obtain ⟨SO, hSO⟩ : ∃ x, (V4 : Int) - 4 = x := ⟨_, rfl⟩
    rw [hSO] at hw5
    have HR5 := Lib.hid (show RG G1 W0 q a l c bs (st2 bs) w5 from by rw [← hw5]; exact HR4.out.set ⟨g + 1 + 1, 1, none⟩ _ HG3.out.2.2 (by simp; omega))
    have HK5 := Lib.hid (show KpG G w w5 from by rw [← hw5]; exact HK4.out.trans (kp_set HR4.out (fun y hy => HL1.out y hy) (fun y hy => by have := HGT.out y hy; simp; omega)))
    have HX5 := Lib.hid (show w5.heap[g]? = _ ∧ w5.heap[g + 1]? = _ ∧ w5.heap[g + 1 + 1]? = some (.cells #[.int .i64 1, .int .i64 SO, .int .i64 0, .int .u64 0, .int .u64 0, .int .i64 0, .slice none 0 0, .slice none 0 0] 39 (0, 0)) from by
      rw [← hw5]
      exact ⟨(heap_setCell_other _ _ _ _ (by simp; omega)).trans HX4.out.1, (heap_setCell_other _ _ _ _ (by simp)).trans HX4.out.2.1, by rw [put_at HX4.out.2.2]; rfl⟩)
    have HSO := Lib.hid (show sOf bs = SO from by rw [HS2.out.2, hSO])
    simp only [hSO, hw5]
    clear hw5 hSO hadd
    refine (rint_g HR5.out hq hT).mono ?_
    obtain ⟨ZO, S6, hv6⟩ : ∃ v s, intF bs (st2 bs) = (v, s) := ⟨_, _, rfl⟩
    have hs3 : st3 bs = S6 := by unfold st3; rw [hv6]
    have HZO := Lib.hid (show zOf bs = ZO from by unfold zOf; rw [hv6])
    rw [hv6]
    rintro e w6 ⟨rfl, r1, r2⟩
    have HR6 := Lib.hid (show RG G1 W0 q a l c bs (st3 bs) w6 from by rw [hs3]; exact r1)
    have HK6 := Lib.hid (HK5.out.trans (r2.less HL1.out))
    have HX6 := Lib.hid (show w6.heap[g]? = _ ∧ w6.heap[g + 1]? = _ ∧ w6.heap[g + 1 + 1]? = some (.cells #[.int .i64 1, .int .i64 SO, .int .i64 0, .int .u64 0, .int .u64 0, .int .i64 0, .slice none 0 0, .slice none 0 0] 39 (0, 0)) from ⟨(r2.2 _ HG3.out.1).trans HX5.out.1, (r2.2 _ HG3.out.2.1).trans HX5.out.2.1, (r2.2 _ HG3.out.2.2).trans HX5.out.2.2⟩)
    clear r1 r2 hv6 hs3
    have k1 := bx HX6.out.2.2 2 _ rfl
    have j1 : w6.frozen? ⟨g + 1 + 1, 2, none⟩ = false := by simp [World.frozen?, HX6.out.2.2]
    go_wp2_with fail
    clear k1 j1
    obtain ⟨w7, hw7⟩ : ∃ W, w6.setCell ⟨g + 1 + 1, 2, none⟩ (.int .i64 ZO) = W := ⟨_, rfl⟩
    have HR7 := Lib.hid (show RG G1 W0 q a l c bs (st3 bs) w7 from by rw [← hw7]; exact HR6.out.set ⟨g + 1 + 1, 2, none⟩ _ HG3.out.2.2 (by simp; omega))
    have HK7 := Lib.hid (show KpG G w w7 from by rw [← hw7]; exact HK6.out.trans (kp_set HR6.out (fun y hy => HL1.out y hy) (fun y hy => by have := HGT.out y hy; simp; omega)))
    have HX7 := Lib.hid (show w7.heap[g]? = _ ∧ w7.heap[g + 1]? = _ ∧ w7.heap[g + 1 + 1]? = some (.cells #[.int .i64 1, .int .i64 SO, .int .i64 ZO, .int .u64 0, .int .u64 0, .int .i64 0, .slice none 0 0, .slice none 0 0] 39 (0, 0)) from by
      rw [← hw7]
      exact ⟨(heap_setCell_other _ _ _ _ (by simp; omega)).trans HX6.out.1, (heap_setCell_other _ _ _ _ (by simp)).trans HX6.out.2.1, by rw [put_at HX6.out.2.2]; rfl⟩)
    simp only [hw7]
    clear hw7
    have HTK := rtakes_g HR7.out hq hT
    rw [show takeS (fun f L => Tk.rightF f L 512) bs 511 (st3 bs) = tkP bs from rfl] at HTK
    refine HTK.mono ?_
    clear HTK
    rintro e w8 ⟨A1, c1, rfl, hc1, hn1, r1, r2, _⟩
    obtain ⟨F1, hF1⟩ : ∃ f, (tkP bs).1.1 = f := ⟨_, rfl⟩
    obtain ⟨N1, hN1⟩ : ∃ f, (tkP bs).1.2.length = f := ⟨_, rfl⟩
    have HFN1 := Lib.hid (And.intro hF1 hN1)
    rw [hF1, hN1]
    obtain ⟨G2, hG2⟩ : ∃ G2, NewG G1 w7 w8 = G2 := ⟨_, rfl⟩
    have HR8 := Lib.hid (show RG G2 W0 q a l c bs (tkP bs).2 w8 from by rw [← hG2]; exact HR7.out.new r1 r2.1)
    have HC8 := Lib.hid (show ClG G2 w8 A1 (Tk.twoC .i64 (tkP bs).1.2) from by rw [← hG2]; exact clg_new hc1 hn1)
    have HL2 := Lib.hid (fun y (hy : G1 y) => show G2 y from by rw [← hG2]; exact .inl hy)
    have HK8 := Lib.hid (HK7.out.trans (r2.less HL1.out))
    have HX8 := Lib.hid (show w8.heap[g]? = _ ∧ w8.heap[g + 1]? = _ ∧ w8.heap[g + 1 + 1]? = some (.cells #[.int .i64 1, .int .i64 SO, .int .i64 ZO, .int .u64 0, .int .u64 0, .int .i64 0, .slice none 0 0, .slice none 0 0] 39 (0, 0)) from ⟨(r2.2 _ HG3.out.1).trans HX7.out.1, (r2.2 _ HG3.out.2.1).trans HX7.out.2.1, (r2.2 _ HG3.out.2.2).trans HX7.out.2.2⟩)
    have HNW2 := Lib.hid (fun y (hy : G2 y) => show NewG G w w8 y from by
      rw [← hG2, ← HG1.out] at hy
      have h1 := HSZ1.out
      have h7 := (Array.getElem?_eq_some_iff.1 HX7.out.2.2).1
      have h8 := r2.1
      rcases hy with hy | hy
      · exact NewG.mono (by omega) hy
      · exact .inr ⟨by have := HGE.out; omega, hy.2⟩)
    have HA1 := Lib.hid (fun x (hx : A1 = some x) => show g + 1 < x.block from by have := hn1 x hx; have := (Array.getElem?_eq_some_iff.1 HX7.out.2.2).1; omega)
    clear hc1 hn1 r1 r2 hG2 hF1 hN1
    obtain ⟨g5, hg5⟩ : ∃ g5, w8.heap.size = g5 := ⟨_, rfl⟩
    have hgg5 : g + 1 + 1 < g5 := by have := (Array.getElem?_eq_some_iff.1 HX8.out.2.2).1; omega
    obtain ⟨u8, hu8⟩ : ∃ W, w8.alloc (.cells #[.int .i64 0, .slice none 0 0] 52) = W := ⟨_, rfl⟩
    have hy5 : u8.heap[g5]? = some (.cells #[.int .i64 0, .slice none 0 0] 52 (0, 0)) := by rw [← hu8, ← hg5]; exact heap_alloc_new _ _
    obtain ⟨w9, hw9⟩ : ∃ W, (u8.setCell ⟨g5, 0, none⟩ (.int .i64 F1)).setCell ⟨g5, 1, none⟩ (.slice A1 N1 c1) = W := ⟨_, rfl⟩
    have hb9 : Below w8.heap.size w8 w9 := by rw [← hw9, ← hu8]; exact ((((Below.refl _ _).alloc (Nat.le_refl _) _).setCell (p := ⟨g5, 0, none⟩) (by simp; omega) _).setCell (p := ⟨g5, 1, none⟩) (by simp; omega) _)
    have hz5 : w9.heap[g5]? = some (.cells #[.int .i64 F1, .slice A1 N1 c1] 52 (0, 0)) := by rw [← hw9, put_at (put_at hy5 _) _]; rfl
    have hsz9 : w9.heap.size = g5 + 1 := by rw [← hw9, ← hu8]; simp [World.setCell, hg5]
    obtain ⟨k0, k1, kf⟩ := Tk.box2 hy5
    have kf0 := kf 0
    have kf1 := kf 1
    obtain ⟨G3, hG3'⟩ : ∃ G3, NewG G2 w8 w9 = G3 := ⟨_, rfl⟩
    have HR9 := Lib.hid (show RG G3 W0 q a l c bs (tkP bs).2 w9 from by rw [← hG3']; exact HR8.out.more hb9)
    have HK89 := Lib.hid (KpG.of_below (fun y hy => HR8.out.lt hy) hb9)
    have HL3 := Lib.hid (fun y (hy : G2 y) => show G3 y from by rw [← hG3']; exact .inl hy)
    have HC9 := Lib.hid ((HC8.out.kept HK89.out).inc HL3.out)
    have HG5 := Lib.hid (show G3 g5 from by rw [← hG3']; exact .inr ⟨by omega, by omega⟩)
    have HK9 := Lib.hid (HK8.out.trans (HK89.out.less fun y hy => HL2.out y (HL1.out y hy)))
    have HX9 := Lib.hid (show (w9.heap[g]? = _ ∧ w9.heap[g + 1]? = _ ∧ w9.heap[g + 1 + 1]? = some (.cells #[.int .i64 1, .int .i64 SO, .int .i64 ZO, .int .u64 0, .int .u64 0, .int .i64 0, .slice none 0 0, .slice none 0 0] 39 (0, 0))) ∧ w9.heap[g5]? = _ from ⟨⟨(hb9.block _ (by omega)).trans HX8.out.1, (hb9.block _ (by omega)).trans HX8.out.2.1, (hb9.block _ (by omega)).trans HX8.out.2.2⟩, hz5⟩)
    have HNW3 := Lib.hid (fun y (hy : G3 y) => show NewG G w w9 y from by
      rw [← hG3'] at hy
      have h8 := HK8.out.1
      have h9 := hb9.size
      rcases hy with hy | hy
      · exact NewG.mono h9 (HNW2.out y hy)
      · exact .inr ⟨by omega, hy.2⟩)
    clear hy5 hb9 hz5 hG3' kf
    go_wp2_with fail
    clear k0 k1 kf0 kf1 hu8 hg5
    have HTK := rtakes_g HR9.out hq hT
    rw [show takeS (fun f L => Tk.rightF f L 512) bs 511 (tkP bs).2 = tkQ bs from rfl] at HTK
    refine HTK.mono ?_
    clear HTK
    rintro e w10 ⟨B1, d1, rfl, hc1, hn1, r1, r2, _⟩
    obtain ⟨F2, hF2⟩ : ∃ f, (tkQ bs).1.1 = f := ⟨_, rfl⟩
    obtain ⟨N2, hN2⟩ : ∃ f, (tkQ bs).1.2.length = f := ⟨_, rfl⟩
    have HFN2 := Lib.hid (And.intro hF2 hN2)
    rw [hF2, hN2]
    obtain ⟨G4, hG4⟩ : ∃ G4, NewG G3 w9 w10 = G4 := ⟨_, rfl⟩
    have HL4 := Lib.hid (fun y (hy : G3 y) => show G4 y from by rw [← hG4]; exact .inl hy)
    have HR10 := Lib.hid (show RG G4 W0 q a l c bs (tkQ bs).2 w10 from by rw [← hG4]; exact HR9.out.new r1 r2.1)
    have HC10 := Lib.hid (And.intro ((HC9.out.kept r2).inc HL4.out) (show ClG G4 w10 B1 (Tk.twoC .i64 (tkQ bs).1.2) from by rw [← hG4]; exact clg_new hc1 hn1))
    have HK10 := Lib.hid (HK9.out.trans (r2.less fun y hy => HL3.out y (HL2.out y (HL1.out y hy))))
    have HX10 := Lib.hid (show (w10.heap[g]? = _ ∧ w10.heap[g + 1]? = _ ∧ w10.heap[g + 1 + 1]? = some (.cells #[.int .i64 1, .int .i64 SO, .int .i64 ZO, .int .u64 0, .int .u64 0, .int .i64 0, .slice none 0 0, .slice none 0 0] 39 (0, 0))) ∧ w10.heap[g5]? = _ from ⟨⟨(r2.2 _ (HL3.out _ (HL2.out _ HG3.out.1))).trans HX9.out.1.1, (r2.2 _ (HL3.out _ (HL2.out _ HG3.out.2.1))).trans HX9.out.1.2.1, (r2.2 _ (HL3.out _ (HL2.out _ HG3.out.2.2))).trans HX9.out.1.2.2⟩, (r2.2 _ HG5.out).trans HX9.out.2⟩)
    have HNW4 := Lib.hid (fun y (hy : G4 y) => show NewG G w w10 y from by
      rw [← hG4] at hy
      have h9 := HK9.out.1
      have h10 := r2.1
      rcases hy with hy | hy
      · exact NewG.mono h10 (HNW3.out y hy)
      · exact .inr ⟨by omega, hy.2⟩)
    have HA2 := Lib.hid (fun x (hx : B1 = some x) => show g + 1 < x.block from by have := hn1 x hx; have := (Array.getElem?_eq_some_iff.1 HX9.out.2).1; omega)
    clear hc1 hn1 r1 r2 hG4 hF2 hN2
    obtain ⟨g6, hg6⟩ : ∃ g6, w10.heap.size = g6 := ⟨_, rfl⟩
    have hgg6 : g5 < g6 := by have := (Array.getElem?_eq_some_iff.1 HX10.out.2).1; omega
    obtain ⟨u10, hu10⟩ : ∃ W, w10.alloc (.cells #[.int .i64 0, .slice none 0 0] 52) = W := ⟨_, rfl⟩
    have hy6 : u10.heap[g6]? = some (.cells #[.int .i64 0, .slice none 0 0] 52 (0, 0)) := by rw [← hu10, ← hg6]; exact heap_alloc_new _ _
    obtain ⟨w11, hw11⟩ : ∃ W, (u10.setCell ⟨g6, 0, none⟩ (.int .i64 F2)).setCell ⟨g6, 1, none⟩ (.slice B1 N2 d1) = W := ⟨_, rfl⟩
    have hb11 : Below w10.heap.size w10 w11 := by rw [← hw11, ← hu10]; exact ((((Below.refl _ _).alloc (Nat.le_refl _) _).setCell (p := ⟨g6, 0, none⟩) (by simp; omega) _).setCell (p := ⟨g6, 1, none⟩) (by simp; omega) _)
    have hz6 : w11.heap[g6]? = some (.cells #[.int .i64 F2, .slice B1 N2 d1] 52 (0, 0)) := by rw [← hw11, put_at (put_at hy6 _) _]; rfl
    have hsz11 : w11.heap.size = g6 + 1 := by rw [← hw11, ← hu10]; simp [World.setCell, hg6]
    obtain ⟨k0, k1, kf⟩ := Tk.box2 hy6
    have kf0 := kf 0
    have kf1 := kf 1
    obtain ⟨G5, hG5'⟩ : ∃ G5, NewG G4 w10 w11 = G5 := ⟨_, rfl⟩
    have HR11 := Lib.hid (show RG G5 W0 q a l c bs (tkQ bs).2 w11 from by rw [← hG5']; exact HR10.out.more hb11)
    have HK1011 := Lib.hid (KpG.of_below (fun y hy => HR10.out.lt hy) hb11)
    have HL5 := Lib.hid (fun y (hy : G4 y) => show G5 y from by rw [← hG5']; exact .inl hy)
    have HC11 := Lib.hid (And.intro ((HC10.out.1.kept HK1011.out).inc HL5.out) ((HC10.out.2.kept HK1011.out).inc HL5.out))
    have HLA := Lib.hid (fun y (hy : G y) => HL5.out y (HL4.out y (HL3.out y (HL2.out y (HL1.out y hy)))))
    have HK11 := Lib.hid (HK10.out.trans (HK1011.out.less fun y hy => HL4.out y (HL3.out y (HL2.out y (HL1.out y hy)))))
    have HX11 := Lib.hid (show (w11.heap[g]? = _ ∧ w11.heap[g + 1]? = _ ∧ w11.heap[g + 1 + 1]? = some (.cells #[.int .i64 1, .int .i64 SO, .int .i64 ZO, .int .u64 0, .int .u64 0, .int .i64 0, .slice none 0 0, .slice none 0 0] 39 (0, 0))) ∧ w11.heap[g5]? = _ ∧ w11.heap[g6]? = _ from ⟨⟨(hb11.block _ (by omega)).trans HX10.out.1.1, (hb11.block _ (by omega)).trans HX10.out.1.2.1, (hb11.block _ (by omega)).trans HX10.out.1.2.2⟩, (hb11.block _ (by omega)).trans HX10.out.2, hz6⟩)
    have HG55 := Lib.hid (show G5 g ∧ G5 (g + 1) from ⟨HL5.out _ (HL4.out _ (HL3.out _ (HL2.out _ HG3.out.1))), HL5.out _ (HL4.out _ (HL3.out _ (HL2.out _ HG3.out.2.1)))⟩)
    have HNW5 := Lib.hid (fun y (hy : G5 y) => show NewG G w w11 y from by
      rw [← hG5'] at hy
      have h10 := HK10.out.1
      have h11 := hb11.size
      rcases hy with hy | hy
      · exact NewG.mono h11 (HNW4.out y hy)
      · exact .inr ⟨by omega, hy.2⟩)
    clear hy6 hb11 hz6 hG5' kf
    obtain ⟨s0, s1, s2, s3, s4, s5, s6, s7, _⟩ := box8 HX11.out.1.2.2
    obtain ⟨n0, n1, n2, n3, n4, n5, n6, n7, fn⟩ := box8 HX11.out.1.1
    obtain ⟨l0, l1, l2, l3, e0, e1, e2, e3⟩ := box4f HX11.out.1.2.1
    obtain ⟨p0, p1, _⟩ := Tk.box2 HX11.out.2.1
    obtain ⟨p2, p3, _⟩ := Tk.box2 HX11.out.2.2
    have f0 := fn 0
    have f1 := fn 1
    have f2 := fn 2
    have f3 := fn 3
    have f4 := fn 4
    have f5 := fn 5
    have f6 := fn 6
    have f7 := fn 7
    have d5 : g ≠ g5 := by omega
    have d6 : g ≠ g6 := by omega
    have d7 : g + 1 ≠ g5 := by omega
    have d8 : g + 1 ≠ g6 := by omega
    clear fn hgg5 hgg6 hsz9 hsz11
    go_wp2_with fail
    clear k0 k1 kf0 kf1 hu10 hg6
    go_region
    obtain ⟨w12, hw12⟩ : ∃ W, (setL (setL w11 g 0 [.int .i64 1, .int .i64 SO, .int .i64 ZO, .int .u64 0, .int .u64 0, .int .i64 0, .slice none 0 0, .slice none 0 0]) (g + 1) 0 [.int .i64 F1, .slice A1 N1 c1, .int .i64 F2, .slice B1 N2 d1]).drew = W := ⟨_, rfl⟩
    obtain ⟨hx12, hy12, hs12, hbl12⟩ := two_sets (L := [.int .i64 1, .int .i64 SO, .int .i64 ZO, .int .u64 0, .int .u64 0, .int .i64 0, .slice none 0 0, .slice none 0 0]) (M := [.int .i64 F1, .slice A1 N1 c1, .int .i64 F2, .slice B1 N2 d1]) HX11.out.1.1 HX11.out.1.2.1
    have hr12 := two_rg (L := [.int .i64 1, .int .i64 SO, .int .i64 ZO, .int .u64 0, .int .u64 0, .int .i64 0, .slice none 0 0, .slice none 0 0]) (M := [.int .i64 F1, .slice A1 N1 c1, .int .i64 F2, .slice B1 N2 d1]) HR11.out HG55.out.1 HG55.out.2 HWg
    have hc12 := two_cl (L := [.int .i64 1, .int .i64 SO, .int .i64 ZO, .int .u64 0, .int .u64 0, .int .i64 0, .slice none 0 0, .slice none 0 0]) (M := [.int .i64 F1, .slice A1 N1 c1, .int .i64 F2, .slice B1 N2 d1]) (g := g) HC11.out.1.1 (fun x hx => HA1.out x hx)
    have hd12 := two_cl (L := [.int .i64 1, .int .i64 SO, .int .i64 ZO, .int .u64 0, .int .u64 0, .int .i64 0, .slice none 0 0, .slice none 0 0]) (M := [.int .i64 F1, .slice A1 N1 c1, .int .i64 F2, .slice B1 N2 d1]) (g := g) HC11.out.2.1 (fun x hx => HA2.out x hx)
    rw [setA8, hw12] at hx12
    rw [setA4, hw12] at hy12
    rw [hw12] at hs12 hbl12 hr12 hc12 hd12
    have hk12 : KpG G w w12 := HK11.out.trans ⟨by omega, fun y hy => hbl12 y (HGT.out y hy)⟩
    have HEND := Lib.hid (show HeadP G W0 q a l c bs w (.returned (.tuple #[.agg #[.int .i64 1, .int .i64 SO, .int .i64 ZO, .int .u64 0, .int .u64 0, .int .i64 0, .slice none 0 0, .slice none 0 0], .agg #[.int .i64 F1, .slice A1 N1 c1, .int .i64 F2, .slice B1 N2 d1]])) w12 from by
      have hnw : ∀ y, G5 y → NewG G w w12 y := fun y hy => by
        have := HNW5.out y hy
        unfold NewG at this ⊢
        rw [hs12]; exact this
      refine ⟨A1, c1, B1, d1, ?_, ⟨hc12, fun hne x hx => hnw _ (HC11.out.1.2 hne x hx)⟩, ⟨hd12, fun hne x hx => hnw _ (HC11.out.2.2 hne x hx)⟩, HLE.out.new (hr12.less fun y hy => HLA.out y hy) hk12.1, hk12⟩
      rw [HKO.out, HSO.out, HZO.out, HFN1.out.1, HFN1.out.2, HFN2.out.1, HFN2.out.2]
      rfl)
    obtain ⟨z0, z1, z2, z3, z4, z5, z6, z7, _⟩ := box8 hx12
    obtain ⟨y0, y1, y2, y3, _⟩ := box4f hy12
    simp only [setL] at hw12
    rw [hw12]
    clear hx12 hy12 hs12 hr12 hc12 hd12 hbl12 hk12 hw12 s0 s1 s2 s3 s4 s5 s6 s7 n0 n1 n2 n3 n4 n5 n6 n7 l0 l1 l2 l3 e0 e1 e2 e3 p0 p1 p2 p3 f0 f1 f2 f3 f4 f5 f6 f7
    go_wp2_with fail
    exact bodyPost_ret (v := .tuple #[.agg #[.int .i64 1, .int .i64 SO, .int .i64 ZO, .int .u64 0, .int .u64 0, .int .i64 0, .slice none 0 0, .slice none 0 0], .agg #[.int .i64 F1, .slice A1 N1 c1, .int .i64 F2, .slice B1 N2 d1]]) (by simp [results, Tryz.results63, go_sem, z0, z1, z2, z3, z4, z5, z6, z7, y0, y1, y2, y3]) rfl HEND.out
end Go.Proofs.YtakomfnajeolcaaGreatDoor.Ch
