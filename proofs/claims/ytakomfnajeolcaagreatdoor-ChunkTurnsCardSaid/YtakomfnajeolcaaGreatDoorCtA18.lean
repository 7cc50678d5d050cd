import Derived.Test.YtakomfnajeolcaaGreatDoorCtA17
set_option linter.unusedVariables false
/- The contract of spread: the buckets of a map of counts, side by side, by rising indices. -/
namespace Go.Proofs.YtakomfnajeolcaaGreatDoor
open Go.RowKit Go.Sort Go.Maps
set_option linter.unusedVariables false

/-- a row of buckets of the call's own, as a list that is read -/
theorem own_bk {w : World} {base n cap : Nat} {A : Option Addr} {X : List (Int × Int)} (h : w.ownsRow base 86 2 (.slice A n cap) n (cellsL X)) (hw : ∀ p ∈ X, Wb p) (hl : X.length ≤ 1000000) : Bk w A X := by
  have hn : n = X.length := by
    have := h.1
    rw [cellsL_length] at this
    omega
  subst hn
  refine ⟨by omega, hw, ?_⟩
  by_cases h0 : X.length = 0
  · exact .inl h0
  · obtain ⟨g, cap', hv, _, _⟩ := h.form (by omega)
    injection hv with e1 e2 e3
    subst e1
    refine .inr ⟨g, 0, rfl, fun j p hj => ?_⟩
    have hjl : j < X.length := (List.getElem?_eq_some_iff.1 hj).1
    obtain ⟨a, b⟩ := cellsL_at X j p hj
    rw [Nat.zero_add, h.cellAt (j * 2) (by omega), h.cellAt (j * 2 + 1) (by omega)]
    exact ⟨a, b⟩
theorem asc_of {X Y : List (Int × Int)} (hp : Y.Perm X) (hs : Sorted Y) (hn : (X.map (·.1)).Nodup) : Asc Y := by
  have hn' : (Y.map (·.1)).Nodup := (hp.map (·.1)).nodup_iff.2 hn
  rw [List.Nodup, List.pairwise_map] at hn'
  exact (List.Pairwise.and hs hn').imp (fun ⟨h1, h2⟩ => by omega)
theorem infoB : (Tryz.prog.info? 86).map (fun i => (i.zero, i.size, i.bytes)) = some (some (.agg #[.int .i64 0, .int .u64 0]), 2, 16) := by kernel_rfl
def mkKey (t : Int × Int × Int) : Value := .agg #[.int .i64 t.1, .int .i64 t.2.1, .int .i64 t.2.2]
/-- a slice that lies in memory made since, or nowhere -/
def NewA (w : World) (A : Option Addr) : Prop := ∀ a, A = some a → w.heap.size ≤ a.block
/-- how many buckets there are, and how much room -/
def SzF (X Y : List (Int × Int)) (c d : Nat) : Prop := X.length + Y.length ≤ 2200 ∧ (X.length ≤ c ∧ c ≤ 9223372036854775807) ∧ (Y.length ≤ d ∧ d ≤ 9223372036854775807)
theorem own_cap {w : World} {base size n c : Nat} {e : TypeId} {A : Option Addr} {xs : List Value} (h : w.ownsRow base e size (.slice A n c) n xs) : n ≤ c ∧ c ≤ 9223372036854775807 := by
  rcases h.2 with ⟨he, hn⟩ | ⟨g, cap, cur, he, _, _, hnc, hcm, _⟩
  · injection he with _ _ h3
    exact ⟨by omega, by omega⟩
  · injection he with _ _ h3
    unfold maxLen at hcm
    exact ⟨by omega, by omega⟩
/-- the sides as they are handed out -/
def SpreadPost (w : World) (f : F3) (sc : Int) (e : Ending) (w' : World) : Prop :=
  ∃ (A C : Option Addr) (c d : Nat) (X Y : List (Int × Int)), e = .returned (.agg #[.slice A X.length c, .slice C Y.length d]) ∧ Bk w' A X ∧ Bk w' C Y ∧ Asc X ∧ Asc Y ∧ Side f sc 1 X ∧ Side f sc (-1) Y ∧ SzF X Y c d ∧ NewA w A ∧ NewA w C ∧ Below w.heap.size w w'
def SpRel (w : World) (B1 r b n : Nat) (D : DataW Unit) (f : F3) (sc : Int) (wr : World) : Prop := ∃ (left : Lit → Bool) (cnt : Nat) (A C : Option Addr) (c d : Nat) (X Y : List (Int × Int)), SpSt w wr B1 r b n D f sc left cnt A C c d X Y

/-- what the step of the range leaves standing -/
theorem SpSt.mk2 {w w0 w1 : World} {B1 r b n : Nat} {D : DataW Unit} {f : F3} {sc : Int} {left left' : Lit → Bool} {cnt cnt' : Nat} {A C : Option Addr} {c d : Nat} {X Y : List (Int × Int)} (h : SpSt w w0 B1 r b n D f sc left cnt A C c d X Y)
    (hr1 : w1.ranges Tryz.prog 175 (plainElem Tryz.prog 36) b r n D left' cnt') (hg1 : w0.grownBy w1 (some r)) (hb1 : B1 < w0.heap.size) :
    w1.heap[B1]? = some (.cells #[.slice A X.length c, .slice C Y.length d] 99 (0, 0)) ∧
      (w1.ownsRow (r + 1) 86 2 (.slice A X.length c) X.length (cellsL X) ∧ w1.ownsRow (r + 1) 86 2 (.slice C Y.length d) Y.length (cellsL Y)) ∧ B1 < w1.heap.size := by
  have key : ∀ v m xs, w0.ownsRow (r + 1) 86 2 v m xs → v.ownBlock = none ∨ v.ownBlock ≠ some r := fun v m xs hv => by
    rcases ho : v.ownBlock with _ | gg
    · exact .inl rfl
    · refine .inr (fun e => ?_)
      injection e with e
      have := (hv.lt gg ho).1
      omega
  refine ⟨?_, ⟨h.ownX.kept hg1 (key _ _ _ h.ownX), h.ownY.kept hg1 (key _ _ _ h.ownY)⟩, Nat.lt_of_lt_of_le hb1 hg1.size⟩
  rw [hg1.block B1 hb1 (by have := h.mid; intro e; injection e with e; omega)]
  exact h.arr
theorem put_cell {wa w3 : World} {o : Obj} {B1 r k q : Nat} {cs : Array Value} {t : TypeId} {v u : Value} (hg : ((wa.drewN q).alloc o).grownBy w3 v.ownBlock) (ha : wa.heap[B1]? = some (.cells cs t (0, 0))) (hrow : ∀ g, v.ownBlock = some g → r + 1 ≤ g) (hBr : B1 < r) (hk : cs[k]? = some u) : w3.cell? ⟨B1, k, none⟩ = some u := by
  have hlt : B1 < wa.heap.size := (Array.getElem?_eq_some_iff.1 ha).1
  have e1 : w3.heap[B1]? = some (.cells cs t (0, 0)) := by
    rw [hg.block B1 (by simp; omega) (fun e => by have := hrow B1 e.symm; omega), Below.heap_alloc _ _ _ (by simpa using hlt)]
    exact ha
  rw [cell_of_row _ _ _ _ _ _ e1, hk]
theorem put_free {wa w3 : World} {o : Obj} {B1 r k q : Nat} {cs : Array Value} {t : TypeId} {v : Value} (hg : ((wa.drewN q).alloc o).grownBy w3 v.ownBlock) (ha : wa.heap[B1]? = some (.cells cs t (0, 0))) (hrow : ∀ g, v.ownBlock = some g → r + 1 ≤ g) (hBr : B1 < r) : w3.frozen? ⟨B1, k, none⟩ = false := by
  have hlt : B1 < wa.heap.size := (Array.getElem?_eq_some_iff.1 ha).1
  have e1 : w3.heap[B1]? = some (.cells cs t (0, 0)) := by
    rw [hg.block B1 (by simp; omega) (fun e => by have := hrow B1 e.symm; omega), Below.heap_alloc _ _ _ (by simpa using hlt)]
    exact ha
  simp [World.frozen?, e1]
/-- what stands behind the sorts -/
def SrtSt (w wr : World) (B1 r : Nat) (A C : Option Addr) (c d n m : Nat) (X Y : List (Int × Int)) : Prop :=
  wr.heap[B1]? = some (.cells #[.slice A n c, .slice C m d] 99 (0, 0)) ∧ wr.ownsRow (r + 1) 86 2 (.slice A n c) n (cellsL X) ∧ wr.ownsRow (r + 1) 86 2 (.slice C m d) m (cellsL Y) ∧ Apart (.slice A n c) (.slice C m d) ∧ Below w.heap.size w wr
theorem SpSt.sortX {w w0 w1 : World} {B1 r b n : Nat} {D : DataW Unit} {f : F3} {sc : Int} {left : Lit → Bool} {cnt : Nat} {A C : Option Addr} {c d : Nat} {X Y X' : List (Int × Int)} (h : SpSt w w0 B1 r b n D f sc left cnt A C c d X Y)
    (ho : w1.ownsRow (r + 1) 86 2 (.slice A X.length c) X.length (cellsL X')) (hg : w0.grownBy w1 (Value.slice A X.length c).ownBlock) : SrtSt w w1 B1 r A C c d X.length Y.length X' Y := by
  have hlr := h.rng.lt
  have hm := h.mid
  have hlo := h.lo
  refine ⟨?_, ho, h.ownY.kept hg ?_, h.apart, h.bel.grown hg h.bel.size (fun k hk => by have := (h.ownX.lt k hk).1; omega)⟩
  · rw [hg.block B1 (by omega) (fun e => by have := (h.ownX.lt B1 e.symm).1; omega)]
    exact h.arr
  · rcases ho : (Value.slice C Y.length d).ownBlock with _ | gg
    · exact .inl rfl
    · exact .inr (fun e => h.apart gg e.symm ho)
theorem sortY {w w0 w1 : World} {B1 r : Nat} {A C : Option Addr} {c d n m : Nat} {X Y Y' : List (Int × Int)} (h : SrtSt w w0 B1 r A C c d n m X Y) (hBr : B1 < r) (_ : B1 < r) (hlo : w.heap.size ≤ B1)
    (ho : w1.ownsRow (r + 1) 86 2 (.slice C m d) m (cellsL Y')) (hg : w0.grownBy w1 (Value.slice C m d).ownBlock) : SrtSt w w1 B1 r A C c d n m X Y' := by
  obtain ⟨h1, h2, h3, h4, h5⟩ := h
  have hlt : B1 < w0.heap.size := (Array.getElem?_eq_some_iff.1 h1).1
  refine ⟨?_, h2.kept hg ?_, ho, h4, h5.grown hg h5.size (fun k hk => by have := (h3.lt k hk).1; omega)⟩
  · rw [hg.block B1 hlt (fun e => by have := (h3.lt B1 e.symm).1; omega)]
    exact h1
  · rcases ho : (Value.slice A n c).ownBlock with _ | gg
    · exact .inl rfl
    · exact .inr (fun e => h4 gg ho e.symm)
theorem sort_cells {w wr : World} {B1 r : Nat} {A C : Option Addr} {c d n m : Nat} {X Y : List (Int × Int)} {v0 v1 : Value} (h : SrtSt (w.alloc (.cells #[v0, v1] 99)) wr B1 r A C c d n m X Y) :
    wr.cell? ⟨B1, 0, none⟩ = some (.slice A n c) ∧ wr.cell? ⟨B1, 1, none⟩ = some (.slice C m d) ∧ wr.cell? ⟨w.heap.size, 0, none⟩ = some v0 ∧ wr.cell? ⟨w.heap.size, 1, none⟩ = some v1 ∧ ∀ i, wr.frozen? ⟨w.heap.size, i, none⟩ = false := by
  have hb : wr.heap[w.heap.size]? = some (.cells #[v0, v1] 99 (0, 0)) := by rw [h.2.2.2.2.block w.heap.size (by simp)]; exact heap_alloc_new w _
  exact ⟨by rw [cell_of_row _ _ _ _ _ _ h.1]; rfl, by rw [cell_of_row _ _ _ _ _ _ h.1]; rfl, by rw [cell_of_row _ _ _ _ _ _ hb]; rfl, by rw [cell_of_row _ _ _ _ _ _ hb]; rfl, fun i => by simp [World.frozen?, hb]⟩
theorem Side.perm {f : F3} {sc s : Int} {X X' : List (Int × Int)} (h : Side f sc s X) (hp : X'.Perm X) : Side f sc s X' :=
  ⟨(hp.map (·.1)).nodup_iff.2 h.1, fun p hm => h.2.1 p (hp.mem_iff.1 hm), fun i n hi => by rw [hp.mem_iff]; exact h.2.2 i n hi⟩
theorem world_cells {w wr : World} {B1 r b n : Nat} {D : DataW Unit} {f : F3} {sc : Int} {left : Lit → Bool} {cnt : Nat} {A C : Option Addr} {c d : Nat} {X Y : List (Int × Int)} {v0 v1 : Value} (h : SpSt (w.alloc (.cells #[v0, v1] 99)) wr B1 r b n D f sc left cnt A C c d X Y) (hb1 : B1 < wr.heap.size) {u : Unit} (hu : u = ()) :
    wr.cell? ⟨B1, 0, none⟩ = some (.slice A X.length c) ∧ wr.cell? ⟨B1, 1, none⟩ = some (.slice C Y.length d) ∧ wr.heap[w.heap.size]? = some (.cells #[v0, v1] 99 (0, 0)) :=
  ⟨by rw [cell_of_row _ _ _ _ _ _ h.arr]; rfl, by rw [cell_of_row _ _ _ _ _ _ h.arr]; rfl, by rw [h.bel.block w.heap.size (by simp)]; exact heap_alloc_new w _⟩
theorem side_wb {f : F3} {sc s : Int} {X : List (Int × Int)} (hf : ∀ s c i, I64 s → I64 c → I64 i → f s c i ≠ 0 → U64 (f s c i) ∧ c = sc ∧ (s = 1 ∨ s = -1)) (hs : I64 s) (hc : I64 sc) (h : Side f sc s X) : ∀ p ∈ X, Wb p := by
  intro p hp
  have hi := h.2.1 p hp
  obtain ⟨e, h0⟩ := (h.2.2 p.1 p.2 hi).1 hp
  have hu := (hf s sc p.1 hs hc hi (by rw [← e]; exact h0)).1
  rw [← e] at hu
  exact ⟨hi.1, hi.2, hu.1, hu.2⟩
theorem spread_done {w w4 : World} {B1 r : Nat} {f : F3} {sc : Int} {A C : Option Addr} {c d : Nat} {X Y X' Y' : List (Int × Int)} {v0 v1 : Value} (hf : ∀ s c i, I64 s → I64 c → I64 i → f s c i ≠ 0 → U64 (f s c i) ∧ c = sc ∧ (s = 1 ∨ s = -1)) (hsc : I64 sc)
    (h : SrtSt (w.alloc (.cells #[v0, v1] 99)) w4 B1 r A C c d X.length Y.length X' Y') (hr : w.heap.size < r + 1) (pX : X'.Perm X) (sX : Sorted X') (pY : Y'.Perm Y) (sY : Sorted Y') (hX : Side f sc 1 X) (hY : Side f sc (-1) Y) (hl : X.length + Y.length ≤ 2200) (u v : Value) :
    SpreadPost w f sc (.returned (.agg #[.slice A X.length c, .slice C Y.length d])) ((w4.setCell ⟨w.heap.size, 0, none⟩ u).setCell ⟨w.heap.size, 1, none⟩ v) := by
  obtain ⟨_, h2, h3, _, h5⟩ := h
  have l1 := pX.length_eq
  have l2 := pY.length_eq
  have X1 := hX.perm pX
  have Y1 := hY.perm pY
  have o2 := ownsRow_setCell_below (ownsRow_setCell_below h2 (a := ⟨w.heap.size, 0, none⟩) hr u) (a := ⟨w.heap.size, 1, none⟩) hr v
  have o3 := ownsRow_setCell_below (ownsRow_setCell_below h3 (a := ⟨w.heap.size, 0, none⟩) hr u) (a := ⟨w.heap.size, 1, none⟩) hr v
  refine ⟨A, C, c, d, X', Y', by rw [l1, l2], own_bk o2 (side_wb hf ⟨by decide, by decide⟩ hsc X1) (by omega), own_bk o3 (side_wb hf ⟨by decide, by decide⟩ hsc Y1) (by omega), asc_of pX sX hX.1, asc_of pY sY hY.1, X1, Y1, ⟨by omega, by rw [l1]; exact own_cap h2, by rw [l2]; exact own_cap h3⟩, fun a ha => ?_, fun a ha => ?_, ?_⟩
  · subst ha; have := (h2.lt a.block rfl).1; omega
  · subst ha; have := (h3.lt a.block rfl).1; omega
  have b0 : RowKit.Below w.heap.size w w4 := ((Below.refl _ _).alloc (Nat.le_refl _) _).trans (h5.mono (by simp))
  exact (b0.setCell (p := ⟨w.heap.size, 0, none⟩) (Nat.le_refl _) u).setCell (p := ⟨w.heap.size, 1, none⟩) (Nat.le_refl _) v
set_option maxHeartbeats 2000000 in
set_option maxRecDepth 100000 in
theorem spread_any (b n : Nat) (f : F3) (sc : Int) (w : World) (hM : Cm w b n f) (hn : n ≤ 2200) (hb : b < w.heap.size) (hsc : I64 sc) (hf : ∀ s c i, I64 s → I64 c → I64 i → f s c i ≠ 0 → U64 (f s c i) ∧ c = sc ∧ (s = 1 ∨ s = -1)) :
    Calls Tryz.prog 115 #[.map (some b)] w (SpreadPost w f sc) := by
  obtain ⟨D, hown, hrd⟩ := hM
  have hown0 := (hown.alloc (.cells #[.slice none 0 0, .slice none 0 0] 99)).alloc (.cells #[.slice none 0 0, .slice none 0 0] 99)
  have HRD := Lib.hid hrd
  have HF := Lib.hid hf
  have HOWN := Lib.hid hown
  have HD := Lib.hid (hown.size_le)
  clear hown hrd hf
  go_enter Tryz.func115, Tryz.ntmps115
  go_wp2_with (first
    | (at_range; refine wpList_range_own _ rfl _ 164 rfl 175 36 lawK Tryz.underlying164 _ b n _ rfl hown0 ?_; intro w0 hrg0 hg0 hs0))
  go_frame
  obtain ⟨r, hr⟩ : ∃ r, ((w.alloc (.cells #[.slice none 0 0, .slice none 0 0] 99)).alloc (.cells #[.slice none 0 0, .slice none 0 0] 99)).heap.size = r := ⟨_, rfl⟩
  obtain ⟨B1, hB1⟩ : ∃ B1, w.heap.size + 1 = B1 := ⟨_, rfl⟩
  have hBr : B1 < r := by rw [← hr, ← hB1]; simp
  have hS0 : SpSt (w.alloc (.cells #[.slice none 0 0, .slice none 0 0] 99)) w0 B1 r b n D f sc (has D) (size D) none none 0 0 [] [] := by
    rw [hr] at hrg0
    refine ⟨hrg0, fun _ h => h, ?_, World.ownsRow_nil _ _ _ _, World.ownsRow_nil _ _ _ _, fun g hg => by simp [Value.ownBlock] at hg, Col.start HRD.out ⟨by decide, by decide⟩ hsc, Col.start HRD.out ⟨by decide, by decide⟩ hsc, ?_, by simp, by simp; omega, hBr, by simp; omega⟩
    · rw [hg0.block B1 (by omega) (by simp), ← hB1]
      have := heap_alloc_new (w.alloc (.cells #[.slice none 0 0, .slice none 0 0] 99)) (.cells #[.slice none 0 0, .slice none 0 0] 99)
      simpa using this
    · have := (Below.refl (w.alloc (.cells #[.slice none 0 0, .slice none 0 0] 99)).heap.size _).alloc (Nat.le_refl _) (.cells #[.slice none 0 0, .slice none 0 0] 99)
      exact this.grown hg0 (by simp) (fun k hk => by cases hk)
  have HS0 := Lib.hid hS0
  rw [hr]
  rw [hB1]
  clear hS0 hrg0 hg0 hs0 hown0 hr
  obtain ⟨i0, hi, hz0, hz1, hz2⟩ := info_parts infoB
  go_loopw [11] (fun _ wr => SpRel (w.alloc (.cells #[.slice none 0 0, .slice none 0 0] 99)) B1 r b n D f sc wr) (fun _ wr => wr.rangeLeft b r)
  case atStart => exact ⟨_, _, _, _, _, _, _, _, HS0.out⟩
  case round =>
    obtain ⟨left, cnt, A, C, c, d, X, Y, hS⟩ := hrel
    have HS := Lib.hid hS
    have hroom : X.length + Y.length + cnt ≤ 2200 := by have := hS.room; have := HD.out; omega
    have hb1 : B1 < wr.heap.size := by have := hS.rng.lt; omega
    have hrng := hS.rng
    clear hS
    go_wp2_with (first
      | (at_next; refine wpList_next_ranges _ rfl _ rfl 175 lawK (plainElem Tryz.prog 36) mkKey (Value.int .u64) (fun key kl hk => by obtain ⟨s, c, i, rfl, _⟩ := key_inv hk; exact ⟨(s, c, i), rfl⟩) (fun v y hv => by obtain ⟨c, rfl, _⟩ := plainElem_int_inv Tryz.underlying36 hv; exact ⟨c, rfl⟩) b r n D left cnt rfl hrng ?_ ?_))
    · intro hc0 hl0
      have HX := Lib.hid (HS.out.colX.all hl0)
      have HY := Lib.hid (HS.out.colY.all hl0)
      have HC := Lib.hid (world_cells HS.out hb1 rfl)
      have cA : wr.cell? ⟨B1, 0, none⟩ = some (.slice A X.length c) := HC.out.1
      have cC : wr.cell? ⟨B1, 1, none⟩ = some (.slice C Y.length d) := HC.out.2.1
      clear hc0 hl0 hrng
      go_wp2_with fail
      clear cA cC
      have ix0 : ∀ w, (Instr.index 99 (.agg #[.slice A X.length c, .slice C Y.length d]) (.int .i64 0)).run Tryz.prog w = .ok (.slice A X.length c) w := fun _ => by kernel_rfl
      have ix1 : ∀ w, (Instr.index 99 (.agg #[.slice A X.length c, .slice C Y.length d]) (.int .i64 1)).run Tryz.prog w = .ok (.slice C Y.length d) w := fun _ => by kernel_rfl
      refine wp_loop_rounds 3 ?_
      rw [rounds_succ]
      go_wp2_with fail
      refine (sort_any (r + 1) _ _ _ X _ HS.out.ownX (by omega)).mono ?_
      rintro e w3 ⟨rfl, X', hpX, hsX, hoX, hgX⟩
      have HE3 := Lib.hid (HS.out.sortX hoX hgX)
      have HPX := Lib.hid (And.intro hpX hsX)
      clear hpX hsX hoX hgX
      go_wp2_with fail
      rw [rounds_succ]
      go_wp2_with fail
      refine (sort_any (r + 1) _ _ _ Y _ HE3.out.2.2.1 (by omega)).mono ?_
      rintro e w4 ⟨rfl, Y', hpY, hsY, hoY, hgY⟩
      have HE4 := Lib.hid (sortY HE3.out hBr HS.out.mid HS.out.lo hoY hgY)
      have HPY := Lib.hid (And.intro hpY hsY)
      clear hpY hsY hoY hgY
      obtain ⟨cA4, cC4, cP, cQ, fP⟩ := sort_cells HE4.out
      have fP0 := fP 0
      have fP1 := fP 1
      clear fP
      go_wp2_with fail
      rw [rounds_succ]
      go_wp2_with fail
      exact bodyPost_ret (v := .agg #[.slice A X.length c, .slice C Y.length d]) (by simp [results, Tryz.results115, go_sem, cP, cQ]) rfl (spread_done HF.out hsc HE4.out (by omega) HPX.out.1 HPX.out.2 HPY.out.1 HPY.out.2 HX.out HY.out (by omega) _ _)
    · intro s0 c0 i nn kl yd yp w2 cnt2 hkey hlk hv hat hrg2 hlt hg2 hs2 hen
      have hkey2 : ∃ s c j, mkKey (s0, c0, i) = .agg #[.int .i64 s, .int .i64 c, .int .i64 j] ∧ I64 s ∧ I64 c ∧ I64 j ∧ kl = kL s c j := key_inv hkey
      obtain ⟨s', c', i', he, hss, hcc, hii, hkl⟩ := hkey2
      simp [mkKey] at he
      obtain ⟨rfl, rfl, rfl⟩ := he
      obtain ⟨nn', en, hy, _⟩ := plainElem_int_inv Tryz.underlying36 hv
      have hnn' : nn = nn' := by simpa using en
      subst hnn'
      have hfn : f s0 c0 i = nn := by
        have h1 := (HRD.out.2.1 s0 c0 i hss hcc hii).1
        rw [← hkl, hat] at h1
        simp at hy h1
        rw [hy.1] at h1
        simpa using h1.symm
      have hf0 : f s0 c0 i ≠ 0 := (HRD.out.2.1 s0 c0 i hss hcc hii).2.1 (by rw [← hkl]; exact HS.out.sub kl hlk)
      obtain ⟨hu, hc1, hs1⟩ := HF.out s0 c0 i hss hcc hii hf0
      obtain rfl : sc = c0 := hc1.symm
      clear hc1
      rw [hfn] at hu hf0
      obtain ⟨u0, u1⟩ := hu
      have hn0 := hf0
      have hnn := hfn
      clear hs2 hfn hf0 hy en hcc hss
      change (Instr.entry (.pointer (some ⟨r, 0, none⟩))).run Tryz.prog w2 = .ok (.tuple #[.agg #[.int .i64 s0, .int .i64 sc, .int .i64 i], .int .u64 nn]) w2 at hen
      rcases hs1 with rfl | rfl
      · have hpl := place_any 1
        have HPL := Lib.hid hpl
        clear hpl
        go_wp2_with (go_at_call 126; ((with_reducible refine (HPL.out _).mono ?_); rintro e w9 ⟨rfl, rfl⟩))
        have HSr := Lib.hid (HS.out.mk2 hrg2 hg2 hb1)
        obtain ⟨a1, a2, a3⟩ := HSr.out
        have hB1w : B1 < w2.heap.size := a3
        have cK : (w2.alloc (.cells #[.int .i64 1, .int .i64 sc, .int .i64 i] 175)).cell? ⟨w2.heap.size, 2, none⟩ = some (.int .i64 i) := by simp [go_sem]
        have arrA : (w2.alloc (.cells #[.int .i64 1, .int .i64 sc, .int .i64 i] 175)).heap[B1]? = some (.cells #[.slice A X.length c, .slice C Y.length d] 99 (0, 0)) := (Below.heap_alloc _ _ _ a3).trans a1
        have HA2 := Lib.hid (a2.1.alloc (.cells #[.int .i64 1, .int .i64 sc, .int .i64 i] 175))
        have hsW : B1 < (w2.alloc (.cells #[.int .i64 1, .int .i64 sc, .int .i64 i] 175)).heap.size := by simp; omega
        have hrW : r + 1 ≤ (w2.alloc (.cells #[.int .i64 1, .int .i64 sc, .int .i64 i] 175)).heap.size := by have := hrg2.lt; simp; omega
        obtain ⟨wa, hwa⟩ : ∃ W, w2.alloc (.cells #[.int .i64 1, .int .i64 sc, .int .i64 i] 175) = W := ⟨_, rfl⟩
        rw [hwa] at cK arrA HA2 hsW hrW ⊢
        have HWA := Lib.hid hwa
        have cA : wa.cell? ⟨B1, 0, none⟩ = some (.slice A X.length c) := by rw [cell_of_row _ _ _ _ _ _ arrA]; rfl
        have cC : wa.cell? ⟨B1, 1, none⟩ = some (.slice C Y.length d) := by rw [cell_of_row _ _ _ _ _ _ arrA]; rfl
        have hown1 : wa.drew.ownsRow (r + 1) 86 2 (.slice A X.length c) X.length (cellsL X) := HA2.out
        have HO := Lib.hid hown1
        have hrow : ∀ g, (Value.slice A X.length c).ownBlock = some g → r + 1 ≤ g := fun g hg => (hown1.lt g hg).1
        have HROW := Lib.hid hrow
        have HARR := Lib.hid arrA
        have HRG := Lib.hid hrg2
        have HG2 := Lib.hid hg2
        have HNN := Lib.hid hnn
        clear hwa hown1 hrow a1 a2 a3 arrA hrg2 hg2 hnn hen hat hv hkey
        go_region_law (refine step_append_lies _ rfl (.tmp 22) (.tmp 27) 37 rfl (r + 1) 86 i0 (.agg #[.int .i64 0, .int .u64 0]) 2 16 Tryz.underlying37 hi hz0 hz1 hz2 rfl (by decide) (.slice A X.length c) X.length (cellsL X) rfl (HO.out.alloc _) ⟨wa.heap.size, 0, none⟩ 1 1 (encB (i, nn)) rfl rfl (World.news_of_block (heap_alloc_new _ _)) (fun u hu => by simp [encB] at hu; rcases hu with rfl | rfl <;> rfl) (by decide) (by unfold maxLen; omega) (by omega) (by simp; omega) _ rfl ?_; intro g cap w3 hown3 hgrow3 hat3 hlt3; have cS : w3.cell? ⟨B1, 0, none⟩ = some (.slice A X.length c) := put_cell (q := 1) hgrow3 HARR.out HROW.out hBr rfl; have fS : w3.frozen? ⟨B1, 0, none⟩ = false := put_free (q := 1) hgrow3 HARR.out HROW.out hBr; have HW3 := Lib.hid (And.intro hown3 (And.intro hgrow3 hat3)); clear hown3 hgrow3 hat3)
        all_goals
          obtain ⟨hown3, hgrow3, hat3⟩ := HW3.out
          have hwe := HWA.out
          subst hwe
          have hput := HS.out.put0 hsc hii (by rw [← hkl]; exact hlk) (by rw [HNN.out]; exact hn0) hlt (by rw [← hkl]; exact HRG.out) HG2.out _ _ 1 hgrow3 (by rw [HNN.out]; exact hown3) hat3
          have HPUT := Lib.hid hput
          clear hput HW3 hown3 hgrow3 hat3
          go_wp2_with fail
          go_roundw
          case rel => exact ⟨_, cnt2, _, _, _, _, _, _, HPUT.out⟩
          case measure => rw [HPUT.out.rng.left_eq, HS.out.rng.left_eq]; exact hlt
      · have hpl := place_any (-1)
        have HPL := Lib.hid hpl
        clear hpl
        go_wp2_with (go_at_call 126; ((with_reducible refine (HPL.out _).mono ?_); rintro e w9 ⟨rfl, rfl⟩))
        have HSr := Lib.hid (HS.out.mk2 hrg2 hg2 hb1)
        obtain ⟨a1, a2, a3⟩ := HSr.out
        have hB1w : B1 < w2.heap.size := a3
        have cK : (w2.alloc (.cells #[.int .i64 (-1), .int .i64 sc, .int .i64 i] 175)).cell? ⟨w2.heap.size, 2, none⟩ = some (.int .i64 i) := by simp [go_sem]
        have arrA : (w2.alloc (.cells #[.int .i64 (-1), .int .i64 sc, .int .i64 i] 175)).heap[B1]? = some (.cells #[.slice A X.length c, .slice C Y.length d] 99 (0, 0)) := (Below.heap_alloc _ _ _ a3).trans a1
        have HA2 := Lib.hid (a2.2.alloc (.cells #[.int .i64 (-1), .int .i64 sc, .int .i64 i] 175))
        have hsW : B1 < (w2.alloc (.cells #[.int .i64 (-1), .int .i64 sc, .int .i64 i] 175)).heap.size := by simp; omega
        have hrW : r + 1 ≤ (w2.alloc (.cells #[.int .i64 (-1), .int .i64 sc, .int .i64 i] 175)).heap.size := by have := hrg2.lt; simp; omega
        obtain ⟨wa, hwa⟩ : ∃ W, w2.alloc (.cells #[.int .i64 (-1), .int .i64 sc, .int .i64 i] 175) = W := ⟨_, rfl⟩
        rw [hwa] at cK arrA HA2 hsW hrW ⊢
        have HWA := Lib.hid hwa
        have cA : wa.cell? ⟨B1, 0, none⟩ = some (.slice A X.length c) := by rw [cell_of_row _ _ _ _ _ _ arrA]; rfl
        have cC : wa.cell? ⟨B1, 1, none⟩ = some (.slice C Y.length d) := by rw [cell_of_row _ _ _ _ _ _ arrA]; rfl
        have hown1 : wa.drew.ownsRow (r + 1) 86 2 (.slice C Y.length d) Y.length (cellsL Y) := HA2.out
        have HO := Lib.hid hown1
        have hrow : ∀ g, (Value.slice C Y.length d).ownBlock = some g → r + 1 ≤ g := fun g hg => (hown1.lt g hg).1
        have HROW := Lib.hid hrow
        have HARR := Lib.hid arrA
        have HRG := Lib.hid hrg2
        have HG2 := Lib.hid hg2
        have HNN := Lib.hid hnn
        clear hwa hown1 hrow a1 a2 a3 arrA hrg2 hg2 hnn hen hat hv hkey
        go_region_law (refine step_append_lies _ rfl (.tmp 22) (.tmp 27) 37 rfl (r + 1) 86 i0 (.agg #[.int .i64 0, .int .u64 0]) 2 16 Tryz.underlying37 hi hz0 hz1 hz2 rfl (by decide) (.slice C Y.length d) Y.length (cellsL Y) rfl (HO.out.alloc _) ⟨wa.heap.size, 0, none⟩ 1 1 (encB (i, nn)) rfl rfl (World.news_of_block (heap_alloc_new _ _)) (fun u hu => by simp [encB] at hu; rcases hu with rfl | rfl <;> rfl) (by decide) (by unfold maxLen; omega) (by omega) (by simp; omega) _ rfl ?_; intro g cap w3 hown3 hgrow3 hat3 hlt3; have cS : w3.cell? ⟨B1, 1, none⟩ = some (.slice C Y.length d) := put_cell (q := 1) hgrow3 HARR.out HROW.out hBr rfl; have fS : w3.frozen? ⟨B1, 1, none⟩ = false := put_free (q := 1) hgrow3 HARR.out HROW.out hBr; have HW3 := Lib.hid (And.intro hown3 (And.intro hgrow3 hat3)); clear hown3 hgrow3 hat3)
        all_goals
          obtain ⟨hown3, hgrow3, hat3⟩ := HW3.out
          have hwe := HWA.out
          subst hwe
          have hput := HS.out.put1 hsc hii (by rw [← hkl]; exact hlk) (by rw [HNN.out]; exact hn0) hlt (by rw [← hkl]; exact HRG.out) HG2.out _ _ 1 hgrow3 (by rw [HNN.out]; exact hown3) hat3
          have HPUT := Lib.hid hput
          clear hput HW3 hown3 hgrow3 hat3
          go_wp2_with fail
          go_roundw
          case rel => exact ⟨_, cnt2, _, _, _, _, _, _, HPUT.out⟩
          case measure => rw [HPUT.out.rng.left_eq, HS.out.rng.left_eq]; exact hlt
end Go.Proofs.YtakomfnajeolcaaGreatDoor
