import Derived.Test.YtakomfnajeolcaaGreatDoorCtA43
set_option linter.unusedVariables false
/- Encode: plain facts, how many bits there are at most, samples with room. -/
namespace Go.Proofs.YtakomfnajeolcaaGreatDoor.Ch
open Go.RowKit Go.Sort Go.Proofs.YtakomfnajeolcaaGreatDoor.En
set_option linter.unusedVariables false

theorem bodyL_snoc (n : Nat) (p : Int × List Int) : ∀ (l : List (Int × List Int)) (R : List Int) (Q : List (List Int)), bodyL n R Q (l ++ [p]) = bodyL n R Q l ++ (timeL ((l.map (·.1)).reverse ++ R) p.1 ++ rowL ((l.map (·.2)).reverse ++ Q).isEmpty (nextR n ((l.map (·.2)).reverse ++ Q)) p.2)
  | [], R, Q => by simp [bodyL]
  | a :: l, R, Q => by
    have ih := bodyL_snoc n p l (a.1 :: R) (a.2 :: Q)
    rw [List.cons_append]
    simp only [bodyL]
    rw [ih]
    simp only [List.map_cons, List.reverse_cons, List.append_assoc, List.cons_append, List.nil_append]
theorem timeL_length (R : List Int) (t : Int) : (timeL R t).length ≤ 71 := by
  match R with
  | [] => exact Tk.codeL_length _
  | [a] => exact Tk.codeL_length _
  | a :: b :: R => exact Tk.codeL_length _
theorem bodyL_length (n : Nat) : ∀ (l : List (Int × List Int)) (R : List Int) (Q : List (List Int)), (∀ p ∈ l, p.2.length ≤ 1100) → (bodyL n R Q l).length ≤ 79000 * l.length
  | [], R, Q, _ => by simp [bodyL]
  | p :: l, R, Q, h => by
    have ih := bodyL_length n l (p.1 :: R) (p.2 :: Q) (fun q hq => h q (by simp [hq]))
    have h1 := timeL_length R p.1
    have h2 := rowL_length Q.isEmpty (nextR n Q) p.2
    have h3 := h p (by simp)
    simp only [bodyL, List.length_append, List.length_cons]
    omega
/-- the bits of a chunk's first k samples -/
def encK (l : List SV) (k : Nat) : List Bool := (headL (hdS l).h.k (hdS l).h.s (hdS l).h.z (xsL l) (ysL l) ++ Tk.codeL (l.length - 1)) ++ bodyL (nNum (xsL l) (ysL l)) [] [] (rowsOf (xsL l) (ysL l) (l.take k))
theorem encK_all (l : List SV) : encK l l.length = encL l := by
  unfold encK encL encOf headL
  rw [List.take_length]
  simp [rowsOf]
def timesR (l : List SV) (k : Nat) : List Int := ((l.take k).map (·.t)).reverse
def rowsK (l : List SV) (k : Nat) : List (List Int) := (l.take k).map fun s => numsL (xsL l) (ysL l) s.h
theorem rowsK_length {l : List SV} {k : Nat} (h : k ≤ l.length) : (rowsK l k).length = k := by unfold rowsK; rw [List.length_map, List.length_take]; omega
theorem rowsK_snoc {l : List SV} {k : Nat} {x : SV} (h : l[k]? = some x) : rowsK l (k + 1) = rowsK l k ++ [numsL (xsL l) (ysL l) x.h] := by unfold rowsK; rw [take_s h, List.map_append]; rfl
theorem encK_snoc {l : List SV} {k : Nat} {x : SV} (h : l[k]? = some x) : encK l (k + 1) = encK l k ++ (timeL (timesR l k) x.t ++ rowL (rowsK l k).reverse.isEmpty (nextR (nNum (xsL l) (ysL l)) (rowsK l k).reverse) (numsL (xsL l) (ysL l) x.h)) := by
  unfold encK
  rw [take_s h]
  have e : rowsOf (xsL l) (ysL l) (l.take k ++ [x]) = rowsOf (xsL l) (ysL l) (l.take k) ++ [(x.t, numsL (xsL l) (ysL l) x.h)] := by simp [rowsOf]
  rw [e, bodyL_snoc]
  have e1 : (rowsOf (xsL l) (ysL l) (l.take k)).map (·.1) = (l.take k).map (·.t) := by unfold rowsOf; rw [List.map_map]; rfl
  have e2 : (rowsOf (xsL l) (ysL l) (l.take k)).map (·.2) = rowsK l k := by unfold rowsOf rowsK; rw [List.map_map]; rfl
  rw [e1, e2, List.append_nil, List.append_nil]
  simp only [List.append_assoc]
  rfl
theorem encK_length {l : List SV} (c : Chn l) (k : Nat) : (encK l k).length ≤ 3000000 := by
  have h1 := @layL_length (Tk.fstL (xsL l)) (Tk.runsL (xsL l))
  have h2 := @layL_length (Tk.fstL (ysL l)) (Tk.runsL (ysL l))
  have l1 := Tk.runsL_le (xsL l)
  have l2 := Tk.runsL_le (ysL l)
  have m1 := c.ix.len
  have m2 := c.iy.len
  have h3 := Tk.codeL_length (l.length - 1)
  have h4 : (intL (hdS l).h.z).length ≤ 71 := Tk.codeL_length _
  have h5 := bodyL_length (nNum (xsL l) (ysL l)) (rowsOf (xsL l) (ysL l) (l.take k)) [] [] (fun p hp => by
    obtain ⟨s, _, rfl⟩ := List.mem_map.1 hp
    rw [numsL_length]; unfold nNum; omega)
  have h6 : (rowsOf (xsL l) (ysL l) (l.take k)).length ≤ 32 := by simp only [rowsOf, List.length_map, List.length_take]; have := c.le; omega
  unfold encK headL
  simp only [List.length_append, Tk.bitsL_length]
  omega
/-- the buckets of samples have room: as many as they are, at least -/
def Cpd (w : World) (D : Option Addr) (l : List SV) : Prop := ∀ j s, l[j]? = some s → ∃ b o A B c d, D = some ⟨b, o, none⟩ ∧ w.cell? ⟨b, o + j * 9 + 7, none⟩ = some (.slice A s.h.P.length c) ∧ w.cell? ⟨b, o + j * 9 + 8, none⟩ = some (.slice B s.h.Q.length d) ∧ (s.h.P.length ≤ c ∧ c ≤ 9223372036854775807) ∧ s.h.Q.length ≤ d ∧ d ≤ 9223372036854775807
theorem Cpd.below {w w' : World} {D : Option Addr} {l : List SV} (h : Cpd w D l) (hb : Below w.heap.size w w') : Cpd w' D l := fun j s hj => by
  obtain ⟨b, o, A, B, c, d, h0, h1, h2, h3⟩ := h j s hj
  exact ⟨b, o, A, B, c, d, h0, (hb.cell (block_lt_of_cell h1)).trans h1, (hb.cell (block_lt_of_cell h2)).trans h2, h3⟩
theorem Cpd.take {w : World} {D : Option Addr} {l : List SV} (h : Cpd w D l) (n : Nat) : Cpd w D (l.take n) := fun j s hj => h j s (by
  rw [List.getElem?_take] at hj
  split at hj
  · exact hj
  · cases hj)
/-- a sample in memory, all that is known of it -/
theorem sm_all {w : World} {D : Option Addr} {l : List SV} (h : Sm w D l) (hk : Cpd w D l) {j : Nat} {s : SV} (hj : l[j]? = some s) : ∃ b o A B c d, D = some ⟨b, o, none⟩ ∧ (w.cell? ⟨b, o + j * 9, none⟩ = some (.int .i64 s.t) ∧ w.cell? ⟨b, o + j * 9 + 1, none⟩ = some (.int .i64 s.h.k) ∧ w.cell? ⟨b, o + j * 9 + 2, none⟩ = some (.int .i64 s.h.s) ∧ w.cell? ⟨b, o + j * 9 + 3, none⟩ = some (.int .i64 s.h.z) ∧ w.cell? ⟨b, o + j * 9 + 4, none⟩ = some (.int .u64 s.h.zc) ∧ w.cell? ⟨b, o + j * 9 + 5, none⟩ = some (.int .u64 s.h.ct) ∧
    w.cell? ⟨b, o + j * 9 + 6, none⟩ = some (.int .i64 s.h.sm) ∧ w.cell? ⟨b, o + j * 9 + 7, none⟩ = some (.slice A s.h.P.length c) ∧ w.cell? ⟨b, o + j * 9 + 8, none⟩ = some (.slice B s.h.Q.length d)) ∧ Sb w s A B ∧ (s.h.P.length ≤ c ∧ c ≤ 9223372036854775807) ∧ s.h.Q.length ≤ d ∧ d ≤ 9223372036854775807 := by
  obtain ⟨b, o, rfl, h1⟩ := h.at_ hj
  obtain ⟨A, B, c, d, ⟨a0, a1, a2, a3, a4, a5, a6, a7, a8⟩, hs⟩ := h1.cells
  obtain ⟨b', o', A', B', c', d', e, k7, k8, k9⟩ := hk j s hj
  obtain ⟨rfl, rfl⟩ : b = b' ∧ o = o' := by simpa using e
  rw [a7] at k7
  rw [a8] at k8
  obtain ⟨_, _, rfl⟩ : A = A' ∧ True ∧ c = c' := by simpa using k7
  obtain ⟨_, _, rfl⟩ : B = B' ∧ True ∧ d = d' := by simpa using k8
  exact ⟨b, o, A, B, c, d, rfl, ⟨a0, a1, a2, a3, a4, a5, a6, a7, a8⟩, hs, k9⟩
theorem sm_raw {w : World} {D : Option Addr} {l : List SV} (h : Sm w D l) (hs : Sums l) : ∀ s ∈ l, Raw s := fun s hm => by
  obtain ⟨j, hj, rfl⟩ := List.getElem_of_mem hm
  obtain ⟨b, o, _, h1⟩ := h.at_ (List.getElem?_eq_getElem hj)
  obtain ⟨A, B, c, d, _, hb⟩ := h1.cells
  exact ⟨hb.z0, hs _ hm, fun p hp => (hb.P.2.1 p hp).2.2.1, fun p hp => (hb.Q.2.1 p hp).2.2.1⟩
theorem numsL_chn {l : List SV} (c : Chn l) {x : SV} (hx : x ∈ l) : RowR (nNum (xsL l) (ysL l)) (numsL (xsL l) (ysL l) x.h) := by
  obtain ⟨b1, b2, b3⟩ := ok_bk (c.ok x hx)
  exact numsL_r b1.1 b1.2 b2 b3
theorem rowsK_r {l : List SV} (c : Chn l) (k : Nat) : ∀ q ∈ rowsK l k, RowR (nNum (xsL l) (ysL l)) q := fun q hq => by
  obtain ⟨s, hs, rfl⟩ := List.mem_map.1 hq
  exact numsL_chn c (List.mem_of_mem_take hs)
theorem nNum_le {l : List SV} (c : Chn l) : nNum (xsL l) (ysL l) ≤ 1100 := by
  have := c.ix.len
  have := c.iy.len
  unfold nNum; omega
def EncP (w : World) (l : List SV) (e : Ending) (w' : World) : Prop := Below w.heap.size w w' ∧ ((chkF l ≠ 0 ∧ e = .returned (.tuple #[.slice none 0 0, .int .i64 (chkF l)])) ∨ (chkF l = 0 ∧ ∃ A c bs, e = .returned (.tuple #[.slice A (bs : List Nat).length c, .int .i64 0]) ∧ Tk.Sl w' A c bs ∧ Tl.LaidL bs (encL l)))
/-- what the loop keeps -/
structure EnI (W0 : World) (p B : Nat) (l : List SV) (k : Nat) (D : Option Addr) (c : Nat) (G : Nat → Prop) (vs : List Value) (wr : World) : Prop where
  wg : WG G W0 p B (encK l k) wr
  rw : RwV G W0.heap.size wr D c (rowsK l k) vs
theorem rise_next {l : List SV} (c : Chn l) {k : Nat} {x : SV} (h : l[k]? = some x) (h1 : k ≤ 1) : nextT (timesR l k) ≤ x.t := by
  have hx := c.t x (List.mem_of_getElem? h)
  match k, h1 with
  | 0, _ => simpa [timesR, nextT] using hx.1
  | 1, _ =>
    cases l with
    | nil => simp at h
    | cons a r =>
      have hr := c.rise
      rw [List.map_cons, List.pairwise_cons] at hr
      have hm : x ∈ r := List.mem_of_getElem? (by simpa using h)
      have := hr.1 x.t (List.mem_map_of_mem hm)
      simp [timesR, nextT]
      omega
end Go.Proofs.YtakomfnajeolcaaGreatDoor.Ch


/- take: words for samples that grow beside a reader; plain facts. -/
namespace Go.Proofs.YtakomfnajeolcaaGreatDoor.Ch
open Go.RowKit Go.Sort Go.Proofs.YtakomfnajeolcaaGreatDoor.En
set_option linter.unusedVariables false

theorem infoM : (Tryz.prog.info? 41).map (fun i => (i.zero, i.size, i.bytes)) = some (some (.agg #[.int .i64 0, .int .i64 0, .int .i64 0, .int .i64 0, .int .u64 0, .int .u64 0, .int .i64 0, .slice none 0 0, .slice none 0 0]), 9, 104) := by kernel_rfl
theorem ownM_shape {w : World} {base n : Nat} {v : Value} {X : List Value} (h : w.ownsRow base 41 9 v n X) : ∃ A c, v = .slice A n c := by
  rcases h.2 with ⟨rfl, h0⟩ | ⟨g, cap, _, rfl, _⟩
  · exact ⟨none, 0, by rw [h0]⟩
  · exact ⟨_, cap, rfl⟩
/-- append(l, s) -/
theorem app_smp {ops : Array Oper} {rest : List Oper} {o : Oper} {a : Act} {w : World} {Q : Exit → Act → World → Prop} (hgd : o.guard = none) (s x : Operand)
    (ho : o.op = .call { callee := .builtin .append, args := #[s, x], argTypes := #[22, 22] })
    (base : Nat) (A : Option Addr) (n c : Nat) (X : List Value) (hs : a.eval s = .slice A n c) (hown : w.ownsRow base 41 9 (.slice A n c) n X)
    (g : Nat) (hx : a.eval x = .slice (some ⟨g, 0, none⟩) 1 1) (Y : List Value) (hl9 : Y.length = 9) (h1 : ∀ u ∈ Y, u.oneCell' = true) (hy : ∀ j u, Y[j]? = some u → w.cell? ⟨g, j, none⟩ = some u) (hl : n + 1 ≤ 1000000) (hbase : base ≤ w.heap.size)
    (h : ∀ A' c' w', w'.ownsRow base 41 9 (.slice A' (n + 1) c') (n + 1) (X ++ Y) → w.grownBy w' (Value.slice A n c).ownBlock → ((Value.slice A' (n + 1) c').ownBlock = (Value.slice A n c).ownBlock ∨ (Value.slice A' (n + 1) c').ownBlock = some w.heap.size) → wpList Tryz.prog ops Q rest (a.put o.dst (.slice A' (n + 1) c')) w') : wpList Tryz.prog ops Q (o :: rest) a w := by
  obtain ⟨i0, hi, hz0, hz1, hz2⟩ := info_parts infoM
  refine wpList_append_own_at w hgd s x 22 ho base 41 i0 _ 9 104 Tryz.underlying22 hi hz0 hz1 hz2 rfl (by decide) _ n X hs hown ⟨g, 0, none⟩ 1 1 Y hx (by rw [hl9]) ?_ h1 (by unfold maxLen; omega) (by omega) hbase ?_
  · intro j u hu
    rw [Tk.addr_at, Nat.zero_add]
    exact hy j u hu
  · intro v' w' h1 h2 _ h4
    obtain ⟨A', c', rfl⟩ := ownM_shape h1
    exact h A' c' w' h1 h2 h4
/-- one sample as it lies: its cells, its buckets in blocks of G that are not of F -/
structure SgC (G F : Nat → Prop) (w : World) (s : SV) (cs : List Value) : Prop where
  at_ : ∃ A B c d, cs = smC s A B c d ∧ Sb w s A B ∧ ((s.h.P.length ≤ c ∧ c ≤ 9223372036854775807) ∧ s.h.Q.length ≤ d ∧ d ≤ 9223372036854775807) ∧ (s.h.P ≠ [] → ∀ x, A = some x → G x.block ∧ ¬ F x.block) ∧ (s.h.Q ≠ [] → ∀ x, B = some x → G x.block ∧ ¬ F x.block)
/-- samples that grow -/
structure SgV (G F : Nat → Prop) (N : Nat) (w : World) (D : Option Addr) (c : Nat) (l : List SV) (cs : List (List Value)) : Prop where
  own : w.ownsRow N 41 9 (.slice D l.length c) l.length cs.flatten
  len : cs.length = l.length
  smp : ∀ (j : Nat) (s : SV), l[j]? = some s → ∃ x, cs[j]? = some x ∧ SgC G F w s x
  g : ∀ k, (Value.slice D l.length c).ownBlock = some k → G k ∧ F k
theorem SgV.nil (G F : Nat → Prop) (N : Nat) (w : World) : SgV G F N w none 0 [] [] := ⟨World.ownsRow_nil _ _ _ _, rfl, fun j r hj => by simp at hj, fun g hg => by simp [Value.ownBlock] at hg⟩
theorem bk_blocks {w w' : World} {A : Option Addr} {P : List (Int × Int)} (h : Bk w A P) (k : P ≠ [] → ∀ x, A = some x → w'.heap[x.block]? = w.heap[x.block]?) : Bk w' A P := by
  obtain ⟨h1, h2, h3⟩ := h
  refine ⟨h1, h2, ?_⟩
  rcases h3 with h3 | ⟨b, off, e, hc⟩
  · exact .inl h3
  · by_cases hp : P = []
    · exact .inl (by rw [hp]; rfl)
    · have hb := k hp _ e
      exact .inr ⟨b, off, e, fun j p hj => ⟨(World.cell?_of_block (a := ⟨b, off + j * 2, none⟩) hb).trans (hc j p hj).1, (World.cell?_of_block (a := ⟨b, off + j * 2 + 1, none⟩) hb).trans (hc j p hj).2⟩⟩
theorem bk_lt {w : World} {A : Option Addr} {P : List (Int × Int)} (h : Bk w A P) (hp : P ≠ []) : ∀ x, A = some x → x.block < w.heap.size := fun x hx => by
  obtain ⟨b, o, e, hc⟩ := h.some_ (List.length_pos_iff.2 hp)
  rw [hx] at e
  injection e with e
  subst e
  cases P with
  | nil => exact absurd rfl hp
  | cons p r => exact block_lt_of_cell (hc 0 p rfl).1
theorem SgC.kept {G F : Nat → Prop} {w w' : World} {s : SV} {cs : List Value} (h : SgC G F w s cs) (k : KpG G w w') : SgC G F w' s cs := by
  obtain ⟨A, B, c, d, e, hb, hc, h1, h2⟩ := h.at_
  exact ⟨A, B, c, d, e, ⟨bk_blocks hb.P fun hp x hx => k.2 _ (h1 hp x hx).1, bk_blocks hb.Q fun hp x hx => k.2 _ (h2 hp x hx).1, hb.z0, hb.z1⟩, hc, h1, h2⟩
/-- a row grows whose block is of F -/
theorem SgC.beside {G F F' H : Nat → Prop} {w w' : World} {r : Option Nat} {s : SV} {cs : List Value} (h : SgC G F w s cs) (hg : w.grownBy w' r) (hr : ∀ k, r = some k → F k) (hF : ∀ y, F' y → F y ∨ w.heap.size ≤ y) (hH : ∀ y, G y → H y) : SgC H F' w' s cs := by
  obtain ⟨A, B, c, d, e, hb, hc, h1, h2⟩ := h.at_
  have ne : ∀ {A : Option Addr} {P : List (Int × Int)}, Bk w A P → P ≠ [] → ∀ x, A = some x → ¬ F x.block → ¬ F' x.block := fun {A P} hbk hp x hx hn hf => by
    rcases hF _ hf with hf | hf
    · exact hn hf
    · have := bk_lt hbk hp x hx; omega
  exact ⟨A, B, c, d, e, ⟨bk_blocks hb.P fun hp x hx => hg.block _ (bk_lt hb.P hp x hx) (fun e => (h1 hp x hx).2 (hr _ e.symm)), bk_blocks hb.Q fun hp x hx => hg.block _ (bk_lt hb.Q hp x hx) (fun e => (h2 hp x hx).2 (hr _ e.symm)), hb.z0, hb.z1⟩, hc,
    fun hp x hx => ⟨hH _ (h1 hp x hx).1, ne hb.P hp x hx (h1 hp x hx).2⟩, fun hp x hx => ⟨hH _ (h2 hp x hx).1, ne hb.Q hp x hx (h2 hp x hx).2⟩⟩
theorem SgC.inc {G H F : Nat → Prop} {w : World} {s : SV} {cs : List Value} (h : SgC G F w s cs) (k : ∀ g, G g → H g) : SgC H F w s cs := by
  obtain ⟨A, B, c, d, e, hb, hc, h1, h2⟩ := h.at_
  exact ⟨A, B, c, d, e, hb, hc, fun hp x hx => ⟨k _ (h1 hp x hx).1, (h1 hp x hx).2⟩, fun hp x hx => ⟨k _ (h2 hp x hx).1, (h2 hp x hx).2⟩⟩
section
variable {G H F F' : Nat → Prop} {N : Nat} {w w' : World} {D D' : Option Addr} {c c' : Nat} {l : List SV} {cs : List (List Value)}
theorem SgV.kept (h : SgV G F N w D c l cs) (k : KpG G w w') : SgV G F N w' D c l cs :=
  ⟨Tk.own_abide h.own fun g hg => k.2 g (h.g g hg).1, h.len, fun j s hj => by obtain ⟨x, e1, e2⟩ := h.smp j s hj; exact ⟨x, e1, e2.kept k⟩, h.g⟩
theorem SgV.inc (h : SgV G F N w D c l cs) (k : ∀ g, G g → H g) : SgV H F N w D c l cs :=
  ⟨h.own, h.len, fun j s hj => by obtain ⟨x, e1, e2⟩ := h.smp j s hj; exact ⟨x, e1, e2.inc k⟩, fun x hx => ⟨k x (h.g x hx).1, (h.g x hx).2⟩⟩
/-- another row grows -/
theorem SgV.beside {r : Option Nat} (h : SgV G F N w D c l cs) (hg : w.grownBy w' r) (hr : ∀ k, r = some k → F k ∧ (Value.slice D l.length c).ownBlock ≠ some k) (hF : ∀ y, F' y → F y ∨ w.heap.size ≤ y) (hF2 : ∀ k, (Value.slice D l.length c).ownBlock = some k → F' k) (hH : ∀ y, G y → H y) : SgV H F' N w' D c l cs :=
  ⟨Tk.own_abide h.own fun g hgg => hg.block g (h.own.lt g hgg).2 (fun e => (hr _ e.symm).2 hgg), h.len, fun j s hj => by obtain ⟨x, e1, e2⟩ := h.smp j s hj; exact ⟨x, e1, e2.beside hg (fun k hk => (hr k hk).1) hF hH⟩, fun k hk => ⟨hH k (h.g k hk).1, hF2 k hk⟩⟩
/-- one sample more -/
theorem SgV.snoc {s : SV} {x : List Value} (h : SgV G F N w D c l cs) (hA : SgC G F w s x)
    (ho : w'.ownsRow N 41 9 (.slice D' (l.length + 1) c') (l.length + 1) (cs.flatten ++ x)) (hg : w.grownBy w' (Value.slice D l.length c).ownBlock) (hat : (Value.slice D' (l.length + 1) c').ownBlock = (Value.slice D l.length c).ownBlock ∨ (Value.slice D' (l.length + 1) c').ownBlock = some w.heap.size)
    (hF : ∀ y, F' y → F y ∨ w.heap.size ≤ y) (hF2 : ∀ k, (Value.slice D' (l.length + 1) c').ownBlock = some k → F' k) : SgV (NewG G w w') F' N w' D' c' (l ++ [s]) (cs ++ [x]) := by
  have keep : ∀ {s : SV} {x : List Value}, SgC G F w s x → SgC (NewG G w w') F' w' s x := fun {s x} hh => hh.beside hg (fun k hk => (h.g k hk).2) hF (fun y hy => .inl hy)
  have hll : (l ++ [s]).length = l.length + 1 := by simp
  refine ⟨by rw [hll, List.flatten_append]; simpa using ho, by rw [List.length_append, hll, h.len]; rfl, fun j q hj => ?_, fun g hg' => ?_⟩
  · by_cases hlt : j < l.length
    · rw [List.getElem?_append_left hlt] at hj
      obtain ⟨y, e1, e2⟩ := h.smp j q hj
      exact ⟨y, by rw [List.getElem?_append_left (by rw [h.len]; exact hlt)]; exact e1, keep e2⟩
    · rw [List.getElem?_append_right (by omega)] at hj
      have hj0 : j - l.length = 0 := by
        have := (List.getElem?_eq_some_iff.1 hj).1
        simp at this
        omega
      rw [hj0] at hj
      simp at hj
      subst hj
      exact ⟨x, by rw [List.getElem?_append_right (by rw [h.len]; omega), h.len, hj0]; rfl, keep hA⟩
  · rw [hll] at hg'
    refine ⟨?_, hF2 g hg'⟩
    have hlt := (ho.lt g hg').2
    rcases hat with e | e
    · rw [e] at hg'; exact .inl (h.g g hg').1
    · rw [e] at hg'
      injection hg' with hg'
      exact .inr ⟨by omega, hlt⟩
end
/-- rows of numbers beside another row that grows -/
theorem RwV.beside {G H : Nat → Prop} {N : Nat} {w w' : World} {r : Option Nat} {D : Option Addr} {c : Nat} {Q : List (List Int)} {vs : List Value} (h : RwV G N w D c Q vs) (hg : w.grownBy w' r) (h1 : ∀ k, r = some k → (Value.slice D Q.length c).ownBlock ≠ some k) (h2 : ∀ A q d, OwnU G N w A d q → ∀ k, r = some k → (rowV A q d).ownBlock ≠ some k) (hH : ∀ y, G y → H y) : RwV H N w' D c Q vs :=
  ⟨Tk.own_abide h.own fun g hgg => hg.block g (h.own.lt g hgg).2 (fun e => h1 _ e.symm hgg), h.len, fun j q hj => by
    obtain ⟨A, d, e1, e2⟩ := h.row j q hj
    exact ⟨A, d, e1, Tk.own_abide e2.1 fun g hgg => hg.block g (e2.1.lt g hgg).2 (fun e => h2 A q d e2 _ e.symm hgg), fun g hgg => hH g (e2.2 g hgg)⟩, fun k hk => hH k (h.g k hk)⟩
theorem flat9 : ∀ {cs : List (List Value)} {j : Nat} {x : List Value} {i : Nat}, (∀ y ∈ cs, y.length = 9) → cs[j]? = some x → i < 9 → cs.flatten[j * 9 + i]? = x[i]?
  | [], j, x, i, _, h, _ => by simp at h
  | y :: r, 0, x, i, hl, h, hi => by
    simp at h
    subst h
    rw [List.flatten_cons, List.getElem?_append_left (by rw [hl y (by simp)]; omega)]
    simp
  | y :: r, j + 1, x, i, hl, h, hi => by
    have h9 := hl y (by simp)
    rw [List.flatten_cons, List.getElem?_append_right (by omega), h9, show (j + 1) * 9 + i - 9 = j * 9 + i by omega]
    exact flat9 (fun z hz => hl z (by simp [hz])) (by simpa using h) hi
theorem SgV.nine {G F : Nat → Prop} {N : Nat} {w : World} {D : Option Addr} {c : Nat} {l : List SV} {cs : List (List Value)} (h : SgV G F N w D c l cs) : ∀ y ∈ cs, y.length = 9 := fun y hy => by
  obtain ⟨j, hj, rfl⟩ := List.getElem_of_mem hy
  obtain ⟨x, e1, e2⟩ := h.smp j _ (List.getElem?_eq_getElem (by rw [← h.len]; exact hj))
  rw [List.getElem?_eq_getElem hj] at e1
  injection e1 with e1
  obtain ⟨A, B, c1, d1, e, _⟩ := e2.at_
  rw [e1, e]; rfl
/-- read as samples -/
theorem SgV.sm {G F : Nat → Prop} {N : Nat} {w : World} {D : Option Addr} {c : Nat} {l : List SV} {cs : List (List Value)} (h : SgV G F N w D c l cs) : Sm w D l ∧ Cpd w D l := by
  have h9 := h.nine
  rcases Tk.own_cl h.own with h5 | ⟨b, o, rfl, hc⟩
  · have hl : l = [] := by
      cases l with
      | nil => rfl
      | cons s r =>
        obtain ⟨x, e1, _⟩ := h.smp 0 s rfl
        have := flat9 (i := 0) h9 e1 (by decide)
        rw [h5] at this
        have hx := h9 x (List.mem_of_getElem? e1)
        cases x with
        | nil => simp at hx
        | cons v t => simp at this
    subst hl
    exact ⟨.inl rfl, fun j s hj => by simp at hj⟩
  · refine ⟨.inr ⟨b, o, rfl, fun j s hj => ?_⟩, fun j s hj => ?_⟩
    all_goals
      obtain ⟨x, e1, e2⟩ := h.smp j s hj
      obtain ⟨A, B, c1, d1, e, hb, hcp, _, _⟩ := e2.at_
      have hcell : ∀ i v, x[i]? = some v → w.cell? ⟨b, o + (j * 9 + i), none⟩ = some v := fun i v hv => by
        have hi : i < 9 := by
          have := (List.getElem?_eq_some_iff.1 hv).1
          rw [h9 x (List.mem_of_getElem? e1)] at this
          exact this
        exact hc _ v ((flat9 h9 e1 hi).trans hv)
    · exact ⟨A, B, c1, d1, fun i v hv => by rw [show o + j * 9 + i = o + (j * 9 + i) by omega]; exact hcell i v (by rw [e]; exact hv), hb⟩
    · exact ⟨b, o, A, B, c1, d1, rfl, by rw [show o + j * 9 + 7 = o + (j * 9 + 7) by omega]; exact hcell 7 _ (by rw [e]; rfl), by rw [show o + j * 9 + 8 = o + (j * 9 + 8) by omega]; exact hcell 8 _ (by rw [e]; rfl), hcp⟩
/-! plain facts of what is taken -/
def TB (R : List Int) : Prop := (∀ x ∈ R, 0 ≤ x ∧ x ≤ 2199023255553) ∧ ∀ a, R = [a] → a ≤ 1099511627776
theorem TB.nil : TB [] := ⟨by simp, fun a h => by cases h⟩
theorem TB.step {bs : List Nat} {R : List Int} {s : Nat × Int} (h : TB R) (ht : (timeF bs R s).1.2 = true) : TB ((timeF bs R s).1.1 :: R) := by
  have hb : 0 ≤ (timeF bs R s).1.1 ∧ (timeF bs R s).1.1 ≤ 2199023255553 ∧ (R = [] → (timeF bs R s).1.1 ≤ 1099511627776) := by
    match R, h with
    | [], h =>
      have := Tk.smallF_le bs 1099511627776 s
      rw [timeF_few (by simp)]
      simp only [nextT]
      exact ⟨by omega, by omega, fun _ => by omega⟩
    | [a], h =>
      have := Tk.smallF_le bs 1099511627776 s
      have h1 := h.1 a (by simp)
      have h2 := h.2 a rfl
      rw [timeF_few (by simp)]
      simp only [nextT]
      exact ⟨by omega, by omega, fun h => by cases h⟩
    | a :: b :: R, h =>
      rw [timeF_more (by simp)] at ht ⊢
      by_cases hc : (intF bs s).1 < -(nextT (a :: b :: R)) ∨ (intF bs s).1 > 1099511627776 - nextT (a :: b :: R)
      · rw [if_pos hc] at ht; simp at ht
      · rw [if_neg hc]
        simp only
        exact ⟨by omega, by omega, fun h => by cases h⟩
  refine ⟨fun x hx => ?_, fun a ha => ?_⟩
  · rcases List.mem_cons.1 hx with rfl | hx
    · exact ⟨hb.1, hb.2.1⟩
    · exact h.1 x hx
  · injection ha with h1 h2
    rw [← h1]
    exact hb.2.2 h2
theorem row_ok {k s z : Int} {xs ys r : List Int} {n : Nat} (hr : RowR n r) (hn : 2 ≤ n) (h : rowE k s z xs ys r = 0) : 0 ≤ (rowH k s z xs ys r).zc ∧ (rowH k s z xs ys r).zc ≤ 18446744073709551615 ∧ inI64 (rowH k s z xs ys r).sm := by
  unfold rowE at h
  unfold rowH mkO
  rw [if_pos h]
  obtain ⟨a, t, rfl⟩ : ∃ a t, r = a :: t := by
    cases r with
    | nil => have := hr.1; simp at this; omega
    | cons a t => exact ⟨a, t, rfl⟩
  have h1 := hr.2 a (by simp)
  refine ⟨h1.1, h1.2, ?_⟩
  have := sgn_bd (((a :: t).drop 1).headD 0)
  unfold inI64
  exact this
/-- what the loop of take keeps: those taken so far -/
structure TkK (bs : List Nat) (K : Nat) (s0 : Nat × Int) (k : Nat) (L : List (Int × List Int)) (s : Nat × Int) : Prop where
  len : L.length = k
  rest : tkL bs = ((bodyF bs (okOf bs) (nNum (xOf bs) (yOf bs)) (K - k) (L.map (·.1)).reverse (L.map (·.2)).reverse s).1).map (L ++ ·)
  tb : TB (L.map (·.1)).reverse
  row : ∀ p ∈ L, RowR (nNum (xOf bs) (yOf bs)) p.2 ∧ rowE (kOf bs) (sOf bs) (zOf bs) (xOf bs) (yOf bs) p.2 = 0
theorem map_app {α : Type} (L : List α) (p : α) (o : Option (List α)) : ((o.map fun l => p :: l).map (L ++ ·)) = o.map ((L ++ [p]) ++ ·) := by
  cases o <;> simp
theorem TkK.step {bs : List Nat} {K : Nat} {s0 : Nat × Int} {k : Nat} {L : List (Int × List Int)} {s : Nat × Int} (h : TkK bs K s0 k L s) (hk : k < K) (T : Int × Bool) (s1 : Nat × Int) (ht : timeF bs (L.map (·.1)).reverse s = (T, s1)) (r : List Int) (s2 : Nat × Int) (hr : rowF bs (L.map (·.2)).reverse.isEmpty (nextR (nNum (xOf bs) (yOf bs)) (L.map (·.2)).reverse) s1 = (r, s2)) :
    (T.2 = false ∨ rowE (kOf bs) (sOf bs) (zOf bs) (xOf bs) (yOf bs) r ≠ 0 → tkL bs = none) ∧ (T.2 = true → rowE (kOf bs) (sOf bs) (zOf bs) (xOf bs) (yOf bs) r = 0 → TkK bs K s0 (k + 1) (L ++ [(T.1, r)]) s2) := by
  obtain ⟨m, hm⟩ : ∃ m, K - k = m + 1 := ⟨K - k - 1, by omega⟩
  have hrest := h.rest
  rw [hm] at hrest
  unfold bodyF at hrest
  rw [ht] at hrest
  simp only at hrest
  rw [hr] at hrest
  simp only at hrest
  have hok : okOf bs r = decide (rowE (kOf bs) (sOf bs) (zOf bs) (xOf bs) (yOf bs) r = 0) := rfl
  refine ⟨fun hf => ?_, fun h1 h2 => ?_⟩
  · rw [if_pos (by
      rcases hf with hf | hf
      · exact .inl hf
      · exact .inr (by rw [hok]; exact decide_eq_false hf))] at hrest
    exact hrest
  · rw [if_neg (by rw [hok, h1, decide_eq_true h2]; simp)] at hrest
    simp only at hrest
    rw [map_app] at hrest
    have htb := h.tb.step (bs := bs) (s := s) (by rw [ht]; exact h1)
    rw [ht] at htb
    have hrl : r.length = nNum (xOf bs) (yOf bs) := by
      have := rowF_length bs (L.map (·.2)).reverse.isEmpty (nextR (nNum (xOf bs) (yOf bs)) (L.map (·.2)).reverse) s1
      rw [hr, nextR_length _ (fun q hq => by
        simp only [List.mem_reverse, List.mem_map] at hq
        obtain ⟨p, hp, rfl⟩ := hq
        exact (h.row p hp).1.1)] at this
      exact this
    have hru := rowF_r bs (L.map (·.2)).reverse.isEmpty (nextR (nNum (xOf bs) (yOf bs)) (L.map (·.2)).reverse) s1
    rw [hr] at hru
    refine ⟨by simp [h.len], ?_, by simpa using htb, fun p hp => ?_⟩
    · rw [show K - (k + 1) = m by omega]
      simpa using hrest
    · rcases List.mem_append.1 hp with hp | hp
      · exact h.row p hp
      · simp at hp
        subst hp
        exact ⟨⟨hrl, hru⟩, h2⟩
end Go.Proofs.YtakomfnajeolcaaGreatDoor.Ch
