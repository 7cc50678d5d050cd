/- How much lies below a place: plain data, and the program's Below. -/
import Derived.Test.YtbibhjcmdehdbaaRkD
namespace Go.Proofs.Ytbibhjcmdehdbaa
open Go.RowKit Go.Sort
set_option linter.unusedVariables false

def belB (z d u : Int) (c : Cel) : Bool := decide (numF (hiD c z) (hiU c z) ≤ numF d u)
def midB (z d u : Int) (c : Cel) : Bool := !belB z d u c && decide (numF (loD c z) (loU c z) < numF d u)
def sumB (f : Cel → Bool) (l : List Cel) : Int := ((l.filter f).map (·.n)).sum
def totC (l : List Cel) : Int := (l.map (·.n)).sum
theorem sumB_snoc (f : Cel → Bool) (l : List Cel) (p : Cel) : sumB f (l ++ [p]) = sumB f l + if f p = true then p.n else 0 := by
  unfold sumB
  rw [List.filter_append, List.map_append, List.sum_append]
  by_cases h : f p = true <;> simp [h]
theorem totC_append (l m : List Cel) : totC (l ++ m) = totC l + totC m := by simp [totC]
theorem sumB_bd (f : Cel → Bool) {l : List Cel} (h : ∀ p ∈ l, 0 ≤ p.n) : 0 ≤ sumB f l ∧ sumB f l ≤ totC l := by
  induction l with
  | nil => simp [sumB, totC]
  | cons a r ih =>
    have h1 := h a (by simp)
    obtain ⟨i1, i2⟩ := ih (fun p hp => h p (by simp [hp]))
    have e : totC (a :: r) = a.n + totC r := by simp [totC]
    by_cases hf : f a = true
    · have e2 : sumB f (a :: r) = a.n + sumB f r := by simp [sumB, hf]
      omega
    · have e2 : sumB f (a :: r) = sumB f r := by simp [sumB, hf]
      omega
theorem sumB_take (f : Cel → Bool) {l : List Cel} (h : ∀ p ∈ l, 0 ≤ p.n) (k : Nat) : 0 ≤ sumB f (l.take k) ∧ sumB f (l.take k) ≤ totC l := by
  obtain ⟨a, b⟩ := sumB_bd f (l := l.take k) (fun p hp => h p (List.mem_of_mem_take hp))
  have e : totC l = totC (l.take k) + totC (l.drop k) := by rw [← totC_append, List.take_append_drop]
  obtain ⟨c, d⟩ := sumB_bd (fun _ => true) (l := l.drop k) (fun p hp => h p (List.mem_of_mem_drop hp))
  omega
theorem cnt_rev (l : List (Int × Int)) : cnt l.reverse = cnt l := by
  induction l with
  | nil => rfl
  | cons a r ih => rw [List.reverse_cons, cnt_append, ih]; simp [cnt]; omega
theorem totC_map (d s : Int) (l : List (Int × Int)) : totC (l.map (celF d s)) = cnt l := by
  unfold totC cnt
  rw [List.map_map]
  rfl
theorem tot_ord {h : HV} (o : Ok h) : totC (ordF h) = h.ct := by
  have hz := o.zc
  have e : totC (zeroL h) = h.zc := by
    unfold zeroL
    split
    · simp [totC]
    · simp [totC]; omega
  unfold ordF
  rw [totC_append, totC_append, e]
  unfold negL posL
  rw [totC_map, totC_map, cnt_rev]
  have := o.ct
  omega
theorem zc_le {h : HV} (o : Ok h) : h.zc ≤ 18446744073709551615 := by
  have g := o.toGood
  have h2 := g.nP.cnt
  have h3 := g.nQ.cnt
  have h4 := g.ct
  have h5 := g.big
  omega
theorem ord_cel {h : HV} (o : Ok h) : ∀ p ∈ ordF h, CelOk p ∧ 0 ≤ p.n := fun p hp => by
  rcases List.mem_append.1 hp with hp | hp
  · obtain ⟨q, hq, rfl⟩ := List.mem_map.1 hp
    have hq := List.mem_reverse.1 hq
    have hw := o.toGood.wQ q hq
    have hi := in_bd (o.iQ q hq)
    exact ⟨⟨.inl rfl, o.s, ⟨by show -262144 ≤ q.1; omega, by show q.1 ≤ 262144; omega⟩, hw.2.2⟩, hw.2.2.1⟩
  · rcases List.mem_append.1 hp with hp | hp
    · unfold zeroL at hp
      split at hp
      · rw [List.mem_singleton.1 hp]
        exact ⟨⟨.inr (.inl rfl), show rightB 0 = true by decide, ⟨by show (-262144 : Int) ≤ 0; omega, by show (0 : Int) ≤ 262144; omega⟩, o.zc, zc_le o⟩, o.zc⟩
      · cases hp
    · obtain ⟨q, hq, rfl⟩ := List.mem_map.1 hp
      have hw := o.toGood.wP q hq
      have hi := in_bd (o.iP q hq)
      exact ⟨⟨.inr (.inr rfl), o.s, ⟨by show -262144 ≤ q.1; omega, by show q.1 ≤ 262144; omega⟩, hw.2.2⟩, hw.2.2.1⟩
/-- a place by its numbers, in bounds -/
def PlOk (d u : Int) : Prop := (d = -1 ∨ d = 0 ∨ d = 1) ∧ -4611686018427387904 ≤ u ∧ u ≤ 4611686018427387904
theorem ends_ok {c : Cel} {z : Int} (o : CelOk c) (hz : zr z) : PlOk (loD c z) (loU c z) ∧ PlOk (hiD c z) (hiU c z) := by
  have h := o.i
  have h1 := Go.Proofs.Ytbibhjcmdehdbaa.un_bd o.s (i := c.i) 262145 (by omega) (by omega)
  have h2 := Go.Proofs.Ytbibhjcmdehdbaa.un_bd o.s (i := c.i - 1) 262145 (by omega) (by omega)
  have hz' := hz
  unfold zr at hz'
  unfold PlOk loD loU hiD hiU
  rcases o.d with e | e | e <;> rw [e] <;> by_cases e2 : z = -524288 <;> simp [e2] <;> omega
theorem pl_ok {d u : Int} (h : plB d u = true) : PlOk d u := by
  unfold plB at h
  unfold PlOk
  split at h
  · simp at h; omega
  · split at h
    · simp at h; omega
    · cases h
def belE (h : HV) (d u : Int) : Int := if plB d u = true then (if h.ct = 0 then 30 else 0) else 1
def belX (h : HV) (d u : Int) : Int := if belE h d u = 0 then sumB (belB h.z d u) (ordF h) else 0
def belM (h : HV) (d u : Int) : Int := if belE h d u = 0 then sumB (midB h.z d u) (ordF h) else 0
def belA (h : HV) (d u : Int) : Int := if belE h d u = 0 then h.ct else 0
def belV (h : HV) (d u : Int) : Value := .agg #[.int .u64 (belX h d u), .int .u64 (belM h d u), .int .u64 (belA h d u)]
theorem belE_no {h : HV} {d u : Int} (e : plB d u = false) : belE h d u = 1 ∧ belX h d u = 0 ∧ belM h d u = 0 ∧ belA h d u = 0 := by
  have h1 : belE h d u = 1 := by unfold belE; rw [e]; rfl
  unfold belX belM belA; rw [h1]; exact ⟨rfl, rfl, rfl, rfl⟩
theorem belE_nil {h : HV} {d u : Int} (e : plB d u = true) (e2 : h.ct = 0) : belE h d u = 30 ∧ belX h d u = 0 ∧ belM h d u = 0 ∧ belA h d u = 0 := by
  have h1 : belE h d u = 30 := by unfold belE; rw [e, e2]; rfl
  unfold belX belM belA; rw [h1]; exact ⟨rfl, rfl, rfl, rfl⟩
theorem belE_yes {h : HV} {d u : Int} (e : plB d u = true) (e2 : h.ct ≠ 0) : belE h d u = 0 ∧ belX h d u = sumB (belB h.z d u) (ordF h) ∧ belM h d u = sumB (midB h.z d u) (ordF h) ∧ belA h d u = h.ct := by
  have h1 : belE h d u = 0 := by unfold belE; rw [e, if_pos rfl, if_neg e2]
  unfold belX belM belA; rw [h1]; exact ⟨rfl, rfl, rfl, rfl⟩
theorem Cs.off {w : World} {A : Option Addr} {l : List Cel} (h : Cs w A l) {g : Nat} (hg : ∀ a, A = some a → a.block ≠ g) (i : Nat) (u : Value) : Cs (w.setCell ⟨g, i, none⟩ u) A l := by
  refine ⟨h.1, ?_⟩
  rcases h.2 with h2 | ⟨b, off, e, hc⟩
  · exact .inl h2
  · have hb := hg _ e
    have hk : ∀ o, (w.setCell ⟨g, i, none⟩ u).cell? ⟨b, o, none⟩ = w.cell? ⟨b, o, none⟩ := fun o => World.cell?_of_block (a := ⟨b, o, none⟩) (heap_setCell_other w ⟨g, i, none⟩ b u hb)
    refine .inr ⟨b, off, e, fun j p hj => ?_⟩
    obtain ⟨c0, c1, c2, c3⟩ := hc j p hj
    exact ⟨(hk _).trans c0, (hk _).trans c1, (hk _).trans c2, (hk _).trans c3⟩
def BelS (w : World) (gq : Nat) (hv pl : Array Value) (A1 : Option Addr) (l : List Cel) (X M ct : Int) (wr : World) : Prop :=
  Rb wr w.heap.size 25 hv ∧ Rb wr (w.heap.size + 1) 60 pl ∧ Rb wr (w.heap.size + 1 + 1) 62 #[.int .u64 0, .int .u64 0, .int .u64 0] ∧ Rb wr gq 62 #[.int .u64 X, .int .u64 M, .int .u64 ct] ∧ Cs wr A1 l ∧ Below w.heap.size w wr
theorem BelS.below {w : World} {gq : Nat} {hv pl : Array Value} {A1 : Option Addr} {l : List Cel} {X M ct : Int} {wr w2 : World} (h : BelS w gq hv pl A1 l X M ct wr) (hb : Below wr.heap.size wr w2) : BelS w gq hv pl A1 l X M ct w2 :=
  ⟨h.1.below hb, h.2.1.below hb, h.2.2.1.below hb, h.2.2.2.1.below hb, h.2.2.2.2.1.below hb, h.2.2.2.2.2.trans (hb.mono h.2.2.2.2.2.size)⟩
theorem BelS.setX {w : World} {gq : Nat} {hv pl : Array Value} {A1 : Option Addr} {l : List Cel} {X M ct : Int} {wr : World} (h : BelS w gq hv pl A1 l X M ct wr) (hg : w.heap.size + 1 + 1 < gq) (hN : ∀ a, A1 = some a → a.block ≠ gq) (u : Int) : BelS w gq hv pl A1 l u M ct (wr.setCell ⟨gq, 0, none⟩ (.int .u64 u)) :=
  ⟨h.1.off (by omega) _ _, h.2.1.off (by omega) _ _, h.2.2.1.off (by omega) _ _, heap_set_at h.2.2.2.1 _, h.2.2.2.2.1.off hN _ _, h.2.2.2.2.2.setCell (p := ⟨gq, 0, none⟩) (by simp; omega) _⟩
theorem BelS.setM {w : World} {gq : Nat} {hv pl : Array Value} {A1 : Option Addr} {l : List Cel} {X M ct : Int} {wr : World} (h : BelS w gq hv pl A1 l X M ct wr) (hg : w.heap.size + 1 + 1 < gq) (hN : ∀ a, A1 = some a → a.block ≠ gq) (u : Int) : BelS w gq hv pl A1 l X u ct (wr.setCell ⟨gq, 1, none⟩ (.int .u64 u)) :=
  ⟨h.1.off (by omega) _ _, h.2.1.off (by omega) _ _, h.2.2.1.off (by omega) _ _, heap_set_at h.2.2.2.1 _, h.2.2.2.2.1.off hN _ _, h.2.2.2.2.2.setCell (p := ⟨gq, 1, none⟩) (by simp; omega) _⟩
set_option maxHeartbeats 4000000 in
set_option maxRecDepth 100000 in
theorem below_any (h : HV) (A B : Option Addr) (c d : Nat) (pd pu : Int) (w : World) (hP : Bk w A h.P) (hQ : Bk w B h.Q) (o : Ok h) :
    Calls Try.prog 34 #[.agg #[.int .i64 h.k, .int .i64 h.s, .int .i64 h.z, .int .u64 h.zc, .int .u64 h.ct, .int .i64 h.sm, .slice A h.P.length c, .slice B h.Q.length d], .agg #[.int .i64 pd, .int .i64 pu]] w fun e w' => e = .returned (.tuple #[.agg #[.int .u64 (belX h pd pu), .int .u64 (belM h pd pu), .int .u64 (belA h pd pu)], .int .i64 (belE h pd pu)]) ∧ Below w.heap.size w w' := by
  have hb0 : Below w.heap.size w (((w.alloc (.cells #[.int .i64 h.k, .int .i64 h.s, .int .i64 h.z, .int .u64 h.zc, .int .u64 h.ct, .int .i64 h.sm, .slice A h.P.length c, .slice B h.Q.length d] 25)).alloc (.cells #[.int .i64 pd, .int .i64 pu] 60)).alloc (.cells #[.int .u64 0, .int .u64 0, .int .u64 0] 62)) := (((Below.refl _ _).alloc (Nat.le_refl _) _).alloc (by simp) _).alloc (by simp; omega) _
  have HX0 := Lib.hid (And.intro (((Rb.new w w.heap.size rfl 25 #[.int .i64 h.k, .int .i64 h.s, .int .i64 h.z, .int .u64 h.zc, .int .u64 h.ct, .int .i64 h.sm, .slice A h.P.length c, .slice B h.Q.length d]).alloc (.cells #[.int .i64 pd, .int .i64 pu] 60)).alloc (.cells #[.int .u64 0, .int .u64 0, .int .u64 0] 62)) (And.intro ((Rb.new (w.alloc (.cells #[.int .i64 h.k, .int .i64 h.s, .int .i64 h.z, .int .u64 h.zc, .int .u64 h.ct, .int .i64 h.sm, .slice A h.P.length c, .slice B h.Q.length d] 25)) (w.heap.size + 1) (by simp) 60 #[.int .i64 pd, .int .i64 pu]).alloc (.cells #[.int .u64 0, .int .u64 0, .int .u64 0] 62)) (Rb.new ((w.alloc (.cells #[.int .i64 h.k, .int .i64 h.s, .int .i64 h.z, .int .u64 h.zc, .int .u64 h.ct, .int .i64 h.sm, .slice A h.P.length c, .slice B h.Q.length d] 25)).alloc (.cells #[.int .i64 pd, .int .i64 pu] 60)) (w.heap.size + 1 + 1) (by simp) 62 #[.int .u64 0, .int .u64 0, .int .u64 0])))
  have HB0 := Lib.hid hb0
  have HK0 := Lib.hid (And.intro (hP.below hb0) (hQ.below hb0))
  have HO := Lib.hid o
  have hct0 : 0 ≤ h.ct := by have g := o.toGood; have h1 := g.zc; have h2 := g.nP.cnt; have h3 := g.nQ.cnt; have h4 := g.ct; omega
  have hct1 := o.big
  clear hP hQ o hb0
  rcases hR : plB pd pu with _ | _
  · obtain ⟨e1, e2, e3, e4⟩ := belE_no (h := h) hR
    rw [e1, e2, e3, e4]
    go_enter Try.func34, Try.ntmps34
    go_wp2_with fail
    generalize (((w.alloc (.cells #[.int .i64 h.k, .int .i64 h.s, .int .i64 h.z, .int .u64 h.zc, .int .u64 h.ct, .int .i64 h.sm, .slice A h.P.length c, .slice B h.Q.length d] 25)).alloc (.cells #[.int .i64 pd, .int .i64 pu] 60)).alloc (.cells #[.int .u64 0, .int .u64 0, .int .u64 0] 62)) = w0 at *
    refine (rkright_any pd pu w0).mono ?_
    rw [hR]
    rintro e w1 ⟨rfl, hb⟩
    have HB1 := Lib.hid (HB0.out.trans (hb.mono HB0.out.size))
    obtain ⟨r0, r1, r2, f0, f1, f2⟩ := (HX0.out.2.2.below hb).three
    have lr := (HX0.out.2.2.below hb).lt
    clear hb hR e1 e2 e3 e4
    go_wp2_with fail
    exact bodyPost_ret (v := .tuple #[.agg #[.int .u64 0, .int .u64 0, .int .u64 0], .int .i64 1]) (by simp [results, Try.results34, go_sem, r0, r1, r2]) rfl ⟨rfl, (((HB1.out.setCell (p := ⟨w.heap.size + 1 + 1, 0, none⟩) (by simp; omega) _).setCell (p := ⟨w.heap.size + 1 + 1, 1, none⟩) (by simp; omega) _).setCell (p := ⟨w.heap.size + 1 + 1, 2, none⟩) (by simp; omega) _)⟩
  · by_cases hc : h.ct = 0
    · obtain ⟨e1, e2, e3, e4⟩ := belE_nil hR hc
      rw [e1, e2, e3, e4]
      have hc1 : (h.ct == 0) = true := by simpa using hc
      clear hc
      go_enter Try.func34, Try.ntmps34
      go_wp2_with fail
      generalize (((w.alloc (.cells #[.int .i64 h.k, .int .i64 h.s, .int .i64 h.z, .int .u64 h.zc, .int .u64 h.ct, .int .i64 h.sm, .slice A h.P.length c, .slice B h.Q.length d] 25)).alloc (.cells #[.int .i64 pd, .int .i64 pu] 60)).alloc (.cells #[.int .u64 0, .int .u64 0, .int .u64 0] 62)) = w0 at *
      refine (rkright_any pd pu w0).mono ?_
      rw [hR]
      rintro e w1 ⟨rfl, hb⟩
      have HB1 := Lib.hid (HB0.out.trans (hb.mono HB0.out.size))
      obtain ⟨r0, r1, r2, f0, f1, f2⟩ := (HX0.out.2.2.below hb).three
      have lr := (HX0.out.2.2.below hb).lt
      obtain ⟨x0, x1, x2, x3, x4, x5, x6, x7⟩ := (HX0.out.1.below hb).eight
      have lx := (HX0.out.1.below hb).lt
      clear hb hR e1 e2 e3 e4
      go_wp2_with fail
      exact bodyPost_ret (v := .tuple #[.agg #[.int .u64 0, .int .u64 0, .int .u64 0], .int .i64 30]) (by simp [results, Try.results34, go_sem, r0, r1, r2]) rfl ⟨rfl, (((HB1.out.setCell (p := ⟨w.heap.size + 1 + 1, 0, none⟩) (by simp; omega) _).setCell (p := ⟨w.heap.size + 1 + 1, 1, none⟩) (by simp; omega) _).setCell (p := ⟨w.heap.size + 1 + 1, 2, none⟩) (by simp; omega) _)⟩
    · obtain ⟨e1, e2, e3, e4⟩ := belE_yes hR hc
      rw [e1, e2, e3, e4]
      go_enter Try.func34, Try.ntmps34
      go_wp2_with fail
      generalize (((w.alloc (.cells #[.int .i64 h.k, .int .i64 h.s, .int .i64 h.z, .int .u64 h.zc, .int .u64 h.ct, .int .i64 h.sm, .slice A h.P.length c, .slice B h.Q.length d] 25)).alloc (.cells #[.int .i64 pd, .int .i64 pu] 60)).alloc (.cells #[.int .u64 0, .int .u64 0, .int .u64 0] 62)) = w0 at *
      refine (rkright_any pd pu w0).mono ?_
      have HR := Lib.hid hR
      rw [hR]
      rintro e w1 ⟨rfl, hb⟩
      have HB1 := Lib.hid (HB0.out.trans (hb.mono HB0.out.size))
      have HX1 := Lib.hid (And.intro (HX0.out.1.below hb) (And.intro (HX0.out.2.1.below hb) (HX0.out.2.2.below hb)))
      have HK1 := Lib.hid (And.intro (HK0.out.1.below hb) (HK0.out.2.below hb))
      obtain ⟨x0, x1, x2, x3, x4, x5, x6, x7⟩ := HX1.out.1.eight
      have lx := HX1.out.1.lt
      have hc1 : (h.ct == 0) = false := by simpa using hc
      clear hb hR hc e1 e2 e3 e4 HX0 HB0 HK0
      go_upto_region 6 with fail
      clear x0 x1 x2 x3 x4 x5 x6 x7 lx hc1
      have hw : Below w1.heap.size w1 (w1.alloc (.cells #[.int .u64 0, .int .u64 0, .int .u64 h.ct] 62)) := (Below.refl _ _).alloc (Nat.le_refl _) _
      obtain ⟨gq, hgq⟩ : ∃ g, w1.heap.size = g := ⟨_, rfl⟩
      have HX2 := Lib.hid (And.intro (HX1.out.1.below hw) (And.intro (HX1.out.2.1.below hw) (And.intro (HX1.out.2.2.below hw) (Rb.new w1 gq hgq 62 #[.int .u64 0, .int .u64 0, .int .u64 h.ct]))))
      have HB2 := Lib.hid (HB1.out.trans (hw.mono HB1.out.size))
      have HK2 := Lib.hid (And.intro (HK1.out.1.below hw) (HK1.out.2.below hw))
      have HG := Lib.hid (show w.heap.size + 1 + 1 < gq from by rw [← hgq]; exact HX1.out.2.2.lt)
      rw [hgq]
      clear hw hgq HX1 HB1 HK1
      generalize w1.alloc (.cells #[.int .u64 0, .int .u64 0, .int .u64 h.ct] 62) = w2 at *
      obtain ⟨x0, x1, x2, x3, x4, x5, x6, x7⟩ := HX2.out.1.eight
      have lx := HX2.out.1.lt
      go_wp2_with fail
      refine (order_any h A B c d w2 HK2.out.1 HK2.out.2 HO.out).mono ?_
      rintro e w3 ⟨A1, c1, rfl, hcs, hb, hnw⟩
      have HX3 := Lib.hid (And.intro (HX2.out.1.below hb) (And.intro (HX2.out.2.1.below hb) (And.intro (HX2.out.2.2.1.below hb) (HX2.out.2.2.2.below hb))))
      have HB3 := Lib.hid (HB2.out.trans (hb.mono HB2.out.size))
      have HN := Lib.hid (show ∀ a, A1 = some a → a.block ≠ gq from fun a ha => by have h1 := hnw a ha; have h2 := HX2.out.2.2.2.lt; omega)
      have HC3 := Lib.hid hcs
      obtain ⟨l, hl⟩ : ∃ l, ordF h = l := ⟨_, rfl⟩
      have HL := Lib.hid (show (∀ p ∈ l, CelOk p ∧ 0 ≤ p.n) ∧ totC l = h.ct ∧ l.length ≤ 1025 from by rw [← hl]; exact ⟨ord_cel HO.out, tot_ord HO.out, ord_len HO.out⟩)
      rw [hl] at HC3
      rw [hl]
      have HLQ := Lib.hid hl
      have hll : (l.length : Int) ≤ 1025 := by have := HL.out.2.2; omega
      clear x0 x1 x2 x3 x4 x5 x6 x7 lx hb hcs hnw hl HX2 HB2 HK2
      go_wp2_with fail
      have HSt := Lib.hid (show BelS w gq #[.int .i64 h.k, .int .i64 h.s, .int .i64 h.z, .int .u64 h.zc, .int .u64 h.ct, .int .i64 h.sm, .slice A h.P.length c, .slice B h.Q.length d] #[.int .i64 pd, .int .i64 pu] A1 l 0 0 h.ct w3 from ⟨HX3.out.1, HX3.out.2.1, HX3.out.2.2.1, HX3.out.2.2.2, HC3.out, HB3.out⟩)
      have HPP := Lib.hid (pl_ok HR.out)
      have HNP := Lib.hid (fun (W : World) => number_any pd pu W HPP.out.1 HPP.out.2.1 HPP.out.2.2)
      have HZR := Lib.hid HO.out.z
      clear HX3 HC3 HB3
      obtain ⟨NP, hNP⟩ : ∃ n, numF pd pu = n := ⟨_, rfl⟩
      rw [hNP] at HNP
      have HNPE := Lib.hid hNP
      clear hNP
      go_loopw [25] (fun i wr => ∃ (k : Nat) (X M : Int), k ≤ l.length ∧ i = .int .i64 k ∧ Hid (X = sumB (belB h.z pd pu) (l.take k) ∧ M = sumB (midB h.z pd pu) (l.take k)) ∧ Hid (BelS w gq #[.int .i64 h.k, .int .i64 h.s, .int .i64 h.z, .int .u64 h.zc, .int .u64 h.ct, .int .i64 h.sm, .slice A h.P.length c, .slice B h.Q.length d] #[.int .i64 pd, .int .i64 pu] A1 l X M h.ct wr)) (fun i _ => l.length - (intOf i).toNat)
      case atStart => exact ⟨0, 0, 0, by omega, rfl, Lib.hid ⟨rfl, rfl⟩, HSt⟩
      case round =>
        obtain ⟨k, X, M, hk, rfl, HXM, HS⟩ := hrel
        by_cases hlt : k < l.length
        · have hki : (k : Int) < (l.length : Int) := by omega
          obtain ⟨b, off, rfl, hcell⟩ := HS.out.2.2.2.2.1.some_ (by omega)
          obtain ⟨p, hp⟩ := getElem?_lt hlt
          obtain ⟨q0, q1, q2, q3⟩ := hcell k p hp
          have hpo := (HL.out.1 p (mem_of_at hp)).1
          have HPO := Lib.hid hpo
          have hpn := hpo.n
          have HT := Lib.hid (take_snoc l k p hp)
          have hlb := block_lt_of_cell q0
          simp only at hlb
          have hX0 := sumB_take (belB h.z pd pu) (fun q hq => (HL.out.1 q hq).2) k
          have hX1 := sumB_take (belB h.z pd pu) (fun q hq => (HL.out.1 q hq).2) (k + 1)
          have hM0 := sumB_take (midB h.z pd pu) (fun q hq => (HL.out.1 q hq).2) k
          have hM1 := sumB_take (midB h.z pd pu) (fun q hq => (HL.out.1 q hq).2) (k + 1)
          rw [← HXM.out.1, HL.out.2.1] at hX0
          rw [← HXM.out.2, HL.out.2.1] at hM0
          rw [HT.out, sumB_snoc, ← HXM.out.1, HL.out.2.1] at hX1
          rw [HT.out, sumB_snoc, ← HXM.out.2, HL.out.2.1] at hM1
          have HBD := Lib.hid (And.intro hX1 hM1)
          clear hX1 hM1
          clear hcell hp hpo
          go_upto_region 9 with fail
          clear q0 q1 q2 q3 hlb
          have hbA : Below wr.heap.size wr (wr.alloc (.cells #[.int .i64 p.d, .int .i64 p.s, .int .i64 p.i, .int .u64 p.n] 50)) := (Below.refl _ _).alloc (Nat.le_refl _) _
          obtain ⟨gc, hgc⟩ : ∃ g, wr.heap.size = g := ⟨_, rfl⟩
          have HCA := Lib.hid (Rb.new wr gc hgc 50 #[.int .i64 p.d, .int .i64 p.s, .int .i64 p.i, .int .u64 p.n])
          have HSA := Lib.hid (HS.out.below hbA)
          have HGC := Lib.hid (show gq < gc from by rw [← hgc]; exact HS.out.2.2.2.1.lt)
          rw [hgc]
          clear hbA hgc HS
          generalize wr.alloc (.cells #[.int .i64 p.d, .int .i64 p.s, .int .i64 p.i, .int .u64 p.n] 50) = wA at *
          obtain ⟨c0, c1_, c2, c3⟩ := HCA.out.four
          have lc := HCA.out.lt
          have x2 : wA.cell? ⟨w.heap.size, 2, none⟩ = some (.int .i64 h.z) := HSA.out.1.cell 2
          have lx := HSA.out.1.lt
          have hek := ends_ok HPO.out HZR.out
          obtain ⟨ld, hld⟩ : ∃ x, loD p h.z = x := ⟨_, rfl⟩
          obtain ⟨lu, hlu⟩ : ∃ x, loU p h.z = x := ⟨_, rfl⟩
          obtain ⟨hd, hhd⟩ : ∃ x, hiD p h.z = x := ⟨_, rfl⟩
          obtain ⟨hu, hhu⟩ : ∃ x, hiU p h.z = x := ⟨_, rfl⟩
          have HE := Lib.hid (And.intro (And.intro hld hlu) (And.intro hhd hhu))
          rw [hld, hlu, hhd, hhu] at hek
          have HEK := Lib.hid hek
          have HEN := Lib.hid (ends_any p h.z wA HPO.out)
          rw [hld, hlu, hhd, hhu] at HEN
          clear hld hlu hhd hhu hek
          go_wp2_with fail
          refine HEN.out.mono ?_
          rintro e w4 ⟨rfl, hb⟩
          have HS4 := Lib.hid (HSA.out.below hb)
          have HC4 := Lib.hid (HCA.out.below hb)
          clear c0 c1_ c2 c3 lc x2 lx hb HEN HSA HCA
          go_upto_region 10 with fail
          have hb5 : Below w4.heap.size w4 ((w4.alloc (.cells #[.int .i64 ld, .int .i64 lu] 60)).alloc (.cells #[.int .i64 hd, .int .i64 hu] 60)) := ((Below.refl _ _).alloc (Nat.le_refl _) _).alloc (by simp) _
          obtain ⟨gL, hgL⟩ : ∃ g, w4.heap.size = g := ⟨_, rfl⟩
          have HL5 := Lib.hid ((Rb.new w4 gL hgL 60 #[.int .i64 ld, .int .i64 lu]).alloc (.cells #[.int .i64 hd, .int .i64 hu] 60))
          have HH5 := Lib.hid (Rb.new (w4.alloc (.cells #[.int .i64 ld, .int .i64 lu] 60)) (gL + 1) (by rw [← hgL]; simp) 60 #[.int .i64 hd, .int .i64 hu])
          have HS5 := Lib.hid (HS4.out.below hb5)
          have HC5 := Lib.hid (HC4.out.below hb5)
          rw [hgL]
          clear hb5 hgL HS4 HC4
          generalize (w4.alloc (.cells #[.int .i64 ld, .int .i64 lu] 60)).alloc (.cells #[.int .i64 hd, .int .i64 hu] 60) = w5 at *
          have HNH := Lib.hid (fun (W : World) => number_any hd hu W HEK.out.2.1 HEK.out.2.2.1 HEK.out.2.2.2)
          have HNL := Lib.hid (fun (W : World) => number_any ld lu W HEK.out.1.1 HEK.out.1.2.1 HEK.out.1.2.2)
          obtain ⟨NH, hNH⟩ : ∃ n, numF hd hu = n := ⟨_, rfl⟩
          obtain ⟨NL, hNL⟩ : ∃ n, numF ld lu = n := ⟨_, rfl⟩
          rw [hNH] at HNH
          rw [hNL] at HNL
          have HBB := Lib.hid (show belB h.z pd pu p = decide (NH ≤ NP) from by unfold belB; rw [HE.out.2.1, HE.out.2.2, hNH, HNPE.out])
          have HMB := Lib.hid (show midB h.z pd pu p = (!decide (NH ≤ NP) && decide (NL < NP)) from by unfold midB; rw [HBB.out, HE.out.1.1, HE.out.1.2, hNL, HNPE.out])
          clear hNH hNL
          obtain ⟨y0, y1, _, _⟩ := HH5.out.two
          obtain ⟨p0, p1, _, _⟩ := HS5.out.2.1.two
          have y0' := cell_regrown y0
          have y1' := cell_regrown y1
          have p0' := cell_regrown p0
          have p1' := cell_regrown p1
          refine wp_region_quiet_below (by kernel_rfl) (by kernel_rfl) ?_
          repeat (any_goals (first | go_big_quiet_step (first | (go_at_call 69; (with_reducible exact Calls.regrown_of (HNH.out _))) | (go_at_call 69; (with_reducible exact Calls.regrown_of (HNP.out _)))) | quiet_step (first | (go_at_call 69; (with_reducible exact Calls.regrown_of (HNH.out _))) | (go_at_call 69; (with_reducible exact Calls.regrown_of (HNP.out _))))))
          refine wpQuiet_nil ?_
          intro _ hw'
          obtain ⟨⟨dq, osq⟩, hw2⟩ := hw'
          subst hw2
          have HS6 := Lib.hid (HS5.out.below (below_regrown w5 dq osq))
          have HC6 := Lib.hid (HC5.out.below (below_regrown w5 dq osq))
          have HL6 := Lib.hid (HL5.out.below (below_regrown w5 dq osq))
          clear y0 y1 p0 p1 y0' y1' p0' p1' HS5 HC5 HL5
          generalize grow (redrawn w5 dq) osq = w6 at *
          obtain ⟨t0, t1, t2, g0, g1, g2⟩ := HS6.out.2.2.2.1.three
          have lt_ := HS6.out.2.2.2.1.lt
          obtain ⟨c0, c1_, c2, c3⟩ := HC6.out.four
          have lc := HC6.out.lt
          by_cases hbl : NH ≤ NP
          · have hd1 : decide (NH ≤ NP) = true := by simpa using hbl
            have hb1 : belB h.z pd pu p = true := by rw [HBB.out, hd1]
            have hb2 : midB h.z pd pu p = false := by rw [HMB.out, hd1]; rfl
            have hsum := HBD.out.1
            rw [hb1, if_pos rfl] at hsum
            have HXN := Lib.hid (show X + p.n = sumB (belB h.z pd pu) (l.take (k + 1)) from by rw [HT.out, sumB_snoc, ← HXM.out.1, hb1, if_pos rfl])
            have HMN := Lib.hid (show M = sumB (midB h.z pd pu) (l.take (k + 1)) from by rw [HT.out, sumB_snoc, ← HXM.out.2, hb2]; simp)
            have HS7 := Lib.hid (HS6.out.setX HG.out HN.out (X + p.n))
            have hs1 := hsum.2
            rw [hd1]
            clear hbl hb1 hb2 hsum hd1
            go_wp2_with fail
            go_roundw
            case rel => exact ⟨k + 1, X + p.n, M, by omega, by go_num, Lib.hid ⟨HXN.out, HMN.out⟩, HS7⟩
            case measure => simp [intOf]; omega
          · have hd1 : decide (NH ≤ NP) = false := by simpa using hbl
            have hb1 : belB h.z pd pu p = false := by rw [HBB.out, hd1]
            have HXN := Lib.hid (show X = sumB (belB h.z pd pu) (l.take (k + 1)) from by rw [HT.out, sumB_snoc, ← HXM.out.1, hb1]; simp)
            rw [hd1]
            clear hbl
            go_wp2_with fail
            clear t0 t1 t2 g0 g1 g2 lt_ c0 c1_ c2 c3 lc
            obtain ⟨y0, y1, _, _⟩ := HL6.out.two
            obtain ⟨p0, p1, _, _⟩ := HS6.out.2.1.two
            have y0' := cell_regrown y0
            have y1' := cell_regrown y1
            have p0' := cell_regrown p0
            have p1' := cell_regrown p1
            refine wp_region_quiet_below (by kernel_rfl) (by kernel_rfl) ?_
            repeat (any_goals (first | go_big_quiet_step (first | (go_at_call 69; (with_reducible exact Calls.regrown_of (HNL.out _))) | (go_at_call 69; (with_reducible exact Calls.regrown_of (HNP.out _)))) | quiet_step (first | (go_at_call 69; (with_reducible exact Calls.regrown_of (HNL.out _))) | (go_at_call 69; (with_reducible exact Calls.regrown_of (HNP.out _))))))
            refine wpQuiet_nil ?_
            intro _ hw'
            obtain ⟨⟨dq, osq⟩, hw2⟩ := hw'
            subst hw2
            have HS7 := Lib.hid (HS6.out.below (below_regrown w6 dq osq))
            have HC7 := Lib.hid (HC6.out.below (below_regrown w6 dq osq))
            have HL7 := Lib.hid (HL6.out.below (below_regrown w6 dq osq))
            clear y0 y1 p0 p1 y0' y1' p0' p1' HS6 HC6 HL6
            generalize grow (redrawn w6 dq) osq = w7 at *
            obtain ⟨t0, t1, t2, g0, g1, g2⟩ := HS7.out.2.2.2.1.three
            have lt_ := HS7.out.2.2.2.1.lt
            obtain ⟨c0, c1_, c2, c3⟩ := HC7.out.four
            have lc := HC7.out.lt
            by_cases hml : NL < NP
            · have hd2 : decide (NL < NP) = true := by simpa using hml
              have hb2 : midB h.z pd pu p = true := by rw [HMB.out, hd1, hd2]; rfl
              have hsum := HBD.out.2
              rw [hb2, if_pos rfl] at hsum
              have HMN := Lib.hid (show M + p.n = sumB (midB h.z pd pu) (l.take (k + 1)) from by rw [HT.out, sumB_snoc, ← HXM.out.2, hb2, if_pos rfl])
              have HS8 := Lib.hid (HS7.out.setM HG.out HN.out (M + p.n))
              have hs1 := hsum.2
              rw [hd2]
              clear hml hb1 hb2 hsum hd1 hd2
              go_wp2_with fail
              go_roundw
              case rel => exact ⟨k + 1, X, M + p.n, by omega, by go_num, Lib.hid ⟨HXN.out, HMN.out⟩, HS8⟩
              case measure => simp [intOf]; omega
            · have hd2 : decide (NL < NP) = false := by simpa using hml
              have hb2 : midB h.z pd pu p = false := by rw [HMB.out, hd1, hd2]; rfl
              have HMN := Lib.hid (show M = sumB (midB h.z pd pu) (l.take (k + 1)) from by rw [HT.out, sumB_snoc, ← HXM.out.2, hb2]; simp)
              rw [hd2]
              clear hml hb1 hb2 hd1 hd2
              go_wp2_with fail
              go_roundw
              case rel => exact ⟨k + 1, X, M, by omega, by go_num, Lib.hid ⟨HXN.out, HMN.out⟩, HS7⟩
              case measure => simp [intOf]; omega
        · obtain rfl : k = l.length := by omega
          have hki : ¬ ((l.length : Int) < (l.length : Int)) := by omega
          have h1 := HXM.out
          rw [List.take_length] at h1
          have HXF := Lib.hid h1
          have HSF := Lib.hid HS.out
          obtain ⟨t0, t1, t2, g0, g1, g2⟩ := HS.out.2.2.2.1.three
          have lt_ := HS.out.2.2.2.1.lt
          obtain ⟨r0, r1, r2, f0, f1, f2⟩ := HS.out.2.2.1.three
          have lr := HS.out.2.2.1.lt
          clear h1 HXM
          go_wp2_with fail
          rw [HLQ.out, ← HXF.out.1, ← HXF.out.2]
          have n1 : ¬ gq = w.heap.size + 1 + 1 := by have := HG.out; omega
          exact bodyPost_ret (v := .tuple #[.agg #[.int .u64 X, .int .u64 M, .int .u64 h.ct], .int .i64 0]) (by simp [results, Try.results34, go_sem, r0, r1, r2]) rfl ⟨rfl, (((HSF.out.2.2.2.2.2.setCell (p := ⟨w.heap.size + 1 + 1, 0, none⟩) (by simp; omega) _).setCell (p := ⟨w.heap.size + 1 + 1, 1, none⟩) (by simp; omega) _).setCell (p := ⟨w.heap.size + 1 + 1, 2, none⟩) (by simp; omega) _)⟩
end Go.Proofs.Ytbibhjcmdehdbaa
