/- A file turned; Sync, Read. -/
import Derived.Test.YtamhgbkdljggbaaDkD
namespace Go.Proofs.Ytamhgbkdljggbaa.Dk
open Go.RowKit Go.Maps
set_option linter.unusedVariables false

theorem file_num {O : Nat → Prop} {w : World} {M : Nat} {fl : Fl} {g : Nat} (h : FileOk O w M fl (g + 1)) : ∃ A n c, O g ∧ fl.v = .slice A n c ∧ w.heap[g]? = some (.cells #[.slice A n c, .int .i64 (fl.k : Int)] 60 (0, 0)) ∧ w.ownsRow 0 5 1 (.slice A n c) n (Tk.cellsB fl.bs) ∧
    (∀ x ∈ fl.bs, x < 256) ∧ fl.k ≤ fl.bs.length ∧ fl.bs.length ≤ M ∧ ∀ r, fl.v.ownBlock = some r → O r := by
  obtain ⟨g', A, n, c, h1, h2⟩ := h
  obtain rfl : g = g' := by omega
  exact ⟨A, n, c, h2⟩
theorem row_lt {O : Nat → Prop} {w : World} {M : Nat} {fl : Fl} {g1 : Nat} (h : FileOk O w M fl g1) {r : Nat} (hr : fl.v.ownBlock = some r) : (∃ cur, w.heap[r]? = some (.cells cur 5)) ∧ r < w.heap.size := by
  obtain ⟨g, A, n, c, h1, h2, h3, h4, h5, _⟩ := h
  rw [h3] at hr
  obtain ⟨cur, hh⟩ := own_type h5 hr
  exact ⟨⟨cur, hh⟩, (Array.getElem?_eq_some_iff.1 hh).1⟩
theorem DK.refile {O : Nat → Prop} {w w' : World} {d M M' g : Nat} {S : PD} (h : DK O w d M S) (hv : Vd S (g + 1)) (fl' : Fl) (hs : w.heap.size ≤ w'.heap.size)
    (hk : ∀ k, k < w.heap.size → k ≠ g → (S.F (g + 1)).v.ownBlock ≠ some k → w'.heap[k]? = w.heap[k]?) (hf : FileOk (On O w w') w' M' fl' (g + 1)) (hrow : ∀ r, fl'.v.ownBlock = some r → (S.F (g + 1)).v.ownBlock = some r ∨ w.heap.size ≤ r) (hM : M ≤ M') :
    DK (On O w w') w' d M' { S with F := putF S.F (g + 1) fl' } := by
  have hold := h.file _ hv
  obtain ⟨A, n, c, f1, f2, f3, f4, f5, f6, f7, f8⟩ := file_num hold
  have hkeep : ∀ k, k < w.heap.size → (∀ cur fr, w.heap[k]? ≠ some (.cells cur 60 fr)) → (∀ cur, w.heap[k]? ≠ some (.cells cur 5)) → w'.heap[k]? = w.heap[k]? := by
    intro k hlt n1 n2
    refine hk k hlt (fun e => n1 _ _ (by rw [e]; exact f3)) (fun e => ?_)
    obtain ⟨⟨cur, hh⟩, _⟩ := row_lt hold e
    exact n2 cur hh
  have hbox : w'.heap[d]? = w.heap[d]? := hkeep d (h.bound d h.od) (fun cur fr e => by rw [h.box] at e; injection e with e; injection e with _ e; exact absurd e (by decide)) (fun cur e => by rw [h.box] at e; injection e with e; injection e with _ e; exact absurd e (by decide))
  have hmap : ∀ b es clock, w.heap[b]? = some (Obj.map es clock) → w'.heap[b]? = w.heap[b]? := fun b es clock hh => hkeep b (Array.getElem?_eq_some_iff.1 hh).1 (fun cur fr e => by rw [hh] at e; cases e) (fun cur e => by rw [hh] at e; cases e)
  have hvd : ∀ x, Vd { S with F := putF S.F (g + 1) fl' } x → Vd S x := fun x hx => hx
  refine ⟨hbox.trans h.box, .inl h.od, ?_, ?_, fun b hb => .inl (h.onow b hb), fun b hb => .inl (h.osure b hb), h.apart, fun x hx => ?_, fun x y hx hy hxy r => ?_, fun k hO => ?_⟩
  · refine (h.now.mono hM).keep fun b hb => ?_
    have hm := h.now
    rw [hb] at hm
    obtain ⟨es, clock, hh⟩ := hm.isMap
    exact hmap b es clock hh
  · refine (h.sure.mono hM).keep fun b hb => ?_
    have hm := h.sure
    rw [hb] at hm
    obtain ⟨es, clock, hh⟩ := hm.isMap
    exact hmap b es clock hh
  · show FileOk (On O w w') w' M' (putF S.F (g + 1) fl' x) x
    by_cases ex : x = g + 1
    · rw [ex, putF_same]; exact hf
    · rw [putF_other ex]
      have hx' := h.file x (hvd x hx)
      obtain ⟨g2, A2, n2, c2, e1, e2, e3, e4, e5, e6, e7, e8, e9⟩ := hx'
      have hfile : w'.heap[g2]? = w.heap[g2]? := hk g2 (h.bound g2 e2) (by omega) (fun e => by
        obtain ⟨⟨cur, hh⟩, _⟩ := row_lt hold e
        rw [e4] at hh
        injection hh with hh
        injection hh with _ hh
        exact absurd hh (by decide))
      refine ⟨g2, A2, n2, c2, e1, .inl e2, e3, hfile.trans e4, own_abide e5 (fun k hv2 => ?_), e6, e7, by omega, fun r hr => .inl (e9 r hr)⟩
      have hk2 : (S.F x).v.ownBlock = some k := by rw [e3]; exact hv2
      obtain ⟨⟨cur, hh⟩, hlt⟩ := row_lt (h.file x (hvd x hx)) hk2
      refine hk k hlt (fun e => ?_) (fun e => h.rows _ _ hv (hvd x hx) (fun e => ex e.symm) k e hk2)
      rw [e, f3] at hh
      injection hh with hh
      injection hh with _ hh
      exact absurd hh (by decide)
  · show (putF S.F (g + 1) fl' x).v.ownBlock = some r → (putF S.F (g + 1) fl' y).v.ownBlock ≠ some r
    have hxv := hvd x hx
    have hyv := hvd y hy
    by_cases ex : x = g + 1
    · have ey : y ≠ g + 1 := fun e => hxy (ex.trans e.symm)
      rw [ex, putF_same, putF_other ey]
      intro h1 h2
      rcases hrow r h1 with h3 | h3
      · exact h.rows _ _ hv hyv (fun e => ey e.symm) r h3 h2
      · have := (row_lt (h.file y hyv) h2).2; omega
    · rw [putF_other ex]
      by_cases ey : y = g + 1
      · rw [ey, putF_same]
        intro h1 h2
        rcases hrow r h2 with h3 | h3
        · exact h.rows _ _ hxv hv ex r h1 h3
        · have := (row_lt (h.file x hxv) h1).2; omega
      · rw [putF_other ey]
        exact h.rows x y hxv hyv hxy r
  · rcases hO with hO | hO
    · exact Nat.lt_of_lt_of_le (h.bound k hO) hs
    · exact hO.2

/-! Sync -/
noncomputable def syncC (S : PD) (s : Nm) : Int := if stepE S ≠ 0 then stepE S else if (stepS S).now s = 0 then 3 else 0
def flSync (fl : Fl) : Fl := ⟨fl.v, fl.bs, fl.bs.length⟩
noncomputable def syncS (S : PD) (s : Nm) : PD := if stepE S ≠ 0 then stepS S else if (stepS S).now s = 0 then stepS S else { stepS S with F := putF (stepS S).F ((stepS S).now s) (flSync ((stepS S).F ((stepS S).now s))) }
def OpP (O : Nat → Prop) (w : World) (d M : Nat) (S' : PD) (w' : World) : Prop := DK (On O w w') w' d M S' ∧ Fr O w w'
theorem OpP.of {O : Nat → Prop} {w w' : World} {d M M' : Nat} {S : PD} (h : DK O w' d M S) (hf : Fr O w w') (hM : M ≤ M') : OpP O w d M' S w' := ⟨h.mono (fun k hk => .inl hk) (fun k hk => by rcases hk with hk | ⟨_, hk⟩; exact h.bound k hk; exact hk) hM, hf⟩
theorem OpP.then {O : Nat → Prop} {w w1 w2 : World} {d M : Nat} {S : PD} (hf : Fr O w w1) (h : OpP O w1 d M S w2) : OpP O w d M S w2 :=
  ⟨h.1.mono (fun k hk => by rcases hk with hk | ⟨hk, hk'⟩; exact .inl hk; exact .inr ⟨Nat.le_trans hf.size hk, hk'⟩) (fun k hk => by rcases hk with hk | ⟨_, hk⟩; exact h.1.bound k (.inl hk); exact hk) (Nat.le_refl _), hf.trans h.2 (fun x hx => .inl hx)⟩
theorem sync_file {O : Nat → Prop} {w : World} {d M g : Nat} {S : PD} (h : DK O w d M S) (hv : Vd S (g + 1)) : OpP O w d M { S with F := putF S.F (g + 1) (flSync (S.F (g + 1))) } (w.setCell ⟨g, 1, none⟩ (.int .i64 ((S.F (g + 1)).bs.length : Int))) := by
  have hold := h.file _ hv
  obtain ⟨A, n, c, f1, f2, f3, f4, f5, f6, f7, f8⟩ := file_num hold
  refine ⟨h.refile hv _ (by simp) (fun k hlt hk _ => Below.heap_setCell _ _ _ _ hk) ?_ (fun r hr => .inl hr) (Nat.le_refl M), Fr.set _ _ _ f1⟩
  refine ⟨g, A, n, c, rfl, .inl f1, f2, ?_, own_abide f4 (fun k hk => Below.heap_setCell _ _ _ _ (fun e => ?_)), f5, Nat.le_refl _, f7, fun r hr => .inl (f8 r hr)⟩
  · have := heap_set_at (i := 1) f3 (.int .i64 ((S.F (g + 1)).bs.length : Int))
    rw [this]; rfl
  · obtain ⟨cur, hh⟩ := own_type f4 hk
    have e' : k = g := e
    rw [e', f3] at hh
    injection hh with hh
    injection hh with _ hh
    exact absurd hh (by decide)
set_option maxHeartbeats 1000000 in
theorem sync_any (O : Nat → Prop) (d M : Nat) (S : PD) (s : ByteArray) (w : World) (h : DK O w d M S) (hs : Ks s) (hf : I64 S.fuse) :
    Calls Try.prog 9 #[.pointer (some ⟨d, 0, none⟩), .string s] w fun e w' => e = .returned (.int .i64 (syncC S s.data.toList)) ∧ OpP O w d M (syncS S s.data.toList) w' := by
  have HS := Lib.hid (step_any O d M S w h hf)
  obtain ⟨C, hC⟩ : ∃ C, syncC S s.data.toList = C := ⟨_, rfl⟩
  obtain ⟨T, hT⟩ : ∃ T, syncS S s.data.toList = T := ⟨_, rfl⟩
  rw [hC, hT]
  have HC := Lib.hid hC
  have HT := Lib.hid hT
  have HK := Lib.hid hs
  unfold syncC at HC
  unfold syncS at HT
  obtain ⟨E, hE⟩ : ∃ E, stepE S = E := ⟨_, rfl⟩
  obtain ⟨S1, hS1⟩ : ∃ S1, stepS S = S1 := ⟨_, rfl⟩
  rw [hE, hS1] at HC HT HS
  clear h hs hf hC hT hE hS1
  go_enter Try.func9, Try.ntmps9
  go_wp2_with fail
  refine HS.out.mono ?_
  rintro e w1 ⟨rfl, h1, hf1⟩
  have H1 := Lib.hid h1
  have F1 := Lib.hid hf1
  by_cases hE : E = 0
  case neg =>
    have hb : (E != 0) = true := by simpa using hE
    have hc := HC.out
    have ht := HT.out
    rw [if_pos hE] at hc ht
    subst hc ht
    clear hE h1 hf1
    go_wp2_with fail
    go_ret
    exact ⟨rfl, OpP.of H1.out F1.out (Nat.le_refl _)⟩
  subst hE
  have hc := HC.out
  have ht := HT.out
  rw [if_neg (by simp)] at hc ht
  obtain ⟨⟨c0, c1, c2, c3, c4, c5⟩, _⟩ := h1.cells
  have hlk := h1.now.look HK.out
  obtain ⟨g, hg⟩ : ∃ g, S1.now s.data.toList = g := ⟨_, rfl⟩
  rw [hg] at hlk hc ht
  cases g with
  | zero =>
    rw [if_pos rfl] at hc ht
    subst hc ht
    simp only [ptrV] at hlk
    clear h1 hf1 hg
    go_wp2_with fail
    go_ret
    exact ⟨rfl, OpP.of H1.out F1.out (Nat.le_refl _)⟩
  | succ g =>
    rw [if_neg (by omega)] at hc ht
    subst hc
    have hv : Vd S1 (g + 1) := ⟨by omega, _, .inl hg⟩
    obtain ⟨A, n, c, f1, f2, f3, f4, f5, f6, f7, f8⟩ := file_num (h1.file _ hv)
    have HP := Lib.hid (sync_file h1 hv)
    have hn : (n : Int) = ((S1.F (g + 1)).bs.length : Int) := by have := f4.1; rw [Tk.cellsB_length] at this; omega
    obtain ⟨L, hL⟩ : ∃ L, (S1.F (g + 1)).bs.length = L := ⟨_, rfl⟩
    rw [hL] at HP hn
    have hnL : n = L := by omega
    rw [hnL] at f3
    have q0 : w1.cell? ⟨g, 0, none⟩ = some (.slice A L c) := by rw [cell_of_row _ _ _ _ _ _ f3]; rfl
    have q1 : w1.cell? ⟨g, 1, none⟩ = some (.int .i64 ((S1.F (g + 1)).k : Int)) := by rw [cell_of_row _ _ _ _ _ _ f3]; rfl
    have qf : w1.frozen? ⟨g, 1, none⟩ = false := by simp [World.frozen?, f3]
    have HTT := Lib.hid ht
    simp only [ptrV] at hlk
    clear h1 hf1 hg hv f2 f3 f4 f5 f6 f7 f8 hn hL hnL ht
    go_wp2_with fail
    go_ret
    exact ⟨rfl, by rw [← HTT.out]; exact OpP.then F1.out HP.out⟩

/-! Read -/
def readC (S : PD) (s : Nm) : Int := if S.down then 11 else if S.now s = 0 then 3 else 0
def ReadQ (w : World) (C : Int) (bs : List Nat) (e : Ending) (w' : World) : Prop := ∃ A n c, e = .returned (.tuple #[.slice A n c, .int .i64 C]) ∧ Below w.heap.size w w' ∧ (C = 0 → n = bs.length ∧ Tk.Sl w' A c bs)
def ReadP (w : World) (S : PD) (s : Nm) (e : Ending) (w' : World) : Prop := ReadQ w (readC S s) (S.F (S.now s)).bs e w'
set_option maxHeartbeats 1000000 in
theorem read_any (O : Nat → Prop) (d M : Nat) (S : PD) (s : ByteArray) (w : World) (h : DK O w d M S) (hs : Ks s) (hM : M ≤ 1000000) : Calls Try.prog 15 #[.pointer (some ⟨d, 0, none⟩), .string s] w (ReadP w S s.data.toList) := by
  have HP := Lib.hid (power_any O d M S w h)
  obtain ⟨⟨c0, c1, c2, c3, c4, c5⟩, _⟩ := h.cells
  have hlk := h.now.look hs
  show Calls Try.prog 15 #[.pointer (some ⟨d, 0, none⟩), .string s] w fun e w' => ReadQ w (readC S s.data.toList) (S.F (S.now s.data.toList)).bs e w'
  obtain ⟨C, hR⟩ : ∃ C, readC S s.data.toList = C := ⟨_, rfl⟩
  rw [hR]
  have HR := Lib.hid hR
  unfold readC at HR
  obtain ⟨g, hg⟩ : ∃ g, S.now s.data.toList = g := ⟨_, rfl⟩
  rw [hg] at hlk HR ⊢
  obtain ⟨bs, hbs⟩ : ∃ bs, (S.F g).bs = bs := ⟨_, rfl⟩
  rw [hbs]
  cases hd : S.down with
  | true =>
    rw [hd] at HP HR
    rw [if_pos rfl] at HP HR
    have hC := HR.out
    subst hC
    clear h hs hR hg hd hlk hbs HR
    go_enter Try.func15, Try.ntmps15
    go_wp2_with fail
    refine HP.out.mono ?_
    rintro e w' ⟨rfl, rfl⟩
    go_wp2_with fail
    go_ret2
    exact ⟨none, 0, 0, rfl, Below.refl _ _, fun h => by simp at h⟩
  | false =>
    rw [hd] at HP HR
    rw [if_neg (by simp)] at HP HR
    cases g with
    | zero =>
      rw [if_pos rfl] at HR
      have hC := HR.out
      subst hC
      simp only [ptrV] at hlk
      clear h hs hR hg hd hbs HR
      go_enter Try.func15, Try.ntmps15
      go_wp2_with fail
      refine HP.out.mono ?_
      rintro e w' ⟨rfl, rfl⟩
      go_wp2_with fail
      go_ret2
      exact ⟨none, 0, 0, rfl, Below.refl _ _, fun h => by simp at h⟩
    | succ g =>
      rw [if_neg (by omega)] at HR
      have hC := HR.out
      subst hC
      have hv : Vd S (g + 1) := ⟨by omega, _, .inl hg⟩
      obtain ⟨A, n, c, f1, f2, f3, f4, f5, f6, f7, f8⟩ := file_num (h.file _ hv)
      rw [hbs] at f4 f5 f6 f7
      obtain ⟨hn, A', c', e1, hSl⟩ := Tk.own_sl f4 f5 (by omega)
      injection e1 with e1 _ e2
      subst e1 e2
      have q0 : w.cell? ⟨g, 0, none⟩ = some (.slice A n c) := by rw [cell_of_row _ _ _ _ _ _ f3]; rfl
      have HCL := Lib.hid (Tk.clone_any A n c _ w hSl hn (by omega))
      have HN := Lib.hid hn
      simp only [ptrV] at hlk
      clear h hs hR hg hd hbs HR hv f1 f2 f3 f4 f5 f6 f7 f8 hn hSl
      go_enter Try.func15, Try.ntmps15
      go_wp2_with fail
      refine HP.out.mono ?_
      rintro e w' ⟨rfl, rfl⟩
      go_wp2_with fail
      refine HCL.out.mono ?_
      rintro e w' ⟨A2, c2, rfl, hs2, hb2⟩
      have HS2 := Lib.hid hs2
      have HB2 := Lib.hid hb2
      clear hs2 hb2
      go_wp2_with fail
      go_ret2
      exact ⟨A2, n, c2, rfl, HB2.out, fun _ => ⟨HN.out, HS2.out⟩⟩
end Go.Proofs.Ytamhgbkdljggbaa.Dk
