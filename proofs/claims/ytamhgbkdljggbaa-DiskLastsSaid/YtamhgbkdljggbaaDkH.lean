/- Append. -/
import Derived.Test.YtamhgbkdljggbaaDkG
namespace Go.Proofs.Ytamhgbkdljggbaa.Dk
open Go.RowKit Go.Maps
set_option linter.unusedVariables false

theorem cb {w w' : World} {p : Addr} {v : Value} (h : w.cell? p = some v) (k : Below w.heap.size w w') : w'.cell? p = some v := (k.cell (block_lt_of_cell h)).trans h
theorem view_zero {w : World} {b n : Nat} {D : DataW Unit} {f : Nm → Nat} (h : w.ownsMap Try.prog 9 ptrR b n D) (hv : View D f) (hz : ∀ s, f s = 0) : Maps.size D = 0 := by
  obtain ⟨es, clock, hb, F, hs, rfl⟩ := h
  simp only [Maps.size]
  cases hl : (es.toList.map (WideElems.rg Try.prog 9 ptrR)).foldr DataW.insert [] with
  | nil => rfl
  | cons p l =>
    exfalso
    have hp : p ∈ (es.toList.map (WideElems.rg Try.prog 9 ptrR)).foldr DataW.insert [] := by rw [hl]; exact List.mem_cons_self
    have hp' := (Go.WideShapes.sorted_perm _).mem_iff.1 hp
    obtain ⟨v, hk⟩ := fit_keys F p hp'
    obtain ⟨s, _, hs, _⟩ := WideMaps.string_of_keyOf keyS hk
    have h2 := (hv s.data.toList).2
    rw [hz, hl] at h2
    have : has (DataW.map (p :: l)) (.string s.data.toList) = true := by
      rw [has_eq, List.any_cons, hs, WideAt.sameKey_self (isKey _)]
      rfl
    rw [this] at h2
    simp at h2
theorem MapP.len_all {w : World} {mb : Option Nat} {f : Nm → Nat} {n : Nat} (h : MapP w mb f n) (ty : TypeId) : ∃ z : Nat, z ≤ n ∧ ((∀ s, f s = 0) → z = 0) ∧ ∀ w', Below w.heap.size w w' → (Builtin.len_ #[54] ty #[.map mb]).run Try.prog w' = .ok (.int .i64 (z : Int)) w' := by
  rcases h with ⟨rfl, h0⟩ | ⟨b, D, rfl, h2, h3⟩
  · exact ⟨0, Nat.zero_le _, fun _ => rfl, fun w' _ => Maps.len_nil Try.underlying54 ty⟩
  · exact ⟨_, h2.size_le, fun hz => view_zero h2 h3 hz, fun w' hb => (ownsMap_of_heap h2 (hb.block b h2.lt)).len Try.underlying54 ty⟩
def UsV (S : PD) (v : Value) : Prop := ∃ U : Int, v = .int .i64 U ∧ I64 U ∧ Tot S U
def SbV (S : PD) (room : Int) (v : Value) : Prop := ∃ Z U : Int, v = .int .i64 Z ∧ Tot S U ∧ (0 ≤ U → U ≤ 1000000 → Z = room - U)
/-- there is room for so many bytes: on a disk of no file, or of this one alone -/
def FitsA (S : PD) (s : Nm) (m : Nat) : Prop := ((∀ z, S.now z = 0) ∧ (m : Int) ≤ S.room) ∨ (S.now s ≠ 0 ∧ (∀ z, S.now z ≠ 0 → z = s) ∧ ((S.F (S.now s)).bs.length : Int) + m ≤ S.room)
def BlV (S : PD) (room : Int) (s : Nm) (m : Nat) (v : Value) : Prop := ∃ bb : Bool, v = .bool bb ∧ (S.room = room → FitsA S s m → bb = false)
/-- the bytes behind a file's -/
theorem app_fin {O : Nat → Prop} {w w1 : World} {d M M' g n m : Nat} {S : PD} (h : DK O w d M S) (hv : Vd S (g + 1)) {A' : Option Addr} {c' : Nat} {bs : List Nat} (hrow : w1.ownsRow 0 5 1 (.slice A' (n + m) c') (n + m) (Tk.cellsB ((S.F (g + 1)).bs ++ bs))) (hg : w.grownBy w1 (S.F (g + 1)).v.ownBlock)
    (hb : ∀ r, (Value.slice A' (n + m) c').ownBlock = some r → (S.F (g + 1)).v.ownBlock = some r ∨ (w.heap.size ≤ r ∧ r < w1.heap.size)) (h8 : ∀ x ∈ bs, x < 256) (hM : M + bs.length ≤ M') :
    OpP O w d M' { S with F := putF S.F (g + 1) ⟨.slice A' (n + m) c', (S.F (g + 1)).bs ++ bs, (S.F (g + 1)).k⟩ } (w1.setCell ⟨g, 0, none⟩ (.slice A' (n + m) c')) := by
  have hold := h.file _ hv
  obtain ⟨A, n0, c, f1, f2, f3, f4, f5, f6, f7, f8⟩ := file_num hold
  have hgne : (S.F (g + 1)).v.ownBlock ≠ some g := fun e => by
    obtain ⟨⟨cur, hh⟩, _⟩ := row_lt hold e
    rw [f3] at hh
    injection hh with hh
    injection hh with _ hh
    exact absurd hh (by decide)
  have hgl := h.bound g f1
  have hbox1 : w1.heap[g]? = some (.cells #[.slice A n0 c, .int .i64 ((S.F (g + 1)).k : Int)] 60 (0, 0)) := (hg.block g hgl (fun e => hgne e.symm)).trans f3
  have hFr : Fr O w w1 := Fr.grown hg f8
  refine ⟨h.refile hv _ (by simp; exact hg.size) (fun k hlt hk hkr => by rw [Below.heap_setCell _ _ _ _ hk]; exact hg.block k hlt (fun e => hkr e.symm)) ?_ (fun r hr => ?_) (by omega), hFr.trans (Fr.set (O := O) w1 _ _ f1) (fun x hx => .inl hx)⟩
  · refine ⟨g, A', n + m, c', rfl, .inl f1, rfl, ?_, own_abide hrow (fun k hk => Below.heap_setCell _ _ _ _ (fun e => ?_)), ?_, ?_, ?_, fun r hr => ?_⟩
    · have := heap_set_at (i := 0) hbox1 (.slice A' (n + m) c')
      rw [this]; rfl
    · obtain ⟨cur, hh⟩ := own_type hrow hk
      have e' : k = g := e
      rw [e', hbox1] at hh
      injection hh with hh
      injection hh with _ hh
      exact absurd hh (by decide)
    · intro x hx
      rcases List.mem_append.1 hx with hx | hx
      · exact f5 x hx
      · exact h8 x hx
    · show (S.F (g + 1)).k ≤ ((S.F (g + 1)).bs ++ bs).length
      rw [List.length_append]; omega
    · show ((S.F (g + 1)).bs ++ bs).length ≤ M'
      rw [List.length_append]; omega
    · rcases hb r hr with h1 | ⟨h1, h2⟩
      · exact .inl (f8 r h1)
      · exact .inr ⟨h1, by simpa using h2⟩
  · rcases hb r hr with h1 | ⟨h1, _⟩
    · exact .inl h1
    · exact .inr h1
theorem OpP.since {O O1 : Nat → Prop} {w W w' : World} {d M : Nat} {S : PD} (hb : ∀ k, O k → k < w.heap.size) (hF : Fr O w W) (hO : ∀ k, O1 k → O k ∨ (w.heap.size ≤ k ∧ k < W.heap.size)) (h : OpP O1 W d M S w') : OpP O w d M S w' :=
  ⟨h.1.mono (fun k hk => by
      rcases hk with hk | ⟨hk, hk'⟩
      · rcases hO k hk with hk | ⟨hk, hk'⟩
        · exact .inl hk
        · exact .inr ⟨hk, Nat.lt_of_lt_of_le hk' h.2.size⟩
      · exact .inr ⟨Nat.le_trans hF.size hk, hk'⟩) (fun k hk => by
      rcases hk with hk | ⟨_, hk⟩
      · have := hb k hk; have := hF.size; have := h.2.size; omega
      · exact hk) (Nat.le_refl _), hF.trans h.2 (fun x hx => by rcases hO x hx with h | ⟨h, _⟩; exact .inl h; exact .inr h)⟩
theorem sl_fr {O : Nat → Prop} {w W : World} {B : Option Addr} {m c : Nat} {bs : List Nat} (h : Tk.Sl w B c bs) (hO : ∀ b off, B = some ⟨b, off, none⟩ → 0 < m → ¬ O b) (hm : m = bs.length) (hF : Fr O w W) : Tk.Sl W B c bs := by
  obtain ⟨h1, h2, h3, h4, h5, h6⟩ := h
  refine ⟨h1, h2, h3, h4, h5, ?_⟩
  by_cases h0 : bs.length = 0
  · exact .inl h0
  · rcases h6 with h6 | ⟨b, off, e, hc⟩
    · exact absurd h6 h0
    · refine .inr ⟨b, off, e, fun j x hj => ?_⟩
      have := hc j x hj
      have hlt := block_lt_of_cell this
      rw [World.cell?_of_block (hF.block b hlt (hO b off e (by omega)))]
      exact this
structure AppS (S1 : PD) (s : Nm) (bs : List Nat) (S' : PD) : Prop where
  ex : ∃ g fl', g ≠ 0 ∧ S'.now = putN S1.now s g ∧ S'.F = putF S1.F g fl' ∧ (S1.now s ≠ 0 → g = S1.now s ∧ fl'.bs = (S1.F g).bs ++ bs ∧ fl'.k = (S1.F g).k) ∧ (S1.now s = 0 → ¬ Vd S1 g ∧ fl'.bs = bs ∧ fl'.k = 0)
  sure : S'.sure = S1.sure
  room : S'.room = S1.room
  fuse : S'.fuse = S1.fuse
  steps : S'.steps = S1.steps
  down : S'.down = S1.down
def ApP (O : Nat → Prop) (w : World) (d M : Nat) (E : Int) (S1 : PD) (s : Nm) (bs : List Nat) (ok : Bool) (e : Ending) (w' : World) : Prop :=
  ∃ C S', e = .returned (.int .i64 C) ∧ OpP O w d M S' w' ∧ (C ≠ 0 → S' = S1) ∧ (C = 0 → E = 0 ∧ ok = true ∧ AppS S1 s bs S') ∧ (E ≠ 0 → C = E) ∧ (E = 0 → ok = true → FitsA S1 s bs.length → C = 0)
theorem putF_putF (F : Nat → Fl) (g : Nat) (x y : Fl) : putF (putF F g x) g y = putF F g y := by
  funext z
  unfold putF
  split <;> rfl
theorem putN_id (f : Nm → Nat) (s : Nm) : putN f s (f s) = f := by
  funext z
  unfold putN
  split
  · rename_i h; rw [h]
  · rfl
set_option maxHeartbeats 2000000 in
set_option maxRecDepth 100000 in
theorem append_any (O : Nat → Prop) (d M : Nat) (S : PD) (s : ByteArray) (B : Option Addr) (m c : Nat) (bs : List Nat) (w : World) (h : DK O w d M S) (hs : Ks s) (hf : I64 S.fuse) (hM : M ≤ 400000) (hB : Tk.Sl w B c bs) (hm : m = bs.length) (hBO : ∀ b off, B = some ⟨b, off, none⟩ → 0 < m → ¬ O b) (hml : bs.length ≤ 100000) (hr : 0 ≤ S.room ∧ S.room ≤ 1048576) :
    Calls Try.prog 8 #[.pointer (some ⟨d, 0, none⟩), .string s, .slice B m c] w (ApP O w d (M + bs.length + 2) (stepE S) (stepS S) s.data.toList bs (okName s)) := by
  have HS := Lib.hid (step_any O d M S w h hf)
  have HK := Lib.hid hs
  have HBD := Lib.hid h.bound
  have hr1 : 0 ≤ (stepS S).room ∧ (stepS S).room ≤ 1048576 := by unfold stepS; split <;> (try split) <;> exact hr
  have HBk := Lib.hid (fun (W : World) (hF : Fr O w W) => show Tk.Sl W B c bs from sl_fr hB (fun b off hb => hBO b off hb) hm hF)
  obtain ⟨E, hE⟩ : ∃ E, stepE S = E := ⟨_, rfl⟩
  obtain ⟨S1, hS1⟩ : ∃ S1, stepS S = S1 := ⟨_, rfl⟩
  rw [hE, hS1] at HS
  rw [hS1] at hr1
  rw [hE, hS1]
  obtain ⟨ok, hok⟩ : ∃ ok, okName s = ok := ⟨_, rfl⟩
  rw [hok]
  have HOK := Lib.hid hok
  have HR := Lib.hid hr1
  have HM := Lib.hid hm
  have HML := Lib.hid hml
  have hmi : (m : Int) ≤ 100000 := by omega
  clear h hs hf hE hS1 hok hr hr1 hB hBO hm hml
  go_enter Try.func8, Try.ntmps8
  go_wp2_with fail
  refine HS.out.mono ?_
  rintro e w1 ⟨rfl, h1, hf1⟩
  have H1 := Lib.hid h1
  have F1 := Lib.hid hf1
  by_cases hE : E = 0
  case neg =>
    have hb : (E != 0) = true := by simpa using hE
    have HE := Lib.hid hE
    clear hE h1 hf1
    go_wp2_with fail
    go_ret
    exact ⟨E, S1, rfl, OpP.of H1.out F1.out (by omega), fun _ => rfl, fun h0 => absurd h0 HE.out, fun _ => rfl, fun h0 => absurd h0 HE.out⟩
  subst hE
  have HNM := Lib.hid (name_any s w1 HK.out)
  rw [HOK.out] at HNM
  clear h1 hf1
  go_wp2_with fail
  refine HNM.out.mono ?_
  rintro e w2 ⟨rfl, hb2⟩
  have H2 := Lib.hid (H1.out.below hb2)
  have F2 := Lib.hid (F1.out.trans (Fr.of_below (O := O) hb2) (fun x hx => .inl hx))
  clear hb2
  cases ok with
  | false =>
    go_wp2_with fail
    go_ret
    exact ⟨1, S1, rfl, OpP.of H2.out F2.out (by omega), fun _ => rfl, fun h0 => absurd h0 (by decide), fun h0 => absurd rfl h0, fun _ h0 => by cases h0⟩
  | true =>
  have h2 := H2.out
  obtain ⟨⟨c0, c1, c2, c3, c4, c5⟩, _⟩ := h2.cells
  have hlk := h2.now.look HK.out
  obtain ⟨z, hzn, hz0, hz⟩ := h2.now.len_all 3
  have HUS := Lib.hid (fun (W : World) (hb : Below w2.heap.size w2 W) => used_any O d M S1 W (H2.out.below hb) (by omega))
  obtain ⟨g, hg⟩ : ∃ g, S1.now s.data.toList = g := ⟨_, rfl⟩
  have HG := Lib.hid hg
  rw [hg] at hlk
  obtain ⟨room, hroom⟩ : ∃ room, S1.room = room := ⟨_, rfl⟩
  rw [hroom] at c0
  obtain ⟨hro0, hro1⟩ := HR.out
  rw [hroom] at hro0 hro1
  have HRO := Lib.hid hroom
  have hw1 : IntKind.i64.wrap (room - 0) = room := by rw [Int.sub_zero]; exact IntWalk.i64_in _ ⟨by omega, by omega⟩
  have hw2 : wrap64 (room - 0) = room := by rw [← IntWalk.i64_left]; exact hw1
  have hzi : (z : Int) ≤ 400000 := by omega
  have HZ := Lib.hid hz
  have HLN := Lib.hid (show ∀ z, S1.now z ≠ 0 → (S1.F (S1.now z)).bs.length ≤ 400000 from fun z hz => by
    obtain ⟨_, _, _, _, _, _, _, _, _, _, _, h8, _⟩ := h2.file (S1.now z) ⟨hz, z, .inl rfl⟩
    omega)
  cases g with
  | succ g =>
    simp only [ptrV] at hlk
    have hv : Vd S1 (g + 1) := ⟨by omega, _, .inl hg⟩
    have HV := Lib.hid hv
    clear h2 hg hroom hv hz
    go_wp2_with fail
    refine Rg.wp_region_inv (R := fun sl v w => match sl with
        | 23 => v = .pointer (some ⟨g, 0, none⟩)
        | 24 => v = .bool false
        | 25 => v = .bool false
        | 26 => v = undef
        | 27 => v = undef
        | 28 => v = undef
        | 29 => v = undef
        | 30 => v = undef
        | 31 => v = undef
        | 32 => v = .bool false
        | 33 => v = .bool false
        | 34 => v = .slice B m c
        | 35 => v = .int .i64 (m : Int)
        | 36 => v = .pointer (some ⟨d, 0, none⟩)
        | 37 => v = .pointer (some ⟨d, 0, none⟩)
        | 38 => v = .pointer (some ⟨d, 0, none⟩)
        | 39 => v = .int .i64 room
        | 40 => v = .pointer (some ⟨d, 0, none⟩)
        | 41 => UsV S1 v
        | 42 => SbV S1 room v
        | 43 => BlV S1 room s.data.toList m v
        | 44 => BlV S1 room s.data.toList m v
        | _ => True) [23, 24, 25, 26, 27, 28, 29, 30, 31, 32, 33, 34, 35, 36, 37, 38, 39, 40, 41, 42, 43, 44] 62 [false, false, false, false, false, false, false, false, false, false, false, false, false, false, false, false, false, false, false, false, false, false, false, true, true, true, true, true, true, true, true, true, true, true, true, true, true, true, true, true, true, true, true, true, true, false, false, false, false, false, false, false, false, false, false, false, false, false, false, false, false, false] (by kernel_rfl) rfl (by kernel_rfl) (by kernel_rfl) (by kernel_rfl) (by kernel_rfl) (by kernel_rfl) ?mono ?good ?done
    case mono =>
      refine List.forall_mem_cons.2 ⟨fun _ _ _ _ _ h => h, ?_⟩
      refine List.forall_mem_cons.2 ⟨fun _ _ _ _ _ h => h, ?_⟩
      refine List.forall_mem_cons.2 ⟨fun _ _ _ _ _ h => h, ?_⟩
      refine List.forall_mem_cons.2 ⟨fun _ _ _ _ _ h => h, ?_⟩
      refine List.forall_mem_cons.2 ⟨fun _ _ _ _ _ h => h, ?_⟩
      refine List.forall_mem_cons.2 ⟨fun _ _ _ _ _ h => h, ?_⟩
      refine List.forall_mem_cons.2 ⟨fun _ _ _ _ _ h => h, ?_⟩
      refine List.forall_mem_cons.2 ⟨fun _ _ _ _ _ h => h, ?_⟩
      refine List.forall_mem_cons.2 ⟨fun _ _ _ _ _ h => h, ?_⟩
      refine List.forall_mem_cons.2 ⟨fun _ _ _ _ _ h => h, ?_⟩
      refine List.forall_mem_cons.2 ⟨fun _ _ _ _ _ h => h, ?_⟩
      refine List.forall_mem_cons.2 ⟨fun _ _ _ _ _ h => h, ?_⟩
      refine List.forall_mem_cons.2 ⟨fun _ _ _ _ _ h => h, ?_⟩
      refine List.forall_mem_cons.2 ⟨fun _ _ _ _ _ h => h, ?_⟩
      refine List.forall_mem_cons.2 ⟨fun _ _ _ _ _ h => h, ?_⟩
      refine List.forall_mem_cons.2 ⟨fun _ _ _ _ _ h => h, ?_⟩
      refine List.forall_mem_cons.2 ⟨fun _ _ _ _ _ h => h, ?_⟩
      refine List.forall_mem_cons.2 ⟨fun _ _ _ _ _ h => h, ?_⟩
      refine List.forall_mem_cons.2 ⟨fun _ _ _ _ hb h => h, ?_⟩
      refine List.forall_mem_cons.2 ⟨fun _ _ _ _ hb h => h, ?_⟩
      refine List.forall_mem_cons.2 ⟨fun _ _ _ _ hb h => h, ?_⟩
      refine List.forall_mem_cons.2 ⟨fun _ _ _ _ hb h => h, ?_⟩
      exact fun _ h => absurd h (by simp)
    case good =>
      refine Rg.good_cons ?_ ?_
      · intro ac w' cx hn
        have e8 := cx.at_ 8 (by kernel_rfl) rfl
        refine .inl ⟨(Rg.wanted_none rfl), fun K hK => ?_⟩
        go_simp
        exact hK _ _ (Below.refl _ _) (fun t ht => by injection ht with ht; subst ht; exact rfl)
      refine Rg.good_cons ?_ ?_
      · intro ac w' cx hn
        obtain ⟨v23, e23, r23⟩ := hn 23 (Rg.mem_of (by kernel_rfl))
        obtain rfl : v23 = .pointer (some ⟨g, 0, none⟩) := r23
        refine .inl ⟨(Rg.wanted_none rfl), fun K hK => ?_⟩
        go_simp
        exact hK _ _ (Below.refl _ _) (fun t ht => by injection ht with ht; subst ht; exact rfl)
      refine Rg.good_cons ?_ ?_
      · intro ac w' cx hn
        obtain ⟨v24, e24, r24⟩ := hn 24 (Rg.mem_of (by kernel_rfl))
        obtain rfl : v24 = .bool false := r24
        refine .inl ⟨(Rg.wanted_none rfl), fun K hK => ?_⟩
        go_simp
        exact hK _ _ (Below.refl _ _) (fun t ht => by injection ht with ht; subst ht; exact rfl)
      refine Rg.good_cons ?_ ?_
      · intro ac w' cx hn
        have e0 := cx.at_ 0 (by kernel_rfl) rfl
        obtain ⟨v25, e25, r25⟩ := hn 25 (Rg.mem_of (by kernel_rfl))
        obtain rfl : v25 = .bool false := r25
        exact .inr ⟨((Rg.wanted_some (t := 25) rfl (by kernel_rfl) e25).trans rfl), fun t ht => by injection ht with ht; subst ht; exact rfl⟩
      refine Rg.good_cons ?_ ?_
      · intro ac w' cx hn
        obtain ⟨v26, e26, r26⟩ := hn 26 (Rg.mem_of (by kernel_rfl))
        obtain rfl : v26 = undef := r26
        obtain ⟨v25, e25, r25⟩ := hn 25 (Rg.mem_of (by kernel_rfl))
        obtain rfl : v25 = .bool false := r25
        exact .inr ⟨((Rg.wanted_some (t := 25) rfl (by kernel_rfl) e25).trans rfl), fun t ht => by injection ht with ht; subst ht; exact rfl⟩
      refine Rg.good_cons ?_ ?_
      · intro ac w' cx hn
        obtain ⟨v27, e27, r27⟩ := hn 27 (Rg.mem_of (by kernel_rfl))
        obtain rfl : v27 = undef := r27
        obtain ⟨v25, e25, r25⟩ := hn 25 (Rg.mem_of (by kernel_rfl))
        obtain rfl : v25 = .bool false := r25
        exact .inr ⟨((Rg.wanted_some (t := 25) rfl (by kernel_rfl) e25).trans rfl), fun t ht => by injection ht with ht; subst ht; exact rfl⟩
      refine Rg.good_cons ?_ ?_
      · intro ac w' cx hn
        obtain ⟨v28, e28, r28⟩ := hn 28 (Rg.mem_of (by kernel_rfl))
        obtain rfl : v28 = undef := r28
        have hx := cb c1 cx.bel
        obtain ⟨v25, e25, r25⟩ := hn 25 (Rg.mem_of (by kernel_rfl))
        obtain rfl : v25 = .bool false := r25
        exact .inr ⟨((Rg.wanted_some (t := 25) rfl (by kernel_rfl) e25).trans rfl), fun t ht => by injection ht with ht; subst ht; exact rfl⟩
      refine Rg.good_cons ?_ ?_
      · intro ac w' cx hn
        obtain ⟨v29, e29, r29⟩ := hn 29 (Rg.mem_of (by kernel_rfl))
        obtain rfl : v29 = undef := r29
        obtain ⟨v25, e25, r25⟩ := hn 25 (Rg.mem_of (by kernel_rfl))
        obtain rfl : v25 = .bool false := r25
        exact .inr ⟨((Rg.wanted_some (t := 25) rfl (by kernel_rfl) e25).trans rfl), fun t ht => by injection ht with ht; subst ht; exact rfl⟩
      refine Rg.good_cons ?_ ?_
      · intro ac w' cx hn
        obtain ⟨v30, e30, r30⟩ := hn 30 (Rg.mem_of (by kernel_rfl))
        obtain rfl : v30 = undef := r30
        obtain ⟨v25, e25, r25⟩ := hn 25 (Rg.mem_of (by kernel_rfl))
        obtain rfl : v25 = .bool false := r25
        exact .inr ⟨((Rg.wanted_some (t := 25) rfl (by kernel_rfl) e25).trans rfl), fun t ht => by injection ht with ht; subst ht; exact rfl⟩
      refine Rg.good_cons ?_ ?_
      · intro ac w' cx hn
        obtain ⟨v25, e25, r25⟩ := hn 25 (Rg.mem_of (by kernel_rfl))
        obtain rfl : v25 = .bool false := r25
        obtain ⟨v31, e31, r31⟩ := hn 31 (Rg.mem_of (by kernel_rfl))
        obtain rfl : v31 = undef := r31
        refine .inl ⟨(Rg.wanted_none rfl), fun K hK => ?_⟩
        go_simp
        exact hK _ _ (Below.refl _ _) (fun t ht => by injection ht with ht; subst ht; exact rfl)
      refine Rg.good_cons ?_ ?_
      · intro ac w' cx hn
        obtain ⟨v32, e32, r32⟩ := hn 32 (Rg.mem_of (by kernel_rfl))
        obtain rfl : v32 = .bool false := r32
        refine .inl ⟨(Rg.wanted_none rfl), fun K hK => ?_⟩
        go_simp
        exact hK _ _ (Below.refl _ _) (fun t ht => by injection ht with ht; subst ht; exact rfl)
      refine Rg.good_cons ?_ ?_
      · intro ac w' cx hn
        have e2 := cx.at_ 2 (by kernel_rfl) rfl
        obtain ⟨v33, e33, r33⟩ := hn 33 (Rg.mem_of (by kernel_rfl))
        obtain rfl : v33 = .bool false := r33
        refine .inl ⟨((Rg.wanted_some (t := 33) rfl (by kernel_rfl) e33).trans rfl), fun K hK => ?_⟩
        go_simp
        exact hK _ _ (Below.refl _ _) (fun t ht => by injection ht with ht; subst ht; exact rfl)
      refine Rg.good_cons ?_ ?_
      · intro ac w' cx hn
        obtain ⟨v34, e34, r34⟩ := hn 34 (Rg.mem_of (by kernel_rfl))
        obtain rfl : v34 = .slice B m c := r34
        obtain ⟨v33, e33, r33⟩ := hn 33 (Rg.mem_of (by kernel_rfl))
        obtain rfl : v33 = .bool false := r33
        refine .inl ⟨((Rg.wanted_some (t := 33) rfl (by kernel_rfl) e33).trans rfl), fun K hK => ?_⟩
        go_simp
        exact hK _ _ (Below.refl _ _) (fun t ht => by injection ht with ht; subst ht; exact rfl)
      refine Rg.good_cons ?_ ?_
      · intro ac w' cx hn
        have e0 := cx.at_ 0 (by kernel_rfl) rfl
        obtain ⟨v33, e33, r33⟩ := hn 33 (Rg.mem_of (by kernel_rfl))
        obtain rfl : v33 = .bool false := r33
        refine .inl ⟨((Rg.wanted_some (t := 33) rfl (by kernel_rfl) e33).trans rfl), fun K hK => ?_⟩
        go_simp
        exact hK _ _ (Below.refl _ _) (fun t ht => by injection ht with ht; subst ht; exact rfl)
      refine Rg.good_cons ?_ ?_
      · intro ac w' cx hn
        obtain ⟨v36, e36, r36⟩ := hn 36 (Rg.mem_of (by kernel_rfl))
        obtain rfl : v36 = .pointer (some ⟨d, 0, none⟩) := r36
        obtain ⟨v33, e33, r33⟩ := hn 33 (Rg.mem_of (by kernel_rfl))
        obtain rfl : v33 = .bool false := r33
        refine .inl ⟨((Rg.wanted_some (t := 33) rfl (by kernel_rfl) e33).trans rfl), fun K hK => ?_⟩
        go_simp
        exact hK _ _ (Below.refl _ _) (fun t ht => by injection ht with ht; subst ht; exact rfl)
      refine Rg.good_cons ?_ ?_
      · intro ac w' cx hn
        obtain ⟨v37, e37, r37⟩ := hn 37 (Rg.mem_of (by kernel_rfl))
        obtain rfl : v37 = .pointer (some ⟨d, 0, none⟩) := r37
        obtain ⟨v33, e33, r33⟩ := hn 33 (Rg.mem_of (by kernel_rfl))
        obtain rfl : v33 = .bool false := r33
        refine .inl ⟨((Rg.wanted_some (t := 33) rfl (by kernel_rfl) e33).trans rfl), fun K hK => ?_⟩
        go_simp
        exact hK _ _ (Below.refl _ _) (fun t ht => by injection ht with ht; subst ht; exact rfl)
      refine Rg.good_cons ?_ ?_
      · intro ac w' cx hn
        obtain ⟨v38, e38, r38⟩ := hn 38 (Rg.mem_of (by kernel_rfl))
        obtain rfl : v38 = .pointer (some ⟨d, 0, none⟩) := r38
        have hx := cb c0 cx.bel
        obtain ⟨v33, e33, r33⟩ := hn 33 (Rg.mem_of (by kernel_rfl))
        obtain rfl : v33 = .bool false := r33
        refine .inl ⟨((Rg.wanted_some (t := 33) rfl (by kernel_rfl) e33).trans rfl), fun K hK => ?_⟩
        go_simp
        exact hK _ _ (Below.refl _ _) (fun t ht => by injection ht with ht; subst ht; exact rfl)
      refine Rg.good_cons ?_ ?_
      · intro ac w' cx hn
        have e0 := cx.at_ 0 (by kernel_rfl) rfl
        obtain ⟨v33, e33, r33⟩ := hn 33 (Rg.mem_of (by kernel_rfl))
        obtain rfl : v33 = .bool false := r33
        refine .inl ⟨((Rg.wanted_some (t := 33) rfl (by kernel_rfl) e33).trans rfl), fun K hK => ?_⟩
        go_simp
        exact hK _ _ (Below.refl _ _) (fun t ht => by injection ht with ht; subst ht; exact rfl)
      refine Rg.good_cons ?_ ?_
      · intro ac w' cx hn
        obtain ⟨v40, e40, r40⟩ := hn 40 (Rg.mem_of (by kernel_rfl))
        obtain rfl : v40 = .pointer (some ⟨d, 0, none⟩) := r40
        obtain ⟨v33, e33, r33⟩ := hn 33 (Rg.mem_of (by kernel_rfl))
        obtain rfl : v33 = .bool false := r33
        refine .inl ⟨((Rg.wanted_some (t := 33) rfl (by kernel_rfl) e33).trans rfl), fun K hK => ?_⟩
        go_simp
        refine (HUS.out _ cx.bel).mono ?_
        rintro y w5 ⟨U, rfl, hU, hU0, hb5⟩
        exact hK _ _ hb5 (fun t ht => by injection ht with ht; subst ht; exact ⟨U, rfl, hU, hU0⟩)
      refine Rg.good_cons ?_ ?_
      · intro ac w' cx hn
        obtain ⟨v39, e39, r39⟩ := hn 39 (Rg.mem_of (by kernel_rfl))
        obtain rfl : v39 = .int .i64 room := r39
        obtain ⟨v41, e41, r41⟩ := hn 41 (Rg.mem_of (by kernel_rfl))
        replace r41 : UsV S1 v41 := r41
        obtain ⟨v33, e33, r33⟩ := hn 33 (Rg.mem_of (by kernel_rfl))
        obtain rfl : v33 = .bool false := r33
        refine .inl ⟨((Rg.wanted_some (t := 33) rfl (by kernel_rfl) e33).trans rfl), fun K hK => ?_⟩
        obtain ⟨U, rfl, hU, hT⟩ := r41
        go_simp
        exact hK _ _ (Below.refl _ _) (fun t ht => by injection ht with ht; subst ht; exact ⟨_, U, rfl, hT, fun h0 h1 => by first | omega | (rw [← IntWalk.i64_left, IntWalk.i64_in _ ⟨by omega, by omega⟩]) | (rw [IntWalk.i64_in _ ⟨by omega, by omega⟩])⟩)
      refine Rg.good_cons ?_ ?_
      · intro ac w' cx hn
        obtain ⟨v35, e35, r35⟩ := hn 35 (Rg.mem_of (by kernel_rfl))
        obtain rfl : v35 = .int .i64 (m : Int) := r35
        obtain ⟨v42, e42, r42⟩ := hn 42 (Rg.mem_of (by kernel_rfl))
        replace r42 : SbV S1 room v42 := r42
        obtain ⟨v33, e33, r33⟩ := hn 33 (Rg.mem_of (by kernel_rfl))
        obtain rfl : v33 = .bool false := r33
        refine .inl ⟨((Rg.wanted_some (t := 33) rfl (by kernel_rfl) e33).trans rfl), fun K hK => ?_⟩
        obtain ⟨Z, U, rfl, hT, hZ⟩ := r42
        go_simp
        exact hK _ _ (Below.refl _ _) (fun t ht => by injection ht with ht; subst ht; exact ⟨_, rfl, fun hr hF => by
          rcases hF with ⟨h0, h1⟩ | ⟨h0, h1, h2⟩
          · have h3 := hT.1 h0
            have h4 := hZ (by omega) (by omega)
            simp; omega
          · have h3 := hT.2 _ h0 h1
            have h5 := HLN.out _ h0
            have h4 := hZ (by omega) (by omega)
            simp; omega⟩)
      refine Rg.good_cons ?_ ?_
      · intro ac w' cx hn
        obtain ⟨v33, e33, r33⟩ := hn 33 (Rg.mem_of (by kernel_rfl))
        obtain rfl : v33 = .bool false := r33
        obtain ⟨v43, e43, r43⟩ := hn 43 (Rg.mem_of (by kernel_rfl))
        replace r43 : BlV S1 room s.data.toList m v43 := r43
        refine .inl ⟨(Rg.wanted_none rfl), fun K hK => ?_⟩
        obtain ⟨bb, rfl, hbb⟩ := r43
        go_simp
        exact hK _ _ (Below.refl _ _) (fun t ht => by injection ht with ht; subst ht; exact ⟨bb, rfl, hbb⟩)
      exact Rg.good_nil
    case done =>
      intro u w3 hb3 hr
      obtain ⟨bb, hbv, hbb⟩ : BlV S1 room s.data.toList m (u 44) := hr 44 (by simp)
      simp only [Rg.fillL_cons, Rg.fillL_nil, if_true, if_false, Bool.false_eq_true, hbv]
      have h3 := H2.out.below hb3
      have F3 := Lib.hid (F2.out.trans (Fr.of_below (O := O) hb3) (fun x hx => .inl hx))
      have H3 := Lib.hid h3
      have HBB := Lib.hid hbb
      clear hr hb3 hbv hbb h3
      cases bb with
      | true =>
        go_wp2_with fail
        go_ret
        exact ⟨10, S1, rfl, OpP.of H3.out F3.out (by omega), fun _ => rfl, fun h0 => absurd h0 (by decide), fun h0 => absurd rfl h0, fun _ _ hF => by
          have := HBB.out HRO.out (by rw [HM.out]; exact hF)
          cases this⟩
      | false =>
        obtain ⟨A, n0, c', f1, f2, f3, f4, f5, f6, f7, f8⟩ := file_num (H3.out.file _ HV.out)
        have q0 : w3.cell? ⟨g, 0, none⟩ = some (.slice A n0 c') := by rw [cell_of_row _ _ _ _ _ _ f3]; rfl
        have HRW := Lib.hid f4
        have HSL := Lib.hid (HBk.out w3 F3.out)
        have HF2 := Lib.hid f2
        have HF3 := Lib.hid f3
        have hn0 : n0 = (S1.F (g + 1)).bs.length := by have := f4.1; rw [Tk.cellsB_length] at this; omega
        have hl9 : n0 + m ≤ 1000000 := by have := HM.out; have := HML.out; omega
        have HOB := Lib.hid (show (Value.slice A n0 c').ownBlock ≠ some g from fun e => by
          obtain ⟨cur, hh⟩ := own_type f4 e
          rw [f3] at hh
          injection hh with hh
          injection hh with _ hh
          exact absurd hh (by decide))
        have hgl := H3.out.bound g f1
        clear f1 f2 f3 f4 f5 f6 f7 f8 hn0
        go_wp2_with (at_builtin; refine app_bytes rfl _ _ rfl (.slice A n0 c') n0 _ rfl HRW.out B m c bs rfl HM.out HSL.out hl9 ?_; intro A' c2 w4 ho4 hg4 hb4; have hbx := (hg4.block g hgl (fun e => HOB.out e.symm)).trans HF3.out; have q4 : w4.cell? ⟨g, 0, none⟩ = some (.slice A n0 c') := (by rw [cell_of_row _ _ _ _ _ _ hbx]; rfl); have qf : w4.frozen? ⟨g, 0, none⟩ = false := (by simp [World.frozen?, hbx]); have HP := Lib.hid (app_fin (M' := M + bs.length + 2) H3.out HV.out ho4 (by rw [HF2.out]; exact hg4) (by rw [HF2.out]; exact hb4) HSL.out.b8 (by omega)); clear ho4 hg4 hb4 hbx)
        go_ret
        exact ⟨0, _, rfl, OpP.then F3.out HP.out, fun h0 => absurd rfl h0, fun _ => ⟨rfl, rfl, ⟨g + 1, _, by omega, by rw [← HG.out, putN_id], rfl, fun _ => ⟨HG.out.symm, rfl, rfl⟩, fun h0 => by rw [HG.out] at h0; cases h0⟩, rfl, rfl, rfl, rfl, rfl⟩, fun h0 => absurd rfl h0, fun _ _ _ => rfl⟩
  | zero =>
    simp only [ptrV] at hlk
    clear h2 hg hroom hz
    by_cases h256 : 256 ≤ z
    · have hd : decide ((256 : Int) ≤ (z : Int)) = true := by simp; omega
      have hnz : ¬ ∀ s, S1.now s = 0 := fun h0 => by
        have := hz0 h0
        omega
      go_wp2_with fail
      refine Rg.wp_region_inv (R := fun sl v w => match sl with
          | 23 => v = .pointer none
          | 24 => v = .bool true
          | 25 => v = .bool true
          | 26 => v = .pointer (some ⟨d, 0, none⟩)
          | 27 => v = .pointer (some ⟨d, 0, none⟩)
          | 28 => v = .pointer (some ⟨d, 1, none⟩)
          | 29 => v = .map S1.nb
          | 30 => v = .int .i64 (z : Int)
          | 31 => v = .bool true
          | 32 => v = .bool true
          | 33 => v = .bool true
          | 34 => v = undef
          | 35 => v = undef
          | 36 => v = undef
          | 37 => v = undef
          | 38 => v = undef
          | 39 => v = undef
          | 40 => v = undef
          | 41 => v = undef
          | 42 => v = undef
          | 43 => v = undef
          | 44 => v = .bool true
          | _ => True) [23, 24, 25, 26, 27, 28, 29, 30, 31, 32, 33, 34, 35, 36, 37, 38, 39, 40, 41, 42, 43, 44] 62 [false, false, false, false, false, false, false, false, false, false, false, false, false, false, false, false, false, false, false, false, false, false, false, true, true, true, true, true, true, true, true, true, true, true, true, true, true, true, true, true, true, true, true, true, true, false, false, false, false, false, false, false, false, false, false, false, false, false, false, false, false, false] (by kernel_rfl) rfl (by kernel_rfl) (by kernel_rfl) (by kernel_rfl) (by kernel_rfl) (by kernel_rfl) ?mono ?good ?done
      case mono =>
        refine List.forall_mem_cons.2 ⟨fun _ _ _ _ _ h => h, ?_⟩
        refine List.forall_mem_cons.2 ⟨fun _ _ _ _ _ h => h, ?_⟩
        refine List.forall_mem_cons.2 ⟨fun _ _ _ _ _ h => h, ?_⟩
        refine List.forall_mem_cons.2 ⟨fun _ _ _ _ _ h => h, ?_⟩
        refine List.forall_mem_cons.2 ⟨fun _ _ _ _ _ h => h, ?_⟩
        refine List.forall_mem_cons.2 ⟨fun _ _ _ _ _ h => h, ?_⟩
        refine List.forall_mem_cons.2 ⟨fun _ _ _ _ _ h => h, ?_⟩
        refine List.forall_mem_cons.2 ⟨fun _ _ _ _ _ h => h, ?_⟩
        refine List.forall_mem_cons.2 ⟨fun _ _ _ _ _ h => h, ?_⟩
        refine List.forall_mem_cons.2 ⟨fun _ _ _ _ _ h => h, ?_⟩
        refine List.forall_mem_cons.2 ⟨fun _ _ _ _ _ h => h, ?_⟩
        refine List.forall_mem_cons.2 ⟨fun _ _ _ _ _ h => h, ?_⟩
        refine List.forall_mem_cons.2 ⟨fun _ _ _ _ _ h => h, ?_⟩
        refine List.forall_mem_cons.2 ⟨fun _ _ _ _ _ h => h, ?_⟩
        refine List.forall_mem_cons.2 ⟨fun _ _ _ _ _ h => h, ?_⟩
        refine List.forall_mem_cons.2 ⟨fun _ _ _ _ _ h => h, ?_⟩
        refine List.forall_mem_cons.2 ⟨fun _ _ _ _ _ h => h, ?_⟩
        refine List.forall_mem_cons.2 ⟨fun _ _ _ _ _ h => h, ?_⟩
        refine List.forall_mem_cons.2 ⟨fun _ _ _ _ _ h => h, ?_⟩
        refine List.forall_mem_cons.2 ⟨fun _ _ _ _ _ h => h, ?_⟩
        refine List.forall_mem_cons.2 ⟨fun _ _ _ _ _ h => h, ?_⟩
        refine List.forall_mem_cons.2 ⟨fun _ _ _ _ _ h => h, ?_⟩
        exact fun _ h => absurd h (by simp)
      case good =>
        refine Rg.good_cons ?_ ?_
        · intro ac w' cx hn
          have e8 := cx.at_ 8 (by kernel_rfl) rfl
          refine .inl ⟨(Rg.wanted_none rfl), fun K hK => ?_⟩
          go_simp
          exact hK _ _ (Below.refl _ _) (fun t ht => by injection ht with ht; subst ht; exact rfl)
        refine Rg.good_cons ?_ ?_
        · intro ac w' cx hn
          obtain ⟨v23, e23, r23⟩ := hn 23 (Rg.mem_of (by kernel_rfl))
          obtain rfl : v23 = .pointer none := r23
          refine .inl ⟨(Rg.wanted_none rfl), fun K hK => ?_⟩
          go_simp
          exact hK _ _ (Below.refl _ _) (fun t ht => by injection ht with ht; subst ht; exact rfl)
        refine Rg.good_cons ?_ ?_
        · intro ac w' cx hn
          obtain ⟨v24, e24, r24⟩ := hn 24 (Rg.mem_of (by kernel_rfl))
          obtain rfl : v24 = .bool true := r24
          refine .inl ⟨(Rg.wanted_none rfl), fun K hK => ?_⟩
          go_simp
          exact hK _ _ (Below.refl _ _) (fun t ht => by injection ht with ht; subst ht; exact rfl)
        refine Rg.good_cons ?_ ?_
        · intro ac w' cx hn
          have e0 := cx.at_ 0 (by kernel_rfl) rfl
          obtain ⟨v25, e25, r25⟩ := hn 25 (Rg.mem_of (by kernel_rfl))
          obtain rfl : v25 = .bool true := r25
          refine .inl ⟨((Rg.wanted_some (t := 25) rfl (by kernel_rfl) e25).trans rfl), fun K hK => ?_⟩
          go_simp
          exact hK _ _ (Below.refl _ _) (fun t ht => by injection ht with ht; subst ht; exact rfl)
        refine Rg.good_cons ?_ ?_
        · intro ac w' cx hn
          obtain ⟨v26, e26, r26⟩ := hn 26 (Rg.mem_of (by kernel_rfl))
          obtain rfl : v26 = .pointer (some ⟨d, 0, none⟩) := r26
          obtain ⟨v25, e25, r25⟩ := hn 25 (Rg.mem_of (by kernel_rfl))
          obtain rfl : v25 = .bool true := r25
          refine .inl ⟨((Rg.wanted_some (t := 25) rfl (by kernel_rfl) e25).trans rfl), fun K hK => ?_⟩
          go_simp
          exact hK _ _ (Below.refl _ _) (fun t ht => by injection ht with ht; subst ht; exact rfl)
        refine Rg.good_cons ?_ ?_
        · intro ac w' cx hn
          obtain ⟨v27, e27, r27⟩ := hn 27 (Rg.mem_of (by kernel_rfl))
          obtain rfl : v27 = .pointer (some ⟨d, 0, none⟩) := r27
          obtain ⟨v25, e25, r25⟩ := hn 25 (Rg.mem_of (by kernel_rfl))
          obtain rfl : v25 = .bool true := r25
          refine .inl ⟨((Rg.wanted_some (t := 25) rfl (by kernel_rfl) e25).trans rfl), fun K hK => ?_⟩
          go_simp
          exact hK _ _ (Below.refl _ _) (fun t ht => by injection ht with ht; subst ht; exact rfl)
        refine Rg.good_cons ?_ ?_
        · intro ac w' cx hn
          obtain ⟨v28, e28, r28⟩ := hn 28 (Rg.mem_of (by kernel_rfl))
          obtain rfl : v28 = .pointer (some ⟨d, 1, none⟩) := r28
          have hx := cb c1 cx.bel
          obtain ⟨v25, e25, r25⟩ := hn 25 (Rg.mem_of (by kernel_rfl))
          obtain rfl : v25 = .bool true := r25
          refine .inl ⟨((Rg.wanted_some (t := 25) rfl (by kernel_rfl) e25).trans rfl), fun K hK => ?_⟩
          go_simp
          exact hK _ _ (Below.refl _ _) (fun t ht => by injection ht with ht; subst ht; exact rfl)
        refine Rg.good_cons ?_ ?_
        · intro ac w' cx hn
          obtain ⟨v29, e29, r29⟩ := hn 29 (Rg.mem_of (by kernel_rfl))
          obtain rfl : v29 = .map S1.nb := r29
          obtain ⟨v25, e25, r25⟩ := hn 25 (Rg.mem_of (by kernel_rfl))
          obtain rfl : v25 = .bool true := r25
          refine .inl ⟨((Rg.wanted_some (t := 25) rfl (by kernel_rfl) e25).trans rfl), fun K hK => ?_⟩
          have hlen := HZ.out _ cx.bel
          go_simp
          exact hK _ _ (Below.refl _ _) (fun t ht => by injection ht with ht; subst ht; exact rfl)
        refine Rg.good_cons ?_ ?_
        · intro ac w' cx hn
          obtain ⟨v30, e30, r30⟩ := hn 30 (Rg.mem_of (by kernel_rfl))
          obtain rfl : v30 = .int .i64 (z : Int) := r30
          obtain ⟨v25, e25, r25⟩ := hn 25 (Rg.mem_of (by kernel_rfl))
          obtain rfl : v25 = .bool true := r25
          refine .inl ⟨((Rg.wanted_some (t := 25) rfl (by kernel_rfl) e25).trans rfl), fun K hK => ?_⟩
          go_simp
          exact hK _ _ (Below.refl _ _) (fun t ht => by injection ht with ht; subst ht; exact rfl)
        refine Rg.good_cons ?_ ?_
        · intro ac w' cx hn
          obtain ⟨v25, e25, r25⟩ := hn 25 (Rg.mem_of (by kernel_rfl))
          obtain rfl : v25 = .bool true := r25
          obtain ⟨v31, e31, r31⟩ := hn 31 (Rg.mem_of (by kernel_rfl))
          obtain rfl : v31 = .bool true := r31
          refine .inl ⟨(Rg.wanted_none rfl), fun K hK => ?_⟩
          go_simp
          exact hK _ _ (Below.refl _ _) (fun t ht => by injection ht with ht; subst ht; exact rfl)
        refine Rg.good_cons ?_ ?_
        · intro ac w' cx hn
          obtain ⟨v32, e32, r32⟩ := hn 32 (Rg.mem_of (by kernel_rfl))
          obtain rfl : v32 = .bool true := r32
          refine .inl ⟨(Rg.wanted_none rfl), fun K hK => ?_⟩
          go_simp
          exact hK _ _ (Below.refl _ _) (fun t ht => by injection ht with ht; subst ht; exact rfl)
        refine Rg.good_cons ?_ ?_
        · intro ac w' cx hn
          have e2 := cx.at_ 2 (by kernel_rfl) rfl
          obtain ⟨v33, e33, r33⟩ := hn 33 (Rg.mem_of (by kernel_rfl))
          obtain rfl : v33 = .bool true := r33
          exact .inr ⟨((Rg.wanted_some (t := 33) rfl (by kernel_rfl) e33).trans rfl), fun t ht => by injection ht with ht; subst ht; exact rfl⟩
        refine Rg.good_cons ?_ ?_
        · intro ac w' cx hn
          obtain ⟨v34, e34, r34⟩ := hn 34 (Rg.mem_of (by kernel_rfl))
          obtain rfl : v34 = undef := r34
          obtain ⟨v33, e33, r33⟩ := hn 33 (Rg.mem_of (by kernel_rfl))
          obtain rfl : v33 = .bool true := r33
          exact .inr ⟨((Rg.wanted_some (t := 33) rfl (by kernel_rfl) e33).trans rfl), fun t ht => by injection ht with ht; subst ht; exact rfl⟩
        refine Rg.good_cons ?_ ?_
        · intro ac w' cx hn
          have e0 := cx.at_ 0 (by kernel_rfl) rfl
          obtain ⟨v33, e33, r33⟩ := hn 33 (Rg.mem_of (by kernel_rfl))
          obtain rfl : v33 = .bool true := r33
          exact .inr ⟨((Rg.wanted_some (t := 33) rfl (by kernel_rfl) e33).trans rfl), fun t ht => by injection ht with ht; subst ht; exact rfl⟩
        refine Rg.good_cons ?_ ?_
        · intro ac w' cx hn
          obtain ⟨v36, e36, r36⟩ := hn 36 (Rg.mem_of (by kernel_rfl))
          obtain rfl : v36 = undef := r36
          obtain ⟨v33, e33, r33⟩ := hn 33 (Rg.mem_of (by kernel_rfl))
          obtain rfl : v33 = .bool true := r33
          exact .inr ⟨((Rg.wanted_some (t := 33) rfl (by kernel_rfl) e33).trans rfl), fun t ht => by injection ht with ht; subst ht; exact rfl⟩
        refine Rg.good_cons ?_ ?_
        · intro ac w' cx hn
          obtain ⟨v37, e37, r37⟩ := hn 37 (Rg.mem_of (by kernel_rfl))
          obtain rfl : v37 = undef := r37
          obtain ⟨v33, e33, r33⟩ := hn 33 (Rg.mem_of (by kernel_rfl))
          obtain rfl : v33 = .bool true := r33
          exact .inr ⟨((Rg.wanted_some (t := 33) rfl (by kernel_rfl) e33).trans rfl), fun t ht => by injection ht with ht; subst ht; exact rfl⟩
        refine Rg.good_cons ?_ ?_
        · intro ac w' cx hn
          obtain ⟨v38, e38, r38⟩ := hn 38 (Rg.mem_of (by kernel_rfl))
          obtain rfl : v38 = undef := r38
          have hx := cb c0 cx.bel
          obtain ⟨v33, e33, r33⟩ := hn 33 (Rg.mem_of (by kernel_rfl))
          obtain rfl : v33 = .bool true := r33
          exact .inr ⟨((Rg.wanted_some (t := 33) rfl (by kernel_rfl) e33).trans rfl), fun t ht => by injection ht with ht; subst ht; exact rfl⟩
        refine Rg.good_cons ?_ ?_
        · intro ac w' cx hn
          have e0 := cx.at_ 0 (by kernel_rfl) rfl
          obtain ⟨v33, e33, r33⟩ := hn 33 (Rg.mem_of (by kernel_rfl))
          obtain rfl : v33 = .bool true := r33
          exact .inr ⟨((Rg.wanted_some (t := 33) rfl (by kernel_rfl) e33).trans rfl), fun t ht => by injection ht with ht; subst ht; exact rfl⟩
        refine Rg.good_cons ?_ ?_
        · intro ac w' cx hn
          obtain ⟨v40, e40, r40⟩ := hn 40 (Rg.mem_of (by kernel_rfl))
          obtain rfl : v40 = undef := r40
          obtain ⟨v33, e33, r33⟩ := hn 33 (Rg.mem_of (by kernel_rfl))
          obtain rfl : v33 = .bool true := r33
          exact .inr ⟨((Rg.wanted_some (t := 33) rfl (by kernel_rfl) e33).trans rfl), fun t ht => by injection ht with ht; subst ht; exact rfl⟩
        refine Rg.good_cons ?_ ?_
        · intro ac w' cx hn
          obtain ⟨v39, e39, r39⟩ := hn 39 (Rg.mem_of (by kernel_rfl))
          obtain rfl : v39 = undef := r39
          obtain ⟨v41, e41, r41⟩ := hn 41 (Rg.mem_of (by kernel_rfl))
          obtain rfl : v41 = undef := r41
          obtain ⟨v33, e33, r33⟩ := hn 33 (Rg.mem_of (by kernel_rfl))
          obtain rfl : v33 = .bool true := r33
          exact .inr ⟨((Rg.wanted_some (t := 33) rfl (by kernel_rfl) e33).trans rfl), fun t ht => by injection ht with ht; subst ht; exact rfl⟩
        refine Rg.good_cons ?_ ?_
        · intro ac w' cx hn
          obtain ⟨v35, e35, r35⟩ := hn 35 (Rg.mem_of (by kernel_rfl))
          obtain rfl : v35 = undef := r35
          obtain ⟨v42, e42, r42⟩ := hn 42 (Rg.mem_of (by kernel_rfl))
          obtain rfl : v42 = undef := r42
          obtain ⟨v33, e33, r33⟩ := hn 33 (Rg.mem_of (by kernel_rfl))
          obtain rfl : v33 = .bool true := r33
          exact .inr ⟨((Rg.wanted_some (t := 33) rfl (by kernel_rfl) e33).trans rfl), fun t ht => by injection ht with ht; subst ht; exact rfl⟩
        refine Rg.good_cons ?_ ?_
        · intro ac w' cx hn
          obtain ⟨v33, e33, r33⟩ := hn 33 (Rg.mem_of (by kernel_rfl))
          obtain rfl : v33 = .bool true := r33
          obtain ⟨v43, e43, r43⟩ := hn 43 (Rg.mem_of (by kernel_rfl))
          obtain rfl : v43 = undef := r43
          refine .inl ⟨(Rg.wanted_none rfl), fun K hK => ?_⟩
          go_simp
          exact hK _ _ (Below.refl _ _) (fun t ht => by injection ht with ht; subst ht; exact rfl)
        exact Rg.good_nil
      case done =>
        intro u w3 hb3 hr
        have hbv : u 44 = .bool true := hr 44 (by simp)
        simp only [Rg.fillL_cons, Rg.fillL_nil, if_true, if_false, Bool.false_eq_true, hbv]
        have h3 := H2.out.below hb3
        have F3 := Lib.hid (F2.out.trans (Fr.of_below (O := O) hb3) (fun x hx => .inl hx))
        have H3 := Lib.hid h3
        clear hr hb3 hbv h3
        go_wp2_with fail
        go_ret
        exact ⟨10, S1, rfl, OpP.of H3.out F3.out (by omega), fun _ => rfl, fun h0 => absurd h0 (by decide), fun h0 => absurd rfl h0, fun _ _ hF => hF.elim (fun h => absurd h.1 hnz) (fun h => absurd HG.out h.1)⟩
    · have hd : decide ((256 : Int) ≤ (z : Int)) = false := by simp; omega
      go_wp2_with fail
      refine Rg.wp_region_inv (R := fun sl v w => match sl with
          | 23 => v = .pointer none
          | 24 => v = .bool true
          | 25 => v = .bool true
          | 26 => v = .pointer (some ⟨d, 0, none⟩)
          | 27 => v = .pointer (some ⟨d, 0, none⟩)
          | 28 => v = .pointer (some ⟨d, 1, none⟩)
          | 29 => v = .map S1.nb
          | 30 => v = .int .i64 (z : Int)
          | 31 => v = .bool false
          | 32 => v = .bool false
          | 33 => v = .bool false
          | 34 => v = .slice B m c
          | 35 => v = .int .i64 (m : Int)
          | 36 => v = .pointer (some ⟨d, 0, none⟩)
          | 37 => v = .pointer (some ⟨d, 0, none⟩)
          | 38 => v = .pointer (some ⟨d, 0, none⟩)
          | 39 => v = .int .i64 room
          | 40 => v = .pointer (some ⟨d, 0, none⟩)
          | 41 => UsV S1 v
          | 42 => SbV S1 room v
          | 43 => BlV S1 room s.data.toList m v
          | 44 => BlV S1 room s.data.toList m v
          | _ => True) [23, 24, 25, 26, 27, 28, 29, 30, 31, 32, 33, 34, 35, 36, 37, 38, 39, 40, 41, 42, 43, 44] 62 [false, false, false, false, false, false, false, false, false, false, false, false, false, false, false, false, false, false, false, false, false, false, false, true, true, true, true, true, true, true, true, true, true, true, true, true, true, true, true, true, true, true, true, true, true, false, false, false, false, false, false, false, false, false, false, false, false, false, false, false, false, false] (by kernel_rfl) rfl (by kernel_rfl) (by kernel_rfl) (by kernel_rfl) (by kernel_rfl) (by kernel_rfl) ?mono ?good ?done
      case mono =>
        refine List.forall_mem_cons.2 ⟨fun _ _ _ _ _ h => h, ?_⟩
        refine List.forall_mem_cons.2 ⟨fun _ _ _ _ _ h => h, ?_⟩
        refine List.forall_mem_cons.2 ⟨fun _ _ _ _ _ h => h, ?_⟩
        refine List.forall_mem_cons.2 ⟨fun _ _ _ _ _ h => h, ?_⟩
        refine List.forall_mem_cons.2 ⟨fun _ _ _ _ _ h => h, ?_⟩
        refine List.forall_mem_cons.2 ⟨fun _ _ _ _ _ h => h, ?_⟩
        refine List.forall_mem_cons.2 ⟨fun _ _ _ _ _ h => h, ?_⟩
        refine List.forall_mem_cons.2 ⟨fun _ _ _ _ _ h => h, ?_⟩
        refine List.forall_mem_cons.2 ⟨fun _ _ _ _ _ h => h, ?_⟩
        refine List.forall_mem_cons.2 ⟨fun _ _ _ _ _ h => h, ?_⟩
        refine List.forall_mem_cons.2 ⟨fun _ _ _ _ _ h => h, ?_⟩
        refine List.forall_mem_cons.2 ⟨fun _ _ _ _ _ h => h, ?_⟩
        refine List.forall_mem_cons.2 ⟨fun _ _ _ _ _ h => h, ?_⟩
        refine List.forall_mem_cons.2 ⟨fun _ _ _ _ _ h => h, ?_⟩
        refine List.forall_mem_cons.2 ⟨fun _ _ _ _ _ h => h, ?_⟩
        refine List.forall_mem_cons.2 ⟨fun _ _ _ _ _ h => h, ?_⟩
        refine List.forall_mem_cons.2 ⟨fun _ _ _ _ _ h => h, ?_⟩
        refine List.forall_mem_cons.2 ⟨fun _ _ _ _ _ h => h, ?_⟩
        refine List.forall_mem_cons.2 ⟨fun _ _ _ _ hb h => h, ?_⟩
        refine List.forall_mem_cons.2 ⟨fun _ _ _ _ hb h => h, ?_⟩
        refine List.forall_mem_cons.2 ⟨fun _ _ _ _ hb h => h, ?_⟩
        refine List.forall_mem_cons.2 ⟨fun _ _ _ _ hb h => h, ?_⟩
        exact fun _ h => absurd h (by simp)
      case good =>
        refine Rg.good_cons ?_ ?_
        · intro ac w' cx hn
          have e8 := cx.at_ 8 (by kernel_rfl) rfl
          refine .inl ⟨(Rg.wanted_none rfl), fun K hK => ?_⟩
          go_simp
          exact hK _ _ (Below.refl _ _) (fun t ht => by injection ht with ht; subst ht; exact rfl)
        refine Rg.good_cons ?_ ?_
        · intro ac w' cx hn
          obtain ⟨v23, e23, r23⟩ := hn 23 (Rg.mem_of (by kernel_rfl))
          obtain rfl : v23 = .pointer none := r23
          refine .inl ⟨(Rg.wanted_none rfl), fun K hK => ?_⟩
          go_simp
          exact hK _ _ (Below.refl _ _) (fun t ht => by injection ht with ht; subst ht; exact rfl)
        refine Rg.good_cons ?_ ?_
        · intro ac w' cx hn
          obtain ⟨v24, e24, r24⟩ := hn 24 (Rg.mem_of (by kernel_rfl))
          obtain rfl : v24 = .bool true := r24
          refine .inl ⟨(Rg.wanted_none rfl), fun K hK => ?_⟩
          go_simp
          exact hK _ _ (Below.refl _ _) (fun t ht => by injection ht with ht; subst ht; exact rfl)
        refine Rg.good_cons ?_ ?_
        · intro ac w' cx hn
          have e0 := cx.at_ 0 (by kernel_rfl) rfl
          obtain ⟨v25, e25, r25⟩ := hn 25 (Rg.mem_of (by kernel_rfl))
          obtain rfl : v25 = .bool true := r25
          refine .inl ⟨((Rg.wanted_some (t := 25) rfl (by kernel_rfl) e25).trans rfl), fun K hK => ?_⟩
          go_simp
          exact hK _ _ (Below.refl _ _) (fun t ht => by injection ht with ht; subst ht; exact rfl)
        refine Rg.good_cons ?_ ?_
        · intro ac w' cx hn
          obtain ⟨v26, e26, r26⟩ := hn 26 (Rg.mem_of (by kernel_rfl))
          obtain rfl : v26 = .pointer (some ⟨d, 0, none⟩) := r26
          obtain ⟨v25, e25, r25⟩ := hn 25 (Rg.mem_of (by kernel_rfl))
          obtain rfl : v25 = .bool true := r25
          refine .inl ⟨((Rg.wanted_some (t := 25) rfl (by kernel_rfl) e25).trans rfl), fun K hK => ?_⟩
          go_simp
          exact hK _ _ (Below.refl _ _) (fun t ht => by injection ht with ht; subst ht; exact rfl)
        refine Rg.good_cons ?_ ?_
        · intro ac w' cx hn
          obtain ⟨v27, e27, r27⟩ := hn 27 (Rg.mem_of (by kernel_rfl))
          obtain rfl : v27 = .pointer (some ⟨d, 0, none⟩) := r27
          obtain ⟨v25, e25, r25⟩ := hn 25 (Rg.mem_of (by kernel_rfl))
          obtain rfl : v25 = .bool true := r25
          refine .inl ⟨((Rg.wanted_some (t := 25) rfl (by kernel_rfl) e25).trans rfl), fun K hK => ?_⟩
          go_simp
          exact hK _ _ (Below.refl _ _) (fun t ht => by injection ht with ht; subst ht; exact rfl)
        refine Rg.good_cons ?_ ?_
        · intro ac w' cx hn
          obtain ⟨v28, e28, r28⟩ := hn 28 (Rg.mem_of (by kernel_rfl))
          obtain rfl : v28 = .pointer (some ⟨d, 1, none⟩) := r28
          have hx := cb c1 cx.bel
          obtain ⟨v25, e25, r25⟩ := hn 25 (Rg.mem_of (by kernel_rfl))
          obtain rfl : v25 = .bool true := r25
          refine .inl ⟨((Rg.wanted_some (t := 25) rfl (by kernel_rfl) e25).trans rfl), fun K hK => ?_⟩
          go_simp
          exact hK _ _ (Below.refl _ _) (fun t ht => by injection ht with ht; subst ht; exact rfl)
        refine Rg.good_cons ?_ ?_
        · intro ac w' cx hn
          obtain ⟨v29, e29, r29⟩ := hn 29 (Rg.mem_of (by kernel_rfl))
          obtain rfl : v29 = .map S1.nb := r29
          obtain ⟨v25, e25, r25⟩ := hn 25 (Rg.mem_of (by kernel_rfl))
          obtain rfl : v25 = .bool true := r25
          refine .inl ⟨((Rg.wanted_some (t := 25) rfl (by kernel_rfl) e25).trans rfl), fun K hK => ?_⟩
          have hlen := HZ.out _ cx.bel
          go_simp
          exact hK _ _ (Below.refl _ _) (fun t ht => by injection ht with ht; subst ht; exact rfl)
        refine Rg.good_cons ?_ ?_
        · intro ac w' cx hn
          obtain ⟨v30, e30, r30⟩ := hn 30 (Rg.mem_of (by kernel_rfl))
          obtain rfl : v30 = .int .i64 (z : Int) := r30
          obtain ⟨v25, e25, r25⟩ := hn 25 (Rg.mem_of (by kernel_rfl))
          obtain rfl : v25 = .bool true := r25
          refine .inl ⟨((Rg.wanted_some (t := 25) rfl (by kernel_rfl) e25).trans rfl), fun K hK => ?_⟩
          go_simp
          exact hK _ _ (Below.refl _ _) (fun t ht => by injection ht with ht; subst ht; exact rfl)
        refine Rg.good_cons ?_ ?_
        · intro ac w' cx hn
          obtain ⟨v25, e25, r25⟩ := hn 25 (Rg.mem_of (by kernel_rfl))
          obtain rfl : v25 = .bool true := r25
          obtain ⟨v31, e31, r31⟩ := hn 31 (Rg.mem_of (by kernel_rfl))
          obtain rfl : v31 = .bool false := r31
          refine .inl ⟨(Rg.wanted_none rfl), fun K hK => ?_⟩
          go_simp
          exact hK _ _ (Below.refl _ _) (fun t ht => by injection ht with ht; subst ht; exact rfl)
        refine Rg.good_cons ?_ ?_
        · intro ac w' cx hn
          obtain ⟨v32, e32, r32⟩ := hn 32 (Rg.mem_of (by kernel_rfl))
          obtain rfl : v32 = .bool false := r32
          refine .inl ⟨(Rg.wanted_none rfl), fun K hK => ?_⟩
          go_simp
          exact hK _ _ (Below.refl _ _) (fun t ht => by injection ht with ht; subst ht; exact rfl)
        refine Rg.good_cons ?_ ?_
        · intro ac w' cx hn
          have e2 := cx.at_ 2 (by kernel_rfl) rfl
          obtain ⟨v33, e33, r33⟩ := hn 33 (Rg.mem_of (by kernel_rfl))
          obtain rfl : v33 = .bool false := r33
          refine .inl ⟨((Rg.wanted_some (t := 33) rfl (by kernel_rfl) e33).trans rfl), fun K hK => ?_⟩
          go_simp
          exact hK _ _ (Below.refl _ _) (fun t ht => by injection ht with ht; subst ht; exact rfl)
        refine Rg.good_cons ?_ ?_
        · intro ac w' cx hn
          obtain ⟨v34, e34, r34⟩ := hn 34 (Rg.mem_of (by kernel_rfl))
          obtain rfl : v34 = .slice B m c := r34
          obtain ⟨v33, e33, r33⟩ := hn 33 (Rg.mem_of (by kernel_rfl))
          obtain rfl : v33 = .bool false := r33
          refine .inl ⟨((Rg.wanted_some (t := 33) rfl (by kernel_rfl) e33).trans rfl), fun K hK => ?_⟩
          go_simp
          exact hK _ _ (Below.refl _ _) (fun t ht => by injection ht with ht; subst ht; exact rfl)
        refine Rg.good_cons ?_ ?_
        · intro ac w' cx hn
          have e0 := cx.at_ 0 (by kernel_rfl) rfl
          obtain ⟨v33, e33, r33⟩ := hn 33 (Rg.mem_of (by kernel_rfl))
          obtain rfl : v33 = .bool false := r33
          refine .inl ⟨((Rg.wanted_some (t := 33) rfl (by kernel_rfl) e33).trans rfl), fun K hK => ?_⟩
          go_simp
          exact hK _ _ (Below.refl _ _) (fun t ht => by injection ht with ht; subst ht; exact rfl)
        refine Rg.good_cons ?_ ?_
        · intro ac w' cx hn
          obtain ⟨v36, e36, r36⟩ := hn 36 (Rg.mem_of (by kernel_rfl))
          obtain rfl : v36 = .pointer (some ⟨d, 0, none⟩) := r36
          obtain ⟨v33, e33, r33⟩ := hn 33 (Rg.mem_of (by kernel_rfl))
          obtain rfl : v33 = .bool false := r33
          refine .inl ⟨((Rg.wanted_some (t := 33) rfl (by kernel_rfl) e33).trans rfl), fun K hK => ?_⟩
          go_simp
          exact hK _ _ (Below.refl _ _) (fun t ht => by injection ht with ht; subst ht; exact rfl)
        refine Rg.good_cons ?_ ?_
        · intro ac w' cx hn
          obtain ⟨v37, e37, r37⟩ := hn 37 (Rg.mem_of (by kernel_rfl))
          obtain rfl : v37 = .pointer (some ⟨d, 0, none⟩) := r37
          obtain ⟨v33, e33, r33⟩ := hn 33 (Rg.mem_of (by kernel_rfl))
          obtain rfl : v33 = .bool false := r33
          refine .inl ⟨((Rg.wanted_some (t := 33) rfl (by kernel_rfl) e33).trans rfl), fun K hK => ?_⟩
          go_simp
          exact hK _ _ (Below.refl _ _) (fun t ht => by injection ht with ht; subst ht; exact rfl)
        refine Rg.good_cons ?_ ?_
        · intro ac w' cx hn
          obtain ⟨v38, e38, r38⟩ := hn 38 (Rg.mem_of (by kernel_rfl))
          obtain rfl : v38 = .pointer (some ⟨d, 0, none⟩) := r38
          have hx := cb c0 cx.bel
          obtain ⟨v33, e33, r33⟩ := hn 33 (Rg.mem_of (by kernel_rfl))
          obtain rfl : v33 = .bool false := r33
          refine .inl ⟨((Rg.wanted_some (t := 33) rfl (by kernel_rfl) e33).trans rfl), fun K hK => ?_⟩
          go_simp
          exact hK _ _ (Below.refl _ _) (fun t ht => by injection ht with ht; subst ht; exact rfl)
        refine Rg.good_cons ?_ ?_
        · intro ac w' cx hn
          have e0 := cx.at_ 0 (by kernel_rfl) rfl
          obtain ⟨v33, e33, r33⟩ := hn 33 (Rg.mem_of (by kernel_rfl))
          obtain rfl : v33 = .bool false := r33
          refine .inl ⟨((Rg.wanted_some (t := 33) rfl (by kernel_rfl) e33).trans rfl), fun K hK => ?_⟩
          go_simp
          exact hK _ _ (Below.refl _ _) (fun t ht => by injection ht with ht; subst ht; exact rfl)
        refine Rg.good_cons ?_ ?_
        · intro ac w' cx hn
          obtain ⟨v40, e40, r40⟩ := hn 40 (Rg.mem_of (by kernel_rfl))
          obtain rfl : v40 = .pointer (some ⟨d, 0, none⟩) := r40
          obtain ⟨v33, e33, r33⟩ := hn 33 (Rg.mem_of (by kernel_rfl))
          obtain rfl : v33 = .bool false := r33
          refine .inl ⟨((Rg.wanted_some (t := 33) rfl (by kernel_rfl) e33).trans rfl), fun K hK => ?_⟩
          go_simp
          refine (HUS.out _ cx.bel).mono ?_
          rintro y w5 ⟨U, rfl, hU, hU0, hb5⟩
          exact hK _ _ hb5 (fun t ht => by injection ht with ht; subst ht; exact ⟨U, rfl, hU, hU0⟩)
        refine Rg.good_cons ?_ ?_
        · intro ac w' cx hn
          obtain ⟨v39, e39, r39⟩ := hn 39 (Rg.mem_of (by kernel_rfl))
          obtain rfl : v39 = .int .i64 room := r39
          obtain ⟨v41, e41, r41⟩ := hn 41 (Rg.mem_of (by kernel_rfl))
          replace r41 : UsV S1 v41 := r41
          obtain ⟨v33, e33, r33⟩ := hn 33 (Rg.mem_of (by kernel_rfl))
          obtain rfl : v33 = .bool false := r33
          refine .inl ⟨((Rg.wanted_some (t := 33) rfl (by kernel_rfl) e33).trans rfl), fun K hK => ?_⟩
          obtain ⟨U, rfl, hU, hT⟩ := r41
          go_simp
          exact hK _ _ (Below.refl _ _) (fun t ht => by injection ht with ht; subst ht; exact ⟨_, U, rfl, hT, fun h0 h1 => by first | omega | (rw [← IntWalk.i64_left, IntWalk.i64_in _ ⟨by omega, by omega⟩]) | (rw [IntWalk.i64_in _ ⟨by omega, by omega⟩])⟩)
        refine Rg.good_cons ?_ ?_
        · intro ac w' cx hn
          obtain ⟨v35, e35, r35⟩ := hn 35 (Rg.mem_of (by kernel_rfl))
          obtain rfl : v35 = .int .i64 (m : Int) := r35
          obtain ⟨v42, e42, r42⟩ := hn 42 (Rg.mem_of (by kernel_rfl))
          replace r42 : SbV S1 room v42 := r42
          obtain ⟨v33, e33, r33⟩ := hn 33 (Rg.mem_of (by kernel_rfl))
          obtain rfl : v33 = .bool false := r33
          refine .inl ⟨((Rg.wanted_some (t := 33) rfl (by kernel_rfl) e33).trans rfl), fun K hK => ?_⟩
          obtain ⟨Z, U, rfl, hT, hZ⟩ := r42
          go_simp
          exact hK _ _ (Below.refl _ _) (fun t ht => by injection ht with ht; subst ht; exact ⟨_, rfl, fun hr hF => by
            rcases hF with ⟨h0, h1⟩ | ⟨h0, h1, h2⟩
            · have h3 := hT.1 h0
              have h4 := hZ (by omega) (by omega)
              simp; omega
            · have h3 := hT.2 _ h0 h1
              have h5 := HLN.out _ h0
              have h4 := hZ (by omega) (by omega)
              simp; omega⟩)
        refine Rg.good_cons ?_ ?_
        · intro ac w' cx hn
          obtain ⟨v33, e33, r33⟩ := hn 33 (Rg.mem_of (by kernel_rfl))
          obtain rfl : v33 = .bool false := r33
          obtain ⟨v43, e43, r43⟩ := hn 43 (Rg.mem_of (by kernel_rfl))
          replace r43 : BlV S1 room s.data.toList m v43 := r43
          refine .inl ⟨(Rg.wanted_none rfl), fun K hK => ?_⟩
          obtain ⟨bb, rfl, hbb⟩ := r43
          go_simp
          exact hK _ _ (Below.refl _ _) (fun t ht => by injection ht with ht; subst ht; exact ⟨bb, rfl, hbb⟩)
        exact Rg.good_nil
      case done =>
        intro u w3 hb3 hr
        obtain ⟨bb, hbv, hbb⟩ : BlV S1 room s.data.toList m (u 44) := hr 44 (by simp)
        simp only [Rg.fillL_cons, Rg.fillL_nil, if_true, if_false, Bool.false_eq_true, hbv]
        have h3 := H2.out.below hb3
        have F3 := Lib.hid (F2.out.trans (Fr.of_below (O := O) hb3) (fun x hx => .inl hx))
        have H3 := Lib.hid h3
        have HBB := Lib.hid hbb
        clear hr hb3 hbv hbb h3
        cases bb with
        | true =>
          go_wp2_with fail
          go_ret
          exact ⟨10, S1, rfl, OpP.of H3.out F3.out (by omega), fun _ => rfl, fun h0 => absurd h0 (by decide), fun h0 => absurd rfl h0, fun _ _ hF => by
            have := HBB.out HRO.out (by rw [HM.out]; exact hF)
            cases this⟩
        | false =>
          obtain ⟨W4, hW4⟩ : ∃ W4, w3.alloc (.cells #[.slice none 0 0, .int .i64 0] 60 (0, 0)) = W4 := ⟨_, rfl⟩
          obtain ⟨g, hg4⟩ : ∃ g, w3.heap.size = g := ⟨_, rfl⟩
          have hb4 : Below w3.heap.size w3 W4 := hW4 ▸ grows w3 _
          have hbx : W4.heap[g]? = some (.cells #[.slice none 0 0, .int .i64 0] 60 (0, 0)) := hg4 ▸ hW4 ▸ heap_alloc_new w3 _
          have hgl : g < W4.heap.size := (Array.getElem?_eq_some_iff.1 hbx).1
          have h4 : DK (On O w3 W4) W4 d M S1 := (H3.out.below hb4).grow
          have hfile : FileOk (On O w3 W4) W4 M ⟨.slice none 0 0, [], 0⟩ (g + 1) := ⟨g, none, 0, 0, rfl, .inr ⟨by omega, hgl⟩, rfl, hbx, ⟨rfl, .inl ⟨rfl, rfl⟩⟩, (by simp), Nat.le_refl _, Nat.zero_le _, (fun r hr => by cases hr)⟩
          have hap : Apart S1 (g + 1) ⟨.slice none 0 0, [], 0⟩ := fun x _ _ r _ h => by cases h
          have HNV := Lib.hid (show ¬ Vd S1 (g + 1) from fun hv => by
            obtain ⟨_, _, _, f1, _⟩ := file_num (H3.out.file _ hv)
            have := H3.out.bound g f1
            omega)
          have HGV := Lib.hid (give_any (On O w3 W4) d M S1 s (g + 1) ⟨.slice none 0 0, [], 0⟩ W4 h4 HK.out (by omega) (by omega) hfile hap)
          have F4 := Lib.hid (F3.out.trans (Fr.of_below (O := O) hb4) (fun x hx => .inl hx))
          have HO4 := Lib.hid (show ∀ k, On O w3 W4 k → O k ∨ w3.heap.size ≤ k from fun k hk => by rcases hk with hk | ⟨hk, _⟩; exact .inl hk; exact .inr hk)
          have HB4 := Lib.hid (And.intro hb4.size (And.intro hgl hg4))
          simp only [ptrV] at HGV
          clear hbx h4 hfile hap hb4 hgl
          go_wp2_with fail
          clear hW4 hg4
          refine HGV.out.mono ?_
          rintro e w5 ⟨rfl, nb, h5, hf5⟩
          have hv5 : Vd (giveS S1 nb s.data.toList (g + 1) ⟨.slice none 0 0, [], 0⟩) (g + 1) := ⟨by omega, s.data.toList, .inl (putN_same _ _ _)⟩
          have hF5 : (giveS S1 nb s.data.toList (g + 1) ⟨.slice none 0 0, [], 0⟩).F (g + 1) = ⟨.slice none 0 0, [], 0⟩ := putF_same _ _ _
          obtain ⟨A, n0, c', f1, f2, f3, f4, f5, f6, f7, f8⟩ := file_num (h5.file _ hv5)
          rw [hF5] at f2 f3 f4
          injection f2 with f2a f2b f2c
          subst f2a f2b f2c
          have q0 : w5.cell? ⟨g, 0, none⟩ = some (.slice none 0 0) := by rw [cell_of_row _ _ _ _ _ _ f3]; rfl
          have F5 := Lib.hid (F4.out.trans hf5 (fun x hx => by
            rcases HO4.out x hx with h | h
            · exact .inl h
            · exact .inr (Nat.le_trans F3.out.size h)))
          have HSL := Lib.hid (HBk.out w5 F5.out)
          have H5 := Lib.hid (And.intro h5 hf5)
          have HV5 := Lib.hid hv5
          have HF5 := Lib.hid hF5
          have HRW := Lib.hid f4
          have HBX := Lib.hid f3
          have hgl5 := h5.bound g f1
          have hl9 : 0 + m ≤ 1000000 := by have := HM.out; have := HML.out; omega
          clear h5 hf5 hv5 hF5 f1 f3 f4 f5 f6 f7 f8
          have HO4' := Lib.hid (show ∀ k, On O w3 W4 k → O k ∨ (w.heap.size ≤ k ∧ k < W4.heap.size) from fun k hk => by rcases hk with hk | ⟨hk, hk'⟩; exact .inl hk; exact .inr ⟨Nat.le_trans F3.out.size hk, hk'⟩)
          go_wp2_with (at_builtin; refine app_bytes rfl _ _ rfl (.slice none 0 0) 0 [] rfl HRW.out B m c bs rfl HM.out HSL.out hl9 ?_; intro A' c2 w6 ho6 hg6 hb6; have hbx := (hg6.block g hgl5 (by simp [Value.ownBlock])).trans HBX.out; have q4 : w6.cell? ⟨g, 0, none⟩ = some (.slice none 0 0) := (by rw [cell_of_row _ _ _ _ _ _ hbx]; rfl); have qf : w6.frozen? ⟨g, 0, none⟩ = false := (by simp [World.frozen?, hbx]); have HP := Lib.hid (by simpa only [Nat.zero_add] using (app_fin (M' := M + bs.length + 2) H5.out.1 HV5.out (n := 0) (bs := bs) (by rw [HF5.out]; exact ho6) (by rw [HF5.out]; exact hg6) (by rw [HF5.out]; exact hb6) HSL.out.b8 (by omega))); clear ho6 hg6 hb6 hbx)
          go_ret
          have HP6 := OpP.since HBD.out F4.out HO4'.out (OpP.step (S := giveS S1 nb s.data.toList (g + 1) ⟨.slice none 0 0, [], 0⟩) H5.out HP.out)
          refine ⟨0, _, rfl, HP6, fun h0 => absurd rfl h0, fun _ => ⟨rfl, rfl, ?_⟩, fun h0 => absurd rfl h0, fun _ _ _ => rfl⟩
          refine ⟨⟨g + 1, _, by omega, rfl, putF_putF _ _ _ _, fun h0 => absurd HG.out h0, fun _ => ⟨HNV.out, ?_, ?_⟩⟩, rfl, rfl, rfl, rfl, rfl⟩
          · show ((giveS S1 nb s.data.toList (g + 1) ⟨.slice none 0 0, [], 0⟩).F (g + 1)).bs ++ bs = bs
            rw [HF5.out]
            rfl
          · show ((giveS S1 nb s.data.toList (g + 1) ⟨.slice none 0 0, [], 0⟩).F (g + 1)).k = 0
            rw [HF5.out]
end Go.Proofs.Ytamhgbkdljggbaa.Dk
