/- left: what a loss of power leaves of a file. -/
import Derived.Test.YtamhgbkdljggbaaDkL
namespace Go.Proofs.Ytamhgbkdljggbaa.Dk
open Go.RowKit Go.Maps Go.Proofs
set_option linter.unusedVariables false

def CloneO (w : World) (n : Nat) (bs : List Nat) (e : Ending) (w' : World) : Prop := ∃ v, e = .returned v ∧ w'.ownsRow w.heap.size 5 1 v n (Tk.cellsB bs) ∧ Below w.heap.size w w'
set_option maxRecDepth 100000 in
theorem clone_own (A : Option Addr) (n c : Nat) (bs : List Nat) (w : World) (h : Tk.Sl w A c bs) (hn : n = bs.length) (hl : bs.length ≤ 1000000) :
    Calls Try.prog 36 #[.slice A n c] w (CloneO w n bs) := by
  subst hn
  cases A with
  | none =>
    have hc := h.2.2.1 rfl
    have hb : bs = [] := List.eq_nil_of_length_eq_zero (by have := h.1; omega)
    subst hb
    refine (Tk.clone_nil c w).mono fun e w' ⟨he, hw⟩ => ?_
    subst hw
    exact ⟨_, he, ⟨rfl, .inl ⟨rfl, rfl⟩⟩, Below.refl _ _⟩
  | some ad =>
    have hnil := fun (w : World) => Lib.run_eql_slice_nil (P := Try.prog) w 31 5 (some ad) bs.length c 0 0 Try.underlying31
    have HS := Lib.hid h
    clear h
    show Calls Try.prog 36 #[.slice (some ad) bs.length c] w fun e w' => CloneO w bs.length bs e w'
    go_enter Try.func36, Try.ntmps36
    go_wp2_with (at_builtin; refine Tk.wpList_append_bt rfl _ _ rfl w.heap.size (.slice (some ⟨w.heap.size, 0, none⟩) 0 0) 0 [] rfl ?c0 (some ad) bs.length c bs rfl rfl ?c1 ?c2 ?c3 ?_)
    case c0 => exact Tk.ownsRow_new w
    case c1 => exact HS.out.kept (Tk.Kept.of_below ((Below.refl _ _).alloc (Nat.le_refl _) _))
    case c2 => omega
    case c3 => simp
    intro v' w1 hown hgrow
    try simp only [Nat.zero_add, List.nil_append] at hown
    have hb : Below w.heap.size w w1 := ((Below.refl _ _).alloc (Nat.le_refl _) _).grown hgrow (by simp) (fun k hk => by simp [Value.ownBlock] at hk; omega)
    have HP := Lib.hid (And.intro hown hb)
    clear hown hgrow hb hnil
    go_wp2_with fail
    go_ret
    exact ⟨_, rfl, HP.out.1, HP.out.2⟩
theorem sl_take {w : World} {A : Option Addr} {c k : Nat} {bs : List Nat} (h : Tk.Sl w A c bs) : Tk.Sl w A c (bs.take k) := by
  obtain ⟨h1, h2, h3, h4, h5, h6⟩ := h
  refine ⟨by rw [List.length_take]; omega, h2, h3, fun x hx => h4 x (List.mem_of_mem_take hx), by rw [List.length_take]; omega, ?_⟩
  rcases h6 with h6 | ⟨b, off, e, hc⟩
  · exact .inl (by rw [List.length_take]; omega)
  · refine .inr ⟨b, off, e, fun j x hj => hc j x ?_⟩
    rw [List.getElem?_take] at hj
    split at hj
    · exact hj
    · cases hj
/-- a file made behind w -/
def LeftP (w : World) (M : Nat) (fl : Fl) (cut : Nat) (e : Ending) (w' : World) : Prop := ∃ g' fl', e = .returned (ptrV (g' + 1)) ∧ fl'.k = fl.k + cut % (fl.bs.length - fl.k + 1) ∧ fl'.bs = fl.bs.take fl'.k ∧
  FileOk (fun x => w.heap.size ≤ x ∧ x < w'.heap.size) w' M fl' (g' + 1) ∧ Below w.heap.size w w'
set_option maxHeartbeats 2000000 in
set_option maxRecDepth 100000 in
theorem left_any (O : Nat → Prop) (M g cut : Nat) (fl : Fl) (w : World) (h : FileOk O w M fl (g + 1)) (hM : M ≤ 1000000) (hc9 : cut ≤ 65535) :
    Calls Try.prog 34 #[.pointer (some ⟨g, 0, none⟩), .int .i64 (cut : Int)] w (LeftP w M fl cut) := by
  show Calls Try.prog 34 #[.pointer (some ⟨g, 0, none⟩), .int .i64 (cut : Int)] w fun e w' => LeftP w M fl cut e w'
  obtain ⟨A, n, c, f1, f2, f3, f4, f5, f6, f7, f8⟩ := file_num h
  obtain ⟨k, hk⟩ : ∃ k, fl.k = k := ⟨_, rfl⟩
  obtain ⟨bs, hbs⟩ : ∃ bs, fl.bs = bs := ⟨_, rfl⟩
  rw [hk] at f3 f6
  rw [hbs] at f4 f5 f6 f7
  have q0 : w.cell? ⟨g, 0, none⟩ = some (.slice A n c) := by rw [cell_of_row _ _ _ _ _ _ f3]; rfl
  have q1 : w.cell? ⟨g, 1, none⟩ = some (.int .i64 (k : Int)) := by rw [cell_of_row _ _ _ _ _ _ f3]; rfl
  obtain ⟨hn, A', c', e1, hSl⟩ := Tk.own_sl f4 f5 (by omega)
  injection e1 with e1 _ e2
  subst e1 e2 hn
  obtain ⟨n, hn⟩ : ∃ n, bs.length = n := ⟨_, rfl⟩
  obtain ⟨long, hlong⟩ : ∃ long, k + cut % (n - k + 1) = long := ⟨_, rfl⟩
  rw [hn] at q0 f6 f7
  have hle : long ≤ n := by have := Nat.mod_lt cut (show 0 < n - k + 1 by omega); omega
  have hlc : long ≤ c := by have := hSl.1; omega
  have hc3 := hSl.2.1
  have hkl : k ≤ long := by omega
  have hcn := hSl.2.2.1
  have HCL := Lib.hid (fun (W : World) (hb : Below w.heap.size w W) => clone_own A long c (bs.take long) W (sl_take (hSl.kept (Tk.Kept.of_below hb))) (by rw [List.length_take]; omega) (by rw [List.length_take]; omega))
  have HF := Lib.hid (And.intro f5 (And.intro f7 (And.intro hn (And.intro hk (And.intro hbs hlong)))))
  have h20 : IntKind.i64.wrap ((n : Int) - (k : Int)) = ((n - k : Nat) : Int) := by rw [IntWalk.i64_in _ ⟨by omega, by omega⟩]; omega
  have h21 : IntKind.i64.wrap (((n - k : Nat) : Int) + 1) = ((n - k + 1 : Nat) : Int) := by rw [IntWalk.i64_in _ ⟨by omega, by omega⟩]; omega
  have h22 : ((cut : Int)).tmod ((n - k + 1 : Nat) : Int) = ((cut % (n - k + 1) : Nat) : Int) := by rw [Int.tmod_eq_emod_of_nonneg (by omega)]; rfl
  have h23 : IntKind.i64.wrap ((k : Int) + ((cut % (n - k + 1) : Nat) : Int)) = (long : Int) := by rw [IntWalk.i64_in _ ⟨by omega, by omega⟩]; omega
  have hz : ((n - k + 1 : Nat) : Int) ≠ 0 := by omega
  clear h f1 f2 f3 f4 f5 f8 hSl hk hbs hlong
  go_enter Try.func34, Try.ntmps34
  go_wp2_with fail
  refine Rg.wp_region_inv (R := fun sl v w => match sl with
      | 6 => v = .pointer (some ⟨g, 0, none⟩)
      | 7 => v = .pointer (some ⟨g, 0, none⟩)
      | 8 => v = .pointer (some ⟨g, 1, none⟩)
      | 9 => v = .int .i64 (k : Int)
      | 10 => v = .int .i64 (cut : Int)
      | 11 => v = .pointer (some ⟨g, 0, none⟩)
      | 12 => v = .pointer (some ⟨g, 0, none⟩)
      | 13 => v = .pointer (some ⟨g, 0, none⟩)
      | 14 => v = .slice A n c
      | 15 => v = .int .i64 (n : Int)
      | 16 => v = .pointer (some ⟨g, 0, none⟩)
      | 17 => v = .pointer (some ⟨g, 0, none⟩)
      | 18 => v = .pointer (some ⟨g, 1, none⟩)
      | 19 => v = .int .i64 (k : Int)
      | 20 => v = .int .i64 ((n - k : Nat) : Int)
      | 21 => v = .int .i64 ((n - k + 1 : Nat) : Int)
      | 22 => v = .int .i64 ((cut % (n - k + 1) : Nat) : Int)
      | 23 => v = .int .i64 (long : Int)
      | 5 => v = .int .i64 (long : Int)
      | _ => True) [6, 7, 8, 9, 10, 11, 12, 13, 14, 15, 16, 17, 18, 19, 20, 21, 22, 23, 5] 34 [false, false, false, false, false, true, true, true, true, true, true, true, true, true, true, true, true, true, true, true, true, true, true, true, false, false, false, false, false, false, false, false, false, false] (by kernel_rfl) rfl (by kernel_rfl) (by kernel_rfl) (by kernel_rfl) (by kernel_rfl) (by kernel_rfl) ?mono ?good ?done
  case mono =>
    refine List.forall_mem_cons.2 ⟨fun _ _ _ _ _ h => h, ?_⟩
    refine List.forall_mem_cons.2 ⟨fun _ _ _ _ _ h => h, ?_⟩
    refine List.forall_mem_cons.2 ⟨fun _ _ _ _ _ h => h, ?_⟩
    refine List.forall_mem_cons.2 ⟨fun _ _ _ _ _ h => h, ?_⟩
    refine List.forall_mem_cons.2 ⟨fun _ _ _ _ _ h => h, ?_⟩
    refine List.forall_mem_cons.2 ⟨fun _ _ _ _ _ h => h, ?_⟩
    refine List.forall_mem_cons.2 ⟨fun _ _ _ _ _ h => h, ?_⟩
    refine List.forall_mem_cons.2 ⟨fun _ _ _ _ _ h => h, ?_⟩
    refine List.forall_mem_cons.2 ⟨fun _ _ _ _ _ h => h, ?_⟩
    refine List.forall_mem_cons.2 ⟨fun _ _ _ _ _ h => h, ?_⟩
    refine List.forall_mem_cons.2 ⟨fun _ _ _ _ _ h => h, ?_⟩
    refine List.forall_mem_cons.2 ⟨fun _ _ _ _ _ h => h, ?_⟩
    refine List.forall_mem_cons.2 ⟨fun _ _ _ _ _ h => h, ?_⟩
    refine List.forall_mem_cons.2 ⟨fun _ _ _ _ _ h => h, ?_⟩
    refine List.forall_mem_cons.2 ⟨fun _ _ _ _ _ h => h, ?_⟩
    refine List.forall_mem_cons.2 ⟨fun _ _ _ _ _ h => h, ?_⟩
    refine List.forall_mem_cons.2 ⟨fun _ _ _ _ _ h => h, ?_⟩
    refine List.forall_mem_cons.2 ⟨fun _ _ _ _ _ h => h, ?_⟩
    refine List.forall_mem_cons.2 ⟨fun _ _ _ _ _ h => h, ?_⟩
    exact fun _ h => absurd h (by simp)
  case good =>
    refine Rg.good_cons ?_ ?_
    · intro ac w' cx hn
      have e0 := cx.at_ 0 (by kernel_rfl) rfl
      refine .inl ⟨(Rg.wanted_none rfl), fun K hK => ?_⟩
      go_simp
      exact hK _ _ (Below.refl _ _) (fun t ht => by injection ht with ht; subst ht; exact rfl)
    refine Rg.good_cons ?_ ?_
    · intro ac w' cx hn
      obtain ⟨v6, e6, r6⟩ := hn 6 (Rg.mem_of (by kernel_rfl))
      obtain rfl : v6 = .pointer (some ⟨g, 0, none⟩) := r6
      refine .inl ⟨(Rg.wanted_none rfl), fun K hK => ?_⟩
      go_simp
      exact hK _ _ (Below.refl _ _) (fun t ht => by injection ht with ht; subst ht; exact rfl)
    refine Rg.good_cons ?_ ?_
    · intro ac w' cx hn
      obtain ⟨v7, e7, r7⟩ := hn 7 (Rg.mem_of (by kernel_rfl))
      obtain rfl : v7 = .pointer (some ⟨g, 0, none⟩) := r7
      refine .inl ⟨(Rg.wanted_none rfl), fun K hK => ?_⟩
      go_simp
      exact hK _ _ (Below.refl _ _) (fun t ht => by injection ht with ht; subst ht; exact rfl)
    refine Rg.good_cons ?_ ?_
    · intro ac w' cx hn
      obtain ⟨v8, e8, r8⟩ := hn 8 (Rg.mem_of (by kernel_rfl))
      obtain rfl : v8 = .pointer (some ⟨g, 1, none⟩) := r8
      have hx := cb q1 cx.bel
      refine .inl ⟨(Rg.wanted_none rfl), fun K hK => ?_⟩
      go_simp
      exact hK _ _ (Below.refl _ _) (fun t ht => by injection ht with ht; subst ht; exact rfl)
    refine Rg.good_cons ?_ ?_
    · intro ac w' cx hn
      have e1 := cx.at_ 1 (by kernel_rfl) rfl
      refine .inl ⟨(Rg.wanted_none rfl), fun K hK => ?_⟩
      go_simp
      exact hK _ _ (Below.refl _ _) (fun t ht => by injection ht with ht; subst ht; exact rfl)
    refine Rg.good_cons ?_ ?_
    · intro ac w' cx hn
      have e0 := cx.at_ 0 (by kernel_rfl) rfl
      refine .inl ⟨(Rg.wanted_none rfl), fun K hK => ?_⟩
      go_simp
      exact hK _ _ (Below.refl _ _) (fun t ht => by injection ht with ht; subst ht; exact rfl)
    refine Rg.good_cons ?_ ?_
    · intro ac w' cx hn
      obtain ⟨v11, e11, r11⟩ := hn 11 (Rg.mem_of (by kernel_rfl))
      obtain rfl : v11 = .pointer (some ⟨g, 0, none⟩) := r11
      refine .inl ⟨(Rg.wanted_none rfl), fun K hK => ?_⟩
      go_simp
      exact hK _ _ (Below.refl _ _) (fun t ht => by injection ht with ht; subst ht; exact rfl)
    refine Rg.good_cons ?_ ?_
    · intro ac w' cx hn
      obtain ⟨v12, e12, r12⟩ := hn 12 (Rg.mem_of (by kernel_rfl))
      obtain rfl : v12 = .pointer (some ⟨g, 0, none⟩) := r12
      refine .inl ⟨(Rg.wanted_none rfl), fun K hK => ?_⟩
      go_simp
      exact hK _ _ (Below.refl _ _) (fun t ht => by injection ht with ht; subst ht; exact rfl)
    refine Rg.good_cons ?_ ?_
    · intro ac w' cx hn
      obtain ⟨v13, e13, r13⟩ := hn 13 (Rg.mem_of (by kernel_rfl))
      obtain rfl : v13 = .pointer (some ⟨g, 0, none⟩) := r13
      have hx := cb q0 cx.bel
      refine .inl ⟨(Rg.wanted_none rfl), fun K hK => ?_⟩
      go_simp
      exact hK _ _ (Below.refl _ _) (fun t ht => by injection ht with ht; subst ht; exact rfl)
    refine Rg.good_cons ?_ ?_
    · intro ac w' cx hn
      obtain ⟨v14, e14, r14⟩ := hn 14 (Rg.mem_of (by kernel_rfl))
      obtain rfl : v14 = .slice A n c := r14
      refine .inl ⟨(Rg.wanted_none rfl), fun K hK => ?_⟩
      go_simp
      exact hK _ _ (Below.refl _ _) (fun t ht => by injection ht with ht; subst ht; exact rfl)
    refine Rg.good_cons ?_ ?_
    · intro ac w' cx hn
      have e0 := cx.at_ 0 (by kernel_rfl) rfl
      refine .inl ⟨(Rg.wanted_none rfl), fun K hK => ?_⟩
      go_simp
      exact hK _ _ (Below.refl _ _) (fun t ht => by injection ht with ht; subst ht; exact rfl)
    refine Rg.good_cons ?_ ?_
    · intro ac w' cx hn
      obtain ⟨v16, e16, r16⟩ := hn 16 (Rg.mem_of (by kernel_rfl))
      obtain rfl : v16 = .pointer (some ⟨g, 0, none⟩) := r16
      refine .inl ⟨(Rg.wanted_none rfl), fun K hK => ?_⟩
      go_simp
      exact hK _ _ (Below.refl _ _) (fun t ht => by injection ht with ht; subst ht; exact rfl)
    refine Rg.good_cons ?_ ?_
    · intro ac w' cx hn
      obtain ⟨v17, e17, r17⟩ := hn 17 (Rg.mem_of (by kernel_rfl))
      obtain rfl : v17 = .pointer (some ⟨g, 0, none⟩) := r17
      refine .inl ⟨(Rg.wanted_none rfl), fun K hK => ?_⟩
      go_simp
      exact hK _ _ (Below.refl _ _) (fun t ht => by injection ht with ht; subst ht; exact rfl)
    refine Rg.good_cons ?_ ?_
    · intro ac w' cx hn
      obtain ⟨v18, e18, r18⟩ := hn 18 (Rg.mem_of (by kernel_rfl))
      obtain rfl : v18 = .pointer (some ⟨g, 1, none⟩) := r18
      have hx := cb q1 cx.bel
      refine .inl ⟨(Rg.wanted_none rfl), fun K hK => ?_⟩
      go_simp
      exact hK _ _ (Below.refl _ _) (fun t ht => by injection ht with ht; subst ht; exact rfl)
    refine Rg.good_cons ?_ ?_
    · intro ac w' cx hn
      obtain ⟨v15, e15, r15⟩ := hn 15 (Rg.mem_of (by kernel_rfl))
      obtain rfl : v15 = .int .i64 (n : Int) := r15
      obtain ⟨v19, e19, r19⟩ := hn 19 (Rg.mem_of (by kernel_rfl))
      obtain rfl : v19 = .int .i64 (k : Int) := r19
      refine .inl ⟨(Rg.wanted_none rfl), fun K hK => ?_⟩
      go_simp
      exact hK _ _ (Below.refl _ _) (fun t ht => by injection ht with ht; subst ht; exact (by first | rfl | exact congrArg (Value.int .i64) (by omega) | exact congrArg (Value.int .i64) h20))
    refine Rg.good_cons ?_ ?_
    · intro ac w' cx hn
      obtain ⟨v20, e20, r20⟩ := hn 20 (Rg.mem_of (by kernel_rfl))
      obtain rfl : v20 = .int .i64 ((n - k : Nat) : Int) := r20
      refine .inl ⟨(Rg.wanted_none rfl), fun K hK => ?_⟩
      go_simp
      exact hK _ _ (Below.refl _ _) (fun t ht => by injection ht with ht; subst ht; exact (by first | rfl | exact congrArg (Value.int .i64) (by omega) | exact congrArg (Value.int .i64) h21))
    refine Rg.good_cons ?_ ?_
    · intro ac w' cx hn
      obtain ⟨v10, e10, r10⟩ := hn 10 (Rg.mem_of (by kernel_rfl))
      obtain rfl : v10 = .int .i64 (cut : Int) := r10
      obtain ⟨v21, e21, r21⟩ := hn 21 (Rg.mem_of (by kernel_rfl))
      obtain rfl : v21 = .int .i64 ((n - k + 1 : Nat) : Int) := r21
      refine .inl ⟨(Rg.wanted_none rfl), fun K hK => ?_⟩
      go_simp
      exact hK _ _ (Below.refl _ _) (fun t ht => by injection ht with ht; subst ht; exact (by first | rfl | exact congrArg (Value.int .i64) h22))
    refine Rg.good_cons ?_ ?_
    · intro ac w' cx hn
      obtain ⟨v9, e9, r9⟩ := hn 9 (Rg.mem_of (by kernel_rfl))
      obtain rfl : v9 = .int .i64 (k : Int) := r9
      obtain ⟨v22, e22, r22⟩ := hn 22 (Rg.mem_of (by kernel_rfl))
      obtain rfl : v22 = .int .i64 ((cut % (n - k + 1) : Nat) : Int) := r22
      refine .inl ⟨(Rg.wanted_none rfl), fun K hK => ?_⟩
      go_simp
      exact hK _ _ (Below.refl _ _) (fun t ht => by injection ht with ht; subst ht; exact (by first | rfl | exact congrArg (Value.int .i64) (by omega) | exact congrArg (Value.int .i64) h23))
    refine Rg.good_cons ?_ ?_
    · intro ac w' cx hn
      obtain ⟨v23, e23, r23⟩ := hn 23 (Rg.mem_of (by kernel_rfl))
      obtain rfl : v23 = .int .i64 (long : Int) := r23
      refine .inl ⟨(Rg.wanted_none rfl), fun K hK => ?_⟩
      go_simp
      exact hK _ _ (Below.refl _ _) (fun t ht => by injection ht with ht; subst ht; exact rfl)
    exact Rg.good_nil
  case done =>
    intro u w3 hb3 hr
    have q5 : u 5 = .int .i64 (long : Int) := hr 5 (by simp)
    simp only [Rg.fillL_cons, Rg.fillL_nil, if_true, if_false, Bool.false_eq_true, q5]
    have x0 := cb q0 hb3
    have HB3 := Lib.hid hb3
    clear hr hb3 q5 q0 q1 h20 h21 h22 h23 hz
    go_wp2_with fail
    refine (HCL.out w3 HB3.out).mono ?_
    rintro e w4 ⟨v, rfl, hrow, hb4⟩
    obtain ⟨A2, c2, rfl⟩ : ∃ A2 c2, v = .slice A2 long c2 := by
      rcases hrow.2 with ⟨hv, hz⟩ | ⟨g', cap, cur, hv, _⟩
      · exact ⟨none, 0, by rw [hv, hz]⟩
      · exact ⟨_, _, hv⟩
    have HR := Lib.hid hrow
    have HB4 := Lib.hid hb4
    clear hrow hb4
    go_wp2_with fail
    go_ret
    obtain ⟨e1, e2, e3, e4, e5, e6⟩ := HF.out
    obtain ⟨W5, hW5⟩ : ∃ W5, w4.alloc (.cells #[.slice A2 long c2, .int .i64 (long : Int)] 60 (0, 0)) = W5 := ⟨_, rfl⟩
    have hb5 : Below w4.heap.size w4 W5 := hW5 ▸ grows w4 _
    have hbx : W5.heap[w4.heap.size]? = some (.cells #[.slice A2 long c2, .int .i64 (long : Int)] 60 (0, 0)) := hW5 ▸ heap_alloc_new w4 _
    rw [hW5]
    have s3 := HB3.out.size
    have s4 := HB4.out.size
    refine ⟨w4.heap.size, ⟨.slice A2 long c2, bs.take long, long⟩, rfl, by rw [e4, e5, e3, e6], by rw [e5], ?_, (HB3.out.trans (HB4.out.mono s3)).trans (hb5.mono (by omega))⟩
    refine ⟨w4.heap.size, A2, long, c2, rfl, ⟨by omega, (Array.getElem?_eq_some_iff.1 hbx).1⟩, rfl, hbx, ownsRow_base_a (own_abide HR.out (fun r hr => hb5.block r (HR.out.lt r hr).2)) (Nat.zero_le _), (fun x hx => e1 x (List.mem_of_mem_take hx)), ?_, ?_, fun r hr => ?_⟩
    · show long ≤ (bs.take long).length
      rw [List.length_take]; omega
    · show (bs.take long).length ≤ M
      rw [List.length_take]; omega
    · have := HR.out.lt r hr
      exact ⟨by omega, by have := hb5.size; omega⟩
end Go.Proofs.Ytamhgbkdljggbaa.Dk
