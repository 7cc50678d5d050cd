/- The contract of End; the law's own laying, walked. -/
import Derived.Test.YtbnbammgjmeicaaDoorTlE
import Derived.Test.YtbnbammgjmeicaaDoorRgI
import Derived.Test.YtbnbammgjmeicaaDoorTmX
namespace Go.Proofs.YtbnbammgjmeicaaDoor.Tl
open Go.RowKit Go.Sort
set_option linter.unusedVariables false

theorem last_byte {bs : List Nat} {n V : Nat} (h : Bw.Laid bs n V) (h8 : ¬ n % 8 = 0) :
    ∃ b, bs[bs.length - 1]? = some b ∧ b < 256 ∧ b * 2 ^ (n % 8) % 256 = 0 := by
  have hpad := Bw.pad_of h h8
  obtain ⟨h1, h2, h3, _⟩ := h
  have nx : bs ≠ [] := by intro e; rw [e] at h1; simp at h1; omega
  have ex := (List.dropLast_concat_getLast nx).symm
  generalize bs.dropLast = cs at ex
  generalize bs.getLast nx = c at ex
  subst ex
  refine ⟨c, by simp, h2 c (by simp), ?_⟩
  rw [hpad, Bw.val_snoc] at h3
  have hk : 7 - n % 8 + 1 ≤ 8 := by omega
  have m2 := Bw.mod_two_pow_mul (a := Bw.val cs) hk
  have m1 : (Bw.val cs * 256 + c) % 2 ^ (7 - n % 8 + 1) = 0 := by rw [h3]; exact Nat.mul_mod_left _ _
  rw [Nat.add_mod, m2, Nat.zero_add, Nat.mod_mod] at m1
  have hd : c = c / 2 ^ (7 - n % 8 + 1) * 2 ^ (7 - n % 8 + 1) := by have := Nat.div_add_mod c (2 ^ (7 - n % 8 + 1)); rw [Nat.mul_comm] at this; omega
  have h256 : (2 : Nat) ^ (7 - n % 8 + 1) * 2 ^ (n % 8) = 256 := by rw [← Nat.pow_add, show 7 - n % 8 + 1 + n % 8 = 8 by omega]
  obtain ⟨K, hK⟩ : ∃ K, c / 2 ^ (7 - n % 8 + 1) = K := ⟨_, rfl⟩
  rw [hK] at hd
  have e1 : c * 2 ^ (n % 8) = K * 256 := by
    calc c * 2 ^ (n % 8) = K * 2 ^ (7 - n % 8 + 1) * 2 ^ (n % 8) := congrArg (· * 2 ^ (n % 8)) hd
      _ = K * (2 ^ (7 - n % 8 + 1) * 2 ^ (n % 8)) := Nat.mul_assoc _ _ _
      _ = K * 256 := congrArg (K * ·) h256
  rw [e1]
  exact Nat.mul_mod_left _ _

theorem end_any (q l c n V : Nat) (a : Option Addr) (bs : List Nat) (w : World) (h : Tk.Rd w q a l c bs (n, 0)) (hl : Bw.Laid bs n V) (h0 : 0 < l) :
    Calls Tryd.prog 16 #[.pointer (some ⟨q, 0, none⟩)] w fun e w' => e = .returned (.int .i64 0) ∧ Below w.heap.size w w' := by
  have H := Lib.hid h
  have hlen := hl.1
  have hbl := h.len
  have tl : n ≤ 8 * l := h.tl
  have lb := h.lb
  have c0 := h.c0
  obtain ⟨D, hD⟩ : ∃ D, (l : Int) * 8 - (n : Int) = D := ⟨_, rfl⟩
  have LC : ∀ w, Tk.Rd w q a l c bs (n, 0) → Calls Tryd.prog 21 #[.pointer (some ⟨q, 0, none⟩)] w fun e w' => e = .returned (.int .i64 D) ∧ ∃ n, w' = w.drewN n := fun w h => by
    rw [← hD]; exact Tk.left_any _ _ _ _ _ _ _ h
  have HLC := Lib.hid LC
  clear LC
  by_cases h8 : n % 8 = 0
  · have d0 : D < 8 := by omega
    have d00 : D ≤ 0 := by omega
    have d1 : decide (0 < D) = false := by simp; omega
    clear h hl hlen hbl h8 hD
    go_enter Tryd.func16, Tryd.ntmps16
    go_wp2_with fail
    refine (Tk.err_any _ _ _ _ _ _ _ H.out).mono ?_
    rintro e w' ⟨rfl, rfl⟩
    go_wp2_with fail
    refine (HLC.out _ H.out).mono ?_
    rintro e w' ⟨rfl, n0, rfl⟩
    go_wp2_with fail
    go_quiet (fail)
    go_wp2_with fail
    go_ret
    exact ⟨rfl, Tm.below_drewN (Tm.below_drewN (Below.refl _ _) _) _⟩
  · obtain ⟨b, hb, hb256, hz⟩ := last_byte hl h8
    obtain ⟨ra, ro, rfl, hrq, hbyte⟩ := h.lies h0
    have kb := hbyte _ _ hb
    rw [← hbl] at kb
    have d0 : D < 8 := by omega
    have d1 : 0 < D := by omega
    have d2 : decide (0 < D) = true := by simpa using d1
    have d3 : (0 : Int) ≤ (l : Int) - 1 := by omega
    have d33 : (1 : Int) ≤ (l : Int) := by omega
    have d4 : (l : Int) - 1 < (l : Int) := by omega
    have d5 : ((l : Int) - 1).toNat = l - 1 := by omega
    have d6 : IntKind.i64.wrap ((l : Int) - 1) = (l : Int) - 1 := IntWalk.i64_in _ (by omega)
    have d7 : IntKind.i64.wrap (8 - D) = 8 - D := IntWalk.i64_in _ (by omega)
    have d8 : (8 - D).toNat = n % 8 := by omega
    have d9 : (0 : Int) ≤ 8 - D := by omega
    have hz' : (b : Int) * 2 ^ (n % 8) % 256 = 0 := by
      have e : (b : Int) * 2 ^ (n % 8) = ((b * 2 ^ (n % 8) : Nat) : Int) := by simp
      rw [e]; omega
    clear h hl hlen hbl h8 hb hz hD
    go_enter Tryd.func16, Tryd.ntmps16
    go_wp2_with fail
    refine (Tk.err_any _ _ _ _ _ _ _ H.out).mono ?_
    rintro e w' ⟨rfl, rfl⟩
    go_wp2_with fail
    refine (HLC.out _ H.out).mono ?_
    rintro e w' ⟨rfl, n0, rfl⟩
    go_wp2_with fail
    go_quiet (fail)
    go_wp2_with fail
    go_ret
    exact ⟨rfl, Tm.below_drewN (Tm.below_drewN (Below.refl _ _) _) _⟩

/-- the text so far -/
def LyR (w : World) (X : List Tm.Rg) (v4 v5 v16 : Value) (wr : World) : Prop :=
  ∃ (k : Nat) (f : Int) (U : ByteArray), k ≤ X.length ∧ v16 = .int .i64 (k : Int) ∧ v5 = .int .i64 (endF 0 (X.take k)) ∧ v4 = .string U ∧ U = Tk.T (Tk.codeL X.length ++ layR 0 (X.take k)) ∧ Below w.heap.size w wr
set_option maxHeartbeats 2000000 in
theorem rlay_any (v : Value) (X : List Tm.Rg) (w : World) (hs : Tm.St w v X) (hc : Tm.Can X) (hX : X.length ≤ 1000) :
    Calls Tryd.prog 5 #[v] w fun e w' => e = .returned (.string (Tk.T (layT X))) ∧ Below w.heap.size w w' := by
  obtain ⟨A, c, rfl, ha, hcl⟩ := hs
  obtain ⟨n, hn⟩ : ∃ n, X.length = n := ⟨_, rfl⟩
  have HN := Lib.hid hn
  have HC := Lib.hid ((can_iff X).1 hc)
  obtain ⟨Sn, hSn⟩ : ∃ Sn, Tk.T (Tk.codeL n) = Sn := ⟨_, rfl⟩
  have HCN := Lib.hid (fun (W : World) => Tk.refcount_any n W (by omega))
  rw [hSn] at HCN
  have HSN := Lib.hid hSn
  rw [hn] at hX ⊢
  have hni : (n : Int) ≤ 1000 := by omega
  have hX2 := Lib.hid hX
  obtain ⟨W1, hW1⟩ : ∃ W1, w.alloc (.cells #[.slice A n c] 27 (0, 0)) = W1 := ⟨_, rfl⟩
  obtain ⟨g1, hg1⟩ : ∃ g1, w.heap.size = g1 := ⟨_, rfl⟩
  have hb1 : Below w.heap.size w W1 := hW1 ▸ (Below.refl _ _).alloc (Nat.le_refl _) _
  have hbx : W1.heap[g1]? = some (.cells #[.slice A n c] 27 (0, 0)) := hg1 ▸ hW1 ▸ heap_alloc_new w _
  have q0 : W1.cell? ⟨g1, 0, none⟩ = some (.slice A n c) := by rw [cell_of_row _ _ _ _ _ _ hbx]; rfl
  have HR := Lib.hid (Tm.ranges_any (.agg #[.slice A n c]) X W1 ⟨A, c, by rw [hn], ha, hcl.below hb1⟩ (by omega))
  have HB1 := Lib.hid hb1
  clear hcl hn hX hb1 hbx hSn ha hc
  go_enter Tryd.func5, Tryd.ntmps5
  go_wp2_with fail
  refine HR.out.mono ?_
  rintro e w2 ⟨A2, c2, rfl, hown, hb2⟩
  rw [HN.out] at hown ⊢
  have HCL := Lib.hid (Tm.own_cl hown)
  have HB2 := Lib.hid (HB1.out.trans (hb2.mono HB1.out.size))
  clear hown hb2 hW1 hg1 q0 HR
  go_wp2_with fail
  refine (HCN.out _).mono ?_
  rintro e w3 ⟨rfl, hb3⟩
  have HB3 := Lib.hid (HB2.out.trans (hb3.mono HB2.out.size))
  have HCL3 := Lib.hid (HCL.out.below hb3)
  clear hb3 HCL HCN
  go_wp2_with fail
  have R0 := Lib.hid (show LyR w3 X (.string Sn) (.int .i64 0) (.int .i64 ((0 : Nat) : Int)) w3 from ⟨0, 0, Sn, by omega, rfl, rfl, rfl, by rw [HN.out, show layR 0 (X.take 0) = [] from rfl, List.append_nil]; exact HSN.out.symm, Below.refl _ _⟩)
  go_loopw [4, 5, 16] (fun v4 v5 v16 wr => Hid (LyR w3 X v4 v5 v16 wr)) (fun _ _ v16 _ => n - (intOf v16).toNat)
  case atStart => exact R0
  case round =>
    clear R0
    obtain ⟨k, f, U, hk, rfl, rfl, rfl, hU, hb⟩ := hrel.out
    clear hrel
    by_cases hlt : k < n
    · have hki : (k : Int) < (n : Int) := by omega
      obtain ⟨r, hr⟩ := Tm.getElem?_lt (l := X) (k := k) (by rw [HN.out]; exact hlt)
      obtain ⟨b, off, hA2, hcell⟩ := (HCL3.out.below hb).twos (by rw [HN.out]; omega)
      subst hA2
      obtain ⟨z0, z1⟩ := hcell k r hr
      have hat := canF_at X 0 k r HC.out hr
      have hge := endF_ge (X.take k) 0 (canF_take X 0 k HC.out)
      have hts := Tm.take_snoc X k r hr
      have hsn := layR_snoc (X.take k) 0 r
      have hes := endF_snoc (X.take k) 0 r
      rw [← hts] at hsn hes
      have hlen := layR_len (X.take k) 0
      rw [List.length_take, HN.out] at hlen
      have hcode := Tk.codeL_length n
      obtain ⟨F, hF⟩ : ∃ F, endF 0 (X.take k) = F := ⟨_, rfl⟩
      rw [hF] at hat hge hsn ⊢
      obtain ⟨M, hM⟩ : ∃ M, Tk.codeL X.length ++ layR 0 (X.take k) = M := ⟨_, rfl⟩
      have hML : M.length ≤ 150000 := by rw [← hM, List.length_append, HN.out]; have := hX2.out; omega
      rw [hM] at hU
      obtain ⟨r1, r2⟩ := r
      obtain ⟨a1, a2, a3⟩ := hat
      simp only at z0 z1 a1 a2 a3 hsn hes
      obtain ⟨D1, hD1⟩ : ∃ D1, r1 - F = D1 := ⟨_, rfl⟩
      obtain ⟨D2, hD2⟩ : ∃ D2, r2 - r1 = D2 := ⟨_, rfl⟩
      rw [hD1, hD2] at hsn
      have hl1 := Tk.codeL_length D1.toNat
      have hl2 := Tk.codeL_length D2.toNat
      obtain ⟨S1, hS1⟩ : ∃ S1, Tk.T (Tk.codeL D1.toNat) = S1 := ⟨_, rfl⟩
      obtain ⟨S2, hS2⟩ : ∃ S2, Tk.T (Tk.codeL D2.toNat) = S2 := ⟨_, rfl⟩
      have hadd1 := Tk.add_T (P := Tryd.prog) (Tk.codeL D1.toNat) (Tk.codeL D2.toNat) (by omega)
      have hadd2 := Tk.add_T (P := Tryd.prog) M (Tk.codeL D1.toNat ++ Tk.codeL D2.toNat) (by rw [List.length_append]; omega)
      obtain ⟨S3, hS3⟩ : ∃ S3, Tk.T (Tk.codeL D1.toNat ++ Tk.codeL D2.toNat) = S3 := ⟨_, rfl⟩
      obtain ⟨S4, hS4⟩ : ∃ S4, Tk.T (M ++ (Tk.codeL D1.toNat ++ Tk.codeL D2.toNat)) = S4 := ⟨_, rfl⟩
      rw [hS1, hS2, hS3] at hadd1
      rw [hS3, hS4, ← hU] at hadd2
      have HC1 := Lib.hid (fun (W : World) => show Calls Tryd.prog 7 #[.int .u64 D1] W fun e w' => e = .returned (.string S1) ∧ Below W.heap.size W w' from by
        have := Tk.refcount_any D1.toNat W (by omega)
        rw [hS1, show ((D1.toNat : Nat) : Int) = D1 by omega] at this
        exact this)
      have HC2 := Lib.hid (fun (W : World) => show Calls Tryd.prog 7 #[.int .u64 D2] W fun e w' => e = .returned (.string S2) ∧ Below W.heap.size W w' from by
        have := Tk.refcount_any D2.toNat W (by omega)
        rw [hS2, show ((D2.toNat : Nat) : Int) = D2 by omega] at this
        exact this)
      have HS4 := Lib.hid (show S4 = Tk.T (Tk.codeL X.length ++ layR 0 (X.take (k + 1))) by rw [hsn, ← List.append_assoc, hM, ← hS4])
      have HES := Lib.hid hes
      have HLT := Lib.hid hlt
      have hwr1 : IntKind.i64.wrap (r1 - F) = D1 := by rw [hD1]; exact IntWalk.i64_in _ (by omega)
      have hwr2 : IntKind.i64.wrap (r2 - r1) = D2 := by rw [hD2]; exact IntWalk.i64_in _ (by omega)
      have hwu1 : IntKind.u64.wrap D1 = D1 := IntWalk.u64_in _ (by omega)
      have hwu2 : IntKind.u64.wrap D2 = D2 := IntWalk.u64_in _ (by omega)
      obtain ⟨W4, hW4⟩ : ∃ W4, wr.alloc (.cells #[.int .i64 r1, .int .i64 r2] 32 (0, 0)) = W4 := ⟨_, rfl⟩
      obtain ⟨g4, hg4⟩ : ∃ g4, wr.heap.size = g4 := ⟨_, rfl⟩
      have hb4 : W4.heap[g4]? = some (.cells #[.int .i64 r1, .int .i64 r2] 32 (0, 0)) := hg4 ▸ hW4 ▸ heap_alloc_new wr _
      obtain ⟨y0, y1, _⟩ := Tm.box2 hb4
      have HB4 := Lib.hid (hb.trans ((hW4 ▸ (Below.refl _ _).alloc (Nat.le_refl _) _ : Below wr.heap.size wr W4).mono hb.size))
      clear hcell hr hts hsn hes hlen hcode hF hM hb4 hlt hU hb hS1 hS2 hS3 hS4 hD1 hD2 hl1 hl2 hML
      go_wp2_with fail
      clear z0 z1 hW4 hg4
      refine Rg.wp_region_invG (R := fun sl v w => match sl with
          | 20 => v = .string U
          | 21 => v = .pointer (some ⟨g4, 0, none⟩)
          | 22 => v = .int .i64 r1
          | 23 => v = .int .i64 F
          | 24 => v = .int .i64 D1
          | 25 => v = .int .u64 D1
          | 26 => v = .string S1
          | 27 => v = .pointer (some ⟨g4, 1, none⟩)
          | 28 => v = .int .i64 r2
          | 29 => v = .pointer (some ⟨g4, 0, none⟩)
          | 30 => v = .int .i64 r1
          | 31 => v = .int .i64 D2
          | 32 => v = .int .u64 D2
          | 33 => v = .string S2
          | 34 => v = .string S3
          | 35 => v = .string S4
          | _ => True) (fun a w => True) 16 [20, 21, 22, 23, 24, 25, 26, 27, 28, 29, 30, 31, 32, 33, 34, 35] 41 [false, false, false, false, false, false, false, false, false, false, false, false, false, false, false, false, false, false, false, false, true, true, true, true, true, true, true, true, true, true, true, true, true, true, true, true, false, false, false, false, false] (by kernel_rfl) rfl (by kernel_rfl) (by kernel_rfl) (by kernel_rfl) (by kernel_rfl) (Nat.le_of_ble_eq_true (by kernel_rfl)) (by kernel_rfl) (by kernel_rfl) ?mono ?g0 ?good ?done
      case mono =>
        refine List.forall_mem_cons.2 ⟨fun _ _ _ _ _ h => h, ?_⟩
        refine List.forall_mem_cons.2 ⟨fun _ _ _ _ _ h => h, ?_⟩
        refine List.forall_mem_cons.2 ⟨fun _ _ _ _ _ h => h, ?_⟩
        refine List.forall_mem_cons.2 ⟨fun _ _ _ _ _ h => h, ?_⟩
        refine List.forall_mem_cons.2 ⟨fun _ _ _ _ _ h => h, ?_⟩
        refine List.forall_mem_cons.2 ⟨fun _ _ _ _ _ h => h, ?_⟩
        refine List.forall_mem_cons.2 ⟨fun _ _ _ _ _ h => h, ?_⟩
        refine List.forall_mem_cons.2 ⟨fun _ _ _ _ _ h => h, ?_⟩
        refine List.forall_mem_cons.2 ⟨fun _ _ _ _ _ h => h, ?_⟩
        refine List.forall_mem_cons.2 ⟨fun _ _ _ _ _ h => h, ?_⟩
        refine List.forall_mem_cons.2 ⟨fun _ _ _ _ _ h => h, ?_⟩
        refine List.forall_mem_cons.2 ⟨fun _ _ _ _ _ h => h, ?_⟩
        refine List.forall_mem_cons.2 ⟨fun _ _ _ _ _ h => h, ?_⟩
        refine List.forall_mem_cons.2 ⟨fun _ _ _ _ _ h => h, ?_⟩
        refine List.forall_mem_cons.2 ⟨fun _ _ _ _ _ h => h, ?_⟩
        refine List.forall_mem_cons.2 ⟨fun _ _ _ _ _ h => h, ?_⟩
        exact fun _ h => absurd h (by simp)
      case g0 => exact trivial
      case good =>
        refine Rg.goodG_cons ?_ ?_
        · intro ac w' cx hg hn
          have e4 := cx.at_ 4 (by kernel_rfl) rfl
          refine .inl ⟨(Rg.wanted_none rfl), fun K hK => ?_⟩
          go_simp
          exact hK _ _ (Below.refl _ _) (fun t ht => by injection ht with ht; subst ht; exact rfl) trivial
        refine Rg.goodG_cons ?_ ?_
        · intro ac w' cx hg hn
          have e7 := cx.at_ 7 (by kernel_rfl) rfl
          refine .inl ⟨(Rg.wanted_none rfl), fun K hK => ?_⟩
          go_simp
          exact hK _ _ (Below.refl _ _) (fun t ht => by injection ht with ht; subst ht; exact rfl) trivial
        refine Rg.goodG_cons ?_ ?_
        · intro ac w' cx hg hn
          obtain ⟨v21, e21, r21⟩ := hn 21 (Rg.mem_of (by kernel_rfl))
          obtain rfl : v21 = .pointer (some ⟨g4, 0, none⟩) := r21
          have hx := Tm.cell_below y0 cx.bel
          refine .inl ⟨(Rg.wanted_none rfl), fun K hK => ?_⟩
          go_simp
          exact hK _ _ (Below.refl _ _) (fun t ht => by injection ht with ht; subst ht; exact rfl) trivial
        refine Rg.goodG_cons ?_ ?_
        · intro ac w' cx hg hn
          have e5 := cx.at_ 5 (by kernel_rfl) rfl
          refine .inl ⟨(Rg.wanted_none rfl), fun K hK => ?_⟩
          go_simp
          exact hK _ _ (Below.refl _ _) (fun t ht => by injection ht with ht; subst ht; exact rfl) trivial
        refine Rg.goodG_cons ?_ ?_
        · intro ac w' cx hg hn
          obtain ⟨v22, e22, r22⟩ := hn 22 (Rg.mem_of (by kernel_rfl))
          obtain rfl : v22 = .int .i64 r1 := r22
          obtain ⟨v23, e23, r23⟩ := hn 23 (Rg.mem_of (by kernel_rfl))
          obtain rfl : v23 = .int .i64 F := r23
          refine .inl ⟨(Rg.wanted_none rfl), fun K hK => ?_⟩
          go_simp
          exact hK _ _ (Below.refl _ _) (fun t ht => by injection ht with ht; subst ht; exact rfl) trivial
        refine Rg.goodG_cons ?_ ?_
        · intro ac w' cx hg hn
          obtain ⟨v24, e24, r24⟩ := hn 24 (Rg.mem_of (by kernel_rfl))
          obtain rfl : v24 = .int .i64 D1 := r24
          refine .inl ⟨(Rg.wanted_none rfl), fun K hK => ?_⟩
          go_simp
          exact hK _ _ (Below.refl _ _) (fun t ht => by injection ht with ht; subst ht; exact rfl) trivial
        refine Rg.goodG_cons ?_ ?_
        · intro ac w' cx hg hn
          obtain ⟨v25, e25, r25⟩ := hn 25 (Rg.mem_of (by kernel_rfl))
          obtain rfl : v25 = .int .u64 D1 := r25
          refine .inl ⟨(Rg.wanted_none rfl), fun K hK => ?_⟩
          go_simp
          refine (HC1.out _).mono ?_
          rintro y w5 ⟨rfl, hb5⟩
          exact hK _ _ hb5 (fun t ht => by injection ht with ht; subst ht; exact rfl) trivial
        refine Rg.goodG_cons ?_ ?_
        · intro ac w' cx hg hn
          have e7 := cx.at_ 7 (by kernel_rfl) rfl
          refine .inl ⟨(Rg.wanted_none rfl), fun K hK => ?_⟩
          go_simp
          exact hK _ _ (Below.refl _ _) (fun t ht => by injection ht with ht; subst ht; exact rfl) trivial
        refine Rg.goodG_cons ?_ ?_
        · intro ac w' cx hg hn
          obtain ⟨v27, e27, r27⟩ := hn 27 (Rg.mem_of (by kernel_rfl))
          obtain rfl : v27 = .pointer (some ⟨g4, 1, none⟩) := r27
          have hx := Tm.cell_below y1 cx.bel
          refine .inl ⟨(Rg.wanted_none rfl), fun K hK => ?_⟩
          go_simp
          exact hK _ _ (Below.refl _ _) (fun t ht => by injection ht with ht; subst ht; exact rfl) trivial
        refine Rg.goodG_cons ?_ ?_
        · intro ac w' cx hg hn
          have e7 := cx.at_ 7 (by kernel_rfl) rfl
          refine .inl ⟨(Rg.wanted_none rfl), fun K hK => ?_⟩
          go_simp
          exact hK _ _ (Below.refl _ _) (fun t ht => by injection ht with ht; subst ht; exact rfl) trivial
        refine Rg.goodG_cons ?_ ?_
        · intro ac w' cx hg hn
          obtain ⟨v29, e29, r29⟩ := hn 29 (Rg.mem_of (by kernel_rfl))
          obtain rfl : v29 = .pointer (some ⟨g4, 0, none⟩) := r29
          have hx := Tm.cell_below y0 cx.bel
          refine .inl ⟨(Rg.wanted_none rfl), fun K hK => ?_⟩
          go_simp
          exact hK _ _ (Below.refl _ _) (fun t ht => by injection ht with ht; subst ht; exact rfl) trivial
        refine Rg.goodG_cons ?_ ?_
        · intro ac w' cx hg hn
          obtain ⟨v28, e28, r28⟩ := hn 28 (Rg.mem_of (by kernel_rfl))
          obtain rfl : v28 = .int .i64 r2 := r28
          obtain ⟨v30, e30, r30⟩ := hn 30 (Rg.mem_of (by kernel_rfl))
          obtain rfl : v30 = .int .i64 r1 := r30
          refine .inl ⟨(Rg.wanted_none rfl), fun K hK => ?_⟩
          go_simp
          exact hK _ _ (Below.refl _ _) (fun t ht => by injection ht with ht; subst ht; exact rfl) trivial
        refine Rg.goodG_cons ?_ ?_
        · intro ac w' cx hg hn
          obtain ⟨v31, e31, r31⟩ := hn 31 (Rg.mem_of (by kernel_rfl))
          obtain rfl : v31 = .int .i64 D2 := r31
          refine .inl ⟨(Rg.wanted_none rfl), fun K hK => ?_⟩
          go_simp
          exact hK _ _ (Below.refl _ _) (fun t ht => by injection ht with ht; subst ht; exact rfl) trivial
        refine Rg.goodG_cons ?_ ?_
        · intro ac w' cx hg hn
          obtain ⟨v32, e32, r32⟩ := hn 32 (Rg.mem_of (by kernel_rfl))
          obtain rfl : v32 = .int .u64 D2 := r32
          refine .inl ⟨(Rg.wanted_none rfl), fun K hK => ?_⟩
          go_simp
          refine (HC2.out _).mono ?_
          rintro y w5 ⟨rfl, hb5⟩
          exact hK _ _ hb5 (fun t ht => by injection ht with ht; subst ht; exact rfl) trivial
        refine Rg.goodG_cons ?_ ?_
        · intro ac w' cx hg hn
          obtain ⟨v26, e26, r26⟩ := hn 26 (Rg.mem_of (by kernel_rfl))
          obtain rfl : v26 = .string S1 := r26
          obtain ⟨v33, e33, r33⟩ := hn 33 (Rg.mem_of (by kernel_rfl))
          obtain rfl : v33 = .string S2 := r33
          refine .inl ⟨(Rg.wanted_none rfl), fun K hK => ?_⟩
          go_simp
          exact hK _ _ (Below.refl _ _) (fun t ht => by injection ht with ht; subst ht; exact rfl) trivial
        refine Rg.goodG_cons ?_ ?_
        · intro ac w' cx hg hn
          obtain ⟨v20, e20, r20⟩ := hn 20 (Rg.mem_of (by kernel_rfl))
          obtain rfl : v20 = .string U := r20
          obtain ⟨v34, e34, r34⟩ := hn 34 (Rg.mem_of (by kernel_rfl))
          obtain rfl : v34 = .string S3 := r34
          refine .inl ⟨(Rg.wanted_none rfl), fun K hK => ?_⟩
          go_simp
          exact hK _ _ (Below.refl _ _) (fun t ht => by injection ht with ht; subst ht; exact rfl) trivial
        exact Rg.goodG_nil
      case done =>
        intro u w6 hb6 hr _
        have q35 : u 35 = .string S4 := hr 35 (by simp)
        simp only [Rg.fillL_cons, Rg.fillL_nil, if_true, if_false, Bool.false_eq_true, q35]
        change wpList _ _ _ [_] _ _
        have B6 := Lib.hid (HB4.out.trans (hb6.mono HB4.out.size))
        obtain ⟨z0, z1⟩ : w6.cell? ⟨g4, 0, none⟩ = some (.int .i64 r1) ∧ w6.cell? ⟨g4, 1, none⟩ = some (.int .i64 r2) := ⟨Tm.cell_below y0 hb6, Tm.cell_below y1 hb6⟩
        clear hr hb6 y0 y1
        go_wp2_with fail
        go_roundw
        case rel => exact Lib.hid ⟨k + 1, r2 + 2, S4, by have := HLT.out; have := HN.out; omega, by go_num, by rw [HES.out], rfl, HS4.out, B6.out⟩
        case measure => simp [intOf]; have := HLT.out; omega
    · obtain rfl : k = n := by have := HN.out; omega
      have hki : ¬ ((k : Int) < (k : Int)) := by omega
      have HF := Lib.hid (show U = Tk.T (layT X) from by
        rw [hU, List.take_of_length_le (by rw [HN.out]; omega)]
        rfl)
      have BF := Lib.hid (HB3.out.trans (hb.mono HB3.out.size))
      clear hU hb
      go_wp2_with fail
      go_ret
      exact ⟨by rw [HF.out]; rfl, BF.out⟩
end Go.Proofs.YtbnbammgjmeicaaDoor.Tl
