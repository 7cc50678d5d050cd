import Derived.Test.YtakomfnajeolcaaGreatDoorCtA48
set_option linter.unusedVariables false
/- ChunkTurns: the walk. -/
namespace Go.Proofs.YtakomfnajeolcaaGreatDoor.Ch
open Go.RowKit Go.Sort Go.Proofs.YtakomfnajeolcaaGreatDoor.En
set_option linter.unusedVariables false

/-- a slice of samples that came in -/
structure ArgS (w : World) (D : Option Addr) (n c : Nat) (l : List SV) : Prop where
  hn : n = l.length
  n9 : (n : Int) ≤ 70368744177664
  cap : n ≤ c ∧ c ≤ 9223372036854775807
  sm : Sm w D l
  cp : Cpd w D l
  su : Sums l
theorem ArgS.below {w w' : World} {D : Option Addr} {n c : Nat} {l : List SV} (h : ArgS w D n c l) (hb : Below w.heap.size w w') : ArgS w' D n c l := ⟨h.hn, h.n9, h.cap, h.sm.below hb, h.cp.below hb, h.su⟩
theorem ArgS.raw {w : World} {D : Option Addr} {n c : Nat} {l : List SV} (h : ArgS w D n c l) : ∀ s ∈ l, Raw s := sm_raw h.sm h.su
theorem ArgS.enc {w : World} {D : Option Addr} {n c : Nat} {l : List SV} (h : ArgS w D n c l) (hT : Tk.Tab w) : Calls Tryz.prog 11 #[.slice D n c] w (EncP w l) := encode_any D n c l w h.hn h.n9 h.cap h.sm h.cp h.su hT
theorem ArgS.light {w : World} {D : Option Addr} {n c : Nat} {l : List SV} (h : ArgS w D n c l) : Calls Tryz.prog 8 #[.slice D n c] w fun e w' => ∃ b : Bool, e = .returned (.bool b) ∧ Below w.heap.size w w' := light_w D n c l w h.hn h.n9 h.sm
theorem decode_no (A : Option Addr) (n c : Nat) (bs : List Nat) (w : World) (h : Tk.Sl w A c bs) (hn : n = bs.length) (h1 : bs.length ≤ 1000000) (hT : Tk.Tab w) (hno : (∀ s ∈ takeF bs, Raw s) → ¬ DecOk bs) :
    Calls Tryz.prog 13 #[.slice A n c] w fun e w' => e = .returned (.tuple #[.slice none 0 0, .int .i64 6]) ∧ Below w.heap.size w w' := by
  refine (decode_any A n c bs w h hn h1 hT).mono ?_
  rintro e w' ⟨hb, ⟨hok, D, c', rfl, hs, _, hsu, _⟩ | ⟨_, rfl⟩⟩
  · exact absurd hok (hno (sm_raw hs hsu))
  · exact ⟨rfl, hb⟩
set_option maxHeartbeats 8000000 in
set_option maxRecDepth 100000 in
theorem turns_main (D D' : Option Addr) (n c n' c' : Nat) (a b : List SV) (u : Nat) (w : World) (ha : ArgS w D n c a) (hb : ArgS w D' n' c' b) (hu : u < 256) (hT : Tk.Tab w) :
    Calls Tryz.prog 6 #[.slice D n c, .slice D' n' c', .int .u8 (u : Int)] w fun e w' => e = .returned (.bool true) ∧ Below w.heap.size w w' := by
  have HA := Lib.hid ha
  have HB := Lib.hid hb
  have HT := Lib.hid hT
  have HAW := Lib.hid (fun (W : World) (hW : Below w.heap.size w W) => awake09 W (Tl.tab_below hT hW))
  clear ha hb hT
  go_enter Tryz.func6, Tryz.ntmps6
  go_wp2_with fail
  refine HA.out.light.mono ?_
  rintro e w1 ⟨LA, rfl, hb1⟩
  have HB1 := Lib.hid hb1
  clear hb1
  cases LA with
  | false =>
    go_wp2_with fail
    refine (HAW.out _ HB1.out).mono ?_
    rintro e w2 ⟨rfl, hb2⟩
    have HB2 := Lib.hid (HB1.out.trans (hb2.mono HB1.out.size))
    clear hb2
    go_wp2_with fail
    go_ret
    exact ⟨rfl, HB2.out⟩
  | true =>
    go_wp2_with fail
    refine (HB.out.below HB1.out).light.mono ?_
    rintro e w2 ⟨LB, rfl, hb2⟩
    have HB2 := Lib.hid (HB1.out.trans (hb2.mono HB1.out.size))
    clear hb2 HB1
    cases LB with
    | false =>
      go_wp2_with fail
      refine (HAW.out _ HB2.out).mono ?_
      rintro e w3 ⟨rfl, hb3⟩
      have HB3 := Lib.hid (HB2.out.trans (hb3.mono HB2.out.size))
      clear hb3
      go_wp2_with fail
      go_ret
      exact ⟨rfl, HB3.out⟩
    | true =>
      go_wp2_with fail
      refine ((HA.out.below HB2.out).enc (Tl.tab_below HT.out HB2.out)).mono ?_
      rintro e w3 ⟨hb3, hca⟩
      have HB3 := Lib.hid (HB2.out.trans (hb3.mono HB2.out.size))
      clear hb3 HB2
      have HEB := Lib.hid ((HB.out.below HB3.out).enc (Tl.tab_below HT.out HB3.out))
      rcases hca with ⟨hne, rfl⟩ | ⟨h0a, A3, c3, x, rfl, hsx, hlx⟩
      · obtain ⟨E, hE⟩ : ∃ E, chkF a = E := ⟨_, rfl⟩
        rw [hE] at hne ⊢
        have hE' : (E != 0) = true := by simpa using hne
        clear hE hne
        go_wp2_with fail
        refine HEB.out.mono ?_
        rintro e w4 ⟨hb4, hcb⟩
        have HB4 := Lib.hid (HB3.out.trans (hb4.mono HB3.out.size))
        clear hb4
        rcases hcb with ⟨hne, rfl⟩ | ⟨h0b, A4, c4, y, rfl, hsy, hly⟩
        · obtain ⟨E2, hE2⟩ : ∃ E, chkF b = E := ⟨_, rfl⟩
          rw [hE2] at hne ⊢
          clear hE2 hne
          go_wp2_with fail
          refine (HAW.out _ HB4.out).mono ?_
          rintro e w5 ⟨rfl, hb5⟩
          have HB5 := Lib.hid (HB4.out.trans (hb5.mono HB4.out.size))
          clear hb5
          go_wp2_with fail
          go_ret
          exact ⟨rfl, HB5.out⟩
        · clear hsy hly h0b
          go_wp2_with fail
          refine (HAW.out _ HB4.out).mono ?_
          rintro e w5 ⟨rfl, hb5⟩
          have HB5 := Lib.hid (HB4.out.trans (hb5.mono HB4.out.size))
          clear hb5
          go_wp2_with fail
          go_ret
          exact ⟨rfl, HB5.out⟩
      · have HX := Lib.hid (And.intro h0a (And.intro hsx hlx))
        obtain ⟨m, hm⟩ : ∃ m, x.length = m := ⟨_, rfl⟩
        have HM := Lib.hid hm
        have hm0 : 0 < m := by rw [← hm]; exact enc_pos hlx
        rw [hm]
        clear h0a hsx hlx hm
        go_wp2_with fail
        refine HEB.out.mono ?_
        rintro e w4 ⟨hb4, hcb⟩
        have HB34 := Lib.hid hb4
        have HB4 := Lib.hid (HB3.out.trans (hb4.mono HB3.out.size))
        clear hb4
        rcases hcb with ⟨hne, rfl⟩ | ⟨h0b, A4, c4, y, rfl, hsy, hly⟩
        · obtain ⟨E2, hE2⟩ : ∃ E, chkF b = E := ⟨_, rfl⟩
          rw [hE2] at hne ⊢
          have hE' : (E2 != 0) = true := by simpa using hne
          clear hE2 hne
          go_wp2_with fail
          refine (HAW.out _ HB4.out).mono ?_
          rintro e w5 ⟨rfl, hb5⟩
          have HB5 := Lib.hid (HB4.out.trans (hb5.mono HB4.out.size))
          clear hb5
          go_wp2_with fail
          go_ret
          exact ⟨rfl, HB5.out⟩
        · have HY := Lib.hid (And.intro h0b (And.intro hsy hly))
          obtain ⟨m2, hm2⟩ : ∃ m, y.length = m := ⟨_, rfl⟩
          have HM2 := Lib.hid hm2
          rw [hm2]
          have hmz : ((m : Int) == 0) = false := by simp; omega
          have HCA := Lib.hid (chn_of HA.out.raw HX.out.1)
          have HCB := Lib.hid (chn_of HB.out.raw HY.out.1)
          have hml := laid_len HCA.out HX.out.2.2
          rw [HM.out] at hml
          clear h0b hsy hly hm2 HB3 HEB
          have hxs : ∃ ax, A3 = some ax := by
            cases hA3 : A3 with
            | none =>
              have h1 := HX.out.2.1.1
              have h2 := HX.out.2.1.2.2.1 hA3
              rw [HM.out] at h1
              omega
            | some ax => exact ⟨ax, rfl⟩
          obtain ⟨ax, rfl⟩ := hxs
          have HSX := Lib.hid (show Tk.Sl w4 (some ax) c3 x from Tk.Sl.kept HX.out.2.1 (Tk.Kept.of_below HB34.out))
          go_wp2_with (at_builtin; refine Tk.wpList_append_bt rfl _ _ rfl w4.heap.size (.slice (some ⟨w4.heap.size, 0, none⟩) 0 0) 0 [] rfl ?c0 (some ax) m c3 x rfl HM.out.symm ?c1 (by omega) ?c2 ?_)
          case c0 => exact Tk.ownsRow_new w4
          case c1 => exact Tk.Sl.kept HSX.out (Tk.Kept.of_below ((Below.refl _ _).alloc (Nat.le_refl _) _))
          case c2 => simp
          intro v5 w5 hown hgr
          try simp only [Nat.zero_add, List.nil_append] at hown
          have HB45 := Lib.hid (show Below w4.heap.size w4 w5 from ((Below.refl _ _).alloc (Nat.le_refl _) _).grown hgr (by simp) (fun k hk => by simp [Value.ownBlock] at hk; omega))
          obtain ⟨hq5, A5, c5, rfl, hq6⟩ := Tk.own_sl hown HSX.out.b8 (by rw [HM.out]; omega)
          have HO5 := Lib.hid hown
          clear hown hgr hq5 hq6
          go_wp2_with (at_builtin; refine Tk.wpList_append_bt rfl _ _ rfl w4.heap.size (.slice A5 m c5) m x rfl ?d0 (some ⟨w5.heap.size, 0, none⟩) 1 1 [u] rfl rfl ?d1 (by omega) ?d2 ?_)
          case d0 => exact HO5.out.alloc _
          case d1 => exact ⟨by simp, by omega, fun e => (by cases e), fun z hz => (by simp at hz; omega), by simp, .inr ⟨w5.heap.size, 0, rfl, fun j z hj => by
            have hj0 : j = 0 := by have := (List.getElem?_eq_some_iff.1 hj).1; simp at this; exact this
            subst hj0
            simp at hj
            subst hj
            exact Tk.new_one _ _ _⟩⟩
          case d2 => have := HB45.out.size; simp; omega
          intro v6 w6 hown hgr
          have HB46 := Lib.hid (show Below w4.heap.size w4 w6 from (HB45.out.alloc HB45.out.size _).grown hgr (by have := HB45.out.size; simp; omega) (fun k hk => (HO5.out.lt k (by first | exact hk | (rw [ownB_len A5 m x.length]; exact hk))).1))
          have hxu : ∀ z ∈ x ++ [u], z < 256 := fun z hz => by
            rcases List.mem_append.1 hz with hz | hz
            · exact HSX.out.b8 z hz
            · simp at hz; omega
          have hlu : (x ++ [u]).length = m + 1 := by rw [List.length_append, HM.out]; rfl
          obtain ⟨hq5, A6, c6, rfl, hs6⟩ := Tk.own_sl hown hxu (by omega)
          have HB6 := Lib.hid (HB4.out.trans (HB46.out.mono HB4.out.size))
          have HD6 := Lib.hid (decode_no A6 (m + 1) c6 (x ++ [u]) w6 hs6 hlu.symm (by omega) (Tl.tab_below HT.out HB6.out) (fun _ => dec_more HCA.out HSX.out.b8 HX.out.2.2 hu))
          clear hown hgr hxu hlu hs6 hq5
          go_wp2_with fail
          refine HD6.out.mono ?_
          rintro e w7 ⟨rfl, hb7⟩
          have HB47 := Lib.hid (HB46.out.trans (hb7.mono HB46.out.size))
          have HB7 := Lib.hid (HB4.out.trans (HB47.out.mono HB4.out.size))
          have HS7 := Lib.hid (show Tk.Sl w7 (some ax) c3 x from Tk.Sl.kept HSX.out (Tk.Kept.of_below HB47.out))
          have hml2 : (x.take (x.length - 1)).length = m - 1 := by rw [List.length_take, HM.out]; omega
          have HD7 := Lib.hid (decode_no (some ax) (m - 1) c3 (x.take (x.length - 1)) w7 (Sl_take HS7.out _) hml2.symm (by omega) (Tl.tab_below HT.out HB7.out) (fun hr => dec_less HCA.out HSX.out.b8 HX.out.2.2 (by rw [HM.out]; exact hm0) hr))
          have hc3 : (m : Int) ≤ (c3 : Int) := by have := HSX.out.1; rw [HM.out] at this; omega
          clear hb7 hml2 HD6
          go_wp2_with fail
          refine HD7.out.mono ?_
          rintro e w8 ⟨rfl, hb8⟩
          have HB48 := Lib.hid (HB47.out.trans (hb8.mono HB47.out.size))
          have HB8 := Lib.hid (HB4.out.trans (HB48.out.mono HB4.out.size))
          have HSX8 := Lib.hid (show Tk.Sl w8 (some ax) c3 x from Tk.Sl.kept HSX.out (Tk.Kept.of_below HB48.out))
          have HSY8 := Lib.hid (show Tk.Sl w8 A4 c4 y from Tk.Sl.kept HY.out.2.1 (Tk.Kept.of_below HB48.out))
          clear hb8 HD7 hc3
          obtain ⟨ZB, hZB⟩ : ∃ z : Bool, decide (x = y) = z := ⟨_, rfl⟩
          have HZI := Lib.hid (show ZB = true ↔ a = b from by rw [← hZB, decide_eq_true_iff]; exact enc_same HCA.out HCB.out HSX.out.b8 HX.out.2.2 HY.out.2.2)
          have HZE := Lib.hid (show ((txB x).toList == (txB y).toList) = ZB from by rw [← hZB]; exact txB_eq HSX.out.b8 HSY8.out.b8)
          obtain ⟨TX, hTX⟩ : ∃ t, txB x = t := ⟨_, rfl⟩
          obtain ⟨TY, hTY⟩ : ∃ t, txB y = t := ⟨_, rfl⟩
          have HTX := Lib.hid (And.intro hTX hTY)
          rw [hTX, hTY] at HZE
          clear hZB hTX hTY
          go_wp2_with fail
          refine Rg.wp_region_inv (R := fun sl v w => match sl with
              | 73 => v = .bool true
              | 74 => v = .bool true
              | 75 => v = .slice (some ax) m c3
              | 76 => v = .string TX
              | 77 => v = .slice A4 m2 c4
              | 78 => v = .string TY
              | 79 => v = .bool ZB
              | 80 => v = .slice D n c
              | 81 => v = .slice D' n' c'
              | 82 => v = .bool ZB
              | 83 => v = .bool true
              | 84 => v = .bool true
              | 85 => v = .bool true
              | 86 => v = .int .i64 6
              | 87 => v = .bool true
              | 88 => v = .bool true
              | 89 => v = .bool true
              | 90 => v = .int .i64 6
              | 91 => v = .bool true
              | 92 => v = .bool true
              | 6 => v = .bool true
              | _ => True) [73, 74, 75, 76, 77, 78, 79, 80, 81, 82, 83, 84, 85, 86, 87, 88, 89, 90, 91, 92, 6] 93 [false, false, false, false, false, false, true, false, false, false, false, false, false, false, false, false, false, false, false, false, false, false, false, false, false, false, false, false, false, false, false, false, false, false, false, false, false, false, false, false, false, false, false, false, false, false, false, false, false, false, false, false, false, false, false, false, false, false, false, false, false, false, false, false, false, false, false, false, false, false, false, false, false, true, true, true, true, true, true, true, true, true, true, true, true, true, true, true, true, true, true, true, true] (by kernel_rfl) rfl (by kernel_rfl) (by kernel_rfl) (by kernel_rfl) (by kernel_rfl) (by kernel_rfl) ?mono ?good ?done
          case mono =>
            refine List.forall_mem_cons.2 ⟨fun _ _ _ _ _ h => h, ?_⟩
            refine List.forall_mem_cons.2 ⟨fun _ _ _ _ _ h => h, ?_⟩
            refine List.forall_mem_cons.2 ⟨fun _ _ _ _ _ h => h, ?_⟩
            refine List.forall_mem_cons.2 ⟨fun _ _ _ _ _ h => h, ?_⟩
            refine List.forall_mem_cons.2 ⟨fun _ _ _ _ _ h => h, ?_⟩
            refine List.forall_mem_cons.2 ⟨fun _ _ _ _ _ h => h, ?_⟩
            refine List.forall_mem_cons.2 ⟨fun _ _ _ _ _ h => h, ?_⟩
            refine List.forall_mem_cons.2 ⟨fun _ _ _ _ _ h => h, ?_⟩
            refine List.forall_mem_cons.2 ⟨fun _ _ _ _ _ h => h, ?_⟩
            refine List.forall_mem_cons.2 ⟨fun _ _ _ _ _ h => h, ?_⟩
            refine List.forall_mem_cons.2 ⟨fun _ _ _ _ _ h => h, ?_⟩
            refine List.forall_mem_cons.2 ⟨fun _ _ _ _ _ h => h, ?_⟩
            refine List.forall_mem_cons.2 ⟨fun _ _ _ _ _ h => h, ?_⟩
            refine List.forall_mem_cons.2 ⟨fun _ _ _ _ _ h => h, ?_⟩
            refine List.forall_mem_cons.2 ⟨fun _ _ _ _ _ h => h, ?_⟩
            refine List.forall_mem_cons.2 ⟨fun _ _ _ _ _ h => h, ?_⟩
            refine List.forall_mem_cons.2 ⟨fun _ _ _ _ _ h => h, ?_⟩
            refine List.forall_mem_cons.2 ⟨fun _ _ _ _ _ h => h, ?_⟩
            refine List.forall_mem_cons.2 ⟨fun _ _ _ _ _ h => h, ?_⟩
            refine List.forall_mem_cons.2 ⟨fun _ _ _ _ _ h => h, ?_⟩
            refine List.forall_mem_cons.2 ⟨fun _ _ _ _ _ h => h, ?_⟩
            exact fun _ h => absurd h (by simp)
          case good =>
            refine Rg.good_cons ?_ ?_
            · intro ac w' cx hn
              refine .inl ⟨(Rg.wanted_none rfl), fun K hK => ?_⟩
              go_simp
              refine (HAW.out w' (HB8.out.trans (cx.bel.mono HB8.out.size))).mono ?_
              rintro e w2' ⟨rfl, hb⟩
              exact hK _ _ hb (fun t ht => by injection ht with ht; subst ht; exact rfl)
            refine Rg.good_cons ?_ ?_
            · intro ac w' cx hn
              obtain ⟨v73, e73, r73⟩ := hn 73 (Rg.mem_of (by kernel_rfl))
              obtain rfl : v73 = .bool true := r73
              refine .inl ⟨(Rg.wanted_none rfl), fun K hK => ?_⟩
              go_simp
              exact hK _ _ (Below.refl _ _) (fun t ht => by injection ht with ht; subst ht; exact rfl)
            refine Rg.good_cons ?_ ?_
            · intro ac w' cx hn
              have e7 := cx.at_ 7 (by kernel_rfl) rfl
              obtain ⟨v74, e74, r74⟩ := hn 74 (Rg.mem_of (by kernel_rfl))
              obtain rfl : v74 = .bool true := r74
              refine .inl ⟨((Rg.wanted_some (t := 74) rfl (by kernel_rfl) e74).trans rfl), fun K hK => ?_⟩
              go_simp
              exact hK _ _ (Below.refl _ _) (fun t ht => by injection ht with ht; subst ht; exact rfl)
            refine Rg.good_cons ?_ ?_
            · intro ac w' cx hn
              obtain ⟨v75, e75, r75⟩ := hn 75 (Rg.mem_of (by kernel_rfl))
              obtain rfl : v75 = .slice (some ax) m c3 := r75
              obtain ⟨v74, e74, r74⟩ := hn 74 (Rg.mem_of (by kernel_rfl))
              obtain rfl : v74 = .bool true := r74
              refine .inl ⟨((Rg.wanted_some (t := 74) rfl (by kernel_rfl) e74).trans rfl), fun K hK => ?_⟩
              have ec := sl_txt (Tk.Sl.kept HSX8.out (Tk.Kept.of_below cx.bel))
              rw [HM.out, HTX.out.1] at ec
              go_simp
              exact hK _ _ (Below.refl _ _) (fun t ht => by injection ht with ht; subst ht; exact rfl)
            refine Rg.good_cons ?_ ?_
            · intro ac w' cx hn
              have e9 := cx.at_ 9 (by kernel_rfl) rfl
              obtain ⟨v74, e74, r74⟩ := hn 74 (Rg.mem_of (by kernel_rfl))
              obtain rfl : v74 = .bool true := r74
              refine .inl ⟨((Rg.wanted_some (t := 74) rfl (by kernel_rfl) e74).trans rfl), fun K hK => ?_⟩
              go_simp
              exact hK _ _ (Below.refl _ _) (fun t ht => by injection ht with ht; subst ht; exact rfl)
            refine Rg.good_cons ?_ ?_
            · intro ac w' cx hn
              obtain ⟨v77, e77, r77⟩ := hn 77 (Rg.mem_of (by kernel_rfl))
              obtain rfl : v77 = .slice A4 m2 c4 := r77
              obtain ⟨v74, e74, r74⟩ := hn 74 (Rg.mem_of (by kernel_rfl))
              obtain rfl : v74 = .bool true := r74
              refine .inl ⟨((Rg.wanted_some (t := 74) rfl (by kernel_rfl) e74).trans rfl), fun K hK => ?_⟩
              have ec := sl_txt (Tk.Sl.kept HSY8.out (Tk.Kept.of_below cx.bel))
              rw [HM2.out, HTX.out.2] at ec
              go_simp
              exact hK _ _ (Below.refl _ _) (fun t ht => by injection ht with ht; subst ht; exact rfl)
            refine Rg.good_cons ?_ ?_
            · intro ac w' cx hn
              obtain ⟨v76, e76, r76⟩ := hn 76 (Rg.mem_of (by kernel_rfl))
              obtain rfl : v76 = .string TX := r76
              obtain ⟨v78, e78, r78⟩ := hn 78 (Rg.mem_of (by kernel_rfl))
              obtain rfl : v78 = .string TY := r78
              obtain ⟨v74, e74, r74⟩ := hn 74 (Rg.mem_of (by kernel_rfl))
              obtain rfl : v74 = .bool true := r74
              refine .inl ⟨((Rg.wanted_some (t := 74) rfl (by kernel_rfl) e74).trans rfl), fun K hK => ?_⟩
              have he := HZE.out
              go_simp
              exact hK _ _ (Below.refl _ _) (fun t ht => by injection ht with ht; subst ht; exact (by first | rfl | exact congrArg Value.bool he | (simp [he])))
            refine Rg.good_cons ?_ ?_
            · intro ac w' cx hn
              have e0 := cx.at_ 0 (by kernel_rfl) rfl
              obtain ⟨v74, e74, r74⟩ := hn 74 (Rg.mem_of (by kernel_rfl))
              obtain rfl : v74 = .bool true := r74
              refine .inl ⟨((Rg.wanted_some (t := 74) rfl (by kernel_rfl) e74).trans rfl), fun K hK => ?_⟩
              go_simp
              exact hK _ _ (Below.refl _ _) (fun t ht => by injection ht with ht; subst ht; exact rfl)
            refine Rg.good_cons ?_ ?_
            · intro ac w' cx hn
              have e1 := cx.at_ 1 (by kernel_rfl) rfl
              obtain ⟨v74, e74, r74⟩ := hn 74 (Rg.mem_of (by kernel_rfl))
              obtain rfl : v74 = .bool true := r74
              refine .inl ⟨((Rg.wanted_some (t := 74) rfl (by kernel_rfl) e74).trans rfl), fun K hK => ?_⟩
              go_simp
              exact hK _ _ (Below.refl _ _) (fun t ht => by injection ht with ht; subst ht; exact rfl)
            refine Rg.good_cons ?_ ?_
            · intro ac w' cx hn
              obtain ⟨v80, e80, r80⟩ := hn 80 (Rg.mem_of (by kernel_rfl))
              obtain rfl : v80 = .slice D n c := r80
              obtain ⟨v81, e81, r81⟩ := hn 81 (Rg.mem_of (by kernel_rfl))
              obtain rfl : v81 = .slice D' n' c' := r81
              obtain ⟨v74, e74, r74⟩ := hn 74 (Rg.mem_of (by kernel_rfl))
              obtain rfl : v74 = .bool true := r74
              refine .inl ⟨((Rg.wanted_some (t := 74) rfl (by kernel_rfl) e74).trans rfl), fun K hK => ?_⟩
              have hA' := HA.out.below (HB8.out.trans (cx.bel.mono HB8.out.size))
              have hB' := HB.out.below (HB8.out.trans (cx.bel.mono HB8.out.size))
              go_simp
              refine (same_sm D D' n n' c c' a b w' hA'.hn hB'.hn hA'.n9 hB'.n9 hA'.sm hB'.sm).mono ?_
              rintro e w2' ⟨bb, rfl, hbb, hb⟩
              obtain rfl : bb = ZB := Bool.eq_iff_iff.2 (hbb.trans HZI.out.symm)
              exact hK _ _ hb (fun t ht => by injection ht with ht; subst ht; exact rfl)
            refine Rg.good_cons ?_ ?_
            · intro ac w' cx hn
              obtain ⟨v79, e79, r79⟩ := hn 79 (Rg.mem_of (by kernel_rfl))
              obtain rfl : v79 = .bool ZB := r79
              obtain ⟨v82, e82, r82⟩ := hn 82 (Rg.mem_of (by kernel_rfl))
              obtain rfl : v82 = .bool ZB := r82
              obtain ⟨v74, e74, r74⟩ := hn 74 (Rg.mem_of (by kernel_rfl))
              obtain rfl : v74 = .bool true := r74
              refine .inl ⟨((Rg.wanted_some (t := 74) rfl (by kernel_rfl) e74).trans rfl), fun K hK => ?_⟩
              go_simp
              exact hK _ _ (Below.refl _ _) (fun t ht => by injection ht with ht; subst ht; exact (by first | rfl | simp))
            refine Rg.good_cons ?_ ?_
            · intro ac w' cx hn
              obtain ⟨v74, e74, r74⟩ := hn 74 (Rg.mem_of (by kernel_rfl))
              obtain rfl : v74 = .bool true := r74
              obtain ⟨v83, e83, r83⟩ := hn 83 (Rg.mem_of (by kernel_rfl))
              obtain rfl : v83 = .bool true := r83
              refine .inl ⟨(Rg.wanted_none rfl), fun K hK => ?_⟩
              go_simp
              exact hK _ _ (Below.refl _ _) (fun t ht => by injection ht with ht; subst ht; exact rfl)
            refine Rg.good_cons ?_ ?_
            · intro ac w' cx hn
              obtain ⟨v84, e84, r84⟩ := hn 84 (Rg.mem_of (by kernel_rfl))
              obtain rfl : v84 = .bool true := r84
              refine .inl ⟨(Rg.wanted_none rfl), fun K hK => ?_⟩
              go_simp
              exact hK _ _ (Below.refl _ _) (fun t ht => by injection ht with ht; subst ht; exact rfl)
            refine Rg.good_cons ?_ ?_
            · intro ac w' cx hn
              have e12 := cx.at_ 12 (by kernel_rfl) rfl
              obtain ⟨v85, e85, r85⟩ := hn 85 (Rg.mem_of (by kernel_rfl))
              obtain rfl : v85 = .bool true := r85
              refine .inl ⟨((Rg.wanted_some (t := 85) rfl (by kernel_rfl) e85).trans rfl), fun K hK => ?_⟩
              go_simp
              exact hK _ _ (Below.refl _ _) (fun t ht => by injection ht with ht; subst ht; exact rfl)
            refine Rg.good_cons ?_ ?_
            · intro ac w' cx hn
              obtain ⟨v86, e86, r86⟩ := hn 86 (Rg.mem_of (by kernel_rfl))
              obtain rfl : v86 = .int .i64 6 := r86
              obtain ⟨v85, e85, r85⟩ := hn 85 (Rg.mem_of (by kernel_rfl))
              obtain rfl : v85 = .bool true := r85
              refine .inl ⟨((Rg.wanted_some (t := 85) rfl (by kernel_rfl) e85).trans rfl), fun K hK => ?_⟩
              go_simp
              exact hK _ _ (Below.refl _ _) (fun t ht => by injection ht with ht; subst ht; exact rfl)
            refine Rg.good_cons ?_ ?_
            · intro ac w' cx hn
              obtain ⟨v85, e85, r85⟩ := hn 85 (Rg.mem_of (by kernel_rfl))
              obtain rfl : v85 = .bool true := r85
              obtain ⟨v87, e87, r87⟩ := hn 87 (Rg.mem_of (by kernel_rfl))
              obtain rfl : v87 = .bool true := r87
              refine .inl ⟨(Rg.wanted_none rfl), fun K hK => ?_⟩
              go_simp
              exact hK _ _ (Below.refl _ _) (fun t ht => by injection ht with ht; subst ht; exact rfl)
            refine Rg.good_cons ?_ ?_
            · intro ac w' cx hn
              obtain ⟨v88, e88, r88⟩ := hn 88 (Rg.mem_of (by kernel_rfl))
              obtain rfl : v88 = .bool true := r88
              refine .inl ⟨(Rg.wanted_none rfl), fun K hK => ?_⟩
              go_simp
              exact hK _ _ (Below.refl _ _) (fun t ht => by injection ht with ht; subst ht; exact rfl)
            refine Rg.good_cons ?_ ?_
            · intro ac w' cx hn
              have e14 := cx.at_ 14 (by kernel_rfl) rfl
              obtain ⟨v89, e89, r89⟩ := hn 89 (Rg.mem_of (by kernel_rfl))
              obtain rfl : v89 = .bool true := r89
              refine .inl ⟨((Rg.wanted_some (t := 89) rfl (by kernel_rfl) e89).trans rfl), fun K hK => ?_⟩
              go_simp
              exact hK _ _ (Below.refl _ _) (fun t ht => by injection ht with ht; subst ht; exact rfl)
            refine Rg.good_cons ?_ ?_
            · intro ac w' cx hn
              obtain ⟨v90, e90, r90⟩ := hn 90 (Rg.mem_of (by kernel_rfl))
              obtain rfl : v90 = .int .i64 6 := r90
              obtain ⟨v89, e89, r89⟩ := hn 89 (Rg.mem_of (by kernel_rfl))
              obtain rfl : v89 = .bool true := r89
              refine .inl ⟨((Rg.wanted_some (t := 89) rfl (by kernel_rfl) e89).trans rfl), fun K hK => ?_⟩
              go_simp
              exact hK _ _ (Below.refl _ _) (fun t ht => by injection ht with ht; subst ht; exact rfl)
            refine Rg.good_cons ?_ ?_
            · intro ac w' cx hn
              obtain ⟨v89, e89, r89⟩ := hn 89 (Rg.mem_of (by kernel_rfl))
              obtain rfl : v89 = .bool true := r89
              obtain ⟨v91, e91, r91⟩ := hn 91 (Rg.mem_of (by kernel_rfl))
              obtain rfl : v91 = .bool true := r91
              refine .inl ⟨(Rg.wanted_none rfl), fun K hK => ?_⟩
              go_simp
              exact hK _ _ (Below.refl _ _) (fun t ht => by injection ht with ht; subst ht; exact rfl)
            refine Rg.good_cons ?_ ?_
            · intro ac w' cx hn
              obtain ⟨v92, e92, r92⟩ := hn 92 (Rg.mem_of (by kernel_rfl))
              obtain rfl : v92 = .bool true := r92
              refine .inl ⟨(Rg.wanted_none rfl), fun K hK => ?_⟩
              go_simp
              exact hK _ _ (Below.refl _ _) (fun t ht => by injection ht with ht; subst ht; exact rfl)
            exact Rg.good_nil
          case done =>
            intro u9 w9 hb9 hr
            have q6 : u9 6 = .bool true := hr 6 (by simp)
            simp only [Rg.fillL_cons, Rg.fillL_nil, if_true, if_false, Bool.false_eq_true, q6, List.drop_succ_cons, List.drop_zero]
            have HB9 := Lib.hid (HB8.out.trans (hb9.mono HB8.out.size))
            clear hr hb9 q6
            go_wp2_with fail
            go_ret
            exact ⟨rfl, HB9.out⟩
end Go.Proofs.YtakomfnajeolcaaGreatDoor.Ch
