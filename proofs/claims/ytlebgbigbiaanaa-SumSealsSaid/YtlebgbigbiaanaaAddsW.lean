/- The law SumAdds' walk: for all slices of bytes and every uint32 it returns true; of what was in memory nothing turns. -/
import Derived.Test.YtlebgbigbiaanaaSumH
import Derived.Deep.RegionWith
import Derived.RegionTactic
import Derived.Deep.DrawnRows
namespace Go.Proofs.Ytlebgbigbiaanaa
open Go.RowKit Go.Sort
set_option linter.unusedVariables false
attribute [local go_sem ↓] Go.wp_at_zero Go.wp_at_succ

theorem of_at (P : Option Addr) (n c : Nat) (ls : List (List Nat)) (v : Nat) (w : World) (h : Ps w P ls) (hn : n = ls.length) (hv : crcOf ls.flatten = v) :
    Calls Try.prog 13 #[.slice P n c] w fun e w' => e = .returned (.int .u32 (v : Int)) ∧ Below w.heap.size w w' := by
  subst hn hv
  exact of_any P c ls w h
theorem refof_at (A : Option Addr) (n c : Nat) (bs : List Nat) (v : Nat) (w : World) (h : Bt w A bs) (hn : n = bs.length) (hv : crcOf bs = v) :
    Calls Try.prog 14 #[.slice A n c] w fun e w' => e = .returned (.int .u32 (v : Int)) ∧ w = w' := by
  subst hn hv
  exact refof_any A c bs w h
theorem num_at (A : Option Addr) (n c : Nat) (bs : List Nat) (v : Nat) (w : World) (h : Bt w A bs) (hn : n = bs.length) (hv : numL bs = v) :
    Calls Try.prog 17 #[.slice A n c] w fun e w' => e = .returned (.int .u32 (v : Int)) ∧ w = w' := by
  subst hn hv
  exact number_any A c bs w h
theorem refnum_at (A : Option Addr) (n c : Nat) (bs : List Nat) (v : Nat) (w : World) (h : Bt w A bs) (hn : n = bs.length) (hv : numL bs = v) :
    Calls Try.prog 18 #[.slice A n c] w fun e w' => e = .returned (.int .u32 (v : Int)) ∧ w = w' := by
  subst hn hv
  exact refnumber_any A c bs w h
theorem ps_two {w : World} {A0 A1 : Option Addr} {n0 n1 c0 c1 : Nat} {xs bs : List Nat} (h0 : n0 = xs.length) (h1 : n1 = bs.length) (B0 : Bt w A0 xs) (B1 : Bt w A1 bs) (t : TypeId) :
    Ps (w.alloc (.cells #[.slice A0 n0 c0, .slice A1 n1 c1] t)) (some ⟨w.heap.size, 0, none⟩) [xs, bs] := by
  subst h0 h1
  refine ⟨by simp, .inr ⟨_, 0, rfl, fun j l hj => ?_⟩⟩
  have k : Kept w (w.alloc (.cells #[.slice A0 xs.length c0, .slice A1 bs.length c1] t)) := Kept.of_below ((Below.refl _ _).alloc (Nat.le_refl _) _)
  have hj2 : j = 0 ∨ j = 1 := by
    obtain ⟨h, _⟩ := List.getElem?_eq_some_iff.1 hj
    simp at h
    omega
  rcases hj2 with rfl | rfl
  · simp at hj; subst hj
    exact ⟨A0, c0, by simp [go_sem], B0.kept k⟩
  · simp at hj; subst hj
    exact ⟨A1, c1, by simp [go_sem], B1.kept k⟩
theorem ps_one {w : World} {A0 : Option Addr} {n0 c0 : Nat} {xs : List Nat} (h0 : n0 = xs.length) (B0 : Bt w A0 xs) (t : TypeId) :
    Ps (w.alloc (.cells #[.slice A0 n0 c0] t)) (some ⟨w.heap.size, 0, none⟩) [xs] := by
  subst h0
  refine ⟨by simp, .inr ⟨_, 0, rfl, fun j l hj => ?_⟩⟩
  have k : Kept w (w.alloc (.cells #[.slice A0 xs.length c0] t)) := Kept.of_below ((Below.refl _ _).alloc (Nat.le_refl _) _)
  have hj2 : j = 0 := by
    obtain ⟨h, _⟩ := List.getElem?_eq_some_iff.1 hj
    simpa using h
  subst hj2
  simp at hj; subst hj
  exact ⟨A0, c0, by simp [go_sem], B0.kept k⟩
/-- memory only more: of what was there nothing has turned -/
def Gr (w W : World) : Prop := Below w.heap.size w W
theorem Gr.refl (w : World) : Gr w w := Below.refl _ _
theorem Gr.drew {w W : World} (h : Gr w W) : Gr w W.drew := Below.drew h
theorem Gr.alloc {w W : World} (h : Gr w W) (o : Obj) : Gr w (W.alloc o) := Below.alloc h (Below.size h) o
theorem Gr.step {w W W' : World} (h : Gr w W) (hb : Below W.heap.size W W') : Gr w W' := Below.trans h (hb.mono (Below.size h))
theorem Gr.kept {w W : World} (h : Gr w W) : Kept w W := Kept.of_below h
theorem reffour_at (n : Nat) (w : World) (h : n < 4294967296) :
    Calls Try.prog 16 #[.int .u32 (n : Int)] w fun e w' => ∃ b off c, e = .returned (.slice (some ⟨b, off, none⟩) 4 c) ∧ Bt w' (some ⟨b, off, none⟩) (fourL n) ∧ Below w.heap.size w w' := by
  refine (reffour_any n w h).mono fun e w' hp => ?_
  obtain ⟨A, c, he, hS, hb⟩ := hp
  obtain ⟨b, off, rfl, _⟩ := hS.2.2.2.some_ (by simp [fourL])
  exact ⟨b, off, c, he, hS.2.2.2, hb⟩
theorem Kept.refl (w : World) : Kept w w := fun _ _ h => h
theorem Kept.drew {w w' : World} (h : Kept w w') : Kept w w'.drew := h
theorem Kept.alloc {w w' : World} (h : Kept w w') (o : Obj) : Kept w (w'.alloc o) := h.trans (Kept.of_below ((Below.refl _ _).alloc (Nat.le_refl _) _))

set_option maxHeartbeats 4000000 in
set_option maxRecDepth 100000 in
theorem adds_small (A0 A1 : Option Addr) (c0 c1 : Nat) (xs bs : List Nat) (n : Nat) (w : World) (S0 : Sl w A0 c0 xs) (S1 : Sl w A1 c1 bs) (hl : xs.length + bs.length ≤ 2000) (hn : n < 4294967296) :
    Calls Try.prog 3 #[.slice A0 xs.length c0, .slice A1 bs.length c1, .int .u32 (n : Int)] w fun e w' => e = .returned (.bool true) ∧ Below w.heap.size w w' := by
  have H0 := Lib.hid S0
  have H1 := Lib.hid S1
  have hli : (xs.length : Int) + (bs.length : Int) ≤ 2000 := by omega
  clear S0 S1
  go_enter Try.func3, Try.ntmps3
  go_wp2_with (at_builtin; refine wpList_append_bt rfl _ _ rfl w.heap.size (.slice (some ⟨w.heap.size, 0, none⟩) 0 0) 0 [] rfl ?c0 A0 xs.length c0 xs rfl rfl ?c1 ?c2 ?c3 ?_)
  case c0 => exact ownsRow_new w
  case c1 => exact H0.out.kept (Kept.of_below ((Below.refl _ _).alloc (Nat.le_refl _) _))
  case c2 => omega
  case c3 => simp
  intro v1 w1 hown hgrow
  try simp only [Nat.zero_add, List.nil_append] at hown
  have hb : Below w.heap.size w w1 := ((Below.refl _ _).alloc (Nat.le_refl _) _).grown hgrow (by simp) (fun k hk => by simp [Value.ownBlock] at hk; omega)
  have HO := Lib.hid hown
  have HB := Lib.hid hb
  clear hown hgrow hb
  go_wp2_with (at_builtin; refine wpList_append_bt rfl _ _ rfl w.heap.size v1 xs.length xs rfl ?d0 A1 bs.length c1 bs rfl rfl ?d1 ?d2 ?d3 ?_)
  case d0 => exact HO.out
  case d1 => exact H1.out.kept (Kept.of_below HB.out)
  case d2 => omega
  case d3 => exact HB.out.size
  intro v2 w2 hown hgrow
  have hb : Below w.heap.size w w2 := below_own HB.out HB.out.size HO.out hgrow
  obtain ⟨hlen, A2, c2, rfl, hS⟩ := own_sl hown (by
    intro x hx
    rcases List.mem_append.1 hx with h | h
    · exact H0.out.b8 x h
    · exact H1.out.b8 x h) (by simp; omega)
  have HS := Lib.hid hS
  have HB2 := Lib.hid hb
  have HL := Lib.hid hlen
  have K0 := Lib.hid (H0.out.kept (Kept.of_below hb))
  have K1 := Lib.hid (H1.out.kept (Kept.of_below hb))
  clear hown hgrow hb hS hlen HO HB
  go_wp2_with fail
  obtain ⟨V, hV⟩ : ∃ V, crcOf (xs ++ bs) = V := ⟨_, rfl⟩
  have F2 : ∀ W, Gr w2 W → Calls Try.prog 13 #[.slice (some ⟨W.heap.size, 0, none⟩) 2 2] (W.alloc (.cells #[.slice A0 xs.length c0, .slice A1 bs.length c1] 22)) fun e w' => e = .returned (.int .u32 (V : Int)) ∧ Below (W.alloc (.cells #[.slice A0 xs.length c0, .slice A1 bs.length c1] 22)).heap.size (W.alloc (.cells #[.slice A0 xs.length c0, .slice A1 bs.length c1] 22)) w' :=
    fun W hg => of_at _ 2 2 [xs, bs] V _ (ps_two rfl rfl (K0.out.2.2.2.kept hg.kept) (K1.out.2.2.2.kept hg.kept) _) rfl (by rw [← hV]; simp)
  have F1 : ∀ W, Gr w2 W → Calls Try.prog 13 #[.slice (some ⟨W.heap.size, 0, none⟩) 1 1] (W.alloc (.cells #[.slice A2 (xs.length + bs.length) c2] 22)) fun e w' => e = .returned (.int .u32 (V : Int)) ∧ Below (W.alloc (.cells #[.slice A2 (xs.length + bs.length) c2] 22)).heap.size (W.alloc (.cells #[.slice A2 (xs.length + bs.length) c2] 22)) w' :=
    fun W hg => of_at _ 1 1 [xs ++ bs] V _ (ps_one HL.out (HS.out.2.2.2.kept hg.kept) _) rfl (by rw [← hV]; simp)
  have FR : ∀ W, Gr w2 W → Calls Try.prog 14 #[.slice A2 (xs.length + bs.length) c2] W fun e w' => e = .returned (.int .u32 (V : Int)) ∧ W = w' :=
    fun W hg => refof_at A2 _ c2 (xs ++ bs) V W (HS.out.2.2.2.kept hg.kept) HL.out hV
  obtain ⟨N, hN⟩ : ∃ N, numL xs = N := ⟨_, rfl⟩
  have FN : ∀ W, Gr w2 W → Calls Try.prog 17 #[.slice A0 xs.length c0] W fun e w' => e = .returned (.int .u32 (N : Int)) ∧ W = w' :=
    fun W hg => num_at A0 _ c0 xs N W (K0.out.2.2.2.kept hg.kept) rfl hN
  have FM : ∀ W, Gr w2 W → Calls Try.prog 18 #[.slice A0 xs.length c0] W fun e w' => e = .returned (.int .u32 (N : Int)) ∧ W = w' :=
    fun W hg => refnum_at A0 _ c0 xs N W (K0.out.2.2.2.kept hg.kept) rfl hN
  have HF2 := Lib.hid F2
  have HF1 := Lib.hid F1
  have HFR := Lib.hid FR
  have HFN := Lib.hid FN
  have HFM := Lib.hid FM
  have HNF := Lib.hid (numL_four hn)
  clear F2 F1 FR FN FM hN hV
  have HF4 := Lib.hid (show ∀ W A, Bt W A (fourL n) → Calls Try.prog 17 #[.slice A 4 4] W (fun e w' => e = .returned (.int .u32 (n : Int)) ∧ W = w') from fun W A hB => num_at A 4 4 (fourL n) n W hB rfl HNF.out)
  go_region_with (first | (go_at_call 12; ((with_reducible refine (awake03 _).mono ?_); rintro e w3 ⟨rfl, hb3⟩; have hg : Gr w2 w3 := Gr.step (by repeat (first | exact Gr.refl _ | assumption | apply Gr.alloc | apply Gr.drew)) hb3; clear hb3)) | (go_at_call 13; first | ((with_reducible refine (HF2.out _ (by repeat (first | exact Gr.refl _ | assumption | apply Gr.alloc | apply Gr.drew))).mono ?_); rintro e w3 ⟨rfl, hb3⟩; have hg : Gr w2 w3 := Gr.step (by repeat (first | exact Gr.refl _ | assumption | apply Gr.alloc | apply Gr.drew)) hb3; clear hb3) | ((with_reducible refine (HF1.out _ (by repeat (first | exact Gr.refl _ | assumption | apply Gr.alloc | apply Gr.drew))).mono ?_); rintro e w3 ⟨rfl, hb3⟩; have hg : Gr w2 w3 := Gr.step (by repeat (first | exact Gr.refl _ | assumption | apply Gr.alloc | apply Gr.drew)) hb3; clear hb3)) | (go_at_call 14; ((with_reducible refine (HFR.out _ (by repeat (first | exact Gr.refl _ | assumption | apply Gr.alloc | apply Gr.drew))).mono ?_); rintro e w3 ⟨rfl, rfl⟩)) | (go_at_call 15; ((with_reducible refine (four_any n _ hn).mono ?_); rintro e w3 ⟨rfl, hb3, ht3, hs3⟩; have s3 := bt_string 4 ht3 4 rfl; have HT3 := Lib.hid ht3; clear ht3 hs3; have hg : Gr w2 w3 := Gr.step (by repeat (first | exact Gr.refl _ | assumption | apply Gr.alloc | apply Gr.drew)) hb3; clear hb3)) | (go_at_call 16; ((with_reducible refine (reffour_at n _ hn).mono ?_); rintro e w3 ⟨b3, o3, c3, rfl, ht3, hb3⟩; have s4 := bt_string c3 ht3 4 rfl; have s5 := bt_string 4 (Bt.kept (Hid.out ‹Hid (Bt _ _ (fourL n))›) (Kept.of_below hb3)) 4 rfl; clear ht3; have hg : Gr w2 w3 := Gr.step (by repeat (first | exact Gr.refl _ | assumption | apply Gr.alloc | apply Gr.drew)) hb3; clear hb3)) | (go_at_call 17; first | ((with_reducible refine (HFN.out _ (by repeat (first | exact Gr.refl _ | assumption | apply Gr.alloc | apply Gr.drew))).mono ?_); rintro e w3 ⟨rfl, rfl⟩) | ((with_reducible refine (HF4.out _ _ (Hid.out ‹Hid (Bt _ _ (fourL n))›)).mono ?_); rintro e w3 ⟨rfl, rfl⟩)) | (go_at_call 18; ((with_reducible refine (HFM.out _ (by repeat (first | exact Gr.refl _ | assumption | apply Gr.alloc | apply Gr.drew))).mono ?_); rintro e w3 ⟨rfl, rfl⟩)))
  all_goals
    go_wp2_with fail
    go_ret
    refine ⟨rfl, Gr.step (w := w) HB2.out ?_⟩
    show Gr w2 _
    assumption
set_option maxRecDepth 100000 in
theorem adds_great (A0 A1 : Option Addr) (l0 l1 c0 c1 : Nat) (n : Int) (w : World) (h0 : l0 ≤ 140737488351232) (h1 : l1 ≤ 140737488351232) (hl : 2000 < l0 + l1) :
    Calls Try.prog 3 #[.slice A0 l0 c0, .slice A1 l1 c1, .int .u32 n] w fun e w' => e = .returned (.bool true) ∧ Below w.heap.size w w' := by
  have hli : 2000 < (l0 : Int) + (l1 : Int) := by omega
  go_enter Try.func3, Try.ntmps3
  go_wp2_with fail
  refine (awake03 _).mono ?_
  rintro e w3 ⟨rfl, hb3⟩
  have HB := Lib.hid hb3
  clear hb3
  go_wp2_with fail
  go_ret
  exact ⟨rfl, HB.out⟩

/-- what is told of a slice of bytes that came in -/
def RowIn (k : IntKind) (w : World) (a : Option Addr) (len cap : Nat) (zs : List Int) : Prop :=
  (a = none ∧ len = 0 ∧ cap = 0 ∧ zs = []) ∨
  ∃ x, a = some x ∧ len ≤ cap ∧ cap ≤ maxLen ∧ zs.length = cap ∧ (∀ i, i < zs.length → w.cell? (x.add i) = some (.int k (zs.getD i 0))) ∧ ∀ n ∈ zs, (Lit.int k n).wf = true
theorem sl_of_row {w : World} {a : Option Addr} {len cap : Nat} {zs : List Int} (h : RowIn .u8 w a len cap zs) : ∃ bs : List Nat, bs.length = len ∧ Sl w a cap bs := by
  rcases h with ⟨rfl, rfl, rfl, rfl⟩ | ⟨x, rfl, hl, hm, hz, hc, hw⟩
  · exact ⟨[], rfl, Sl.nil w⟩
  · have h8 : ∀ x ∈ zs, 0 ≤ x ∧ x ≤ 255 := fun x hx => bounds_u8 (hw x hx)
    refine ⟨(zs.take len).map Int.toNat, by simp; omega, by simp; omega, by unfold maxLen at hm; omega, fun e => by simp at e, fun y hy => ?_, by simp; unfold maxLen at hm; omega, ?_⟩
    · obtain ⟨z, hzm, rfl⟩ := List.mem_map.1 hy
      have := h8 z (List.mem_of_mem_take hzm)
      omega
    · by_cases h0 : len = 0
      · exact .inl (by simp; omega)
      · obtain ⟨b, off, spot⟩ := x
        have hc0 := hc 0 (by omega)
        have hs : spot = none := by simpa [Addr.add] using World.cell?_spot hc0
        subst hs
        refine .inr ⟨b, off, rfl, fun j y hj => ?_⟩
        rw [List.getElem?_map] at hj
        obtain ⟨z, hzj, rfl⟩ := Option.map_eq_some_iff.mp hj
        rw [List.getElem?_take] at hzj
        split at hzj
        · rename_i hjl
          have := hc j (by omega)
          rw [addr_add] at this
          have e : zs.getD j 0 = z := by rw [List.getD_eq_getElem?_getD, hzj]; rfl
          have hz8 := h8 z (List.mem_of_getElem? hzj)
          rw [this, e]
          congr 2
          omega
        · cases hzj
theorem sumAdds_walk (a0 : Option Addr) (len0 cap0 : Nat) (z0 : List Int) (a1 : Option Addr) (len1 cap1 : Nat) (z1 : List Int) (a2 : Int) (w : World) (w0 : RowIn .u8 w a0 len0 cap0 z0) (w1 : RowIn .u8 w a1 len1 cap1 z1) (w2 : (Lit.int .u32 a2).wf = true)
    (h0 : len0 ≤ 140737488351232) (h1 : len1 ≤ 140737488351232) :
    Calls Try.prog 3 #[.slice a0 len0 cap0, .slice a1 len1 cap1, .int .u32 a2] w fun e w' => e = .returned (.bool true) ∧ Below w.heap.size w w' := by
  by_cases hl : 2000 < len0 + len1
  · exact adds_great a0 a1 len0 len1 cap0 cap1 a2 w h0 h1 hl
  · obtain ⟨b1, b2⟩ := bounds_u32 w2
    obtain ⟨n, rfl⟩ := Int.eq_ofNat_of_zero_le b1
    obtain ⟨xs, rfl, S0⟩ := sl_of_row w0
    obtain ⟨bs, rfl, S1⟩ := sl_of_row w1
    exact adds_small a0 a1 cap0 cap1 xs bs n w S0 S1 (by omega) (by omega)
end Go.Proofs.Ytlebgbigbiaanaa
