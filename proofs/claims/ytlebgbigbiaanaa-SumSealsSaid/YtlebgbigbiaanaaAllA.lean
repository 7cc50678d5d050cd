/- The contract of the program's All. -/
import Derived.Test.YtlebgbigbiaanaaAllM
namespace Go.Proofs.Ytlebgbigbiaanaa
open Go.RowKit Go.Sort
set_option linter.unusedVariables false

theorem Gr.grown_ {w W : World} (h : Gr w W) : w.grownBy W none := ⟨h.os, h.tape, h.output, h.size, fun k hk _ => h.block k hk⟩
def CloneNew (w : World) (n : Nat) (bs : List Nat) (e : Ending) (w' : World) : Prop := ∃ A c, e = .returned (.slice A n c) ∧ Sl w' A c bs ∧ Gr w w' ∧ (0 < bs.length → ∀ b off, A = some ⟨b, off, none⟩ → w.heap.size ≤ b)
set_option maxRecDepth 100000 in
theorem clone_fresh (ad : Addr) (n c : Nat) (bs : List Nat) (w : World) (h : Sl w (some ad) c bs) (hn : n = bs.length) (hl : bs.length ≤ 1000000) :
    Calls Try.prog 43 #[.slice (some ad) n c] w (CloneNew w n bs) := by
  have hnil := fun (w : World) => Lib.run_eql_slice_nil (P := Try.prog) w 22 5 (some ad) n c 0 0 Try.underlying22
  have HS := Lib.hid h
  have HN := Lib.hid hn
  clear h hn
  go_enter Try.func43, Try.ntmps43
  go_wp2_with (at_builtin; refine wpList_append_bt rfl _ _ rfl w.heap.size (.slice (some ⟨w.heap.size, 0, none⟩) 0 0) 0 [] rfl ?c0 (some ad) n c bs rfl ?c4 ?c1 ?c2 ?c3 ?_)
  case c0 => exact ownsRow_new w
  case c4 => exact HN.out
  case c1 => exact HS.out.kept (Kept.of_below ((Below.refl _ _).alloc (Nat.le_refl _) _))
  case c2 => have := HN.out; omega
  case c3 => simp
  intro v' w1 hown hgrow
  try simp only [Nat.zero_add, List.nil_append] at hown
  have hb : Below w.heap.size w w1 := ((Below.refl _ _).alloc (Nat.le_refl _) _).grown hgrow (by simp) (fun k hk => by simp [Value.ownBlock] at hk; omega)
  have hlt := hown.lt
  obtain ⟨_, A, c', rfl, hS⟩ := own_sl hown HS.out.b8 (by omega)
  have HP := Lib.hid (And.intro hS hb)
  have HF := Lib.hid (show ∀ b off, A = some ⟨b, off, none⟩ → w.heap.size ≤ b from fun b off e => by subst e; exact (hlt b rfl).1)
  clear hown hgrow hb hS hnil hlt
  go_wp2_with fail
  go_ret
  exact ⟨A, c', rfl, HP.out.1, HP.out.2, fun _ => HF.out⟩

def AllPost (w : World) (bs : List Nat) (e : Ending) (w' : World) : Prop :=
  ∃ k P c er, okF bs k ∧ e = .returned (.tuple #[.slice P k c, .int .i64 ((posF bs k : Nat) : Int), .int .i64 ((er : Nat) : Int)]) ∧ Ls w' P (itemsF bs k) ∧ Gr w w' ∧
    ((posF bs k = bs.length ∧ er = 0) ∨ (posF bs k < bs.length ∧ er = errF (bs.drop (posF bs k)) ∧ er ≠ 0))

theorem inF_len {bs : List Nat} (h : errF bs = 0) : (inF bs).length = numL bs := by
  obtain ⟨z1, z2, _, _⟩ := errF_zero h
  unfold inF
  rw [if_pos h, List.length_take, List.length_drop]
  omega
/-- the k-th bytes, where they lie -/
theorem Sl.item {w : World} {b off c : Nat} {bs : List Nat} {p N : Nat} (h : Sl w (some ⟨b, off, none⟩) c bs) (he : errF (bs.drop p) = 0) (hN : numL (bs.drop p) = N) (hp : p < bs.length) : Sl w (some ⟨b, off + (p + 8), none⟩) (c - (p + 8)) (inF (bs.drop p)) := by
  obtain ⟨z1, z2, _, _⟩ := errF_zero he
  rw [List.length_drop] at z1 z2
  have e : inF (bs.drop p) = (bs.drop (p + 8)).take N := by unfold inF; rw [if_pos he, List.drop_drop, hN]
  rw [e]
  exact h.at_ (by omega)

theorem AllSt.push {w0 w1 w2 : World} {v v' : Value} {k : Nat} {bs : List Nat} {A : Option Addr} {c : Nat} {xs : List Value} (hown : w1.ownsRow w0.heap.size 22 1 v k xs) (h1 : ∀ u ∈ xs, u.oneCell' = true)
    (hit : ∀ j, j < k → ∃ u, xs[j]? = some u ∧ Item w1 v.ownBlock u (itemF bs j)) (hA : Item w1 v.ownBlock (.slice A (itemF bs k).length c) (itemF bs k))
    (hown' : w2.ownsRow w0.heap.size 22 1 v' (k + 1) (xs ++ [.slice A (itemF bs k).length c])) (hg : w1.grownBy w2 v.ownBlock) (ho : v'.ownBlock = v.ownBlock ∨ v'.ownBlock = some w1.heap.size) : AllSt w0 w2 v' (k + 1) bs := by
  have hl : xs.length = k := AllSt.len (w0 := w0) (bs := bs) hown
  refine ⟨_, hown', ?_, fun j hj => ?_⟩
  · intro u hu
    rcases List.mem_append.1 hu with hu | hu
    · exact h1 u hu
    · have : u = .slice A (itemF bs k).length c := by simpa using hu
      subst this
      rfl
  · by_cases e : j = k
    · subst e
      refine ⟨_, ?_, hA.grown hg ho⟩
      rw [List.getElem?_append_right (by omega), hl, Nat.sub_self]
      rfl
    · obtain ⟨u, hu, hI⟩ := hit j (by omega)
      refine ⟨u, ?_, hI.grown hg ho⟩
      rw [List.getElem?_append_left (by omega)]
      exact hu

set_option maxHeartbeats 1000000 in
set_option maxRecDepth 100000 in
theorem all_core (A0 : Option Addr) (c : Nat) (bs : List Nat) (w : World) (hS : Sl w A0 c bs) (hl : bs.length ≤ 100000) :
    Calls Try.prog 21 #[.slice A0 bs.length c] w (AllPost w bs) := by
  have HS := Lib.hid hS
  have hc : (bs.length : Int) ≤ (c : Int) := by have := hS.1; omega
  have hcm : (c : Int) ≤ 9223372036854775807 := by have := hS.2.1; omega
  obtain ⟨i0, hi, hz0, hz1, hz2⟩ := info_parts Try.info22
  have HI := Lib.hid (And.intro hi (And.intro hz0 (And.intro hz1 hz2)))
  clear hS hi hz0 hz1 hz2
  go_enter Try.func21, Try.ntmps21
  go_wp2_with fail
  go_loopw [2, 3] (fun v i wr => ∃ k : Nat, okF bs k ∧ i = .int .i64 ((posF bs k : Nat) : Int) ∧ AllSt w wr v k bs ∧ Gr w wr) (fun _ i _ => bs.length - (intOf i).toNat)
  case atStart => exact ⟨0, okF_zero bs, rfl, AllSt.zero w bs, Gr.refl w⟩
  case round =>
    obtain ⟨k, hok, rfl, hst, hg⟩ := hrel
    have hple := posF_le hok
    have hkl := okF_len hok
    have HK := Lib.hid hok
    have HT := Lib.hid hst
    clear hok hst
    by_cases hlt : posF bs k < bs.length
    · obtain ⟨b, off, rfl, _⟩ := HS.out.2.2.2.some_ (by omega)
      have HE := Lib.hid (HS.out.end_ (k := posF bs k) (by omega))
      have HPS := Lib.hid (fun h => posF_step (bs := bs) (k := k) hlt h)
      have HPN := Lib.hid (show posF bs (k + 1) = posF bs k + (8 + numL (bs.drop (posF bs k))) from rfl)
      obtain ⟨R, hR⟩ : ∃ R, bs.drop (posF bs k) = R := ⟨_, rfl⟩
      have HITM := Lib.hid (fun (N : Nat) (he : errF (bs.drop (posF bs k)) = 0) (hN : numL (bs.drop (posF bs k)) = N) => Sl.item HS.out he hN hlt)
      have HRL := Lib.hid (show bs.length - posF bs k = R.length by rw [← hR, List.length_drop])
      have HIT := Lib.hid (show itemF bs k = inF R by unfold itemF; rw [hR])
      have HERR := Lib.hid (show errF (bs.drop (posF bs k)) = errF R by rw [hR])
      rw [hR] at HE HPS HPN HITM
      have HR := Lib.hid hR
      have HSUC := Lib.hid (fun h => okF_succ HK.out hlt (by rw [hR]; exact h))
      clear hR
      obtain ⟨p, hp⟩ : ∃ p, posF bs k = p := ⟨_, rfl⟩
      have HP := Lib.hid hp
      rw [hp] at hple hlt HE HPN HITM HRL
      rw [hp]
      clear hp
      have hpi : (p : Int) < (bs.length : Int) := by omega
      have hpc : ¬ c = p := by omega
      by_cases her : errF R = 0
      · have HEND := Lib.hid (errF_zero her).2.2.2
        have hz := errF_zero her
        obtain ⟨N, hN⟩ : ∃ N, numL R = N := ⟨_, rfl⟩
        rw [hN] at HEND hz HPN
        have HNN := Lib.hid hN
        have HN0 := Lib.hid her
        have hb1 : p + (8 + N) ≤ bs.length := by have := HRL.out; omega
        have hb2 : (p : Int) + (8 + (N : Int)) ≤ (c : Int) := by omega
        have hb3 : (p : Int) + 8 ≤ (p : Int) + (8 + (N : Int)) := by omega
        clear hz hN her
        obtain ⟨q, hq⟩ : ∃ q, (itemF bs k).length = q := ⟨_, rfl⟩
        have HQ := Lib.hid hq
        clear hq
        by_cases hc8 : c = p + 8
        · subst hc8
          have hN00 : N = 0 := by omega
          subst hN00
          have HI0 := Lib.hid (show inF R = [] from List.eq_nil_of_length_eq_zero (by rw [inF_len HN0.out, HNN.out]))
          have HE8 := Lib.hid (show Sl w (some ⟨b, off + p, none⟩) 8 R from by have := HE.out; rw [show p + 8 - p = 8 by omega] at this; exact this)
          clear hb2 hb3
          go_wp2_with fail
          with_reducible refine (first_any _ _ _ R wr (HE8.out.kept hg.kept) HRL.out).mono ?_
          rintro e w1 ⟨rfl, hg1⟩
          rw [HN0.out, HEND.out]
          go_wp2_with fail
          refine (clone_fresh _ _ _ (inF R) w1 (by rw [HI0.out]; exact Sl.none_ _ _) (by rw [inF_len HN0.out, HNN.out]) (by rw [inF_len HN0.out, HNN.out]; omega)).mono ?_
          rintro e w2 ⟨A2, c2, rfl, hS2, hg2, hfr⟩
          have hn2 : 0 = q := by rw [← HQ.out, HIT.out, inF_len HN0.out, HNN.out]
          rw [hn2]
          obtain ⟨xs, hown, h1, hit⟩ := HT.out
          have hgr : Gr wr w2 := Gr.step hg1 hg2
          have hown2 := hown.kept (row := none) (Gr.grown_ hgr) (by cases u2.ownBlock <;> simp)
          have hA : Item (w2.alloc (.cells #[.slice A2 q c2] 22)) u2.ownBlock (.slice A2 (itemF bs k).length c2) (itemF bs k) := by
            refine ⟨A2, c2, rfl, ?_, fun h0 b' off' e => ?_⟩
            · rw [HIT.out]; exact hS2.kept ((Gr.refl w2).alloc _).kept
            · have := hfr (by rw [← HIT.out]; exact h0) b' off' e
              intro hq
              have := (hown.lt b' hq.symm).2
              have := hg1.size
              omega
          have hits : ∀ j, j < k → ∃ u, xs[j]? = some u ∧ Item (w2.alloc (.cells #[.slice A2 q c2] 22)) u2.ownBlock u (itemF bs j) := fun j hj => by
            obtain ⟨u, hu, hI⟩ := hit j hj
            exact ⟨u, hu, hI.kept (hgr.alloc _).kept⟩
          have hgw : Gr w w2 := Gr.step hg hgr
          have HALL := Lib.hid (And.intro (hown2.alloc (.cells #[.slice A2 q c2] 22)) (And.intro h1 (And.intro hA hits)))
          have HGW := Lib.hid hgw
          clear hn2 hown h1 hit hgr hown2 hA hits hS2 hfr hgw hg1 hg2
          go_wp2_with (at_builtin; refine wpList_append_own_at _ rfl _ _ 34 rfl w.heap.size 22 i0 (.slice none 0 0) 1 24 Try.underlying34 HI.out.1 HI.out.2.1 HI.out.2.2.1 HI.out.2.2.2 rfl (by decide) u2 k xs rfl HALL.out.1 ⟨w2.heap.size, 0, none⟩ 1 1 [.slice A2 q c2] rfl rfl ?_ ?_ ?_ ?_ ?_ ?_)
          · intro j u hu
            have hj : j = 0 := by
              obtain ⟨h, _⟩ := List.getElem?_eq_some_iff.1 hu
              simpa using h
            subst hj
            have : u = .slice A2 q c2 := by simpa using hu.symm
            subst this
            simp [go_sem]
          · simp [Value.oneCell']
          · unfold maxLen; omega
          · omega
          · have := HGW.out.size; simp; omega
          intro v' w4 hown' hgrow _ hat
          have hg4 : Gr w w4 := below_own (HGW.out.alloc _) (by have := HGW.out.size; simp; omega) HALL.out.1 hgrow
          rw [← HQ.out] at hown'
          have hst' : AllSt w w4 v' (k + 1) bs := by
            have a := HALL.out
            rw [← HQ.out] at a
            exact AllSt.push a.1 a.2.1 a.2.2.2 a.2.2.1 hown' (by rw [← HQ.out] at hgrow; exact hgrow) (by rcases hat with h | h; exact .inl h; exact .inr (h.trans (by simp)))
          have HST := Lib.hid hst'
          have HG4 := Lib.hid hg4
          clear hown' hgrow hat hst' hg4
          go_wp2_with fail
          go_roundw
          case rel => exact ⟨k + 1, HSUC.out HN0.out, ret_val (by rw [HPN.out]; omega), HST.out, HG4.out⟩
          case measure => simp [intOf] <;> omega
        · go_wp2_with fail
          refine (first_any _ _ _ R wr (HE.out.kept hg.kept) HRL.out).mono ?_
          rintro e w1 ⟨rfl, hg1⟩
          rw [HN0.out, HEND.out]
          go_wp2_with fail
          refine (clone_fresh _ _ _ (inF R) w1 ((HITM.out N HN0.out HNN.out).kept (hg.kept.trans hg1.kept)) (by rw [inF_len HN0.out, HNN.out]; omega) (by rw [inF_len HN0.out, HNN.out]; omega)).mono ?_
          rintro e w2 ⟨A2, c2, rfl, hS2, hg2, hfr⟩
          have hn2 : p + (8 + N) - (p + 8) = q := by rw [← HQ.out, HIT.out, inF_len HN0.out, HNN.out]; omega
          rw [hn2]
          obtain ⟨xs, hown, h1, hit⟩ := HT.out
          have hgr : Gr wr w2 := Gr.step hg1 hg2
          have hown2 := hown.kept (row := none) (Gr.grown_ hgr) (by cases u2.ownBlock <;> simp)
          have hA : Item (w2.alloc (.cells #[.slice A2 q c2] 22)) u2.ownBlock (.slice A2 (itemF bs k).length c2) (itemF bs k) := by
            refine ⟨A2, c2, rfl, ?_, fun h0 b' off' e => ?_⟩
            · rw [HIT.out]; exact hS2.kept ((Gr.refl w2).alloc _).kept
            · have := hfr (by rw [← HIT.out]; exact h0) b' off' e
              intro hq
              have := (hown.lt b' hq.symm).2
              have := hg1.size
              omega
          have hits : ∀ j, j < k → ∃ u, xs[j]? = some u ∧ Item (w2.alloc (.cells #[.slice A2 q c2] 22)) u2.ownBlock u (itemF bs j) := fun j hj => by
            obtain ⟨u, hu, hI⟩ := hit j hj
            exact ⟨u, hu, hI.kept (hgr.alloc _).kept⟩
          have hgw : Gr w w2 := Gr.step hg hgr
          have HALL := Lib.hid (And.intro (hown2.alloc (.cells #[.slice A2 q c2] 22)) (And.intro h1 (And.intro hA hits)))
          have HGW := Lib.hid hgw
          clear hn2 hown h1 hit hgr hown2 hA hits hS2 hfr hgw hg1 hg2
          go_wp2_with (at_builtin; refine wpList_append_own_at _ rfl _ _ 34 rfl w.heap.size 22 i0 (.slice none 0 0) 1 24 Try.underlying34 HI.out.1 HI.out.2.1 HI.out.2.2.1 HI.out.2.2.2 rfl (by decide) u2 k xs rfl HALL.out.1 ⟨w2.heap.size, 0, none⟩ 1 1 [.slice A2 q c2] rfl rfl ?_ ?_ ?_ ?_ ?_ ?_)
          · intro j u hu
            have hj : j = 0 := by
              obtain ⟨h, _⟩ := List.getElem?_eq_some_iff.1 hu
              simpa using h
            subst hj
            have : u = .slice A2 q c2 := by simpa using hu.symm
            subst this
            simp [go_sem]
          · simp [Value.oneCell']
          · unfold maxLen; omega
          · omega
          · have := HGW.out.size; simp; omega
          intro v' w4 hown' hgrow _ hat
          have hg4 : Gr w w4 := below_own (HGW.out.alloc _) (by have := HGW.out.size; simp; omega) HALL.out.1 hgrow
          rw [← HQ.out] at hown'
          have hst' : AllSt w w4 v' (k + 1) bs := by
            have a := HALL.out
            rw [← HQ.out] at a
            exact AllSt.push a.1 a.2.1 a.2.2.2 a.2.2.1 hown' (by rw [← HQ.out] at hgrow; exact hgrow) (by rcases hat with h | h; exact .inl h; exact .inr (h.trans (by simp)))
          have HST := Lib.hid hst'
          have HG4 := Lib.hid hg4
          clear hown' hgrow hat hst' hg4
          go_wp2_with fail
          go_roundw
          case rel => exact ⟨k + 1, HSUC.out HN0.out, ret_val (by rw [HPN.out]; omega), HST.out, HG4.out⟩
          case measure => simp [intOf] <;> omega
      · obtain ⟨E, hE⟩ : ∃ E, errF R = E := ⟨_, rfl⟩
        have hn : ((E : Int) != 0) = true := by rw [bne_iff_ne]; omega
        have HEE := Lib.hid hE
        have HNZ := Lib.hid her
        clear her hE
        go_wp2_with fail
        refine (first_any _ _ _ R wr (HE.out.kept hg.kept) HRL.out).mono ?_
        rintro e w1 ⟨rfl, hg1⟩
        rw [HEE.out]
        have HG2 := Lib.hid (Gr.step hg hg1)
        obtain ⟨P, cP, rfl, hLs⟩ := AllSt.ls HT.out (by omega)
        have HLS := Lib.hid (hLs.kept hg1.kept)
        clear hLs
        go_wp2_with fail
        go_ret3
        exact ⟨k, P, cP, E, HK.out, by rw [HP.out]; rfl, HLS.out, HG2.out, .inr ⟨by rw [HP.out]; exact hlt, by rw [HERR.out, HEE.out], by rw [← HEE.out]; exact HNZ.out⟩⟩
    · have hpe : posF bs k = bs.length := by omega
      have HPE := Lib.hid hpe
      have hki : ¬ ((posF bs k : Nat) : Int) < (bs.length : Int) := by omega
      obtain ⟨P, cP, rfl, hLs⟩ := AllSt.ls HT.out (by omega)
      have HLS := Lib.hid hLs
      clear hLs hpe
      go_wp2_with fail
      go_ret3
      exact ⟨k, P, cP, 0, HK.out, rfl, HLS.out, hg, .inl ⟨HPE.out, rfl⟩⟩
theorem all_any (A0 : Option Addr) (n c : Nat) (bs : List Nat) (w : World) (hS : Sl w A0 c bs) (hn : n = bs.length) (hl : bs.length ≤ 100000) :
    Calls Try.prog 21 #[.slice A0 n c] w (AllPost w bs) := by
  subst hn
  exact all_core A0 c bs w hS hl
end Go.Proofs.Ytlebgbigbiaanaa
