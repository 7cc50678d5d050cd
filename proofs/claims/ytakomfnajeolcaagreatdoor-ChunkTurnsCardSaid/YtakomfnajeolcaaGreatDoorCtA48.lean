import Derived.Test.YtakomfnajeolcaaGreatDoorCtA47
set_option linter.unusedVariables false
/- The law's example: one sample of an empty histogram. -/
namespace Go.Proofs.YtakomfnajeolcaaGreatDoor.Ch
open Go.RowKit Go.Sort Go.Proofs.YtakomfnajeolcaaGreatDoor.En
set_option linter.unusedVariables false

def eH : HV := ⟨0, 0, -524288, 0, 0, 0, [], []⟩
def eL : List SV := [⟨0, eH⟩]
theorem eL_chk : chkF eL = 0 := by decide
theorem eL_raw : ∀ s ∈ eL, Raw s := fun s hs => by
  simp [eL] at hs
  subst hs
  exact ⟨by decide, by unfold inI64 eH; decide, fun p hp => (by cases hp), fun p hp => (by cases hp)⟩
theorem eL_chn : Chn eL := chn_of eL_raw eL_chk
theorem laid_len {l : List SV} (c : Chn l) {bs : List Nat} (h : Tl.LaidL bs (encL l)) : bs.length ≤ 400000 := by
  have h1 := h.sub.2.1
  have h2 := encK_length c l.length
  rw [encK_all] at h2
  omega
theorem dec_of {l : List SV} (c : Chn l) (h0 : chkF l = 0) {bs : List Nat} (hb : ∀ b ∈ bs, b < 256) (h : Tl.LaidL bs (encL l)) : takeF bs = l ∧ DecOk bs := by
  have e := takeF_back hb c h
  exact ⟨e, by unfold DecOk; rw [e]; exact ⟨h0, h⟩⟩
set_option maxHeartbeats 4000000 in
set_option maxRecDepth 100000 in
theorem awake09 (w : World) (hT : Tk.Tab w) : Calls Tryz.prog 9 #[] w fun e w' => e = .returned (.bool true) ∧ Below w.heap.size w w' := by
  have HT := Lib.hid hT
  clear hT
  go_enter Tryz.func9, Tryz.ntmps9
  go_wp2_with fail
  refine (empty_any 0 0 _).mono ?_
  rintro e w1 ⟨rfl, hb1⟩
  obtain ⟨g, hg⟩ : ∃ g, w1.heap.size = g := ⟨_, rfl⟩
  obtain ⟨w2, hw2⟩ : ∃ W, w1.alloc (.cells #[.int .i64 0, .int .i64 0, .int .i64 0, .int .i64 (-524288), .int .u64 0, .int .u64 0, .int .i64 0, .slice none 0 0, .slice none 0 0] 41) = W := ⟨_, rfl⟩
  have hx2 : w2.heap[g]? = some (.cells #[.int .i64 0, .int .i64 0, .int .i64 0, .int .i64 (-524288), .int .u64 0, .int .u64 0, .int .i64 0, .slice none 0 0, .slice none 0 0] 41 (0, 0)) := by rw [← hw2, ← hg]; exact heap_alloc_new _ _
  have hb2 : Below w.heap.size w w2 := by rw [← hw2]; exact hb1.alloc hb1.size _
  have hsm : Sm w2 (some ⟨g, 0, none⟩) eL := .inr ⟨g, 0, rfl, fun j s hj => by
    have hj0 : j = 0 := by have := (List.getElem?_eq_some_iff.1 hj).1; simp [eL] at this; exact this
    subst hj0
    simp [eL] at hj
    subst hj
    exact ⟨none, none, 0, 0, fun i v hv => by
      rw [show (0 + 0 * 9 + i) = i by omega]
      exact bx hx2 i v (by simpa [smC, eH] using hv), ⟨Bk.nil _ _, Bk.nil _ _, by decide, by decide⟩⟩⟩
  have hcp : Cpd w2 (some ⟨g, 0, none⟩) eL := fun j s hj => by
    have hj0 : j = 0 := by have := (List.getElem?_eq_some_iff.1 hj).1; simp [eL] at this; exact this
    subst hj0
    simp [eL] at hj
    subst hj
    exact ⟨g, 0, none, none, 0, 0, rfl, bx hx2 7 _ rfl, bx hx2 8 _ rfl, ⟨by decide, by decide⟩, by decide, by decide⟩
  have hsu : Sums eL := fun x hx => (eL_raw x hx).2.1
  have HE := Lib.hid (encode_any (some ⟨g, 0, none⟩) 1 1 eL w2 rfl (by decide) ⟨by decide, by decide⟩ hsm hcp hsu (Tl.tab_below HT.out hb2))
  have HSM := Lib.hid hsm
  have HB2 := Lib.hid hb2
  have HG := Lib.hid (And.intro hw2 hg)
  clear hb1 hx2 hb2 hsm hcp hsu
  go_wp2_with fail
  refine HE.out.mono ?_
  rintro e w3 ⟨hb3, hc⟩
  rcases hc with ⟨hne, _⟩ | ⟨_, A3, c3, b3, rfl, hs3, hl3⟩
  · exact absurd eL_chk hne
  · have HB3 := Lib.hid (HB2.out.trans (hb3.mono HB2.out.size))
    have hlen := laid_len eL_chn hl3
    obtain ⟨d1, d2⟩ := dec_of eL_chn eL_chk hs3.b8 hl3
    have HD := Lib.hid (decode_any A3 b3.length c3 b3 w3 hs3 rfl (by omega) (Tl.tab_below HT.out HB3.out))
    have HOK := Lib.hid (And.intro d1 d2)
    have HSM3 := Lib.hid (HSM.out.below hb3)
    obtain ⟨m3, hm3⟩ : ∃ m, b3.length = m := ⟨_, rfl⟩
    rw [hm3] at HD ⊢
    clear hb3 hs3 hl3 hlen d1 d2 hm3 hw2 hg
    go_wp2_with fail
    refine HD.out.mono ?_
    rintro e w4 ⟨hb4, hc⟩
    rcases hc with ⟨_, D4, c4, rfl, hs4, _, _, _⟩ | ⟨hno, _⟩
    · rw [HOK.out.1] at hs4 ⊢
      have HB4 := Lib.hid (HB3.out.trans (hb4.mono HB3.out.size))
      have HSA := Lib.hid (same_sm (some ⟨g, 0, none⟩) D4 1 1 1 c4 eL eL w4 rfl rfl (by decide) (by decide) (HSM3.out.below hb4) hs4)
      have hel : eL.length = 1 := rfl
      rw [hel]
      clear hb4 hs4
      go_wp2_with fail
      refine HSA.out.mono ?_
      rintro e w5 ⟨b, rfl, hbb, hb5⟩
      obtain rfl : b = true := by first | exact hbb.2 rfl | simpa using hbb
      have HB5 := Lib.hid (HB4.out.trans (hb5.mono HB4.out.size))
      clear hb5
      go_wp2_with fail
      go_ret
      exact ⟨rfl, HB5.out⟩
    · exact absurd HOK.out.2 hno
end Go.Proofs.YtakomfnajeolcaaGreatDoor.Ch


/- A text with a byte more, or less, is no chunk's: plain facts; bytes in memory. -/
namespace Go.Proofs.YtakomfnajeolcaaGreatDoor.Ch
open Go.RowKit Go.Sort Go.Proofs.YtakomfnajeolcaaGreatDoor.En
set_option linter.unusedVariables false

theorem sub_more (bs cs : List Nat) {u : Nat} (h : u ≤ 8 * bs.length) : Tk.sub (bs ++ cs) 0 u = Tk.sub bs 0 u := by
  have e : Tk.textL (bs ++ cs) = Tk.textL bs ++ Tk.textL cs := by unfold Tk.textL; simp
  have hl := Tk.textL_length bs
  unfold Tk.sub
  rw [e, List.drop_zero, List.drop_zero, List.take_append_of_le_length (by omega)]
theorem at_more {bs cs : List Nat} {l : List Bool} (h : At bs 0 l) : At (bs ++ cs) 0 l := by
  obtain ⟨h1, h2⟩ := h
  refine ⟨by rw [List.length_append]; omega, ?_⟩
  rw [sub_more bs cs (by omega)]
  exact h2
theorem dec_more {l : List SV} (c : Chn l) {x : List Nat} (hb : ∀ b ∈ x, b < 256) (h : Tl.LaidL x (encL l)) {u : Nat} (hu : u < 256) : ¬ DecOk (x ++ [u]) := fun hd => by
  have hb' : ∀ b ∈ x ++ [u], b < 256 := fun b hbm => by
    rcases List.mem_append.1 hbm with hm | hm
    · exact hb b hm
    · simp at hm; omega
  have e := takeF_at hb' c (at_more (cs := [u]) (At.all h))
  have h2 := hd.2
  rw [e] at h2
  have := congrArg List.length (h2.inj h)
  simp at this
theorem dec_less {l : List SV} (c : Chn l) {x : List Nat} (hb : ∀ b ∈ x, b < 256) (h : Tl.LaidL x (encL l)) (hx : 0 < x.length) (hr : ∀ s ∈ takeF (x.take (x.length - 1)), Raw s) : ¬ DecOk (x.take (x.length - 1)) := fun hd => by
  have c' := chn_of hr hd.1
  have hx2 : x = x.take (x.length - 1) ++ x.drop (x.length - 1) := (List.take_append_drop _ _).symm
  have e1 := takeF_back hb c h
  have h3 : At x 0 (encL (takeF (x.take (x.length - 1)))) := by
    have := at_more (cs := x.drop (x.length - 1)) (At.all hd.2)
    rw [← hx2] at this
    exact this
  have e2 := takeF_at hb c' h3
  have h2 := hd.2
  rw [← e2, e1] at h2
  have := congrArg List.length (h2.inj h)
  rw [List.length_take] at this
  omega
theorem enc_pos {l : List SV} {x : List Nat} (h : Tl.LaidL x (encL l)) : 0 < x.length := by
  have h1 := h.sub.1
  have h2 : 5 ≤ (encL l).length := by
    unfold encL encOf
    simp only [List.length_append, Tk.bitsL_length]
    omega
  omega
theorem enc_same {a b : List SV} (ca : Chn a) (cb : Chn b) {x y : List Nat} (hx : ∀ z ∈ x, z < 256) (hla : Tl.LaidL x (encL a)) (hlb : Tl.LaidL y (encL b)) : x = y ↔ a = b := by
  constructor
  · rintro rfl
    rw [← takeF_back hx ca hla, takeF_back hx cb hlb]
  · rintro rfl
    exact hla.inj hlb
theorem Sl_take {w : World} {A : Option Addr} {c : Nat} {bs : List Nat} (h : Tk.Sl w A c bs) (k : Nat) : Tk.Sl w A c (bs.take k) := by
  obtain ⟨h1, h2, h3, h4, h5, h6⟩ := h
  refine ⟨by rw [List.length_take]; omega, h2, h3, fun x hx => h4 x (List.mem_of_mem_take hx), by rw [List.length_take]; omega, ?_⟩
  rcases h6 with h6 | ⟨b, o, e, hc⟩
  · left; rw [List.length_take]; omega
  · refine .inr ⟨b, o, e, fun j x hj => hc j x ?_⟩
    rw [List.getElem?_take] at hj
    split at hj
    · exact hj
    · cases hj
end Go.Proofs.YtakomfnajeolcaaGreatDoor.Ch


/- The law's light, of any samples: it answers. -/
namespace Go.Proofs.YtakomfnajeolcaaGreatDoor.Ch
open Go.RowKit Go.Sort Go.Proofs.YtakomfnajeolcaaGreatDoor.En
set_option linter.unusedVariables false

theorem wrap64_bd (a : Int) : -9223372036854775808 ≤ wrap64 a ∧ wrap64 a ≤ 9223372036854775807 := by
  unfold wrap64; omega
set_option maxHeartbeats 4000000 in
set_option maxRecDepth 100000 in
theorem light_w (D : Option Addr) (n c : Nat) (l : List SV) (w : World) (hn : n = l.length) (h9 : (n : Int) ≤ 70368744177664) (h : Sm w D l) :
    Calls Tryz.prog 8 #[.slice D n c] w fun e w' => ∃ b : Bool, e = .returned (.bool b) ∧ Below w.heap.size w w' := by
  have HS := Lib.hid h
  have HN := Lib.hid hn
  clear h hn
  go_enter Tryz.func8, Tryz.ntmps8
  go_wp2_with fail
  go_loopw [3, 8] (fun v3 i wr => ∃ (k : Nat) (z : Int), k ≤ n ∧ i = .int .i64 (k : Int) ∧ v3 = .int .i64 z ∧ (-9223372036854775808 ≤ z ∧ z ≤ 9223372036854775807) ∧ Below w.heap.size w wr) (fun _ i _ => n - (intOf i).toNat)
  case atStart => exact ⟨0, 0, by omega, rfl, rfl, by omega, Below.refl _ _⟩
  case round =>
    obtain ⟨k, z, hk, rfl, rfl, ⟨wb0, wb1⟩, hb⟩ := hrel
    have HB := Lib.hid hb
    clear hb
    by_cases hlt : k < n
    · have hki : (k : Int) < (n : Int) := by omega
      obtain ⟨x, hx⟩ : ∃ s, l[k]? = some s := ⟨_, List.getElem?_eq_getElem (by have := HN.out; omega)⟩
      obtain ⟨b, o, rfl, hat⟩ := (HS.out.below HB.out).at_ hx
      obtain ⟨A, B, cA, cB, ⟨a0, a1, a2, a3, a4, a5, a6, a7, a8⟩, _⟩ := hat.cells
      obtain ⟨pl, hpl⟩ : ∃ p, x.h.P.length = p := ⟨_, rfl⟩
      obtain ⟨ql, hql⟩ : ∃ p, x.h.Q.length = p := ⟨_, rfl⟩
      rw [hpl] at a7
      rw [hql] at a8
      obtain ⟨W1, hW1⟩ : ∃ W1, wr.alloc (.cells #[.int .i64 x.t, .int .i64 x.h.k, .int .i64 x.h.s, .int .i64 x.h.z, .int .u64 x.h.zc, .int .u64 x.h.ct, .int .i64 x.h.sm, .slice A pl cA, .slice B ql cB] 41 (0, 0)) = W1 := ⟨_, rfl⟩
      obtain ⟨g, hg⟩ : ∃ g, wr.heap.size = g := ⟨_, rfl⟩
      have hx9 : W1.heap[g]? = some (.cells #[.int .i64 x.t, .int .i64 x.h.k, .int .i64 x.h.s, .int .i64 x.h.z, .int .u64 x.h.zc, .int .u64 x.h.ct, .int .i64 x.h.sm, .slice A pl cA, .slice B ql cB] 41 (0, 0)) := by rw [← hW1, ← hg]; exact heap_alloc_new _ _
      have HB1 := Lib.hid (show Below w.heap.size w W1 from by rw [← hW1]; exact HB.out.alloc HB.out.size _)
      have q7 := bx hx9 7 _ rfl
      have q8 := bx hx9 8 _ rfl
      clear hat hx hx9 hpl hql
      go_wp2_with fail
      go_roundw
      case rel => exact ⟨k + 1, _, by omega, by go_num, rfl, wrap64_bd _, HB1.out⟩
      case measure => simp [intOf]; omega
    · obtain rfl : k = n := by omega
      clear HN
      go_wp2_with fail
      go_ret
      exact ⟨_, rfl, HB.out⟩
end Go.Proofs.YtakomfnajeolcaaGreatDoor.Ch
