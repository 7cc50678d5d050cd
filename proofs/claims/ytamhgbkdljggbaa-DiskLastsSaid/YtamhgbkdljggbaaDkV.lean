/- The document's Name, SyncNames, Remove. -/
import Derived.Test.YtamhgbkdljggbaaDkU
namespace Go.Proofs.Ytamhgbkdljggbaa.Dk
open Go.RowKit Go.Maps
set_option linter.unusedVariables false

def RnP (w : World) (e : Ending) (w' : World) : Prop := ∃ b, e = .returned (.bool b) ∧ w = w'
set_option maxHeartbeats 1000000 in
theorem rname_any (s : ByteArray) (w : World) (hs : Ks s) : Calls Try.prog 44 #[.string s] w (RnP w) := by
  show Calls Try.prog 44 #[.string s] w fun e w' => RnP w e w'
  have hs9 : s.size ≤ maxLen := hs
  unfold maxLen at hs9
  clear hs
  by_cases h1 : (s.size : Int) < 1
  · go_enter Try.func44, Try.ntmps44
    go_wp2_with fail
    go_ret
    exact ⟨_, rfl, rfl⟩
  · by_cases h2 : (64 : Int) < (s.size : Int)
    · go_enter Try.func44, Try.ntmps44
      go_wp2_with fail
      go_ret
      exact ⟨_, rfl, rfl⟩
    · go_enter Try.func44, Try.ntmps44
      go_wp2_with fail
      go_loop [3] (fun i => ∃ k : Nat, k ≤ s.size ∧ i = .int .i64 k) (fun i => s.size - (intOf i).toNat)
      case atStart => exact ⟨0, by omega, rfl⟩
      case round =>
        obtain ⟨k, hk, rfl⟩ := hrel
        by_cases hlt : k < s.size
        · have hki : (k : Int) < (s.size : Int) := by omega
          have hc : s[k].toNat < 256 := s[k].toNat_lt
          by_cases h3 : s[k].toNat = 47
          · have h3a : ((s[k].toNat : Int) == 47) = true := by simp [h3]
            clear h3
            go_wp2_with fail
            go_ret
            exact ⟨_, rfl, rfl⟩
          · have h3a : ((s[k].toNat : Int) == 47) = false := by simp; omega
            clear h3
            by_cases h4 : s[k].toNat = 0
            · have h4a : ((s[k].toNat : Int) == 0) = true := by simp [h4]
              clear h4
              go_wp2_with fail
              go_ret
              exact ⟨_, rfl, rfl⟩
            · have h4a : ((s[k].toNat : Int) == 0) = false := by simp; omega
              clear h4
              go_wp2_with fail
              go_round
              case rel => exact ⟨k + 1, by omega, by go_num⟩
              case measure => simp [intOf]; omega
        · have hki : ¬ (k : Int) < (s.size : Int) := by omega
          go_wp2_with fail
          go_ret
          exact ⟨_, rfl, rfl⟩
def RoP (O : Nat → Prop) (w : World) (q M : Nat) (e : Ending) (w' : World) : Prop := ∃ z, e = .returned (.int .i64 z) ∧ RP O w q M w'
/-- a new map stands in the disk: its names (i = 2), or those that are sure (i = 3) -/
theorem RD.newm {O : Nat → Prop} {w w1 : World} {q M b' : Nat} {S : RS} (h : RD O w q M S) (hb1 : Below w.heap.size w w1) (hb' : w.heap.size ≤ b') (hm : NM w1 b' S.n M) :
    RD (On O w (w1.setCell ⟨q, 2, none⟩ (.map (some b')))) (w1.setCell ⟨q, 2, none⟩ (.map (some b'))) q M { S with nb := b' } ∧ Fr O w (w1.setCell ⟨q, 2, none⟩ (.map (some b'))) ∧ RP O w q M (w1.setCell ⟨q, 3, none⟩ (.map (some b'))) := by
  have hF : ∀ i, Fr O w (w1.setCell ⟨q, i, none⟩ (.map (some b'))) := fun i => (Fr.of_below hb1).trans (Fr.set (O := O) w1 _ _ h.oq) (fun x hx => .inl hx)
  have hbx := (h.below hb1).box
  exact ⟨(h.news hb1 hb' hm (by simp) (fun k hk => Below.heap_setCell _ _ _ _ hk)).1 (heap_set_at hbx _), hF 2, _, (h.news hb1 hb' hm (by simp) (fun k hk => Below.heap_setCell _ _ _ _ hk)).2 (heap_set_at hbx _), hF 3⟩
theorem RD.nowput {O : Nat → Prop} {w w' : World} {q M M' : Nat} {S : RS} (h : RD O w q M S) (hm : NM w' S.nb S.n M') (hg : w.grownBy w' (some S.nb)) (hM : M ≤ M') : RD O w' q M' S ∧ Fr O w w' := by
  have hb : ∀ k, O k → k ≠ S.nb → w'.heap[k]? = w.heap[k]? := fun k hk hn => hg.block k (h.bound k hk) (by simpa using hn)
  refine ⟨⟨(hb q h.oq (fun e => h.map_ne h.now e.symm)).trans h.box, h.oq, hm, (h.sure.keep (hb _ h.osure (fun e => h.apart e.symm))).mono (Nat.le_refl _) hM, h.onow, h.osure, h.apart, own_abide h.row (fun k hv => hb k (h.orow k hv) (fun e => ?_)), h.fc.mono hM, h.orow, Nat.le_trans h.nM hM, fun k hk => Nat.lt_of_lt_of_le (h.bound k hk) hg.size⟩, Fr.grown hg (fun b e => by cases e; exact h.onow)⟩
  obtain ⟨es, clock, hh⟩ := h.now.isMap
  exact (h.row_ne hv).2 es clock (e ▸ hh)
set_option maxHeartbeats 1000000 in
theorem rsyncnames_any (O : Nat → Prop) (q M : Nat) (S : RS) (w : World) (h : RD O w q M S) (hM : M ≤ 1000000) : Calls Try.prog 32 #[.pointer (some ⟨q, 0, none⟩)] w (RoP O w q M) := by
  show Calls Try.prog 32 #[.pointer (some ⟨q, 0, none⟩)] w fun e w' => RoP O w q M e w'
  have HS := Lib.hid (rstep_any O q M S w h)
  clear h
  go_enter Try.func32, Try.ntmps32
  go_wp2_with fail
  refine HS.out.mono ?_
  rintro e w1 ⟨b, S1, rfl, h1, hf1⟩
  have H1 := Lib.hid (And.intro h1 hf1)
  cases b with
  | false =>
    clear h1 hf1
    go_wp2_with fail
    go_ret
    exact ⟨_, rfl, RP.of H1.out.1 H1.out.2 (Nat.le_refl _)⟩
  | true =>
    have HC := Lib.hid (copied_any S1.nb S1.n M w1 h1.now hM)
    obtain ⟨⟨c0, c1, c2, c3, c4, c5, c6⟩, _⟩ := h1.cells
    clear h1 hf1
    go_wp2_with fail
    refine HC.out.mono ?_
    rintro e w2 ⟨b', rfl, hb', hnm, hbl⟩
    have HP := Lib.hid (RP.then H1.out.2 (H1.out.1.newm hbl hb' hnm).2.2)
    obtain ⟨⟨d0, d1, d2, d3, d4, d5, d6⟩, fz⟩ := (H1.out.1.below hbl).cells
    have f3 := fz 3
    clear hb' hnm hbl fz
    go_wp2_with fail
    go_ret
    exact ⟨_, rfl, HP.out⟩
set_option maxHeartbeats 1000000 in
theorem rremove_any (O : Nat → Prop) (q M : Nat) (S : RS) (s : ByteArray) (w : World) (h : RD O w q M S) (hs : Ks s) (hM : M ≤ 1000000) : Calls Try.prog 31 #[.pointer (some ⟨q, 0, none⟩), .string s] w (RoP O w q M) := by
  show Calls Try.prog 31 #[.pointer (some ⟨q, 0, none⟩), .string s] w fun e w' => RoP O w q M e w'
  have HS := Lib.hid (rstep_any O q M S w h)
  have HK := Lib.hid hs
  clear h hs
  go_enter Try.func31, Try.ntmps31
  go_wp2_with fail
  refine HS.out.mono ?_
  rintro e w1 ⟨b, S1, rfl, h1, hf1⟩
  have H1 := Lib.hid (And.intro h1 hf1)
  cases b with
  | false =>
    clear h1 hf1
    go_wp2_with fail
    go_ret
    exact ⟨_, rfl, RP.of H1.out.1 H1.out.2 (Nat.le_refl _)⟩
  | true =>
    obtain ⟨z, ok, hrun, hz⟩ := h1.now.look HK.out
    have HC := Lib.hid (without_any S1.nb S1.n M s w1 h1.now hM)
    obtain ⟨⟨c0, c1, c2, c3, c4, c5, c6⟩, _⟩ := h1.cells
    clear h1 hf1 hz
    cases ok with
    | false =>
      go_wp2_with fail
      go_ret
      exact ⟨_, rfl, RP.of H1.out.1 H1.out.2 (Nat.le_refl _)⟩
    | true =>
      go_wp2_with fail
      refine HC.out.mono ?_
      rintro e w2 ⟨b', rfl, hb', hnm, hbl⟩
      have HP := Lib.hid (RP.then H1.out.2 ⟨_, (H1.out.1.newm hbl hb' hnm).1, (H1.out.1.newm hbl hb' hnm).2.1⟩)
      obtain ⟨⟨d0, d1, d2, d3, d4, d5, d6⟩, fz⟩ := (H1.out.1.below hbl).cells
      have f2 := fz 2
      clear hb' hnm hbl fz
      go_wp2_with fail
      go_ret
      exact ⟨_, rfl, HP.out⟩
set_option maxHeartbeats 1000000 in
theorem rrename_any (O : Nat → Prop) (q M : Nat) (S : RS) (s t : ByteArray) (w : World) (h : RD O w q M S) (hs : Ks s) (ht : Ks t) (hM : M ≤ 1000000) : Calls Try.prog 30 #[.pointer (some ⟨q, 0, none⟩), .string s, .string t] w (RoP O w q (M + 1)) := by
  show Calls Try.prog 30 #[.pointer (some ⟨q, 0, none⟩), .string s, .string t] w fun e w' => RoP O w q (M + 1) e w'
  have HS := Lib.hid (rstep_any O q M S w h)
  have HK := Lib.hid hs
  have HT := Lib.hid ht
  have HRN := Lib.hid (fun w => rname_any t w ht)
  clear h hs ht
  go_enter Try.func30, Try.ntmps30
  go_wp2_with fail
  refine HS.out.mono ?_
  rintro e w1 ⟨b, S1, rfl, h1, hf1⟩
  have H1 := Lib.hid (And.intro h1 hf1)
  cases b with
  | false =>
    clear h1 hf1
    go_wp2_with fail
    go_ret
    exact ⟨_, rfl, RP.of H1.out.1 H1.out.2 (by omega)⟩
  | true =>
    obtain ⟨z, ok, hrun, hz⟩ := h1.now.look HK.out
    have HC := Lib.hid (without_any S1.nb S1.n M s w1 h1.now hM)
    obtain ⟨⟨c0, c1, c2, c3, c4, c5, c6⟩, _⟩ := h1.cells
    clear h1 hf1
    cases ok with
    | false =>
      clear hz
      go_wp2_with fail
      go_ret
      exact ⟨_, rfl, RP.of H1.out.1 H1.out.2 (by omega)⟩
    | true =>
      obtain ⟨m, hm, rfl⟩ := hz rfl
      have HMN := Lib.hid hm
      clear hz hm
      go_wp2_with fail
      refine (HRN.out _).mono ?_
      rintro e w2 ⟨bn, rfl, rfl⟩
      cases bn with
      | false =>
        go_wp2_with fail
        go_ret
        exact ⟨_, rfl, RP.of H1.out.1 H1.out.2 (by omega)⟩
      | true =>
        go_wp2_with fail
        refine HC.out.mono ?_
        rintro e w2 ⟨b', rfl, hb', hnm, hbl⟩
        obtain ⟨hn1, hn2, _⟩ := H1.out.1.newm hbl hb' hnm
        obtain ⟨⟨d0, d1, d2, d3, d4, d5, d6⟩, fz⟩ := (H1.out.1.below hbl).cells
        have f2 := fz 2
        obtain ⟨W3, hW3⟩ : ∃ W3, w2.setCell ⟨q, 2, none⟩ (.map (some b')) = W3 := ⟨_, rfl⟩
        rw [hW3] at hn1 hn2
        obtain ⟨⟨_, _, e2, _⟩, _⟩ := hn1.cells
        obtain ⟨w4, hst, hnm4, hg4⟩ := hn1.now.store (by unfold maxLen; omega) HT.out HMN.out
        obtain ⟨hn3, hn4⟩ := hn1.nowput hnm4 hg4 (Nat.le_succ _)
        have HP := Lib.hid (show RP O w q (M + 1) w4 from RP.then H1.out.2 ⟨_, hn3.mono (fun k hk => by
          rcases hk with hk | ⟨h1, h2⟩
          · exact .inl hk
          · exact .inr ⟨h1, Nat.lt_of_lt_of_le h2 hn4.size⟩) (fun k hk => by
          rcases hk with hk | ⟨_, h2⟩
          · have := hn1.bound k (.inl hk); exact Nat.lt_of_lt_of_le this hn4.size
          · exact h2) (Nat.le_refl _), hn2.trans hn4 (fun x hx => by rcases hx with hx | ⟨hx, _⟩; exact .inl hx; exact .inr hx)⟩)
        clear hb' hnm hbl fz hn1 hn2 hnm4 hg4 hn3 hn4
        go_wp2_with fail
        go_ret
        exact ⟨_, rfl, HP.out⟩
end Go.Proofs.Ytamhgbkdljggbaa.Dk
