/- One label of a text read. -/
import Derived.Test.YtnnfoagdgoionabLbV
import Derived.Test.YtnnfoagdgoionabLbK
import Derived.Lib.IndexAny
namespace Go.Proofs.Ytnnfoagdgoionab
open Go.RowKit
set_option linter.unusedVariables false

def signsL : List UInt8 := [123, 125, 61, 44, 34]
def ixL (l : List UInt8) : Int := Lib.indexAny l signsL
theorem ix_lt : ∀ l : List UInt8, ixL l < l.length ∧ -1 ≤ ixL l
  | [] => by simp [ixL, Lib.indexAny]
  | b :: l => by
    have ih := ix_lt l
    unfold ixL at ih ⊢
    unfold Lib.indexAny
    rw [List.length_cons]
    split
    · omega
    · split
      · omega
      · omega
/-- what the call of IndexAny pays -/
def IX (s : ByteArray) : Prop := ∀ W : World, Calls Try.prog 71 #[.string s, .string ⟨#[123, 125, 61, 44, 34]⟩] W fun e w' => e = .returned (.int .i64 (ixL s.data.toList)) ∧ Below W.heap.size W w'
def ascii (l : List UInt8) : Bool := l.all fun b => decide (b.toNat < 128)
theorem ix_ascii (s : ByteArray) (hs : s.size < 4000) (h : ascii s.data.toList = true) : IX s := fun W =>
  Try.strings_IndexAny_laid s ⟨#[123, 125, 61, 44, 34]⟩ W (by omega) (by decide) (fun j b hb => by
    have := List.all_eq_true.1 h b (mem_of_at hb)
    simpa using this) (fun j b hb => by
    have h2 : ascii [123, 125, 61, 44, 34] = true := by decide
    have := List.all_eq_true.1 h2 b (mem_of_at hb)
    simpa using this)
/-- one label of a text: its name, its value, what stands behind it -/
def oneF (l : List UInt8) : Option (List UInt8 × List UInt8 × List UInt8) :=
  if 0 ≤ ixL l ∧ l[(ixL l).toNat]? = some 61 then (unqF (l.drop ((ixL l).toNat + 1))).map fun x => (l.take (ixL l).toNat, x.1, x.2) else none
def OneP (o : Option (List UInt8 × List UInt8 × List UInt8)) (e : Ending) : Prop := match o with
  | some (a, v, r) => e = .returned (.tuple #[.agg #[.string (tx a), .string (tx v)], .string (tx r), .bool true])
  | none => ∃ x y z : ByteArray, e = .returned (.tuple #[.agg #[.string x, .string y], .string z, .bool false])
theorem ext0_tx (s : ByteArray) (k : Nat) : s.extract 0 k = tx (s.data.toList.take k) := by
  rw [Lib.extract_eq]; rfl
theorem one_none {x y z : ByteArray} : OneP none (.returned (.tuple #[.agg #[.string x, .string y], .string z, .bool false])) := ⟨x, y, z, rfl⟩
set_option maxHeartbeats 1000000 in
theorem one_any (s : ByteArray) (w : World) (hs : s.size ≤ 4000) (hi : IX s) : Calls Try.prog 55 #[.string s] w fun e w' => OneP (oneF s.data.toList) e ∧ Below w.heap.size w w' := by
  obtain ⟨O, hO⟩ : ∃ O, oneF s.data.toList = O := ⟨_, rfl⟩
  have HO := Lib.hid hO
  rw [hO]
  clear hO
  obtain ⟨i, hI⟩ : ∃ i, ixL s.data.toList = i := ⟨_, rfl⟩
  have hix := ix_lt s.data.toList
  rw [hI, data_len] at hix
  have HI := Lib.hid hi
  have HX := Lib.hid hI
  clear hi hI
  go_enter Try.func55, Try.ntmps55
  go_wp2_with fail
  refine (HI.out _).mono ?_
  rw [HX.out]
  rintro e w1 ⟨rfl, hb1⟩
  have HB0 := Lib.hid (show Below w.heap.size w w1 from ((Below.refl _ _).alloc (Nat.le_refl _) _).trans (hb1.mono (by simp)))
  have hz1 : w.heap.size < w1.heap.size := by have := hb1.size; simp at this; omega
  have hbx : w1.heap[w.heap.size]? = some (.cells #[.string ⟨#[]⟩, .string ⟨#[]⟩] 36 (0, 0)) := (hb1.block _ (by simp)).trans (heap_alloc_new w _)
  obtain ⟨g, hg⟩ : ∃ g, w.heap.size = g := ⟨_, rfl⟩
  rw [hg] at hz1 hbx ⊢
  have HG := Lib.hid hg
  have HBX := Lib.hid hbx
  obtain ⟨hc0, hc1, hf⟩ := box2 hbx
  have hst : ∀ (W : World) (v0 v1 : Value), Below w1.heap.size w1 W → Below w.heap.size w ((W.setCell ⟨g, 0, none⟩ v0).setCell ⟨g, 1, none⟩ v1) := fun W v0 v1 hb => by
    have hb' := HB0.out.trans (hb.mono HB0.out.size)
    have hgl : w.heap.size ≤ g := by rw [HG.out]; exact Nat.le_refl _
    exact (hb'.setCell (p := ⟨g, 0, none⟩) hgl _).setCell (p := ⟨g, 1, none⟩) hgl _
  have HST := Lib.hid hst
  clear hb1 hg hbx hst
  by_cases h0 : i < 0
  · have HE := Lib.hid (show O = none by rw [← HO.out]; unfold oneF; rw [if_neg (by rw [HX.out]; omega)])
    go_wp2_with fail
    refine bodyPost_ret (v := .tuple #[.agg #[.string ⟨#[]⟩, .string ⟨#[]⟩], .string ⟨#[]⟩, .bool false]) (by simp [results, Try.results55, go_sem, hc0, hc1]) rfl ⟨?_, ?_⟩
    · rw [HE.out]; exact one_none
    · exact HST.out w1 _ _ (Below.refl _ _)
  · obtain ⟨k, rfl⟩ : ∃ k : Nat, i = (k : Int) := ⟨i.toNat, by omega⟩
    have hk : k < s.size := by omega
    have hki : (k : Int) < (s.size : Int) := by omega
    have hat := data_at s k hk
    by_cases h1 : s[k].toNat = 61
    · have h1a : ((s[k].toNat : Int) != 61) = false := by simp [h1]
      have HE := Lib.hid (show O = (unqF (s.data.toList.drop (k + 1))).map fun x => (s.data.toList.take k, x.1, x.2) by
        rw [← HO.out]
        unfold oneF
        rw [HX.out]
        rw [if_pos ⟨by omega, by
          rw [Int.toNat_natCast, hat]
          exact congrArg some (u8_eq (by rw [h1]; rfl))⟩, Int.toNat_natCast])
      have HU := Lib.hid (show unqF (s.extract (k + 1) s.size).data.toList = unqF (s.data.toList.drop (k + 1)) by rw [ext_data])
      have HT := Lib.hid (ext0_tx s k)
      obtain ⟨U, hU⟩ : ∃ U, unqF (s.data.toList.drop (k + 1)) = U := ⟨_, rfl⟩
      rw [hU] at HE HU
      have hsz : (s.extract (k + 1) s.size).size ≤ 4000 := by rw [ext_tx, tx_size]; simp; omega
      have HS := Lib.hid hsz
      clear h1 hat hU hsz
      go_wp2_with fail
      refine (unquote_any _ _ HS.out).mono ?_
      rw [HU.out]
      rintro e w2 ⟨rfl, hb2⟩
      have HB2 := Lib.hid hb2
      obtain ⟨k0, k1, kf⟩ := box2 ((hb2.block g hz1).trans HBX.out)
      have hz2 : g < w2.heap.size := Nat.lt_of_lt_of_le hz1 hb2.size
      clear hb2 hc0 hc1 hf hz1
      cases U with
      | none =>
        simp only [unqV]
        go_wp2_with fail
        refine bodyPost_ret (v := .tuple #[.agg #[.string (s.extract 0 k), .string ⟨#[]⟩], .string ⟨#[]⟩, .bool false]) (by simp [results, Try.results55, go_sem, k0, k1]) rfl ⟨?_, ?_⟩
        · rw [HE.out]; exact one_none
        · exact HST.out w2 _ _ HB2.out
      | some x =>
        obtain ⟨a, b⟩ := x
        simp only [unqV]
        go_wp2_with fail
        refine bodyPost_ret (v := .tuple #[.agg #[.string (s.extract 0 k), .string (tx a)], .string (tx b), .bool true]) (by simp [results, Try.results55, go_sem, k0, k1]) rfl ⟨?_, ?_⟩
        · rw [HE.out, HT.out]; rfl
        · exact HST.out w2 _ _ HB2.out
    · have h1a : ((s[k].toNat : Int) != 61) = true := by simp; omega
      have HE := Lib.hid (show O = none by
        rw [← HO.out]
        unfold oneF
        rw [if_neg]
        rintro ⟨_, h⟩
        rw [HX.out, Int.toNat_natCast, hat] at h
        injection h with h
        exact h1 (by rw [h]; rfl))
      clear h1 hat
      go_wp2_with fail
      refine bodyPost_ret (v := .tuple #[.agg #[.string ⟨#[]⟩, .string ⟨#[]⟩], .string ⟨#[]⟩, .bool false]) (by simp [results, Try.results55, go_sem, hc0, hc1]) rfl ⟨?_, ?_⟩
      · rw [HE.out]; exact one_none
      · exact HST.out w1 _ _ (Below.refl _ _)
end Go.Proofs.Ytnnfoagdgoionab
