/- Contracts of a writer's Bytes and of the law's own comparison of bytes. -/
import Derived.Test.YtjnienlidmmhdaaGreatDoorBitsK
import Derived.Laws.BytesString
import Derived.Laws.IdiomStrings
namespace Go.Proofs.YtjnienlidmmhdaaGreatDoor.Bw
open Go.RowKit

/-- a slice's bytes, in a block of their own -/
def Bs (w : World) (r l : Nat) (bs : List Nat) : Prop := l = bs.length ∧ (∀ b ∈ bs, b < 256) ∧ ∀ (j : Nat) (b : Nat), bs[j]? = some b → w.cell? ⟨r, j, none⟩ = some (.int .u8 (b : Int))

theorem addr_zero_add (r j : Nat) : (⟨r, 0, none⟩ : Addr).add j = ⟨r, j, none⟩ := by
  unfold Addr.add
  split
  · subst_vars; rfl
  · simp
theorem bytes_string (w : World) (r c : Nat) (bs : List Nat) (h : ∀ b ∈ bs, b < 256) (hc : ∀ (j : Nat) (b : Nat), bs[j]? = some b → w.cell? ⟨r, j, none⟩ = some (.int .u8 (b : Int))) :
    (convert 26 9 (.slice (some ⟨r, 0, none⟩) bs.length c)).run Tryz.prog w = .ok (.string ⟨(bs.map UInt8.ofNat).toArray⟩) w := by
  have hl : (bs.map UInt8.ofNat).length = bs.length := by simp
  rw [← hl]
  refine run_convert_bytes_back (P := Tryz.prog) w 26 9 5 ⟨r, 0, none⟩ c (bs.map UInt8.ofNat) Tryz.underlying26 Tryz.underlying5 Tryz.underlying9 (fun j hj => ?_)
  have hj' : j < bs.length := by simpa using hj
  have hm : bs[j] < 256 := h _ (List.getElem_mem hj')
  rw [addr_zero_add, hc j bs[j] (List.getElem?_eq_getElem hj')]
  congr 2
  simp
  omega

theorem clone_any (g l cap B : Nat) (bs : List Nat) (w : World) (hown : w.ownsRow B 5 1 (.slice (some ⟨g, 0, none⟩) l cap) l (cellsOf bs)) (h0 : 0 < l) (h1 : l ≤ 1000000) (h256 : ∀ b ∈ bs, b < 256) :
    Calls Tryz.prog 112 #[.slice (some ⟨g, 0, none⟩) l cap] w fun e w' => ∃ r c, e = .returned (.slice (some ⟨r, 0, none⟩) l c) ∧ Bs w' r l bs ∧ Below w.heap.size w w' := by
  obtain ⟨i0, hi, hz0, hz1, hz2⟩ := info_parts Tryz.info5
  have hlen : bs.length = l := by
    have := hown.1
    rw [cellsOf_length] at this
    omega
  have hnil := fun (w : World) => Lib.run_eql_slice_nil (P := Tryz.prog) w 26 5 (some ⟨g, 0, none⟩) l cap 0 0 Tryz.underlying26
  have OWN := Lib.hid hown
  have HL := Lib.hid hlen
  clear hown hlen
  go_enter Tryz.func112, Tryz.ntmps112
  go_wp2_with (at_builtin; refine wpList_append_grows _ rfl _ _ 26 rfl 5 i0 (.int .u8 0) 1 1 Tryz.underlying26 hi hz0 hz1 hz2 rfl (by decide) (some ⟨w.heap.size, 0, none⟩) 0 0 [] rfl (by simp) rfl (by simp) ⟨g, 0, none⟩ l cap (cellsOf bs) rfl ?c0 ?c1 ?c2 ?c3 ?c4 ?c5 ?_)
  case c0 => rw [cellsOf_length]; have := HL.out; omega
  case c1 => exact (OWN.out.alloc _).cells rfl
  case c2 => unfold cellsOf; simp [Value.oneCell']
  case c3 => omega
  case c4 => unfold maxLen; omega
  case c5 => omega
  intro v' w1 hown0 hgrow
  have hgr := grown_alloc hgrow
  have hb : Below w.heap.size w w1 := ⟨hgr.os, hgr.tape, hgr.output, hgr.size, fun k hk => hgr.block k hk (by simp)⟩
  have HB := Lib.hid hb
  have hform : ∃ r c, v' = .slice (some ⟨r, 0, none⟩) l c := by
    rcases hown0.2 with ⟨_, hz⟩ | ⟨r, c, cur, hv, _⟩
    · omega
    · exact ⟨r, c, hv⟩
  obtain ⟨r, c, rfl⟩ := hform
  have hBs : Bs w1 r l bs := by
    refine ⟨HL.out.symm, h256, fun j b hj => ?_⟩
    have := hown0.cells (g := r) rfl j (.int .u8 (b : Int)) (by unfold cellsOf; simp [hj])
    rw [addr_zero_add] at this
    exact this
  have HBS := Lib.hid hBs
  clear hown0 hgrow hgr hb hBs hnil h256
  go_wp2_with fail
  go_ret
  exact ⟨r, c, rfl, HBS.out, HB.out⟩

theorem bytes_any (p B n V : Nat) (v : Value) (bs : List Nat) (w : World) (hw : Wr w p B v bs n) (hl : Laid bs n V) (h0 : 0 < n) (hn : n ≤ 1000000) :
    Calls Tryz.prog 53 #[.pointer (some ⟨p, 0, none⟩)] w fun e w' => ∃ r l c, e = .returned (.slice (some ⟨r, 0, none⟩) l c) ∧ Bs w' r l bs ∧ Below w.heap.size w w' := by
  have hlen := hl.1
  obtain ⟨g, cap, m, hm, rfl, hBg, hgs⟩ := wr_form hw (by omega)
  have own := hw.own
  rw [← hm] at own
  have c0 := hw.c0
  have OWN := Lib.hid own
  have H256 := Lib.hid hl.2.1
  have hm0 : 0 < m := by omega
  have hm1 : m ≤ 1000000 := by omega
  clear own hw hl hm hlen
  go_enter Tryz.func53, Tryz.ntmps53
  go_wp2_with fail
  refine (clone_any g m cap B bs _ OWN.out hm0 hm1 H256.out).mono ?_
  rintro e w' ⟨r, c, rfl, hb, hB⟩
  have HB := Lib.hid (And.intro hb hB)
  clear hb hB
  go_wp2_with fail
  go_ret
  exact ⟨r, m, c, rfl, HB.out.1, HB.out.2⟩

/-- are two slices' bytes the same? -/
def sameB (xs bs : List Nat) : Bool := decide (xs = bs)
theorem map_inj {xs bs : List Nat} (ha : ∀ b ∈ xs, b < 256) (hb : ∀ b ∈ bs, b < 256) (h : xs.map UInt8.ofNat = bs.map UInt8.ofNat) : xs = bs := by
  induction xs generalizing bs with
  | nil => cases bs with
    | nil => rfl
    | cons y l => simp at h
  | cons x k ih => cases bs with
    | nil => simp at h
    | cons y l =>
      simp only [List.map_cons, List.cons.injEq] at h
      obtain ⟨h1, h2⟩ := h
      have hx := ha x (by simp)
      have hy := hb y (by simp)
      have e : x = y := by
        have := congrArg UInt8.toNat h1
        simp at this
        omega
      rw [e, ih (fun b hm => ha b (by simp [hm])) (fun b hm => hb b (by simp [hm])) h2]
theorem toList_eq (xs bs : List Nat) (ha : ∀ b ∈ xs, b < 256) (hb : ∀ b ∈ bs, b < 256) :
    (xs.map UInt8.ofNat == bs.map UInt8.ofNat) = sameB xs bs := by
  unfold sameB
  by_cases h : xs = bs
  · subst h; simp
  · rw [decide_eq_false h, beq_eq_false_iff_ne]
    exact fun e => h (map_inj ha hb e)

end Go.Proofs.YtjnienlidmmhdaaGreatDoor.Bw
