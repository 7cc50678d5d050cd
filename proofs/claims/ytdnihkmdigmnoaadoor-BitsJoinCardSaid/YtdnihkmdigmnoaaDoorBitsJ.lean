/- Lists of counts as bits; two writers beside each other; the contracts of Read and End. -/
import Derived.Test.YtdnihkmdigmnoaaDoorBitsQ
import Derived.Test.YtdnihkmdigmnoaaDoorBitsShortW
namespace Go.Proofs.YtdnihkmdigmnoaaDoor
open Go.RowKit

/-- how many bits the first k counts take, and what they are as a number -/
def encLen (f : Nat → Nat) : Nat → Nat
  | 0 => 0
  | k + 1 => encLen f k + codeLen (f k)
def encVal (f : Nat → Nat) : Nat → Nat
  | 0 => 0
  | k + 1 => encVal f k * 2 ^ codeLen (f k) + codeVal (f k)
theorem encLen_succ (f : Nat → Nat) (k : Nat) : encLen f (k + 1) = encLen f k + codeLen (f k) := rfl
theorem encVal_succ (f : Nat → Nat) (k : Nat) : encVal f (k + 1) = encVal f k * 2 ^ codeLen (f k) + codeVal (f k) := rfl
theorem encLen_le (f : Nat → Nat) : ∀ k, encLen f k ≤ 70 * k
  | 0 => Nat.le_refl _
  | k + 1 => by have := encLen_le f k; have := codeLen_le (f k); rw [encLen_succ]; omega
theorem codeVal_lt (x : Nat) (hx : x ≤ 18446744073709551615) : codeVal x < 2 ^ codeLen x := by
  rcases code_cases x with ⟨h0, h1, e, f⟩ | ⟨h0, h1, e, f⟩ | ⟨h0, h1, e, f⟩ | ⟨h0, h1, e, f⟩ | ⟨h0, h1, e, f⟩ | ⟨h0, h1, e, f⟩ | ⟨h0, e, f⟩ <;> rw [e, f] <;> omega
theorem encLen_mono (f : Nat → Nat) : ∀ (n k : Nat), k ≤ n → encLen f k ≤ encLen f n
  | 0, k, h => by rw [show k = 0 by omega]; exact Nat.le_refl _
  | n + 1, k, h => by
    by_cases e : k = n + 1
    · rw [e]; exact Nat.le_refl _
    · have := encLen_mono f n k (by omega)
      rw [encLen_succ]; omega
theorem encVal_prefix (f : Nat → Nat) : ∀ (n k : Nat), k ≤ n → (∀ i, i < n → f i ≤ 18446744073709551615) → encVal f n / 2 ^ (encLen f n - encLen f k) = encVal f k
  | 0, k, h, _ => by rw [show k = 0 by omega]; simp [encVal]
  | n + 1, k, h, hf => by
    by_cases e : k = n + 1
    · rw [e, Nat.sub_self]; simp
    · have ih := encVal_prefix f n k (by omega) (fun i hi => hf i (by omega))
      have hm := encLen_mono f n k (by omega)
      have hlt := codeVal_lt (f n) (hf n (by omega))
      rw [encLen_succ, encVal_succ, show encLen f n + codeLen (f n) - encLen f k = codeLen (f n) + (encLen f n - encLen f k) by omega, Nat.pow_add, ← Nat.div_div_eq_div_mul]
      rw [Nat.add_comm, Nat.add_mul_div_right _ _ (Nat.two_pow_pos _), Nat.div_eq_of_lt hlt, Nat.zero_add]
      exact ih
theorem encVal_last (f : Nat → Nat) (k : Nat) (h : f k ≤ 18446744073709551615) : encVal f (k + 1) % 2 ^ codeLen (f k) = codeVal (f k) := by
  rw [encVal_succ, Nat.add_comm, Nat.add_mul_mod_self_right, Nat.mod_eq_of_lt (codeVal_lt _ h)]
/-- the k-th count's bits, in all bytes -/
theorem part_enc {f : Nat → Nat} {n k : Nat} {bs : List Nat} (hl : Laid bs (encLen f n) (encVal f n)) (hk : k < n) (hf : ∀ i, i < n → f i ≤ 18446744073709551615) :
    part bs (encLen f k) (codeLen (f k)) = codeVal (f k) ∧ encLen f k + codeLen (f k) ≤ 8 * bs.length := by
  have h1 := hl.1
  have h3 := hl.2.2.1
  have hm := encLen_mono f n (k + 1) (by omega)
  rw [encLen_succ] at hm
  have hp := encVal_prefix f n (k + 1) (by omega) hf
  rw [encLen_succ] at hp
  refine ⟨?_, by omega⟩
  unfold part
  rw [h3, show 8 * bs.length - encLen f k - codeLen (f k) = (encLen f n - (encLen f k + codeLen (f k))) + (8 * bs.length - encLen f n) by omega, Nat.pow_add, Nat.mul_div_mul_right _ _ (Nat.two_pow_pos _), hp]
  exact encVal_last f k (hf k hk)

/-- counts of two lists, one behind the other -/
def both (A B : Nat → Nat) (la : Nat) : Nat → Nat := fun i => if i < la then A i else B (i - la)
theorem both_left {A B : Nat → Nat} {la i : Nat} (h : i < la) : both A B la i = A i := if_pos h
theorem both_right {A B : Nat → Nat} {la j : Nat} : both A B la (la + j) = B j := by
  unfold both
  rw [if_neg (by omega), show la + j - la = j by omega]
theorem both_len (A B : Nat → Nat) (la : Nat) : ∀ j, encLen (both A B la) (la + j) = encLen (both A B la) la + encLen B j
  | 0 => rfl
  | j + 1 => by rw [← Nat.add_assoc, encLen_succ, encLen_succ, both_len A B la j, both_right]; omega

/-- two writers, at the blocks H and H + 1, whose bytes lie apart -/
def Two (H : Nat) (w0 : World) (n1 V1 n2 V2 : Nat) (w : World) : Prop :=
  ∃ v1 bs1 v2 bs2, Wr w H (H + 2) v1 bs1 n1 ∧ Laid bs1 n1 V1 ∧ Wr w (H + 1) (H + 2) v2 bs2 n2 ∧ Laid bs2 n2 V2 ∧ (∀ g, v1.ownBlock = some g → v2.ownBlock ≠ some g) ∧ Below H w0 w ∧ (n1 = 0 → v1 = .slice none 0 0)
theorem Two.first {H n1 V1 n2 V2 m U : Nat} {w0 w w' : World} {v1 : Value} {e : Ending}
    (k1 : ∃ bs1 v2 bs2, Wr w H (H + 2) v1 bs1 n1 ∧ Laid bs1 n1 V1 ∧ Wr w (H + 1) (H + 2) v2 bs2 n2 ∧ Laid bs2 n2 V2 ∧ (∀ g, v1.ownBlock = some g → v2.ownBlock ≠ some g) ∧ Below H w0 w ∧ (n1 = 0 → v1 = .slice none 0 0)) (hm : m ≠ 0) (h : LayPost H (H + 2) m U v1 w e w') : Two H w0 m U n2 V2 w' := by
  obtain ⟨bs1, v2, bs2, q1, q2, r1, r2, ap, be, _⟩ := k1
  obtain ⟨_, v1', bs1', s1, s2, s3, s4⟩ := h
  refine ⟨v1', bs1', v2, bs2, s1, s2, ?_, r2, ?_, ?_, fun h => absurd h hm⟩
  · refine r1.step s3 (by omega) (by omega) (fun h => ?_) (fun g hg hv => ap g hv hg)
    have := (q1.own.lt _ h).1
    omega
  · intro g hg hv
    rcases s4 g hg with h | h
    · exact ap g h hv
    · have := (r1.own.lt g hv).2; omega
  · have hb : Below H w w' := ⟨s3.os, s3.tape, s3.output, s3.size, fun k hk => s3.block k (by have := q1.bw; omega) (by omega) (fun h => by have := (q1.own.lt k h).1; omega)⟩
    exact be.trans hb
theorem Two.second {H n1 V1 n2 V2 m U : Nat} {w0 w w' : World} {v2 : Value} {e : Ending}
    (k1 : ∃ v1 bs1 bs2, Wr w H (H + 2) v1 bs1 n1 ∧ Laid bs1 n1 V1 ∧ Wr w (H + 1) (H + 2) v2 bs2 n2 ∧ Laid bs2 n2 V2 ∧ (∀ g, v1.ownBlock = some g → v2.ownBlock ≠ some g) ∧ Below H w0 w ∧ (n1 = 0 → v1 = .slice none 0 0)) (h : LayPost (H + 1) (H + 2) m U v2 w e w') : Two H w0 n1 V1 m U w' := by
  obtain ⟨v1, bs1, bs2, q1, q2, r1, r2, ap, be, nz⟩ := k1
  obtain ⟨_, v2', bs2', s1, s2, s3, s4⟩ := h
  refine ⟨v1, bs1, v2', bs2', ?_, q2, s1, s2, ?_, ?_, nz⟩
  · refine q1.step s3 (by omega) (by omega) (fun h => ?_) (fun g hg hv => ap g hg hv)
    have := (r1.own.lt _ h).1
    omega
  · intro g hg hv
    rcases s4 g hv with h | h
    · exact ap g hg h
    · have := (q1.own.lt g hg).2; omega
  · have hb : Below H w w' := ⟨s3.os, s3.tape, s3.output, s3.size, fun k hk => s3.block k (by have := q1.bw; omega) (by omega) (fun h => by have := (r1.own.lt k h).1; omega)⟩
    exact be.trans hb

theorem clone_bs (g l cap : Nat) (bs : List Nat) (w : World) (hb : Bs w g l bs) (h0 : 0 < l) (h1 : l ≤ 1000000) :
    Calls Tryd.prog 17 #[.slice (some ⟨g, 0, none⟩) l cap] w fun e w' => ∃ r c, e = .returned (.slice (some ⟨r, 0, none⟩) l c) ∧ Bs w' r l bs ∧ Below w.heap.size w w' ∧ w.heap.size ≤ r ∧ r < w'.heap.size := by
  obtain ⟨i0, hi, hz0, hz1, hz2⟩ := info_parts Tryd.info5
  have hnil := fun (w : World) => Lib.run_eql_slice_nil (P := Tryd.prog) w 23 5 (some ⟨g, 0, none⟩) l cap 0 0 Tryd.underlying23
  have HB0 := Lib.hid hb
  clear hb
  go_enter Tryd.func17, Tryd.ntmps17
  go_wp2_with (at_builtin; refine wpList_append_grows _ rfl _ _ 23 rfl 5 i0 (.int .u8 0) 1 1 Tryd.underlying23 hi hz0 hz1 hz2 rfl (by decide) (some ⟨w.heap.size, 0, none⟩) 0 0 [] rfl (by simp) rfl (by simp) ⟨g, 0, none⟩ l cap (cellsOf bs) rfl ?c0 ?c1 ?c2 ?c3 ?c4 ?c5 ?_)
  case c0 => rw [cellsOf_length]; have := HB0.out.1; omega
  case c1 =>
    intro j u hu
    rw [addr_zero_add]
    unfold cellsOf at hu
    rw [List.getElem?_map] at hu
    obtain ⟨b, hb, rfl⟩ := Option.map_eq_some_iff.mp hu
    have hc := HB0.out.2.2 j b hb
    exact ((((Below.refl w.heap.size w).alloc (Nat.le_refl _) _).cell (p := ⟨g, j, none⟩) (block_lt_of_cell hc))).trans hc
  case c2 => unfold cellsOf; simp [Value.oneCell']
  case c3 => omega
  case c4 => unfold maxLen; omega
  case c5 => omega
  intro v' w1 hown0 hgrow
  have hgr := grown_alloc hgrow
  have hb : Below w.heap.size w w1 := ⟨hgr.os, hgr.tape, hgr.output, hgr.size, fun k hk => hgr.block k hk (by simp)⟩
  have HB := Lib.hid hb
  have hform : ∃ r c, v' = .slice (some ⟨r, 0, none⟩) l c := by
    rcases hown0.2 with ⟨_, hz⟩ | ⟨r, c, cur, hv, _⟩
    · omega
    · exact ⟨r, c, hv⟩
  obtain ⟨r, c, rfl⟩ := hform
  have hBs : Bs w1 r l bs := by
    refine ⟨HB0.out.1, HB0.out.2.1, fun j b hj => ?_⟩
    have := hown0.cells (g := r) rfl j (.int .u8 (b : Int)) (by unfold cellsOf; simp [hj])
    rw [addr_zero_add] at this
    exact this
  have hlt := hown0.lt r rfl
  have hr1 : w.heap.size ≤ r := by have := hlt.1; first | omega | (simp at this; omega)
  have HBS := Lib.hid hBs
  have HR := Lib.hid (And.intro hr1 hlt.2)
  clear hown0 hgrow hgr hb hBs hnil hlt hr1
  go_wp2_with fail
  go_ret
  exact ⟨r, c, rfl, HBS.out, HB.out, HR.out.1, HR.out.2⟩

theorem read_any (g l cap : Nat) (bs : List Nat) (w : World) (hb : Bs w g l bs) (h0 : 0 < l) (h1 : l ≤ 1000000) :
    Calls Tryd.prog 10 #[.slice (some ⟨g, 0, none⟩) l cap] w fun e w' => ∃ q r c, e = .returned (.pointer (some ⟨q, 0, none⟩)) ∧ Rd w' q r l c bs 0 ∧ w.heap.size ≤ q ∧ Below w.heap.size w w' := by
  go_enter Tryd.func10, Tryd.ntmps10
  go_wp2_with fail
  refine (clone_bs g l cap bs _ hb h0 h1).mono ?_
  rintro e w1 ⟨r, c, rfl, hbs, hB, hr1, hr2⟩
  have HB := Lib.hid hB
  have hs := hB.size
  have HS := Lib.hid hbs
  clear hB hbs hb
  go_wp2_with fail
  go_ret
  refine ⟨w1.heap.size, r, c, rfl, ?_, hs, HB.out.alloc hs _⟩
  exact ⟨by omega, by simp, by simp [go_sem], by simp [go_sem], by simp [go_sem], by simp [go_sem], HS.out.below ((Below.refl _ _).alloc (Nat.le_refl _) _), by omega, h1⟩
end Go.Proofs.YtdnihkmdigmnoaaDoor
