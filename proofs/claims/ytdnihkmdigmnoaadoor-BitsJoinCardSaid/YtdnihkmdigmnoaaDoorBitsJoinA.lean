/- The law BitsJoin's walk. -/
import Derived.Test.YtdnihkmdigmnoaaDoorBitsJoinZ
namespace Go.Proofs.YtdnihkmdigmnoaaDoor
open Go.RowKit

set_option maxRecDepth 100000 in
theorem join_long_a (a b : Option Addr) (la lb ca cb : Nat) (w : World) (hT : Tab w) (h : 50 < la) :
    Calls Tryd.prog 4 #[.slice a la ca, .slice b lb cb] w fun e w' => e = .returned (.bool true) ∧ Below w.heap.size w w' := by
  have g0 : (50 : Int) < (la : Int) := by omega
  have AW := Lib.hid (awake02 w hT)
  clear hT
  go_enter Tryd.func4, Tryd.ntmps4
  go_wp2_with fail
  refine AW.out.mono ?_
  rintro e w' ⟨rfl, hB⟩
  have HB := Lib.hid hB
  clear hB
  go_wp2_with fail
  go_ret
  exact ⟨rfl, HB.out⟩

set_option maxRecDepth 100000 in
theorem join_long_b (a b : Option Addr) (la lb ca cb : Nat) (w : World) (hT : Tab w) (g : la ≤ 50) (h : 50 < lb) :
    Calls Tryd.prog 4 #[.slice a la ca, .slice b lb cb] w fun e w' => e = .returned (.bool true) ∧ Below w.heap.size w w' := by
  have g0 : (la : Int) ≤ 50 := by omega
  have g1 : (50 : Int) < (lb : Int) := by omega
  have AW := Lib.hid (awake02 w hT)
  clear hT
  go_enter Tryd.func4, Tryd.ntmps4
  go_wp2_with fail
  refine AW.out.mono ?_
  rintro e w' ⟨rfl, hB⟩
  have HB := Lib.hid hB
  clear hB
  go_wp2_with fail
  go_ret
  exact ⟨rfl, HB.out⟩

/-- a slice of whole numbers that came in: nil, or cells of that kind -/
def RowIn (k : IntKind) (w : World) (a : Option Addr) (len cap : Nat) (zs : List Int) : Prop :=
  (a = none ∧ len = 0 ∧ cap = 0 ∧ zs = []) ∨
  ∃ x, a = some x ∧ len ≤ cap ∧ cap ≤ maxLen ∧ zs.length = cap ∧ (∀ i, i < zs.length → w.cell? (x.add i) = some (.int k (zs.getD i 0))) ∧ ∀ n ∈ zs, (Lit.int k n).wf = true

theorem getD_mem {zs : List Int} {i : Nat} (h : i < zs.length) : zs.getD i 0 ∈ zs := by
  have e : zs.getD i 0 = zs[i] := by simp [List.getD, h]
  rw [e]; exact List.getElem_mem h

theorem addr_add (b off i : Nat) : (⟨b, off, none⟩ : Addr).add i = ⟨b, off + i, none⟩ := by
  unfold Addr.add
  simp

theorem rowIn_cases {k : IntKind} {w : World} {a : Option Addr} {len cap : Nat} {zs : List Int} (h : RowIn k w a len cap zs) :
    len = 0 ∨ ∃ b off, a = some ⟨b, off, none⟩ ∧ ∀ i, i < len → w.cell? ⟨b, off + i, none⟩ = some (.int k (zs.getD i 0)) ∧ (Lit.int k (zs.getD i 0)).wf = true := by
  rcases h with ⟨_, h, _, _⟩ | ⟨x, rfl, hl, hm, hz, hc, hw⟩
  · exact .inl h
  · by_cases h0 : len = 0
    · exact .inl h0
    · obtain ⟨b, off, spot⟩ := x
      have hc0 := hc 0 (by omega)
      have hs : spot = none := by simpa [Addr.add] using World.cell?_spot hc0
      subst hs
      exact .inr ⟨b, off, rfl, fun i hi => ⟨by have := hc i (by omega); rwa [addr_add] at this, hw _ (getD_mem (by omega))⟩⟩

theorem gives_of {w : World} {a : Option Addr} {len cap : Nat} {zs : List Int} (h : RowIn .u64 w a len cap zs) : Gives w a len (fun i => (zs.getD i 0).toNat) := by
  intro k hk
  rcases rowIn_cases h with h0 | ⟨b, off, rfl, hc⟩
  · omega
  · obtain ⟨hc0, hw⟩ := hc k hk
    obtain ⟨b0, b1⟩ := bounds_u64 hw
    refine ⟨b, off, rfl, ?_, ?_⟩
    · rw [hc0, Int.toNat_of_nonneg b0]
    · show (zs.getD k 0).toNat ≤ _
      omega

theorem bitsJoin_walk (a0 : Option Addr) (len0 cap0 : Nat) (z0 : List Int) (a1 : Option Addr) (len1 cap1 : Nat) (z1 : List Int) (w : World) (hT : Tab w) (w0 : RowIn .u64 w a0 len0 cap0 z0) (w1 : RowIn .u64 w a1 len1 cap1 z1) :
    Calls Tryd.prog 4 #[.slice a0 len0 cap0, .slice a1 len1 cap1] w fun e w' => e = .returned (.bool true) ∧ Below w.heap.size w w' := by
  by_cases h0 : 50 < len0
  · exact join_long_a _ _ _ _ _ _ w hT h0
  · by_cases h1 : 50 < len1
    · exact join_long_b _ _ _ _ _ _ w hT (by omega) h1
    · by_cases hz : len0 + len1 = 0
      · obtain rfl : len0 = 0 := by omega
        obtain rfl : len1 = 0 := by omega
        exact join_none _ _ _ _ w hT
      · exact join_any _ _ _ _ _ _ _ _ w hT (gives_of w0) (gives_of w1) (by omega) (by omega) (by omega)
end Go.Proofs.YtdnihkmdigmnoaaDoor
