/- Keys read: plain facts, and the program's piece and From. -/
import Derived.Test.YtnnfoagdgoionabLbKm
import Derived.Test.YtnnfoagdgoionabLbD
namespace Go.Proofs.Ytnnfoagdgoionab
open Go.RowKit
set_option linter.unusedVariables false

/-- a name or a value of a key, and what is behind it -/
def pieceF (l : List UInt8) : List UInt8 × List UInt8 := match l with
  | [] => ([], [])
  | c :: r => if c.toNat ≤ r.length then (r.take c.toNat, r.drop c.toNat) else ([], [])
def fromK : Nat → List UInt8 → List LabL
  | 0, _ => []
  | n + 1, s => if s = [] then [] else ((pieceF s).1, (pieceF (pieceF s).2).1) :: fromK n (pieceF (pieceF s).2).2
theorem fromK_len : ∀ (n : Nat) (s : List UInt8), (fromK n s).length ≤ n
  | 0, s => by simp [fromK]
  | n + 1, s => by
    unfold fromK
    split
    · simp
    · have := fromK_len n (pieceF (pieceF s).2).2
      simp; omega
/-- a label's bytes in a key, by lists -/
def keyT (p : LabL) : List UInt8 := UInt8.ofNat p.1.length :: (p.1 ++ UInt8.ofNat p.2.length :: p.2)
theorem keyT_lab (p : LabL) : keyB (labT p) = keyT p := rfl
theorem piece_key (a rest : List UInt8) (h : a.length ≤ 64) : pieceF (UInt8.ofNat a.length :: (a ++ rest)) = (a, rest) := by
  unfold pieceF
  have e : (UInt8.ofNat a.length).toNat = a.length := by have := u8_of a.length h; omega
  simp only [e]
  rw [if_pos (by simp)]
  simp
theorem piece_back {s a r : List UInt8} (h : pieceF s = (a, r)) (ha : a ≠ []) : s = UInt8.ofNat a.length :: (a ++ r) := by
  unfold pieceF at h
  cases s with
  | nil => injection h with h1; exact absurd h1.symm ha
  | cons c t =>
    simp only at h
    split at h
    · rename_i hle
      injection h with h1 h2
      have hl : a.length = c.toNat := by rw [← h1, List.length_take]; omega
      rw [hl, ← h1, ← h2, List.take_append_drop]
      congr 1
      apply UInt8.toNat_inj.1
      rw [UInt8.toNat_ofNat']
      have := c.toNat_lt
      omega
    · injection h with h1; exact absurd h1.symm ha
theorem fromK_key : ∀ (n : Nat) (l : List LabL), l.length ≤ n → (∀ p ∈ l, p.1.length ≤ 64 ∧ p.2.length ≤ 64) → fromK (n + 1) (l.flatMap keyT) = l
  | n, [], _, _ => by simp [fromK]
  | 0, p :: r, h, _ => by simp at h
  | n + 1, p :: r, h, hl => by
    have hp := hl p (by simp)
    have ih := fromK_key n r (by simpa using h) (fun q hq => hl q (by simp [hq]))
    rw [List.flatMap_cons]
    unfold keyT
    rw [List.cons_append, List.append_assoc, List.cons_append]
    unfold fromK
    rw [if_neg (by simp), piece_key p.1 _ hp.1, piece_key p.2 _ hp.2]
    have e : (r.flatMap fun p => UInt8.ofNat p.1.length :: (p.1 ++ UInt8.ofNat p.2.length :: p.2)) = r.flatMap keyT := rfl
    rw [e, ih]
theorem fromK_back : ∀ (n : Nat) (s : List UInt8), (fromK n s).length < n → (∀ p ∈ fromK n s, p.1 ≠ [] ∧ p.2 ≠ []) → (fromK n s).flatMap keyT = s
  | 0, s, h, _ => by simp [fromK] at h
  | n + 1, s, h, hp => by
    unfold fromK at h hp ⊢
    split at h
    · rename_i hs
      rw [if_pos hs] at hp
      simp [hs]
    · rename_i hs
      rw [if_neg hs] at hp
      have h1 := hp _ (List.mem_cons_self ..)
      have e1 := piece_back (s := s) (a := (pieceF s).1) (r := (pieceF s).2) rfl h1.1
      have e2 := piece_back (s := (pieceF s).2) (a := (pieceF (pieceF s).2).1) (r := (pieceF (pieceF s).2).2) rfl h1.2
      have ih := fromK_back n (pieceF (pieceF s).2).2 (by simpa using h) (fun p hpm => hp p (List.mem_cons_of_mem _ hpm))
      rw [if_neg hs, List.flatMap_cons, ih]
      unfold keyT
      rw [List.cons_append, List.append_assoc, List.cons_append, ← e2]
      exact e1.symm
theorem keyL_labT (l : List LabL) : keyL (l.map labT) = l.flatMap keyT := by
  unfold keyL
  rw [List.flatMap_map]
  rfl
theorem good_ne {l : List LabL} (h : chk (l.map labT) = 0) : l.length ≤ 16 ∧ ∀ p ∈ l, (p.1 ≠ [] ∧ p.2 ≠ []) ∧ p.1.length ≤ 64 ∧ p.2.length ≤ 64 := by
  obtain ⟨h1, h2⟩ := chk_ok h
  rw [List.length_map] at h1
  refine ⟨h1, fun p hp => ?_⟩
  obtain ⟨k, hk, rfl⟩ := List.getElem_of_mem hp
  have hg := (h2 k (labT l[k]) (by rw [List.getElem?_map, List.getElem?_eq_getElem hk]; rfl)).1
  have a1 := valB_pos hg.1.1
  have a2 := valB_pos hg.2
  have b1 := valB_le hg.1.1
  have b2 := valB_le hg.2
  have e1 : (labT l[k]).1.size = l[k].1.length := rfl
  have e2 : (labT l[k]).2.size = l[k].2.length := rfl
  rw [e1] at a1 b1
  rw [e2] at a2 b2
  exact ⟨⟨fun e => by rw [e] at a1; simp at a1, fun e => by rw [e] at a2; simp at a2⟩, b1, b2⟩
theorem labT_of (l : List Lab) : (l.map fun p => ((p.1.data.toList, p.2.data.toList) : LabL)).map labT = l := by
  rw [List.map_map]
  have : (labT ∘ fun p : Lab => ((p.1.data.toList, p.2.data.toList) : LabL)) = id := by
    funext p
    exact Prod.ext (tx_of p.1) (tx_of p.2)
  rw [this, List.map_id]
def pieceV (x : List UInt8 × List UInt8) : Value := .tuple #[.string (tx x.1), .string (tx x.2)]
set_option maxHeartbeats 1000000 in
theorem piece_any (s : ByteArray) (w : World) (hs : s.size ≤ 4000) : Calls Try.prog 40 #[.string s] w fun e w' => e = .returned (pieceV (pieceF s.data.toList)) ∧ Below w.heap.size w w' := by
  by_cases h0 : s.size = 0
  · have hl : s.data.toList = [] := List.eq_nil_of_length_eq_zero h0
    have hemp : s.toList.isEmpty = true := by rw [Lib.toList_data, hl]; rfl
    have hemp2 : s.toList = [] := by rw [Lib.toList_data, hl]
    have HE := Lib.hid (show pieceV (pieceF s.data.toList) = .tuple #[.string ⟨#[]⟩, .string ⟨#[]⟩] by rw [hl]; rfl)
    rw [HE.out]
    clear h0 hl
    go_enter Try.func40, Try.ntmps40
    go_wp2_with fail
    go_ret2
    exact ⟨rfl, Below.refl _ _⟩
  · have hpos : 0 < s.size := by omega
    have hposi : (0 : Int) < (s.size : Int) := by omega
    have hemp : s.toList.isEmpty = false := by
      rw [Lib.toList_data]
      cases h : s.data.toList with
      | nil => rw [← data_len, h] at hpos; simp at hpos
      | cons _ _ => rfl
    have hc := byte_lt s[0]
    have hcl : s.data.toList = s[0] :: s.data.toList.drop 1 := by have := drop_at s 0 hpos; simpa using this
    obtain ⟨c, hce⟩ : ∃ c, s[0].toNat = c := ⟨_, rfl⟩
    by_cases hle : 1 + c ≤ s.size
    · have hgt : ¬ ((s.size : Int) < 1 + (c : Int)) := by omega
      have hgt2 : 1 + (c : Int) ≤ (s.size : Int) := by omega
      have HE := Lib.hid (show pieceV (pieceF s.data.toList) = .tuple #[.string (s.extract 1 (1 + c)), .string (s.extract (1 + c) s.size)] by
        rw [hcl]
        unfold pieceF
        simp only [hce]
        rw [if_pos (by rw [List.length_drop, data_len]; omega)]
        unfold pieceV
        rw [ext_tx, Lib.extract_eq, List.drop_drop, show 1 + c - 1 = c by omega]
        rfl)
      rw [HE.out]
      have hcw : (c : Int) ≤ 255 := by omega
      clear hcl hle
      go_enter Try.func40, Try.ntmps40
      go_wp2_with fail
      go_quiet (fail)
      go_wp2_with fail
      go_ret2
      exact ⟨rfl, below_drewN (Below.refl _ _) _⟩
    · have hgt : (s.size : Int) < 1 + (c : Int) := by omega
      have HE := Lib.hid (show pieceV (pieceF s.data.toList) = .tuple #[.string ⟨#[]⟩, .string ⟨#[]⟩] by
        rw [hcl]
        unfold pieceF
        simp only [hce]
        rw [if_neg (by rw [List.length_drop, data_len]; omega)]
        rfl)
      rw [HE.out]
      have hcw : (c : Int) ≤ 255 := by omega
      clear hcl hle
      go_enter Try.func40, Try.ntmps40
      go_wp2_with fail
      go_ret2
      exact ⟨rfl, Below.refl _ _⟩
end Go.Proofs.Ytnnfoagdgoionab
