/- The program's Unquote. -/
import Derived.Test.YtnnfoagdgoionabLbU
import Derived.IntWalk
namespace Go.Proofs.Ytnnfoagdgoionab
open Go.RowKit
set_option linter.unusedVariables false

def unqR : List UInt8 → Option (List UInt8 × List UInt8)
  | [] => none
  | c :: r => if c = 34 then some ([], r) else if c = 10 then none else if c = 92 then
      (match r with
      | [] => none
      | d :: r2 => match meantF (d :: r2) with
        | none => none
        | some m => (unqR r2).map fun x => (m :: x.1, x.2))
      else (unqR r).map fun x => (c :: x.1, x.2)
theorem unqR_cons (c : UInt8) (r : List UInt8) : unqR (c :: r) = if c = 34 then some ([], r) else if c = 10 then none else if c = 92 then
      (match r with
      | [] => none
      | d :: r2 => match meantF (d :: r2) with
        | none => none
        | some m => (unqR r2).map fun x => (m :: x.1, x.2))
      else (unqR r).map fun x => (c :: x.1, x.2) := by rw [unqR.eq_def]
def unqF (l : List UInt8) : Option (List UInt8 × List UInt8) := if hdB l 34 = true then unqR (l.drop 1) else none
def preO (P : List UInt8) (o : Option (List UInt8 × List UInt8)) : Option (List UInt8 × List UInt8) := o.map fun x => (P ++ x.1, x.2)
theorem preO_nil (o : Option (List UInt8 × List UInt8)) : preO [] o = o := by cases o <;> rfl
theorem preO_snoc (P : List UInt8) (c : UInt8) (o : Option (List UInt8 × List UInt8)) : preO P (o.map fun x => (c :: x.1, x.2)) = preO (P ++ [c]) o := by
  cases o <;> simp [preO]
theorem drop_at (s : ByteArray) (k : Nat) (h : k < s.size) : s.data.toList.drop k = s[k] :: s.data.toList.drop (k + 1) := by
  rw [List.drop_eq_getElem_cons (by rw [data_len]; exact h)]; rfl
theorem ext_tx (s : ByteArray) (k : Nat) : s.extract k s.size = tx (s.data.toList.drop k) := by
  rw [Lib.extract_eq, List.take_of_length_le (by simp)]; rfl
theorem ext_data (s : ByteArray) (k : Nat) : (s.extract k s.size).data.toList = s.data.toList.drop k := by
  rw [ext_tx, tx_data]
theorem unq_end {s : ByteArray} {k : Nat} (h : k < s.size) (hc : s[k].toNat = 34) : unqR (s.data.toList.drop k) = some ([], s.data.toList.drop (k + 1)) := by
  rw [drop_at s k h, unqR_cons, if_pos (u8_eq (by rw [hc]; rfl))]
theorem unq_lf {s : ByteArray} {k : Nat} (h : k < s.size) (hc : s[k].toNat = 10) : unqR (s.data.toList.drop k) = none := by
  rw [drop_at s k h, unqR_cons, if_neg (fun e => by rw [e] at hc; exact absurd hc (by decide)), if_pos (u8_eq (by rw [hc]; rfl))]
theorem unq_bad {s : ByteArray} {k : Nat} (h : k < s.size) (hc : s[k].toNat = 92) (hm : meantF (s.data.toList.drop (k + 1)) = none) : unqR (s.data.toList.drop k) = none := by
  rw [drop_at s k h, unqR_cons, if_neg (fun e => by rw [e] at hc; exact absurd hc (by decide)), if_neg (fun e => by rw [e] at hc; exact absurd hc (by decide)), if_pos (u8_eq (by rw [hc]; rfl))]
  cases hd : s.data.toList.drop (k + 1) with
  | nil => rfl
  | cons d r2 => rw [hd] at hm; simp only [hm]
theorem unq_esc {s : ByteArray} {k : Nat} {m : UInt8} (h : k < s.size) (hc : s[k].toNat = 92) (hm : meantF (s.data.toList.drop (k + 1)) = some m) :
    k + 1 < s.size ∧ unqR (s.data.toList.drop k) = (unqR (s.data.toList.drop (k + 2))).map fun x => (m :: x.1, x.2) := by
  have hlt : k + 1 < s.size := by
    rcases Nat.lt_or_ge (k + 1) s.size with hlt | hge
    · exact hlt
    · rw [List.drop_eq_nil_of_le (by rw [data_len]; exact hge)] at hm
      cases hm
  refine ⟨hlt, ?_⟩
  rw [drop_at s k h, unqR_cons, if_neg (fun e => by rw [e] at hc; exact absurd hc (by decide)), if_neg (fun e => by rw [e] at hc; exact absurd hc (by decide)), if_pos (u8_eq (by rw [hc]; rfl))]
  rw [drop_at s (k + 1) hlt] at hm ⊢
  simp only [hm]
theorem unq_on {s : ByteArray} {k : Nat} (h : k < s.size) (h1 : s[k].toNat ≠ 34) (h2 : s[k].toNat ≠ 10) (h3 : s[k].toNat ≠ 92) :
    unqR (s.data.toList.drop k) = (unqR (s.data.toList.drop (k + 1))).map fun x => (s[k] :: x.1, x.2) := by
  rw [drop_at s k h, unqR_cons, if_neg (fun e => h1 (by rw [e]; rfl)), if_neg (fun e => h2 (by rw [e]; rfl)), if_neg (fun e => h3 (by rw [e]; rfl))]
theorem unq_over {s : ByteArray} : unqR (s.data.toList.drop s.size) = none := by
  rw [List.drop_eq_nil_of_le (by rw [data_len]; omega)]; rfl
/-- what is read, as Go hands it back -/
def unqV (o : Option (List UInt8 × List UInt8)) : Value := match o with
  | some (a, b) => .tuple #[.string (tx a), .string (tx b), .bool true]
  | none => .tuple #[.string ⟨#[]⟩, .string ⟨#[]⟩, .bool false]
def URel (s : ByteArray) (w : World) (k : Nat) (v : Value) (wr : World) : Prop :=
  ∃ (A : Option Addr) (n c : Nat) (P : List UInt8), v = .slice A n c ∧ P.length ≤ k ∧ unqR (s.data.toList.drop 1) = preO P (unqR (s.data.toList.drop k)) ∧ wr.ownsRow w.heap.size 5 1 (.slice A n c) n (byC P) ∧ Below w.heap.size w wr
theorem own_n {W w : World} {n c : Nat} {A : Option Addr} {X : List UInt8} (h : w.ownsRow W.heap.size 5 1 (.slice A n c) n (byC X)) : n = X.length := by
  have := h.1
  rw [byC_length] at this
  omega

set_option maxHeartbeats 2000000 in
theorem unquote_any (s : ByteArray) (w : World) (hs : s.size ≤ 4000) : Calls Try.prog 25 #[.string s] w fun e w' => e = .returned (unqV (unqF s.data.toList)) ∧ Below w.heap.size w w' := by
  by_cases h1 : hdB s.data.toList 34 = true
  · have HF := Lib.hid (show unqF s.data.toList = unqR (s.data.toList.drop 1) by unfold unqF; rw [if_pos h1])
    obtain ⟨V, hV⟩ : ∃ V, unqV (unqF s.data.toList) = V := ⟨_, rfl⟩
    have HV := Lib.hid hV
    rw [hV]
    obtain ⟨h0, _⟩ := hd_at h1
    have H1 := Lib.hid h1
    clear h1 hV
    go_enter Try.func25, Try.ntmps25
    go_wp2_with fail
    refine (pref_is _ 34 _ true H1.out).mono ?_; rintro e w' ⟨rfl, rfl⟩
    go_wp2_with fail
    go_loopw [5, 6] (fun v i wr => ∃ k : Nat, 1 ≤ k ∧ k ≤ s.size ∧ i = .int .i64 k ∧ Hid (URel s w k v wr)) (fun _ i _ => s.size - (intOf i).toNat)
    case atStart => exact ⟨1, by omega, by omega, rfl, Lib.hid ⟨none, 0, 0, [], rfl, by simp, (preO_nil _).symm, own_nil _ _ _ _, Below.refl _ _⟩⟩
    case round =>
      obtain ⟨k, hk1, hk, rfl, HQ⟩ := hrel
      obtain ⟨A, n, c, P, rfl, hP, hu, hown, hb⟩ := HQ.out
      have hn := own_n hown
      have hn2 : n + 1 ≤ 1000000 := by omega
      have HU := Lib.hid hu
      have HP := Lib.hid hP
      have HOwr := Lib.hid hown
      have HBwr := Lib.hid hb
      have hwwr := hb.size
      by_cases hlt : k < s.size
      · have hki : (k : Int) < (s.size : Int) := by omega
        have hc := byte_lt s[k]
        by_cases h1 : s[k].toNat = 34
        · have h1a : ((s[k].toNat : Int) == 34) = true := by simp [h1]
          have hcv := fun N => conv_own (own_drewN hown N)
          have HE := Lib.hid (show V = unqV (some (P, s.data.toList.drop (k + 1))) by rw [← HV.out, HF.out, hu, unq_end hlt h1]; simp [preO])
          have hx := ext_tx s (k + 1)
          obtain ⟨X, hX⟩ : ∃ X, s.extract (k + 1) s.size = X := ⟨_, rfl⟩
          have HX := Lib.hid (show V = .tuple #[.string ⟨P.toArray⟩, .string X, .bool true] by rw [HE.out, ← hX, hx]; rfl)
          clear hx h1 hown hb hu hP HQ hn
          have a1 : IntKind.i64.wrap ((k : Int) + 1) = (k : Int) + 1 := IntWalk.i64_in _ (by omega)
          have a2 : (0 : Int) ≤ (k : Int) + 1 := by omega
          have a3 : ((k : Int) + 1).toNat = k + 1 := by omega
          have a4 : (k : Int) + 1 ≤ (s.size : Int) := by omega
          go_wp2_with fail
          go_quiet (fail)
          go_wp2_with fail
          go_ret3
          exact ⟨by rw [HX.out]; rfl, below_drewN HBwr.out _⟩
        · have h1a : ((s[k].toNat : Int) == 34) = false := by simp; omega
          by_cases h2 : s[k].toNat = 10
          · have h2a : ((s[k].toNat : Int) == 10) = true := by simp [h2]
            have HE := Lib.hid (show V = unqV none by rw [← HV.out, HF.out, hu, unq_lf hlt h2]; rfl)
            clear h1 h2 hown hb hu hP HQ hn
            go_wp2_with fail
            go_ret3
            exact ⟨by rw [HE.out]; rfl, HBwr.out⟩
          · have h2a : ((s[k].toNat : Int) == 10) = false := by simp; omega
            by_cases h3 : s[k].toNat = 92
            · have h3a : ((s[k].toNat : Int) == 92) = true := by simp [h3]
              cases hm : meantF (s.data.toList.drop (k + 1)) with
              | none =>
                have HE := Lib.hid (show V = unqV none by rw [← HV.out, HF.out, hu, unq_bad hlt h3 hm]; rfl)
                have HM := Lib.hid (show meantF (s.extract (k + 1) s.size).data.toList = none by rw [ext_data]; exact hm)
                clear h1 h2 h3 hm hown hb hu hP HQ hn
                go_wp2_with fail
                refine (meant_any _ _).mono ?_
                rw [HM.out]
                rintro e w' ⟨rfl, rfl⟩
                simp only [meantV]
                go_wp2_with fail
                go_ret3
                exact ⟨by rw [HE.out]; rfl, HBwr.out⟩
              | some m =>
                obtain ⟨hk2, he⟩ := unq_esc hlt h3 hm
                have HE := Lib.hid (show unqR (s.data.toList.drop 1) = preO (P ++ [m]) (unqR (s.data.toList.drop (k + 2))) by rw [hu, he, preO_snoc])
                have HM := Lib.hid (show meantF (s.extract (k + 1) s.size).data.toList = some m by rw [ext_data]; exact hm)
                clear h1 h2 h3 hm he hown hb hu hP HQ hn
                go_wp2_with fail
                refine (meant_any _ _).mono ?_
                rw [HM.out]
                rintro e w' ⟨rfl, rfl⟩
                simp only [meantV]
                go_wp2_with (at_builtin; refine put_byte (W := w) rfl _ _ rfl w.heap.size A n c P rfl HOwr.out HBwr.out hwwr (by omega) (m.toNat : Int) rfl m rfl ?_)
                intro A1 c1 w1 hown1 hb1 hw1
                have HO1 := Lib.hid hown1
                have HB1 := Lib.hid hb1
                clear hown1 hb1
                go_wp2_with fail
                go_roundw
                case rel => exact ⟨k + 2, by omega, by omega, by go_num, Lib.hid ⟨A1, n + 1, c1, P ++ [m], rfl, by have := HP.out; simp; omega, HE.out, HO1.out, HB1.out⟩⟩
                case measure => simp [intOf]; omega
            · have h3a : ((s[k].toNat : Int) == 92) = false := by simp; omega
              have HE := Lib.hid (show unqR (s.data.toList.drop 1) = preO (P ++ [s[k]]) (unqR (s.data.toList.drop (k + 1))) by rw [hu, unq_on hlt h1 h2 h3, preO_snoc])
              clear h1 h2 h3 hown hb hu hP HQ hn
              go_wp2_with (at_builtin; refine put_byte (W := w) rfl _ _ rfl w.heap.size A n c P rfl HOwr.out HBwr.out hwwr (by omega) (s[k].toNat : Int) rfl s[k] rfl ?_)
              intro A1 c1 w1 hown1 hb1 hw1
              have HO1 := Lib.hid hown1
              have HB1 := Lib.hid hb1
              clear hown1 hb1
              go_wp2_with fail
              go_roundw
              case rel => exact ⟨k + 1, by omega, by omega, by go_num, Lib.hid ⟨A1, n + 1, c1, P ++ [s[k]], rfl, by have := HP.out; simp; omega, HE.out, HO1.out, HB1.out⟩⟩
              case measure => simp [intOf]; omega
      · obtain rfl : k = s.size := by omega
        have hki : ¬ ((s.size : Int) < (s.size : Int)) := by omega
        have HE := Lib.hid (show V = unqV none by rw [← HV.out, HF.out, hu, unq_over]; rfl)
        clear hown hb hu hP HQ hn
        go_wp2_with fail
        go_ret3
        exact ⟨by rw [HE.out]; rfl, HBwr.out⟩
  · have h1' : hdB s.data.toList 34 = false := by simpa using h1
    have HF := Lib.hid (show unqF s.data.toList = none by unfold unqF; rw [if_neg h1])
    rw [HF.out]
    have H1 := Lib.hid h1'
    clear h1 h1'
    go_enter Try.func25, Try.ntmps25
    go_wp2_with fail
    refine (pref_is _ 34 _ false H1.out).mono ?_; rintro e w' ⟨rfl, rfl⟩
    go_wp2_with fail
    go_ret3
    exact ⟨rfl, Below.refl _ _⟩
end Go.Proofs.Ytnnfoagdgoionab
