/- The parser's small functions: kindOf, fail, skip, next. -/
import Derived.Test.YtnabfganecghkaaDoorRxB
import Derived.Lib.Strings
namespace Go.Proofs.YtnabfganecghkaaDoor
open Go.RowKit
set_option linter.unusedVariables false

theorem u8_eq {a b : UInt8} (h : a.toNat = b.toNat) : a = b := UInt8.toNat_inj.1 h
theorem kind_any (c : UInt8) (w : World) : Calls Tryd.prog 83 #[.int .u8 (c.toNat : Int)] w fun e w' => e = .returned (.int .i64 (kindF c : Nat)) ∧ w = w' := by
  by_cases h42 : c = 42
  · subst h42
    have hk : ((kindF 42 : Nat) : Int) = 0 := by decide
    rw [hk, show ((((42 : UInt8).toNat : Nat)) : Int) = 42 from rfl]
    clear hk
    go_enter Tryd.func83, Tryd.ntmps83
    go_wp2
    go_ret
    exact ⟨rfl, rfl⟩
  by_cases h43 : c = 43
  · subst h43
    have hk : ((kindF 43 : Nat) : Int) = 0 := by decide
    rw [hk, show ((((43 : UInt8).toNat : Nat)) : Int) = 43 from rfl]
    clear hk
    go_enter Tryd.func83, Tryd.ntmps83
    go_wp2
    go_ret
    exact ⟨rfl, rfl⟩
  by_cases h63 : c = 63
  · subst h63
    have hk : ((kindF 63 : Nat) : Int) = 0 := by decide
    rw [hk, show ((((63 : UInt8).toNat : Nat)) : Int) = 63 from rfl]
    clear hk
    go_enter Tryd.func83, Tryd.ntmps83
    go_wp2
    go_ret
    exact ⟨rfl, rfl⟩
  by_cases h124 : c = 124
  · subst h124
    have hk : ((kindF 124 : Nat) : Int) = 0 := by decide
    rw [hk, show ((((124 : UInt8).toNat : Nat)) : Int) = 124 from rfl]
    clear hk
    go_enter Tryd.func83, Tryd.ntmps83
    go_wp2
    go_ret
    exact ⟨rfl, rfl⟩
  by_cases h41 : c = 41
  · subst h41
    have hk : ((kindF 41 : Nat) : Int) = 0 := by decide
    rw [hk, show ((((41 : UInt8).toNat : Nat)) : Int) = 41 from rfl]
    clear hk
    go_enter Tryd.func83, Tryd.ntmps83
    go_wp2
    go_ret
    exact ⟨rfl, rfl⟩
  by_cases h93 : c = 93
  · subst h93
    have hk : ((kindF 93 : Nat) : Int) = 0 := by decide
    rw [hk, show ((((93 : UInt8).toNat : Nat)) : Int) = 93 from rfl]
    clear hk
    go_enter Tryd.func83, Tryd.ntmps83
    go_wp2
    go_ret
    exact ⟨rfl, rfl⟩
  by_cases h123 : c = 123
  · subst h123
    have hk : ((kindF 123 : Nat) : Int) = 0 := by decide
    rw [hk, show ((((123 : UInt8).toNat : Nat)) : Int) = 123 from rfl]
    clear hk
    go_enter Tryd.func83, Tryd.ntmps83
    go_wp2
    go_ret
    exact ⟨rfl, rfl⟩
  by_cases h125 : c = 125
  · subst h125
    have hk : ((kindF 125 : Nat) : Int) = 0 := by decide
    rw [hk, show ((((125 : UInt8).toNat : Nat)) : Int) = 125 from rfl]
    clear hk
    go_enter Tryd.func83, Tryd.ntmps83
    go_wp2
    go_ret
    exact ⟨rfl, rfl⟩
  by_cases h94 : c = 94
  · subst h94
    have hk : ((kindF 94 : Nat) : Int) = 0 := by decide
    rw [hk, show ((((94 : UInt8).toNat : Nat)) : Int) = 94 from rfl]
    clear hk
    go_enter Tryd.func83, Tryd.ntmps83
    go_wp2
    go_ret
    exact ⟨rfl, rfl⟩
  by_cases h36 : c = 36
  · subst h36
    have hk : ((kindF 36 : Nat) : Int) = 0 := by decide
    rw [hk, show ((((36 : UInt8).toNat : Nat)) : Int) = 36 from rfl]
    clear hk
    go_enter Tryd.func83, Tryd.ntmps83
    go_wp2
    go_ret
    exact ⟨rfl, rfl⟩
  by_cases h92 : c = 92
  · subst h92
    have hk : ((kindF 92 : Nat) : Int) = 2 := by decide
    rw [hk, show ((((92 : UInt8).toNat : Nat)) : Int) = 92 from rfl]
    clear hk
    go_enter Tryd.func83, Tryd.ntmps83
    go_wp2
    go_ret
    exact ⟨rfl, rfl⟩
  by_cases h46 : c = 46
  · subst h46
    have hk : ((kindF 46 : Nat) : Int) = 3 := by decide
    rw [hk, show ((((46 : UInt8).toNat : Nat)) : Int) = 46 from rfl]
    clear hk
    go_enter Tryd.func83, Tryd.ntmps83
    go_wp2
    go_ret
    exact ⟨rfl, rfl⟩
  by_cases h91 : c = 91
  · subst h91
    have hk : ((kindF 91 : Nat) : Int) = 4 := by decide
    rw [hk, show ((((91 : UInt8).toNat : Nat)) : Int) = 91 from rfl]
    clear hk
    go_enter Tryd.func83, Tryd.ntmps83
    go_wp2
    go_ret
    exact ⟨rfl, rfl⟩
  by_cases h40 : c = 40
  · subst h40
    have hk : ((kindF 40 : Nat) : Int) = 5 := by decide
    rw [hk, show ((((40 : UInt8).toNat : Nat)) : Int) = 40 from rfl]
    clear hk
    go_enter Tryd.func83, Tryd.ntmps83
    go_wp2
    go_ret
    exact ⟨rfl, rfl⟩
  have hk : ((kindF c : Nat) : Int) = 1 := by unfold kindF; simp [*]
  have g42 : ((c.toNat : Int) == 42) = false := by simp; exact fun h => h42 (u8_eq (by rw [show (((42 : UInt8).toNat)) = 42 from rfl]; omega))
  have g43 : ((c.toNat : Int) == 43) = false := by simp; exact fun h => h43 (u8_eq (by rw [show (((43 : UInt8).toNat)) = 43 from rfl]; omega))
  have g63 : ((c.toNat : Int) == 63) = false := by simp; exact fun h => h63 (u8_eq (by rw [show (((63 : UInt8).toNat)) = 63 from rfl]; omega))
  have g124 : ((c.toNat : Int) == 124) = false := by simp; exact fun h => h124 (u8_eq (by rw [show (((124 : UInt8).toNat)) = 124 from rfl]; omega))
  have g41 : ((c.toNat : Int) == 41) = false := by simp; exact fun h => h41 (u8_eq (by rw [show (((41 : UInt8).toNat)) = 41 from rfl]; omega))
  have g93 : ((c.toNat : Int) == 93) = false := by simp; exact fun h => h93 (u8_eq (by rw [show (((93 : UInt8).toNat)) = 93 from rfl]; omega))
  have g123 : ((c.toNat : Int) == 123) = false := by simp; exact fun h => h123 (u8_eq (by rw [show (((123 : UInt8).toNat)) = 123 from rfl]; omega))
  have g125 : ((c.toNat : Int) == 125) = false := by simp; exact fun h => h125 (u8_eq (by rw [show (((125 : UInt8).toNat)) = 125 from rfl]; omega))
  have g94 : ((c.toNat : Int) == 94) = false := by simp; exact fun h => h94 (u8_eq (by rw [show (((94 : UInt8).toNat)) = 94 from rfl]; omega))
  have g36 : ((c.toNat : Int) == 36) = false := by simp; exact fun h => h36 (u8_eq (by rw [show (((36 : UInt8).toNat)) = 36 from rfl]; omega))
  have g92 : ((c.toNat : Int) == 92) = false := by simp; exact fun h => h92 (u8_eq (by rw [show (((92 : UInt8).toNat)) = 92 from rfl]; omega))
  have g46 : ((c.toNat : Int) == 46) = false := by simp; exact fun h => h46 (u8_eq (by rw [show (((46 : UInt8).toNat)) = 46 from rfl]; omega))
  have g91 : ((c.toNat : Int) == 91) = false := by simp; exact fun h => h91 (u8_eq (by rw [show (((91 : UInt8).toNat)) = 91 from rfl]; omega))
  have g40 : ((c.toNat : Int) == 40) = false := by simp; exact fun h => h40 (u8_eq (by rw [show (((40 : UInt8).toNat)) = 40 from rfl]; omega))
  rw [hk]
  clear hk h42 h43 h63 h124 h41 h93 h123 h125 h94 h36 h92 h46 h91 h40
  go_enter Tryd.func83, Tryd.ntmps83
  go_wp2
  go_ret
  exact ⟨rfl, rfl⟩

/-- what leaves the parser with l, P, e -/
def Out (g B : Nat) (d : Nat) (v : Value) (w : World) (l : List UInt8) (P : List Pl) (e : Int) (v' : Value) (w' : World) : Prop := Ps w' g B l d v' P e ∧ Go1 g v v' w w'

theorem fail_any (g B : Nat) (l : List UInt8) (d : Nat) (v : Value) (P : List Pl) (e x : Int) (w : World) (p : Ps w g B l d v P e) :
    Calls Tryd.prog 42 #[.pointer (some ⟨g, 0, none⟩), .int .i64 x] w fun y w' => y = .returned (.tuple #[]) ∧ Out g B d v w [] P (if e = 0 then x else e) v w' := by
  have c0 := p.c0
  have c3 := p.c3
  have f0 := p.f0
  have f3 := p.f3
  by_cases he : e = 0
  · subst he
    rw [if_pos rfl]
    obtain ⟨p1, k1⟩ := p.setE x
    obtain ⟨p2, k2⟩ := p1.setL []
    have H := Lib.hid (And.intro p2 (k1.trans k2))
    clear p p1 k1 p2 k2
    go_enter Tryd.func42, Tryd.ntmps42
    go_wp2_with fail
    go_end0
    exact ⟨rfl, H.out⟩
  · rw [if_neg he]
    have hb : (e == 0) = false := by simp [he]
    obtain ⟨p2, k2⟩ := p.setL []
    have H := Lib.hid (And.intro p2 k2)
    clear p p2 k2 he
    go_enter Tryd.func42, Tryd.ntmps42
    go_wp2_with fail
    go_end0
    exact ⟨rfl, H.out⟩

theorem tx_nil : tx [] = ⟨#[]⟩ := rfl
theorem tx_cons (a : UInt8) (r : List UInt8) : (tx (a :: r)).toList.isEmpty = false ∧ (∃ h : 0 < (tx (a :: r)).size, (tx (a :: r))[0] = a) ∧ (tx (a :: r)).extract 1 (tx (a :: r)).size = tx r ∧ (tx (a :: r)).size = r.length + 1 := by
  refine ⟨by rw [Lib.toList_data, tx_data]; rfl, ⟨by rw [tx_size]; simp, rfl⟩, ?_, by rw [tx_size]; rfl⟩
  rw [Lib.extract_eq, tx_data, List.drop_one, List.tail_cons, List.take_of_length_le (by rw [tx_size]; simp)]
  rfl
/-- a text that begins with a, told apart -/
theorem tx_open (a : UInt8) (r : List UInt8) (hl : r.length ≤ 1000) : ∃ T, tx (a :: r) = T ∧ T.toList.isEmpty = false ∧ (∃ h : 0 < T.size, T[0].toNat = a.toNat) ∧ T.extract 1 T.size = tx r ∧ (1 : Int) ≤ (T.size : Int) ∧ (T.size : Int) ≤ 2000 := by
  obtain ⟨h1, ⟨h0, h2⟩, h3, h4⟩ := tx_cons a r
  exact ⟨_, rfl, h1, ⟨h0, by rw [h2]⟩, h3, by omega, by omega⟩

theorem skip_any (g B : Nat) (l : List UInt8) (d : Nat) (v : Value) (P : List Pl) (e : Int) (c : UInt8) (w : World) (p : Ps w g B l d v P e) (hl : l.length ≤ 1000) :
    Calls Tryd.prog 56 #[.pointer (some ⟨g, 0, none⟩), .int .u8 (c.toNat : Int)] w fun y w' => y = .returned (.bool (hd c l)) ∧ Out g B d v w (if hd c l then l.drop 1 else l) P e v w' := by
  have c0 := p.c0
  have f0 := p.f0
  cases l with
  | nil =>
    have H := Lib.hid (show Out g B d v w [] P e v w from ⟨p, Go1.refl _ _ _⟩)
    rw [tx_nil] at c0
    clear p
    go_enter Tryd.func56, Tryd.ntmps56
    go_wp2_with fail
    go_ret
    exact ⟨rfl, H.out⟩
  | cons a r =>
    obtain ⟨T, hT, hTe, ⟨hT0, hTa⟩, hTx, hT1, hT2⟩ := tx_open a r (by simp at hl; omega)
    rw [hT] at c0
    by_cases hac : a = c
    · subst hac
      have hh : hd a (a :: r) = true := by simp [hd]
      have hne : ((a.toNat : Int) != (a.toNat : Int)) = false := by simp
      obtain ⟨p2, k2⟩ := p.setL r
      have H := Lib.hid (show Out g B d v w (if hd a (a :: r) = true then (a :: r).drop 1 else a :: r) P e v (w.setCell ⟨g, 0, none⟩ (.string (tx r))) by rw [if_pos hh]; exact ⟨p2, k2⟩)
      rw [hh] at H ⊢
      clear p p2 k2 hT hh
      go_enter Tryd.func56, Tryd.ntmps56
      go_wp2_with fail
      go_ret
      exact ⟨rfl, H.out⟩
    · have hh : hd c (a :: r) = false := by simp [hd, hac]
      have hne : ((a.toNat : Int) != (c.toNat : Int)) = true := by
        simp
        exact fun h => hac (u8_eq (by omega))
      have H := Lib.hid (show Out g B d v w (if hd c (a :: r) = true then (a :: r).drop 1 else a :: r) P e v w by rw [if_neg (by rw [hh]; simp)]; exact ⟨p, Go1.refl _ _ _⟩)
      rw [hh] at H ⊢
      clear p hT hh hac
      go_enter Tryd.func56, Tryd.ntmps56
      go_wp2_with fail
      go_ret
      exact ⟨rfl, H.out⟩

theorem next_ok (g B : Nat) (a : UInt8) (r : List UInt8) (d : Nat) (v : Value) (P : List Pl) (e : Int) (w : World) (p : Ps w g B (a :: r) d v P e) (hl : r.length ≤ 1000) :
    Calls Tryd.prog 82 #[.pointer (some ⟨g, 0, none⟩)] w fun y w' => y = .returned (.int .u8 (a.toNat : Int)) ∧ Out g B d v w r P e v w' := by
  have c0 := p.c0
  have f0 := p.f0
  obtain ⟨T, hT, hTe, ⟨hT0, hTa⟩, hTx, hT1, hT2⟩ := tx_open a r hl
  rw [hT] at c0
  obtain ⟨p2, k2⟩ := p.setL r
  have H := Lib.hid (show Out g B d v w r P e v (w.setCell ⟨g, 0, none⟩ (.string (tx r))) from ⟨p2, k2⟩)
  clear p p2 k2 hT
  go_enter Tryd.func82, Tryd.ntmps82
  go_wp2_with fail
  go_ret
  exact ⟨rfl, H.out⟩
theorem next_none (g B : Nat) (d : Nat) (v : Value) (P : List Pl) (e : Int) (w : World) (p : Ps w g B [] d v P e) :
    Calls Tryd.prog 82 #[.pointer (some ⟨g, 0, none⟩)] w fun y w' => y = .returned (.int .u8 0) ∧ Out g B d v w [] P (if e = 0 then 27 else e) v w' := by
  have c0 := p.c0
  rw [tx_nil] at c0
  have H := Lib.hid p
  obtain ⟨E, hE⟩ : ∃ E, (if e = 0 then 27 else e) = E := ⟨_, rfl⟩
  have HE := Lib.hid hE
  rw [hE]
  clear p hE
  go_enter Tryd.func82, Tryd.ntmps82
  go_wp2_with fail
  refine (fail_any _ _ _ _ _ _ _ _ _ H.out).mono ?_
  rw [HE.out]
  rintro y w' ⟨rfl, h⟩
  have H2 := Lib.hid h
  clear h
  go_wp2_with fail
  go_ret
  exact ⟨rfl, H2.out⟩
end Go.Proofs.YtnabfganecghkaaDoor
