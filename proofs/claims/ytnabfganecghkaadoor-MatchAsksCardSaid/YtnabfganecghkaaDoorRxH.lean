/- A class read: member, item, class. -/
import Derived.Test.YtnabfganecghkaaDoorRxG
namespace Go.Proofs.YtnabfganecghkaaDoor
open Go.RowKit
set_option linter.unusedVariables false

/-- what is wrong behind a failure -/
def bad (e : Int) : Int := if e = 0 then 27 else e
theorem bad_zero : bad 0 = 27 := rfl
theorem bad_bad (e : Int) : bad (bad e) = bad e := by
  unfold bad
  split <;> simp [*]
theorem bad_ne (e : Int) : bad e ≠ 0 := by
  unfold bad
  split <;> simp [*]
theorem bad_of (e : Int) (h : e ≠ 0) : bad e = e := by unfold bad; rw [if_neg h]
/-- a byte read, or none -/
def memR (o : Option (UInt8 × List UInt8)) : UInt8 := match o with
  | some p => p.1
  | none => 0
def MemP (o : Option (UInt8 × List UInt8)) (g B d : Nat) (v : Value) (w : World) (P : List Pl) (e : Int) (w' : World) : Prop := match o with
  | some p => Out g B d v w p.2 P e v w'
  | none => Out g B d v w [] P (bad e) v w'
theorem Out.trans {g B d : Nat} {v v1 v2 : Value} {w w1 w2 : World} {l1 l2 : List UInt8} {P1 P2 : List Pl} {e1 e2 : Int} (h : Out g B d v w l1 P1 e1 v1 w1) (k : Out g B d v1 w1 l2 P2 e2 v2 w2) : Out g B d v w l2 P2 e2 v2 w2 := ⟨k.1, h.2.trans k.2⟩
theorem member_any (g B : Nat) (l : List UInt8) (d : Nat) (v : Value) (P : List Pl) (e : Int) (w : World) (p : Ps w g B l d v P e) (hl : l.length ≤ 1000) :
    Calls Tryd.prog 91 #[.pointer (some ⟨g, 0, none⟩)] w fun y w' => y = .returned (.int .u8 ((memR (memF l)).toNat : Int)) ∧ MemP (memF l) g B d v w P e w' := by
  have H := Lib.hid p
  clear p
  cases l with
  | nil =>
    have e1 : memF [] = none := rfl
    rw [e1]
    show Calls _ _ _ w fun y w' => y = .returned (.int .u8 0) ∧ Out g B d v w [] P (bad e) v w'
    go_enter Tryd.func91, Tryd.ntmps91
    go_wp2_with fail
    refine (next_none _ _ _ _ _ _ _ H.out).mono ?_
    rintro y w1 ⟨rfl, h⟩
    have H1 := Lib.hid (show Out g B d v w [] P (bad e) v w1 from h)
    clear h
    go_wp2_with fail
    go_ret
    exact ⟨rfl, H1.out⟩
  | cons a r =>
    have hr : r.length ≤ 1000 := by simp at hl; omega
    by_cases h92 : a = 92
    · subst h92
      cases r with
      | nil =>
        have e1 : memF [92] = none := rfl
        rw [e1]
        show Calls _ _ _ w fun y w' => y = .returned (.int .u8 0) ∧ Out g B d v w [] P (bad e) v w'
        go_enter Tryd.func91, Tryd.ntmps91
        go_wp2_with fail
        refine (next_ok _ _ _ _ _ _ _ _ _ H.out hr).mono ?_
        rintro y w1 ⟨rfl, h⟩
        have H1 := Lib.hid h
        clear h
        go_wp2_with fail
        refine (next_none _ _ _ _ _ _ _ H1.out.1).mono ?_
        rintro y w2 ⟨rfl, h⟩
        have H2 := Lib.hid (show Out g B d v w [] P (bad e) v w2 from H1.out.trans h)
        clear h
        go_wp2_with fail
        go_ret
        exact ⟨rfl, H2.out⟩
      | cons c q =>
        have e1 : memF (92 :: c :: q) = some (c, q) := rfl
        have hq : q.length ≤ 1000 := by simp at hr; omega
        rw [e1]
        show Calls _ _ _ w fun y w' => y = .returned (.int .u8 (c.toNat : Int)) ∧ Out g B d v w q P e v w'
        go_enter Tryd.func91, Tryd.ntmps91
        go_wp2_with fail
        refine (next_ok _ _ _ _ _ _ _ _ _ H.out hr).mono ?_
        rintro y w1 ⟨rfl, h⟩
        have H1 := Lib.hid h
        clear h
        go_wp2_with fail
        refine (next_ok _ _ _ _ _ _ _ _ _ H1.out.1 hq).mono ?_
        rintro y w2 ⟨rfl, h⟩
        have H2 := Lib.hid (show Out g B d v w q P e v w2 from H1.out.trans h)
        clear h
        go_wp2_with fail
        go_ret
        exact ⟨rfl, H2.out⟩
    · have e1 : memF (a :: r) = some (a, r) := by simp [memF, h92]
      rw [e1]
      have hb : ((a.toNat : Int) == 92) = false := by
        simp
        exact fun h => h92 (u8_eq (by rw [show ((92 : UInt8).toNat) = 92 from rfl]; omega))
      show Calls _ _ _ w fun y w' => y = .returned (.int .u8 (a.toNat : Int)) ∧ Out g B d v w r P e v w'
      clear h92 e1
      go_enter Tryd.func91, Tryd.ntmps91
      go_wp2_with fail
      refine (next_ok _ _ _ _ _ _ _ _ _ H.out hr).mono ?_
      rintro y w1 ⟨rfl, h⟩
      have H1 := Lib.hid h
      clear h
      go_wp2_with fail
      go_ret
      exact ⟨rfl, H1.out⟩
theorem memF_len {l q : List UInt8} {c : UInt8} (h : memF l = some (c, q)) : q.length + 1 ≤ l.length := by
  cases l with
  | nil => cases h
  | cons a r =>
    by_cases ha : a = 92
    · cases r with
      | nil => simp [memF, ha] at h
      | cons b s =>
        simp [memF, ha] at h
        rw [← h.2]
        simp
    · simp [memF, ha] at h
      rw [← h.2]
      simp
theorem hd_drop {c : UInt8} {l : List UInt8} (h : hd c l = true) : (l.drop 1).length + 1 = l.length := by
  cases l with
  | nil => cases h
  | cons a r => simp
theorem toF_len {a b : UInt8} {l q : List UInt8} (h : toF a l = some (b, q)) : q.length ≤ l.length := by
  cases l with
  | nil =>
    simp [toF] at h
    rw [h.2]; simp
  | cons c r =>
    by_cases hc : c = 45
    · simp only [toF, hc, if_true] at h
      have := memF_len h
      simp; omega
    · simp [toF, hc] at h
      rw [← h.2]; simp
theorem toF_no {a : UInt8} {l : List UInt8} (h : hd 45 l = false) : toF a l = some (a, l) := by
  cases l with
  | nil => rfl
  | cons c r =>
    have : ¬ c = 45 := by simpa [hd] using h
    simp [toF, this]
theorem toF_yes {a : UInt8} {l : List UInt8} (h : hd 45 l = true) : toF a l = memF (l.drop 1) := by
  cases l with
  | nil => cases h
  | cons c r =>
    have : c = 45 := by simpa [hd] using h
    simp [toF, this]
theorem itemF_len {X Y : Nat → Bool} {l q : List UInt8} (h : itemF X l = some (Y, q)) : q.length + 1 ≤ l.length := by
  unfold itemF at h
  split at h
  · cases h
  · rename_i a l1 hm
    split at h
    · cases h
    · rename_i b l2 ht
      split at h
      · cases h
      · simp at h
        have h1 := memF_len hm
        have h2 := toF_len ht
        rw [← h.2]
        omega
/-- an item read, or none -/
def ItP (o : Option ((Nat → Bool) × List UInt8)) (g B d : Nat) (v : Value) (w : World) (P : List Pl) (y : Ending) (w' : World) : Prop := match o with
  | some p => y = .returned (setV p.1) ∧ Out g B d v w p.2 P 0 v w'
  | none => ∃ Y, y = .returned (setV Y) ∧ Out g B d v w [] P 27 v w'
/-- a set in a box of a call's own -/
structure Sb (w : World) (h g : Nat) (v : Value) (X : Nat → Bool) : Prop where
  s : Sx w h X
  hg : h ≠ g
  hv : v.ownBlock ≠ some h
theorem Sb.go {w w' : World} {h g : Nat} {v v' : Value} {X : Nat → Bool} (b : Sb w h g v X) (k : Go1 g v v' w w') : Sb w' h g v' X :=
  ⟨⟨Nat.lt_of_lt_of_le b.s.hw k.size, (k.s.block h b.s.hw b.hg b.hv).trans b.s.blk⟩, b.hg, fun e => (k.o h e).elim b.hv (fun e' => by have := b.s.hw; omega)⟩
theorem Sb.new {w : World} {g B : Nat} {l : List UInt8} {d : Nat} {v : Value} {P : List Pl} {e : Int} (p : Ps w g B l d v P e) (X : Nat → Bool) : Sb (w.alloc (.cells (stA X) 102 (0, 0))) w.heap.size g v X :=
  ⟨Sx.new w X, by have := p.gw; omega, fun e => by have := (p.own.lt _ e).2; omega⟩
theorem Sb.alloc {w : World} {h g : Nat} {v : Value} {X : Nat → Bool} (b : Sb w h g v X) (o : Obj) : Sb (w.alloc o) h g v X := b.go ((Go1.refl g v w).alloc o)
theorem Sb.cells {w : World} {h g : Nat} {v : Value} {X : Nat → Bool} (b : Sb w h g v X) : (w.cell? ⟨h, 0, none⟩ = some (.int .u64 (wd X 0 : Nat)) ∧ w.cell? ⟨h, 1, none⟩ = some (.int .u64 (wd X 1 : Nat)) ∧ w.cell? ⟨h, 2, none⟩ = some (.int .u64 (wd X 2 : Nat)) ∧ w.cell? ⟨h, 3, none⟩ = some (.int .u64 (wd X 3 : Nat))) ∧ (w.frozen? ⟨h, 0, none⟩ = false ∧ w.frozen? ⟨h, 1, none⟩ = false ∧ w.frozen? ⟨h, 2, none⟩ = false ∧ w.frozen? ⟨h, 3, none⟩ = false) :=
  ⟨b.s.cells, (b.s.cell 0 (by decide)).2, (b.s.cell 1 (by decide)).2, (b.s.cell 2 (by decide)).2, (b.s.cell 3 (by decide)).2⟩
/-- four stores -/
def put4 (w : World) (h : Nat) (X : Nat → Bool) : World := (((w.setCell ⟨h, 0, none⟩ (.int .u64 (wd X 0 : Nat))).setCell ⟨h, 1, none⟩ (.int .u64 (wd X 1 : Nat))).setCell ⟨h, 2, none⟩ (.int .u64 (wd X 2 : Nat))).setCell ⟨h, 3, none⟩ (.int .u64 (wd X 3 : Nat))
theorem Sb.put {w : World} {h g : Nat} {v : Value} {X : Nat → Bool} (b : Sb w h g v X) (Y : Nat → Bool) : Sb (put4 w h Y) h g v Y := by
  refine ⟨⟨by have := b.s.hw; simpa [put4] using this, ?_⟩, b.hg, b.hv⟩
  unfold put4
  rw [heap_set_at (heap_set_at (heap_set_at (heap_set_at b.s.blk _) _) _) _]
  rfl
theorem Ps.put4 {w : World} {h g B : Nat} {l : List UInt8} {d : Nat} {v : Value} {P : List Pl} {e : Int} (p : Ps w g B l d v P e) (h1 : h ≠ g) (h2 : v.ownBlock ≠ some h) (Y : Nat → Bool) : Ps (put4 w h Y) g B l d v P e :=
  (((p.other h1 h2 _).other h1 h2 _).other h1 h2 _).other h1 h2 _
theorem Go1.put4 {g : Nat} {v v' : Value} {w w' : World} (k : Go1 g v v' w w') {h : Nat} (hh : w.heap.size ≤ h) (Y : Nat → Bool) : Go1 g v v' w (put4 w' h Y) :=
  (((k.other (a := ⟨h, 0, none⟩) hh _).other (a := ⟨h, 1, none⟩) hh _).other (a := ⟨h, 2, none⟩) hh _).other (a := ⟨h, 3, none⟩) hh _
theorem Sb.put4 {w : World} {h k g : Nat} {v : Value} {X : Nat → Bool} (b : Sb w h g v X) (hk : h ≠ k) (Y : Nat → Bool) : Sb (put4 w k Y) h g v X :=
  ⟨(((b.s.other (a := ⟨k, 0, none⟩) hk _).other (a := ⟨k, 1, none⟩) hk _).other (a := ⟨k, 2, none⟩) hk _).other (a := ⟨k, 3, none⟩) hk _, b.hg, b.hv⟩
end Go.Proofs.YtnabfganecghkaaDoor
