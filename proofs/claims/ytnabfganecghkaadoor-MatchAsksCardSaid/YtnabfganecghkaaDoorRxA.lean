/- Patterns as plain data: what they are, the places that are made of them, how they are held against bytes, how they are read. -/
import Derived.Lib.Hide
namespace Go.Proofs.YtnabfganecghkaaDoor
set_option linter.unusedVariables false

/-- a pattern -/
inductive Rx
  | one (X : Nat → Bool) | eps | cat (a b : Rx) | alt (a b : Rx) | star (a : Rx) | plus (a : Rx) | opt (a : Rx)
/-- a place: the bytes that it takes, the places that may be behind it -/
structure Pl where
  X : Nat → Bool
  n : Nat
/-- a piece: where it may begin and end, whether it may be of nothing -/
structure Pc where
  f : Nat
  l : Nat
  e : Bool
def linkP (P : List Pl) (a b : Nat) : List Pl := P.mapIdx fun k p => if a.testBit k then ⟨p.X, p.n ||| b⟩ else p
def joinP (a b : Pc) : Pc := ⟨if a.e then a.f ||| b.f else a.f, if b.e then b.l ||| a.l else b.l, a.e && b.e⟩
def eithP (a b : Pc) : Pc := ⟨a.f ||| b.f, a.l ||| b.l, a.e || b.e⟩
/-- the places of a pattern -/
def glu : Rx → List Pl → Pc × List Pl
  | .one X, P => (⟨2 ^ P.length, 2 ^ P.length, false⟩, P ++ [⟨X, 0⟩])
  | .eps, P => (⟨0, 0, true⟩, P)
  | .cat a b, P => (joinP (glu a P).1 (glu b (glu a P).2).1, linkP (glu b (glu a P).2).2 (glu a P).1.l (glu b (glu a P).2).1.f)
  | .alt a b, P => (eithP (glu a P).1 (glu b (glu a P).2).1, (glu b (glu a P).2).2)
  | .star a, P => (⟨(glu a P).1.f, (glu a P).1.l, true⟩, linkP (glu a P).2 (glu a P).1.l (glu a P).1.f)
  | .plus a, P => ((glu a P).1, linkP (glu a P).2 (glu a P).1.l (glu a P).1.f)
  | .opt a, P => (⟨(glu a P).1.f, (glu a P).1.l, true⟩, (glu a P).2)

/-- one byte: the places that take it, and those behind them -/
def stepF (m c : Nat) : Nat → List Pl → Nat × Nat → Nat × Nat
  | _, [], a => a
  | k, p :: r, a => stepF m c (k + 1) r (if m.testBit k && p.X c then (a.1 ||| 2 ^ k, a.2 ||| p.n) else a)
def simF (P : List Pl) (last : Nat) : Nat → Bool → List UInt8 → Bool
  | _, e, [] => e
  | m, e, c :: s => simF P last (stepF m c.toNat 0 P (0, 0)).2 (!((stepF m c.toNat 0 P (0, 0)).1 &&& last == 0)) s
def matchF (x : Pc) (P : List Pl) (s : List UInt8) : Bool := simF P x.l x.f x.e s

/-- sets of bytes -/
def noX : Nat → Bool := fun _ => false
def withX (X : Nat → Bool) (a b : Nat) : Nat → Bool := fun k => X k || (decide (a ≤ k) && decide (k ≤ b))
def notX (X : Nat → Bool) : Nat → Bool := fun k => !X k
/-- the bits of f below n, as a number -/
def bitsN (f : Nat → Bool) : Nat → Nat
  | 0 => 0
  | n + 1 => bitsN f n + (if f n then 2 ^ n else 0)
def wd (X : Nat → Bool) (i : Nat) : Nat := bitsN (fun j => X (64 * i + j)) 64
theorem bitsN_lt (f : Nat → Bool) : ∀ n, bitsN f n < 2 ^ n
  | 0 => by simp [bitsN]
  | n + 1 => by
    have := bitsN_lt f n
    unfold bitsN
    rw [Nat.pow_succ]
    split <;> omega
theorem bitsN_test (f : Nat → Bool) : ∀ n j, (bitsN f n).testBit j = (decide (j < n) && f j)
  | 0, j => by simp [bitsN]
  | n + 1, j => by
    have hl := bitsN_lt f n
    have ih := bitsN_test f n j
    unfold bitsN
    by_cases hf : f n = true
    · rw [if_pos hf]
      rcases Nat.lt_trichotomy j n with h | h | h
      · rw [Nat.add_comm, Nat.testBit_two_pow_add_gt h, ih]
        simp [h, Nat.lt_succ_of_lt h]
      · subst h
        rw [Nat.add_comm, Nat.testBit_two_pow_add_eq, ih]
        simp [hf]
      · have h1 : bitsN f n + 2 ^ n < 2 ^ j := by
          have : 2 ^ (n + 1) ≤ 2 ^ j := Nat.pow_le_pow_right (by decide) h
          rw [Nat.pow_succ] at this
          omega
        rw [Nat.testBit_lt_two_pow h1]
        simp; omega
    · rw [if_neg hf, Nat.add_zero, ih]
      rcases Nat.lt_trichotomy j n with h | h | h
      · simp [h, Nat.lt_succ_of_lt h]
      · subst h
        simp [hf]
      · have h1 : ¬ j < n := by omega
        have h2 : ¬ j < n + 1 := by omega
        simp [h1, h2]
theorem wd_lt (X : Nat → Bool) (i : Nat) : wd X i < 18446744073709551616 := bitsN_lt _ 64
theorem wd_test (X : Nat → Bool) (i j : Nat) : (wd X i).testBit j = (decide (j < 64) && X (64 * i + j)) := bitsN_test _ 64 j

/-- what is read: a pattern and what stands behind it, or what is wrong -/
inductive Res
  | ok (x : Rx) (l : List UInt8)
  | err (e : Int)
def kindF (c : UInt8) : Nat :=
  if c = 42 ∨ c = 43 ∨ c = 63 ∨ c = 124 ∨ c = 41 ∨ c = 93 ∨ c = 123 ∨ c = 125 ∨ c = 94 ∨ c = 36 then 0
  else if c = 92 then 2 else if c = 46 then 3 else if c = 91 then 4 else if c = 40 then 5 else 1
def memF : List UInt8 → Option (UInt8 × List UInt8)
  | [] => none
  | c :: r => if c = 92 then (match r with
    | [] => none
    | d :: q => some (d, q)) else some (c, r)
def toF (a : UInt8) : List UInt8 → Option (UInt8 × List UInt8)
  | [] => some (a, [])
  | c :: r => if c = 45 then memF r else some (a, c :: r)
def itemF (X : Nat → Bool) (l : List UInt8) : Option ((Nat → Bool) × List UInt8) := match memF l with
  | none => none
  | some (a, l1) => match toF a l1 with
    | none => none
    | some (b, l2) => if b.toNat < a.toNat then none else some (withX X a.toNat b.toNat, l2)
def hd (c : UInt8) : List UInt8 → Bool
  | [] => false
  | a :: _ => a == c
def clsF : Nat → (Nat → Bool) → List UInt8 → Option ((Nat → Bool) × List UInt8)
  | 0, _, _ => none
  | n + 1, X, l => if hd 93 l then some (X, l.drop 1) else match itemF X l with
    | none => none
    | some (Y, q) => clsF n Y q
def insF (l : List UInt8) : Option ((Nat → Bool) × List UInt8) := match itemF noX l with
  | none => none
  | some (X, q) => clsF (q.length + 1) X q
def classF (l : List UInt8) : Option ((Nat → Bool) × List UInt8) :=
  if hd 94 l then (match insF (l.drop 1) with
    | none => none
    | some (X, q) => some (notX X, q)) else insF l
def atomF (c : UInt8) (r : List UInt8) : Option ((Nat → Bool) × List UInt8) :=
  if kindF c = 2 then (match r with
    | [] => none
    | d :: q => some (withX noX d.toNat d.toNat, q))
  else if kindF c = 1 then some (withX noX c.toNat c.toNat, r) else if kindF c = 3 then some (notX noX, r) else if kindF c = 4 then classF r else none
def signs : Rx → List UInt8 → Rx × List UInt8
  | x, [] => (x, [])
  | x, c :: r => if c = 42 then signs (.star x) r else if c = 43 then signs (.plus x) r else if c = 63 then signs (.opt x) r else (x, c :: r)
def altO : Option Rx → Rx → Rx
  | none, x => x
  | some y, x => .alt y x
/-- behind a bracket -/
def innF (f : List UInt8 → Res) (d : Nat) (r : List UInt8) : Res := if 8 ≤ d then .err 9 else match f r with
  | .err e => .err e
  | .ok y q => if hd 41 q then .ok y (q.drop 1) else .err 27
def bareF (f : List UInt8 → Res) (d : Nat) (c : UInt8) (r : List UInt8) : Res := if kindF c = 5 then innF f d r else match atomF c r with
  | none => .err 27
  | some (X, q) => .ok (.one X) q
/-- a pattern from the left: what is read ahead, the row in hand -/
def patF : Nat → Nat → Option Rx → Rx → List UInt8 → Res
  | 0, _, _, _, _ => .err 0
  | n + 1, d, o, x, l => match l with
    | [] => .ok (altO o x) []
    | c :: r => if c = 41 then .ok (altO o x) (c :: r) else if c = 124 then patF n d (some (altO o x)) .eps r
      else match bareF (fun r => patF n (d + 1) none .eps r) d c r with
        | .err e => .err e
        | .ok y q => patF n d o (.cat x (signs y q).1) (signs y q).2
def parseF (s : List UInt8) : Res := if 64 < s.length then .err 9 else match patF 100 1 none .eps s with
  | .err e => .err e
  | .ok x q => if q = [] then .ok x [] else .err 27
end Go.Proofs.YtnabfganecghkaaDoor
