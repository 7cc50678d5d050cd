/- Plain arithmetic of buckets' bounds: schemas, units, indices. Nothing of the program stands here. -/
import Derived.WalkKit
import Derived.Test.YtjnienlidmmhdaaGreatDoorMathA
namespace Go.Proofs.YtjnienlidmmhdaaGreatDoor

def rightB (s : Int) : Bool := decide (-4 ≤ s ∧ s ≤ 8)
/-- a bucket's width in units -/
def uw (s : Int) : Int := 2 ^ (8 - s).toNat
/-- where a bucket ends -/
def un (s i : Int) : Int := i * uw s
/-- the bucket of a place -/
def cl (s u : Int) : Int := upv u (8 - s).toNat
def mostV (s : Int) : Int := if rightB s = true then 262144 / uw s else 0
def leastV (s : Int) : Int := 1 - mostV s
def inB (s i : Int) : Bool := decide (leastV s ≤ i ∧ i ≤ mostV s)
def wholeB (s u : Int) : Bool := rightB s && decide (un s (u / uw s) = u)
/-- is there a bucket of the schema t that has the bucket i of the schema f? -/
def okTo (f t : Int) : Bool := rightB f && (rightB t && decide (t ≤ f))
def toV (f t i : Int) : Int := upv i (f - t).toNat
def hasB (a s i b t k : Int) : Bool := decide (a = b) && (okTo t s && (inB t k && decide (i = toV t s k)))
def offB (s u : Int) : Bool := !rightB s || (decide (u ≤ -262144) || decide (262144 < u))

theorem right_iff {s : Int} : rightB s = true ↔ -4 ≤ s ∧ s ≤ 8 := by unfold rightB; simp
theorem right_yes {s : Int} (h : rightB s = true) : -4 ≤ s ∧ s ≤ 8 := right_iff.1 h
theorem right_no {s : Int} (h : rightB s = false) : ¬ (-4 ≤ s ∧ s ≤ 8) := fun h' => by rw [right_iff.2 h'] at h; cases h
theorem schemas {s : Int} (h : rightB s = true) : s = -4 ∨ s = -3 ∨ s = -2 ∨ s = -1 ∨ s = 0 ∨ s = 1 ∨ s = 2 ∨ s = 3 ∨ s = 4 ∨ s = 5 ∨ s = 6 ∨ s = 7 ∨ s = 8 := by
  have := right_yes h
  omega
theorem uw_at : uw (-4) = 4096 ∧ uw (-3) = 2048 ∧ uw (-2) = 1024 ∧ uw (-1) = 512 ∧ uw 0 = 256 ∧ uw 1 = 128 ∧ uw 2 = 64 ∧ uw 3 = 32 ∧ uw 4 = 16 ∧ uw 5 = 8 ∧ uw 6 = 4 ∧ uw 7 = 2 ∧ uw 8 = 1 := by decide
theorem uw_cases {s : Int} (h : rightB s = true) : uw s = 4096 ∨ uw s = 2048 ∨ uw s = 1024 ∨ uw s = 512 ∨ uw s = 256 ∨ uw s = 128 ∨ uw s = 64 ∨ uw s = 32 ∨ uw s = 16 ∨ uw s = 8 ∨ uw s = 4 ∨ uw s = 2 ∨ uw s = 1 := by
  obtain ⟨a, b, c, d, e, f, g, i, j, k, l, m, n⟩ := uw_at
  rcases schemas h with rfl | rfl | rfl | rfl | rfl | rfl | rfl | rfl | rfl | rfl | rfl | rfl | rfl <;> omega
theorem uw_bd {s : Int} (h : rightB s = true) : 1 ≤ uw s ∧ uw s ≤ 4096 := by
  rcases uw_cases h with e | e | e | e | e | e | e | e | e | e | e | e | e <;> omega

theorem un_bd {s i : Int} (h : rightB s = true) (B : Int) (h1 : -B ≤ i) (h2 : i ≤ B) : -(B * 4096) ≤ un s i ∧ un s i ≤ B * 4096 := by
  unfold un
  rcases uw_cases h with e | e | e | e | e | e | e | e | e | e | e | e | e <;> rw [e] <;> omega
theorem un_pred (s i : Int) : un s (i - 1) = un s i - uw s := by unfold un; rw [Int.sub_mul, Int.one_mul]
theorem un_succ (s i : Int) : un s (i + 1) = un s i + uw s := by unfold un; rw [Int.add_mul, Int.one_mul]

/-- the bucket of a place, as a floor -/
theorem cl_eq (s u : Int) : cl s u = -((-u) / uw s) := rfl
theorem cl_bounds {s : Int} (h : rightB s = true) (u : Int) : un s (cl s u - 1) < u ∧ u ≤ un s (cl s u) := by
  rw [un_pred, cl_eq]
  unfold un
  rcases uw_cases h with e | e | e | e | e | e | e | e | e | e | e | e | e <;> rw [e] <;> omega
theorem cl_bd {s : Int} (h : rightB s = true) {u : Int} (h1 : -262144 < u) (h2 : u ≤ 262144) : -262144 < cl s u ∧ cl s u ≤ 262144 := by
  rw [cl_eq]
  rcases uw_cases h with e | e | e | e | e | e | e | e | e | e | e | e | e <;> rw [e] <;> omega
theorem cl_in {s : Int} (h : rightB s = true) {u : Int} (h1 : -262144 < u) (h2 : u ≤ 262144) : inB s (cl s u) = true := by
  unfold inB leastV mostV
  rw [if_pos h, cl_eq, decide_eq_true_eq]
  rcases uw_cases h with e | e | e | e | e | e | e | e | e | e | e | e | e <;> rw [e] <;> omega
theorem most_bd (s : Int) : 0 ≤ mostV s ∧ mostV s ≤ 262144 := by
  unfold mostV
  split
  · rename_i h
    rcases uw_cases h with e | e | e | e | e | e | e | e | e | e | e | e | e <;> rw [e] <;> omega
  · omega
theorem in_iff {s i : Int} (h : rightB s = true) : inB s i = true ↔ -262144 < un s i ∧ un s i ≤ 262144 := by
  unfold inB leastV mostV un
  rw [if_pos h, decide_eq_true_eq]
  rcases uw_cases h with e | e | e | e | e | e | e | e | e | e | e | e | e <;> rw [e] <;> omega
theorem in_not {s i : Int} (h : rightB s = false) : inB s i = false := by
  unfold inB leastV mostV
  rw [h, if_neg (by decide), decide_eq_false_iff_not]
  omega
theorem in_bd {s i : Int} (h : inB s i = true) : -262144 < i ∧ i ≤ 262144 := by
  have := most_bd s
  unfold inB leastV at h
  rw [decide_eq_true_eq] at h
  omega
/-- a coarser bucket in units: as the finer one's end is cut up -/
theorem to_cl {f t i : Int} (hf : rightB f = true) (ht : rightB t = true) (h : t ≤ f) : toV f t i = cl t (un f i) := by
  have bf := right_yes hf
  have bt := right_yes ht
  unfold toV cl upv un uw
  have e : (8 - t).toNat = (f - t).toNat + (8 - f).toNat := by omega
  have hp := two_pow_pos' (8 - f).toNat
  rw [e, Int.pow_add, ← Int.neg_mul, Int.mul_ediv_mul_of_pos_left _ _ hp]
theorem to_of {s t u : Int} (hs : rightB s = true) (ht : rightB t = true) (h : t ≤ s) : toV s t (cl s u) = cl t u := by
  have bs := right_yes hs
  have bt := right_yes ht
  unfold toV cl
  rw [upv_upv]
  have e : (8 - s).toNat + (s - t).toNat = (8 - t).toNat := by omega
  rw [e]
theorem to_bd {f t i : Int} (hi : inB f i = true) : -262144 < toV f t i ∧ toV f t i ≤ 262144 := by
  have b := in_bd hi
  unfold toV
  have h1 := div_bounds (-i) (f - t).toNat 262144 (by omega) (by omega)
  unfold upv
  have hp := two_pow_pos' (f - t).toNat
  have h2 : (-i) / 2 ^ (f - t).toNat ≤ 262143 := by
    have h3 := Int.ediv_le_ediv hp (show -i ≤ 262143 by omega)
    have h4 : (262143 : Int) / 2 ^ (f - t).toNat ≤ 262143 := Int.ediv_le_self _ (by decide)
    omega
  omega
theorem whole_mono {s t u : Int} (hs : rightB s = true) (h : t ≤ s) (hw : wholeB t u = true) : wholeB s u = true := by
  unfold wholeB at *
  rw [Bool.and_eq_true, decide_eq_true_eq] at *
  obtain ⟨ht, hw⟩ := hw
  refine ⟨hs, ?_⟩
  have bs := right_yes hs
  have bt := right_yes ht
  unfold un uw at *
  have e : (8 - t).toNat = (s - t).toNat + (8 - s).toNat := by omega
  have hp := two_pow_pos' (8 - s).toNat
  rw [e, Int.pow_add] at hw
  have hd : (2 : Int) ^ (8 - s).toNat ∣ u := by
    rw [← hw]
    exact ⟨u / (2 ^ (s - t).toNat * 2 ^ (8 - s).toNat) * 2 ^ (s - t).toNat, by rw [Int.mul_comm (2 ^ (8 - s).toNat), Int.mul_assoc]⟩
  exact Int.ediv_mul_cancel hd
end Go.Proofs.YtjnienlidmmhdaaGreatDoor
