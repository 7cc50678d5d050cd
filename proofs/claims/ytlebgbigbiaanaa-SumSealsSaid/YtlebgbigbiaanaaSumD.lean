/- Rows of bytes of a call's own; the law SumFours' walk. -/
import Derived.Test.YtlebgbigbiaanaaSumC
import Derived.OwnWalk
import Derived.ArgAppend
import Derived.Laws.OwnMore
import Derived.Laws.AppendOwn
import Derived.Laws.BytesString
import Derived.Laws.IdiomStrings
import Derived.Deep.AppendLies
import Derived.Lib.QuietBelow
import Derived.BigQuiet
namespace Go.Proofs.Ytlebgbigbiaanaa
open Go.RowKit Go.Sort
set_option linter.unusedVariables false

theorem Try.info5 : (Try.prog.info? 5).map (fun i => (i.zero, i.size, i.bytes)) = some (some (.int .u8 0), 1, 1) := by kernel_rfl
def cellsB (bs : List Nat) : List Value := bs.map fun b => Value.int IntKind.u8 (Int.ofNat b)
theorem cellsB_length (bs : List Nat) : (cellsB bs).length = bs.length := by unfold cellsB; simp
theorem cellsB_append (a b : List Nat) : cellsB (a ++ b) = cellsB a ++ cellsB b := by unfold cellsB; simp
theorem cellsB_one (bs : List Nat) : ∀ u ∈ cellsB bs, u.oneCell' = true := by unfold cellsB; simp [Value.oneCell']
theorem cellsB_at {bs : List Nat} {j : Nat} {u : Value} (h : (cellsB bs)[j]? = some u) : ∃ x, bs[j]? = some x ∧ u = .int .u8 (x : Int) := by
  unfold cellsB at h
  rw [List.getElem?_map] at h
  obtain ⟨b, hb, rfl⟩ := Option.map_eq_some_iff.mp h
  exact ⟨b, hb, rfl⟩
theorem addr_add (b off i : Nat) : (⟨b, off, none⟩ : Addr).add i = ⟨b, off + i, none⟩ := by
  unfold Addr.add
  split
  · subst_vars; rfl
  · rfl
/-- what append asks of its source -/
theorem Bt.src {w : World} {b off : Nat} {bs : List Nat} (h : Bt w (some ⟨b, off, none⟩) bs) (j : Nat) (u : Value) (hu : (cellsB bs)[j]? = some u) : w.cell? ((⟨b, off, none⟩ : Addr).add j) = some u := by
  obtain ⟨x, hx, rfl⟩ := cellsB_at hu
  have hl : j < bs.length := (List.getElem?_eq_some_iff.1 hx).1
  obtain ⟨b', off', e, hc⟩ := h.some_ (by omega)
  obtain ⟨rfl, rfl⟩ : b = b' ∧ off = off' := by simpa using e
  rw [addr_add]
  exact hc j x hx
theorem own_bt {w : World} {base : Nat} {v : Value} {n : Nat} {bs : List Nat} (h : w.ownsRow base 5 1 v n (cellsB bs)) (hn : n = bs.length) (h8 : ∀ x ∈ bs, x < 256) (hm : bs.length ≤ 9223372036854775807) (h0 : 0 < n) :
    ∃ g c, v = .slice (some ⟨g, 0, none⟩) n c ∧ n ≤ c ∧ c ≤ 9223372036854775807 ∧ base ≤ g ∧ g < w.heap.size ∧ Bt w (some ⟨g, 0, none⟩) bs := by
  have hl := h.lt
  rcases h.2 with ⟨_, hz⟩ | ⟨g, c, cur, rfl, hb, hh, hc, hm', _⟩
  · omega
  · have := hl g rfl
    refine ⟨g, c, rfl, hc, by unfold maxLen at hm'; omega, this.1, this.2, h8, hm, .inr ⟨g, 0, rfl, fun j x hj => ?_⟩⟩
    have := h.cells (g := g) rfl j (.int .u8 (x : Int)) (by unfold cellsB; simp [hj])
    rw [addr_add] at this
    exact this
/-- the bytes as a text -/
def txt (bs : List Nat) : ByteArray := ⟨(bs.map UInt8.ofNat).toArray⟩
theorem bt_string {w : World} {b off : Nat} {bs : List Nat} (c : Nat) (h : Bt w (some ⟨b, off, none⟩) bs) (n : Nat) (hn : n = bs.length) :
    (convert 22 9 (.slice (some ⟨b, off, none⟩) n c)).run Try.prog w = .ok (.string (txt bs)) w := by
  subst hn
  have hl : (bs.map UInt8.ofNat).length = bs.length := by simp
  rw [← hl]
  refine run_convert_bytes_back (P := Try.prog) w 22 9 5 ⟨b, off, none⟩ c (bs.map UInt8.ofNat) Try.underlying22 Try.underlying5 Try.underlying9 (fun j hj => ?_)
  have hj' : j < bs.length := by simpa using hj
  have hm : bs[j] < 256 := h.1 _ (List.getElem_mem hj')
  obtain ⟨b', off', e, hc⟩ := h.some_ (by omega)
  obtain ⟨rfl, rfl⟩ : b = b' ∧ off = off' := by simpa using e
  rw [addr_add, hc j bs[j] (List.getElem?_eq_getElem hj')]
  congr 2
  simp
  omega
theorem map_inj {xs bs : List Nat} (ha : ∀ b ∈ xs, b < 256) (hb : ∀ b ∈ bs, b < 256) (h : xs.map UInt8.ofNat = bs.map UInt8.ofNat) : xs = bs := by
  induction xs generalizing bs with
  | nil => cases bs with
    | nil => rfl
    | cons y l => simp at h
  | cons x k ih => cases bs with
    | nil => simp at h
    | cons y l =>
      simp only [List.map_cons, List.cons.injEq] at h
      obtain ⟨h1, h2⟩ := h
      have hx := ha x (by simp)
      have hy := hb y (by simp)
      have e : x = y := by
        have := congrArg UInt8.toNat h1
        simp at this
        omega
      rw [e, ih (fun b hm => ha b (by simp [hm])) (fun b hm => hb b (by simp [hm])) h2]
/-- the four bytes tell the number -/
theorem fourL_inj {a b : Nat} (ha : a < 4294967296) (hb : b < 4294967296) (h : fourL a = fourL b) : a = b := by
  rw [← numL_four ha, ← numL_four hb, h]

/-- a contract that leaves the world as it is, as one that makes at most memory -/
theorem below_of {f : Nat} {args : Array Value} {w : World} {v : Value} (h : Calls Try.prog f args w fun e w' => e = .returned v ∧ w = w') : Calls Try.prog f args w fun e w' => e = .returned v ∧ Below w.heap.size w w' :=
  h.mono fun e w' h => ⟨h.1, h.2 ▸ Below.refl _ _⟩

theorem kept_regrown (w : World) (d : Nat) (os : Array Obj) : Kept w (grow (redrawn w d) os) := Kept.of_below (below_regrown w d os)

theorem Bt.drop {w : World} {b off : Nat} {bs : List Nat} (h : Bt w (some ⟨b, off, none⟩) bs) (k : Nat) : Bt w (some ⟨b, off + k, none⟩) (bs.drop k) := by
  refine ⟨fun x hx => h.1 x (List.mem_of_mem_drop hx), by have := h.2.1; simp; omega, ?_⟩
  by_cases hk : bs.length ≤ k
  · exact .inl (by simp; omega)
  · obtain ⟨b', off', e, hc⟩ := h.some_ (by omega)
    obtain ⟨rfl, rfl⟩ : b = b' ∧ off = off' := by simpa using e
    refine .inr ⟨b, off + k, rfl, fun j x hj => ?_⟩
    rw [List.getElem?_drop] at hj
    have := hc (k + j) x hj
    rw [← Nat.add_assoc] at this
    exact this
theorem Bt.take {w : World} {A : Option Addr} {bs : List Nat} (h : Bt w A bs) (k : Nat) : Bt w A (bs.take k) := by
  refine ⟨fun x hx => h.1 x (List.mem_of_mem_take hx), by have := h.2.1; simp; omega, ?_⟩
  rcases h.2.2 with h0 | ⟨b, off, e, hc⟩
  · exact .inl (by rw [List.length_take]; omega)
  · refine .inr ⟨b, off, e, fun j x hj => hc j x ?_⟩
    rw [List.getElem?_take] at hj
    split at hj
    · exact hj
    · cases hj
theorem awake_b (w : World) : Calls Try.prog 12 #[] w fun e w' => e = .returned (.bool true) ∧ Below w.heap.size w w' := awake03 w
/-- Number of bytes that are known, in every world of the class -/
theorem number_at {w : World} {A : Option Addr} {bs : List Nat} (h : Bt w A bs) (n c v : Nat) (hn : n = bs.length) (hv : numL bs = v) (d : Nat) (os : Array Obj) :
    Calls Try.prog 17 #[.slice A n c] (grow (redrawn w d) os) fun e w' => e = .returned (.int .u32 (v : Int)) ∧ Below (grow (redrawn w d) os).heap.size (grow (redrawn w d) os) w' := by
  subst hn hv
  exact below_of (number_any A c bs _ (h.kept (kept_regrown w d os)))

set_option maxHeartbeats 10000000 in
set_option maxRecDepth 100000 in
theorem fours_any (a b : Nat) (w : World) (ha : a < 4294967296) (hb : b < 4294967296) (E : Bool) (hN : ((a : Int) == (b : Int)) = E) (hS : ((fourL a).map UInt8.ofNat == (fourL b).map UInt8.ofNat) = E) :
    Calls Try.prog 7 #[.int .u32 (a : Int), .int .u32 (b : Int)] w fun e w' => e = .returned (.bool true) ∧ Below w.heap.size w w' := by
  obtain ⟨i0, hi, hz0, hz1, hz2⟩ := info_parts Try.info5
  go_enter Try.func7, Try.ntmps7
  go_wp2_with fail
  refine (four_any a _ ha).mono ?_
  rintro e w1 ⟨rfl, hb1, ht1, hs1⟩
  have H1 := Lib.hid (And.intro hb1 (And.intro ht1 hs1))
  clear hb1 ht1 hs1
  go_wp2_with fail
  refine (four_any b _ hb).mono ?_
  rintro e w2 ⟨rfl, hb2, ht2, hs2⟩
  have H2 := Lib.hid (And.intro hb2 (And.intro ht2 hs2))
  have T1 := Lib.hid (H1.out.2.1.kept (Kept.of_below hb2))
  clear hb2 ht2 hs2
  go_wp2_with (at_builtin; refine wpList_append_grows _ rfl _ _ 22 rfl 5 i0 (.int .u8 0) 1 1 Try.underlying22 hi hz0 hz1 hz2 rfl (by decide) (some ⟨w.heap.size, 0, none⟩) 4 4 (cellsB (fourL a)) rfl (by simp) rfl ?c0 ⟨w1.heap.size, 0, none⟩ 4 4 (cellsB (fourL b)) rfl rfl ?c1 ?c2 ?c3 ?c4 ?c5 ?_)
  case c0 =>
    intro ad e
    have e' : (⟨w.heap.size, 0, none⟩ : Addr) = ad := by simpa using e
    subst e'
    exact T1.out.src
  case c1 => exact H2.out.2.1.src
  case c2 => exact cellsB_one _
  case c3 => omega
  case c4 => unfold maxLen; omega
  case c5 => omega
  intro v' w3 hown hgrow
  rw [← cellsB_append] at hown
  obtain ⟨g, c, rfl, hc8, hcm, hg0, hg1, hB⟩ := own_bt hown rfl (by
    intro x hx
    rcases List.mem_append.1 hx with h | h
    · exact fourL_lt a x h
    · exact fourL_lt b x h) (by simp [fourL]) (by omega)
  have hbel : Below w.heap.size w w3 := by
    have s1 := H1.out.1.size
    have s2 := H2.out.1.size
    exact ((H1.out.1).trans (H2.out.1.mono s1)).grown hgrow (by omega) (fun k hk => by cases hk)
  have HBEL := Lib.hid hbel
  have hB4 := hB.drop 4
  have hB0 := hB.take 4
  have n1 := number_at hB 8 c a rfl (numL_four ha)
  have n2 := number_at hB4 4 (c - 4) b rfl (numL_four hb)
  have n3 := number_at (Bt.nil w3 none) 0 0 0 rfl rfl
  have s1 := fun (d : Nat) (os : Array Obj) => bt_string c (hB0.kept (kept_regrown w3 d os)) 4 rfl
  have s2 := fun (d : Nat) (os : Array Obj) => bt_string (c - 4) (hB4.kept (kept_regrown w3 d os)) 4 rfl
  have k0 : w3.cell? ⟨g, 0, none⟩ = some (.int .u8 ((a : Int) % 256)) := by
    obtain ⟨b', off', e, hc⟩ := hB.some_ (by simp [fourL])
    obtain ⟨rfl, rfl⟩ : g = b' ∧ 0 = off' := by simpa using e
    have := hc 0 (a % 256) rfl
    simpa using this
  have k7 : w3.cell? ⟨g, 7, none⟩ = some (.int .u8 ((b : Int) / 16777216)) := by
    obtain ⟨b', off', e, hc⟩ := hB.some_ (by simp [fourL])
    obtain ⟨rfl, rfl⟩ : g = b' ∧ 0 = off' := by simpa using e
    have := hc 7 (b / 16777216 % 256) rfl
    rw [Nat.zero_add] at this
    rw [this]
    congr 2
    omega
  have k0' := cell_regrown k0
  have k7' := cell_regrown k7
  have e4 : List.drop 4 (fourL a ++ fourL b) = fourL b := rfl
  have e0 : List.take 4 (fourL a ++ fourL b) = fourL a := rfl
  rw [e0] at s1
  rw [e4] at s2
  unfold txt at s1 s2
  rw [Nat.zero_add] at s2 n2
  have N1 := Lib.hid n1
  have N2 := Lib.hid n2
  have N3 := Lib.hid n3
  clear hown hgrow hB hB4 hB0 n1 n2 n3 e4 e0 hbel
  obtain ⟨FA, hFA⟩ : ∃ l, fourL a = l := ⟨_, rfl⟩
  obtain ⟨FB, hFB⟩ : ∃ l, fourL b = l := ⟨_, rfl⟩
  rw [hFA, hFB] at hS
  rw [hFA] at s1
  rw [hFB] at s2
  clear hFA hFB H1 H2 T1 hi hz0 hz1 hz2
  have hc4 : ¬ (c = 4) := by omega
  have hc0 : ¬ (c = 0) := by omega
  go_wp2_with fail
  refine wp_region_quiet_below (by kernel_rfl) (by kernel_rfl) ?_
  repeat (any_goals (first | go_big_quiet_step (first | (go_at_call 12; exact Calls.regrown_of (awake_b _)) | (go_at_call 17; first | (with_reducible exact Calls.regrown_of (N1.out _ _)) | (with_reducible exact Calls.regrown_of (N2.out _ _)) | (with_reducible exact Calls.regrown_of (N3.out _ _)))) | quiet_step (first | (go_at_call 12; exact Calls.regrown_of (awake_b _)) | (go_at_call 17; first | (with_reducible exact Calls.regrown_of (N1.out _ _)) | (with_reducible exact Calls.regrown_of (N2.out _ _)) | (with_reducible exact Calls.regrown_of (N3.out _ _))))))
  refine wpQuiet_nil ?_
  intro _ hw'
  obtain ⟨⟨dq, osq⟩, hw''⟩ := hw'
  subst hw''
  have hH := HBEL.out.trans ((below_regrown w3 dq osq).mono HBEL.out.size)
  clear k0' k7' s1 s2
  generalize grow (redrawn w3 dq) osq = w4 at *
  go_wp2_with fail
  go_ret
  exact ⟨rfl, hH⟩

theorem sumFours_walk (a0 : Int) (a1 : Int) (w0 : (Lit.int .u32 a0).wf = true) (w1 : (Lit.int .u32 a1).wf = true) (w : World) :
    Calls Try.prog 7 #[.int .u32 a0, .int .u32 a1] w fun e w' => e = .returned (.bool true) ∧ Below w.heap.size w w' := by
  obtain ⟨b01, b02⟩ := bounds_u32 w0
  obtain ⟨b11, b12⟩ := bounds_u32 w1
  obtain ⟨a, rfl⟩ := Int.eq_ofNat_of_zero_le b01
  obtain ⟨b, rfl⟩ := Int.eq_ofNat_of_zero_le b11
  by_cases e : a = b
  · subst e
    exact fours_any a a w (by omega) (by omega) true (by simp) (by simp)
  · refine fours_any a b w (by omega) (by omega) false (by simp; omega) ?_
    rw [beq_eq_false_iff_ne]
    intro h
    exact e (fourL_inj (by omega) (by omega) (map_inj (fourL_lt a) (fourL_lt b) h))
end Go.Proofs.Ytlebgbigbiaanaa
