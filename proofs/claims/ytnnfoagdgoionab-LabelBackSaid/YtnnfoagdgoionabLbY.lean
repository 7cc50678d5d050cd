/- The program's Key of labels. -/
import Derived.Test.YtnnfoagdgoionabLbX
import Derived.Test.YtnnfoagdgoionabLbV
import Derived.Lib.AppendStr
namespace Go.Proofs.Ytnnfoagdgoionab
open Go.RowKit
set_option linter.unusedVariables false

/-- blocks of another type than bytes stay -/
def KeepL (w w' : World) : Prop := ∀ (g : Nat) (cs : Array Value), w.heap[g]? = some (.cells cs 36 (0, 0)) → w'.heap[g]? = some (.cells cs 36 (0, 0))
theorem own_ne {w : World} {B g n c size : Nat} {e t : TypeId} {A : Option Addr} {xs : List Value} {cs : Array Value} {fr : Nat × Nat} (h : w.ownsRow B e size (.slice A n c) n xs) (hb : w.heap[g]? = some (.cells cs t fr)) (hne : e ≠ t) : (Value.slice A n c).ownBlock ≠ some g := fun ho => by
  rcases h.2 with ⟨h1, _⟩ | ⟨g', cap, cur, hv, _, hg, _⟩
  · rw [h1] at ho; simp [Value.ownBlock] at ho
  · rw [hv] at ho
    simp [Value.ownBlock] at ho
    subst ho
    rw [hg] at hb
    injection hb with hb
    injection hb with h1 h2
    exact hne h2
theorem keepL_grown {w w' : World} {B n c size : Nat} {A : Option Addr} {xs : List Value} (h : w.ownsRow B 5 size (.slice A n c) n xs) (hg : w.grownBy w' (Value.slice A n c).ownBlock) : KeepL w w' := by
  intro g cs hb
  have hlt : g < w.heap.size := (Array.getElem?_eq_some_iff.1 hb).1
  rw [hg.block g hlt (own_ne h hb (by decide)).symm]
  exact hb
theorem keepL_alloc (w : World) (o : Obj) : KeepL w (w.alloc o) := by
  intro g cs hb
  have hlt : g < w.heap.size := (Array.getElem?_eq_some_iff.1 hb).1
  rw [Below.heap_alloc _ _ _ hlt]
  exact hb
theorem KeepL.trans {a b c : World} (h : KeepL a b) (k : KeepL b c) : KeepL a c := fun g cs hb => k g cs (h g cs hb)
/-- append(x, y) at []byte behind the block of y; other blocks stay -/
theorem put_byteK {ops : Array Oper} {rest : List Oper} {o : Oper} {a : Act} {W w : World} {Q : Exit → Act → World → Prop} (hgd : o.guard = none) (s x : Operand)
    (ho : o.op = .call { callee := .builtin .append, args := #[s, x], argTypes := #[57, 57] })
    (base : Nat) (A : Option Addr) (n c : Nat) (l : List UInt8) (hs : a.eval s = .slice A n c) (hown : w.ownsRow base 5 1 (.slice A n c) n (byC l)) (hb : Below base W w) (hbase : base ≤ w.heap.size) (hl : n + 1 ≤ 1000000)
    (yi : Int) (g0 : Nat) (hgz : w.heap.size = g0) (hx : a.eval x = .slice (some ⟨g0, 0, none⟩) 1 1) (y : UInt8) (hy : (y.toNat : Int) = yi)
    (h : ∀ A' c' w', w'.ownsRow base 5 1 (.slice A' (n + 1) c') (n + 1) (byC (l ++ [y])) → Below base W w' → base ≤ w'.heap.size → KeepL w w' → wpList Try.prog ops Q rest (a.put o.dst (.slice A' (n + 1) c')) w') :
    wpList Try.prog ops Q (o :: rest) a (w.alloc (.cells #[.int .u8 yi] 5)) := by
  subst hgz
  have hown1 := own_below hown ((Below.refl _ _).alloc (Nat.le_refl _) (.cells #[.int .u8 yi] 5))
  refine app_byte hgd s x ho base A n c l hs hown1 w.heap.size hx y (by rw [hy]; exact new_one _ _ _) hl (by simp; omega) ?_
  intro A' c' w' h1 h2
  have hb' := below_app hb hbase hown (Nat.le_refl _) h2
  have hz := h2.size
  refine h A' c' w' h1 hb' ?_ ((keepL_alloc _ _).trans (keepL_grown hown1 h2))
  simp at hz
  omega
/-- append(x, s...) at []byte, s a text; other blocks stay -/
theorem put_textK {ops : Array Oper} {rest : List Oper} {o : Oper} {a : Act} {W w : World} {Q : Exit → Act → World → Prop} (hgd : o.guard = none) (s x : Operand)
    (ho : o.op = .call { callee := .builtin .append, args := #[s, x], argTypes := #[57, 9] })
    (base : Nat) (A : Option Addr) (n c : Nat) (l : List UInt8) (hs : a.eval s = .slice A n c) (hown : w.ownsRow base 5 1 (.slice A n c) n (byC l)) (hb : Below base W w) (hbase : base ≤ w.heap.size) 
    (y : ByteArray) (hx : a.eval x = .string y) (hl : n + y.size ≤ 1000000)
    (h : ∀ A' c' w', w'.ownsRow base 5 1 (.slice A' (n + y.size) c') (n + y.size) (byC (l ++ y.data.toList)) → Below base W w' → base ≤ w'.heap.size → KeepL w w' → wpList Try.prog ops Q rest (a.put o.dst (.slice A' (n + y.size) c')) w') :
    wpList Try.prog ops Q (o :: rest) a w := by
  obtain ⟨i0, hi, hz0, hz1, hz2⟩ := info_parts infoU
  refine Lib.wpList_append_own_string w hgd s x 57 9 ho base 5 i0 Try.underlying57 Try.underlying9 hi hz0 hz1 hz2 _ n (byC l) hs hown y hx (by unfold maxLen; omega) (by omega) hbase ?_
  intro v' w' h1 h2 _
  obtain ⟨A', c', rfl⟩ := own_shape h1
  have e : byC l ++ Lib.strCells y = byC (l ++ y.data.toList) := by rw [byC_append]; rfl
  rw [e] at h1
  exact h A' c' w' h1 (hb.grown h2 hbase (fun k hk => (hown.lt k hk).1)) (Nat.le_trans hbase h2.size) (keepL_grown hown h2)
/-- a label in a key -/
def keyB (p : Lab) : List UInt8 := UInt8.ofNat p.1.size :: (p.1.data.toList ++ UInt8.ofNat p.2.size :: p.2.data.toList)
def keyL (l : List Lab) : List UInt8 := l.flatMap keyB
theorem keyB_len (p : Lab) : (keyB p).length = p.1.size + p.2.size + 2 := by
  unfold keyB
  rw [List.length_cons, List.length_append, List.length_cons, data_len, data_len]
  omega
theorem keyL_len {l : List Lab} (h : ∀ p ∈ l, p.1.size ≤ 64 ∧ p.2.size ≤ 64) : (keyL l).length ≤ 130 * l.length := by
  induction l with
  | nil => simp [keyL]
  | cons a r ih =>
    have h1 := h a (by simp)
    have h2 := ih (fun p hp => h p (by simp [hp]))
    unfold keyL at *
    rw [List.flatMap_cons, List.length_append, keyB_len, List.length_cons]
    omega
theorem keyL_snoc (l : List Lab) (k : Nat) (p : Lab) (h : l[k]? = some p) : keyL (l.take (k + 1)) = keyL (l.take k) ++ keyB p := by
  rw [take_snoc l k p h]; simp [keyL]
theorem u8_of (n : Nat) (h : n ≤ 64) : ((UInt8.ofNat n).toNat : Int) = (n : Int) := by
  rw [UInt8.toNat_ofNat']; omega
def YRel (l : List Lab) (w : World) (k : Nat) (v : Value) (wr : World) : Prop := ∃ (A : Option Addr) (n c : Nat), v = .slice A n c ∧ wr.ownsRow w.heap.size 5 1 (.slice A n c) n (byC (keyL (l.take k))) ∧ Below w.heap.size w wr
set_option maxHeartbeats 4000000 in
theorem key_any (A : Option Addr) (n c : Nat) (l : List Lab) (w : World) (hn : n = l.length) (h : Lw w A l) (h16 : l.length ≤ 16) (h64 : ∀ p ∈ l, p.1.size ≤ 64 ∧ p.2.size ≤ 64) :
    Calls Try.prog 18 #[.slice A n c] w fun e w' => e = .returned (.string ⟨(keyL l).toArray⟩) ∧ Below w.heap.size w w' := by
  subst hn
  have HL := Lib.hid h
  have H64 := Lib.hid h64
  clear h h64
  go_enter Try.func18, Try.ntmps18
  go_wp2_with fail
  go_loopw [3, 8] (fun v i wr => ∃ k : Nat, k ≤ l.length ∧ i = .int .i64 k ∧ Hid (YRel l w k v wr)) (fun _ i _ => l.length - (intOf i).toNat)
  case atStart => exact ⟨0, by omega, rfl, Lib.hid ⟨none, 0, 0, rfl, own_nil _ _ _ _, Below.refl _ _⟩⟩
  case round =>
    obtain ⟨k, hk, rfl, HR⟩ := hrel
    obtain ⟨A1, n1, c1, rfl, hown, hb⟩ := HR.out
    have hn1 := own_n hown
    have hkl := keyL_len (l := l.take k) (fun p hp => H64.out p (List.mem_of_mem_take hp))
    have hn2 : n1 ≤ 130 * 16 := by rw [hn1]; rw [List.length_take] at hkl; omega
    have HO := Lib.hid hown
    have HB := Lib.hid hb
    have hw0 := hb.size
    by_cases hlt : k < l.length
    · have hki : (k : Int) < (l.length : Int) := by omega
      obtain ⟨p, hp⟩ := getElem?_lt hlt
      obtain ⟨b, off, rfl, hcell⟩ := (HL.out.below hb).some_ (by omega)
      obtain ⟨q0, q1⟩ := hcell k p hp
      have hlb := block_lt_of_cell q0
      simp only at hlb
      obtain ⟨s1, s2⟩ := H64.out p (mem_of_at hp)
      have s1i : (p.1.size : Int) ≤ 64 := by omega
      have s2i : (p.2.size : Int) ≤ 64 := by omega
      have u1 := u8_of p.1.size s1
      have u2 := u8_of p.2.size s2
      have U1 := Lib.hid u1
      have U2 := Lib.hid u2
      have m1 : (p.1.size : Int) % 256 = (p.1.size : Int) := by omega
      have m2 : (p.2.size : Int) % 256 = (p.2.size : Int) := by omega
      have HS := Lib.hid (keyL_snoc l k p hp)
      have hx := heap_alloc_new wr (.cells #[.string p.1, .string p.2] 36)
      have HX := Lib.hid hx
      have HB1 := Lib.hid (show Below w.heap.size w (wr.alloc (.cells #[.string p.1, .string p.2] 36)) from hb.alloc hw0 _)
      have HO1 := Lib.hid (own_below hown ((Below.refl _ _).alloc (Nat.le_refl _) (.cells #[.string p.1, .string p.2] 36)))
      have hw1 : w.heap.size ≤ (wr.alloc (.cells #[.string p.1, .string p.2] 36)).heap.size := by simp; omega
      have HW1 := Lib.hid hw1
      clear hcell hp hown hb hn1 hkl HR hx hw1 u1 u2
      go_wp2_with (at_builtin; refine put_byteK (W := w) rfl _ _ rfl w.heap.size A1 n1 c1 (keyL (l.take k)) rfl HO1.out HB1.out HW1.out (by omega) (p.1.size : Int) (wr.heap.size + 1) (by simp) rfl (UInt8.ofNat p.1.size) U1.out ?_)
      intro A2 c2 w2 hown2 hb2 hw2 hk2
      obtain ⟨L2, hL2⟩ : ∃ X, keyL (l.take k) ++ [UInt8.ofNat p.1.size] = X := ⟨_, rfl⟩
      rw [hL2] at hown2
      have HL2 := Lib.hid hL2
      clear hL2
      have HX2 := Lib.hid (hk2 _ _ HX.out)
      obtain ⟨x0, x1, _⟩ := box2 HX2.out
      have HO2 := Lib.hid hown2
      have HB2 := Lib.hid hb2
      clear hown2 hb2 hk2 q0 q1 hlb
      go_wp2_with (at_builtin; refine put_textK (W := w) rfl _ _ rfl w.heap.size A2 (n1 + 1) c2 L2 rfl HO2.out HB2.out hw2 p.1 rfl (by omega) ?_)
      intro A3 c3 w3 hown3 hb3 hw3 hk3
      obtain ⟨L3, hL3⟩ : ∃ X, L2 ++ p.1.data.toList = X := ⟨_, rfl⟩
      rw [hL3] at hown3
      have HL3 := Lib.hid hL3
      clear hL3
      have HX3 := Lib.hid (hk3 _ _ HX2.out)
      obtain ⟨y0, y1, _⟩ := box2 HX3.out
      have HO3 := Lib.hid hown3
      have HB3 := Lib.hid hb3
      clear hown3 hb3 hk3 x0 x1
      go_wp2_with (at_builtin; refine put_byteK (W := w) rfl _ _ rfl w.heap.size A3 (n1 + 1 + p.1.size) c3 L3 rfl HO3.out HB3.out hw3 (by omega) (p.2.size : Int) w3.heap.size rfl rfl (UInt8.ofNat p.2.size) U2.out ?_)
      intro A4 c4 w4 hown4 hb4 hw4 hk4
      obtain ⟨L4, hL4⟩ : ∃ X, L3 ++ [UInt8.ofNat p.2.size] = X := ⟨_, rfl⟩
      rw [hL4] at hown4
      have HL4 := Lib.hid hL4
      clear hL4
      have HX4 := Lib.hid (hk4 _ _ HX3.out)
      obtain ⟨z0, z1, _⟩ := box2 HX4.out
      have HO4 := Lib.hid hown4
      have HB4 := Lib.hid hb4
      clear hown4 hb4 hk4 y0 y1
      go_wp2_with (at_builtin; refine put_textK (W := w) rfl _ _ rfl w.heap.size A4 (n1 + 1 + p.1.size + 1) c4 L4 rfl HO4.out HB4.out hw4 p.2 rfl (by omega) ?_)
      intro A5 c5 w5 hown5 hb5 hw5 hk5
      have HF := Lib.hid (show L4 ++ p.2.data.toList = keyL (l.take (k + 1)) by rw [HS.out, ← HL4.out, ← HL3.out, ← HL2.out]; unfold keyB; simp)
      rw [HF.out] at hown5
      have HR5 := Lib.hid (show YRel l w (k + 1) (.slice A5 (n1 + 1 + p.1.size + 1 + p.2.size) c5) w5 from ⟨A5, _, c5, rfl, hown5, hb5⟩)
      clear hown5 hb5 hk5 z0 z1
      go_wp2_with fail
      go_roundw
      case rel => exact ⟨k + 1, by omega, by go_num, HR5⟩
      case measure => simp [intOf]; omega
    · obtain rfl : k = l.length := by omega
      have hki : ¬ ((l.length : Int) < (l.length : Int)) := by omega
      have hcv := conv_own hown
      rw [List.take_length] at hcv
      clear hown hb hn1 hkl HR
      go_wp2_with fail
      go_ret
      exact ⟨rfl, HB.out⟩
end Go.Proofs.Ytnnfoagdgoionab
