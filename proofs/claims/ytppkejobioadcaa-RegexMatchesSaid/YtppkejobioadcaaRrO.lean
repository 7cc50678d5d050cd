/- The walk of the law RegexMatches. -/
import Derived.Test.YtppkejobioadcaaRrN
import Derived.Test.YtppkejobioadcaaShelfS
namespace Go.Proofs.Ytppkejobioadcaa
open Go.RowKit Go.Sort
set_option linter.unusedVariables false

/-- how many signs of times: some number -/
theorem stars_any (s : ByteArray) (w : World) : Calls Try.prog 8 #[.string s] w fun y w' => (∃ K, y = .returned (.int .i64 K)) ∧ w' = w := by
  go_enter Try.func8, Try.ntmps8
  go_wp2_with fail
  refine (Try.strings_Count_one s 42 _).mono ?_
  rintro y w1 ⟨rfl, rfl⟩
  go_wp2_with fail
  refine (Try.strings_Count_one s 43 _).mono ?_
  rintro y w1 ⟨rfl, rfl⟩
  go_wp2_with fail
  refine (Try.strings_Count_one s 63 _).mono ?_
  rintro y w1 ⟨rfl, rfl⟩
  go_wp2_with fail
  go_ret
  exact ⟨⟨_, rfl⟩, rfl⟩
/-- a pattern's box, and what was read -/
structure Px (w : World) (h : Nat) (A : Option Addr) (n c f l : Nat) (e : Bool) (r : Res) : Prop where
  v : Vb w h A n c f l e
  g : Rg w (.agg #[.slice A n c, .int .u64 (f : Nat), .int .u64 (l : Nat), .bool e]) (plR r) (pcR r)
theorem Px.below {w w' : World} {h n c f l : Nat} {A : Option Addr} {e : Bool} {r : Res} (p : Px w h A n c f l e r) (k : Below w.heap.size w w') : Px w' h A n c f l e r := ⟨p.v.below k, p.g.below k⟩
theorem Px.m {w : World} {h n c f l : Nat} {A : Option Addr} {e : Bool} {r : Res} (p : Px w h A n c f l e r) (t : ByteArray) (ht : t.size ≤ 1000) (z : Bool) (hz : mtR r t.data.toList = z) :
    Calls Try.prog 7 #[.agg #[.slice A n c, .int .u64 (f : Nat), .int .u64 (l : Nat), .bool e], .string t] w fun y w' => y = .returned (.bool z) ∧ Below w.heap.size w w' := by
  rw [← hz]
  exact rmatch_any r _ t w p.g (by omega)
theorem Px.q {w : World} {h n c f l d : Nat} {os : Array Obj} {A : Option Addr} {e : Bool} {r : Res} (p : Px w h A n c f l e r) (t : ByteArray) (ht : t.size ≤ 1000) (z : Bool) (hz : mtR r t.data.toList = z) :
    Calls Try.prog 7 #[.agg #[.slice A n c, .int .u64 (f : Nat), .int .u64 (l : Nat), .bool e], .string t] (grow (redrawn w d) os) fun y w'' => y = .returned (.bool z) ∧ ∃ p : Regrown, w'' = grow (redrawn w p.d) p.os :=
  Calls.regrown_of ((p.below (below_regrown w d os)).m t ht z hz)
set_option maxHeartbeats 8000000 in
set_option maxRecDepth 100000 in
theorem regexMatches_walk (a0 a1 a2 : ByteArray) (w0 : a0.size ≤ maxLen) (w1 : a1.size ≤ maxLen) (w2 : a2.size ≤ maxLen) (w : World) :
    Calls Try.prog 3 #[.string a0, .string a1, .string a2] w fun e w' => e = .returned (.bool true) ∧ Below w.heap.size w w' := by
  unfold maxLen at w0 w1 w2
  by_cases h0 : 200 < a0.size ∨ 40 < a1.size ∨ 40 < a2.size
  · have h3 : (200 : Int) < (a0.size : Int) ∨ (¬ (200 : Int) < (a0.size : Int) ∧ (40 : Int) < (a1.size : Int)) ∨ (¬ (200 : Int) < (a0.size : Int) ∧ ¬ (40 : Int) < (a1.size : Int) ∧ (40 : Int) < (a2.size : Int)) := by omega
    clear h0
    rcases h3 with h0 | ⟨h0, h1⟩ | ⟨h0, h1, h2⟩
    all_goals
      go_enter Try.func3, Try.ntmps3
      go_wp2_with fail
      refine (awake_any _).mono ?_
      rintro y w3 ⟨rfl, hb⟩
      have B1 := Lib.hid hb
      clear hb
      go_wp2_with fail
      go_ret
      exact ⟨rfl, B1.out⟩
  have h0i : ¬ (200 : Int) < (a0.size : Int) := by omega
  have h1i : ¬ (40 : Int) < (a1.size : Int) := by omega
  have h2i : ¬ (40 : Int) < (a2.size : Int) := by omega
  have hs1 : a1.size ≤ 1000 := by omega
  have hs2 : a2.size ≤ 1000 := by omega
  clear h0
  obtain ⟨R, hR⟩ : ∃ R, parseF a0.data.toList = R := ⟨_, rfl⟩
  have HR := Lib.hid hR
  obtain ⟨E, hE⟩ : ∃ E, errN R = E := ⟨_, rfl⟩
  have HE := Lib.hid hE
  clear hR hE
  go_enter Try.func3, Try.ntmps3
  go_wp2_with fail
  refine (parse_any a0 _).mono ?_
  rw [HR.out]
  intro y w3 hp
  obtain ⟨A, n, c, f, l, ee, rfl, HRG, HNE, hb⟩ := par_open hp
  rw [HE.out]
  obtain ⟨W4, hW4⟩ : ∃ W4, w3.alloc (.cells #[.slice A n c, .int .u64 (f : Nat), .int .u64 (l : Nat), .bool ee] 28 (0, 0)) = W4 := ⟨_, rfl⟩
  obtain ⟨g, hg⟩ : ∃ g, w3.heap.size = g := ⟨_, rfl⟩
  have b34 : Below w3.heap.size w3 W4 := hW4 ▸ (Below.refl _ _).alloc (Nat.le_refl _) _
  have X4 := Lib.hid (show Px W4 g A n c f l ee R from ⟨hg ▸ hW4 ▸ Vb.new w3 A n c f l ee, HRG.out.below b34⟩)
  have B4 := Lib.hid (hb.trans (b34.mono hb.size))
  clear hp hb b34 HRG
  go_wp2_with fail
  clear hW4 hg
  refine (rparse_any a0 _).mono ?_
  rw [HR.out]
  rintro y w5 ⟨kd, x1, n1, m1, x2, n2, m2, rfl, hb, _, hnd⟩
  rw [HE.out]
  obtain ⟨W6, hW6⟩ : ∃ W6, w5.alloc (.cells #[.string kd, .slice x1 n1 m1, .slice x2 n2 m2] 35 (0, 0)) = W6 := ⟨_, rfl⟩
  obtain ⟨k, hk⟩ : ∃ k, w5.heap.size = k := ⟨_, rfl⟩
  have b56 : Below w5.heap.size w5 W6 := hW6 ▸ (Below.refl _ _).alloc (Nat.le_refl _) _
  have X6 := Lib.hid ((X4.out.below hb).below b56)
  have B6 := Lib.hid ((B4.out.trans (hb.mono B4.out.size)).trans (b56.mono (Nat.le_trans B4.out.size hb.size)))
  have N6 := Lib.hid (show ∀ x l, R = .ok x l → Nx W6 k kd x1 n1 m1 x2 n2 m2 x from fun x l hx => by
    obtain ⟨nd, i1, i2, i3⟩ := hnd x l hx
    exact ⟨hk ▸ hW6 ▸ Nb.new w5 _ _ _, _, nd, i1, i2.below b56, i3⟩)
  have Z6 := Lib.hid (show Nb W6 k kd (.slice x1 n1 m1) (.slice x2 n2 m2) from hk ▸ hW6 ▸ Nb.new w5 _ _ _)
  have hEE : (E != E) = false := by simp
  clear hb hnd b56
  cases R with
  | err e0 =>
    have he : E ≠ 0 := by
      have h1 := HNE.out e0 rfl
      have h2 := HE.out
      rw [← h2]
      exact h1
    have heb : (E != 0) = true := z_ne 0 he
    clear he
    go_wp2_with fail
    clear hW6 hk
    refine (awake_any _).mono ?_
    rintro y w7 ⟨rfl, hb⟩
    have B7 := Lib.hid (B6.out.trans (hb.mono B6.out.size))
    have X7 := Lib.hid (X6.out.below hb)
    obtain ⟨z0, z1, z2, z3⟩ := X7.out.v.cells
    clear hb
    go_wp2_with fail
    refine (X7.out.m a1 hs1 false (mtR_err _ _)).mono ?_
    rintro y w8 ⟨rfl, hb⟩
    have B8 := Lib.hid (B7.out.trans (hb.mono B7.out.size))
    clear hb
    go_wp2_with fail
    go_ret
    exact ⟨rfl, B8.out⟩
  | ok x q =>
    have he : E = 0 := HE.out.symm
    subst he
    have NX := Lib.hid (N6.out x q rfl)
    go_wp2_with fail
    clear hW6 hk
    refine (stars_any a0 _).mono ?_
    rintro y w7 ⟨⟨K, rfl⟩, rfl⟩
    by_cases hK : 6 < K
    · go_wp2_with fail
      refine (awake_any _).mono ?_
      rintro y w8 ⟨rfl, hb⟩
      have B8 := Lib.hid (B6.out.trans (hb.mono B6.out.size))
      clear hb
      go_wp2_with fail
      go_ret
      exact ⟨rfl, B8.out⟩
    · obtain ⟨z1, hz1⟩ : ∃ z, mtR (.ok x []) a1.data.toList = z := ⟨_, rfl⟩
      obtain ⟨z2, hz2⟩ : ∃ z, mtR (.ok x []) a2.data.toList = z := ⟨_, rfl⟩
      have HZ1 := Lib.hid (show mtR (.ok x q) a1.data.toList = z1 from hz1)
      have HZ2 := Lib.hid (show mtR (.ok x q) a2.data.toList = z2 from hz2)
      have HY1 := Lib.hid hz1
      have HY2 := Lib.hid hz2
      clear hz1 hz2
      go_wp2_with fail
      obtain ⟨p0, p1, p2, p3⟩ := X6.out.v.cells
      obtain ⟨⟨q0, q1, q2⟩, _⟩ := Z6.out.cells
      have p0' := cell_regrown p0
      have p1' := cell_regrown p1
      have p2' := cell_regrown p2
      have p3' := cell_regrown p3
      have q0' := cell_regrown q0
      have q1' := cell_regrown q1
      have q2' := cell_regrown q2
      have HAW := Lib.hid (fun (d : Nat) (os : Array Obj) => Calls.regrown_of (w := w7) (awake_any (grow (redrawn w7 d) os)))
      cases z1 <;> cases z2
      all_goals
        have HQA := Lib.hid (fun (d : Nat) (os : Array Obj) => Px.q (d := d) (os := os) X6.out a1 hs1 _ HZ1.out)
        have HQB := Lib.hid (fun (d : Nat) (os : Array Obj) => Px.q (d := d) (os := os) X6.out a2 hs2 _ HZ2.out)
        have HQC := Lib.hid (fun (d : Nat) (os : Array Obj) => Nx.q (d := d) (os := os) NX.out a1 hs1 _ HY1.out)
        have HQD := Lib.hid (fun (d : Nat) (os : Array Obj) => Nx.q (d := d) (os := os) NX.out a2 hs2 _ HY2.out)
        refine wp_region_quiet_below (by kernel_rfl) (by kernel_rfl) ?_
        repeat (any_goals (first | go_big_quiet_step (first | (go_at_call 4; with_reducible exact HAW.out _ _) | (go_at_call 7; first | with_reducible exact HQA.out _ _ | with_reducible exact HQB.out _ _) | (go_at_call 9; first | with_reducible exact HQC.out _ _ | with_reducible exact HQD.out _ _)) | quiet_step (first | (go_at_call 4; with_reducible exact HAW.out _ _) | (go_at_call 7; first | with_reducible exact HQA.out _ _ | with_reducible exact HQB.out _ _) | (go_at_call 9; first | with_reducible exact HQC.out _ _ | with_reducible exact HQD.out _ _))))
        refine wpQuiet_nil ?_
        intro _ hw'
        obtain ⟨⟨dq, osq⟩, hw''⟩ := hw'
        subst hw''
        have BE := Lib.hid (B6.out.trans ((below_regrown w7 dq osq).mono B6.out.size))
        clear p0 p1 p2 p3 q0 q1 q2 p0' p1' p2' p3' q0' q1' q2'
        generalize grow (redrawn w7 dq) osq = wn at *
        go_wp2_with fail
        go_ret
        exact ⟨rfl, BE.out⟩
end Go.Proofs.Ytppkejobioadcaa
