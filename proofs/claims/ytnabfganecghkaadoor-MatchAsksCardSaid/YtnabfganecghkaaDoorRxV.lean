/- Parse: the pattern of a text, or what is wrong. -/
import Derived.Test.YtnabfganecghkaaDoorRxQ
import Derived.Test.YtnabfganecghkaaDoorRxU
namespace Go.Proofs.YtnabfganecghkaaDoor
open Go.RowKit
set_option linter.unusedVariables false

/-- a pattern's value: a slice of places, a piece -/
def rgV (A : Option Addr) (n c : Nat) (pc : Pc) : Value := .agg #[.slice A n c, .int .u64 (pc.f : Nat), .int .u64 (pc.l : Nat), .bool pc.e]
structure Rg (w : World) (V : Value) (P : List Pl) (pc : Pc) : Prop where
  ex : ∃ A c, V = rgV A P.length c pc ∧ Cl w A (plC P)
  n64 : P.length ≤ 64
  ok : PlOk P
  pok : PcOk pc
theorem Rg.below {w w' : World} {V : Value} {P : List Pl} {pc : Pc} (h : Rg w V P pc) (b : Below w.heap.size w w') : Rg w' V P pc := by
  obtain ⟨A, c, h1, h2⟩ := h.ex
  exact ⟨⟨A, c, h1, h2.below b⟩, h.n64, h.ok, h.pok⟩
def plR (r : Res) : List Pl := match r with
  | .ok x _ => (glu x []).2
  | .err _ => []
def pcR (r : Res) : Pc := match r with
  | .ok x _ => (glu x []).1
  | .err _ => ⟨0, 0, false⟩
def errN (r : Res) : Int := match r with
  | .ok _ _ => 0
  | .err e => e
/-- what a call of Parse pays -/
def ParP (r : Res) (w : World) (y : Ending) (w' : World) : Prop :=
  (∃ V, y = .returned (.tuple #[V, .int .i64 (errN r)]) ∧ Rg w' V (plR r) (pcR r)) ∧ (∀ e, r = .err e → e ≠ 0) ∧ Below w.heap.size w w'
theorem go1_below {g : Nat} {v : Value} {w w' : World} (h : Go1 g (.slice none 0 0) v w w') (hg : w.heap.size ≤ g) : Below w.heap.size w w' :=
  ⟨h.s.os, h.s.tape, h.s.output, h.s.size, fun k hk => h.s.block k hk (by omega) (by simp [Value.ownBlock])⟩
/-- the parser's first state -/
theorem Ps.first (w : World) (l : List UInt8) : Ps (w.alloc (.cells #[.string (tx l), .int .i64 1, .slice none 0 0, .int .i64 0] 97 (0, 0))) w.heap.size (w.heap.size + 1) l 1 (.slice none 0 0) [] 0 := by
  have hb : (w.alloc (.cells #[.string (tx l), .int .i64 1, .slice none 0 0, .int .i64 0] 97 (0, 0))).heap[w.heap.size]? = some (.cells #[.string (tx l), .int .i64 1, .slice none 0 0, .int .i64 0] 97 (0, 0)) := heap_alloc_new w _
  have hs : w.heap.size + 1 ≤ (w.alloc (.cells #[.string (tx l), .int .i64 1, .slice none 0 0, .int .i64 0] 97 (0, 0))).heap.size := by simp
  generalize w.alloc (.cells #[.string (tx l), .int .i64 1, .slice none 0 0, .int .i64 0] 97 (0, 0)) = W at *
  refine ⟨Nat.lt_succ_self _, hs, ?_, ?_, ?_, ?_, ?_, ?_, ?_, ?_, ⟨by simp [plC], .inl ⟨rfl, rfl⟩⟩, fun p hp => by simp at hp⟩
  · rw [cell_of_row _ _ _ _ _ _ hb]; rfl
  · rw [cell_of_row _ _ _ _ _ _ hb]; rfl
  · rw [cell_of_row _ _ _ _ _ _ hb]; rfl
  · rw [cell_of_row _ _ _ _ _ _ hb]; rfl
  · simp [World.frozen?, hb]
  · simp [World.frozen?, hb]
  · simp [World.frozen?, hb]
  · simp [World.frozen?, hb]
/-- the box of the result -/
structure Rb (w : World) (h : Nat) : Prop where
  hw : h < w.heap.size
  blk : w.heap[h]? = some (.cells #[.slice none 0 0, .int .u64 0, .int .u64 0, .bool false] 52 (0, 0))
theorem Rb.cells {w : World} {h : Nat} (b : Rb w h) : (w.cell? ⟨h, 0, none⟩ = some (.slice none 0 0) ∧ w.cell? ⟨h, 1, none⟩ = some (.int .u64 0) ∧ w.cell? ⟨h, 2, none⟩ = some (.int .u64 0) ∧ w.cell? ⟨h, 3, none⟩ = some (.bool false)) ∧ w.frozen? ⟨h, 0, none⟩ = false ∧ w.frozen? ⟨h, 1, none⟩ = false ∧ w.frozen? ⟨h, 2, none⟩ = false ∧ w.frozen? ⟨h, 3, none⟩ = false := by
  have hb := b.blk
  refine ⟨⟨?_, ?_, ?_, ?_⟩, by simp [World.frozen?, hb], by simp [World.frozen?, hb], by simp [World.frozen?, hb], by simp [World.frozen?, hb]⟩
  · rw [cell_of_row _ _ _ _ _ _ hb]; rfl
  · rw [cell_of_row _ _ _ _ _ _ hb]; rfl
  · rw [cell_of_row _ _ _ _ _ _ hb]; rfl
  · rw [cell_of_row _ _ _ _ _ _ hb]; rfl
theorem Rb.go {w w' : World} {h g B : Nat} {v v' : Value} (b : Rb w h) (k : Go1 g v v' w w') (hg : h ≠ g) (hv : v.ownBlock ≠ some h) : Rb w' h :=
  ⟨Nat.lt_of_lt_of_le b.hw k.size, (k.s.block h b.hw hg hv).trans b.blk⟩
theorem go1_below2 {B g : Nat} {v : Value} {w w1 w3 : World} (hb : Below B w w1) (hB : B ≤ w1.heap.size) (h : Go1 g (.slice none 0 0) v w1 w3) (hg : B ≤ g) : Below B w w3 :=
  ⟨h.s.os.trans hb.os, h.s.tape.trans hb.tape, h.s.output.trans hb.output, Nat.le_trans hb.size h.s.size, fun k hk => (h.s.block k (Nat.lt_of_lt_of_le hk hB) (by omega) (by simp [Value.ownBlock])).trans (hb.block k hk)⟩
theorem rg0 (w : World) : Rg w (rgV none 0 0 ⟨0, 0, false⟩) [] ⟨0, 0, false⟩ := ⟨⟨none, 0, rfl, Cl.nil _ _⟩, by simp, fun p hp => by simp at hp, by decide, by decide⟩
theorem parseF_long {s : List UInt8} (h : 64 < s.length) : parseF s = .err 9 := by unfold parseF; rw [if_pos h]
theorem below_set {B : Nat} {a w : World} (h : Below B a w) (p : Addr) (hp : B ≤ p.block) (u : Value) : Below B a (w.setCell p u) := h.setCell hp u
set_option maxHeartbeats 2000000 in
theorem parse_any (s : ByteArray) (w : World) : Calls Tryd.prog 28 #[.string s] w (ParP (parseF s.data.toList) w) := by
  obtain ⟨L, hL⟩ : ∃ L, s.data.toList = L := ⟨_, rfl⟩
  have hLs : (s.size : Int) = (L.length : Int) := by rw [← hL, Array.length_toList]; rfl
  have hsx : s = tx L := by rw [← hL, tx_of]
  rw [hL]
  obtain ⟨h, hh⟩ : ∃ h, w.heap.size = h := ⟨_, rfl⟩
  obtain ⟨W, hW⟩ : ∃ W, w.alloc (.cells #[.slice none 0 0, .int .u64 0, .int .u64 0, .bool false] 52 (0, 0)) = W := ⟨_, rfl⟩
  have RB : Rb W h := ⟨by rw [← hW, ← hh]; simp, hh ▸ hW ▸ heap_alloc_new w _⟩
  have BW : Below w.heap.size w W := hW ▸ (Below.refl _ _).alloc (Nat.le_refl _) _
  have hWs : W.heap.size = h + 1 := by rw [← hW, ← hh]; simp
  have HH := Lib.hid (show w.heap.size ≤ h by omega)
  by_cases hlong : 64 < L.length
  · have HR := Lib.hid (parseF_long hlong)
    rw [HR.out]
    have hl : (64 : Int) < (s.size : Int) := by omega
    obtain ⟨⟨z0, z1, z2, z3⟩, zf0, zf1, zf2, zf3⟩ := RB.cells
    have HB := Lib.hid BW
    clear hlong hLs hsx hL RB BW hWs
    go_enter Tryd.func28, Tryd.ntmps28
    go_wp2_with fail
    clear hW hh
    refine bodyPost_ret (v := .tuple #[rgV none 0 0 ⟨0, 0, false⟩, .int .i64 9]) (by simp [results, Tryd.results28, go_sem, z0, z1, z2, z3, rgV]) rfl ⟨⟨_, rfl, rg0 _⟩, fun e he => by cases he; decide, ?_⟩
    exact below_set (below_set (below_set (below_set HB.out ⟨h, 0, none⟩ HH.out _) ⟨h, 1, none⟩ HH.out _) ⟨h, 2, none⟩ HH.out _) ⟨h, 3, none⟩ HH.out _
  · have hl : ¬ (64 : Int) < (s.size : Int) := by omega
    have HS := Lib.hid (show parseF L = match patF 100 1 none .eps L with
      | .err e => .err e
      | .ok x q => if q = [] then .ok x [] else .err 27 by unfold parseF; rw [if_neg hlong]; rfl)
    obtain ⟨W1, hW1⟩ : ∃ W1, W.alloc (.cells #[.string s, .int .i64 1, .slice none 0 0, .int .i64 0] 97 (0, 0)) = W1 := ⟨_, rfl⟩
    have p1 : Ps W1 (h + 1) (h + 1 + 1) L 1 (.slice none 0 0) [] 0 := by
      have := Ps.first W L
      rw [← hsx, hWs, hW1] at this
      exact this
    have B1 : Below w.heap.size w W1 := hW1 ▸ BW.alloc BW.size _
    have RB1 : Rb W1 h := ⟨by have := RB.hw; rw [← hW1]; simp; omega, by rw [← hW1]; exact (Below.heap_alloc W _ h RB.hw).trans RB.blk⟩
    have P1 := Lib.hid p1
    have HB1 := Lib.hid B1
    have HRB := Lib.hid RB1
    have HLN := Lib.hid (show L.length < 100 ∧ L.length ≤ 64 by omega)
    have HPT := Lib.hid (pat_any 100 (h + 1) (h + 1 + 1) 1 (.slice none 0 0) [] L W1 p1 (by omega) (by simp; omega) (by omega))
    have HW1 := Lib.hid hW1
    clear hlong hLs hsx hL RB BW p1 B1 RB1 hW1
    go_enter Tryd.func28, Tryd.ntmps28
    go_wp2_with fail
    rw [HW1.out]
    clear hW hh hWs
    refine HPT.out.mono ?_
    intro y w2 hp
    cases hr : patF 100 1 none .eps L with
    | err e =>
      rw [hr] at hp
      obtain ⟨he, pc, v2, P2, rfl, hpc, hP2, ho⟩ := hp
      have HR := Lib.hid (show parseF L = .err e by rw [HS.out, hr])
      have HE := Lib.hid he
      have heb : (e != 0) = true := by simp [he]
      obtain ⟨W3, hW3⟩ : ∃ W3, w2.alloc (.cells #[.int .u64 (pc.f : Nat), .int .u64 (pc.l : Nat), .bool pc.e] 50 (0, 0)) = W3 := ⟨_, rfl⟩
      have P3 := Lib.hid (hW3 ▸ ho.1.alloc _ : Ps W3 (h + 1) (h + 1 + 1) _ 1 v2 _ _)
      have G3 := Lib.hid (hW3 ▸ ho.2.alloc _ : Go1 (h + 1) (.slice none 0 0) v2 W1 W3)
      obtain ⟨b, hb⟩ : ∃ b, w2.heap.size = b := ⟨_, rfl⟩
      have X3 := Lib.hid (show Bx W3 b (h + 1) v2 pc from hb ▸ hW3 ▸ Bx.new ho.1 pc)
      simp only [pcV]
      have c0 := P3.out.c0
      rw [tx_nil] at c0
      clear ho he hpc hP2 hr
      have c3 := P3.out.c3
      obtain ⟨⟨z0, z1, z2, z3⟩, zf0, zf1, zf2, zf3⟩ := (HRB.out.go (B := 0) G3.out (by omega) (by simp [Value.ownBlock])).cells
      have c3d : (W3.drew).cell? ⟨h + 1, 3, none⟩ = some (.int .i64 (e)) := c3
      have HBE := Lib.hid (show Below w.heap.size w (W3.drew) from below_drewN (go1_below2 HB1.out HB1.out.size G3.out (by have := HH.out; omega)) 1)
      go_wp2_with fail
      go_region
      all_goals
        go_wp2_with fail
        refine bodyPost_ret (v := .tuple #[rgV none 0 0 ⟨0, 0, false⟩, .int .i64 (e)]) (by simp [results, Tryd.results28, go_sem, z0, z1, z2, z3, rgV]) rfl ?_
        rw [HR.out]
        refine ⟨⟨_, rfl, rg0 _⟩, fun e' he => by cases he; exact HE.out, ?_⟩
        first | exact below_set (below_set (below_set (below_set (HBE.out) ⟨h, 0, none⟩ HH.out _) ⟨h, 1, none⟩ HH.out _) ⟨h, 2, none⟩ HH.out _) ⟨h, 3, none⟩ HH.out _ | exact (by have := HBE.out; exact this)
    | ok x q =>
      rw [hr] at hp
      simp only [PatP] at hp
      obtain ⟨rfl, hok, hlen, v2, ho⟩ := hp
      obtain ⟨pc, hpc⟩ : ∃ pc, (glu x []).1 = pc := ⟨_, rfl⟩
      obtain ⟨Q, hQ⟩ : ∃ Q, (glu x []).2 = Q := ⟨_, rfl⟩
      rw [hpc] at hok ⊢
      rw [hQ] at hlen ho
      have HPC := Lib.hid hpc
      have HQQ := Lib.hid hQ
      have HOK := Lib.hid hok
      have HLEN := Lib.hid hlen
      cases q with
      | cons a q =>
        have HR := Lib.hid (show parseF L = .err 27 by rw [HS.out, hr]; rfl)
        obtain ⟨W3, hW3⟩ : ∃ W3, w2.alloc (.cells #[.int .u64 (pc.f : Nat), .int .u64 (pc.l : Nat), .bool pc.e] 50 (0, 0)) = W3 := ⟨_, rfl⟩
        have P3 := Lib.hid (hW3 ▸ ho.1.alloc _ : Ps W3 (h + 1) (h + 1 + 1) _ 1 v2 _ _)
        have G3 := Lib.hid (hW3 ▸ ho.2.alloc _ : Go1 (h + 1) (.slice none 0 0) v2 W1 W3)
        obtain ⟨b, hb⟩ : ∃ b, w2.heap.size = b := ⟨_, rfl⟩
        have X3 := Lib.hid (show Bx W3 b (h + 1) v2 pc from hb ▸ hW3 ▸ Bx.new ho.1 pc)
        simp only [pcV]
        obtain ⟨T, hT, hTe, _⟩ := tx_open a q (by simp at hlen; omega)
        have c0 := P3.out.c0
        rw [hT] at c0
        clear ho hr hpc hQ hok hlen
        go_wp2_with fail
        refine (fail_any _ _ _ _ _ _ _ 27 _ P3.out).mono ?_
        rintro y w4 ⟨rfl, ho⟩
        have P4 := Lib.hid (show Ps w4 (h + 1) (h + 1 + 1) [] 1 v2 Q 27 from ho.1)
        have G4 := Lib.hid (G3.out.trans ho.2)
        clear ho
        have c3 := P4.out.c3
        obtain ⟨⟨z0, z1, z2, z3⟩, zf0, zf1, zf2, zf3⟩ := (HRB.out.go (B := 0) G4.out (by omega) (by simp [Value.ownBlock])).cells
        have c3d : (w4.drew).cell? ⟨h + 1, 3, none⟩ = some (.int .i64 (27)) := c3
        have HBE := Lib.hid (show Below w.heap.size w (w4.drew) from below_drewN (go1_below2 HB1.out HB1.out.size G4.out (by have := HH.out; omega)) 1)
        go_wp2_with fail
        go_region
        all_goals
          go_wp2_with fail
          refine bodyPost_ret (v := .tuple #[rgV none 0 0 ⟨0, 0, false⟩, .int .i64 (27)]) (by simp [results, Tryd.results28, go_sem, z0, z1, z2, z3, rgV]) rfl ?_
          rw [HR.out]
          refine ⟨⟨_, rfl, rg0 _⟩, fun e' he => by cases he; decide, ?_⟩
          first | exact below_set (below_set (below_set (below_set (HBE.out) ⟨h, 0, none⟩ HH.out _) ⟨h, 1, none⟩ HH.out _) ⟨h, 2, none⟩ HH.out _) ⟨h, 3, none⟩ HH.out _ | exact (by have := HBE.out; exact this)
      | nil =>
        have HR := Lib.hid (show parseF L = .ok x [] by rw [HS.out, hr]; rfl)
        obtain ⟨W3, hW3⟩ : ∃ W3, w2.alloc (.cells #[.int .u64 (pc.f : Nat), .int .u64 (pc.l : Nat), .bool pc.e] 50 (0, 0)) = W3 := ⟨_, rfl⟩
        have P3 := Lib.hid (hW3 ▸ ho.1.alloc _ : Ps W3 (h + 1) (h + 1 + 1) _ 1 v2 _ _)
        have G3 := Lib.hid (hW3 ▸ ho.2.alloc _ : Go1 (h + 1) (.slice none 0 0) v2 W1 W3)
        obtain ⟨b, hb⟩ : ∃ b, w2.heap.size = b := ⟨_, rfl⟩
        have X3 := Lib.hid (show Bx W3 b (h + 1) v2 pc from hb ▸ hW3 ▸ Bx.new ho.1 pc)
        simp only [pcV]
        obtain ⟨A, c, hv⟩ := own_shape ho.1.own
        subst hv
        have c0 := P3.out.c0
        rw [tx_nil] at c0
        have c3 := P3.out.c3
        have c2 := P3.out.c2
        obtain ⟨⟨z0, z1, z2, z3⟩, zf0, zf1, zf2, zf3⟩ := (HRB.out.go (B := 0) G3.out (by omega) (by simp [Value.ownBlock])).cells
        obtain ⟨x0, x1, x2, xf0, xf1, xf2⟩ := X3.out.cells
        have HBE := Lib.hid (show Below w.heap.size w W3 from go1_below2 HB1.out HB1.out.size G3.out (by have := HH.out; omega))
        clear ho hr hpc hQ hok hlen
        go_wp2_with fail
        refine bodyPost_ret (v := .tuple #[rgV A Q.length c pc, .int .i64 0]) (by simp [results, Tryd.results28, go_sem, z0, z1, z2, z3, rgV]) rfl ?_
        rw [HR.out]
        refine ⟨⟨_, rfl, ?_⟩, fun e' he => (by cases he), ?_⟩
        · show Rg _ _ (glu x []).2 (glu x []).1
          rw [HPC.out, HQQ.out]
          have hc : Cl W3 A (plC Q) := own_cl P3.out.own
          have hne : ∀ a, A = some a → a.block ≠ h := by
            intro a ha
            have := (P3.out.own.lt a.block (by rw [ha]; rfl)).1
            omega
          exact ⟨⟨A, c, rfl, (((hc.set (p := ⟨h, 0, none⟩) hne _).set (p := ⟨h, 1, none⟩) hne _).set (p := ⟨h, 2, none⟩) hne _).set (p := ⟨h, 3, none⟩) hne _⟩, by have := HLEN.out; simp at this; exact this, P3.out.ok, HOK.out⟩
        · exact below_set (below_set (below_set (below_set (HBE.out) ⟨h, 0, none⟩ HH.out _) ⟨h, 1, none⟩ HH.out _) ⟨h, 2, none⟩ HH.out _) ⟨h, 3, none⟩ HH.out _
end Go.Proofs.YtnabfganecghkaaDoor
