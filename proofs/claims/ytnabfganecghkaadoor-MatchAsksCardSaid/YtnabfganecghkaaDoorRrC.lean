/- The document's class. -/
import Derived.Test.YtnabfganecghkaaDoorRrB
namespace Go.Proofs.YtnabfganecghkaaDoor
open Go.RowKit
set_option linter.unusedVariables false

theorem nx_yes {c : UInt8} {L l : List UInt8} {k : Nat} (hl : L.drop k = l) (h : hd c l = true) : nxF L k = (c.toNat : Int) ∧ L.drop (k + 1) = l.drop 1 ∧ k < L.length := by
  cases l with
  | nil => cases h
  | cons a r =>
    have ha : a = c := by simpa [hd] using h
    subst ha
    obtain ⟨h1, h2, h3⟩ := drop_head hl
    exact ⟨h1, h2, h3⟩
theorem nx_no {c : UInt8} {L l : List UInt8} {k : Nat} (hl : L.drop k = l) (h : hd c l = false) : nxF L k ≠ (c.toNat : Int) := by
  cases l with
  | nil =>
    rw [drop_none hl]
    intro e
    have := c.toNat_lt
    omega
  | cons a r =>
    have ha : ¬ a = c := by simpa [hd] using h
    rw [(drop_head hl).1]
    intro e
    exact ha (u8_eq (by omega))
theorem z_no {z : Int} (c : Int) (h : z ≠ c) : (z == c) = false := by simp [h]
theorem z_ne {z : Int} (c : Int) (h : z ≠ c) : (z != c) = true := by simp [h]
/-- what the class has in hand -/
structure CxS (w : World) (q : Nat) (L : List UInt8) (d h k : Nat) (e : Int) (X : Nat → Bool) (wr : World) : Prop where
  rr : Rr wr q L k d e
  hb : Hb wr (h + 1) X
  n0 : Nb wr h ⟨#[]⟩ nvo nvo
  n2 : Nb wr (h + 2) byteB (.slice (some ⟨h + 1, 0, none⟩) 256 256) nvo
  go : Go1 q nvo nvo w wr
  hq : q < h
  hs : w.heap.size ≤ h
theorem CxS.ro {w wr w' : World} {q d h k k' : Nat} {L : List UInt8} {e e' : Int} {X : Nat → Bool} (z : CxS w q L d h k e X wr) (o : RO wr q L k' d e' w') : CxS w q L d h k' e' X w' :=
  ⟨o.1, z.hb.go o.2 (by have := z.hq; omega), z.n0.go o.2 (by have := z.hq; omega), z.n2.go o.2 (by have := z.hq; omega), z.go.trans o.2, z.hq, z.hs⟩
theorem CxS.setK {w wr : World} {q d h k : Nat} {L : List UInt8} {e : Int} {X : Nat → Bool} (z : CxS w q L d h k e X wr) : CxS w q L d h (k + 1) e X (wr.setCell ⟨q, 1, none⟩ (.int .i64 ((k : Int) + 1))) :=
  z.ro ⟨z.rr.setK (k + 1) _ (by omega), go1_set 1 _⟩
theorem CxS.congr {w wr : World} {q d h k : Nat} {L : List UInt8} {e : Int} {X Y : Nat → Bool} (z : CxS w q L d h k e X wr) (hXY : ∀ i, i < 256 → X i = Y i) : CxS w q L d h k e Y wr := ⟨z.rr, z.hb.congr hXY, z.n0, z.n2, z.go, z.hq, z.hs⟩
theorem CxS.put {w wr : World} {q d h k : Nat} {L : List UInt8} {e : Int} {X Y : Nat → Bool} (z : CxS w q L d h k e X wr) (j : Nat) (hj : j < 256) (v : Bool) (hY : ∀ i, i < 256 → i ≠ j → Y i = X i) (hv : Y j = v) : CxS w q L d h k e Y (wr.setCell ⟨h + 1, j, none⟩ (.bool v)) :=
  ⟨z.rr.other (a := ⟨h + 1, j, none⟩) (by have := z.hq; show q ≠ h + 1; omega) _, z.hb.put j hj v hY hv, z.n0.other (a := ⟨h + 1, j, none⟩) (by show h ≠ h + 1; omega) _, z.n2.other (a := ⟨h + 1, j, none⟩) (by show h + 2 ≠ h + 1; omega) _, z.go.other (a := ⟨h + 1, j, none⟩) (by have := z.hs; show _ ≤ h + 1; omega) _, z.hq, z.hs⟩
theorem CxS.drewN {w wr : World} {q d h k : Nat} {L : List UInt8} {e : Int} {X : Nat → Bool} (z : CxS w q L d h k e X wr) (n : Nat) : CxS w q L d h k e X (wr.drewN n) := z.ro ⟨z.rr.drewN n, (Go1.refl _ _ _).drewN n⟩
theorem CxS.drew {w wr : World} {q d h k : Nat} {L : List UInt8} {e : Int} {X : Nat → Bool} (z : CxS w q L d h k e X wr) : CxS w q L d h k e X wr.drew :=
  z.ro ⟨⟨z.rr.qw, z.rr.c0, z.rr.c1, z.rr.c2, z.rr.c3, z.rr.f1, z.rr.f2, z.rr.f3⟩, (Go1.refl _ _ _).drew⟩
/-- what comes out of a class, the bang aside -/
def OutR (R : Option ((Nat → Bool) × List UInt8)) (X : Nat → Bool) (L : List UInt8) (k : Nat) (e : Int) : Prop :=
  (∃ l', R = some (X, l') ∧ e = 0 ∧ L.drop k = l' ∧ k ≤ L.length + 2) ∨ (R = none ∧ e = 27)
theorem OutR.neg {R : Option ((Nat → Bool) × List UInt8)} {X : Nat → Bool} {L : List UInt8} {k : Nat} {e : Int} (h : OutR R X L k e) : OutR (notO R) (notX X) L k e := by
  rcases h with ⟨l', rfl, h⟩ | ⟨rfl, h⟩
  · exact .inl ⟨l', rfl, h⟩
  · exact .inr ⟨rfl, h⟩
/-- a class as the document's reader hands it back -/
def RclP (o : Option ((Nat → Bool) × List UInt8)) (w : World) (q : Nat) (L : List UInt8) (d : Nat) (y : Ending) (w' : World) : Prop :=
  ∃ X b k e, y = .returned (.agg #[.string byteB, .slice (some ⟨b, 0, none⟩) 256 256, nvo]) ∧ w.heap.size ≤ b ∧ Hb w' b X ∧ k ≤ L.length + 6 ∧ RO w q L k d e w' ∧ OutR o X L k e
theorem rcl_not {l : List UInt8} (h : hd 94 l = true) : classF l = notO (insF (l.drop 1)) := by
  unfold classF
  rw [if_pos h]
  cases insF (l.drop 1) with
  | none => rfl
  | some p => rfl
theorem rcl_pos {l : List UInt8} (h : hd 94 l = false) : classF l = insF l := by
  unfold classF
  rw [if_neg (by rw [h]; simp)]
def flN (X : Nat → Bool) (j : Nat) : Nat → Bool := fun i => if i < j then !X i else X i
def C3Rel (nt : Bool) (w : World) (q : Nat) (L : List UInt8) (d h k : Nat) (e : Int) (X : Nat → Bool) (v9 : Value) (wr : World) : Prop :=
  ∃ j : Nat, v9 = .int .i64 (j : Int) ∧ j ≤ 256 ∧ (nt = false → j = 0) ∧ CxS w q L d h k e (flN X j) wr
def inN (X : Nat → Bool) (a i : Nat) : Nat → Bool := fun j => X j || (decide (a ≤ j) && decide (j < i))
def C2Rel (w : World) (q : Nat) (L : List UInt8) (d h k a b : Nat) (X : Nat → Bool) (v8 : Value) (wr : World) : Prop :=
  ∃ i : Nat, v8 = .int .i64 (i : Int) ∧ a ≤ i ∧ i ≤ b + 1 ∧ CxS w q L d h k 0 (inN X a i) wr
/-- what an item says of the rest -/
def StpR (R : Option ((Nat → Bool) × List UInt8)) (X : Nat → Bool) (l : List UInt8) : Prop :=
  (itemF X l = none → R = none) ∧ ∀ Y r, itemF X l = some (Y, r) → r.length + 1 ≤ l.length ∧ ∃ m, clsF m Y r = R ∧ r.length < m
theorem stp_first {R : Option ((Nat → Bool) × List UInt8)} {l : List UInt8} (h : insF l = R) : StpR R noX l := by
  unfold insF at h
  refine ⟨fun hn => ?_, fun Y r hs => ?_⟩
  · rw [hn] at h
    exact h.symm
  · rw [hs] at h
    exact ⟨itemF_len hs, r.length + 1, h, by omega⟩
theorem stp_on {R : Option ((Nat → Bool) × List UInt8)} {X : Nat → Bool} {l : List UInt8} {m : Nat} (h : clsF m X l = R) (hm : l.length < m) (h93 : hd 93 l = false) : StpR R X l := by
  refine ⟨fun hn => ?_, fun Y r hs => ?_⟩
  · rw [← h]
    exact clsF_bad hm h93 hn
  · obtain ⟨m', h1, h2⟩ := clsF_on hm h93 hs
    exact ⟨itemF_len hs, m', by rw [← h2, h], h1⟩
def ClR (R : Option ((Nat → Bool) × List UInt8)) (w : World) (q : Nat) (L : List UInt8) (d h : Nat) (v5 : Value) (wr : World) : Prop :=
  ∃ (n k : Nat) (e : Int) (X : Nat → Bool), v5 = .int .i64 (n : Int) ∧ CxS w q L d h k e X wr ∧ k ≤ L.length + 5 ∧
  ((e = 0 ∧ k ≤ L.length + 2 ∧ n ≤ k ∧ ((n = 0 ∧ X = noX ∧ insF (L.drop k) = R) ∨ (n ≠ 0 ∧ ∃ m, clsF m X (L.drop k) = R ∧ (L.drop k).length < m))) ∨ (e = 27 ∧ n ≤ 2000 ∧ R = none))
def rms (q : Nat) (w : World) : Nat := match w.cell? ⟨q, 3, none⟩ with
  | some (.int _ e) => if e = 0 then (match w.cell? ⟨q, 1, none⟩ with
    | some (.int _ k) => 2000 - k.toNat
    | _ => 0) else 0
  | _ => 0
theorem rms_rr {w : World} {q k d : Nat} {L : List UInt8} {e : Int} (p : Rr w q L k d e) : rms q w = if e = 0 then 2000 - k else 0 := by
  unfold rms
  rw [p.c3, p.c1]
  simp
theorem inN_end (X : Nat → Bool) (a b : Nat) : inN X a (b + 1) = withX X a b := by
  funext j
  unfold inN withX
  congr 2
  exact decide_eq_decide.2 (by omega)
theorem inN_start (X : Nat → Bool) (a : Nat) : inN X a a = X := by
  funext j
  unfold inN
  have : (decide (a ≤ j) && decide (j < a)) = false := by
    simp
  rw [this]
  simp
/-- an item: what its pieces say -/
theorem itemF_ok {X : Nat → Bool} {l l1 l2 : List UInt8} {a b : UInt8} (h1 : memF l = some (a, l1)) (h2 : toF a l1 = some (b, l2)) (h : ¬ b.toNat < a.toNat) : itemF X l = some (withX X a.toNat b.toNat, l2) := by
  unfold itemF
  rw [h1]
  show (match toF a l1 with
    | none => none
    | some (b, l2) => if b.toNat < a.toNat then none else some (withX X a.toNat b.toNat, l2)) = _
  rw [h2]
  show (if b.toNat < a.toNat then none else some (withX X a.toNat b.toNat, l2)) = _
  rw [if_neg h]
theorem itemF_lt {X : Nat → Bool} {l l1 l2 : List UInt8} {a b : UInt8} (h1 : memF l = some (a, l1)) (h2 : toF a l1 = some (b, l2)) (h : b.toNat < a.toNat) : itemF X l = none := by
  unfold itemF
  rw [h1]
  show (match toF a l1 with
    | none => none
    | some (b, l2) => if b.toNat < a.toNat then none else some (withX X a.toNat b.toNat, l2)) = _
  rw [h2]
  show (if b.toNat < a.toNat then none else some (withX X a.toNat b.toNat, l2)) = _
  rw [if_pos h]
theorem itemF_n1 {X : Nat → Bool} {l : List UInt8} (h1 : memF l = none) : itemF X l = none := by
  unfold itemF
  rw [h1]
theorem itemF_n2 {X : Nat → Bool} {l l1 : List UInt8} {a : UInt8} (h1 : memF l = some (a, l1)) (h2 : toF a l1 = none) : itemF X l = none := by
  unfold itemF
  rw [h1]
  show (match toF a l1 with
    | none => none
    | some (b, l2) => if b.toNat < a.toNat then none else some (withX X a.toNat b.toNat, l2)) = _
  rw [h2]
theorem drop_len {L l : List UInt8} {k : Nat} (h : L.drop k = l) : l.length = L.length - k := by rw [← h, List.length_drop]
/-- behind an item that went wrong -/
theorem ClR.dead {R : Option ((Nat → Bool) × List UInt8)} {w wr : World} {q d h n k : Nat} {L : List UInt8} {X : Nat → Bool} (z : CxS w q L d h k 27 X wr) (hk : k ≤ L.length + 5) (hn : n + 1 ≤ 2000) (N : Int) (hN : N = ((n : Int) + 1)) (hR : R = none) : ClR R w q L d h (.int .i64 N) wr :=
  ⟨n + 1, k, 27, X, by rw [hN]; rfl, z, hk, .inr ⟨rfl, hn, hR⟩⟩
set_option maxHeartbeats 4000000 in
set_option maxRecDepth 100000 in
theorem rclass_false (q : Nat) (L l : List UInt8) (k d : Nat) (w : World) (p : Rr w q L k d 0) (hl : L.drop k = l) (hL : L.length ≤ 1000) (hk : k ≤ L.length + 1) (hnt : hd 94 l = false) :
    Calls Tryd.prog 72 #[.pointer (some ⟨q, 0, none⟩)] w fun y w' => RclP (classF l) w q L d y w' := by
  have hmk := mk256
  obtain ⟨h, hh⟩ : ∃ h, w.heap.size = h := ⟨_, rfl⟩
  obtain ⟨W0, hW0⟩ : ∃ W0, w.alloc (.cells #[.string ⟨#[]⟩, nvo, nvo] 60 (0, 0)) = W0 := ⟨_, rfl⟩
  obtain ⟨W1, hW1⟩ : ∃ W1, W0.alloc (.cells (Array.replicate 256 (.bool false)) 4) = W1 := ⟨_, rfl⟩
  have s0 : W0.heap.size = h + 1 := by rw [← hW0, ← hh]; simp
  have s1 : W1.heap.size = h + 1 + 1 := by rw [← hW1]; simp [s0]
  have n0 : Nb W0 h ⟨#[]⟩ nvo nvo := hh ▸ hW0 ▸ Nb.new w _ _ _
  have b1 : Hb W1 (h + 1) noX := s0 ▸ hW1 ▸ Hb.new W0
  have B01 : Below W0.heap.size W0 W1 := hW1 ▸ (Below.refl _ _).alloc (Nat.le_refl _) _
  have B0 : Below w.heap.size w W0 := hW0 ▸ (Below.refl _ _).alloc (Nat.le_refl _) _
  have B1 := B0.trans (B01.mono B0.size)
  obtain ⟨W2, hW2⟩ : ∃ W2, W1.alloc (.cells #[.string byteB, .slice (some ⟨h + 1, 0, none⟩) 256 256, nvo] 60 (0, 0)) = W2 := ⟨_, rfl⟩
  have B12 : Below W1.heap.size W1 W2 := hW2 ▸ (Below.refl _ _).alloc (Nat.le_refl _) _
  have B2 := B1.trans (B12.mono B1.size)
  have Z0 := Lib.hid (show CxS w q L d h k 0 noX W2 from ⟨p.below B2, b1.below B12, (n0.below B01).below B12, (show h + 1 + 1 = h + 2 from rfl) ▸ s1 ▸ hW2 ▸ Nb.new W1 _ _ _, Go1.of_below B2, hh ▸ p.qw, by omega⟩)
  have HW2 := Lib.hid hW2
  have HKL := Lib.hid hk
  have hk9 : k ≤ 5000 := by omega
  obtain ⟨R, hR⟩ : ∃ R, insF l = R := ⟨_, rfl⟩
  have hcl : classF l = R := by rw [rcl_pos hnt, hR]
  rw [hcl]
  have HR := Lib.hid hR
  have hne := nx_no hl hnt
  obtain ⟨z0, hz0⟩ : ∃ z, nxF L k = z := ⟨_, rfl⟩
  rw [hz0] at hne
  have hzb : (z0 == 94) = false := z_no 94 hne
  have HNX := Lib.hid hz0
  have HLK := Lib.hid hl
  clear hne hz0
  unfold nvo at hW0
  clear b1 n0 B01 B0 B1 B2 B12 hW2 p hk hR hcl hnt hl
  go_enter Tryd.func72, Tryd.ntmps72
  go_wp2_with fail
  have h2 := HW2.out
  unfold byteB nvo at h2
  rw [h2]
  clear h2 hmk hW0 hW1 hh s0 s1
  refine (rnext_any _ _ _ _ _ _ Z0.out.rr hL (by omega)).mono ?_
  rw [HNX.out]
  rintro y w1 ⟨rfl, ho⟩
  have R0 := Lib.hid (show ClR R w q L d h (.int .i64 0) w1 from ⟨0, k, 0, noX, rfl, Z0.out.ro ho, by have := HKL.out; omega, .inl ⟨rfl, by have := HKL.out; omega, by omega, .inl ⟨rfl, rfl, by rw [HLK.out]; exact HR.out⟩⟩⟩)
  clear ho
  go_wp2_with fail
  clear hzb
  go_loopw [5] (fun v5 wr => Hid (ClR R w q L d h v5 wr)) (fun _ wr => rms q wr)
  case atStart => exact R0
  case round =>
    clear R0
    obtain ⟨n, k1, e, X, rfl, hz, hk1, hx⟩ := hrel.out
    have Z := Lib.hid hz
    have c3 := hz.rr.c3
    clear hrel
    rcases hx with ⟨rfl, hk2, hnk, hx⟩ | ⟨rfl, hn, hRn⟩
    · have MS := Lib.hid (rms_rr hz.rr)
      obtain ⟨l1, hl1⟩ : ∃ l1, L.drop k1 = l1 := ⟨_, rfl⟩
      rw [hl1] at hx
      have HB := Lib.hid (And.intro hk2 hnk)
      have HL1 := Lib.hid hl1
      have hk1b : k1 ≤ 5000 := by omega
      clear hk1 hk2 hnk hz
      rcases hx with ⟨rfl, rfl, hi⟩ | ⟨hn0, m, hc, hm⟩
      · have ST := Lib.hid (stp_first hi)
        have HN := Lib.hid (show (0 : Nat) ≤ 1500 by omega)
        clear hi hl1
        go_wp2_with fail
        refine (ritem_any _ _ l1 _ _ _ Z.out.rr HL1.out hL (by omega)).mono ?_
        cases hm1 : memF l1 with
        | none =>
          rintro y w4 ⟨rfl, k2, hk2, ho⟩
          have Z4 := Lib.hid (Z.out.ro ho)
          have c3 := ho.1.c3
          have HD := Lib.hid (show R = none from ST.out.1 (itemF_n1 hm1))
          have HK2 := Lib.hid hk2
          clear ho hk2 hm1
          go_wp2_with fail
          go_loopw [8] (fun v8 wr => wr = w4 ∧ v8 = .int .i64 0) (fun _ _ => 0)
          case atStart => exact ⟨rfl, rfl⟩
          case round =>
            obtain ⟨rfl, rfl⟩ := hrel
            go_wp2_with fail
            go_roundw
            case rel => exact Lib.hid (ClR.dead (n := 0) Z4.out (by have := HK2.out; have := HB.out; omega) (by have := HN.out; omega) _ (by have := HN.out; first | rfl | go_num) HD.out)
            case measure => rw [MS.out, rms_rr Z4.out.rr]; have := HB.out; first | omega | (simp; omega)
        | some m1 =>
          obtain ⟨a, l2⟩ := m1
          rintro y w4 ⟨rfl, k2, hd2, hk2, ho⟩
          have hd2 : L.drop k2 = l2 := hd2
          have Z4 := Lib.hid (Z.out.ro ho)
          have c3 := ho.1.c3
          have HM := Lib.hid hm1
          have HD2 := Lib.hid hd2
          have hlen := memF_len hm1
          have HK2 := Lib.hid (show k1 < L.length ∧ k2 ≤ k1 + 2 by
            have h1 := drop_len HL1.out
            exact ⟨by omega, hk2⟩)
          have hk2b : k2 ≤ 6000 := by omega
          have ha := a.toNat_lt
          clear ho hm1 hk2 hlen
          obtain ⟨A, hA⟩ : ∃ A, a.toNat = A := ⟨_, rfl⟩
          rw [hA] at ha ⊢
          have HA := Lib.hid hA
          clear hA
          cases h45 : hd 45 l2 with
          | false =>
            have hne := nx_no hd2 h45
            have HT := Lib.hid (toF_no (a := a) h45)
            obtain ⟨z, hz⟩ : ∃ z, nxF L k2 = z := ⟨_, rfl⟩
            rw [hz] at hne
            have hzb : (z == 45) = false := z_no 45 hne
            have HZ2 := Lib.hid hz
            clear hd2 h45 hz hne
            go_wp2_with fail
            refine (rnext_any _ _ _ _ _ _ Z4.out.rr hL (by omega)).mono ?_
            rw [HZ2.out]
            rintro y w5 ⟨rfl, ho⟩
            have Z5 := Lib.hid (Z4.out.ro ho)
            have c3 := ho.1.c3
            have hlt : ¬ (A : Int) < (A : Int) := by omega
            have HNB := Lib.hid (show ¬ a.toNat < a.toNat by omega)
            clear ho
            go_wp2_with fail
            clear hzb hlt
            have HF := Lib.hid (show itemF noX l1 = some (withX noX A A, l2) by rw [itemF_ok HM.out HT.out HNB.out, HA.out])
            have HKL2 := Lib.hid (show k2 ≤ L.length + 2 by have := HK2.out; omega)
            go_loopw [8] (fun v8 wr => Hid (C2Rel w q L d h k2 A A noX v8 wr)) (fun v8 _ => 300 - (intOf v8).toNat)
            case atStart => exact Lib.hid ⟨A, rfl, by omega, by omega, Z5.out.congr (fun i _ => by rw [inN_start])⟩
            case round =>
              obtain ⟨i, rfl, hi1, hi2, zi⟩ := hrel.out
              have ZI := Lib.hid zi
              have c3 := zi.rr.c3
              clear hrel
              by_cases hlt : i ≤ A
              · have hlti : (i : Int) ≤ (A : Int) := by omega
                have hi256 : i < 256 := by omega
                have hik : (i : Int) < 256 := by omega
                have q1 := zi.hb.c i hi256
                have qf := zi.hb.f i
                obtain ⟨⟨x0, x1, x2⟩, xf0, xf1, xf2⟩ := zi.n2.cells
                clear zi
                go_wp2_with fail
                go_roundw
                case rel => exact Lib.hid ⟨i + 1, by go_num, by omega, by omega, ZI.out.put i hi256 true (fun j _ hj => by
                  unfold inN
                  congr 2
                  exact decide_eq_decide.2 (by omega)) (by unfold inN; simp; omega)⟩
                case measure => simp [intOf]; omega
              · obtain rfl : i = A + 1 := by omega
                have hlti : ¬ ((A + 1 : Nat) : Int) ≤ (A : Int) := by omega
                have ZF := Lib.hid (zi.congr (fun i _ => by rw [inN_end]))
                clear zi ZI
                go_wp2_with fail
                go_roundw
                case rel =>
                  obtain ⟨hlr, m', hm', hmm⟩ := ST.out.2 _ _ HF.out
                  have h1 := drop_len HL1.out
                  have h2 := drop_len HD2.out
                  exact Lib.hid ⟨0 + 1, k2, 0, _, by have := HN.out; go_num, ZF.out, by have := HKL2.out; omega, .inl ⟨rfl, HKL2.out, by have := HB.out; have := HKL2.out; omega, .inr ⟨by omega, m', by rw [HD2.out]; exact hm', by rw [HD2.out]; exact hmm⟩⟩⟩
                case measure =>
                  obtain ⟨hlr, m', hm', hmm⟩ := ST.out.2 _ _ HF.out
                  have h1 := drop_len HL1.out
                  have h2 := drop_len HD2.out
                  rw [MS.out, rms_rr ZF.out.rr]
                  have := HB.out
                  first | omega | (simp; omega)

          | true =>
            have hnx : nxF L k2 = 45 := (nx_yes hd2 h45).1
            have HZ2 := Lib.hid hnx
            have HD3 := Lib.hid (nx_yes hd2 h45).2.1
            have HT := Lib.hid (toF_yes (a := a) h45)
            clear hd2 h45 hnx
            go_wp2_with fail
            refine (rnext_any _ _ _ _ _ _ Z4.out.rr hL (by omega)).mono ?_
            rw [HZ2.out]
            rintro y w5 ⟨rfl, ho⟩
            have c1 := ho.1.c1
            have f1 := ho.1.f1
            have Z5 := Lib.hid (Z4.out.ro ho).setK
            clear ho
            go_wp2_with fail
            clear c1 f1
            refine (ritem_any _ _ (l2.drop 1) _ _ _ Z5.out.rr HD3.out hL (by omega)).mono ?_
            cases hm3 : memF (l2.drop 1) with
            | none =>
              rintro y w6 ⟨rfl, k3, hk3, ho⟩
              have Z6 := Lib.hid (Z5.out.ro ho)
              have c3 := ho.1.c3
              have HD := Lib.hid (show R = none from ST.out.1 (itemF_n2 HM.out (HT.out.trans hm3)))
              have HK3 := Lib.hid hk3
              clear ho hk3 hm3
              go_wp2_with fail
              go_loopw [8] (fun v8 wr => wr = w6 ∧ v8 = .int .i64 (A : Int)) (fun _ _ => 0)
              case atStart => exact ⟨rfl, rfl⟩
              case round =>
                obtain ⟨rfl, rfl⟩ := hrel
                by_cases hA0 : (A : Int) ≤ 0
                all_goals
                  go_wp2_with fail
                  go_roundw
                  case rel => exact Lib.hid (ClR.dead (n := 0) Z6.out (by have := HK2.out; have := HK3.out; omega) (by have := HN.out; omega) _ (by have := HN.out; first | rfl | go_num) HD.out)
                  case measure => rw [MS.out, rms_rr Z6.out.rr]; have := HB.out; first | omega | (simp; omega)
            | some m3 =>
              obtain ⟨b, l3⟩ := m3
              rintro y w6 ⟨rfl, k3, hd3, hk3, ho⟩
              have hd3 : L.drop k3 = l3 := hd3
              have Z6 := Lib.hid (Z5.out.ro ho)
              have c3 := ho.1.c3
              have HT2 := Lib.hid (HT.out.trans hm3)
              have HD4 := Lib.hid hd3
              have hlen := memF_len hm3
              have HK3 := Lib.hid (show k3 ≤ L.length + 2 by
                have h1 := drop_len HD3.out
                have h2 : k2 + 1 < L.length := by omega
                omega)
              have hb := b.toNat_lt
              clear ho hm3 hk3 hlen hd3
              obtain ⟨B, hB⟩ : ∃ B, b.toNat = B := ⟨_, rfl⟩
              rw [hB] at hb ⊢
              have HBB := Lib.hid hB
              clear hB
              by_cases hlt : (B : Int) < (A : Int)
              · have HD := Lib.hid (show R = none from ST.out.1 (itemF_lt HM.out HT2.out (by rw [HBB.out, HA.out]; omega)))
                have hle : ¬ (A : Int) ≤ (B : Int) := by omega
                go_wp2_with fail
                refine (rwrong_any _ _ _ _ _ 27 _ Z6.out.rr).mono ?_
                rintro y w7 ⟨rfl, ho⟩
                have ho : RO w6 q L k3 d 27 w7 := ho
                have Z7 := Lib.hid (Z6.out.ro ho)
                clear ho
                go_wp2_with fail
                go_loopw [8] (fun v8 wr => wr = w7 ∧ v8 = .int .i64 (A : Int)) (fun _ _ => 0)
                case atStart => exact ⟨rfl, rfl⟩
                case round =>
                  obtain ⟨rfl, rfl⟩ := hrel
                  go_wp2_with fail
                  go_roundw
                  case rel => exact Lib.hid (ClR.dead (n := 0) Z7.out (by have := HK3.out; omega) (by have := HN.out; omega) _ (by have := HN.out; first | rfl | go_num) HD.out)
                  case measure => rw [MS.out, rms_rr Z7.out.rr]; have := HB.out; first | omega | (simp; omega)
              · go_wp2_with fail
                have HF := Lib.hid (show itemF noX l1 = some (withX noX A B, l3) by rw [itemF_ok HM.out HT2.out (by rw [HBB.out, HA.out]; omega), HBB.out, HA.out])
                clear hlt
                have HKL2 := Lib.hid (show k3 ≤ L.length + 2 by exact HK3.out)
                go_loopw [8] (fun v8 wr => Hid (C2Rel w q L d h k3 A B noX v8 wr)) (fun v8 _ => 300 - (intOf v8).toNat)
                case atStart => exact Lib.hid ⟨A, rfl, by omega, by omega, Z6.out.congr (fun i _ => by rw [inN_start])⟩
                case round =>
                  obtain ⟨i, rfl, hi1, hi2, zi⟩ := hrel.out
                  have ZI := Lib.hid zi
                  have c3 := zi.rr.c3
                  clear hrel
                  by_cases hlt : i ≤ B
                  · have hlti : (i : Int) ≤ (B : Int) := by omega
                    have hi256 : i < 256 := by omega
                    have hik : (i : Int) < 256 := by omega
                    have q1 := zi.hb.c i hi256
                    have qf := zi.hb.f i
                    obtain ⟨⟨x0, x1, x2⟩, xf0, xf1, xf2⟩ := zi.n2.cells
                    clear zi
                    go_wp2_with fail
                    go_roundw
                    case rel => exact Lib.hid ⟨i + 1, by go_num, by omega, by omega, ZI.out.put i hi256 true (fun j _ hj => by
                      unfold inN
                      congr 2
                      exact decide_eq_decide.2 (by omega)) (by unfold inN; simp; omega)⟩
                    case measure => simp [intOf]; omega
                  · obtain rfl : i = B + 1 := by omega
                    have hlti : ¬ ((B + 1 : Nat) : Int) ≤ (B : Int) := by omega
                    have ZF := Lib.hid (zi.congr (fun i _ => by rw [inN_end]))
                    clear zi ZI
                    go_wp2_with fail
                    go_roundw
                    case rel =>
                      obtain ⟨hlr, m', hm', hmm⟩ := ST.out.2 _ _ HF.out
                      have h1 := drop_len HL1.out
                      have h2 := drop_len HD4.out
                      exact Lib.hid ⟨0 + 1, k3, 0, _, by have := HN.out; go_num, ZF.out, by have := HKL2.out; omega, .inl ⟨rfl, HKL2.out, by have := HB.out; have := HKL2.out; omega, .inr ⟨by omega, m', by rw [HD4.out]; exact hm', by rw [HD4.out]; exact hmm⟩⟩⟩
                    case measure =>
                      obtain ⟨hlr, m', hm', hmm⟩ := ST.out.2 _ _ HF.out
                      have h1 := drop_len HL1.out
                      have h2 := drop_len HD4.out
                      rw [MS.out, rms_rr ZF.out.rr]
                      have := HB.out
                      first | omega | (simp; omega)
      · have hnb : ((n : Int) == 0) = false := by simp; omega
        have HN := Lib.hid (show n ≤ 1500 by have := HB.out; omega)
        have hn15 : n ≤ 1500 := HN.out
        cases h93 : hd 93 l1 with
        | true =>
          have NX := Lib.hid (show nxF L k1 = 93 from (nx_yes hl1 h93).1)
          have OE := Lib.hid (show OutR R X L (k1 + 1) 0 from .inl ⟨l1.drop 1, by rw [← hc, clsF_end hm h93], rfl, (nx_yes hl1 h93).2.1, by have := (nx_yes hl1 h93).2.2; omega⟩)
          have HKE := Lib.hid (show k1 + 1 ≤ L.length + 6 by have := (nx_yes hl1 h93).2.2; omega)
          clear hc hm hl1 h93 hn0
          go_wp2_with fail
          refine (rnext_any _ _ _ _ _ _ Z.out.rr hL (by omega)).mono ?_
          rw [NX.out]
          rintro y w2 ⟨rfl, ho⟩
          have Z2 := Lib.hid (Z.out.ro ho)
          have c3 := ho.1.c3
          clear ho
          go_wp2_with fail
          refine (rnext_any _ _ _ _ _ _ Z2.out.rr hL (by omega)).mono ?_
          rw [NX.out]
          rintro y w3 ⟨rfl, ho⟩
          have c1 := ho.1.c1
          have f1 := ho.1.f1
          have ZE := Lib.hid (Z2.out.ro ho).setK
          clear ho c3
          go_wp2_with fail
          go_loopw [9] (fun v9 wr => Hid (C3Rel false w q L d h (k1 + 1) 0 X v9 wr)) (fun v9 _ => 256 - (intOf v9).toNat)
          case atStart => exact Lib.hid ⟨0, rfl, by omega, fun _ => rfl, ZE.out.congr (fun i _ => by unfold flN; simp)⟩
          case round =>
            obtain ⟨j, rfl, hj, hjn, zj⟩ := hrel.out
            have ZJ := Lib.hid zj
            clear hrel
            obtain ⟨⟨z0, z1, z2⟩, zf0, zf1, zf2⟩ := zj.n0.cells
            obtain ⟨⟨x0, x1, x2⟩, xf0, xf1, xf2⟩ := zj.n2.cells
            obtain rfl : j = 0 := hjn rfl
            clear zj
            go_wp2_with fail
            have ZF := Lib.hid (ZJ.out.congr (Y := X) (fun i hi => by unfold flN; simp))
            refine bodyPost_ret (v := .agg #[.string byteB, .slice (some ⟨h + 1, 0, none⟩) 256 256, nvo]) (by simp [results, Tryd.results72, go_sem, z0, z1, z2]) rfl ⟨X, h + 1, k1 + 1, 0, rfl, by have := ZF.out.hs; omega, ?_, HKE.out, ⟨?_, ?_⟩, OE.out⟩
            · exact ((ZF.out.hb.other (a := ⟨h, 0, none⟩) (by simp) _).other (a := ⟨h, 1, none⟩) (by simp) _).other (a := ⟨h, 2, none⟩) (by simp) _
            · have hq := ZF.out.hq
              exact ((ZF.out.rr.other (a := ⟨h, 0, none⟩) (by show q ≠ h; omega) _).other (a := ⟨h, 1, none⟩) (by show q ≠ h; omega) _).other (a := ⟨h, 2, none⟩) (by show q ≠ h; omega) _
            · exact ((ZF.out.go.other (a := ⟨h, 0, none⟩) ZF.out.hs _).other (a := ⟨h, 1, none⟩) ZF.out.hs _).other (a := ⟨h, 2, none⟩) ZF.out.hs _
        | false =>
          have ST := Lib.hid (stp_on hc hm h93)
          have hne := nx_no hl1 h93
          obtain ⟨z, hz⟩ : ∃ z, nxF L k1 = z := ⟨_, rfl⟩
          rw [hz] at hne
          have hzb : (z == 93) = false := z_no 93 hne
          have hzn : (z != 93) = true := z_ne 93 hne
          have HZ := Lib.hid hz
          clear hc hm hl1 h93 hn0 hz hne
          go_wp2_with fail
          refine (rnext_any _ _ _ _ _ _ Z.out.rr hL (by omega)).mono ?_
          rw [HZ.out]
          rintro y w2 ⟨rfl, ho⟩
          have Zn := Lib.hid (Z.out.ro ho)
          clear ho c3 Z
          have Z := Zn
          clear Zn
          go_wp2_with fail
          clear hnb hzb hzn
          refine (ritem_any _ _ l1 _ _ _ Z.out.rr HL1.out hL (by omega)).mono ?_
          cases hm1 : memF l1 with
          | none =>
            rintro y w4 ⟨rfl, k2, hk2, ho⟩
            have Z4 := Lib.hid (Z.out.ro ho)
            have c3 := ho.1.c3
            have HD := Lib.hid (show R = none from ST.out.1 (itemF_n1 hm1))
            have HK2 := Lib.hid hk2
            clear ho hk2 hm1
            go_wp2_with fail
            go_loopw [8] (fun v8 wr => wr = w4 ∧ v8 = .int .i64 0) (fun _ _ => 0)
            case atStart => exact ⟨rfl, rfl⟩
            case round =>
              obtain ⟨rfl, rfl⟩ := hrel
              go_wp2_with fail
              go_roundw
              case rel => exact Lib.hid (ClR.dead (n := n) Z4.out (by have := HK2.out; have := HB.out; omega) (by have := HN.out; omega) _ (by have := HN.out; first | rfl | go_num) HD.out)
              case measure => rw [MS.out, rms_rr Z4.out.rr]; have := HB.out; first | omega | (simp; omega)
          | some m1 =>
            obtain ⟨a, l2⟩ := m1
            rintro y w4 ⟨rfl, k2, hd2, hk2, ho⟩
            have hd2 : L.drop k2 = l2 := hd2
            have Z4 := Lib.hid (Z.out.ro ho)
            have c3 := ho.1.c3
            have HM := Lib.hid hm1
            have HD2 := Lib.hid hd2
            have hlen := memF_len hm1
            have HK2 := Lib.hid (show k1 < L.length ∧ k2 ≤ k1 + 2 by
              have h1 := drop_len HL1.out
              exact ⟨by omega, hk2⟩)
            have hk2b : k2 ≤ 6000 := by omega
            have ha := a.toNat_lt
            clear ho hm1 hk2 hlen
            obtain ⟨A, hA⟩ : ∃ A, a.toNat = A := ⟨_, rfl⟩
            rw [hA] at ha ⊢
            have HA := Lib.hid hA
            clear hA
            cases h45 : hd 45 l2 with
            | false =>
              have hne := nx_no hd2 h45
              have HT := Lib.hid (toF_no (a := a) h45)
              obtain ⟨z, hz⟩ : ∃ z, nxF L k2 = z := ⟨_, rfl⟩
              rw [hz] at hne
              have hzb : (z == 45) = false := z_no 45 hne
              have HZ2 := Lib.hid hz
              clear hd2 h45 hz hne
              go_wp2_with fail
              refine (rnext_any _ _ _ _ _ _ Z4.out.rr hL (by omega)).mono ?_
              rw [HZ2.out]
              rintro y w5 ⟨rfl, ho⟩
              have Z5 := Lib.hid (Z4.out.ro ho)
              have c3 := ho.1.c3
              have hlt : ¬ (A : Int) < (A : Int) := by omega
              have HNB := Lib.hid (show ¬ a.toNat < a.toNat by omega)
              clear ho
              go_wp2_with fail
              clear hzb hlt
              have HF := Lib.hid (show itemF X l1 = some (withX X A A, l2) by rw [itemF_ok HM.out HT.out HNB.out, HA.out])
              have HKL2 := Lib.hid (show k2 ≤ L.length + 2 by have := HK2.out; omega)
              go_loopw [8] (fun v8 wr => Hid (C2Rel w q L d h k2 A A X v8 wr)) (fun v8 _ => 300 - (intOf v8).toNat)
              case atStart => exact Lib.hid ⟨A, rfl, by omega, by omega, Z5.out.congr (fun i _ => by rw [inN_start])⟩
              case round =>
                obtain ⟨i, rfl, hi1, hi2, zi⟩ := hrel.out
                have ZI := Lib.hid zi
                have c3 := zi.rr.c3
                clear hrel
                by_cases hlt : i ≤ A
                · have hlti : (i : Int) ≤ (A : Int) := by omega
                  have hi256 : i < 256 := by omega
                  have hik : (i : Int) < 256 := by omega
                  have q1 := zi.hb.c i hi256
                  have qf := zi.hb.f i
                  obtain ⟨⟨x0, x1, x2⟩, xf0, xf1, xf2⟩ := zi.n2.cells
                  clear zi
                  go_wp2_with fail
                  go_roundw
                  case rel => exact Lib.hid ⟨i + 1, by go_num, by omega, by omega, ZI.out.put i hi256 true (fun j _ hj => by
                    unfold inN
                    congr 2
                    exact decide_eq_decide.2 (by omega)) (by unfold inN; simp; omega)⟩
                  case measure => simp [intOf]; omega
                · obtain rfl : i = A + 1 := by omega
                  have hlti : ¬ ((A + 1 : Nat) : Int) ≤ (A : Int) := by omega
                  have ZF := Lib.hid (zi.congr (fun i _ => by rw [inN_end]))
                  clear zi ZI
                  go_wp2_with fail
                  go_roundw
                  case rel =>
                    obtain ⟨hlr, m', hm', hmm⟩ := ST.out.2 _ _ HF.out
                    have h1 := drop_len HL1.out
                    have h2 := drop_len HD2.out
                    exact Lib.hid ⟨n + 1, k2, 0, _, by have := HN.out; go_num, ZF.out, by have := HKL2.out; omega, .inl ⟨rfl, HKL2.out, by have := HB.out; have := HKL2.out; omega, .inr ⟨by omega, m', by rw [HD2.out]; exact hm', by rw [HD2.out]; exact hmm⟩⟩⟩
                  case measure =>
                    obtain ⟨hlr, m', hm', hmm⟩ := ST.out.2 _ _ HF.out
                    have h1 := drop_len HL1.out
                    have h2 := drop_len HD2.out
                    rw [MS.out, rms_rr ZF.out.rr]
                    have := HB.out
                    first | omega | (simp; omega)

            | true =>
              have hnx : nxF L k2 = 45 := (nx_yes hd2 h45).1
              have HZ2 := Lib.hid hnx
              have HD3 := Lib.hid (nx_yes hd2 h45).2.1
              have HT := Lib.hid (toF_yes (a := a) h45)
              clear hd2 h45 hnx
              go_wp2_with fail
              refine (rnext_any _ _ _ _ _ _ Z4.out.rr hL (by omega)).mono ?_
              rw [HZ2.out]
              rintro y w5 ⟨rfl, ho⟩
              have c1 := ho.1.c1
              have f1 := ho.1.f1
              have Z5 := Lib.hid (Z4.out.ro ho).setK
              clear ho
              go_wp2_with fail
              clear c1 f1
              refine (ritem_any _ _ (l2.drop 1) _ _ _ Z5.out.rr HD3.out hL (by omega)).mono ?_
              cases hm3 : memF (l2.drop 1) with
              | none =>
                rintro y w6 ⟨rfl, k3, hk3, ho⟩
                have Z6 := Lib.hid (Z5.out.ro ho)
                have c3 := ho.1.c3
                have HD := Lib.hid (show R = none from ST.out.1 (itemF_n2 HM.out (HT.out.trans hm3)))
                have HK3 := Lib.hid hk3
                clear ho hk3 hm3
                go_wp2_with fail
                go_loopw [8] (fun v8 wr => wr = w6 ∧ v8 = .int .i64 (A : Int)) (fun _ _ => 0)
                case atStart => exact ⟨rfl, rfl⟩
                case round =>
                  obtain ⟨rfl, rfl⟩ := hrel
                  by_cases hA0 : (A : Int) ≤ 0
                  all_goals
                    go_wp2_with fail
                    go_roundw
                    case rel => exact Lib.hid (ClR.dead (n := n) Z6.out (by have := HK2.out; have := HK3.out; omega) (by have := HN.out; omega) _ (by have := HN.out; first | rfl | go_num) HD.out)
                    case measure => rw [MS.out, rms_rr Z6.out.rr]; have := HB.out; first | omega | (simp; omega)
              | some m3 =>
                obtain ⟨b, l3⟩ := m3
                rintro y w6 ⟨rfl, k3, hd3, hk3, ho⟩
                have hd3 : L.drop k3 = l3 := hd3
                have Z6 := Lib.hid (Z5.out.ro ho)
                have c3 := ho.1.c3
                have HT2 := Lib.hid (HT.out.trans hm3)
                have HD4 := Lib.hid hd3
                have hlen := memF_len hm3
                have HK3 := Lib.hid (show k3 ≤ L.length + 2 by
                  have h1 := drop_len HD3.out
                  have h2 : k2 + 1 < L.length := by omega
                  omega)
                have hb := b.toNat_lt
                clear ho hm3 hk3 hlen hd3
                obtain ⟨B, hB⟩ : ∃ B, b.toNat = B := ⟨_, rfl⟩
                rw [hB] at hb ⊢
                have HBB := Lib.hid hB
                clear hB
                by_cases hlt : (B : Int) < (A : Int)
                · have HD := Lib.hid (show R = none from ST.out.1 (itemF_lt HM.out HT2.out (by rw [HBB.out, HA.out]; omega)))
                  have hle : ¬ (A : Int) ≤ (B : Int) := by omega
                  go_wp2_with fail
                  refine (rwrong_any _ _ _ _ _ 27 _ Z6.out.rr).mono ?_
                  rintro y w7 ⟨rfl, ho⟩
                  have ho : RO w6 q L k3 d 27 w7 := ho
                  have Z7 := Lib.hid (Z6.out.ro ho)
                  clear ho
                  go_wp2_with fail
                  go_loopw [8] (fun v8 wr => wr = w7 ∧ v8 = .int .i64 (A : Int)) (fun _ _ => 0)
                  case atStart => exact ⟨rfl, rfl⟩
                  case round =>
                    obtain ⟨rfl, rfl⟩ := hrel
                    go_wp2_with fail
                    go_roundw
                    case rel => exact Lib.hid (ClR.dead (n := n) Z7.out (by have := HK3.out; omega) (by have := HN.out; omega) _ (by have := HN.out; first | rfl | go_num) HD.out)
                    case measure => rw [MS.out, rms_rr Z7.out.rr]; have := HB.out; first | omega | (simp; omega)
                · go_wp2_with fail
                  have HF := Lib.hid (show itemF X l1 = some (withX X A B, l3) by rw [itemF_ok HM.out HT2.out (by rw [HBB.out, HA.out]; omega), HBB.out, HA.out])
                  clear hlt
                  have HKL2 := Lib.hid (show k3 ≤ L.length + 2 by exact HK3.out)
                  go_loopw [8] (fun v8 wr => Hid (C2Rel w q L d h k3 A B X v8 wr)) (fun v8 _ => 300 - (intOf v8).toNat)
                  case atStart => exact Lib.hid ⟨A, rfl, by omega, by omega, Z6.out.congr (fun i _ => by rw [inN_start])⟩
                  case round =>
                    obtain ⟨i, rfl, hi1, hi2, zi⟩ := hrel.out
                    have ZI := Lib.hid zi
                    have c3 := zi.rr.c3
                    clear hrel
                    by_cases hlt : i ≤ B
                    · have hlti : (i : Int) ≤ (B : Int) := by omega
                      have hi256 : i < 256 := by omega
                      have hik : (i : Int) < 256 := by omega
                      have q1 := zi.hb.c i hi256
                      have qf := zi.hb.f i
                      obtain ⟨⟨x0, x1, x2⟩, xf0, xf1, xf2⟩ := zi.n2.cells
                      clear zi
                      go_wp2_with fail
                      go_roundw
                      case rel => exact Lib.hid ⟨i + 1, by go_num, by omega, by omega, ZI.out.put i hi256 true (fun j _ hj => by
                        unfold inN
                        congr 2
                        exact decide_eq_decide.2 (by omega)) (by unfold inN; simp; omega)⟩
                      case measure => simp [intOf]; omega
                    · obtain rfl : i = B + 1 := by omega
                      have hlti : ¬ ((B + 1 : Nat) : Int) ≤ (B : Int) := by omega
                      have ZF := Lib.hid (zi.congr (fun i _ => by rw [inN_end]))
                      clear zi ZI
                      go_wp2_with fail
                      go_roundw
                      case rel =>
                        obtain ⟨hlr, m', hm', hmm⟩ := ST.out.2 _ _ HF.out
                        have h1 := drop_len HL1.out
                        have h2 := drop_len HD4.out
                        exact Lib.hid ⟨n + 1, k3, 0, _, by have := HN.out; go_num, ZF.out, by have := HKL2.out; omega, .inl ⟨rfl, HKL2.out, by have := HB.out; have := HKL2.out; omega, .inr ⟨by omega, m', by rw [HD4.out]; exact hm', by rw [HD4.out]; exact hmm⟩⟩⟩
                      case measure =>
                        obtain ⟨hlr, m', hm', hmm⟩ := ST.out.2 _ _ HF.out
                        have h1 := drop_len HL1.out
                        have h2 := drop_len HD4.out
                        rw [MS.out, rms_rr ZF.out.rr]
                        have := HB.out
                        first | omega | (simp; omega)
    · have OE := Lib.hid (show OutR R X L (k1 + 1) 27 from .inr ⟨hRn, rfl⟩)
      have c1 := hz.rr.c1
      have f1 := hz.rr.f1
      have hk1b : k1 ≤ 5000 := by omega
      have HKE := Lib.hid (show k1 + 1 ≤ L.length + 6 by omega)
      have ZE := Lib.hid hz.setK
      clear hz hn hRn hk1
      go_wp2_with fail
      go_loopw [9] (fun v9 wr => Hid (C3Rel false w q L d h (k1 + 1) 27 X v9 wr)) (fun v9 _ => 256 - (intOf v9).toNat)
      case atStart => exact Lib.hid ⟨0, rfl, by omega, fun _ => rfl, ZE.out.congr (fun i _ => by unfold flN; simp)⟩
      case round =>
        obtain ⟨j, rfl, hj, hjn, zj⟩ := hrel.out
        have ZJ := Lib.hid zj
        clear hrel
        obtain ⟨⟨z0, z1, z2⟩, zf0, zf1, zf2⟩ := zj.n0.cells
        obtain ⟨⟨x0, x1, x2⟩, xf0, xf1, xf2⟩ := zj.n2.cells
        obtain rfl : j = 0 := hjn rfl
        clear zj
        go_wp2_with fail
        have ZF := Lib.hid (ZJ.out.congr (Y := X) (fun i hi => by unfold flN; simp))
        refine bodyPost_ret (v := .agg #[.string byteB, .slice (some ⟨h + 1, 0, none⟩) 256 256, nvo]) (by simp [results, Tryd.results72, go_sem, z0, z1, z2]) rfl ⟨X, h + 1, k1 + 1, 27, rfl, by have := ZF.out.hs; omega, ?_, HKE.out, ⟨?_, ?_⟩, OE.out⟩
        · exact ((ZF.out.hb.other (a := ⟨h, 0, none⟩) (by simp) _).other (a := ⟨h, 1, none⟩) (by simp) _).other (a := ⟨h, 2, none⟩) (by simp) _
        · have hq := ZF.out.hq
          exact ((ZF.out.rr.other (a := ⟨h, 0, none⟩) (by show q ≠ h; omega) _).other (a := ⟨h, 1, none⟩) (by show q ≠ h; omega) _).other (a := ⟨h, 2, none⟩) (by show q ≠ h; omega) _
        · exact ((ZF.out.go.other (a := ⟨h, 0, none⟩) ZF.out.hs _).other (a := ⟨h, 1, none⟩) ZF.out.hs _).other (a := ⟨h, 2, none⟩) ZF.out.hs _
set_option maxHeartbeats 4000000 in
set_option maxRecDepth 100000 in
theorem rclass_true (q : Nat) (L l : List UInt8) (k d : Nat) (w : World) (p : Rr w q L k d 0) (hl : L.drop k = l) (hL : L.length ≤ 1000) (hk : k ≤ L.length + 1) (hnt : hd 94 l = true) :
    Calls Tryd.prog 72 #[.pointer (some ⟨q, 0, none⟩)] w fun y w' => RclP (classF l) w q L d y w' := by
  have hmk := mk256
  obtain ⟨h, hh⟩ : ∃ h, w.heap.size = h := ⟨_, rfl⟩
  obtain ⟨W0, hW0⟩ : ∃ W0, w.alloc (.cells #[.string ⟨#[]⟩, nvo, nvo] 60 (0, 0)) = W0 := ⟨_, rfl⟩
  obtain ⟨W1, hW1⟩ : ∃ W1, W0.alloc (.cells (Array.replicate 256 (.bool false)) 4) = W1 := ⟨_, rfl⟩
  have s0 : W0.heap.size = h + 1 := by rw [← hW0, ← hh]; simp
  have s1 : W1.heap.size = h + 1 + 1 := by rw [← hW1]; simp [s0]
  have n0 : Nb W0 h ⟨#[]⟩ nvo nvo := hh ▸ hW0 ▸ Nb.new w _ _ _
  have b1 : Hb W1 (h + 1) noX := s0 ▸ hW1 ▸ Hb.new W0
  have B01 : Below W0.heap.size W0 W1 := hW1 ▸ (Below.refl _ _).alloc (Nat.le_refl _) _
  have B0 : Below w.heap.size w W0 := hW0 ▸ (Below.refl _ _).alloc (Nat.le_refl _) _
  have B1 := B0.trans (B01.mono B0.size)
  obtain ⟨W2, hW2⟩ : ∃ W2, W1.alloc (.cells #[.string byteB, .slice (some ⟨h + 1, 0, none⟩) 256 256, nvo] 60 (0, 0)) = W2 := ⟨_, rfl⟩
  have B12 : Below W1.heap.size W1 W2 := hW2 ▸ (Below.refl _ _).alloc (Nat.le_refl _) _
  have B2 := B1.trans (B12.mono B1.size)
  have Z0 := Lib.hid (show CxS w q L d h k 0 noX W2 from ⟨p.below B2, b1.below B12, (n0.below B01).below B12, (show h + 1 + 1 = h + 2 from rfl) ▸ s1 ▸ hW2 ▸ Nb.new W1 _ _ _, Go1.of_below B2, hh ▸ p.qw, by omega⟩)
  have HW2 := Lib.hid hW2
  have HKL := Lib.hid hk
  have hk9 : k ≤ 5000 := by omega
  obtain ⟨R, hR⟩ : ∃ R, insF (l.drop 1) = R := ⟨_, rfl⟩
  have hcl : classF l = notO R := by rw [rcl_not hnt, hR]
  rw [hcl]
  have HR := Lib.hid hR
  have HNX := Lib.hid (show nxF L k = 94 from (nx_yes hl hnt).1)
  have HLK := Lib.hid (nx_yes hl hnt).2
  unfold nvo at hW0
  clear b1 n0 B01 B0 B1 B2 B12 hW2 p hk hR hcl hnt hl
  go_enter Tryd.func72, Tryd.ntmps72
  go_wp2_with fail
  have h2 := HW2.out
  unfold byteB nvo at h2
  rw [h2]
  clear h2 hmk hW0 hW1 hh s0 s1
  refine (rnext_any _ _ _ _ _ _ Z0.out.rr hL (by omega)).mono ?_
  rw [HNX.out]
  rintro y w1 ⟨rfl, ho⟩
  have c1 := ho.1.c1
  have f1 := ho.1.f1
  have R0 := Lib.hid (show ClR R w q L d h (.int .i64 0) (w1.setCell ⟨q, 1, none⟩ (.int .i64 ((k : Int) + 1))) from ⟨0, k + 1, 0, noX, rfl, (Z0.out.ro ho).setK, by have := HLK.out.2; omega, .inl ⟨rfl, by have := HLK.out.2; omega, by omega, .inl ⟨rfl, rfl, by rw [HLK.out.1]; exact HR.out⟩⟩⟩)
  clear ho
  go_wp2_with fail
  clear c1 f1
  go_loopw [5] (fun v5 wr => Hid (ClR R w q L d h v5 wr)) (fun _ wr => rms q wr)
  case atStart => exact R0
  case round =>
    clear R0
    obtain ⟨n, k1, e, X, rfl, hz, hk1, hx⟩ := hrel.out
    have Z := Lib.hid hz
    have c3 := hz.rr.c3
    clear hrel
    rcases hx with ⟨rfl, hk2, hnk, hx⟩ | ⟨rfl, hn, hRn⟩
    · have MS := Lib.hid (rms_rr hz.rr)
      obtain ⟨l1, hl1⟩ : ∃ l1, L.drop k1 = l1 := ⟨_, rfl⟩
      rw [hl1] at hx
      have HB := Lib.hid (And.intro hk2 hnk)
      have HL1 := Lib.hid hl1
      have hk1b : k1 ≤ 5000 := by omega
      clear hk1 hk2 hnk hz
      rcases hx with ⟨rfl, rfl, hi⟩ | ⟨hn0, m, hc, hm⟩
      · have ST := Lib.hid (stp_first hi)
        have HN := Lib.hid (show (0 : Nat) ≤ 1500 by omega)
        clear hi hl1
        go_wp2_with fail
        refine (ritem_any _ _ l1 _ _ _ Z.out.rr HL1.out hL (by omega)).mono ?_
        cases hm1 : memF l1 with
        | none =>
          rintro y w4 ⟨rfl, k2, hk2, ho⟩
          have Z4 := Lib.hid (Z.out.ro ho)
          have c3 := ho.1.c3
          have HD := Lib.hid (show R = none from ST.out.1 (itemF_n1 hm1))
          have HK2 := Lib.hid hk2
          clear ho hk2 hm1
          go_wp2_with fail
          go_loopw [8] (fun v8 wr => wr = w4 ∧ v8 = .int .i64 0) (fun _ _ => 0)
          case atStart => exact ⟨rfl, rfl⟩
          case round =>
            obtain ⟨rfl, rfl⟩ := hrel
            go_wp2_with fail
            go_roundw
            case rel => exact Lib.hid (ClR.dead (n := 0) Z4.out (by have := HK2.out; have := HB.out; omega) (by have := HN.out; omega) _ (by have := HN.out; first | rfl | go_num) HD.out)
            case measure => rw [MS.out, rms_rr Z4.out.rr]; have := HB.out; first | omega | (simp; omega)
        | some m1 =>
          obtain ⟨a, l2⟩ := m1
          rintro y w4 ⟨rfl, k2, hd2, hk2, ho⟩
          have hd2 : L.drop k2 = l2 := hd2
          have Z4 := Lib.hid (Z.out.ro ho)
          have c3 := ho.1.c3
          have HM := Lib.hid hm1
          have HD2 := Lib.hid hd2
          have hlen := memF_len hm1
          have HK2 := Lib.hid (show k1 < L.length ∧ k2 ≤ k1 + 2 by
            have h1 := drop_len HL1.out
            exact ⟨by omega, hk2⟩)
          have hk2b : k2 ≤ 6000 := by omega
          have ha := a.toNat_lt
          clear ho hm1 hk2 hlen
          obtain ⟨A, hA⟩ : ∃ A, a.toNat = A := ⟨_, rfl⟩
          rw [hA] at ha ⊢
          have HA := Lib.hid hA
          clear hA
          cases h45 : hd 45 l2 with
          | false =>
            have hne := nx_no hd2 h45
            have HT := Lib.hid (toF_no (a := a) h45)
            obtain ⟨z, hz⟩ : ∃ z, nxF L k2 = z := ⟨_, rfl⟩
            rw [hz] at hne
            have hzb : (z == 45) = false := z_no 45 hne
            have HZ2 := Lib.hid hz
            clear hd2 h45 hz hne
            go_wp2_with fail
            refine (rnext_any _ _ _ _ _ _ Z4.out.rr hL (by omega)).mono ?_
            rw [HZ2.out]
            rintro y w5 ⟨rfl, ho⟩
            have Z5 := Lib.hid (Z4.out.ro ho)
            have c3 := ho.1.c3
            have hlt : ¬ (A : Int) < (A : Int) := by omega
            have HNB := Lib.hid (show ¬ a.toNat < a.toNat by omega)
            clear ho
            go_wp2_with fail
            clear hzb hlt
            have HF := Lib.hid (show itemF noX l1 = some (withX noX A A, l2) by rw [itemF_ok HM.out HT.out HNB.out, HA.out])
            have HKL2 := Lib.hid (show k2 ≤ L.length + 2 by have := HK2.out; omega)
            go_loopw [8] (fun v8 wr => Hid (C2Rel w q L d h k2 A A noX v8 wr)) (fun v8 _ => 300 - (intOf v8).toNat)
            case atStart => exact Lib.hid ⟨A, rfl, by omega, by omega, Z5.out.congr (fun i _ => by rw [inN_start])⟩
            case round =>
              obtain ⟨i, rfl, hi1, hi2, zi⟩ := hrel.out
              have ZI := Lib.hid zi
              have c3 := zi.rr.c3
              clear hrel
              by_cases hlt : i ≤ A
              · have hlti : (i : Int) ≤ (A : Int) := by omega
                have hi256 : i < 256 := by omega
                have hik : (i : Int) < 256 := by omega
                have q1 := zi.hb.c i hi256
                have qf := zi.hb.f i
                obtain ⟨⟨x0, x1, x2⟩, xf0, xf1, xf2⟩ := zi.n2.cells
                clear zi
                go_wp2_with fail
                go_roundw
                case rel => exact Lib.hid ⟨i + 1, by go_num, by omega, by omega, ZI.out.put i hi256 true (fun j _ hj => by
                  unfold inN
                  congr 2
                  exact decide_eq_decide.2 (by omega)) (by unfold inN; simp; omega)⟩
                case measure => simp [intOf]; omega
              · obtain rfl : i = A + 1 := by omega
                have hlti : ¬ ((A + 1 : Nat) : Int) ≤ (A : Int) := by omega
                have ZF := Lib.hid (zi.congr (fun i _ => by rw [inN_end]))
                clear zi ZI
                go_wp2_with fail
                go_roundw
                case rel =>
                  obtain ⟨hlr, m', hm', hmm⟩ := ST.out.2 _ _ HF.out
                  have h1 := drop_len HL1.out
                  have h2 := drop_len HD2.out
                  exact Lib.hid ⟨0 + 1, k2, 0, _, by have := HN.out; go_num, ZF.out, by have := HKL2.out; omega, .inl ⟨rfl, HKL2.out, by have := HB.out; have := HKL2.out; omega, .inr ⟨by omega, m', by rw [HD2.out]; exact hm', by rw [HD2.out]; exact hmm⟩⟩⟩
                case measure =>
                  obtain ⟨hlr, m', hm', hmm⟩ := ST.out.2 _ _ HF.out
                  have h1 := drop_len HL1.out
                  have h2 := drop_len HD2.out
                  rw [MS.out, rms_rr ZF.out.rr]
                  have := HB.out
                  first | omega | (simp; omega)

          | true =>
            have hnx : nxF L k2 = 45 := (nx_yes hd2 h45).1
            have HZ2 := Lib.hid hnx
            have HD3 := Lib.hid (nx_yes hd2 h45).2.1
            have HT := Lib.hid (toF_yes (a := a) h45)
            clear hd2 h45 hnx
            go_wp2_with fail
            refine (rnext_any _ _ _ _ _ _ Z4.out.rr hL (by omega)).mono ?_
            rw [HZ2.out]
            rintro y w5 ⟨rfl, ho⟩
            have c1 := ho.1.c1
            have f1 := ho.1.f1
            have Z5 := Lib.hid (Z4.out.ro ho).setK
            clear ho
            go_wp2_with fail
            clear c1 f1
            refine (ritem_any _ _ (l2.drop 1) _ _ _ Z5.out.rr HD3.out hL (by omega)).mono ?_
            cases hm3 : memF (l2.drop 1) with
            | none =>
              rintro y w6 ⟨rfl, k3, hk3, ho⟩
              have Z6 := Lib.hid (Z5.out.ro ho)
              have c3 := ho.1.c3
              have HD := Lib.hid (show R = none from ST.out.1 (itemF_n2 HM.out (HT.out.trans hm3)))
              have HK3 := Lib.hid hk3
              clear ho hk3 hm3
              go_wp2_with fail
              go_loopw [8] (fun v8 wr => wr = w6 ∧ v8 = .int .i64 (A : Int)) (fun _ _ => 0)
              case atStart => exact ⟨rfl, rfl⟩
              case round =>
                obtain ⟨rfl, rfl⟩ := hrel
                by_cases hA0 : (A : Int) ≤ 0
                all_goals
                  go_wp2_with fail
                  go_roundw
                  case rel => exact Lib.hid (ClR.dead (n := 0) Z6.out (by have := HK2.out; have := HK3.out; omega) (by have := HN.out; omega) _ (by have := HN.out; first | rfl | go_num) HD.out)
                  case measure => rw [MS.out, rms_rr Z6.out.rr]; have := HB.out; first | omega | (simp; omega)
            | some m3 =>
              obtain ⟨b, l3⟩ := m3
              rintro y w6 ⟨rfl, k3, hd3, hk3, ho⟩
              have hd3 : L.drop k3 = l3 := hd3
              have Z6 := Lib.hid (Z5.out.ro ho)
              have c3 := ho.1.c3
              have HT2 := Lib.hid (HT.out.trans hm3)
              have HD4 := Lib.hid hd3
              have hlen := memF_len hm3
              have HK3 := Lib.hid (show k3 ≤ L.length + 2 by
                have h1 := drop_len HD3.out
                have h2 : k2 + 1 < L.length := by omega
                omega)
              have hb := b.toNat_lt
              clear ho hm3 hk3 hlen hd3
              obtain ⟨B, hB⟩ : ∃ B, b.toNat = B := ⟨_, rfl⟩
              rw [hB] at hb ⊢
              have HBB := Lib.hid hB
              clear hB
              by_cases hlt : (B : Int) < (A : Int)
              · have HD := Lib.hid (show R = none from ST.out.1 (itemF_lt HM.out HT2.out (by rw [HBB.out, HA.out]; omega)))
                have hle : ¬ (A : Int) ≤ (B : Int) := by omega
                go_wp2_with fail
                refine (rwrong_any _ _ _ _ _ 27 _ Z6.out.rr).mono ?_
                rintro y w7 ⟨rfl, ho⟩
                have ho : RO w6 q L k3 d 27 w7 := ho
                have Z7 := Lib.hid (Z6.out.ro ho)
                clear ho
                go_wp2_with fail
                go_loopw [8] (fun v8 wr => wr = w7 ∧ v8 = .int .i64 (A : Int)) (fun _ _ => 0)
                case atStart => exact ⟨rfl, rfl⟩
                case round =>
                  obtain ⟨rfl, rfl⟩ := hrel
                  go_wp2_with fail
                  go_roundw
                  case rel => exact Lib.hid (ClR.dead (n := 0) Z7.out (by have := HK3.out; omega) (by have := HN.out; omega) _ (by have := HN.out; first | rfl | go_num) HD.out)
                  case measure => rw [MS.out, rms_rr Z7.out.rr]; have := HB.out; first | omega | (simp; omega)
              · go_wp2_with fail
                have HF := Lib.hid (show itemF noX l1 = some (withX noX A B, l3) by rw [itemF_ok HM.out HT2.out (by rw [HBB.out, HA.out]; omega), HBB.out, HA.out])
                clear hlt
                have HKL2 := Lib.hid (show k3 ≤ L.length + 2 by exact HK3.out)
                go_loopw [8] (fun v8 wr => Hid (C2Rel w q L d h k3 A B noX v8 wr)) (fun v8 _ => 300 - (intOf v8).toNat)
                case atStart => exact Lib.hid ⟨A, rfl, by omega, by omega, Z6.out.congr (fun i _ => by rw [inN_start])⟩
                case round =>
                  obtain ⟨i, rfl, hi1, hi2, zi⟩ := hrel.out
                  have ZI := Lib.hid zi
                  have c3 := zi.rr.c3
                  clear hrel
                  by_cases hlt : i ≤ B
                  · have hlti : (i : Int) ≤ (B : Int) := by omega
                    have hi256 : i < 256 := by omega
                    have hik : (i : Int) < 256 := by omega
                    have q1 := zi.hb.c i hi256
                    have qf := zi.hb.f i
                    obtain ⟨⟨x0, x1, x2⟩, xf0, xf1, xf2⟩ := zi.n2.cells
                    clear zi
                    go_wp2_with fail
                    go_roundw
                    case rel => exact Lib.hid ⟨i + 1, by go_num, by omega, by omega, ZI.out.put i hi256 true (fun j _ hj => by
                      unfold inN
                      congr 2
                      exact decide_eq_decide.2 (by omega)) (by unfold inN; simp; omega)⟩
                    case measure => simp [intOf]; omega
                  · obtain rfl : i = B + 1 := by omega
                    have hlti : ¬ ((B + 1 : Nat) : Int) ≤ (B : Int) := by omega
                    have ZF := Lib.hid (zi.congr (fun i _ => by rw [inN_end]))
                    clear zi ZI
                    go_wp2_with fail
                    go_roundw
                    case rel =>
                      obtain ⟨hlr, m', hm', hmm⟩ := ST.out.2 _ _ HF.out
                      have h1 := drop_len HL1.out
                      have h2 := drop_len HD4.out
                      exact Lib.hid ⟨0 + 1, k3, 0, _, by have := HN.out; go_num, ZF.out, by have := HKL2.out; omega, .inl ⟨rfl, HKL2.out, by have := HB.out; have := HKL2.out; omega, .inr ⟨by omega, m', by rw [HD4.out]; exact hm', by rw [HD4.out]; exact hmm⟩⟩⟩
                    case measure =>
                      obtain ⟨hlr, m', hm', hmm⟩ := ST.out.2 _ _ HF.out
                      have h1 := drop_len HL1.out
                      have h2 := drop_len HD4.out
                      rw [MS.out, rms_rr ZF.out.rr]
                      have := HB.out
                      first | omega | (simp; omega)
      · have hnb : ((n : Int) == 0) = false := by simp; omega
        have HN := Lib.hid (show n ≤ 1500 by have := HB.out; omega)
        have hn15 : n ≤ 1500 := HN.out
        cases h93 : hd 93 l1 with
        | true =>
          have NX := Lib.hid (show nxF L k1 = 93 from (nx_yes hl1 h93).1)
          have OE := Lib.hid (show OutR R X L (k1 + 1) 0 from .inl ⟨l1.drop 1, by rw [← hc, clsF_end hm h93], rfl, (nx_yes hl1 h93).2.1, by have := (nx_yes hl1 h93).2.2; omega⟩)
          have HKE := Lib.hid (show k1 + 1 ≤ L.length + 6 by have := (nx_yes hl1 h93).2.2; omega)
          clear hc hm hl1 h93 hn0
          go_wp2_with fail
          refine (rnext_any _ _ _ _ _ _ Z.out.rr hL (by omega)).mono ?_
          rw [NX.out]
          rintro y w2 ⟨rfl, ho⟩
          have Z2 := Lib.hid (Z.out.ro ho)
          have c3 := ho.1.c3
          clear ho
          go_wp2_with fail
          refine (rnext_any _ _ _ _ _ _ Z2.out.rr hL (by omega)).mono ?_
          rw [NX.out]
          rintro y w3 ⟨rfl, ho⟩
          have c1 := ho.1.c1
          have f1 := ho.1.f1
          have ZE := Lib.hid (Z2.out.ro ho).setK
          clear ho c3
          go_wp2_with fail
          go_loopw [9] (fun v9 wr => Hid (C3Rel true w q L d h (k1 + 1) 0 X v9 wr)) (fun v9 _ => 256 - (intOf v9).toNat)
          case atStart => exact Lib.hid ⟨0, rfl, by omega, fun _ => rfl, ZE.out.congr (fun i _ => by unfold flN; simp)⟩
          case round =>
            obtain ⟨j, rfl, hj, hjn, zj⟩ := hrel.out
            have ZJ := Lib.hid zj
            clear hrel
            obtain ⟨⟨z0, z1, z2⟩, zf0, zf1, zf2⟩ := zj.n0.cells
            obtain ⟨⟨x0, x1, x2⟩, xf0, xf1, xf2⟩ := zj.n2.cells
            by_cases hlt : j < 256
            · have hji : (j : Int) < 256 := by omega
              have q1 := zj.hb.c j hlt
              have qf := zj.hb.f j
              have HX := Lib.hid (show flN X j j = X j by unfold flN; simp)
              clear zj
              rw [HX.out] at q1
              go_wp2_with fail
              go_region
              go_wp2_with fail
              go_roundw
              case rel => exact Lib.hid ⟨j + 1, by go_num, by omega, fun e => (by cases e), ZJ.out.drew.put j hlt _ (fun i _ hi => by
                unfold flN
                by_cases h1 : i < j
                · rw [if_pos h1, if_pos (by omega)]
                · rw [if_neg h1, if_neg (by omega)]) (by unfold flN; simp)⟩
              case measure => simp [intOf]; omega
            · obtain rfl : j = 256 := by omega
              have hji : ¬ ((256 : Nat) : Int) < 256 := by omega
              clear zj
              go_wp2_with fail
              have ZF := Lib.hid (ZJ.out.congr (Y := notX X) (fun i hi => by unfold flN; simp [notX, hi]))
              refine bodyPost_ret (v := .agg #[.string byteB, .slice (some ⟨h + 1, 0, none⟩) 256 256, nvo]) (by simp [results, Tryd.results72, go_sem, z0, z1, z2]) rfl ⟨notX X, h + 1, k1 + 1, 0, rfl, by have := ZF.out.hs; omega, ?_, HKE.out, ⟨?_, ?_⟩, OE.out.neg⟩
              · exact ((ZF.out.hb.other (a := ⟨h, 0, none⟩) (by simp) _).other (a := ⟨h, 1, none⟩) (by simp) _).other (a := ⟨h, 2, none⟩) (by simp) _
              · have hq := ZF.out.hq
                exact ((ZF.out.rr.other (a := ⟨h, 0, none⟩) (by show q ≠ h; omega) _).other (a := ⟨h, 1, none⟩) (by show q ≠ h; omega) _).other (a := ⟨h, 2, none⟩) (by show q ≠ h; omega) _
              · exact ((ZF.out.go.other (a := ⟨h, 0, none⟩) ZF.out.hs _).other (a := ⟨h, 1, none⟩) ZF.out.hs _).other (a := ⟨h, 2, none⟩) ZF.out.hs _
        | false =>
          have ST := Lib.hid (stp_on hc hm h93)
          have hne := nx_no hl1 h93
          obtain ⟨z, hz⟩ : ∃ z, nxF L k1 = z := ⟨_, rfl⟩
          rw [hz] at hne
          have hzb : (z == 93) = false := z_no 93 hne
          have hzn : (z != 93) = true := z_ne 93 hne
          have HZ := Lib.hid hz
          clear hc hm hl1 h93 hn0 hz hne
          go_wp2_with fail
          refine (rnext_any _ _ _ _ _ _ Z.out.rr hL (by omega)).mono ?_
          rw [HZ.out]
          rintro y w2 ⟨rfl, ho⟩
          have Zn := Lib.hid (Z.out.ro ho)
          clear ho c3 Z
          have Z := Zn
          clear Zn
          go_wp2_with fail
          clear hnb hzb hzn
          refine (ritem_any _ _ l1 _ _ _ Z.out.rr HL1.out hL (by omega)).mono ?_
          cases hm1 : memF l1 with
          | none =>
            rintro y w4 ⟨rfl, k2, hk2, ho⟩
            have Z4 := Lib.hid (Z.out.ro ho)
            have c3 := ho.1.c3
            have HD := Lib.hid (show R = none from ST.out.1 (itemF_n1 hm1))
            have HK2 := Lib.hid hk2
            clear ho hk2 hm1
            go_wp2_with fail
            go_loopw [8] (fun v8 wr => wr = w4 ∧ v8 = .int .i64 0) (fun _ _ => 0)
            case atStart => exact ⟨rfl, rfl⟩
            case round =>
              obtain ⟨rfl, rfl⟩ := hrel
              go_wp2_with fail
              go_roundw
              case rel => exact Lib.hid (ClR.dead (n := n) Z4.out (by have := HK2.out; have := HB.out; omega) (by have := HN.out; omega) _ (by have := HN.out; first | rfl | go_num) HD.out)
              case measure => rw [MS.out, rms_rr Z4.out.rr]; have := HB.out; first | omega | (simp; omega)
          | some m1 =>
            obtain ⟨a, l2⟩ := m1
            rintro y w4 ⟨rfl, k2, hd2, hk2, ho⟩
            have hd2 : L.drop k2 = l2 := hd2
            have Z4 := Lib.hid (Z.out.ro ho)
            have c3 := ho.1.c3
            have HM := Lib.hid hm1
            have HD2 := Lib.hid hd2
            have hlen := memF_len hm1
            have HK2 := Lib.hid (show k1 < L.length ∧ k2 ≤ k1 + 2 by
              have h1 := drop_len HL1.out
              exact ⟨by omega, hk2⟩)
            have hk2b : k2 ≤ 6000 := by omega
            have ha := a.toNat_lt
            clear ho hm1 hk2 hlen
            obtain ⟨A, hA⟩ : ∃ A, a.toNat = A := ⟨_, rfl⟩
            rw [hA] at ha ⊢
            have HA := Lib.hid hA
            clear hA
            cases h45 : hd 45 l2 with
            | false =>
              have hne := nx_no hd2 h45
              have HT := Lib.hid (toF_no (a := a) h45)
              obtain ⟨z, hz⟩ : ∃ z, nxF L k2 = z := ⟨_, rfl⟩
              rw [hz] at hne
              have hzb : (z == 45) = false := z_no 45 hne
              have HZ2 := Lib.hid hz
              clear hd2 h45 hz hne
              go_wp2_with fail
              refine (rnext_any _ _ _ _ _ _ Z4.out.rr hL (by omega)).mono ?_
              rw [HZ2.out]
              rintro y w5 ⟨rfl, ho⟩
              have Z5 := Lib.hid (Z4.out.ro ho)
              have c3 := ho.1.c3
              have hlt : ¬ (A : Int) < (A : Int) := by omega
              have HNB := Lib.hid (show ¬ a.toNat < a.toNat by omega)
              clear ho
              go_wp2_with fail
              clear hzb hlt
              have HF := Lib.hid (show itemF X l1 = some (withX X A A, l2) by rw [itemF_ok HM.out HT.out HNB.out, HA.out])
              have HKL2 := Lib.hid (show k2 ≤ L.length + 2 by have := HK2.out; omega)
              go_loopw [8] (fun v8 wr => Hid (C2Rel w q L d h k2 A A X v8 wr)) (fun v8 _ => 300 - (intOf v8).toNat)
              case atStart => exact Lib.hid ⟨A, rfl, by omega, by omega, Z5.out.congr (fun i _ => by rw [inN_start])⟩
              case round =>
                obtain ⟨i, rfl, hi1, hi2, zi⟩ := hrel.out
                have ZI := Lib.hid zi
                have c3 := zi.rr.c3
                clear hrel
                by_cases hlt : i ≤ A
                · have hlti : (i : Int) ≤ (A : Int) := by omega
                  have hi256 : i < 256 := by omega
                  have hik : (i : Int) < 256 := by omega
                  have q1 := zi.hb.c i hi256
                  have qf := zi.hb.f i
                  obtain ⟨⟨x0, x1, x2⟩, xf0, xf1, xf2⟩ := zi.n2.cells
                  clear zi
                  go_wp2_with fail
                  go_roundw
                  case rel => exact Lib.hid ⟨i + 1, by go_num, by omega, by omega, ZI.out.put i hi256 true (fun j _ hj => by
                    unfold inN
                    congr 2
                    exact decide_eq_decide.2 (by omega)) (by unfold inN; simp; omega)⟩
                  case measure => simp [intOf]; omega
                · obtain rfl : i = A + 1 := by omega
                  have hlti : ¬ ((A + 1 : Nat) : Int) ≤ (A : Int) := by omega
                  have ZF := Lib.hid (zi.congr (fun i _ => by rw [inN_end]))
                  clear zi ZI
                  go_wp2_with fail
                  go_roundw
                  case rel =>
                    obtain ⟨hlr, m', hm', hmm⟩ := ST.out.2 _ _ HF.out
                    have h1 := drop_len HL1.out
                    have h2 := drop_len HD2.out
                    exact Lib.hid ⟨n + 1, k2, 0, _, by have := HN.out; go_num, ZF.out, by have := HKL2.out; omega, .inl ⟨rfl, HKL2.out, by have := HB.out; have := HKL2.out; omega, .inr ⟨by omega, m', by rw [HD2.out]; exact hm', by rw [HD2.out]; exact hmm⟩⟩⟩
                  case measure =>
                    obtain ⟨hlr, m', hm', hmm⟩ := ST.out.2 _ _ HF.out
                    have h1 := drop_len HL1.out
                    have h2 := drop_len HD2.out
                    rw [MS.out, rms_rr ZF.out.rr]
                    have := HB.out
                    first | omega | (simp; omega)

            | true =>
              have hnx : nxF L k2 = 45 := (nx_yes hd2 h45).1
              have HZ2 := Lib.hid hnx
              have HD3 := Lib.hid (nx_yes hd2 h45).2.1
              have HT := Lib.hid (toF_yes (a := a) h45)
              clear hd2 h45 hnx
              go_wp2_with fail
              refine (rnext_any _ _ _ _ _ _ Z4.out.rr hL (by omega)).mono ?_
              rw [HZ2.out]
              rintro y w5 ⟨rfl, ho⟩
              have c1 := ho.1.c1
              have f1 := ho.1.f1
              have Z5 := Lib.hid (Z4.out.ro ho).setK
              clear ho
              go_wp2_with fail
              clear c1 f1
              refine (ritem_any _ _ (l2.drop 1) _ _ _ Z5.out.rr HD3.out hL (by omega)).mono ?_
              cases hm3 : memF (l2.drop 1) with
              | none =>
                rintro y w6 ⟨rfl, k3, hk3, ho⟩
                have Z6 := Lib.hid (Z5.out.ro ho)
                have c3 := ho.1.c3
                have HD := Lib.hid (show R = none from ST.out.1 (itemF_n2 HM.out (HT.out.trans hm3)))
                have HK3 := Lib.hid hk3
                clear ho hk3 hm3
                go_wp2_with fail
                go_loopw [8] (fun v8 wr => wr = w6 ∧ v8 = .int .i64 (A : Int)) (fun _ _ => 0)
                case atStart => exact ⟨rfl, rfl⟩
                case round =>
                  obtain ⟨rfl, rfl⟩ := hrel
                  by_cases hA0 : (A : Int) ≤ 0
                  all_goals
                    go_wp2_with fail
                    go_roundw
                    case rel => exact Lib.hid (ClR.dead (n := n) Z6.out (by have := HK2.out; have := HK3.out; omega) (by have := HN.out; omega) _ (by have := HN.out; first | rfl | go_num) HD.out)
                    case measure => rw [MS.out, rms_rr Z6.out.rr]; have := HB.out; first | omega | (simp; omega)
              | some m3 =>
                obtain ⟨b, l3⟩ := m3
                rintro y w6 ⟨rfl, k3, hd3, hk3, ho⟩
                have hd3 : L.drop k3 = l3 := hd3
                have Z6 := Lib.hid (Z5.out.ro ho)
                have c3 := ho.1.c3
                have HT2 := Lib.hid (HT.out.trans hm3)
                have HD4 := Lib.hid hd3
                have hlen := memF_len hm3
                have HK3 := Lib.hid (show k3 ≤ L.length + 2 by
                  have h1 := drop_len HD3.out
                  have h2 : k2 + 1 < L.length := by omega
                  omega)
                have hb := b.toNat_lt
                clear ho hm3 hk3 hlen hd3
                obtain ⟨B, hB⟩ : ∃ B, b.toNat = B := ⟨_, rfl⟩
                rw [hB] at hb ⊢
                have HBB := Lib.hid hB
                clear hB
                by_cases hlt : (B : Int) < (A : Int)
                · have HD := Lib.hid (show R = none from ST.out.1 (itemF_lt HM.out HT2.out (by rw [HBB.out, HA.out]; omega)))
                  have hle : ¬ (A : Int) ≤ (B : Int) := by omega
                  go_wp2_with fail
                  refine (rwrong_any _ _ _ _ _ 27 _ Z6.out.rr).mono ?_
                  rintro y w7 ⟨rfl, ho⟩
                  have ho : RO w6 q L k3 d 27 w7 := ho
                  have Z7 := Lib.hid (Z6.out.ro ho)
                  clear ho
                  go_wp2_with fail
                  go_loopw [8] (fun v8 wr => wr = w7 ∧ v8 = .int .i64 (A : Int)) (fun _ _ => 0)
                  case atStart => exact ⟨rfl, rfl⟩
                  case round =>
                    obtain ⟨rfl, rfl⟩ := hrel
                    go_wp2_with fail
                    go_roundw
                    case rel => exact Lib.hid (ClR.dead (n := n) Z7.out (by have := HK3.out; omega) (by have := HN.out; omega) _ (by have := HN.out; first | rfl | go_num) HD.out)
                    case measure => rw [MS.out, rms_rr Z7.out.rr]; have := HB.out; first | omega | (simp; omega)
                · go_wp2_with fail
                  have HF := Lib.hid (show itemF X l1 = some (withX X A B, l3) by rw [itemF_ok HM.out HT2.out (by rw [HBB.out, HA.out]; omega), HBB.out, HA.out])
                  clear hlt
                  have HKL2 := Lib.hid (show k3 ≤ L.length + 2 by exact HK3.out)
                  go_loopw [8] (fun v8 wr => Hid (C2Rel w q L d h k3 A B X v8 wr)) (fun v8 _ => 300 - (intOf v8).toNat)
                  case atStart => exact Lib.hid ⟨A, rfl, by omega, by omega, Z6.out.congr (fun i _ => by rw [inN_start])⟩
                  case round =>
                    obtain ⟨i, rfl, hi1, hi2, zi⟩ := hrel.out
                    have ZI := Lib.hid zi
                    have c3 := zi.rr.c3
                    clear hrel
                    by_cases hlt : i ≤ B
                    · have hlti : (i : Int) ≤ (B : Int) := by omega
                      have hi256 : i < 256 := by omega
                      have hik : (i : Int) < 256 := by omega
                      have q1 := zi.hb.c i hi256
                      have qf := zi.hb.f i
                      obtain ⟨⟨x0, x1, x2⟩, xf0, xf1, xf2⟩ := zi.n2.cells
                      clear zi
                      go_wp2_with fail
                      go_roundw
                      case rel => exact Lib.hid ⟨i + 1, by go_num, by omega, by omega, ZI.out.put i hi256 true (fun j _ hj => by
                        unfold inN
                        congr 2
                        exact decide_eq_decide.2 (by omega)) (by unfold inN; simp; omega)⟩
                      case measure => simp [intOf]; omega
                    · obtain rfl : i = B + 1 := by omega
                      have hlti : ¬ ((B + 1 : Nat) : Int) ≤ (B : Int) := by omega
                      have ZF := Lib.hid (zi.congr (fun i _ => by rw [inN_end]))
                      clear zi ZI
                      go_wp2_with fail
                      go_roundw
                      case rel =>
                        obtain ⟨hlr, m', hm', hmm⟩ := ST.out.2 _ _ HF.out
                        have h1 := drop_len HL1.out
                        have h2 := drop_len HD4.out
                        exact Lib.hid ⟨n + 1, k3, 0, _, by have := HN.out; go_num, ZF.out, by have := HKL2.out; omega, .inl ⟨rfl, HKL2.out, by have := HB.out; have := HKL2.out; omega, .inr ⟨by omega, m', by rw [HD4.out]; exact hm', by rw [HD4.out]; exact hmm⟩⟩⟩
                      case measure =>
                        obtain ⟨hlr, m', hm', hmm⟩ := ST.out.2 _ _ HF.out
                        have h1 := drop_len HL1.out
                        have h2 := drop_len HD4.out
                        rw [MS.out, rms_rr ZF.out.rr]
                        have := HB.out
                        first | omega | (simp; omega)
    · have OE := Lib.hid (show OutR R X L (k1 + 1) 27 from .inr ⟨hRn, rfl⟩)
      have c1 := hz.rr.c1
      have f1 := hz.rr.f1
      have hk1b : k1 ≤ 5000 := by omega
      have HKE := Lib.hid (show k1 + 1 ≤ L.length + 6 by omega)
      have ZE := Lib.hid hz.setK
      clear hz hn hRn hk1
      go_wp2_with fail
      go_loopw [9] (fun v9 wr => Hid (C3Rel true w q L d h (k1 + 1) 27 X v9 wr)) (fun v9 _ => 256 - (intOf v9).toNat)
      case atStart => exact Lib.hid ⟨0, rfl, by omega, fun _ => rfl, ZE.out.congr (fun i _ => by unfold flN; simp)⟩
      case round =>
        obtain ⟨j, rfl, hj, hjn, zj⟩ := hrel.out
        have ZJ := Lib.hid zj
        clear hrel
        obtain ⟨⟨z0, z1, z2⟩, zf0, zf1, zf2⟩ := zj.n0.cells
        obtain ⟨⟨x0, x1, x2⟩, xf0, xf1, xf2⟩ := zj.n2.cells
        by_cases hlt : j < 256
        · have hji : (j : Int) < 256 := by omega
          have q1 := zj.hb.c j hlt
          have qf := zj.hb.f j
          have HX := Lib.hid (show flN X j j = X j by unfold flN; simp)
          clear zj
          rw [HX.out] at q1
          go_wp2_with fail
          go_region
          go_wp2_with fail
          go_roundw
          case rel => exact Lib.hid ⟨j + 1, by go_num, by omega, fun e => (by cases e), ZJ.out.drew.put j hlt _ (fun i _ hi => by
            unfold flN
            by_cases h1 : i < j
            · rw [if_pos h1, if_pos (by omega)]
            · rw [if_neg h1, if_neg (by omega)]) (by unfold flN; simp)⟩
          case measure => simp [intOf]; omega
        · obtain rfl : j = 256 := by omega
          have hji : ¬ ((256 : Nat) : Int) < 256 := by omega
          clear zj
          go_wp2_with fail
          have ZF := Lib.hid (ZJ.out.congr (Y := notX X) (fun i hi => by unfold flN; simp [notX, hi]))
          refine bodyPost_ret (v := .agg #[.string byteB, .slice (some ⟨h + 1, 0, none⟩) 256 256, nvo]) (by simp [results, Tryd.results72, go_sem, z0, z1, z2]) rfl ⟨notX X, h + 1, k1 + 1, 27, rfl, by have := ZF.out.hs; omega, ?_, HKE.out, ⟨?_, ?_⟩, OE.out.neg⟩
          · exact ((ZF.out.hb.other (a := ⟨h, 0, none⟩) (by simp) _).other (a := ⟨h, 1, none⟩) (by simp) _).other (a := ⟨h, 2, none⟩) (by simp) _
          · have hq := ZF.out.hq
            exact ((ZF.out.rr.other (a := ⟨h, 0, none⟩) (by show q ≠ h; omega) _).other (a := ⟨h, 1, none⟩) (by show q ≠ h; omega) _).other (a := ⟨h, 2, none⟩) (by show q ≠ h; omega) _
          · exact ((ZF.out.go.other (a := ⟨h, 0, none⟩) ZF.out.hs _).other (a := ⟨h, 1, none⟩) ZF.out.hs _).other (a := ⟨h, 2, none⟩) ZF.out.hs _
theorem rclass_any (q : Nat) (L l : List UInt8) (k d : Nat) (w : World) (p : Rr w q L k d 0) (hl : L.drop k = l) (hL : L.length ≤ 1000) (hk : k ≤ L.length + 1) :
    Calls Tryd.prog 72 #[.pointer (some ⟨q, 0, none⟩)] w fun y w' => RclP (classF l) w q L d y w' := by
  cases h : hd 94 l with
  | true => exact rclass_true q L l k d w p hl hL hk h
  | false => exact rclass_false q L l k d w p hl hL hk h
end Go.Proofs.YtnabfganecghkaaDoor
