/- The contract of Indices. -/
import Derived.Test.YtnbjgeamdipkcaaSpR
import Derived.Test.YtnbjgeamdipkcaaSpA
namespace Go.Proofs.Ytnbjgeamdipkcaa
open Go.RowKit Go.Sort
set_option linter.unusedVariables false

/-- append(x, y): one number more -/
theorem own_form {w : World} {base : Nat} {e : TypeId} {size n c : Nat} {A : Option Addr} {xs : List Value} (h : w.ownsRow base e size (.slice A n c) n xs) : ∀ k, (Value.slice A n c).ownBlock = some k → base ≤ k := fun k hk => (h.lt k hk).1
theorem tot_at {s : List (Int × Int)} {k : Nat} {p : Int × Int} (h : s[k]? = some p) : tot (s.take (k + 1)) = tot (s.take k) + p.1 + p.2 := by
  rw [take_snoc s k p h, tot_snoc]
theorem indF_at {s : List (Int × Int)} {k : Nat} {p : Int × Int} {a : Int} (h : s[k]? = some p) : indF a (s.take (k + 1)) = indF a (s.take k) ++ rng (a + tot (s.take k) + p.1) p.2.toNat := by
  rw [take_snoc s k p h, indF_snoc]
theorem sum_pos {s : List (Int × Int)} (h : ∀ p ∈ s, 1 ≤ p.2) : 0 ≤ lens s := by
  induction s with
  | nil => simp [lens]
  | cons a r ih =>
    have h1 := h a (by simp)
    have h2 := ih (fun p hp => h p (by simp [hp]))
    simp only [lens]
    omega
theorem indF_length {s : List (Int × Int)} (a : Int) (h : ∀ p ∈ s, 1 ≤ p.2) : ((indF a s).length : Int) = lens s := by
  induction s generalizing a with
  | nil => rfl
  | cons p r ih =>
    have h1 := h p (by simp)
    have h2 := ih (a + p.1 + p.2) (fun q hq => h q (by simp [hq]))
    simp only [indF, lens, List.length_append, rng_length]
    omega
theorem lens_take {s : List (Int × Int)} (h : ∀ p ∈ s, 1 ≤ p.2) (k : Nat) : 0 ≤ lens (s.take k) ∧ lens (s.take k) ≤ lens s := by
  have e : lens s = lens (s.take k) + lens (s.drop k) := by rw [← lens_append, List.take_append_drop]
  have h1 := sum_pos (s := s.take k) (fun p hp => h p (List.mem_of_mem_take hp))
  have h2 := sum_pos (s := s.drop k) (fun p hp => h p (List.mem_of_mem_drop hp))
  omega
/-- bounds of what is reached: of indices within bounds -/
theorem reach_bd {l : List Int} (hi : Inb l) {k : Nat} {p : Int × Int} (h : (runsL l)[k]? = some p) : -262144 ≤ fstL l + tot ((runsL l).take k) + p.1 ∧ fstL l + tot ((runsL l).take k) + p.1 + p.2 ≤ 262145 ∧ 1 ≤ p.2 := by
  obtain ⟨t1, t2, t3, t4⟩ := runs_tell l
  have hp := t4 p (mem_of_at h)
  have hk : (runsL l).take (k + 1) ++ (runsL l).drop (k + 1) = runsL l := List.take_append_drop _ _
  have e : indF (fstL l) (runsL l) = indF (fstL l) ((runsL l).take k) ++ rng (fstL l + tot ((runsL l).take k) + p.1) p.2.toNat ++ indF (fstL l + tot ((runsL l).take (k + 1))) ((runsL l).drop (k + 1)) := by
    rw [← indF_at h, ← indF_append, hk]
  have hm : ∀ j : Nat, (j : Int) < p.2 → fstL l + tot ((runsL l).take k) + p.1 + (j : Int) ∈ l := fun j hj => by
    have hm : fstL l + tot ((runsL l).take k) + p.1 + (j : Int) ∈ indF (fstL l) (runsL l) := by
      rw [e]
      refine List.mem_append_left _ (List.mem_append_right _ ?_)
      simp only [rng, List.mem_map, List.mem_range]
      exact ⟨j, by omega, rfl⟩
    rw [t1] at hm
    exact hm
  have a := hi _ (hm 0 (by omega))
  have b := hi _ (hm (p.2.toNat - 1) (by omega))
  omega
/-- what Indices leaves -/
def IdxPost (w : World) (l : List Int) (e : Ending) (w' : World) : Prop := ∃ A c, e = .returned (.slice A l.length c) ∧ w'.ownsRow w.heap.size 3 1 (.slice A l.length c) l.length (intsC .i64 l) ∧ Below w.heap.size w w'
/-- a layout reads as the runs of l -/
def Ly (w : World) (A : Option Addr) (l : List Int) : Prop := Cl w A (twoC .i64 (runsL l))
theorem Ly.below {w w' : World} {A : Option Addr} {l : List Int} (h : Ly w A l) (k : Below w.heap.size w w') : Ly w' A l := Cl.below h k
theorem Ly.kept {w w' : World} {A : Option Addr} {l : List Int} (h : Ly w A l) (k : Kept w w') : Ly w' A l := Cl.kept h k
theorem runsL_le (l : List Int) : (runsL l).length ≤ l.length := by
  obtain ⟨_, _, t3, t4⟩ := runs_tell l
  have : ∀ s : List (Int × Int), (∀ p ∈ s, 1 ≤ p.2) → (s.length : Int) ≤ lens s := by
    intro s
    induction s with
    | nil => intro _; simp [lens]
    | cons a r ih =>
      intro h
      have h1 := h a (by simp)
      have h2 := ih (fun p hp => h p (by simp [hp]))
      simp only [lens, List.length_cons]
      omega
  have := this _ t4
  omega
theorem runs_sb {l : List Int} (ha : Asc l) (hi : Inb l) (hl : l.length ≤ 100000) : Sb (runsL l) ∧ (runsL l).length ≤ l.length := by
  obtain ⟨t1, t2, t3, t4⟩ := runs_tell l
  have hr := runs_right ha hi (m := 100000) (by omega)
  constructor
  · intro p hp
    obtain ⟨k, hk, rfl⟩ := List.getElem_of_mem hp
    have hk' := List.getElem?_eq_getElem hk
    have hb := reach_bd hi hk'
    have hlen : lens (runsL l) = l.length := t3
    have h1 : (runsL l)[k].2 ≤ lens (runsL l) := by
      have e : runsL l = (runsL l).take k ++ ((runsL l)[k] :: (runsL l).drop (k + 1)) := by rw [← List.drop_eq_getElem_cons hk, List.take_append_drop]
      have e2 : lens (runsL l) = lens ((runsL l).take k) + ((runsL l)[k].2 + lens ((runsL l).drop (k + 1))) := by
        conv => lhs; rw [e]
        rw [lens_append]; rfl
      have g1 := sum_pos (s := (runsL l).take k) (fun p hp => t4 p (List.mem_of_mem_take hp))
      have g2 := sum_pos (s := (runsL l).drop (k + 1)) (fun p hp => t4 p (List.mem_of_mem_drop hp))
      omega
    have h2 : okAt k (runsL l)[k] (100000 - lens ((runsL l).take k)) = true := by
      unfold rightF at hr
      by_cases h0 : runsL l = []
      · rw [h0] at hk; simp at hk
      · rw [if_neg h0, Bool.and_eq_true] at hr
        have e : runsL l = (runsL l).take k ++ ((runsL l)[k] :: (runsL l).drop (k + 1)) := by rw [← List.drop_eq_getElem_cons hk, List.take_append_drop]
        have hr2 := hr.2
        rw [e, rightR_append, Bool.and_eq_true] at hr2
        have hr3 := hr2.2
        simp only [rightR, Bool.and_eq_true, Nat.zero_add] at hr3
        have hkk : ((runsL l).take k).length = k := by rw [List.length_take]; omega
        rw [hkk] at hr3
        exact hr3.1
    unfold okAt offB at h2
    rw [Bool.and_eq_true] at h2
    have h3 := h2.1
    have hbo : 0 ≤ (runsL l)[k].1 ∧ (runsL l)[k].1 ≤ 524288 := by
      by_cases hk0 : (k : Int) = 0
      · rw [if_pos hk0] at h3
        have : (runsL l)[k].1 = 0 := by simpa using h3
        omega
      · rw [if_neg hk0, Bool.and_eq_true, decide_eq_true_eq, decide_eq_true_eq] at h3
        omega
    refine ⟨⟨by omega, by omega⟩, by omega, by omega⟩
  · exact runsL_le l
def IxRel (f : Int) (s : List (Int × Int)) (W0 : World) (v a i : Value) (wr : World) : Prop :=
  ∃ (k : Nat) (A : Option Addr) (c : Nat), k ≤ s.length ∧ i = .int .i64 k ∧ a = .int .i64 (f + tot (s.take k)) ∧ v = .slice A (indF f (s.take k)).length c ∧ wr.ownsRow W0.heap.size 3 1 (.slice A (indF f (s.take k)).length c) (indF f (s.take k)).length (intsC .i64 (indF f (s.take k))) ∧ Below W0.heap.size W0 wr
def InRel (a : Int) (l0 : List Int) (m : Nat) (W0 : World) (g : Nat) (o : Int) (v i : Value) (wr : World) : Prop :=
  ∃ (j : Nat) (A : Option Addr) (c : Nat), j ≤ m ∧ i = .int .i64 j ∧ v = .slice A (l0 ++ rng a j).length c ∧ wr.ownsRow W0.heap.size 3 1 (.slice A (l0 ++ rng a j).length c) (l0 ++ rng a j).length (intsC .i64 (l0 ++ rng a j)) ∧ wr.heap[g]? = some (.cells #[.int .i64 o, .int .i64 (m : Int)] 46 (0, 0)) ∧ Below W0.heap.size W0 wr

set_option maxHeartbeats 1000000 in
set_option maxRecDepth 100000 in
theorem indices_any (A : Option Addr) (c : Nat) (l : List Int) (w : World) (hS : Ly w A l) (ha : Asc l) (hi : Inb l) (hl : l.length ≤ 10000) :
    Calls Try.prog 10 #[.agg #[.int .i64 (fstL l), .slice A (runsL l).length c]] w (IdxPost w l) := by
  obtain ⟨hsb, hsl⟩ := runs_sb ha hi (by omega)
  obtain ⟨t1, t2, t3, t4⟩ := runs_tell l
  have HRt := Lib.hid (runs_right ha hi (m := 131072) (by omega))
  have HT1 := Lib.hid t1
  have HRB := Lib.hid (fun k p (h : (runsL l)[k]? = some p) => reach_bd hi h)
  have HSB := Lib.hid hsb
  have HLT := Lib.hid (fun k => lens_take t4 k)
  have HIL := Lib.hid (fun k a => indF_length (s := (runsL l).take k) a (fun p hp => t4 p (List.mem_of_mem_take hp)))
  have HLN := Lib.hid t3
  obtain ⟨f, hf⟩ : ∃ f, fstL l = f := ⟨_, rfl⟩
  obtain ⟨s, hs⟩ : ∃ s, runsL l = s := ⟨_, rfl⟩
  unfold Ly at hS
  rw [hs] at HRt HT1 HRB HSB HLT HIL HLN hS hsl
  rw [hf] at HRt HT1 HRB
  rw [hf, hs]
  clear hf t1 t2 t3 t4 hs ha hi hsb
  have hb0 : Below w.heap.size w (w.alloc (.cells #[.int .i64 f, .slice A s.length c] 33)) := (Below.refl _ _).alloc (Nat.le_refl _) _
  obtain ⟨W0, hW0⟩ : ∃ W, w.alloc (.cells #[.int .i64 f, .slice A s.length c] 33) = W := ⟨_, rfl⟩
  have hbx : W0.heap[w.heap.size]? = some (.cells #[.int .i64 f, .slice A s.length c] 33 (0, 0)) := by rw [← hW0]; exact heap_alloc_new w _
  have HS := Lib.hid hS
  have HS0 := Lib.hid (hS.below hb0)
  have HB0 := Lib.hid hb0
  have HBX := Lib.hid (box2b hbx)
  rw [hW0] at HS0 HB0
  have hWW := Lib.hid hW0
  clear hW0 hS hb0 hbx
  go_enter Try.func10, Try.ntmps10
  go_wp2_with fail
  rw [hWW.out]
  refine (right_any _ _ _ _ _ _ HS0.out HSB.out ⟨by decide, by decide⟩ (by omega)).mono ?_
  rw [HRt.out]
  rintro e w1 ⟨rfl, hb1⟩
  obtain ⟨x0, x1⟩ := HBX.out w1 hb1
  have HB1 := Lib.hid (HB0.out.trans (hb1.mono HB0.out.size))
  clear hb1
  go_wp2_with fail
  clear x0 x1
  go_loopw [3, 4, 16] (fun v a i wr => IxRel f s w v a i wr) (fun _ _ i _ => s.length - (intOf i).toNat)
  case atStart => exact ⟨0, none, 0, by omega, rfl, by simp [tot], by simp [indF], by simp only [List.take_zero, indF]; exact World.ownsRow_nil _ _ _ _, HB1.out⟩
  case round =>
    obtain ⟨k, A1, c1, hk, rfl, rfl, rfl, hown, hb⟩ := hrel
    have HO := Lib.hid hown
    have HBR := Lib.hid hb
    clear hown hb
    by_cases hlt : k < s.length
    · obtain ⟨b, off, rfl, hc⟩ := (HS.out.below HBR.out).twos (by omega)
      obtain ⟨p, hp⟩ := getElem?_lt hlt
      obtain ⟨q1, q2⟩ := hc k p hp
      obtain ⟨r1, r2, r3⟩ := HRB.out k p hp
      obtain ⟨⟨o1, o2⟩, n1, n2⟩ := HSB.out p (mem_of_at hp)
      have HTA := Lib.hid (tot_at hp)
      have HIA := Lib.hid (indF_at (a := f) hp)
      have hlen := HIL.out (k + 1) f
      have hle := HLT.out (k + 1)
      rw [HIA.out, List.length_append, rng_length] at hlen
      obtain ⟨L0, hL0⟩ : ∃ L, indF f (s.take k) = L := ⟨_, rfl⟩
      obtain ⟨T, hT⟩ : ∃ T, f + tot (s.take k) = T := ⟨_, rfl⟩
      rw [hL0] at HO HIA hlen ⊢
      rw [hT] at r1 r2 HIA ⊢
      have HTT := Lib.hid hT
      obtain ⟨o, n⟩ := p
      obtain ⟨m, rfl⟩ : ∃ m : Nat, n = (m : Int) := ⟨n.toNat, by simp only at r3; omega⟩
      simp only at q1 q2 r1 r2 r3 o1 o2 n1 n2 HTA HIA hlen
      have hlm : L0.length + m ≤ 10000 := by
        have := HLN.out
        omega
      have hki : (k : Int) < (s.length : Int) := by omega
      clear hc hp hL0 hT hlen hle
      go_wp2_with fail
      obtain ⟨wo, hwo⟩ : ∃ W, W = wr := ⟨_, rfl⟩
      subst hwo
      have hLz : L0 ++ rng (T + o) 0 = L0 := by simp [rng_zero]
      have HST := Lib.hid (show InRel (T + o) L0 m w wo.heap.size o (.slice A1 L0.length c1) (.int .i64 0) (wo.alloc (.cells #[.int .i64 o, .int .i64 (m : Int)] 46)) from
        ⟨0, A1, c1, by omega, rfl, by rw [hLz], by rw [hLz]; exact HO.out.alloc _, heap_alloc_new wo _, HBR.out.alloc HBR.out.size _⟩)
      clear hLz
      go_loopw [3, 26] (fun v i wr => InRel (T + o) L0 m w wo.heap.size o v i wr) (fun _ i _ => m - (intOf i).toNat)
      case atStart => exact HST.out
      case round =>
        obtain ⟨j, A2, c2, hj, rfl, rfl, hown, hbl, hb⟩ := hrel
        have HO3 := Lib.hid hown
        have HB3 := Lib.hid hb
        have HBL := Lib.hid hbl
        have hsz3 := hb.size
        clear hown hb hbl
        by_cases hlj : j < m
        · have HRS := Lib.hid (rng_succ (T + o) j)
          have hLj : (L0 ++ rng (T + o) j).length = L0.length + j := by simp [rng_length]
          obtain ⟨L1, hL1⟩ : ∃ L, L0 ++ rng (T + o) j = L := ⟨_, rfl⟩
          have HL1 := Lib.hid hL1
          rw [hL1] at HO3 hLj ⊢
          have hL1l : L1.length + 1 ≤ 10000 := by omega
          clear hL1 hLj
          have hji : (j : Int) < (m : Int) := by omega
          go_wp2_with (at_builtin; refine app_int rfl _ _ rfl w.heap.size _ _ _ L1 rfl (HO3.out.alloc _) _ rfl (T + o + (j : Int)) (new_one _ _ _) (by omega) ?d1 ?_)
          case d1 => simp; omega
          intro A3 c3 w3 ho3 hg3
          have HO4 := Lib.hid ho3
          have HB4 := Lib.hid (below_app HB3.out hsz3 HO3.out (Nat.le_refl _) hg3)
          have HBL4 := Lib.hid (keep_app HO3.out HBL.out (by decide) hg3)
          clear ho3 hg3
          go_wp2_with fail
          go_roundw
          case rel => exact ⟨j + 1, A3, c3, by omega, by go_num, by rw [HRS.out, ← List.append_assoc, HL1.out, List.length_append]; rfl, by rw [HRS.out, ← List.append_assoc, HL1.out, List.length_append]; exact HO4.out, HBL4.out, HB4.out⟩
          case measure => simp [intOf]; omega
        · obtain rfl : j = m := by omega
          have hji : ¬ ((j : Int) < (j : Int)) := by omega
          obtain ⟨y0, y1, _⟩ := box2 HBL.out
          have HE := Lib.hid (show T + o + (j : Int) = f + tot (s.take (k + 1)) by have h1 := HTA.out; have h2 := HTT.out; (try simp only at h1); omega)
          have HL := Lib.hid (show L0 ++ rng (T + o) j = indF f (s.take (k + 1)) by rw [HIA.out]; rfl)
          go_wp2_with fail
          go_roundw
          case rel => exact ⟨k + 1, A2, c2, by omega, by go_num, by rw [HE.out], by rw [← HL.out], by rw [← HL.out]; exact HO3.out, HB3.out⟩
          case measure => simp [intOf]; omega
    · obtain rfl : k = s.length := by omega
      have hki : ¬ ((s.length : Int) < (s.length : Int)) := by omega
      rw [List.take_length] at HO
      have HL := HT1
      go_wp2_with fail
      go_ret
      exact ⟨A1, c1, by rw [← HL.out]; rfl, by have := HO.out; rw [HL.out] at this; exact this, HBR.out⟩
end Go.Proofs.Ytnbjgeamdipkcaa
