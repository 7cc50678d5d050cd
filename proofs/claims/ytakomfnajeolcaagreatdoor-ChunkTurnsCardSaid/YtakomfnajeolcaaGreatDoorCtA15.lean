import Derived.Test.YtakomfnajeolcaaGreatDoorCtA14
set_option linter.unusedVariables false
/- The contract of gather: how many each bucket has. -/
namespace Go.Proofs.YtakomfnajeolcaaGreatDoor
open Go.RowKit Go.Sort Go.Maps
set_option linter.unusedVariables false
set_option maxRecDepth 100000

/-- how many a list of buckets has at an index -/
def atI : List (Int × Int) → Int → Int
  | [], _ => 0
  | p :: r, i => (if p.1 = i then p.2 else 0) + atI r i
theorem atI_append (l m : List (Int × Int)) (i : Int) : atI (l ++ m) i = atI l i + atI m i := by
  induction l with
  | nil => simp [atI]
  | cons a r ih => simp [atI, ih]; omega
theorem atI_snoc (l : List (Int × Int)) (p : Int × Int) (i : Int) : atI (l ++ [p]) i = if p.1 = i then atI l i + p.2 else atI l i := by
  rw [atI_append]
  by_cases h : p.1 = i <;> simp [atI, h]
theorem atI_bd {l : List (Int × Int)} (h : ∀ p ∈ l, Wb p) (i : Int) : 0 ≤ atI l i ∧ atI l i ≤ cnt l := by
  induction l with
  | nil => simp [atI, cnt]
  | cons a r ih =>
    have h1 := (h a (by simp)).2.2.1
    have h2 := ih (fun p hp => h p (by simp [hp]))
    simp only [cnt, List.map_cons, List.sum_cons, atI] at *
    split <;> omega
/-- what gather makes of two sides -/
def gF (sc : Int) (X Y : List (Int × Int)) : F3 := fun s c i => if c = sc then (if s = 1 then atI X i else if s = -1 then atI Y i else 0) else 0
def XL (k : Nat) (P : List (Int × Int)) (j : Nat) : List (Int × Int) := if k = 0 then P.take j else P
def YL (k : Nat) (Q : List (Int × Int)) (j : Nat) : List (Int × Int) := if k = 0 then [] else if k = 1 then Q.take j else Q
def sgn (k : Nat) : Int := if k = 0 then 1 else -1
theorem gF_step {sc : Int} {P Q l : List (Int × Int)} {k j : Nat} (h : (k = 0 ∧ l = P) ∨ (k = 1 ∧ l = Q)) {p : Int × Int} (hp : l[j]? = some p) (s c i : Int) :
    upd (gF sc (XL k P j) (YL k Q j)) (sgn k) sc p.1 (gF sc (XL k P j) (YL k Q j) (sgn k) sc p.1 + p.2) s c i = gF sc (XL k P (j + 1)) (YL k Q (j + 1)) s c i := by
  rcases h with ⟨rfl, rfl⟩ | ⟨rfl, rfl⟩
  · simp only [XL, YL, sgn, upd, gF, if_true]
    rw [take_snoc l j p hp, atI_snoc]
    by_cases h1 : s = 1
    · subst h1
      by_cases h2 : c = sc
      · subst h2
        by_cases h3 : i = p.1
        · subst h3; simp
        · have h4 : ¬ p.1 = i := fun e => h3 e.symm
          simp [h3, h4]
      · simp [h2]
    · simp [h1]
  · have e := take_snoc l j p hp
    simp only [XL, YL, sgn, upd, gF, show ¬ (1 : Nat) = 0 by decide, if_true, if_false, e, atI_snoc]
    by_cases h1 : s = -1
    · subst h1
      by_cases h2 : c = sc
      · subst h2
        by_cases h3 : i = p.1
        · subst h3; simp
        · have h4 : ¬ p.1 = i := fun e => h3 e.symm
          simp [h3, h4]
      · simp [h2]
    · simp [h1]
theorem gF_room {sc : Int} {P Q l : List (Int × Int)} {k j : Nat} (hP : ∀ p ∈ P, Wb p) (hQ : ∀ p ∈ Q, Wb p) (h : (k = 0 ∧ l = P) ∨ (k = 1 ∧ l = Q)) {p : Int × Int} (hp : l[j]? = some p) :
    0 ≤ gF sc (XL k P j) (YL k Q j) (sgn k) sc p.1 ∧ gF sc (XL k P j) (YL k Q j) (sgn k) sc p.1 + p.2 ≤ cnt (P ++ Q) := by
  have h1 := cnt_nonneg hP
  have h2 := cnt_nonneg hQ
  rw [cnt_append]
  have key : ∀ l : List (Int × Int), (∀ p ∈ l, Wb p) → l[j]? = some p → 0 ≤ atI (l.take j) p.1 ∧ atI (l.take j) p.1 + p.2 ≤ cnt l := fun l hl hp => by
    have b0 := atI_bd (l := l.take j) (fun q hq => hl q (List.mem_of_mem_take hq)) p.1
    have b1 := atI_bd (l := l.take (j + 1)) (fun q hq => hl q (List.mem_of_mem_take hq)) p.1
    have b2 := (cnt_take hl (j + 1)).2
    have e : atI (l.take (j + 1)) p.1 = atI (l.take j) p.1 + p.2 := by rw [take_snoc l j p hp, atI_snoc]; simp
    omega
  rcases h with ⟨rfl, rfl⟩ | ⟨rfl, rfl⟩
  · have := key l hP hp
    simp only [XL, YL, sgn, gF, if_true]
    omega
  · have := key l hQ hp
    simp [YL, sgn, gF]
    omega
theorem gF_same {sc : Int} {P Q l : List (Int × Int)} {k j : Nat} (h : (k = 0 ∧ l = P) ∨ (k = 1 ∧ l = Q)) {p : Int × Int} (hp : l[j]? = some p) (h0 : p.2 = 0) (s c i : Int) : gF sc (XL k P j) (YL k Q j) s c i = gF sc (XL k P (j + 1)) (YL k Q (j + 1)) s c i := by
  rw [← gF_step h hp s c i, h0]
  unfold upd
  split
  · rename_i he
    obtain ⟨rfl, rfl, rfl⟩ := he
    omega
  · rfl
theorem gF_zero (sc s c i : Int) : gF sc [] [] s c i = 0 := by simp [gF, atI]
theorem sgn_i64 (k : Nat) : I64 (sgn k) := by unfold sgn I64; split <;> omega
theorem XL_end {P Q l : List (Int × Int)} {k : Nat} (h : (k = 0 ∧ l = P) ∨ (k = 1 ∧ l = Q)) : XL k P l.length = XL (k + 1) P 0 ∧ YL k Q l.length = YL (k + 1) Q 0 := by
  rcases h with ⟨rfl, rfl⟩ | ⟨rfl, rfl⟩ <;> simp [XL, YL]
theorem sign_any (k : Nat) (hk : k < 2) (w : World) : Calls Tryz.prog 130 #[.int .i64 (k : Int)] w fun e w' => e = .returned (.int .i64 (sgn k)) ∧ w = w' := by
  rcases (show k = 0 ∨ k = 1 by omega) with rfl | rfl
  · exact sign_0 w
  · exact sign_1 w

/-- a map of counts, and what lay ahead of it, as it was -/
def Mp (w w' : World) (b n : Nat) (f : F3) : Prop := Cm w' b n f ∧ w.heap.size ≤ b ∧ Below w.heap.size w w'
theorem Cm.ext {w : World} {b n : Nat} {f g : F3} (h : Cm w b n f) (e : ∀ s c i, f s c i = g s c i) : Cm w b n g := by
  obtain ⟨D, h1, h2⟩ := h
  exact ⟨D, h1, h2.ext e⟩
theorem Mp.alloc {w w' : World} {b n : Nat} {f : F3} (h : Mp w w' b n f) (o : Obj) : Mp w (w'.alloc o) b n f := by
  obtain ⟨⟨D, h1, h2⟩, h3, h4⟩ := h
  exact ⟨⟨D, h1.alloc o, h2⟩, h3, h4.alloc h4.size _⟩
theorem Mp.drewN {w w' : World} {b n : Nat} {f : F3} (h : Mp w w' b n f) (q : Nat) : Mp w (w'.drewN q) b n f := by
  obtain ⟨⟨D, h1, h2⟩, h3, h4⟩ := h
  exact ⟨⟨D, h1, h2⟩, h3, below_drewN h4 q⟩
theorem Mp.ext {w w' : World} {b n : Nat} {f g : F3} (h : Mp w w' b n f) (e : ∀ s c i, f s c i = g s c i) : Mp w w' b n g := ⟨h.1.ext e, h.2⟩
/-- adding to an entry: the operations' runs, and what is left -/
theorem Mp.adds {w w' : World} {b n : Nat} {f : F3} (h : Mp w w' b n f) (hn : n < 100000) {s c i : Int} (hs : I64 s) (hc : I64 c) (hi : I64 i) (pc : Int) (h0 : 0 ≤ f s c i) (h1 : f s c i + pc ≤ 18446744073709551615) (hp : 0 < pc) :
    ∃ (v0 : Value) (st : Nat) (w1 w2 : World) (x : Int), f s c i = x ∧ (Instr.lookup 164 (.map (some b)) (.agg #[.int .i64 s, .int .i64 c, .int .i64 i]) false).run Tryz.prog w' = .ok (.int .u64 x) w' ∧
      (Instr.mapEntry 164 (.map (some b)) (.agg #[.int .i64 s, .int .i64 c, .int .i64 i])).run Tryz.prog w' = .ok (.tuple #[v0, .int .i64 (st : Int)]) w1 ∧
      (Instr.lookup 164 (.map (some b)) (.agg #[.int .i64 s, .int .i64 c, .int .i64 i]) false).run Tryz.prog w1 = .ok (.int .u64 x) w1 ∧
      (Instr.entryStore 164 (.map (some b)) (.int .i64 (st : Int)) (.int .u64 (x + pc))).run Tryz.prog w1 = .ok () w2 ∧ Mp w w2 b (n + 1) (upd f s c i (f s c i + pc)) := by
  obtain ⟨⟨D, g1, g2⟩, g3, g4⟩ := h
  have hk := key_mk hs hc hi
  have hat := (g2.2.1 s c i hs hc hi).1
  obtain ⟨x, hl, hx, _⟩ := g1.lookup_int lawK Tryz.underlying164 Tryz.underlying36 (zeroU _) hk
  have e1 : f s c i = x := by rw [hat] at hx; simpa using hx
  obtain ⟨v0, st, w1, m1, m2, m3⟩ := entry_own g1 (by unfold maxLen; omega) hk (kL_key _ _ _) hx
  obtain ⟨w2, m4, m5, m6⟩ := m3 (x + pc) ⟨by omega, by omega⟩
  refine ⟨v0, st, w1, w2, x, e1, hl, m1, m2, m4, ⟨_, m5, ?_⟩, g3, g4.grown m6 g4.size (fun k hk => by cases hk; exact g3)⟩
  rw [e1]
  exact g2.put hs hc hi (by omega)
def GRel (sc : Int) (P Q : List (Int × Int)) (w : World) (b : Nat) (i : Value) (wr : World) : Prop := ∃ k : Nat, k ≤ 2 ∧ i = .int .i64 k ∧ ∃ n, n ≤ 1100 * k ∧ Mp w wr b n (gF sc (XL k P 0) (YL k Q 0))
def GRel2 (sc : Int) (P Q l : List (Int × Int)) (k : Nat) (w : World) (b : Nat) (i : Value) (wr : World) : Prop := ∃ j : Nat, j ≤ l.length ∧ i = .int .i64 j ∧ ∃ n, n ≤ 1100 * k + j ∧ Mp w wr b n (gF sc (XL k P j) (YL k Q j))

set_option maxHeartbeats 2000000 in
set_option maxRecDepth 100000 in
theorem gather_any (sc : Int) (A B : Option Addr) (c d : Nat) (P Q : List (Int × Int)) (w : World) (hsc : I64 sc) (hP : Bk w A P) (hQ : Bk w B Q) (hlp : P.length ≤ 1100) (hlq : Q.length ≤ 1100) (htot : cnt (P ++ Q) ≤ 18446744073709551615) :
    Calls Tryz.prog 116 #[.int .i64 sc, .agg #[.slice A P.length c, .slice B Q.length d]] w fun e w' => ∃ b n, e = .returned (.map (some b)) ∧ n ≤ 2200 ∧ Mp w w' b n (gF sc P Q) := by
  have HP := Lib.hid hP
  have HQ := Lib.hid hQ
  have hmm := @run_makeMap Tryz.prog
  clear hP hQ
  go_enter Tryz.func116, Tryz.ntmps116
  go_wp2_with fail
  have hm0 : Mp w ((w.alloc (.cells #[.slice A P.length c, .slice B Q.length d] 99)).alloc (.map #[] 0)) (w.heap.size + 1) 0 (gF sc (XL 0 P 0) (YL 0 Q 0)) := by
    refine ⟨⟨.map [], ?_, ?_⟩, by omega, ((Below.refl _ _).alloc (Nat.le_refl _) _).alloc (by simp) _⟩
    · have := World.ownsMap_made (w.alloc (.cells #[.slice A P.length c, .slice B Q.length d] 99)) Tryz.prog 175 (plainElem (H := Unit) Tryz.prog 36)
      simpa using this
    · exact Rd.empty.ext fun s c i => by simp [XL, YL, gF_zero]
  obtain ⟨W0, hW0⟩ : ∃ W0, (w.alloc (.cells #[.slice A P.length c, .slice B Q.length d] 99)).alloc (.map #[] 0) = W0 := ⟨_, rfl⟩
  obtain ⟨b, hbw⟩ : ∃ b, w.heap.size + 1 = b := ⟨_, rfl⟩
  rw [hW0, hbw] at hm0
  rw [hW0, hbw]
  have HM0 := Lib.hid hm0
  clear hm0 hW0 hbw hmm
  go_loopw [12] (fun i wr => GRel sc P Q w b i wr) (fun i _ => 2 - (intOf i).toNat)
  case atStart => exact ⟨0, by omega, rfl, 0, by omega, HM0.out⟩
  case round =>
    obtain ⟨k, hk, rfl, n, hn, hm⟩ := hrel
    have HM := Lib.hid hm
    clear hm
    by_cases hlt : k < 2
    · obtain ⟨C, e, l, hix, hl, hwho⟩ := side_at A B P.length c Q.length d P Q k hlt rfl rfl HP.out HQ.out
      have hll : l.length ≤ 1100 := by rcases hwho with ⟨_, rfl⟩ | ⟨_, rfl⟩ <;> assumption
      have HL := Lib.hid hl
      have HW := Lib.hid hwho
      have hki : (k : Int) < 2 := by omega
      clear hl hwho
      go_wp2_with fail
      obtain ⟨wo, hwo⟩ : ∃ W, W = wr := ⟨_, rfl⟩
      subst hwo
      go_loopw [18] (fun i wr => GRel2 sc P Q l k w b i wr) (fun i _ => l.length - (intOf i).toNat)
      case atStart => exact ⟨0, by omega, rfl, n, by omega, HM.out⟩
      case round =>
        obtain ⟨j, hj, rfl, m, hm, hM⟩ := hrel
        have HM2 := Lib.hid hM
        clear hM
        by_cases hlj : j < l.length
        · obtain ⟨b', off', rfl, hc'⟩ := (HL.out.below HM2.out.2.2).some_ (by omega)
          obtain ⟨p, hp⟩ := getElem?_lt hlj
          obtain ⟨q1, q2⟩ := hc' j p hp
          obtain ⟨w1, w2, w3, w4⟩ := HL.out.2.1 p (mem_of_at hp)
          have hji : (j : Int) < (l.length : Int) := by omega
          obtain ⟨pi, pc⟩ := p
          simp only at q1 q2 w1 w2 w3 w4
          by_cases h0 : pc = 0
          · have d0 : (pc != 0) = false := by simpa using h0
            have HN := Lib.hid (HM2.out.ext (gF_same HW.out hp h0))
            clear hc' hp h0
            go_wp2_with fail
            go_roundw
            case rel => exact ⟨j + 1, by omega, by go_num, m, by omega, HN.out.alloc _⟩
            case measure => simp [intOf]; omega
          · have d0 : (pc != 0) = true := by simpa using h0
            have hr := gF_room (sc := sc) HP.out.2.1 HQ.out.2.1 HW.out hp
            have hpos : 0 < pc := by omega
            have HN := Lib.hid (gF_step (sc := sc) HW.out hp)
            have HR := Lib.hid hr
            clear hc' hp h0 hr
            go_wp2_with fail
            have HM3 := Lib.hid ((HM2.out.alloc (.cells #[.int .i64 pi, .int .u64 pc] 86)).drewN 1)
            have c0 : (wr.alloc (.cells #[.int .i64 pi, .int .u64 pc] 86)).cell? ⟨wr.heap.size, 0, none⟩ = some (.int .i64 pi) := by simp [go_sem]
            have c1 : (wr.alloc (.cells #[.int .i64 pi, .int .u64 pc] 86)).cell? ⟨wr.heap.size, 1, none⟩ = some (.int .u64 pc) := by simp [go_sem]
            generalize wr.alloc (.cells #[.int .i64 pi, .int .u64 pc] 86) = wa at *
            obtain ⟨v0, st, wb, wc, x, ex, hl0, hme, hl1, hes, hfin⟩ := HM3.out.adds (s := sgn k) (c := sc) (i := pi) (by omega) (sgn_i64 k) hsc ⟨w1, w2⟩ pc HR.out.1 (by have := HR.out.2; omega) hpos
            have x0 : 0 ≤ x := by rw [← ex]; exact HR.out.1
            have x1 : x + pc ≤ 18446744073709551615 := by rw [← ex]; have := HR.out.2; omega
            have HF := Lib.hid (hfin.ext HN.out)
            have HX := Lib.hid ex
            clear hfin ex
            have hl0' := hl0
            have hme' := hme
            change Sem.run _ _ wa.drew = _ at hl0' hme'
            have hwx : IntKind.u64.wrap (x + pc) = x + pc := by rw [IntKind.wrap_u64]; omega
            go_region_with (go_at_call 130; ((with_reducible refine (sign_any k hlt _).mono ?_); rintro e w9 ⟨rfl, rfl⟩))
            all_goals
              go_wp2_with fail
              go_roundw
              case rel => exact ⟨j + 1, by omega, by go_num, m + 1, by omega, HF.out⟩
              case measure => simp [intOf]; omega
        · obtain rfl : j = l.length := by omega
          have hji : ¬ ((l.length : Int) < (l.length : Int)) := by omega
          have HN := Lib.hid (show Mp w wr b m (gF sc (XL (k + 1) P 0) (YL (k + 1) Q 0)) by
            obtain ⟨e1, e2⟩ := XL_end HW.out
            rw [← e1, ← e2]
            exact HM2.out)
          go_wp2_with fail
          go_roundw
          case rel => exact ⟨k + 1, by omega, by go_num, m, by omega, HN.out⟩
          case measure => simp [intOf]; omega
    · obtain rfl : k = 2 := by omega
      have HN := Lib.hid (show Mp w wr b n (gF sc P Q) by simpa [XL, YL] using HM.out)
      go_wp2_with fail
      go_ret
      exact ⟨b, n, rfl, by omega, HN.out⟩
end Go.Proofs.YtakomfnajeolcaaGreatDoor
