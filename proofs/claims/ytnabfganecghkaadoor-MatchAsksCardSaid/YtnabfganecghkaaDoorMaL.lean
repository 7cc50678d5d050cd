/- All matchers of a text read. -/
import Derived.Test.YtnabfganecghkaaDoorMaJ
/-! One matcher of a text read. -/
namespace Go.Proofs.YtnabfganecghkaaDoor
open Go.RowKit Go.Sort
set_option linter.unusedVariables false

def sg2 : ByteArray := ⟨#[123, 125, 61, 33, 126, 44, 34]⟩
theorem sg2_ascii : ∀ b ∈ sg2.data.toList, b.toNat < 128 := by decide
def ixM (l : List UInt8) : Int := Lib.indexAny l sg2.data.toList
theorem ixM_lt : ∀ l : List UInt8, ixM l < l.length ∧ -1 ≤ ixM l
  | [] => by simp [ixM, Lib.indexAny]
  | b :: l => by
    have ih := ixM_lt l
    unfold ixM at ih ⊢
    unfold Lib.indexAny
    rw [List.length_cons]
    split
    · omega
    · split
      · omega
      · omega
theorem ixM_any (s : ByteArray) (hs : s.size ≤ 4000) (W : World) : Calls Tryd.prog 50 #[.string s, .string ⟨#[123, 125, 61, 33, 126, 44, 34]⟩] W fun e w' => e = .returned (.int .i64 (ixM s.data.toList)) ∧ Below W.heap.size W w' := by
  by_cases h8 : s.size ≤ 8
  · exact Lb.short_any s sg2 (by decide) sg2_ascii (by decide) h8 W
  · refine (Tryd.strings_IndexAny_long (fun w => by kernel_rfl) s sg2 W (by decide) (by omega) (by omega) (by decide) (fun j b hb => sg2_ascii b (Lb.mem_of_at hb))).mono ?_
    rintro e w' ⟨he, rfl⟩
    exact ⟨he, ((Below.refl _ _).alloc (Nat.le_refl _) _).alloc (by simp) _⟩
theorem sgF_len {l q : List UInt8} {k : Nat} (h : sgF l = some (k, q)) : q.length ≤ l.length := by
  unfold sgF at h
  split at h
  · injection h with h; injection h with _ h; rw [← h, List.length_drop]; omega
  split at h
  · injection h with h; injection h with _ h; rw [← h, List.length_drop]; omega
  split at h
  · injection h with h; injection h with _ h; rw [← h, List.length_drop]; omega
  split at h
  · injection h with h; injection h with _ h; rw [← h, List.length_drop]; omega
  · cases h
/-- one matcher of a text, and what stands behind it -/
def oneG (l : List UInt8) (k : Nat) : Option (Nat × List UInt8) → Option (Mt × List UInt8)
  | none => none
  | some p => match Lb.unqF p.2 with
    | none => none
    | some x => some (⟨tx (l.take k), (p.1 : Int), tx x.1⟩, x.2)
def oneM (l : List UInt8) : Option (Mt × List UInt8) := if ixM l < 0 then none else oneG l (ixM l).toNat (sgF (l.drop (ixM l).toNat))
def OnP (o : Option (Mt × List UInt8)) (y : Ending) : Prop := ∃ nm op vl rest q, y = .returned (.tuple #[.agg #[.string nm, .int .i64 op, .string vl], .string rest, .bool q]) ∧ Hid (match o with
  | some (m, r) => q = true ∧ nm = m.nm ∧ op = m.op ∧ vl = m.vl ∧ rest = tx r
  | none => q = false)
set_option maxHeartbeats 4000000 in
set_option maxRecDepth 100000 in
theorem oneM_any (s : ByteArray) (w : World) (hT : Tab w) (hs : s.size ≤ 4000) : Calls Tryd.prog 39 #[.string s] w fun y w' => OnP (oneM s.data.toList) y ∧ Below w.heap.size w w' := by
  obtain ⟨l, hl⟩ : ∃ l, s.data.toList = l := ⟨_, rfl⟩
  have hls : l.length = s.size := by rw [← hl, Array.length_toList]; rfl
  have HL := Lib.hid hl
  obtain ⟨h, hh⟩ : ∃ h, w.heap.size = h := ⟨_, rfl⟩
  obtain ⟨W, hW⟩ : ∃ W, w.alloc (.cells #[.string ⟨#[]⟩, .int .i64 0, .string ⟨#[]⟩] 40 (0, 0)) = W := ⟨_, rfl⟩
  have b0 : Below w.heap.size w W := hW ▸ (Below.refl _ _).alloc (Nat.le_refl _) _
  have X0 := Lib.hid (show B3 W h ⟨#[]⟩ 0 ⟨#[]⟩ from hh ▸ hW ▸ B3.new w _ _ _)
  have B0 := Lib.hid b0
  have HT := Lib.hid (hT.below b0)
  have HH := Lib.hid (show w.heap.size ≤ h by omega)
  obtain ⟨i, hi⟩ : ∃ i, ixM l = i := ⟨_, rfl⟩
  have hib := ixM_lt l
  rw [hi] at hib
  have HIB := Lib.hid hib
  have HI := Lib.hid hi
  have HF := Lib.hid (fun (W' : World) (b : B3 W' h ⟨#[]⟩ 0 ⟨#[]⟩) => show ∀ j, W'.frozen? ⟨h, j, none⟩ = false from fun j => by simp [World.frozen?, b.blk])
  rw [hl]
  clear hl hi b0 hT
  go_enter Tryd.func39, Tryd.ntmps39
  go_wp2_with fail
  clear hW hh
  refine (ixM_any s hs _).mono ?_
  rw [HL.out, HI.out]
  rintro y w2 ⟨rfl, hb⟩
  have B2 := Lib.hid (B0.out.trans (hb.mono B0.out.size))
  have X2 := Lib.hid (X0.out.below hb)
  have HT2 := Lib.hid (HT.out.below hb)
  clear hb
  by_cases hneg : i < 0
  · have HO := Lib.hid (show oneM l = none by unfold oneM; rw [HI.out, if_pos hneg])
    obtain ⟨z0, z1, z2⟩ := X2.out.cells
    have f0 := HF.out _ X2.out 0
    have f1 := HF.out _ X2.out 1
    have f2 := HF.out _ X2.out 2
    clear hib
    go_wp2_with fail
    refine bodyPost_ret (v := .tuple #[.agg #[.string ⟨#[]⟩, .int .i64 0, .string ⟨#[]⟩], .string ⟨#[]⟩, .bool false]) (by simp [results, Tryd.results39, go_sem, z0, z1, z2]) rfl ?_
    rw [HO.out]
    exact ⟨⟨_, _, _, _, _, rfl, Lib.hid rfl⟩, ((B2.out.setCell (p := ⟨h, 0, none⟩) HH.out _).setCell (p := ⟨h, 1, none⟩) HH.out _).setCell (p := ⟨h, 2, none⟩) HH.out _⟩
  obtain ⟨k, hk⟩ : ∃ k : Nat, i = (k : Int) := ⟨i.toNat, by omega⟩
  subst hk
  have hk1 : (k : Int) ≤ (s.size : Int) := by omega
  have hk0 : (0 : Int) ≤ (k : Int) := by omega
  have hks : k ≤ s.size := by omega
  have HEX := Lib.hid (show s.extract k s.size = tx (l.drop k) from (Lb.ext_tx s k).trans (by rw [HL.out]; rfl))
  have HE0 := Lib.hid (show s.extract 0 k = tx (l.take k) from (Lb.ext0_tx s k).trans (by rw [HL.out]; rfl))
  have hTl : (tx (l.drop k)).size ≤ 4000 := by rw [tx_size, List.length_drop]; omega
  obtain ⟨T, hTT⟩ : ∃ T, s.extract k s.size = T := ⟨_, rfl⟩
  obtain ⟨T0, hT0⟩ : ∃ T0, s.extract 0 k = T0 := ⟨_, rfl⟩
  obtain ⟨O, hO⟩ : ∃ O, sgF (l.drop k) = O := ⟨_, rfl⟩
  have HSG := Lib.hid (show Calls Tryd.prog 51 #[.string T] w2 fun y w' => y = .returned (sgV O) ∧ Below w2.heap.size w2 w' from by
    have := sign_any T w2 HT2.out (by rw [← hTT, HEX.out]; exact hTl)
    rw [← hTT, HEX.out, tx_data, hO, ← HEX.out, hTT] at this
    exact this)
  have HON := Lib.hid (show oneM l = oneG l k O by unfold oneM; rw [HI.out, if_neg hneg]; show oneG l k (sgF (l.drop k)) = _; rw [hO])
  have HOL := Lib.hid (show ∀ k' q, O = some (k', q) → q.length ≤ 4000 from fun k' q hq => by
    have h1 : sgF (l.drop k) = some (k', q) := hO.trans hq
    have h2 := sgF_len h1
    rw [List.length_drop] at h2
    omega)
  have HT0 := Lib.hid (hT0.symm.trans HE0.out)
  clear hneg hib hO hTl
  go_wp2_with fail
  refine HSG.out.mono ?_
  rintro y w3 ⟨rfl, hb⟩
  have B3' := Lib.hid (B2.out.trans (hb.mono B2.out.size))
  have X3 := Lib.hid (X2.out.below hb)
  clear hb
  cases O with
  | none =>
    have HO := Lib.hid (show oneM l = none from HON.out)
    obtain ⟨z0, z1, z2⟩ := X3.out.cells
    have f0 := HF.out _ X3.out 0
    have f1 := HF.out _ X3.out 1
    have f2 := HF.out _ X3.out 2
    simp only [sgV]
    go_wp2_with fail
    refine bodyPost_ret (v := .tuple #[.agg #[.string ⟨#[]⟩, .int .i64 0, .string ⟨#[]⟩], .string ⟨#[]⟩, .bool false]) (by simp [results, Tryd.results39, go_sem, z0, z1, z2]) rfl ?_
    rw [HO.out]
    exact ⟨⟨_, _, _, _, _, rfl, Lib.hid rfl⟩, ((B3'.out.setCell (p := ⟨h, 0, none⟩) HH.out _).setCell (p := ⟨h, 1, none⟩) HH.out _).setCell (p := ⟨h, 2, none⟩) HH.out _⟩
  | some p =>
    obtain ⟨k', q⟩ := p
    simp only [sgV]
    have HQ := Lib.hid (show (tx q).size ≤ 4000 by rw [tx_size]; exact HOL.out k' q rfl)
    obtain ⟨U, hU⟩ : ∃ U, Lb.unqF q = U := ⟨_, rfl⟩
    have HU := Lib.hid hU
    clear hU
    go_wp2_with fail
    refine (Lb.unquote_any (tx q) _ HQ.out).mono ?_
    rw [tx_data, HU.out]
    rintro y w4 ⟨rfl, hb⟩
    have B4 := Lib.hid (B3'.out.trans (hb.mono B3'.out.size))
    have X4 := Lib.hid (X3.out.below hb)
    obtain ⟨z0, z1, z2⟩ := X4.out.cells
    have f0 := HF.out _ X4.out 0
    have f1 := HF.out _ X4.out 1
    have f2 := HF.out _ X4.out 2
    clear hb
    cases U with
    | none =>
      have HO := Lib.hid (show oneM l = none by
        rw [HON.out]
        unfold oneG
        simp only [HU.out])
      simp only [Lb.unqV]
      go_wp2_with fail
      refine bodyPost_ret (v := .tuple #[.agg #[.string T0, .int .i64 (k' : Int), .string ⟨#[]⟩], .string ⟨#[]⟩, .bool false]) (by simp [results, Tryd.results39, go_sem, z0, z1, z2]) rfl ?_
      rw [HO.out]
      exact ⟨⟨_, _, _, _, _, rfl, Lib.hid rfl⟩, ((B4.out.setCell (p := ⟨h, 0, none⟩) HH.out _).setCell (p := ⟨h, 1, none⟩) HH.out _).setCell (p := ⟨h, 2, none⟩) HH.out _⟩
    | some p2 =>
      obtain ⟨v, r⟩ := p2
      have HO := Lib.hid (show oneM l = some (⟨tx (l.take k), (k' : Int), tx v⟩, r) by
        rw [HON.out]
        unfold oneG
        simp only [HU.out])
      simp only [Lb.unqV]
      go_wp2_with fail
      refine bodyPost_ret (v := .tuple #[.agg #[.string T0, .int .i64 (k' : Int), .string (Lb.tx v)], .string (Lb.tx r), .bool true]) (by simp [results, Tryd.results39, go_sem, z0, z1, z2]) rfl ?_
      rw [HO.out]
      exact ⟨⟨_, _, _, _, _, rfl, Lib.hid ⟨rfl, HT0.out, rfl, rfl, rfl⟩⟩, ((B4.out.setCell (p := ⟨h, 0, none⟩) HH.out _).setCell (p := ⟨h, 1, none⟩) HH.out _).setCell (p := ⟨h, 2, none⟩) HH.out _⟩
end Go.Proofs.YtnabfganecghkaaDoor

/-! All matchers of a text read. -/
namespace Go.Proofs.YtnabfganecghkaaDoor
open Go.RowKit Go.Sort
set_option linter.unusedVariables false

theorem unqR_two : ∀ (n : Nat) (l a b : List UInt8), l.length ≤ n → Lb.unqR l = some (a, b) → a.length + b.length + 1 ≤ l.length
  | n, [], a, b, _, h => by cases h
  | 0, c :: r, a, b, hn, h => by simp at hn
  | n + 1, c :: r, a, b, hn, h => by
    rw [Lb.unqR_cons] at h
    split at h
    · injection h with h
      injection h with h1 h2
      rw [← h1, ← h2]
      simp
    · split at h
      · cases h
      · split at h
        · cases r with
          | nil => cases h
          | cons d r2 =>
            simp only at h
            split at h
            · cases h
            · rename_i m _
              cases hu : Lb.unqR r2 with
              | none => rw [hu] at h; cases h
              | some x =>
                obtain ⟨x1, x2⟩ := x
                rw [hu] at h
                injection h with h
                injection h with h1 h2
                have := unqR_two n r2 x1 x2 (by simp at hn; omega) hu
                rw [← h1, ← h2]
                simp
                omega
        · cases hu : Lb.unqR r with
          | none => rw [hu] at h; cases h
          | some x =>
            obtain ⟨x1, x2⟩ := x
            rw [hu] at h
            injection h with h
            injection h with h1 h2
            have := unqR_two n r x1 x2 (by simp at hn; omega) hu
            rw [← h1, ← h2]
            simp
            omega
theorem unqF_two {l a b : List UInt8} (h : Lb.unqF l = some (a, b)) : a.length + b.length + 1 ≤ l.length := by
  unfold Lb.unqF at h
  split at h
  · have := unqR_two _ _ a b (Nat.le_refl _) h
    rw [List.length_drop] at this
    omega
  · cases h
theorem oneM_len {l r : List UInt8} {m : Mt} (h : oneM l = some (m, r)) : r.length + 1 ≤ l.length ∧ m.nm.size ≤ l.length ∧ m.vl.size ≤ l.length := by
  unfold oneM at h
  split at h
  · cases h
  · cases hs : sgF (l.drop (ixM l).toNat) with
    | none => rw [hs] at h; cases h
    | some p =>
      obtain ⟨k, q⟩ := p
      rw [hs] at h
      have hq := sgF_len hs
      rw [List.length_drop] at hq
      unfold oneG at h
      cases hu : Lb.unqF q with
      | none => simp only [hu] at h; cases h
      | some x =>
        obtain ⟨v, r2⟩ := x
        simp only [hu] at h
        injection h with h
        injection h with h1 h2
        have h3 := unqF_two hu
        subst h1 h2
        refine ⟨by omega, ?_, ?_⟩
        · show (tx (l.take (ixM l).toNat)).size ≤ _
          rw [tx_size, List.length_take]
          omega
        · show (tx v).size ≤ _
          rw [tx_size]
          omega
theorem cut_one (s : ByteArray) (c : UInt8) (w : World) (z : Bool) (h : Lb.hdB s.data.toList c = z) : Calls Tryd.prog 38 #[.string s, .string ⟨#[c]⟩] w fun e w' => e = .returned (.tuple #[.string (tx (if z = true then s.data.toList.drop 1 else s.data.toList)), .bool z]) ∧ w' = w :=
  (Tryd.strings_CutPrefix s ⟨#[c]⟩ w).mono fun e w' ⟨he, hw⟩ => ⟨by
    have hp : Lib.hasPrefix s.data.toList [c] = z := by rw [Lb.pref_one, h]
    have ht : Lib.trimPrefix s.data.toList [c] = if z = true then s.data.toList.drop 1 else s.data.toList := by
      unfold Lib.trimPrefix
      rw [hp]
      rfl
    rw [he]
    show Ending.returned (.tuple #[.string ⟨(Lib.trimPrefix s.data.toList [c]).toArray⟩, .bool (Lib.hasPrefix s.data.toList [c])]) = _
    rw [hp, ht]; rfl, hw⟩
/-- what is read of a text -/
def rdL : Nat → UInt8 → List UInt8 → Option (List Mt)
  | 0, _, _ => none
  | n + 1, c, l => if Lb.hdB l c = true then (match oneM (l.drop 1) with
    | none => none
    | some p => if p.2 = [125] then some [p.1] else (rdL n 44 p.2).map (p.1 :: ·)) else none
def readF (l : List UInt8) : Option (List Mt) := if l = [123, 125] then some [] else rdL (l.length + 1) 123 l
theorem rdL_no {n : Nat} {c : UInt8} {l : List UInt8} (h : Lb.hdB l c = false) : rdL (n + 1) c l = none := by unfold rdL; rw [if_neg (by rw [h]; simp)]
theorem rdL_bad {n : Nat} {c : UInt8} {l : List UInt8} (h1 : Lb.hdB l c = true) (h : oneM (l.drop 1) = none) : rdL (n + 1) c l = none := by unfold rdL; rw [if_pos h1, h]
theorem rdL_end {n : Nat} {c : UInt8} {l r : List UInt8} {m : Mt} (h1 : Lb.hdB l c = true) (h : oneM (l.drop 1) = some (m, r)) (hr : r = [125]) : rdL (n + 1) c l = some [m] := by unfold rdL; rw [if_pos h1, h]; simp [hr]
theorem rdL_on {n : Nat} {c : UInt8} {l r : List UInt8} {m : Mt} (h1 : Lb.hdB l c = true) (h : oneM (l.drop 1) = some (m, r)) (hr : r ≠ [125]) : rdL (n + 1) c l = (rdL n 44 r).map (m :: ·) := by rw [rdL, if_pos h1, h]; simp [hr]
def strL (v : Value) : Nat := match v with
  | .string s => s.size
  | _ => 0
/-- behind each round -/
def RdRel (O : Option (List Mt)) (T : Nat) (w : World) (v0 v4 v5 : Value) (wr : World) : Prop :=
  ∃ (cur : List UInt8) (c : UInt8) (acc : List Mt) (n c1 : Nat) (A : Option Addr), v0 = .string (tx cur) ∧ v5 = .string ⟨#[c]⟩ ∧ v4 = .slice A acc.length c1 ∧ (c = 123 ∨ c = 44) ∧ wr.ownsRow w.heap.size 40 3 (.slice A acc.length c1) acc.length (mtC acc) ∧
  O = (rdL n c cur).map (acc ++ ·) ∧ cur.length < n ∧ acc.length + cur.length ≤ T ∧ Wm acc ∧ Below w.heap.size w wr
def RdP (O : Option (List Mt)) (w : World) (y : Ending) (w' : World) : Prop :=
  ∃ A n c q, y = .returned (.tuple #[.slice A n c, .bool q]) ∧ Hid (match O with
    | none => q = false
    | some ms => q = true ∧ n = ms.length ∧ Mq w' A ms) ∧ Below w.heap.size w w'
set_option maxHeartbeats 4000000 in
set_option maxRecDepth 100000 in
theorem read_any (s : ByteArray) (w : World) (hT : Tab w) (hs : s.size ≤ 4000) : Calls Tryd.prog 26 #[.string s] w (RdP (readF s.data.toList) w) := by
  obtain ⟨l, hl⟩ : ∃ l, s.data.toList = l := ⟨_, rfl⟩
  have hls : l.length = s.size := by rw [← hl, Array.length_toList]; rfl
  have hsx : s = tx l := by rw [← hl, tx_of]
  have hsl : s.toList = l := by rw [Lib.toList_data]; exact hl
  rw [hl]
  obtain ⟨O, hO⟩ : ∃ O, readF l = O := ⟨_, rfl⟩
  have HO := Lib.hid hO
  rw [hO]
  by_cases hbr : l = [123, 125]
  · have HF := Lib.hid (show O = some [] by rw [← HO.out]; unfold readF; rw [if_pos hbr])
    have he : (s.toList == [123, 125]) = true := by rw [hsl, hbr]; rfl
    clear hO hl hls hsl hsx
    go_enter Tryd.func26, Tryd.ntmps26
    go_wp2_with fail
    go_ret2
    refine ⟨none, 0, 0, true, rfl, Lib.hid ?_, Below.refl _ _⟩
    rw [HF.out]
    exact ⟨rfl, rfl, Mq.nil _ _⟩
  · have he : (s.toList == [123, 125]) = false := by
      rw [hsl]
      simpa using hbr
    have R0 := Lib.hid (show RdRel O l.length w (.string s) (.slice none 0 0) (.string ⟨#[123]⟩) w from ⟨l, 123, [], l.length + 1, 0, none, by rw [hsx], rfl, rfl, .inl rfl, World.ownsRow_nil _ _ _ _, by
      rw [← hO]
      unfold readF
      rw [if_neg hbr]
      cases rdL (l.length + 1) 123 l <;> simp, by omega, by simp, fun m hm => by simp at hm, Below.refl _ _⟩)
    have HLN := Lib.hid (show l.length ≤ 4000 by omega)
    have HT := Lib.hid hT
    clear hO hl hls hsl hsx hbr hT
    go_enter Tryd.func26, Tryd.ntmps26
    go_wp2_with fail
    go_loopw [0, 4, 5] (fun v0 v4 v5 wr => Hid (RdRel O l.length w v0 v4 v5 wr)) (fun v0 _ _ _ => strL v0)
    case atStart => exact R0
    case round =>
      clear R0
      obtain ⟨cur, c, acc, n, c1, A, rfl, rfl, rfl, hc, hown, hrd, hn, hlen, hwm, hb⟩ := hrel.out
      clear hrel
      have HOWN := Lib.hid hown
      have HB := Lib.hid hb
      have HRD := Lib.hid hrd
      have HWM := Lib.hid hwm
      have HLE := Lib.hid (And.intro hn hlen)
      obtain ⟨n', rfl⟩ : ∃ n', n = n' + 1 := ⟨n - 1, by omega⟩
      obtain ⟨z, hz⟩ : ∃ z, Lb.hdB cur c = z := ⟨_, rfl⟩
      have HZ := Lib.hid hz
      obtain ⟨tl, htl⟩ : ∃ tl, (if z = true then cur.drop 1 else cur) = tl := ⟨_, rfl⟩
      have HTL := Lib.hid htl
      have HCUT := Lib.hid (fun (W : World) => show Calls Tryd.prog 38 #[.string (tx cur), .string ⟨#[c]⟩] W fun e w' => e = .returned (.tuple #[.string (tx tl), .bool z]) ∧ w' = W from by
        have := cut_one (tx cur) c W z (by rw [tx_data]; exact hz)
        rw [tx_data, htl] at this
        exact this)
      have hT4 : (tx tl).size ≤ 4000 := by
        rw [tx_size, ← htl]
        have := HLN.out
        split
        · rw [List.length_drop]; omega
        · omega
      have HT4 := Lib.hid hT4
      obtain ⟨P, hP⟩ : ∃ P, oneM tl = P := ⟨_, rfl⟩
      have HP := Lib.hid hP
      have HON := Lib.hid (show Calls Tryd.prog 39 #[.string (tx tl)] wr fun y w' => OnP P y ∧ Below wr.heap.size wr w' from by
        have := oneM_any (tx tl) wr (HT.out.below hb) hT4
        rw [tx_data, hP] at this
        exact this)
      clear hown hb hrd hwm hn hlen hz htl hT4 hP
      go_wp2_with fail
      refine (HCUT.out _).mono ?_
      rintro y w2 ⟨rfl, rfl⟩
      go_wp2_with fail
      refine HON.out.mono ?_
      rintro y w3 ⟨⟨nm, op, vl, rest, q, rfl, hq⟩, hb3⟩
      have HQ := hq
      obtain ⟨W4, hW4⟩ : ∃ W4, w3.alloc (.cells #[.string nm, .int .i64 op, .string vl] 40 (0, 0)) = W4 := ⟨_, rfl⟩
      obtain ⟨g4, hg4⟩ : ∃ g4, w3.heap.size = g4 := ⟨_, rfl⟩
      have b34 : Below w3.heap.size w3 W4 := hW4 ▸ (Below.refl _ _).alloc (Nat.le_refl _) _
      have X4 := Lib.hid (show B3 W4 g4 nm op vl from hg4 ▸ hW4 ▸ B3.new w3 _ _ _)
      have O4 := Lib.hid (own_below (own_below HOWN.out hb3) b34)
      have B4 := Lib.hid (HB.out.trans ((hb3.trans (b34.mono hb3.size)).mono HB.out.size))
      obtain ⟨x0, x1, x2⟩ := X4.out.cells
      clear hb3 b34 hq
      cases z with
      | false =>
        have HF := Lib.hid (show O = none by rw [HRD.out, rdL_no HZ.out]; rfl)
        go_wp2_with fail
        go_ret2
        refine ⟨none, 0, 0, false, rfl, Lib.hid ?_, B4.out⟩
        rw [HF.out]
      | true =>
        have HTL2 := Lib.hid (show cur.drop 1 = tl from HTL.out)
        cases P with
        | none =>
          have hq : q = false := HQ.out
          subst hq
          have HF := Lib.hid (show O = none by rw [HRD.out, rdL_bad HZ.out (by rw [HTL2.out]; exact HP.out)]; rfl)
          go_wp2_with fail
          go_ret2
          refine ⟨none, 0, 0, false, rfl, Lib.hid ?_, B4.out⟩
          rw [HF.out]
        | some p =>
          obtain ⟨m, r⟩ := p
          obtain ⟨hq, h1, h2, h3, h4⟩ : q = true ∧ nm = m.nm ∧ op = m.op ∧ vl = m.vl ∧ rest = tx r := HQ.out
          subst hq h1 h2 h3 h4
          have hol := oneM_len HP.out
          have HOL := Lib.hid (show r.length + 1 ≤ cur.length ∧ m.nm.size ≤ 4000 ∧ m.vl.size ≤ 4000 by
            have h5 := HLE.out
            have h6 := HLN.out
            have h7 : tl.length ≤ cur.length := by rw [← HTL2.out, List.length_drop]; omega
            omega)
          have hrs : (tx r).toList = r := by rw [Lib.toList_data, tx_data]
          obtain ⟨W5, hW5⟩ : ∃ W5, W4.alloc (.cells #[.string m.nm, .int .i64 m.op, .string m.vl] 40 (0, 0)) = W5 := ⟨_, rfl⟩
          obtain ⟨g5, hg5⟩ : ∃ g5, W4.heap.size = g5 := ⟨_, rfl⟩
          have b45 : Below W4.heap.size W4 W5 := hW5 ▸ (Below.refl _ _).alloc (Nat.le_refl _) _
          have O5 := Lib.hid (own_below O4.out b45)
          have B5 := Lib.hid (B4.out.trans (b45.mono B4.out.size))
          have HY := Lib.hid (new_m3 hg5 hW5)
          have HWM2 := Lib.hid (show Wm (acc ++ [m]) from fun x hx => by
            rcases List.mem_append.1 hx with hx | hx
            · exact HWM.out x hx
            · simp at hx
              subst hx
              have := HOL.out
              unfold Wt
              omega)
          have HSZ := Lib.hid (show (acc.length + 1) * 40 ≤ 140737488355328 by have := HLE.out; have := HLN.out; omega)
          clear hol b45
          by_cases hr : r = [125]
          · have hre : ((tx r).toList == [125]) = true := by rw [hrs, hr]; rfl
            have HF := Lib.hid (show O = some (acc ++ [m]) by rw [HRD.out, rdL_end HZ.out (by rw [HTL2.out]; exact HP.out) hr]; rfl)
            clear hr hrs
            go_wp2_with (at_builtin; refine app_mt rfl _ _ rfl w.heap.size A acc.length c1 acc rfl O5.out g5 rfl m HY.out HSZ.out B5.out.size ?_; intro A7 c7 w7 ho7 hg7; have HO7 := Lib.hid ho7; have HB7 := Lib.hid (B5.out.grown hg7 B5.out.size (fun k hk => (O5.out.lt k hk).1)); clear ho7 hg7)
            go_ret2
            refine ⟨A7, acc.length + 1, c7, true, rfl, Lib.hid ?_, HB7.out⟩
            rw [HF.out]
            exact ⟨rfl, by simp, by have := HLE.out; have := HLN.out; simp; omega, HWM2.out, own_cl HO7.out⟩
          · have hre : (r == [125]) = false := by simpa using hr
            have HF := Lib.hid (show O = (rdL n' 44 r).map ((acc ++ [m]) ++ ·) by
              rw [HRD.out, rdL_on HZ.out (by rw [HTL2.out]; exact HP.out) hr]
              cases rdL n' 44 r <;> simp)
            go_wp2_with (at_builtin; refine app_mt rfl _ _ rfl w.heap.size A acc.length c1 acc rfl O5.out g5 rfl m HY.out HSZ.out B5.out.size ?_; intro A7 c7 w7 ho7 hg7; have HO7 := Lib.hid ho7; have HB7 := Lib.hid (B5.out.grown hg7 B5.out.size (fun k hk => (O5.out.lt k hk).1)); clear ho7 hg7)
            go_roundw
            case rel => exact Lib.hid ⟨r, 44, acc ++ [m], n', c7, A7, rfl, rfl, by simp, .inr rfl, by simpa using HO7.out, HF.out, by have := HLE.out; have := HOL.out; omega, by have := HLE.out; have := HOL.out; simp; omega, HWM2.out, HB7.out⟩
            case measure =>
              have := HOL.out
              show (tx r).size < (tx cur).size
              rw [tx_size, tx_size]
              omega
/-- Parse: what comes out -/
noncomputable def parE (l : List UInt8) : Int := match readF l with
  | none => 6
  | some ms => newE ms
def PaP (l : List UInt8) (w : World) (y : Ending) (w' : World) : Prop :=
  ∃ p, y = .returned (.tuple #[p, .int .i64 (parE l)]) ∧ Hid ((parE l = 0 ∧ ∃ g ms, readF l = some ms ∧ p = .pointer (some ⟨g, 0, none⟩) ∧ Sel w' g ms) ∨ (parE l ≠ 0 ∧ p = .pointer none)) ∧ Below w.heap.size w w'
set_option maxHeartbeats 1000000 in
theorem mparse_any (s : ByteArray) (w : World) (hT : Tab w) (hs : s.size ≤ 4000) : Calls Tryd.prog 14 #[.string s] w (PaP s.data.toList w) := by
  obtain ⟨l, hl⟩ : ∃ l, s.data.toList = l := ⟨_, rfl⟩
  have HR := Lib.hid (read_any s w hT hs)
  rw [hl] at HR ⊢
  have HT := Lib.hid hT
  clear hl hT
  go_enter Tryd.func14, Tryd.ntmps14
  go_wp2_with fail
  refine HR.out.mono ?_
  rintro y w2 ⟨A, n, c, q, rfl, hq, hb⟩
  have HQ := hq
  have HB := Lib.hid hb
  clear hq hb
  cases hO : readF l with
  | none =>
    have h1 := HQ.out
    rw [hO] at h1
    have hqf : q = false := h1
    subst hqf
    have HE := Lib.hid (show parE l = 6 by unfold parE; rw [hO])
    clear h1 hO
    go_wp2_with fail
    go_ret2
    exact ⟨.pointer none, by rw [HE.out]; rfl, Lib.hid (.inr ⟨by rw [HE.out]; decide, rfl⟩), HB.out⟩
  | some ms =>
    have h1 := HQ.out
    rw [hO] at h1
    obtain ⟨hqt, hn, hmq⟩ : q = true ∧ n = ms.length ∧ Mq w2 A ms := h1
    subst hqt
    have HE := Lib.hid (show parE l = newE ms by unfold parE; rw [hO])
    have HN := Lib.hid (new_any A n c ms w2 hn (HT.out.below HB.out) hmq)
    have HOO := Lib.hid hO
    clear hO hn hmq
    go_wp2_with fail
    refine HN.out.mono ?_
    rintro y w3 ⟨p, rfl, hp, hb⟩
    have HP := hp
    have HB3 := Lib.hid (HB.out.trans (hb.mono HB.out.size))
    clear hp hb
    go_wp2_with fail
    go_ret2
    refine ⟨p, by rw [HE.out]; rfl, Lib.hid ?_, HB3.out⟩
    rcases HP.out with ⟨h1, g, h2, h3⟩ | ⟨h1, h2⟩
    · exact .inl ⟨by rw [HE.out]; exact h1, g, ms, HOO.out, h2, h3⟩
    · exact .inr ⟨by rw [HE.out]; exact h1, h2⟩
end Go.Proofs.YtnabfganecghkaaDoor
