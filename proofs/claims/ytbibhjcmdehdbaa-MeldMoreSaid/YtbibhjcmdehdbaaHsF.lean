/- What a map of counts holds, as a function; a look-up, a store, a range, adding to an entry. -/
import Derived.Test.YtbibhjcmdehdbaaHsDb
import Derived.Maps.RangeWalk
import Derived.Maps.Ext
import Derived.WideKeyEntry
import Derived.DeepKeys4
/-! Maps whose keys are where a bucket is: what such a map holds, key by key; the laws of a look-up, a store, and of adding to an entry. -/
namespace Go.Proofs.Ytbibhjcmdehdbaa
open Go.RowKit Go.Sort Go.Maps
open Go.ChangeMaps (setBlock heap_setBlock_same heap_setBlock_other)
open Go.WideElems (Fit)
set_option linter.unusedVariables false
set_option maxRecDepth 100000

theorem laidOutK : laidOutB Try.prog = true := by kernel_rfl
theorem rowK : (48 : TypeId) < Try.prog.types.size := of_decide_eq_true (by kernel_rfl)
theorem wideK : (match Try.prog.underlying 48 with | some (.array _ _) | some (.struct _) => true | _ => false) = true := by rw [Try.underlying48]
theorem lawK0 : WideMaps.KeyLaw Try.prog 48 := deep_law_laid laidOutK (m := 2) (by omega) rowK (by kernel_rfl) wideK
theorem lawK : Keyed Try.prog 48 := Keyed.of_law lawK0
theorem keyTypeK : Try.prog.keyType 48 = true := by kernel_rfl
theorem cellsK : Try.prog.cellsOf 48 = 3 := by kernel_rfl
theorem cellsI : Try.prog.cellsOf 3 = 1 := by kernel_rfl
/-- what an int has -/
def I64 (n : Int) : Prop := -9223372036854775808 ≤ n ∧ n ≤ 9223372036854775807
theorem wf_of {n : Int} (h : I64 n) : (Lit.int .i64 n).wf = true := by
  obtain ⟨h1, h2⟩ := h
  exact WalkArith.wf_i64 ⟨h1, h2⟩
def kL (s c i : Int) : Lit := .string (keyBytes [.int .i64 s, .int .i64 c, .int .i64 i])
theorem lits_int (d : Nat) {n : Int} (h : (Lit.int .i64 n).wf = true) : Try.prog.keyLits (d + 1) 3 [.int .i64 n] = some [.int .i64 n] := by
  unfold Program.keyLits
  simp [Try.underlying3, h]
theorem lits_key (d : Nat) {s c i : Int} (h1 : (Lit.int .i64 s).wf = true) (h2 : (Lit.int .i64 c).wf = true) (h3 : (Lit.int .i64 i).wf = true) : Try.prog.keyLits (d + 2) 48 [.int .i64 s, .int .i64 c, .int .i64 i] = some [.int .i64 s, .int .i64 c, .int .i64 i] := by
  unfold Program.keyLits
  simp [Try.underlying48, cellsK, cellsI, lits_int d h1, lits_int d h2, lits_int d h3]
theorem sizeK : ∃ m, Try.prog.types.size + 1 = m + 2 := by
  have h : (48 : Nat) < Try.prog.types.size := rowK
  exact ⟨Try.prog.types.size - 1, by omega⟩
theorem key_mk {s c i : Int} (hs : I64 s) (hc : I64 c) (hi : I64 i) : keyOf Try.prog 48 (.agg #[.int .i64 s, .int .i64 c, .int .i64 i]) = some (kL s c i) := by
  obtain ⟨m, hm⟩ := sizeK
  have hf : (Value.agg #[.int .i64 s, .int .i64 c, .int .i64 i]).formed Try.prog 48 = true := by simp [Value.formed, Try.underlying48, cellsK]
  unfold keyOf
  rw [Try.underlying48]
  simp only
  rw [keyTypeK, hf, hm]
  simp [Value.cells, lits_key m (wf_of hs) (wf_of hc) (wf_of hi), kL]
theorem of_wf {n : Int} (h : (Lit.int .i64 n).wf = true) : I64 n := by
  simp [Lit.wf, IntKind.min, IntKind.max, IntKind.signed, IntKind.bits] at h
  exact ⟨by omega, by omega⟩
theorem lits_int_inv (d : Nat) {cs : List Value} {l : List Lit} (h : Try.prog.keyLits d 3 cs = some l) : ∃ n, cs = [.int .i64 n] ∧ I64 n := by
  cases d with
  | zero => simp [Program.keyLits] at h
  | succ d =>
    unfold Program.keyLits at h
    rw [Try.underlying3] at h
    cases cs with
    | nil => simp at h
    | cons a r =>
      cases r with
      | cons b t => simp at h
      | nil =>
        cases a <;> simp at h
        obtain ⟨⟨rfl, hw⟩, _⟩ := h
        exact ⟨_, rfl, of_wf hw⟩
theorem key_inv {v : Value} {l : Lit} (h : keyOf Try.prog 48 v = some l) : ∃ s c i, v = .agg #[.int .i64 s, .int .i64 c, .int .i64 i] ∧ I64 s ∧ I64 c ∧ I64 i ∧ l = kL s c i := by
  obtain ⟨m, hm⟩ := sizeK
  have h0 := h
  unfold keyOf at h
  rw [Try.underlying48] at h
  simp only at h
  split at h
  · rename_i hc
    rw [keyTypeK, Bool.true_and] at hc
    cases v <;> simp [Value.formed, Try.underlying48, cellsK] at hc
    rename_i cs
    obtain ⟨ls, hl, hls⟩ := Option.map_eq_some_iff.1 h
    rw [hm] at hl
    unfold Program.keyLits at hl
    simp only [Try.underlying48] at hl
    have h3 : cs.toList.length = 3 := by simpa using hc
    obtain ⟨l0⟩ := cs
    match l0, h3 with
    | [a, b, c], _ =>
      simp [Value.cells, cellsK, cellsI] at hl
      cases hx : Try.prog.keyLits (m + 1) 3 [a] with
      | none => simp [hx] at hl
      | some x =>
        cases hy : Try.prog.keyLits (m + 1) 3 [b] with
        | none => simp [hx, hy] at hl
        | some y =>
          cases hz : Try.prog.keyLits (m + 1) 3 [c] with
          | none => simp [hx, hy, hz] at hl
          | some z =>
            obtain ⟨n0, e0, w0⟩ := lits_int_inv _ hx
            obtain ⟨n1, e1, w1⟩ := lits_int_inv _ hy
            obtain ⟨n2, e2, w2⟩ := lits_int_inv _ hz
            simp at e0 e1 e2
            subst e0 e1 e2
            refine ⟨n0, n1, n2, rfl, w0, w1, w2, ?_⟩
            rw [key_mk w0 w1 w2] at h0
            exact (Option.some.inj h0).symm
  · cases h
theorem kL_inj {s c i s' c' i' : Int} (hs : I64 s) (hc : I64 c) (hi : I64 i) (hs' : I64 s') (hc' : I64 c') (hi' : I64 i') (h : kL s c i = kL s' c' i') : s = s' ∧ c = c' ∧ i = i' := by
  have h1 := key_mk hs hc hi
  rw [h] at h1
  have h2 := lawK.inj h1 (key_mk hs' hc' hi')
  simpa using h2
theorem kL_key (s c i : Int) : WideAt.IsKeyLit (kL s c i) := trivial
end Go.Proofs.Ytbibhjcmdehdbaa

/-! What a map of counts holds, as a function; a look-up, a store, a range, adding to an entry. -/
namespace Go.Proofs.Ytbibhjcmdehdbaa
open Go.RowKit Go.Sort Go.Maps
open Go.ChangeMaps (setBlock heap_setBlock_same heap_setBlock_other)
open Go.WideElems (Fit entry_then_store)
set_option linter.unusedVariables false
set_option maxRecDepth 100000

/-- what a uint64 has -/
def U64 (n : Int) : Prop := 0 ≤ n ∧ n ≤ 18446744073709551615
theorem wfu_of {n : Int} (h : U64 n) : (Lit.int .u64 n).wf = true := WalkArith.wf_u64 h
abbrev F3 := Int → Int → Int → Int
def upd (f : F3) (s c i n : Int) : F3 := fun s' c' i' => if s' = s ∧ c' = c ∧ i' = i then n else f s' c' i'
/-- what a map of counts holds, by the key's side, schema and index: nought where it has none -/
def Rd (D : DataW Unit) (f : F3) : Prop :=
  Tidy D ∧ (∀ s c i, I64 s → I64 c → I64 i → D.atKey (kL s c i) (.lit (.int .u64 0)) = .lit (.int .u64 (f s c i)) ∧ (has D (kL s c i) = true ↔ f s c i ≠ 0)) ∧
  ∃ L : List (Int × Int × Int), L.Nodup ∧ (∀ k ∈ L, I64 k.1 ∧ I64 k.2.1 ∧ I64 k.2.2) ∧ (∀ s c i, I64 s → I64 c → I64 i → (f s c i ≠ 0 ↔ (s, c, i) ∈ L)) ∧ size D = L.length
theorem Rd.empty : Rd (.map []) (fun _ _ _ => 0) :=
  ⟨tidy_empty, fun s c i _ _ _ => ⟨rfl, by simp [has]⟩, [], List.nodup_nil, by simp, by simp, rfl⟩
theorem Rd.put {D : DataW Unit} {f : F3} (h : Rd D f) {s c i n : Int} (hs : I64 s) (hc : I64 c) (hi : I64 i) (hn : n ≠ 0) : Rd (D.put (kL s c i) (.lit (.int .u64 n))) (upd f s c i n) := by
  obtain ⟨ht, hr, L, hL1, hL2, hL3, hL4⟩ := h
  refine ⟨ht.put (kL_key s c i) _, fun s' c' i' hs' hc' hi' => ?_, ?_⟩
  · by_cases he : s' = s ∧ c' = c ∧ i' = i
    · obtain ⟨rfl, rfl, rfl⟩ := he
      rw [atKey_put_same ht.isMap (kL_key _ _ _), has_put_same ht.isMap (kL_key _ _ _)]
      simp [upd, hn]
    · have hne : kL s' c' i' ≠ kL s c i := fun e => he (kL_inj hs' hc' hi' hs hc hi e)
      rw [atKey_put_other hne, has_put_other hne]
      simp only [upd, if_neg he]
      exact hr s' c' i' hs' hc' hi'
  · rw [size_put ht]
    by_cases hh : has D (kL s c i) = true
    · rw [if_pos hh]
      have hm : (s, c, i) ∈ L := (hL3 s c i hs hc hi).1 ((hr s c i hs hc hi).2.1 hh)
      refine ⟨L, hL1, hL2, fun s' c' i' hs' hc' hi' => ?_, hL4⟩
      by_cases he : s' = s ∧ c' = c ∧ i' = i
      · obtain ⟨rfl, rfl, rfl⟩ := he
        simp [upd, hn, hm]
      · simp only [upd, if_neg he]
        exact hL3 s' c' i' hs' hc' hi'
    · rw [if_neg hh]
      have hm : (s, c, i) ∉ L := fun hm => hh ((hr s c i hs hc hi).2.2 ((hL3 s c i hs hc hi).2 hm))
      refine ⟨(s, c, i) :: L, List.nodup_cons.2 ⟨hm, hL1⟩, fun k hk => ?_, fun s' c' i' hs' hc' hi' => ?_, by simp [hL4]⟩
      · rcases List.mem_cons.1 hk with rfl | hk
        · exact ⟨hs, hc, hi⟩
        · exact hL2 k hk
      · by_cases he : s' = s ∧ c' = c ∧ i' = i
        · obtain ⟨rfl, rfl, rfl⟩ := he
          simp [upd, hn]
        · simp only [upd, List.mem_cons, Prod.mk.injEq, he, false_or]
          exact hL3 s' c' i' hs' hc' hi'
theorem Rd.ext {D : DataW Unit} {f g : F3} (h : Rd D f) (e : ∀ s c i, f s c i = g s c i) : Rd D g := by
  have : f = g := funext fun s => funext fun c => funext fun i => e s c i
  rw [← this]; exact h
theorem Rd.size_eq {D : DataW Unit} {f : F3} (h : Rd D f) (L : List (Int × Int × Int)) (h1 : L.Nodup) (h2 : ∀ k ∈ L, I64 k.1 ∧ I64 k.2.1 ∧ I64 k.2.2) (h3 : ∀ s c i, I64 s → I64 c → I64 i → (f s c i ≠ 0 ↔ (s, c, i) ∈ L)) : size D = L.length := by
  obtain ⟨_, _, M, m1, m2, m3, m4⟩ := h
  rw [m4]
  apply List.Perm.length_eq
  rw [List.perm_ext_iff_of_nodup m1 h1]
  intro ⟨s, c, i⟩
  constructor
  · intro hk
    obtain ⟨a, b, d⟩ := m2 _ hk
    exact (h3 s c i a b d).1 ((m3 s c i a b d).2 hk)
  · intro hk
    obtain ⟨a, b, d⟩ := h2 _ hk
    exact (m3 s c i a b d).1 ((h3 s c i a b d).2 hk)

/-- a map of counts -/
def Cm (w : World) (b n : Nat) (f : F3) : Prop := ∃ D : DataW Unit, w.ownsMap Try.prog 48 (plainElem Try.prog 22) b n D ∧ Rd D f
theorem zeroU (w : World) : (zeroValue 22).run Try.prog w = .ok (.int .u64 0) w := by kernel_rfl

theorem entry_own {w : World} {b n : Nat} {D : DataW Unit} (h : w.ownsMap Try.prog 48 (plainElem Try.prog 22) b n D) (hn : n < maxLen) {key : Value} {kl : Lit} (hkey : keyOf Try.prog 48 key = some kl) (hkl : WideAt.IsKeyLit kl) {c : Int} (hc : D.atKey kl (.lit (.int .u64 0)) = .lit (.int .u64 c)) :
    ∃ (v0 : Value) (st : Nat) (w1 : World), (Instr.mapEntry 137 (.map (some b)) key).run Try.prog w = .ok (.tuple #[v0, .int .i64 (st : Int)]) w1 ∧ (Instr.lookup 137 (.map (some b)) key false).run Try.prog w1 = .ok (.int .u64 c) w1 ∧
      ∀ x, U64 x → ∃ w2, (Instr.entryStore 137 (.map (some b)) (.int .i64 (st : Int)) (.int .u64 x)).run Try.prog w1 = .ok () w2 ∧ w2.ownsMap Try.prog 48 (plainElem Try.prog 22) b (n + 1) (D.put kl (.lit (.int .u64 x))) ∧ w.grownBy w2 (some b) := by
  have hown := h
  obtain ⟨es, clock, hb, F, hs, hD⟩ := h
  obtain ⟨v0, st, es1, clock1, hrun, hwho, hst⟩ := entry_then_store lawK0 Try.underlying137 zeroU hb F hkey
  refine ⟨v0, st, setBlock w b (.map es1 clock1), hrun, ?_, fun x hx => ?_⟩
  · have hw1 : ∃ D1 : DataW Unit, (setBlock w b (.map es1 clock1)).ownsMap Try.prog 48 (plainElem Try.prog 22) b (n + 1) D1 ∧ D1.atKey kl (.lit (.int .u64 0)) = .lit (.int .u64 c) := by
      rcases lawK0.find w hkey es.toList F.keys with ⟨f1, f2⟩ | ⟨j, e0, f1, f2, f3⟩
      · have hA : (Instr.mapEntry 137 (.map (some b)) key).run Try.prog w = .ok (.tuple #[.int .u64 0, goInt clock]) (setBlock w b (.map (es.push ⟨key, .int .u64 0, clock⟩) (clock + 1))) := by
          simp [Instr.mapEntry, run_underlying Try.underlying137, MapKept.run_getObj_map hb, lawK0.check w false hkey, f1, MapKept.run_setObj_map _ hb, Result.andThen, setBlock]
        have hU : (Instr.mapUpdate 137 (.map (some b)) key (.int .u64 0)).run Try.prog w = .ok () (setBlock w b (.map (es.push ⟨key, .int .u64 0, clock⟩) (clock + 1))) := by
          simp [Instr.mapUpdate, run_underlying Try.underlying137, MapKept.run_getObj_map hb, lawK0.check w false hkey, f1, MapKept.run_setObj_map _ hb, Result.andThen, setBlock]
        have hl0 : (Instr.lookup 137 (.map (some b)) key false).run Try.prog w = .ok (.int .u64 0) w := by
          simp [Instr.lookup, run_underlying Try.underlying137, MapKept.run_getObj_map hb, lawK0.check w _ hkey, f1, Result.andThen]
        obtain ⟨c', hr', hat', _⟩ := hown.lookup_int lawK Try.underlying137 Try.underlying22 (zeroU _) hkey
        rw [hl0] at hr'
        have hc0 : c = 0 := by
          rw [hat'] at hc
          simp at hc hr'
          omega
        obtain ⟨w', hu, ho, _⟩ := hown.update lawK Try.underlying137 hn hkey (plainElem_int Try.underlying22 (wfu_of (n := 0) ⟨by decide, by decide⟩))
        rw [hrun] at hA
        rw [hU] at hu
        have e1 : setBlock w b (.map es1 clock1) = w' := by
          simp at hA hu
          rw [hA.2, hu]
        rw [e1]
        exact ⟨_, ho, by rw [atKey_put_same hown.isMap hkl, hc0]⟩
      · have hj : es[j]? = some e0 := by simpa using f2
        have hA : ∃ v, (Instr.mapEntry 137 (.map (some b)) key).run Try.prog w = .ok v (setBlock w b (.map es clock)) := by
          have hsame : es.modify j (fun e => { e with key := key }) = es := by
            apply Array.ext_getElem?
            intro k
            rw [Array.getElem?_modify]
            split
            · rename_i hk
              subst hk
              rw [hj, ← f3]; rfl
            · rfl
          exact ⟨.tuple #[e0.val, goInt e0.born], by simp [Instr.mapEntry, run_underlying Try.underlying137, MapKept.run_getObj_map hb, lawK0.check w false hkey, f1, hj, f3, lawK0.stays w hkey, hsame, MapKept.run_setObj_map _ hb, Result.andThen, setBlock]⟩
        obtain ⟨v, hA⟩ := hA
        rw [hrun] at hA
        have e1 : setBlock w b (.map es1 clock1) = setBlock w b (.map es clock) := by
          simp at hA
          exact hA.2
        rw [e1]
        exact ⟨D, ⟨es, clock, heap_setBlock_same hb _, F, by omega, hD⟩, hc⟩
    obtain ⟨D1, ho, hat⟩ := hw1
    obtain ⟨c', hr', hat', _⟩ := ho.lookup_int lawK Try.underlying137 Try.underlying22 (zeroU _) hkey
    rw [hat] at hat'
    have : c = c' := by simpa using hat'
    rw [hr', this]
  · obtain ⟨es', clock', h1, h2⟩ := hst (setBlock w b (.map es1 clock1)) (.int .u64 x) (heap_setBlock_same hb _)
    obtain ⟨w', hu, ho, hg⟩ := hown.update lawK Try.underlying137 hn hkey (plainElem_int Try.underlying22 (wfu_of hx))
    rw [h2] at hu
    have e1 : w' = setBlock w b (.map es' clock') := by simpa using hu.symm
    have e2 : setBlock (setBlock w b (.map es1 clock1)) b (.map es' clock') = setBlock w b (.map es' clock') := by simp [setBlock]
    refine ⟨setBlock w b (.map es' clock'), ?_, e1 ▸ ho, e1 ▸ hg⟩
    rw [← e2]
    exact h1
end Go.Proofs.Ytbibhjcmdehdbaa
