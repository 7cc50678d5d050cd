/- The document's Used. -/
import Derived.Test.YtamhgbkdljggbaaDkV
import Derived.Test.YtamhgbkdljggbaaDkK
namespace Go.Proofs.Ytamhgbkdljggbaa.Dk
open Go.RowKit Go.Maps
set_option linter.unusedVariables false

/-- what those that are left have -/
def remN (L : List Nm) (f : Nm → Int) (left : Lit → Bool) : Int := ((L.filter (fun s => left (.string s))).map f).sum
theorem remN_cons (s : Nm) (L : List Nm) (f : Nm → Int) (left : Lit → Bool) : remN (s :: L) f left = (if left (.string s) = true then f s else 0) + remN L f left := by
  unfold remN
  rw [List.filter_cons]
  split <;> simp
theorem remN_step {L : List Nm} {f : Nm → Int} {left : Lit → Bool} {x : Nm} (hn : L.Nodup) (hm : x ∈ L) (hl : left (.string x) = true) : remN L f left = f x + remN L f (fun z => left z && !z.sameKey (.string x)) := by
  induction L with
  | nil => cases hm
  | cons a r ih =>
    obtain ⟨n1, n2⟩ := List.nodup_cons.1 hn
    rw [remN_cons, remN_cons]
    by_cases ha : a = x
    · subst ha
      have hr : remN r f (fun z => left z && !z.sameKey (.string a)) = remN r f left := by
        unfold remN
        congr 2
        refine List.filter_congr fun s hs => ?_
        have hne : s ≠ a := fun e => n1 (e ▸ hs)
        simp [Lit.sameKey, hne]
      rw [hr, if_pos hl, if_neg (by simp [Lit.sameKey])]
      omega
    · have hx : x ∈ r := by
        rcases List.mem_cons.1 hm with h | h
        · exact absurd h.symm ha
        · exact h
      rw [ih n2 hx]
      have e : (left (.string a) && !(Lit.string a).sameKey (.string x)) = left (.string a) := by simp [Lit.sameKey, ha]
      simp only [e]
      omega
theorem remN_all {L : List Nm} {f : Nm → Int} {left : Lit → Bool} (h : ∀ s ∈ L, left (.string s) = true) : remN L f left = (L.map f).sum := by
  unfold remN
  rw [List.filter_eq_self.2 h]
theorem remN_none {L : List Nm} {f : Nm → Int} {left : Lit → Bool} (h : ∀ kl, left kl = false) : remN L f left = 0 := by
  unfold remN
  rw [List.filter_eq_nil_iff.2 (fun s _ => by rw [h]; simp)]
  rfl
theorem remN_nonneg {L : List Nm} {f : Nm → Int} (left : Lit → Bool) (h : ∀ s ∈ L, 0 ≤ f s) : 0 ≤ remN L f left := by
  induction L with
  | nil => simp [remN]
  | cons a r ih =>
    rw [remN_cons]
    have h1 := h a List.mem_cons_self
    have h2 := ih (fun s hs => h s (List.mem_cons_of_mem _ hs))
    split <;> omega
theorem sum_le {L : List Nm} {f : Nm → Int} {M : Nat} (h : ∀ s ∈ L, f s ≤ M) : (L.map f).sum ≤ ((L.length * M : Nat) : Int) := by
  induction L with
  | nil => simp
  | cons a r ih =>
    have h1 := h a List.mem_cons_self
    have h2 := ih (fun s hs => h s (List.mem_cons_of_mem _ hs))
    simp only [List.map_cons, List.sum_cons, List.length_cons]
    rw [Nat.succ_mul]
    push_cast at h2 ⊢
    omega
theorem remN_le {L : List Nm} {f : Nm → Int} (left : Lit → Bool) (h : ∀ s ∈ L, 0 ≤ f s) : remN L f left ≤ (L.map f).sum := by
  induction L with
  | nil => simp [remN]
  | cons a r ih =>
    rw [remN_cons]
    have h1 := h a List.mem_cons_self
    have h2 := ih (fun s hs => h s (List.mem_cons_of_mem _ hs))
    simp only [List.map_cons, List.sum_cons]
    split <;> omega
def tlen (xs : List Value) (m : Nat) : Int := match xs[m * 2]? with | some (.string s) => (s.size : Int) | _ => 0
def fU (D : DataW Unit) (xs : List Value) (s : Nm) : Int := tlen xs (litN (D.atKey (.string s) (.lit (.int .i64 0)))).toNat
def usedT (D : DataW Unit) (xs : List Value) : Int := ((strKeys D).map (fU D xs)).sum
theorem keys_has {w : World} {b K : Nat} {D : DataW Unit} (h : w.ownsMap Try.prog 9 numR b K D) : (strKeys D).Nodup ∧ (∀ s, s ∈ strKeys D ↔ has D (.string s) = true) ∧ (strKeys D).length ≤ K := by
  have hsz := h.size_le
  obtain ⟨es, hD, hp, _⟩ := h.entries KS
  obtain ⟨es', hD', hk⟩ := h.keysOf
  obtain rfl : es = es' := by rw [hD] at hD'; simpa using hD'
  subst hD
  have hs : ∀ p ∈ es, ∃ x, p.1 = .string x := fun p hp => by
    obtain ⟨v, hv⟩ := hk p hp
    obtain ⟨x, _, hx, _⟩ := Maps.keyOf_str keyS hv
    exact ⟨x, hx⟩
  refine ⟨?_, ?_, by simpa [strKeys, Maps.size] using hsz⟩
  · refine List.pairwise_map.2 (hp.imp_of_mem ?_)
    intro p q hp' hq' hne e
    apply hne
    obtain ⟨a, ha⟩ := hs p hp'
    obtain ⟨b, hb⟩ := hs q hq'
    rw [ha, hb] at e ⊢
    exact congrArg _ e
  · intro s
    show s ∈ es.map (fun p => strOf p.1) ↔ _
    rw [has_eq, List.any_eq_true, List.mem_map]
    constructor
    · rintro ⟨p, hp', rfl⟩
      obtain ⟨a, ha⟩ := hs p hp'
      exact ⟨p, hp', by rw [ha]; simp [Lit.sameKey, strOf]⟩
    · rintro ⟨p, hp', hq⟩
      obtain ⟨a, ha⟩ := hs p hp'
      rw [ha] at hq
      exact ⟨p, hp', by rw [ha]; simpa [Lit.sameKey, strOf] using hq⟩
theorem tlen_le {xs : List Value} {n M m : Nat} (h : FC xs n M) (hm : m < n) : 0 ≤ tlen xs m ∧ tlen xs m ≤ M := by
  obtain ⟨⟨s, h1, h2⟩, _⟩ := h.2 m hm
  unfold tlen
  rw [h1]
  exact ⟨by simp, by simp; omega⟩
def RuR (w : World) (b r K : Nat) (D : DataW Unit) (xs : List Value) (v3 : Value) (wr : World) : Prop := ∃ (left : Lit → Bool) (cnt : Nat), wr.ranges Try.prog 9 numR b r K D left cnt ∧ v3 = .int .i64 (usedT D xs - remN (strKeys D) (fU D xs) left) ∧ Below w.heap.size w wr
def RuP (w : World) (T : Int) (e : Ending) (w' : World) : Prop := e = .returned (.int .i64 T) ∧ Below w.heap.size w w'
set_option maxHeartbeats 1000000 in
theorem rused_at (O : Nat → Prop) (q M : Nat) (S : RS) (w : World) (D : DataW Unit) (h : RD O w q M S) (h1 : w.ownsMap Try.prog 9 numR S.nb M D) (h2 : ∀ s, has D (.string s) = true → ∃ m : Nat, m < S.n ∧ ∀ zd, D.atKey (.string s) zd = .lit (.int .i64 (m : Int))) (hM : M ≤ 1000000) :
    0 ≤ usedT D S.xs ∧ usedT D S.xs ≤ 1000000000000 ∧ Calls Try.prog 45 #[.pointer (some ⟨q, 0, none⟩)] w (RuP w (usedT D S.xs)) := by
  obtain ⟨hnd, hmem, hlen⟩ := keys_has h1
  have hf : ∀ s ∈ strKeys D, 0 ≤ fU D S.xs s ∧ fU D S.xs s ≤ M := fun s hs => by
    obtain ⟨m, hm, ha⟩ := h2 s ((hmem s).1 hs)
    unfold fU
    rw [ha]
    exact tlen_le h.fc hm
  have hall : remN (strKeys D) (fU D S.xs) (has D) = usedT D S.xs := remN_all (fun s hs => (hmem s).1 hs)
  have hT0 : 0 ≤ usedT D S.xs := by rw [← hall]; exact remN_nonneg _ (fun s hs => (hf s hs).1)
  have hT1 : usedT D S.xs ≤ 1000000000000 := by
    have h3 := sum_le (fun s hs => (hf s hs).2)
    have h4 : (strKeys D).length * M ≤ 1000000 * 1000000 := Nat.mul_le_mul (by omega) hM
    unfold usedT
    omega
  refine ⟨hT0, hT1, ?_⟩
  show Calls Try.prog 45 #[.pointer (some ⟨q, 0, none⟩)] w fun e w' => RuP w (usedT D S.xs) e w'
  obtain ⟨⟨c0, c1, c2, c3, c4, c5, c6⟩, _⟩ := h.cells
  have H := Lib.hid h
  have HO := Lib.hid h1
  have H2 := Lib.hid h2
  have HND := Lib.hid (And.intro hnd (And.intro hmem hf))
  have HALL := Lib.hid hall
  clear h h1 h2 hnd hmem hf hall
  go_enter Try.func45, Try.ntmps45
  go_wp2_with (refine wpList_range_own _ rfl _ _ rfl 9 3 KS Try.underlying63 numR S.nb M D rfl HO.out ?_)
  intro w3 hrg hg3 hs3
  obtain ⟨r, hr⟩ : ∃ r, w.heap.size = r := ⟨_, rfl⟩
  rw [hr] at hrg
  have R0 := Lib.hid (show RuR w S.nb r M D S.xs (.int .i64 0) w3 from ⟨_, _, hrg, by rw [HALL.out]; simp, (Below.refl _ _ : Below w.heap.size w w).grown hg3 (Nat.le_refl _) (fun k hk => by cases hk)⟩)
  have HR := Lib.hid hr
  rw [hr]
  clear hrg hg3 hs3 hr
  go_wp2_with fail
  go_loopw [3, 5] (fun v3 _ wr => Hid (RuR w S.nb r M D S.xs v3 wr)) (fun _ _ wr => wr.rangeLeft S.nb r)
  case atStart => exact R0
  case round =>
    clear R0
    obtain ⟨left, cnt, hrng, rfl, hbl⟩ := hrel.out
    clear hrel
    have HLE := Lib.hid hrng.left_eq
    have HB := Lib.hid hbl
    clear hbl
    obtain ⟨U, hU⟩ : ∃ U, usedT D S.xs - remN (strKeys D) (fU D S.xs) left = U := ⟨_, rfl⟩
    rw [hU]
    have HU := Lib.hid hU
    clear hU
    go_wp2_with (at_next; refine wpList_next_ranges _ rfl _ rfl 9 KS numR Value.string (Value.int .i64) (fun key kl hk => by obtain ⟨x, hx, _⟩ := WideMaps.string_of_keyOf keyS hk; exact ⟨x, hx⟩) (fun v y hv => by obtain ⟨g, hg, _⟩ := numR_inv hv; exact ⟨g, hg⟩) S.nb r M D left cnt rfl hrng ?_ ?_)
    · intro hc hl
      have HP := Lib.hid (show RuP w (usedT D S.xs) (.returned (.int .i64 U)) wr from ⟨by rw [← HU.out, remN_none hl, Int.sub_zero], HB.out⟩)
      clear hc hl hrng
      go_wp2_with fail
      go_ret
      exact HP.out
    · intro x z kl y1 y2 w' cnt' hky hl hR hat hrg hlt hgr hsz hen
      obtain ⟨hkx, m, hm, rfl⟩ := num_key H2.out hky hR hat
      have hgr' := HB.out.grown hgr HB.out.size (fun k hk => by cases hk; have := HR.out; omega)
      obtain ⟨x', hx', rfl, _⟩ := WideMaps.string_of_keyOf keyS hky
      obtain rfl := (Value.string.inj hx')
      have hh : has D (.string x.data.toList) = true := has_true_of_atKey hat
      obtain ⟨m', hm', ha⟩ := H2.out _ hh
      have hmm : m' = m := by
        have e : y1 = .lit (.int .i64 (m' : Int)) := (hat (.lit (.int .i64 0))).symm.trans (ha (.lit (.int .i64 0)))
        obtain ⟨z', hz, hy⟩ := numR_inv hR
        have hz := (Value.int.inj hz).2
        have hy1 : y1 = .lit (.int .i64 z') := congrArg Prod.fst hy
        rw [hy1, ← hz] at e
        have := congrArg litN e
        simp only [litN] at this
        omega
      subst hmm
      obtain ⟨⟨t, ht1, ht2⟩, _⟩ := H.out.fc.2 m' hm
      have hfU : fU D S.xs x.data.toList = (t.size : Int) := by
        unfold fU tlen
        rw [ha]
        simp only [litN, Int.toNat_natCast]
        rw [ht1]
      have hst := remN_step (f := fU D S.xs) HND.out.1 ((HND.out.2.1 _).2 hh) hl
      have hnn := remN_nonneg (f := fU D S.xs) (fun z => left z && !z.sameKey (.string x.data.toList)) (fun s hs => (HND.out.2.2 s hs).1)
      have hnl := remN_nonneg (f := fU D S.xs) (L := strKeys D) left (fun s hs => (HND.out.2.2 s hs).1)
      have hU := HU.out
      obtain ⟨rem', hrem'⟩ : ∃ R, remN (strKeys D) (fU D S.xs) (fun z => left z && !z.sameKey (.string x.data.toList)) = R := ⟨_, rfl⟩
      rw [hrem', hfU] at hst
      rw [hrem'] at hnn
      have hle : remN (strKeys D) (fU D S.xs) left ≤ usedT D S.xs := remN_le left (fun s hs => (HND.out.2.2 s hs).1)
      have hrow := H.out.row
      rcases hrow.2 with ⟨_, hn0⟩ | ⟨g, c, cur, hv, hg0, hgb, k1, k2, k3, k4⟩
      · omega
      have hU0 : 0 ≤ U := by omega
      have hU1 : U + (t.size : Int) ≤ 1000000000000 := by omega
      have hnx : usedT D S.xs - rem' = U + (t.size : Int) := by omega
      have hrow' := hrow
      rw [hv] at hrow'
      have hbk : ∀ k, k < w.heap.size → w'.heap[k]? = w.heap[k]? := fun k hk => hgr'.block k hk
      have hgl := (Array.getElem?_eq_some_iff.1 hgb).1
      have q1 : w'.cell? ⟨g, m' * 2, none⟩ = some (.string t) := by
        rw [World.cell?_of_block (w := w) (hbk g hgl), hrow'.cellAt (m' * 2) (by omega), ht1]
      have q2 : w'.cell? ⟨q, 1, none⟩ = some (.slice (some ⟨g, 0, none⟩) S.n c) := by
        rw [World.cell?_of_block (w := w) (hbk q (H.out.bound q H.out.oq)), c1, hv]
      have hmi : (m' : Int) < (S.n : Int) := by omega
      have HNX := Lib.hid hnx
      have HREM := Lib.hid hrem'
      have HRG := Lib.hid hrg
      have HLT := Lib.hid (show w'.rangeLeft S.nb r < wr.rangeLeft S.nb r by rw [hrg.left_eq, HLE.out]; exact hlt)
      have HB5 := Lib.hid hgr'
      clear hky hl hR hat hrg hlt hgr hsz hm hgr' hrng hkx hh ha ht1 ht2 hfU hst hnn hnl hU hrem' hle hrow hrow' hv hg0 hgb k1 k2 k3 k4 hbk hgl hnx hm' hx'
      go_wp2_with fail
      go_roundw
      case rel => exact Lib.hid ⟨_, _, HRG.out, by rw [HREM.out, HNX.out], HB5.out⟩
      case measure => exact HLT.out
end Go.Proofs.Ytamhgbkdljggbaa.Dk
