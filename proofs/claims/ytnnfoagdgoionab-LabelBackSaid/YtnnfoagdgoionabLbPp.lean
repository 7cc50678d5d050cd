/- The program's Print of labels. -/
import Derived.Test.YtnnfoagdgoionabLbPr
import Derived.Deep.RegionLaw
namespace Go.Proofs.Ytnnfoagdgoionab
open Go.RowKit
set_option linter.unusedVariables false

theorem join_any (A : Option Addr) (n c : Nat) (xs : List ByteArray) (w : World) (hn : n = xs.length) (h : Cl w A (stC xs)) (hc : n ≤ c ∨ n = 0) (hl : (jn (xs.map (·.data.toList))).length ≤ 4000) (h16 : xs.length ≤ 16) :
    Calls Try.prog 39 #[.slice A n c, .string ⟨#[44]⟩] w fun e w' => e = .returned (.string (tx (jn (xs.map (·.data.toList))))) ∧ Below w.heap.size w w' := by
  subst hn
  by_cases h0 : xs.length = 0
  · have hx : xs = [] := List.eq_nil_of_length_eq_zero h0
    subst hx
    exact (Try.strings_Join_none A c ⟨#[44]⟩ w).mono fun e w' ⟨he, hw⟩ => ⟨he, by rw [hw]; exact Below.refl _ _⟩
  · obtain ⟨b, off, rfl, hcell⟩ := h.some_ (by rw [stC_length]; omega)
    have hlt : b < w.heap.size := block_lt_of_cell (hcell 0 _ (stC_at (List.getElem?_eq_getElem (by omega))))
    have hj : Lib.join (xs.map (·.data.toList)) ((⟨#[44]⟩ : ByteArray).data.toList) = jn (xs.map (·.data.toList)) := jn_join _
    refine (Try.strings_Join b off c xs ⟨#[44]⟩ w (fun j x hx => hcell j _ (stC_at hx)) hlt (by omega) (by omega) (by rw [hj]; omega)).mono fun e w' ⟨he, hb⟩ => ⟨?_, hb⟩
    rw [he, hj]; rfl
/-- append(x, y) at []string, in a region that draws -/
theorem step_app_str {ops : Array Oper} {o : Oper} {a : Act} {w : World} {K : Act → World → Prop} {Q : Exit → Act → World → Prop} {E : Prop} (hgd : o.guard = none) (s x : Operand)
    (ho : o.op = .call { callee := .builtin .append, args := #[s, x], argTypes := #[23, 23] })
    (base : Nat) (A : Option Addr) (n c : Nat) (l : List ByteArray) (hs : a.eval s = .slice A n c) (hown : w.ownsRow base 9 1 (.slice A n c) n (stC l))
    (g : Nat) (hx : a.eval x = .slice (some ⟨g, 0, none⟩) 1 1) (y : ByteArray) (hy : w.cell? ⟨g, 0, none⟩ = some (.string y)) (hl : n + 1 ≤ 1000000) (hbase : base ≤ w.heap.size)
    (h : ∀ A' c' w', w'.ownsRow base 9 1 (.slice A' (n + 1) c') (n + 1) (stC (l ++ [y])) → w.grownBy w' (Value.slice A n c).ownBlock → K (a.put o.dst (.slice A' (n + 1) c')) w') :
    if Region.wanted o (yielded ops a.tmps) = true then Oper.wp Try.prog o a w K Q else E := by
  have hw : Region.wanted o (yielded ops a.tmps) = true := by simp [Region.wanted, hgd]
  rw [if_pos hw]
  obtain ⟨i0, hi, hz0, hz1, hz2⟩ := info_parts infoT
  refine wp_append_own w s x 23 ho base 9 i0 (.string ⟨#[]⟩) 1 16 Try.underlying23 hi hz0 hz1 hz2 rfl (by decide) _ n (stC l) hs hown ⟨g, 0, none⟩ 1 1 [.string y] hx rfl ?_ (by simp [Value.oneCell']) (by unfold maxLen; omega) (by omega) hbase ?_
  · intro j u hu
    have hj : j < 1 := (List.getElem?_eq_some_iff.1 hu).1
    obtain rfl : j = 0 := by omega
    rw [addr_at]
    simp at hu
    subst hu
    exact hy
  · intro v' w' h1 h2 _
    obtain ⟨A', c', rfl⟩ := own_shape h1
    have e : stC l ++ [.string y] = stC (l ++ [y]) := by simp [stC]
    rw [e] at h1
    exact h A' c' w' h1 h2
theorem own_capS {w : World} {base n c : Nat} {A : Option Addr} {X : List ByteArray} (h : w.ownsRow base 9 1 (.slice A n c) n (stC X)) : n ≤ c ∨ n = 0 := by
  rcases h.2 with ⟨h1, h2⟩ | ⟨g, cap, cur, h1, h2, h3, h4, _⟩
  · exact .inr h2
  · injection h1 with _ _ e3
    exact .inl (by omega)
/-- the texts of the first k labels -/
def txs (l : List Lab) (k : Nat) : List ByteArray := ((unT (l.take k)).map textT).map tx
theorem txs_snoc {l : List Lab} {k : Nat} {p : Lab} (h : l[k]? = some p) : txs l (k + 1) = txs l k ++ [tx (textT (p.1.data.toList, p.2.data.toList))] := by
  unfold txs unT
  rw [take_snoc l k p h]; simp
theorem txs_len (l : List Lab) (k : Nat) (h : k ≤ l.length) : (txs l k).length = k := by
  unfold txs unT
  simp; omega
theorem txs_data (l : List Lab) (k : Nat) : (txs l k).map (·.data.toList) = (unT (l.take k)).map textT := by
  unfold txs
  rw [List.map_map]
  have : ((fun x : ByteArray => x.data.toList) ∘ tx) = id := by funext x; rfl
  rw [this, List.map_id]
def PRel (l : List Lab) (w : World) (k : Nat) (v : Value) (wr : World) : Prop := ∃ (B : Option Addr) (m d : Nat), v = .slice B m d ∧ m = k ∧ wr.ownsRow w.heap.size 9 1 (.slice B m d) m (stC (txs l k)) ∧ Below w.heap.size w wr
theorem quote_is (s : ByteArray) (w : World) (hs : s.size ≤ 4000) (Q : ByteArray) (h : tx (quoteL s.data.toList) = Q) : Calls Try.prog 24 #[.string s] w fun e w' => e = .returned (.string Q) ∧ Below w.heap.size w w' := h ▸ quote_any s w hs
set_option maxRecDepth 100000 in
set_option maxHeartbeats 8000000 in
theorem print_any (A : Option Addr) (n c : Nat) (l : List Lab) (w : World) (hn : n = l.length) (h : Lw w A l) (h16 : l.length ≤ 16) (hsm : Small l) :
    Calls Try.prog 19 #[.slice A n c] w fun e w' => e = .returned (.string (tx (printT (unT l)))) ∧ Below w.heap.size w w' := by
  subst hn
  have HL := Lib.hid h
  have HSM := Lib.hid hsm
  clear h hsm
  go_enter Try.func19, Try.ntmps19
  go_wp2_with fail
  go_loopw [3, 8] (fun v i wr => ∃ k : Nat, k ≤ l.length ∧ i = .int .i64 k ∧ Hid (PRel l w k v wr)) (fun _ i _ => l.length - (intOf i).toNat)
  case atStart => exact ⟨0, by omega, rfl, Lib.hid ⟨none, 0, 0, rfl, rfl, own_nil _ _ _ _, Below.refl _ _⟩⟩
  case round =>
    obtain ⟨k, hk, rfl, HR⟩ := hrel
    obtain ⟨B, m, d, rfl, hmk, hown, hbw⟩ := HR.out
    obtain rfl : m = k := hmk
    by_cases hlt : m < l.length
    · have hki : (m : Int) < (l.length : Int) := by omega
      obtain ⟨p, hp⟩ := getElem?_lt hlt
      obtain ⟨s1, s2⟩ := HSM.out p (mem_of_at hp)
      obtain ⟨b, off, rfl, hcell⟩ := (HL.out.below hbw).some_ (by omega)
      obtain ⟨q0, q1⟩ := hcell m p hp
      have hlb := block_lt_of_cell q0
      simp only at hlb
      have HS := Lib.hid (txs_snoc hp)
      obtain ⟨X0, hX0⟩ : ∃ X, txs l m = X := ⟨_, rfl⟩
      rw [hX0] at HS hown
      have hb1 : Below w.heap.size w (wr.alloc (.cells #[.string p.1, .string p.2] 36)) := hbw.alloc hbw.size _
      have HO := Lib.hid (own_below hown ((Below.refl _ _).alloc (Nat.le_refl _) (.cells #[.string p.1, .string p.2] 36)))
      have HBX := Lib.hid (heap_alloc_new wr (.cells #[.string p.1, .string p.2] 36))
      have HB1 := Lib.hid hb1
      obtain ⟨Q, hQ⟩ : ∃ Q, tx (quoteL p.2.data.toList) = Q := ⟨_, rfl⟩
      have hql := quote_len p.2.data.toList
      rw [data_len] at hql
      obtain ⟨U1, hU1, hadd1⟩ := add_tx (s := p.1) (t := ⟨#[61]⟩) (X := p.1.data.toList) (Y := [61]) (tx_of _).symm rfl (by simp; omega)
      obtain ⟨U2, hU2, hadd2⟩ := add_tx (s := U1) (t := Q) (Y := quoteL p.2.data.toList) hU1 hQ.symm (by simp; omega)
      have HU := Lib.hid (show U2 = tx (textT (p.1.data.toList, p.2.data.toList)) by rw [hU2]; unfold textT; simp)
      have HQ := Lib.hid (fun W => quote_is p.2 W (by omega) Q hQ)
      clear hcell hp hown hbw HR hb1 hU1 hU2 hQ hql hX0 s1 s2
      go_wp2_with fail
      obtain ⟨wo, hwo⟩ : ∃ W, wr.alloc (.cells #[.string p.1, .string p.2] 36) = W := ⟨_, rfl⟩
      obtain ⟨g, hg⟩ : ∃ g, wr.heap.size = g := ⟨_, rfl⟩
      rw [hwo] at HO HBX HB1
      rw [hg] at HBX
      rw [hwo, hg]
      have HBB := Lib.hid (box2b HBX.out)
      obtain ⟨x0, x1⟩ := HBB.out wo (Below.refl _ _)
      have hwz : w.heap.size ≤ wo.heap.size := HB1.out.size
      have hm16 : m ≤ 16 := by omega
      clear hwo hg q0 q1 hlb
      go_region_law (first
        | (refine step_app_str rfl (.tmp 12) (.tmp 20) rfl w.heap.size B m d X0 rfl (own_below (own_below HO.out (by assumption : Below wo.heap.size wo _)) ((Below.refl _ _).alloc (Nat.le_refl _) _)) _ rfl U2 (new_one _ _ _) (by omega) (Nat.le_trans hwz (Nat.le_trans (Below.size (by assumption : Below wo.heap.size wo _)) (by simp))) ?_; intro A3 c3 w3 ho3 hg3; have HOO := Lib.hid ho3; have HB3 := Lib.hid (below_app (HB1.out.trans (Below.mono (by assumption : Below wo.heap.size wo _) hwz)) (Nat.le_trans hwz (Below.size (by assumption : Below wo.heap.size wo _))) (own_below HO.out (by assumption : Below wo.heap.size wo _)) (Nat.le_refl _) hg3); clear ho3 hg3)
        | (go_simp; go_at_call 24; ((with_reducible refine (HQ.out _).mono ?_); rintro e w9 ⟨rfl, hb9⟩; have p9 : Below wo.heap.size wo w9 := (Below.drew (Below.refl _ _)).trans hb9; obtain ⟨y0, y1⟩ := HBB.out w9 p9; clear hb9)))
      all_goals
        go_wp2_with fail
        go_roundw
        case rel => exact ⟨m + 1, by omega, by go_num, Lib.hid ⟨A3, m + 1, c3, rfl, rfl, by rw [HS.out, ← HU.out]; exact HOO.out, HB3.out⟩⟩
        case measure => simp [intOf]; omega
    · obtain rfl : m = l.length := by omega
      have hki : ¬ ((l.length : Int) < (l.length : Int)) := by omega
      have hpl := pP_len HSM.out h16 l.length
      have hjl : (jn ((txs l l.length).map (·.data.toList))).length ≤ 4000 := by
        rw [txs_data]
        unfold pP at hpl
        rw [List.length_cons] at hpl
        omega
      obtain ⟨J, hJ⟩ : ∃ J, tx (jn ((txs l l.length).map (·.data.toList))) = J := ⟨_, rfl⟩
      obtain ⟨V1, hV1, hadd1⟩ := add_tx (s := ⟨#[123]⟩) (t := J) (X := [123]) (Y := jn ((txs l l.length).map (·.data.toList))) rfl hJ.symm (by simp; omega)
      obtain ⟨V2, hV2, hadd2⟩ := add_tx (s := V1) (t := ⟨#[125]⟩) (Y := [125]) hV1 rfl (by simp; omega)
      have HV := Lib.hid (show V2 = tx (printT (unT l)) by rw [hV2, txs_data, List.take_length]; unfold printT; simp)
      have HJ := Lib.hid (show Calls Try.prog 39 #[.slice B l.length d, .string ⟨#[44]⟩] wr fun e w' => e = .returned (.string J) ∧ Below wr.heap.size wr w' from hJ ▸ join_any B l.length d (txs l l.length) wr (txs_len l l.length (Nat.le_refl _)).symm (own_cl hown) (own_capS hown) hjl (by rw [txs_len l l.length (Nat.le_refl _)]; omega))
      have HB := Lib.hid hbw
      clear hown hbw HR hpl hjl hJ hV1 hV2
      go_wp2_with fail
      refine HJ.out.mono ?_
      rintro e w2 ⟨rfl, hb2⟩
      have HB2 := Lib.hid (HB.out.trans (hb2.mono HB.out.size))
      clear hb2
      go_wp2_with fail
      go_ret
      exact ⟨by rw [HV.out]; rfl, HB2.out⟩
end Go.Proofs.Ytnnfoagdgoionab
