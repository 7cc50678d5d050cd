/- Rename, Append. -/
import Derived.Test.YtamhgbkdljggbaaDkF
import Derived.Test.YtamhgbkdljggbaaRgI
import Derived.OwnWalk
import Derived.ArgAppend
namespace Go.Proofs.Ytamhgbkdljggbaa.Dk
open Go.RowKit Go.Maps
set_option linter.unusedVariables false

set_option maxRecDepth 100000 in
theorem app_bytes {ops : Array Oper} {rest : List Oper} {o : Oper} {a : Act} {w : World} {Q : Exit → Act → World → Prop} (hgd : o.guard = none) (s x : Operand)
    (ho : o.op = .call { callee := .builtin .append, args := #[s, x], argTypes := #[31, 31] })
    (v : Value) (n : Nat) (xs : List Nat) (hs : a.eval s = v) (hown : w.ownsRow 0 5 1 v n (Tk.cellsB xs))
    (A : Option Addr) (m c : Nat) (bs : List Nat) (hx : a.eval x = .slice A m c) (hm : m = bs.length) (hS : Tk.Sl w A c bs) (hl : n + m ≤ 1000000)
    (h : ∀ A' c' w', w'.ownsRow 0 5 1 (.slice A' (n + m) c') (n + m) (Tk.cellsB (xs ++ bs)) → w.grownBy w' v.ownBlock → (∀ r, (Value.slice A' (n + m) c').ownBlock = some r → v.ownBlock = some r ∨ (w.heap.size ≤ r ∧ r < w'.heap.size)) → wpList Try.prog ops Q rest (a.put o.dst (.slice A' (n + m) c')) w') : wpList Try.prog ops Q (o :: rest) a w := by
  obtain ⟨i0, hi, hz0, hz1, hz2⟩ := info_parts Tk.Try.info5
  subst hm
  have hfin : ∀ v' w', w'.ownsRow 0 5 1 v' (n + bs.length) (Tk.cellsB (xs ++ bs)) → w.grownBy w' v.ownBlock → (∀ r, v'.ownBlock = some r → v.ownBlock = some r ∨ (w.heap.size ≤ r ∧ r < w'.heap.size)) → wpList Try.prog ops Q rest (a.put o.dst v') w' := by
    intro v' w' h1 h2 h3
    have hsh : ∃ A' c', v' = .slice A' (n + bs.length) c' := by
      rcases h1.2 with ⟨hv, hn⟩ | ⟨g, cap, cur, hv, _⟩
      · exact ⟨none, 0, by rw [hv, hn]⟩
      · exact ⟨_, _, hv⟩
    obtain ⟨A', c', rfl⟩ := hsh
    exact h A' c' w' h1 h2 h3
  have hnew : ∀ v' w', w'.ownsRow w.heap.size 5 1 v' (n + bs.length) (Tk.cellsB xs ++ Tk.cellsB bs) → w.grownBy w' none → wpList Try.prog ops Q rest (a.put o.dst v') w' := by
    intro v' w' h1 h2
    have h1' : w'.ownsRow 0 5 1 v' (n + bs.length) (Tk.cellsB (xs ++ bs)) := by
      rw [Tk.cellsB_append]
      obtain ⟨e1, e2⟩ := h1
      refine ⟨e1, ?_⟩
      rcases e2 with e2 | ⟨g, cap, cur, hv, hg, r⟩
      · exact .inl e2
      · exact .inr ⟨g, cap, cur, hv, Nat.zero_le _, r⟩
    refine hfin v' w' h1' ⟨h2.os, h2.tape, h2.output, h2.size, fun k hk _ => h2.block k hk (by simp)⟩ (fun r hr => .inr ?_)
    exact h1.lt r hr
  cases A with
  | none =>
    have hc0 := hS.2.2.1 rfl
    have hb : bs = [] := List.eq_nil_of_length_eq_zero (by have := hS.1; omega)
    subst hb
    subst hc0
    refine wpList_append_own_none hgd s x 31 ho 0 5 i0 1 Try.underlying31 hi v n (Tk.cellsB xs) hs hown hx (hfin v w ?_ (World.grownBy.refl w _) (fun r hr => .inl hr))
    simpa using hown
  | some ad =>
    rcases hown.2 with ⟨hv, hn⟩ | ⟨g, cap, cur, hv, _, hh, hnc, hcm, _⟩
    · subst hn
      have hx0 : xs = [] := by
        have := hown.1
        rw [Tk.cellsB_length] at this
        exact List.eq_nil_of_length_eq_zero (by omega)
      by_cases h0 : bs.length = 0
      · refine wpList_append_own w hgd s x 31 ho 0 5 i0 (.int .u8 0) 1 1 Try.underlying31 hi hz0 hz1 hz2 rfl (by decide) v 0 (Tk.cellsB xs) hs hown ad bs.length c (Tk.cellsB bs) hx (by rw [Tk.cellsB_length]; omega) hS.2.2.2.src' (Tk.cellsB_one bs) (by unfold maxLen; omega) (by omega) (Nat.zero_le _) ?_
        intro v' w' h1 h2 h3
        rw [← Tk.cellsB_append] at h1
        refine hfin v' w' h1 h2 (fun r hr => ?_)
        rw [h3.2 ⟨hv, h0⟩] at hr
        cases hr
      · exact wpList_append_grows w hgd s x 31 ho 5 i0 (.int .u8 0) 1 1 Try.underlying31 hi hz0 hz1 hz2 rfl (by decide) none 0 0 (Tk.cellsB xs) (by rw [hs, hv]) (fun _ => ⟨rfl, rfl⟩) (by rw [hx0]; rfl) (by simp) ad bs.length c (Tk.cellsB bs) hx (by rw [Tk.cellsB_length]; omega) hS.2.2.2.src' (Tk.cellsB_one bs) (by omega) (by unfold maxLen; omega) (by omega) hnew
    · by_cases hc : n + bs.length ≤ cap
      · subst hv
        refine wpList_append_fits w hgd s x 31 ho 0 5 i0 1 Try.underlying31 hi hz1 g n cap (Tk.cellsB xs) hs hown ad bs.length c (Tk.cellsB bs) hx (by rw [Tk.cellsB_length]; omega) hS.2.2.2.src' (Tk.cellsB_one bs) hc ?_
        intro w' h1 h2
        rw [← Tk.cellsB_append] at h1
        exact hfin _ w' h1 h2 (fun r hr => .inl hr)
      · exact wpList_append_grows w hgd s x 31 ho 5 i0 (.int .u8 0) 1 1 Try.underlying31 hi hz0 hz1 hz2 rfl (by decide) (some ⟨g, 0, none⟩) n cap (Tk.cellsB xs) (by rw [hs, hv]) (fun e => by cases e) (by rw [hown.1]) (fun b hb j u hj => by
          injection hb with hb
          subst hb
          exact hown.cells (by rw [hv]; rfl) j u hj) ad bs.length c (Tk.cellsB bs) hx (by rw [Tk.cellsB_length]; omega) hS.2.2.2.src' (Tk.cellsB_one bs) (by omega) (by unfold maxLen; omega) (by omega) hnew

/-! Rename -/
def renC (E : Int) (S1 : PD) (s : Nm) (ok : Bool) : Int := if E ≠ 0 then E else if S1.now s = 0 then 3 else if ok = false then 1 else 0
def delS (S : PD) (s : Nm) : PD := { S with now := putN S.now s 0 }
def RenP (O : Nat → Prop) (w : World) (d M : Nat) (C : Int) (S1 : PD) (s t : Nm) (e : Ending) (w' : World) : Prop :=
  ∃ S', e = .returned (.int .i64 C) ∧ OpP O w d M S' w' ∧ (C ≠ 0 → S' = S1) ∧ (C = 0 → ∃ nb, S' = giveS (delS S1 s) nb t (S1.now s) (S1.F (S1.now s)))
theorem OpP.step {O : Nat → Prop} {w w1 w2 : World} {d M M' : Nat} {S S' : PD} (h1 : OpP O w d M S w1) (h2 : OpP (On O w w1) w1 d M' S' w2) : OpP O w d M' S' w2 :=
  ⟨h2.1.mono (fun k hk => On.trans h1.2.size h2.2.size k hk) (fun k hk => by
      rcases hk with hk | ⟨_, hk⟩
      · exact h2.1.bound k (.inl (.inl hk))
      · exact hk) (Nat.le_refl _), h1.2.trans h2.2 (fun x hx => by rcases hx with hx | ⟨hx, _⟩; exact .inl hx; exact .inr hx)⟩
theorem GiveP.op {O : Nat → Prop} {w w' : World} {d M : Nat} {S : PD} {s : Nm} {g : Nat} {fl : Fl} (h : GiveP O w d M S s g fl w') : ∃ nb, OpP O w d (M + 1) (giveS S nb s g fl) w' := h
set_option maxHeartbeats 1000000 in
theorem rename_any (O : Nat → Prop) (d M : Nat) (S : PD) (s t : ByteArray) (w : World) (h : DK O w d M S) (hs : Ks s) (ht : Ks t) (hf : I64 S.fuse) (hM : M ≤ 900000) :
    Calls Try.prog 16 #[.pointer (some ⟨d, 0, none⟩), .string s, .string t] w (RenP O w d (M + 2) (renC (stepE S) (stepS S) s.data.toList (okName t)) (stepS S) s.data.toList t.data.toList) := by
  have HS := Lib.hid (step_any O d M S w h hf)
  have HK := Lib.hid hs
  have HKT := Lib.hid ht
  obtain ⟨E, hE⟩ : ∃ E, stepE S = E := ⟨_, rfl⟩
  obtain ⟨S1, hS1⟩ : ∃ S1, stepS S = S1 := ⟨_, rfl⟩
  rw [hE, hS1] at HS
  rw [hE, hS1]
  obtain ⟨C, hC⟩ : ∃ C, renC E S1 s.data.toList (okName t) = C := ⟨_, rfl⟩
  rw [hC]
  have HC := Lib.hid hC
  unfold renC at HC
  clear h hs ht hf hC hE hS1
  go_enter Try.func16, Try.ntmps16
  go_wp2_with fail
  refine HS.out.mono ?_
  rintro e w1 ⟨rfl, h1, hf1⟩
  have H1 := Lib.hid h1
  have F1 := Lib.hid hf1
  by_cases hE : E = 0
  case neg =>
    have hb : (E != 0) = true := by simpa using hE
    have hc := HC.out
    rw [if_pos hE] at hc
    subst hc
    have HE := Lib.hid hE
    clear hE h1 hf1
    go_wp2_with fail
    go_ret
    exact ⟨S1, rfl, OpP.of H1.out F1.out (by omega), fun _ => rfl, fun h0 => absurd h0 HE.out⟩
  subst hE
  have hc := HC.out
  rw [if_neg (by simp)] at hc
  obtain ⟨⟨c0, c1, c2, c3, c4, c5⟩, _⟩ := h1.cells
  have hlk := h1.now.look HK.out
  obtain ⟨g, hg⟩ : ∃ g, S1.now s.data.toList = g := ⟨_, rfl⟩
  rw [hg] at hlk hc
  cases g with
  | zero =>
    rw [if_pos rfl] at hc
    subst hc
    simp only [ptrV] at hlk
    clear h1 hf1 hg
    go_wp2_with fail
    go_ret
    exact ⟨S1, rfl, OpP.of H1.out F1.out (by omega), fun _ => rfl, fun h0 => by cases h0⟩
  | succ g =>
    rw [if_neg (by omega)] at hc
    have HNM := Lib.hid (name_any t w1 HKT.out)
    obtain ⟨ok, hok⟩ : ∃ ok, okName t = ok := ⟨_, rfl⟩
    rw [hok] at HNM hc
    have HG := Lib.hid hg
    simp only [ptrV] at hlk
    clear h1 hf1 hg hok
    go_wp2_with fail
    refine HNM.out.mono ?_
    rintro e w2 ⟨rfl, hb2⟩
    cases ok with
    | false =>
      rw [if_pos rfl] at hc
      subst hc
      have H2 := Lib.hid (H1.out.below hb2)
      have F2 := Lib.hid (F1.out.trans (Fr.of_below (O := O) hb2) (fun x hx => .inl hx))
      clear hb2
      go_wp2_with fail
      go_ret
      exact ⟨S1, rfl, OpP.of H2.out F2.out (by omega), fun _ => rfl, fun h0 => by cases h0⟩
    | true =>
      rw [if_neg (by simp)] at hc
      subst hc
      have h2 := H1.out.below hb2
      have F2 := Lib.hid (F1.out.trans (Fr.of_below (O := O) hb2) (fun x hx => .inl hx))
      obtain ⟨b, hnb⟩ := nb_some h2 (s := s.data.toList) (by rw [HG.out]; omega)
      obtain ⟨⟨e0, e1, e2, e3, e4, e5⟩, _⟩ := h2.cells
      rw [hnb] at e1
      have hm := h2.now
      rw [hnb] at hm
      obtain ⟨w3, hrun, hm3, hg3⟩ := hm.drop HK.out 0
      have hP3 := h2.del hnb s.data.toList hm3 hg3
      have hv : Vd S1 (g + 1) := ⟨by omega, _, .inl HG.out⟩
      have hfile : FileOk (On O w2 w3) w3 (M + 1) (S1.F (g + 1)) (g + 1) := (h2.file _ hv).keep (fun k hO ht => hg3.block k (h2.bound k hO) (by simpa using not_map h2 (.inr (.inl hm.isMap)) k ht)) (fun k hO => .inl hO) (Nat.le_succ M)
      have hap : Apart (delS S1 s.data.toList) (g + 1) (S1.F (g + 1)) := fun x hx hxg r h1 h2' => h2.rows x (g + 1) (vd_del (nb := S1.nb) hx) hv hxg r h1 h2'
      have HGV := Lib.hid (give_any (On O w2 w3) d (M + 1) (delS S1 s.data.toList) t (g + 1) (S1.F (g + 1)) w3 hP3.1 HKT.out (by omega) (by omega) hfile hap)
      have HP3 := Lib.hid hP3
      simp only [ptrV] at HGV
      clear h2 hb2 hnb hm hm3 hg3 hP3 hv hfile hap e0 e2 e3 e4 e5
      go_wp2_with fail
      refine HGV.out.mono ?_
      rintro e w4 ⟨rfl, nb, h4, hf4⟩
      have HFIN := Lib.hid (OpP.then F2.out (HP3.out.step ⟨h4, hf4⟩))
      clear h4 hf4
      go_wp2_with fail
      go_ret
      exact ⟨_, rfl, HFIN.out, fun h0 => absurd rfl h0, fun _ => ⟨nb, by rw [HG.out]⟩⟩
end Go.Proofs.Ytamhgbkdljggbaa.Dk
