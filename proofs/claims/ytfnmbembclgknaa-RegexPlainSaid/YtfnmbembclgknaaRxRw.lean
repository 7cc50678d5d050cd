/- The walk of the law RegexRows. -/
import Derived.Test.YtfnmbembclgknaaRxSt
namespace Go.Proofs.Ytfnmbembclgknaa
open Go.RowKit Go.Sort
set_option linter.unusedVariables false

/-- cut in two at one of the first n places -/
def wantF (f g : List UInt8 → Bool) (S : List UInt8) : Nat → Bool
  | 0 => false
  | n + 1 => wantF f g S n || (f (S.take n) && g (S.drop n))
theorem wantF_iff (f g : List UInt8 → Bool) (S : List UInt8) : ∀ n, wantF f g S n = true ↔ ∃ j, j < n ∧ f (S.take j) = true ∧ g (S.drop j) = true
  | 0 => by simp [wantF]
  | n + 1 => by
    rw [wantF, Bool.or_eq_true, Bool.and_eq_true, wantF_iff f g S n]
    constructor
    · rintro (⟨j, h1, h2⟩ | h)
      · exact ⟨j, by omega, h2⟩
      · exact ⟨n, by omega, h⟩
    · rintro ⟨j, h1, h2⟩
      by_cases hj : j = n
      · subst hj; exact .inr h2
      · exact .inl ⟨j, by omega, h2⟩
theorem want_row (x y : Rx) (S : List UInt8) : wantF (mtR (.ok (.cat .eps x) [])) (mtR (.ok (.cat .eps y) [])) S (S.length + 1) = mtR (.ok (.cat (.cat .eps x) y) []) S := by
  apply bool_iff
  rw [wantF_iff, mtR_ok]
  constructor
  · rintro ⟨j, _, h1, h2⟩
    rw [mtR_ok] at h1 h2
    exact ⟨S.take j, S.drop j, (List.take_append_drop j S).symm, h1, (lang_eps y _).1 h2⟩
  · rintro ⟨u, v, rfl, h1, h2⟩
    refine ⟨u.length, by simp; omega, ?_, ?_⟩
    · rw [List.take_left', mtR_ok]
      · exact h1
      · rfl
    · rw [List.drop_left', mtR_ok, lang_eps]
      · exact h2
      · rfl
theorem alt_row (x y : Rx) (S : List UInt8) : mtR (.ok (.alt (.cat .eps x) (.cat .eps y)) []) S = (mtR (.ok (.cat .eps x) []) S || mtR (.ok (.cat .eps y) []) S) := by
  apply bool_iff
  rw [Bool.or_eq_true, mtR_ok, mtR_ok, mtR_ok]
  exact Iff.rfl
theorem ext_take (s : ByteArray) (k : Nat) (hk : k ≤ s.size) : (s.extract 0 k).data.toList = s.data.toList.take k := by
  rw [Lib.extract_eq]; simp
theorem ext_drop (s : ByteArray) (k : Nat) : (s.extract k s.size).data.toList = s.data.toList.drop k := by
  rw [Lib.extract_eq]
  rw [List.take_of_length_le (by simp)]
theorem ext_size (s : ByteArray) (a b : Nat) : (s.extract a b).size ≤ s.size := by
  rw [ByteArray.size_extract]; omega
/-- a box with a pattern in it -/
structure Px (w : World) (h : Nat) (A : Option Addr) (n c f l : Nat) (e : Bool) (r : Res) : Prop where
  v : Vb w h A n c f l e
  g : Rg w (.agg #[.slice A n c, .int .u64 (f : Nat), .int .u64 (l : Nat), .bool e]) (plR r) (pcR r)
theorem Px.below {w w' : World} {h n c f l : Nat} {A : Option Addr} {e : Bool} {r : Res} (p : Px w h A n c f l e r) (k : Below w.heap.size w w') : Px w' h A n c f l e r := ⟨p.v.below k, p.g.below k⟩
theorem Px.m {w : World} {h n c f l : Nat} {A : Option Addr} {e : Bool} {r : Res} (p : Px w h A n c f l e r) (t : ByteArray) (ht : t.size ≤ 1000) (z : Bool) (hz : mtR r t.data.toList = z) :
    Calls Try.prog 11 #[.agg #[.slice A n c, .int .u64 (f : Nat), .int .u64 (l : Nat), .bool e], .string t] w fun y w' => y = .returned (.bool z) ∧ Below w.heap.size w w' := by
  rw [← hz]
  exact rmatch_any r _ t w p.g (by omega)
theorem Px.q {w : World} {h n c f l d : Nat} {os : Array Obj} {A : Option Addr} {e : Bool} {r : Res} (p : Px w h A n c f l e r) (t : ByteArray) (ht : t.size ≤ 1000) (z : Bool) (hz : mtR r t.data.toList = z) :
    Calls Try.prog 11 #[.agg #[.slice A n c, .int .u64 (f : Nat), .int .u64 (l : Nat), .bool e], .string t] (grow (redrawn w d) os) fun y w'' => y = .returned (.bool z) ∧ ∃ p : Regrown, w'' = grow (redrawn w p.d) p.os :=
  Calls.regrown_of ((p.below (below_regrown w d os)).m t ht z hz)
theorem parse_len {s q : List UInt8} {x : Rx} (h : parseF s = .ok x q) : s.length ≤ 64 := by
  unfold parseF at h
  split at h
  · cases h
  · omega
def RoRel (w : World) (S : List UInt8) (f g : List UInt8 → Bool) (ha na ca fa la hb nb cb fb lb hc nc cc fc lc : Nat) (Aa Ab Ac : Option Addr) (ea eb ec : Bool) (ra rb rc : Res) (v17 v95 : Value) (wr : World) : Prop :=
  ∃ k : Nat, v17 = .bool (wantF f g S k) ∧ v95 = .int .i64 (k : Int) ∧ k ≤ S.length + 1 ∧ Below w.heap.size w wr ∧ Px wr ha Aa na ca fa la ea ra ∧ Px wr hb Ab nb cb fb lb eb rb ∧ Px wr hc Ac nc cc fc lc ec rc
set_option maxHeartbeats 4000000 in
set_option maxRecDepth 100000 in
theorem regexRows_walk (a0 a1 a2 : ByteArray) (w0 : a0.size ≤ maxLen) (w1 : a1.size ≤ maxLen) (w2 : a2.size ≤ maxLen) (w : World) :
    Calls Try.prog 4 #[.string a0, .string a1, .string a2] w fun e w' => e = .returned (.bool true) ∧ Below w.heap.size w w' := by
  unfold maxLen at w0 w1 w2
  obtain ⟨D, hD⟩ : ∃ D, IntKind.i64.wrap ((a0.size : Int) + (a1.size : Int)) = D := ⟨_, rfl⟩
  have HD0 := Lib.hid hD
  by_cases h0 : 50 < D
  · have h0i := h0
    go_enter Try.func4, Try.ntmps4
    go_wp2_with fail
    refine (awake_any _).mono ?_
    rintro y w3 ⟨rfl, hb⟩
    have B1 := Lib.hid hb
    clear hb
    go_wp2_with fail
    go_ret
    exact ⟨rfl, B1.out⟩
  have h0i := h0
  by_cases h1 : 30 < a2.size
  · have h1i : (30 : Int) < (a2.size : Int) := by omega
    go_enter Try.func4, Try.ntmps4
    go_wp2_with fail
    refine (awake_any _).mono ?_
    rintro y w3 ⟨rfl, hb⟩
    have B1 := Lib.hid hb
    clear hb
    go_wp2_with fail
    go_ret
    exact ⟨rfl, B1.out⟩
  have h1i : ¬ (30 : Int) < (a2.size : Int) := by omega
  have hs1 : a2.size ≤ 1000 := by omega
  obtain ⟨P, hP⟩ : ∃ P, a0.data.toList = P := ⟨_, rfl⟩
  obtain ⟨Q, hQ⟩ : ∃ Q, a1.data.toList = Q := ⟨_, rfl⟩
  obtain ⟨S, hS⟩ : ∃ S, a2.data.toList = S := ⟨_, rfl⟩
  have HPS := Lib.hid (show P.length = a0.size by rw [← hP, Array.length_toList]; rfl)
  have HQS := Lib.hid (show Q.length = a1.size by rw [← hQ, Array.length_toList]; rfl)
  have hSl : S.length = a2.size := by rw [← hS, Array.length_toList]; rfl
  have hpx : a0 = tx P := by rw [← hP, tx_of]
  have hqx : a1 = tx Q := by rw [← hQ, tx_of]
  have HP := Lib.hid hP
  have HQ := Lib.hid hQ
  have HS := Lib.hid hS
  have HSL := Lib.hid hSl
  have HPX := Lib.hid hpx
  have HQX := Lib.hid hqx
  have H0 := Lib.hid h0
  clear hP hQ hS hSl hpx hqx h1
  have B0 := Lib.hid (Below.refl w.heap.size w)
  go_enter Try.func4, Try.ntmps4
  go_wp2_with fail
  refine (parse_any a0 _).mono ?_
  rw [HP.out]
  intro y wp hp
  obtain ⟨Ap, np, cp, fp, lp, ep, rfl, Rp, HNEp, hb⟩ := par_open hp
  obtain ⟨Wp, hWp⟩ : ∃ Wp, wp.alloc (.cells #[.slice Ap np cp, .int .u64 (fp : Nat), .int .u64 (lp : Nat), .bool ep] 28 (0, 0)) = Wp := ⟨_, rfl⟩
  obtain ⟨gp, hgp⟩ : ∃ gp, wp.heap.size = gp := ⟨_, rfl⟩
  have bb : Below wp.heap.size wp Wp := hWp ▸ (Below.refl _ _).alloc (Nat.le_refl _) _
  have Xp := Lib.hid (show Px Wp gp Ap np cp fp lp ep _ from ⟨hgp ▸ hWp ▸ Vb.new wp Ap np cp fp lp ep, Rp.out.below bb⟩)
  have Bp := Lib.hid ((B0.out.trans (hb.mono B0.out.size)).trans (bb.mono (Nat.le_trans B0.out.size hb.size)))
  clear hp hb bb Rp
  obtain ⟨Ep, hEp⟩ : ∃ E, errN (parseF P) = E := ⟨_, rfl⟩
  have HEp := Lib.hid hEp
  rw [hEp]
  clear hEp
  by_cases hE0 : Ep = 0
  · subst hE0
    obtain ⟨x, hx⟩ := parse_is HNEp.out HEp.out
    have HX := Lib.hid hx
    clear hx HEp
    go_wp2_with fail
    clear hWp hgp
    refine (parse_any a1 _).mono ?_
    rw [HQ.out]
    intro y wq hp
    obtain ⟨Aq, nq, cq, fq, lq, eq, rfl, Rq, HNEq, hb⟩ := par_open hp
    obtain ⟨Wq, hWq⟩ : ∃ Wq, wq.alloc (.cells #[.slice Aq nq cq, .int .u64 (fq : Nat), .int .u64 (lq : Nat), .bool eq] 28 (0, 0)) = Wq := ⟨_, rfl⟩
    obtain ⟨gq, hgq⟩ : ∃ gq, wq.heap.size = gq := ⟨_, rfl⟩
    have bb : Below wq.heap.size wq Wq := hWq ▸ (Below.refl _ _).alloc (Nat.le_refl _) _
    have Xq := Lib.hid (show Px Wq gq Aq nq cq fq lq eq _ from ⟨hgq ▸ hWq ▸ Vb.new wq Aq nq cq fq lq eq, Rq.out.below bb⟩)
    have Bq := Lib.hid ((Bp.out.trans (hb.mono Bp.out.size)).trans (bb.mono (Nat.le_trans Bp.out.size hb.size)))
    clear hp hb bb Rq
    obtain ⟨Eq, hEq⟩ : ∃ E, errN (parseF Q) = E := ⟨_, rfl⟩
    have HEq := Lib.hid hEq
    rw [hEq]
    clear hEq
    by_cases hE0 : Eq = 0
    · subst hE0
      obtain ⟨y, hy⟩ := parse_is HNEq.out HEq.out
      have HY := Lib.hid hy
      clear hy HEq
      have HPL := Lib.hid (show P.length + Q.length ≤ 50 from by
        have h1 := parse_len HX.out
        have h2 := parse_len HY.out
        have h3 := HPS.out
        have h4 := HQS.out
        have h5 : D = (a0.size : Int) + (a1.size : Int) := by rw [← HD0.out]; exact IntWalk.i64_in _ (by omega)
        have h6 := H0.out
        omega)
      have hPl := HPL.out
      have hpx := HPX.out
      have hqx := HQX.out
      obtain ⟨u, hu, s1⟩ := add_tx (s := ⟨#[40]⟩) (t := a0) (X := [40]) (Y := P) rfl hpx (by simp; omega)
      obtain ⟨ua, hua, s2⟩ := add_tx (s := u) (t := ⟨#[41]⟩) (X := [40] ++ P) (Y := [41]) hu rfl (by simp; omega)
      obtain ⟨v, hv, s3⟩ := add_tx (s := ⟨#[40]⟩) (t := a1) (X := [40]) (Y := Q) rfl hqx (by simp; omega)
      obtain ⟨ub, hub, s4⟩ := add_tx (s := v) (t := ⟨#[41]⟩) (X := [40] ++ Q) (Y := [41]) hv rfl (by simp; omega)
      obtain ⟨c1, hc1, s5⟩ := add_tx (s := u) (t := ⟨#[41, 40]⟩) (X := [40] ++ P) (Y := [41, 40]) hu rfl (by simp; omega)
      obtain ⟨c2, hc2, s6⟩ := add_tx (s := c1) (t := a1) (X := [40] ++ P ++ [41, 40]) (Y := Q) hc1 hqx (by simp; omega)
      obtain ⟨uc, huc, s7⟩ := add_tx (s := c2) (t := ⟨#[41]⟩) (X := [40] ++ P ++ [41, 40] ++ Q) (Y := [41]) hc2 rfl (by simp; omega)
      obtain ⟨d1, hd1, s8⟩ := add_tx (s := u) (t := ⟨#[41, 124, 40]⟩) (X := [40] ++ P) (Y := [41, 124, 40]) hu rfl (by simp; omega)
      obtain ⟨d2, hd2, s9⟩ := add_tx (s := d1) (t := a1) (X := [40] ++ P ++ [41, 124, 40]) (Y := Q) hd1 hqx (by simp; omega)
      obtain ⟨ud, hud, s10⟩ := add_tx (s := d2) (t := ⟨#[41]⟩) (X := [40] ++ P ++ [41, 124, 40] ++ Q) (Y := [41]) hd2 rfl (by simp; omega)
      have Ra := Lib.hid (show parseF ua.data.toList = parseF (40 :: (P ++ [41])) by rw [hua, tx_data]; rfl)
      have Rb := Lib.hid (show parseF ub.data.toList = parseF (40 :: (Q ++ [41])) by rw [hub, tx_data]; rfl)
      have Rc := Lib.hid (show parseF uc.data.toList = parseF (40 :: (P ++ 41 :: 40 :: (Q ++ [41]))) by rw [huc, tx_data]; congr 1; simp)
      have Rd := Lib.hid (show parseF ud.data.toList = parseF (40 :: (P ++ 41 :: 124 :: 40 :: (Q ++ [41]))) by rw [hud, tx_data]; congr 1; simp)
      clear hPl hpx hqx hu hua hv hub hc1 hc2 huc hd1 hd2 hud
      go_wp2_with fail
      clear hWq hgq
      have caseP := Lib.hid (brack_cases HX.out (by have := HPL.out; omega))
      have caseQ := Lib.hid (brack_cases HY.out (by have := HPL.out; omega))
      have hcases : (Deep P x ∧ Deep Q y) ∨ ((∀ E : Int, (∀ e, parseF (40 :: (P ++ [41])) = .err e → e ≠ 0) → errN (parseF (40 :: (P ++ [41]))) = E → E ≠ 0) ∨ (∀ E : Int, (∀ e, parseF (40 :: (Q ++ [41])) = .err e → e ≠ 0) → errN (parseF (40 :: (Q ++ [41]))) = E → E ≠ 0)) := by
        rcases caseP.out with dP | ⟨e, be⟩
        · rcases caseQ.out with dQ | ⟨e, be⟩
          · exact .inl ⟨dP, dQ⟩
          · right; right
            intro E hne hE
            have := parseF_bad be [] rfl (by have := HPL.out; omega)
            rw [this] at hE
            rw [← hE]
            exact hne e this
        · right; left
          intro E hne hE
          have := parseF_bad be [] rfl (by have := HPL.out; omega)
          rw [this] at hE
          rw [← hE]
          exact hne e this
      clear caseP caseQ
      rcases hcases with ⟨dP, dQ⟩ | hbad
      · have e1 := parse_one dP (by have := HPL.out; omega)
        have e2 := parse_one dQ (by have := HPL.out; omega)
        have e3 := parse_row dP dQ HPL.out
        have e4 := parse_bar dP dQ HPL.out
        have Ea := Lib.hid (Ra.out.trans e1)
        have Eb := Lib.hid (Rb.out.trans e2)
        have Ec := Lib.hid (Rc.out.trans e3)
        have Ed := Lib.hid (Rd.out.trans e4)
        clear e1 e2 e3 e4 dP dQ
        have en : ∀ (z : Rx), errN (.ok z []) = 0 := fun _ => rfl
        refine (parse_any ua _).mono ?_
        rw [Ea.out]
        intro y wa hp
        obtain ⟨Aa, na, ca, fa, la, ea, rfl, Ra, HNEa, hb⟩ := par_open hp
        obtain ⟨Wa, hWa⟩ : ∃ Wa, wa.alloc (.cells #[.slice Aa na ca, .int .u64 (fa : Nat), .int .u64 (la : Nat), .bool ea] 28 (0, 0)) = Wa := ⟨_, rfl⟩
        obtain ⟨ga, hga⟩ : ∃ ga, wa.heap.size = ga := ⟨_, rfl⟩
        have bb : Below wa.heap.size wa Wa := hWa ▸ (Below.refl _ _).alloc (Nat.le_refl _) _
        have Xa := Lib.hid (show Px Wa ga Aa na ca fa la ea _ from ⟨hga ▸ hWa ▸ Vb.new wa Aa na ca fa la ea, Ra.out.below bb⟩)
        have Ba := Lib.hid ((Bq.out.trans (hb.mono Bq.out.size)).trans (bb.mono (Nat.le_trans Bq.out.size hb.size)))
        clear hp hb bb Ra
        rw [en]
        go_wp2_with fail
        clear hWa hga
        refine (parse_any ub _).mono ?_
        rw [Eb.out]
        intro y wb hp
        obtain ⟨Ab, nb, cb, fb, lb, eb, rfl, Rb, HNEb, hb⟩ := par_open hp
        obtain ⟨Wb, hWb⟩ : ∃ Wb, wb.alloc (.cells #[.slice Ab nb cb, .int .u64 (fb : Nat), .int .u64 (lb : Nat), .bool eb] 28 (0, 0)) = Wb := ⟨_, rfl⟩
        obtain ⟨gb, hgb⟩ : ∃ gb, wb.heap.size = gb := ⟨_, rfl⟩
        have bb : Below wb.heap.size wb Wb := hWb ▸ (Below.refl _ _).alloc (Nat.le_refl _) _
        have Xb := Lib.hid (show Px Wb gb Ab nb cb fb lb eb _ from ⟨hgb ▸ hWb ▸ Vb.new wb Ab nb cb fb lb eb, Rb.out.below bb⟩)
        have Bb := Lib.hid ((Ba.out.trans (hb.mono Ba.out.size)).trans (bb.mono (Nat.le_trans Ba.out.size hb.size)))
        have Xa1 := Lib.hid ((Xa.out.below hb).below bb)
        clear hp hb bb Rb
        rw [en]
        go_wp2_with fail
        clear hWb hgb
        refine (parse_any uc _).mono ?_
        rw [Ec.out]
        intro y wc hp
        obtain ⟨Ac, nc, cc, fc, lc, ec, rfl, Rc, HNEc, hb⟩ := par_open hp
        obtain ⟨Wc, hWc⟩ : ∃ Wc, wc.alloc (.cells #[.slice Ac nc cc, .int .u64 (fc : Nat), .int .u64 (lc : Nat), .bool ec] 28 (0, 0)) = Wc := ⟨_, rfl⟩
        obtain ⟨gc, hgc⟩ : ∃ gc, wc.heap.size = gc := ⟨_, rfl⟩
        have bb : Below wc.heap.size wc Wc := hWc ▸ (Below.refl _ _).alloc (Nat.le_refl _) _
        have Xc := Lib.hid (show Px Wc gc Ac nc cc fc lc ec _ from ⟨hgc ▸ hWc ▸ Vb.new wc Ac nc cc fc lc ec, Rc.out.below bb⟩)
        have Bc := Lib.hid ((Bb.out.trans (hb.mono Bb.out.size)).trans (bb.mono (Nat.le_trans Bb.out.size hb.size)))
        have Xa2 := Lib.hid ((Xa1.out.below hb).below bb)
        have Xb2 := Lib.hid ((Xb.out.below hb).below bb)
        clear hp hb bb Rc
        rw [en]
        obtain ⟨ra, hra⟩ : ∃ ra, Res.ok (.cat .eps x) [] = ra := ⟨_, rfl⟩
        obtain ⟨rb, hrb⟩ : ∃ rb, Res.ok (.cat .eps y) [] = rb := ⟨_, rfl⟩
        obtain ⟨rc, hrc⟩ : ∃ rc, Res.ok (.cat (.cat .eps x) y) [] = rc := ⟨_, rfl⟩
        rw [hra] at Xa2
        rw [hrb] at Xb2
        rw [hrc] at Xc
        have HWANT := Lib.hid (show wantF (mtR ra) (mtR rb) S (S.length + 1) = mtR rc S by rw [← hra, ← hrb, ← hrc]; exact want_row x y S)
        have HALT := Lib.hid (show mtR (.ok (.alt (.cat .eps x) (.cat .eps y)) []) S = (mtR ra S || mtR rb S) by rw [← hra, ← hrb]; exact alt_row x y S)
        have hw1 : IntKind.i64.wrap ((a2.size : Int) + 1) = (a2.size : Int) + 1 := IntWalk.i64_in _ (by omega)
        have HSS := HS
        clear hra hrb hrc Xa Xa1 Xb Xp Xq
        go_wp2_with fail
        clear hWc hgc
        go_loopw [17, 95] (fun v17 v95 wr => Hid (RoRel w S (mtR ra) (mtR rb) ga na ca fa la gb nb cb fb lb gc nc cc fc lc Aa Ab Ac ea eb ec ra rb rc v17 v95 wr)) (fun _ v95 _ => a2.size + 1 - (intOf v95).toNat)
        case atStart => exact Lib.hid ⟨0, rfl, rfl, Nat.zero_le _, Bc.out, Xa2.out, Xb2.out, Xc.out⟩
        case round =>
          obtain ⟨k, rfl, rfl, hk, hbel, xa, xb, xc⟩ := hrel.out
          clear hrel
          obtain ⟨z, hz⟩ : ∃ z, wantF (mtR ra) (mtR rb) S k = z := ⟨_, rfl⟩
          rw [hz]
          have HZ := Lib.hid hz
          have BR := Lib.hid hbel
          have XA := Lib.hid xa
          have XB := Lib.hid xb
          have XC := Lib.hid xc
          clear hz hbel xa xb xc Xa2 Xb2 Xc
          have hks : k ≤ a2.size + 1 := by have := HSL.out; omega
          by_cases hlt : k < a2.size + 1
          · have hki : (k : Int) < (a2.size : Int) + 1 := by omega
            cases z with
            | true =>
              have HW := Lib.hid (show wantF (mtR ra) (mtR rb) S (k + 1) = true by rw [wantF, HZ.out]; rfl)
              go_wp2_with fail
              go_quiet (fail)
              go_wp2_with fail
              go_roundw
              case rel => exact Lib.hid ⟨k + 1, by rw [HW.out], by go_num, by have := HSL.out; omega, below_drewN BR.out _, XA.out.below (below_drewN (Below.refl _ _) _), XB.out.below (below_drewN (Below.refl _ _) _), XC.out.below (below_drewN (Below.refl _ _) _)⟩
              case measure => simp [intOf]; omega
            | false =>
              have hk1 : (k : Int) ≤ (a2.size : Int) := by omega
              have hk2 : (0 : Int) ≤ (k : Int) := by omega
              obtain ⟨za, hza⟩ : ∃ za, mtR ra (S.take k) = za := ⟨_, rfl⟩
              obtain ⟨zb, hzb⟩ : ∃ zb, mtR rb (S.drop k) = zb := ⟨_, rfl⟩
              have HA := Lib.hid (show mtR ra (a2.extract 0 k).data.toList = za by rw [ext_take a2 k (by omega), HS.out, hza])
              have HBB := Lib.hid (show mtR rb (a2.extract k a2.size).data.toList = zb by rw [ext_drop a2 k, HS.out, hzb])
              have HW := Lib.hid (show wantF (mtR ra) (mtR rb) S (k + 1) = (za && zb) by rw [wantF, HZ.out, hza, hzb]; rfl)
              clear hza hzb
              obtain ⟨p0, p1, p2, p3⟩ := XA.out.v.cells
              obtain ⟨q0, q1, q2, q3⟩ := XB.out.v.cells
              have p0' := cell_regrown p0
              have p1' := cell_regrown p1
              have p2' := cell_regrown p2
              have p3' := cell_regrown p3
              have q0' := cell_regrown q0
              have q1' := cell_regrown q1
              have q2' := cell_regrown q2
              have q3' := cell_regrown q3
              have HX1 := Lib.hid (ext_size a2 0 k)
              have HX2 := Lib.hid (ext_size a2 k a2.size)
              cases za <;> cases zb
              all_goals
                simp at HW
                have HQA := Lib.hid (fun (d : Nat) (os : Array Obj) => Px.q (d := d) (os := os) XA.out (a2.extract 0 k) (by have := HX1.out; omega) _ HA.out)
                have HQB := Lib.hid (fun (d : Nat) (os : Array Obj) => Px.q (d := d) (os := os) XB.out (a2.extract k a2.size) (by have := HX2.out; omega) _ HBB.out)
                go_wp2_with fail
                refine wp_region_quiet_below (by kernel_rfl) (by kernel_rfl) ?_
                repeat (any_goals (first | go_big_quiet_step (first | (go_at_call 11; first | with_reducible exact HQA.out _ _ | with_reducible exact HQB.out _ _)) | quiet_step (first | (go_at_call 11; first | with_reducible exact HQA.out _ _ | with_reducible exact HQB.out _ _))))
                refine wpQuiet_nil ?_
                intro _ hw'
                obtain ⟨⟨dq, osq⟩, hw''⟩ := hw'
                subst hw''
                have XA3 := Lib.hid (XA.out.below (below_regrown wr dq osq))
                have XB3 := Lib.hid (XB.out.below (below_regrown wr dq osq))
                have XC3 := Lib.hid (XC.out.below (below_regrown wr dq osq))
                have BR3 := Lib.hid (BR.out.trans ((below_regrown wr dq osq).mono BR.out.size))
                clear p0 p1 p2 p3 q0 q1 q2 q3 p0' p1' p2' p3' q0' q1' q2' q3'
                generalize grow (redrawn wr dq) osq = wn at *
                go_wp2_with fail
                go_roundw
                case rel => exact Lib.hid ⟨k + 1, by rw [HW.out], by go_num, by have := HSL.out; omega, BR3.out, XA3.out, XB3.out, XC3.out⟩
                case measure => simp [intOf]; omega
          · obtain rfl : k = a2.size + 1 := by omega
            have hki : ¬ (((a2.size + 1 : Nat) : Int) < (a2.size : Int) + 1) := by omega
            have HC := Lib.hid (show mtR rc a2.data.toList = z by rw [HS.out, ← HWANT.out, HSL.out]; exact HZ.out)
            have hki2 : (((a2.size + 1 : Nat) : Int)) = (a2.size : Int) + 1 := by omega
            go_wp2_with fail
            refine (parse_any ud _).mono ?_
            rw [Ed.out]
            intro y wd hp
            obtain ⟨Ad, nd, cd, fd, ld, ed, rfl, Rd, HNEd, hb⟩ := par_open hp
            obtain ⟨Wd, hWd⟩ : ∃ Wd, wd.alloc (.cells #[.slice Ad nd cd, .int .u64 (fd : Nat), .int .u64 (ld : Nat), .bool ed] 28 (0, 0)) = Wd := ⟨_, rfl⟩
            obtain ⟨gd, hgd⟩ : ∃ gd, wd.heap.size = gd := ⟨_, rfl⟩
            have bb : Below wd.heap.size wd Wd := hWd ▸ (Below.refl _ _).alloc (Nat.le_refl _) _
            have Xd := Lib.hid (show Px Wd gd Ad nd cd fd ld ed _ from ⟨hgd ▸ hWd ▸ Vb.new wd Ad nd cd fd ld ed, Rd.out.below bb⟩)
            have Bd := Lib.hid ((BR.out.trans (hb.mono BR.out.size)).trans (bb.mono (Nat.le_trans BR.out.size hb.size)))
            have XA4 := Lib.hid ((XA.out.below hb).below bb)
            have XB4 := Lib.hid ((XB.out.below hb).below bb)
            have XC4 := Lib.hid ((XC.out.below hb).below bb)
            clear hp hb bb Rd
            rw [en]
            obtain ⟨rd, hrd⟩ : ∃ rd, Res.ok (.alt (.cat .eps x) (.cat .eps y)) [] = rd := ⟨_, rfl⟩
            rw [hrd] at Xd HALT
            clear hrd
            obtain ⟨za, hza⟩ : ∃ za, mtR ra S = za := ⟨_, rfl⟩
            obtain ⟨zb, hzb⟩ : ∃ zb, mtR rb S = zb := ⟨_, rfl⟩
            rw [hza, hzb] at HALT
            have HA := Lib.hid (show mtR ra a2.data.toList = za by rw [HS.out, hza])
            have HBB := Lib.hid (show mtR rb a2.data.toList = zb by rw [HS.out, hzb])
            have HD := Lib.hid (show mtR rd a2.data.toList = (za || zb) by rw [HS.out, HALT.out])
            clear hza hzb
            go_wp2_with fail
            clear hWd hgd
            obtain ⟨p0, p1, p2, p3⟩ := XA4.out.v.cells
            obtain ⟨q0, q1, q2, q3⟩ := XB4.out.v.cells
            obtain ⟨r0, r1, r2, r3⟩ := XC4.out.v.cells
            obtain ⟨t0, t1, t2, t3⟩ := Xd.out.v.cells
            have p0' := cell_regrown p0
            have p1' := cell_regrown p1
            have p2' := cell_regrown p2
            have p3' := cell_regrown p3
            have q0' := cell_regrown q0
            have q1' := cell_regrown q1
            have q2' := cell_regrown q2
            have q3' := cell_regrown q3
            have r0' := cell_regrown r0
            have r1' := cell_regrown r1
            have r2' := cell_regrown r2
            have r3' := cell_regrown r3
            have t0' := cell_regrown t0
            have t1' := cell_regrown t1
            have t2' := cell_regrown t2
            have t3' := cell_regrown t3
            have HAW := Lib.hid (fun (d : Nat) (os : Array Obj) => Calls.regrown_of (w := Wd) (awake_any (grow (redrawn Wd d) os)))
            cases za <;> cases zb
            all_goals
              simp at HD
              have HQA := Lib.hid (fun (d : Nat) (os : Array Obj) => Px.q (d := d) (os := os) XA4.out a2 hs1 _ HA.out)
              have HQB := Lib.hid (fun (d : Nat) (os : Array Obj) => Px.q (d := d) (os := os) XB4.out a2 hs1 _ HBB.out)
              have HQC := Lib.hid (fun (d : Nat) (os : Array Obj) => Px.q (d := d) (os := os) XC4.out a2 hs1 _ HC.out)
              have HQD := Lib.hid (fun (d : Nat) (os : Array Obj) => Px.q (d := d) (os := os) Xd.out a2 hs1 _ HD.out)
              refine wp_region_quiet_below (by kernel_rfl) (by kernel_rfl) ?_
              repeat (any_goals (first | go_big_quiet_step (first | (go_at_call 8; with_reducible exact HAW.out _ _) | (go_at_call 11; first | with_reducible exact HQC.out _ _ | with_reducible exact HQD.out _ _ | with_reducible exact HQA.out _ _ | with_reducible exact HQB.out _ _)) | quiet_step (first | (go_at_call 8; with_reducible exact HAW.out _ _) | (go_at_call 11; first | with_reducible exact HQC.out _ _ | with_reducible exact HQD.out _ _ | with_reducible exact HQA.out _ _ | with_reducible exact HQB.out _ _))))
              refine wpQuiet_nil ?_
              intro _ hw'
              obtain ⟨⟨dq, osq⟩, hw''⟩ := hw'
              subst hw''
              have BE := Lib.hid (Bd.out.trans ((below_regrown Wd dq osq).mono Bd.out.size))
              clear p0 p1 p2 p3 q0 q1 q2 q3 r0 r1 r2 r3 t0 t1 t2 t3 p0' p1' p2' p3' q0' q1' q2' q3' r0' r1' r2' r3' t0' t1' t2' t3'
              generalize grow (redrawn Wd dq) osq = wn at *
              go_wp2_with fail
              go_ret
              exact ⟨rfl, BE.out⟩
      · have HBAD := Lib.hid hbad
        clear hbad
        refine (parse_any ua _).mono ?_
        rw [Ra.out]
        intro y wa hp
        obtain ⟨Aa, na, ca, fa, la, ea, rfl, Ra, HNEa, hb⟩ := par_open hp
        obtain ⟨Wa, hWa⟩ : ∃ Wa, wa.alloc (.cells #[.slice Aa na ca, .int .u64 (fa : Nat), .int .u64 (la : Nat), .bool ea] 28 (0, 0)) = Wa := ⟨_, rfl⟩
        obtain ⟨ga, hga⟩ : ∃ ga, wa.heap.size = ga := ⟨_, rfl⟩
        have bb : Below wa.heap.size wa Wa := hWa ▸ (Below.refl _ _).alloc (Nat.le_refl _) _
        have Xa := Lib.hid (show Px Wa ga Aa na ca fa la ea _ from ⟨hga ▸ hWa ▸ Vb.new wa Aa na ca fa la ea, Ra.out.below bb⟩)
        have Ba := Lib.hid ((Bq.out.trans (hb.mono Bq.out.size)).trans (bb.mono (Nat.le_trans Bq.out.size hb.size)))
        clear hp hb bb Ra
        obtain ⟨Ea, hEa⟩ : ∃ E, errN (parseF (40 :: (P ++ [41]))) = E := ⟨_, rfl⟩
        have HEa := Lib.hid hEa
        rw [hEa]
        clear hEa
        go_wp2_with fail
        clear hWa hga
        refine (parse_any ub _).mono ?_
        rw [Rb.out]
        intro y wb hp
        obtain ⟨Ab, nb, cb, fb, lb, eb, rfl, Rb, HNEb, hb⟩ := par_open hp
        obtain ⟨Wb, hWb⟩ : ∃ Wb, wb.alloc (.cells #[.slice Ab nb cb, .int .u64 (fb : Nat), .int .u64 (lb : Nat), .bool eb] 28 (0, 0)) = Wb := ⟨_, rfl⟩
        obtain ⟨gb, hgb⟩ : ∃ gb, wb.heap.size = gb := ⟨_, rfl⟩
        have bb : Below wb.heap.size wb Wb := hWb ▸ (Below.refl _ _).alloc (Nat.le_refl _) _
        have Xb := Lib.hid (show Px Wb gb Ab nb cb fb lb eb _ from ⟨hgb ▸ hWb ▸ Vb.new wb Ab nb cb fb lb eb, Rb.out.below bb⟩)
        have Bb := Lib.hid ((Ba.out.trans (hb.mono Ba.out.size)).trans (bb.mono (Nat.le_trans Ba.out.size hb.size)))
        clear hp hb bb Rb
        obtain ⟨Eb, hEb⟩ : ∃ E, errN (parseF (40 :: (Q ++ [41]))) = E := ⟨_, rfl⟩
        have HEb := Lib.hid hEb
        rw [hEb]
        clear hEb
        go_wp2_with fail
        clear hWb hgb
        refine (parse_any uc _).mono ?_
        rw [Rc.out]
        intro y wc hp
        obtain ⟨Ac, nc, cc, fc, lc, ec, rfl, Rc, HNEc, hb⟩ := par_open hp
        obtain ⟨Wc, hWc⟩ : ∃ Wc, wc.alloc (.cells #[.slice Ac nc cc, .int .u64 (fc : Nat), .int .u64 (lc : Nat), .bool ec] 28 (0, 0)) = Wc := ⟨_, rfl⟩
        obtain ⟨gc, hgc⟩ : ∃ gc, wc.heap.size = gc := ⟨_, rfl⟩
        have bb : Below wc.heap.size wc Wc := hWc ▸ (Below.refl _ _).alloc (Nat.le_refl _) _
        have Xc := Lib.hid (show Px Wc gc Ac nc cc fc lc ec _ from ⟨hgc ▸ hWc ▸ Vb.new wc Ac nc cc fc lc ec, Rc.out.below bb⟩)
        have Bc := Lib.hid ((Bb.out.trans (hb.mono Bb.out.size)).trans (bb.mono (Nat.le_trans Bb.out.size hb.size)))
        clear hp hb bb Rc
        obtain ⟨Ec, hEc⟩ : ∃ E, errN (parseF (40 :: (P ++ 41 :: 40 :: (Q ++ [41])))) = E := ⟨_, rfl⟩
        have HEc := Lib.hid hEc
        rw [hEc]
        clear hEc
        have hcase : (Ea != 0) = true ∨ ((Ea != 0) = false ∧ (Eb != 0) = true) := by
          by_cases hEa : Ea = 0
          · right
            refine ⟨by simp [hEa], ?_⟩
            rcases HBAD.out with h | h
            · exact absurd hEa (h Ea HNEa.out HEa.out)
            · rw [bne_iff_ne]
              exact h Eb HNEb.out HEb.out
          · left
            simp [hEa]
        rcases hcase with hc | ⟨hc, hc2⟩
        all_goals
          go_wp2_with fail
          clear hWc hgc
          refine (awake_any _).mono ?_
          rintro y wz ⟨rfl, hb⟩
          have Bz := Lib.hid (Bc.out.trans (hb.mono Bc.out.size))
          clear hb
          go_wp2_with fail
          go_ret
          exact ⟨rfl, Bz.out⟩
    · have hE1 : (Eq != 0) = true := by simp [hE0]
      go_wp2_with fail
      refine (awake_any _).mono ?_
      rintro y wz ⟨rfl, hb⟩
      have Bz := Lib.hid (Bq.out.trans (hb.mono Bq.out.size))
      clear hb
      go_wp2_with fail
      go_ret
      exact ⟨rfl, Bz.out⟩
  · have hE1 : (Ep != 0) = true := by simp [hE0]
    go_wp2_with fail
    refine (awake_any _).mono ?_
    rintro y wz ⟨rfl, hb⟩
    have Bz := Lib.hid (Bp.out.trans (hb.mono Bp.out.size))
    clear hb
    go_wp2_with fail
    go_ret
    exact ⟨rfl, Bz.out⟩
end Go.Proofs.Ytfnmbembclgknaa
