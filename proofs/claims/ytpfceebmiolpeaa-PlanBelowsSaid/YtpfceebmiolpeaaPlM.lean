/- The document's Next. -/
import Derived.Test.YtpfceebmiolpeaaPlL
namespace Go.Proofs.Ytpfceebmiolpeaa.Pl
open Go.RowKit Go.Sort
set_option linter.unusedVariables false

/-- not alone in its step -/
def Qd (l : List It) (k : Int) (y : It) : Prop := y.lv ≤ k ∧ 2 ≤ cnt k l (lowF k y.lo)
/-- the earliest one that is not alone, of the first i -/
def BestI (l : List It) (k : Int) (i : Nat) (b : Int) : Prop :=
  (b = -1 ∧ ∀ (j : Nat) (y : It), j < i → l[j]? = some y → ¬ Qd l k y) ∨
  ∃ (j : Nat) (y : It), b = (j : Int) ∧ j < i ∧ l[j]? = some y ∧ Qd l k y ∧ ∀ (a : Nat) (z : It), a < i → l[a]? = some z → Qd l k z → y.lo ≤ z.lo
theorem BestI.skip {l : List It} {k : Int} {i : Nat} {b : Int} {x : It} (h : BestI l k i b) (hx : l[i]? = some x) (hq : ¬ Qd l k x) : BestI l k (i + 1) b := by
  rcases h with ⟨h1, h2⟩ | ⟨j, y, h1, h2, h3, h4, h5⟩
  · refine .inl ⟨h1, fun a z ha hz => ?_⟩
    by_cases e : a = i
    · subst e
      have := Option.some.inj (hz.symm.trans hx)
      rw [this]; exact hq
    · exact h2 a z (by omega) hz
  · refine .inr ⟨j, y, h1, by omega, h3, h4, fun a z ha hz hqz => ?_⟩
    by_cases e : a = i
    · subst e
      have := Option.some.inj (hz.symm.trans hx)
      rw [this] at hqz; exact absurd hqz hq
    · exact h5 a z (by omega) hz hqz
theorem BestI.stay {l : List It} {k : Int} {i j : Nat} {x y : It} (h : BestI l k i (j : Int)) (hx : l[i]? = some x) (hy : l[j]? = some y) (hle : y.lo ≤ x.lo) : BestI l k (i + 1) (j : Int) := by
  rcases h with ⟨h1, h2⟩ | ⟨j', y', h1, h2, h3, h4, h5⟩
  · omega
  · have e : j' = j := by omega
    subst e
    have e2 := Option.some.inj (h3.symm.trans hy)
    subst e2
    refine .inr ⟨j', y', rfl, by omega, h3, h4, fun a z ha hz hqz => ?_⟩
    by_cases e : a = i
    · subst e
      have := Option.some.inj (hz.symm.trans hx)
      rw [this]; exact hle
    · exact h5 a z (by omega) hz hqz
theorem BestI.take {l : List It} {k : Int} {i : Nat} {b : Int} {x : It} (h : BestI l k i b) (hx : l[i]? = some x) (hq : Qd l k x) (hle : ∀ (j : Nat) (y : It), b = (j : Int) → l[j]? = some y → x.lo ≤ y.lo) : BestI l k (i + 1) (i : Int) := by
  refine .inr ⟨i, x, rfl, by omega, hx, hq, fun a z ha hz hqz => ?_⟩
  by_cases e : a = i
  · subst e
    have := Option.some.inj (hz.symm.trans hx)
    rw [this]; exact Int.le_refl _
  · rcases h with ⟨h1, h2⟩ | ⟨j', y', h1, h2, h3, h4, h5⟩
    · exact absurd hqz (h2 a z (by omega) hz)
    · have := hle j' y' h1 h3
      have := h5 a z (by omega) hz hqz
      omega
theorem best_none {l : List It} {k : Int} (h : BestI l k l.length (-1)) : NoDup k l := fun v => by
  rcases h with ⟨_, h2⟩ | ⟨j, y, h1, _⟩
  · rcases Nat.lt_or_ge (cnt k l v) 2 with h3 | h3
    · exact h3
    · obtain ⟨x, hx, x1, x2⟩ := cnt_pos (Nat.le_trans (by omega) h3)
      obtain ⟨j, hj, rfl⟩ := List.mem_iff_getElem.1 hx
      exact absurd ⟨x1, by rw [x2]; exact h3⟩ (h2 j _ hj (List.getElem?_eq_getElem hj))
  · omega
theorem best_some {l : List It} {k : Int} {j : Nat} {y : It} (h : BestI l k l.length (j : Int)) (hy : l[j]? = some y) : IsFst k l (lowF k y.lo) := by
  rcases h with ⟨h1, _⟩ | ⟨j', y', h1, h2, h3, h4, h5⟩
  · omega
  · have e : j' = j := by omega
    subst e
    have e2 := Option.some.inj (h3.symm.trans hy)
    subst e2
    refine ⟨h4.2, fun u hu => ?_⟩
    obtain ⟨x, hx, x1, x2⟩ := cnt_pos (Nat.le_trans (by omega) hu)
    obtain ⟨a, ha, rfl⟩ := List.mem_iff_getElem.1 hx
    rw [← x2]
    exact lowF_mono k (h5 a _ ha (List.getElem?_eq_getElem ha) ⟨x1, by rw [x2]; exact hu⟩)
theorem tdiv_low {k t : Int} (h : 0 ≤ t) : t.tdiv (wd k) * wd k = lowF k t := by
  unfold lowF
  rw [Int.tdiv_eq_ediv_of_nonneg h]
theorem rf_cells {w : World} {b off : Nat} {l : List It} {i : Nat} {x : It} (h : Cl w (some ⟨b, off, none⟩) (fC rfA l)) (hx : l[i]? = some x) : w.cell? ⟨b, off + i * 4, none⟩ = some (.int .i64 x.q) ∧ w.cell? ⟨b, off + i * 4 + 1, none⟩ = some (.int .i64 x.lv) ∧ w.cell? ⟨b, off + i * 4 + 2, none⟩ = some (.int .i64 x.lo) ∧ w.cell? ⟨b, off + i * 4 + 3, none⟩ = some (.int .i64 x.hi) := by
  obtain ⟨b', off', e, hc⟩ := h.rfs (by have := (List.getElem?_eq_some_iff.1 hx).1; omega)
  injection e with e
  injection e with e1 e2
  subst e1 e2
  exact hc i x hx
theorem IntP.bel {w w' : World} {X : List Int} {v : Value} (h : IntP w X v w') : Below w.heap.size w w' := by obtain ⟨A, c, _, _, h2⟩ := h; exact h2
/-- what the document's Next returns -/
def RxP (w : World) (l : List It) (e : Ending) (w' : World) : Prop := (NextR l none ∧ e = .returned (.tuple #[.int .i64 0, .slice none 0 0, .bool false]) ∧ Below w.heap.size w w') ∨
  ∃ k S v, NextR l (some (k, S)) ∧ e = .returned (.tuple #[.int .i64 k, v, .bool true]) ∧ IntP w S v w'
set_option maxHeartbeats 8000000 in
set_option maxRecDepth 100000 in
theorem rnext_any (A : Option Addr) (n c : Nat) (l : List It) (w : World) (hn : n = l.length) (h : Cl w A (fC rfA l)) (hr : ∀ x ∈ l, RightI x) (hl : l.length ≤ 1000) :
    Calls Try.prog 17 #[.slice A n c] w (RxP w l) := by
  subst hn
  obtain ⟨n, hn⟩ : ∃ n, l.length = n := ⟨_, rfl⟩
  have HN := Lib.hid hn
  have HL := Lib.hid h
  have HR := Lib.hid hr
  rw [hn] at hl ⊢
  clear h hn hr
  go_enter Try.func17, Try.ntmps17
  go_wp2_with fail
  go_loopw [5] (fun u wr => ∃ k : Nat, k ≤ 5 ∧ u = .int .i64 k ∧ Hid ((∀ q : Int, 0 ≤ q → q < k → NoDup q l) ∧ Below w.heap.size w wr)) (fun u _ => 5 - (intOf u).toNat)
  case atStart => exact ⟨0, by omega, rfl, Lib.hid ⟨fun q h1 h2 => absurd h2 (by omega), Below.refl _ _⟩⟩
  case round =>
    obtain ⟨k, hk, rfl, HK⟩ := hrel
    have HKN := Lib.hid HK.out.1
    have HKB := Lib.hid HK.out.2
    clear HK
    by_cases hk5 : k ≤ 4
    · have hki : (k : Int) ≤ 4 := by omega
      have HWD := Lib.hid (fun w => rwidth_any (k : Int) ⟨by omega, by omega⟩ w)
      obtain ⟨d, hd⟩ : ∃ d, wd (k : Int) = d := ⟨_, rfl⟩
      have hwp := wd_pos (k : Int)
      have HTD := Lib.hid (fun (t : Int) (h : 0 ≤ t) => tdiv_low (k := (k : Int)) h)
      simp only [hd] at HWD hwp HTD
      have hd0 : ¬ d = 0 := by omega
      have hdb : (d == 0) = false := by simpa using hd0
      have hd1 : ¬ d = -1 := by omega
      have HD := Lib.hid hd
      clear hd
      go_wp2_with fail
      go_loopw [6, 7] (fun b u wr => ∃ (i : Nat) (z : Int), i ≤ n ∧ u = .int .i64 i ∧ b = .int .i64 z ∧ Hid (BestI l (k : Int) i z ∧ Below w.heap.size w wr)) (fun _ u _ => n - (intOf u).toNat)
      case atStart => exact ⟨0, -1, by omega, rfl, rfl, Lib.hid ⟨.inl ⟨rfl, fun j y hj => absurd hj (by omega)⟩, HKB.out⟩⟩
      case round =>
        obtain ⟨i, z, hi, rfl, rfl, HI⟩ := hrel
        have HIB := Lib.hid HI.out.2
        have HBI := Lib.hid HI.out.1
        clear HI
        by_cases hlt : i < n
        · have hii : (i : Int) < (n : Int) := by omega
          obtain ⟨x, hx⟩ := getElem?_lt (l := l) (k := i) (by rw [HN.out]; exact hlt)
          obtain ⟨b, off, rfl, hcell⟩ := (HL.out.below HIB.out).rfs (by rw [HN.out]; omega)
          obtain ⟨p0, p1, p2, p3⟩ := hcell i x hx
          have HX := Lib.hid hx
          have HXR := Lib.hid (HR.out x (mem_of_at hx))
          have hb1 : Below wr.heap.size wr (wr.alloc (.cells (rfA x) 45)) := (Below.refl _ _).alloc (Nat.le_refl _) _
          have HB := Lib.hid (HIB.out.trans (hb1.mono HIB.out.size))
          have HXC := Lib.hid (heap_alloc_new wr (.cells (rfA x) 45))
          obtain ⟨y0, y1, y2, y3⟩ := box4 HXC.out
          have hzz : wr.heap.size < (wr.alloc (.cells (rfA x) 45)).heap.size := by simp
          unfold rfA at y0 y1 y2 y3 HB HXC hzz
          have hx0 := HXR.out.o0
          have hx1 := HXR.out.o1
          obtain ⟨e0, he0⟩ : ∃ e0, x.lo.tdiv d = e0 := ⟨_, rfl⟩
          obtain ⟨e1, he1⟩ : ∃ e1, lowF (k : Int) x.lo = e1 := ⟨_, rfl⟩
          have hde : e0 * d = e1 := by rw [← he0, ← he1]; exact HTD.out x.lo hx0
          have hrg : 0 ≤ e1 ∧ e1 ≤ 1099511627776 := by
            have h1 := lowF_nonneg (k := (k : Int)) hx0
            have h2 := lowF_le (k : Int) x.lo
            omega
          have hq0 : -9223372036854775808 ≤ e0 ∧ e0 ≤ 9223372036854775807 := by
            rw [← he0, Int.tdiv_eq_ediv_of_nonneg hx0]
            have h1 := Int.ediv_nonneg hx0 (Int.le_of_lt hwp.1)
            have h2 := Int.ediv_le_self d hx0
            omega
          have hws : wrap64 e0 = e0 := IntWalk.wrap64_in _ ⟨by omega, by omega⟩
          have hwm : wrap64 (e0 * d) = e1 := by rw [hde]; exact IntWalk.wrap64_in _ ⟨by omega, by omega⟩
          have HE1 := Lib.hid he1
          clear hcell hx hb1 hde he1
          go_wp2_with fail
          go_quiet (first | (go_at_call 26; refine Calls.quiet_of_same ((HWD.out _).mono fun e w' h => ⟨h.1, h.2.symm⟩)))
          have HB2 := Lib.hid (below_drewN HB.out nq)
          by_cases g1 : (k : Int) < x.lv
          · have HS := Lib.hid (HBI.out.skip HX.out fun hq => by have := hq.1; omega)
            go_wp2_with fail
            go_roundw
            case rel => exact ⟨i + 1, z, by omega, by go_num, rfl, Lib.hid ⟨HS.out, HB2.out⟩⟩
            case measure => simp [intOf]; omega
          · have g1' : decide ((k : Int) < x.lv) = false := by simpa using g1
            have HWI := Lib.hid (rwithin_any (some ⟨b, off, none⟩) n c l (k : Int) e1 _ HN.out.symm (HL.out.below HB2.out) (by rw [HN.out]; exact hl) ⟨by omega, by omega⟩ (by omega) (by omega))
            have hwl := within_cnt (l := l) HR.out (k := (k : Int)) (v := e1) ⟨by omega, by omega⟩ (by rw [← HE1.out]; exact lowF_mod _ _)
            have hwle := withinF_length l (k : Int) e1
            rw [HN.out] at hwle
            obtain ⟨m, hm⟩ : ∃ m, (withinF l (k : Int) e1).length = m := ⟨_, rfl⟩
            have HWM := Lib.hid hwl
            rw [hm] at hwl hwle HWM
            have HMM := Lib.hid hm
            clear hwl hm
            by_cases g2 : m < 2
            · have g2i : (m : Int) < 2 := by omega
              have HS := Lib.hid (HBI.out.skip HX.out fun hq => by have h2 := hq.2; rw [HE1.out, ← HWM.out] at h2; omega)
              go_wp2_with (go_at_call 23; refine HWI.out.mono ?_; rintro e w3 ⟨v, rfl, B3, c3, rfl, ho3, hb3⟩; have HB3 := Lib.hid (HB2.out.trans (hb3.mono HB2.out.size)); rw [HMM.out]; clear ho3 hb3)
              go_roundw
              case rel => exact ⟨i + 1, z, by omega, by go_num, rfl, Lib.hid ⟨HS.out, HB3.out⟩⟩
              case measure => simp [intOf]; omega
            · have g2i : ¬ ((m : Int) < 2) := by omega
              have HQ := Lib.hid (show Qd l (k : Int) x from ⟨by omega, by rw [HE1.out, ← HWM.out]; omega⟩)
              go_wp2_with (go_at_call 23; refine HWI.out.mono ?_; rintro e w3 ⟨v, rfl, B3, c3, rfl, ho3, hb3⟩; have HB3 := Lib.hid (HB2.out.trans (hb3.mono HB2.out.size)); have hxb := (hb3.block wr.heap.size hzz).trans HXC.out; rw [HMM.out]; clear ho3 hb3)
              obtain ⟨r0, r1, r2, r3⟩ := box4 hxb
              clear hxb y0 y1 y2 y3 p0 p1 p2 p3
              by_cases g3 : z < 0
              · have HS := Lib.hid (HBI.out.take HX.out HQ.out fun j y hj => by omega)
                go_quiet (fail)
                go_wp2_with fail
                go_roundw
                case rel => exact ⟨i + 1, (i : Int), by omega, by go_num, rfl, Lib.hid ⟨HS.out, below_drewN HB3.out _⟩⟩
                case measure => simp [intOf]; omega
              · have g3' : decide (z < 0) = false := by simpa using g3
                obtain ⟨j, y, hzj, hji, hy⟩ : ∃ (j : Nat) (y : It), z = (j : Int) ∧ j < i ∧ l[j]? = some y := by
                  rcases HBI.out with ⟨h1, _⟩ | ⟨j, y, h1, h2, h3, _⟩
                  · omega
                  · exact ⟨j, y, h1, h2, h3⟩
                subst hzj
                have hjn : (j : Int) < (n : Int) := by omega
                obtain ⟨t0, t1, t2, t3⟩ := rf_cells (HL.out.below HB3.out) hy
                have HY := Lib.hid hy
                clear hy
                by_cases g4 : x.lo < y.lo
                · have HS := Lib.hid (HBI.out.take HX.out HQ.out fun a u ha hu => by
                    have : a = j := by omega
                    subst this
                    have := Option.some.inj (hu.symm.trans HY.out)
                    rw [this]; omega)
                  go_quiet (fail)
                  go_wp2_with fail
                  go_roundw
                  case rel => exact ⟨i + 1, (i : Int), by omega, by go_num, rfl, Lib.hid ⟨HS.out, below_drewN HB3.out _⟩⟩
                  case measure => simp [intOf]; omega
                · have g4' : decide (x.lo < y.lo) = false := by simpa using g4
                  by_cases g5 : x.lo = y.lo
                  · by_cases g6 : x.q < y.q
                    · have HS := Lib.hid (HBI.out.take HX.out HQ.out fun a u ha hu => by
                        have : a = j := by omega
                        subst this
                        have := Option.some.inj (hu.symm.trans HY.out)
                        rw [this]; omega)
                      go_quiet (fail)
                      go_wp2_with fail
                      go_roundw
                      case rel => exact ⟨i + 1, (i : Int), by omega, by go_num, rfl, Lib.hid ⟨HS.out, below_drewN HB3.out _⟩⟩
                      case measure => simp [intOf]; omega
                    · have g6' : decide (x.q < y.q) = false := by simpa using g6
                      have HS := Lib.hid (HBI.out.stay HX.out HY.out (by omega))
                      go_quiet (fail)
                      go_wp2_with fail
                      go_roundw
                      case rel => exact ⟨i + 1, (j : Int), by omega, by go_num, rfl, Lib.hid ⟨HS.out, below_drewN HB3.out _⟩⟩
                      case measure => simp [intOf]; omega
                  · have g5' : (x.lo == y.lo) = false := by simpa using g5
                    have HS := Lib.hid (HBI.out.stay HX.out HY.out (by omega))
                    go_quiet (fail)
                    go_wp2_with fail
                    go_roundw
                    case rel => exact ⟨i + 1, (j : Int), by omega, by go_num, rfl, Lib.hid ⟨HS.out, below_drewN HB3.out _⟩⟩
                    case measure => simp [intOf]; omega
        · obtain rfl : i = n := by omega
          have hii : ¬ ((i : Int) < (i : Int)) := by omega
          have HBN := Lib.hid (show BestI l (k : Int) l.length z by rw [HN.out]; exact HBI.out)
          by_cases g7 : 0 ≤ z
          · obtain ⟨j, y, hzj, hji, hy⟩ : ∃ (j : Nat) (y : It), z = (j : Int) ∧ j < i ∧ l[j]? = some y := by
              rcases HBI.out with ⟨h1, _⟩ | ⟨j, y, h1, h2, h3, _⟩
              · omega
              · exact ⟨j, y, h1, h2, h3⟩
            subst hzj
            have hjn : (j : Int) < (i : Int) := by omega
            have HF := Lib.hid (best_some HBN.out hy)
            have hyr := HR.out y (mem_of_at hy)
            have hx0 := hyr.o0
            have hx1 := hyr.o1
            obtain ⟨b, off, rfl, hcell⟩ := (HL.out.below HIB.out).rfs (by rw [HN.out]; omega)
            obtain ⟨p0, p1, p2, p3⟩ := hcell j y hy
            obtain ⟨e0, he0⟩ : ∃ e0, y.lo.tdiv d = e0 := ⟨_, rfl⟩
            obtain ⟨e1, he1⟩ : ∃ e1, lowF (k : Int) y.lo = e1 := ⟨_, rfl⟩
            have hde : e0 * d = e1 := by rw [← he0, ← he1]; exact HTD.out y.lo hx0
            have hrg : 0 ≤ e1 ∧ e1 ≤ 1099511627776 := by
              have h1 := lowF_nonneg (k := (k : Int)) hx0
              have h2 := lowF_le (k : Int) y.lo
              omega
            have hq0 : -9223372036854775808 ≤ e0 ∧ e0 ≤ 9223372036854775807 := by
              rw [← he0, Int.tdiv_eq_ediv_of_nonneg hx0]
              have h1 := Int.ediv_nonneg hx0 (Int.le_of_lt hwp.1)
              have h2 := Int.ediv_le_self d hx0
              omega
            have hws : wrap64 e0 = e0 := IntWalk.wrap64_in _ ⟨by omega, by omega⟩
            have hwm : wrap64 (e0 * d) = e1 := by rw [hde]; exact IntWalk.wrap64_in _ ⟨by omega, by omega⟩
            rw [he1] at HF
            have HWI := Lib.hid (fun nq => rwithin_any (some ⟨b, off, none⟩) i c l (k : Int) e1 _ HN.out.symm (HL.out.below (below_drewN HIB.out nq)) (by rw [HN.out]; exact hl) ⟨by omega, by omega⟩ (by omega) (by omega))
            have HNX := Lib.hid (show NextR l (some ((k : Int), withinF l (k : Int) e1)) from ⟨by omega, by omega, HKN.out, e1, HF.out, rfl⟩)
            clear hcell hde he1 hyr
            go_wp2_with fail
            go_quiet (first | (go_at_call 26; refine Calls.quiet_of_same ((HWD.out _).mono fun e w' h => ⟨h.1, h.2.symm⟩)))
            go_wp2_with (go_at_call 23; refine (HWI.out nq).mono ?_; rintro e w3 ⟨v, rfl, hp⟩; have HP := Lib.hid (hp.from_ (below_drewN HIB.out nq)); clear hp)
            go_ret3
            exact .inr ⟨_, _, _, HNX.out, rfl, HP.out⟩
          · have hz1 : z = -1 := by
              rcases HBI.out with ⟨h1, _⟩ | ⟨j, y, h1, _⟩
              · exact h1
              · omega
            subst hz1
            have HND := Lib.hid (best_none HBN.out)
            have HQ := Lib.hid (show ∀ q : Int, 0 ≤ q → q < ((k + 1 : Nat) : Int) → NoDup q l from fun q h1 h2 => by
              by_cases e : q = k
              · rw [e]; exact HND.out
              · exact HKN.out q h1 (by omega))
            go_wp2_with fail
            go_roundw
            case rel => exact ⟨k + 1, by omega, by go_num, Lib.hid ⟨HQ.out, HIB.out⟩⟩
            case measure => simp [intOf]; omega
    · obtain rfl : k = 5 := by omega
      have HQ := Lib.hid (show NextR l none from fun q h0 h4 => HKN.out q h0 (by omega))
      go_wp2_with fail
      go_ret3
      exact .inl ⟨HQ.out, rfl, HKB.out⟩
end Go.Proofs.Ytpfceebmiolpeaa.Pl
