/- EntryRising: the slice that comes in. -/
import Derived.Test.YtjnienlidmmhdaaGreatDoorErI
import Derived.Test.YtjnienlidmmhdaaGreatDoorHsP
import Derived.Deep.Slices
namespace Go.Proofs.YtjnienlidmmhdaaGreatDoor.En
open Go.ChangeShapes Go.WideShapes Go.RowKit Go.Deep Go.Sort
set_option linter.unusedVariables false
open Tl (tab_below tab_pos)

set_option maxHeartbeats 4000000 in
set_option maxRecDepth 100000 in
theorem rising_zero (D : Option Addr) (cp : Nat) (u : Int) (w : World) (hD : D = none → cp = 0) (hu0 : 0 ≤ u) (hu1 : u ≤ 255) (hT : Tk.Tab w) :
    Calls Tryz.prog 12 #[.slice D 0 cp, .int .u8 u] w fun e w' => e = .returned (.bool true) ∧ Below w.heap.size w w' := by
  have htm : u.tmod 1 = 0 := by rw [Int.tmod_eq_emod_of_nonneg hu0]; exact Int.emod_one u
  have hwu : wrap64 u = u := IntWalk.wrap64_in _ ⟨by omega, by omega⟩
  have HAW := Lib.hid (awake15 w hT)
  have HZ := Lib.hid (fun (A : Option Addr) (c : Nat) (W : World) => rising_any A 0 c [] W rfl (by omega) (Sm.nil W A))
  have HF := Lib.hid (fun (A : Option Addr) (c : Nat) (W : World) => refrising_any A 0 c [] W rfl (by omega) (Sm.nil W A))
  rw [risB_nil] at HZ HF
  cases D with
  | none =>
    obtain rfl := hD rfl
    clear hT
    go_enter Tryz.func12, Tryz.ntmps12
    go_wp2_with fail
    go_loopw [5, 7, 13] (fun v5 _ v13 wr => v5 = .int .i64 0 ∧ v13 = .int .i64 0 ∧ w = wr) (fun _ _ _ _ => 0)
    case atStart => exact ⟨rfl, rfl, rfl⟩
    case round =>
      obtain ⟨rfl, rfl, rfl⟩ := hrel
      go_wp2_with fail
      go_loopw [8, 9, 35] (fun v8 _ v35 wr2 => v8 = .bool true ∧ v35 = .int .i64 0 ∧ w = wr2) (fun _ _ _ _ => 0)
      case atStart => exact ⟨rfl, rfl, rfl⟩
      case round =>
        obtain ⟨rfl, rfl, rfl⟩ := hrel
        go_wp2_with fail
        refine HAW.out.mono ?_
        rintro e w2 ⟨rfl, hb2⟩
        have HB2 := Lib.hid hb2
        have HC := Lib.hid (HZ.out (none) (0) w2)
        clear hb2 HAW
        go_wp2_with fail
        refine HC.out.mono ?_
        rintro e w3 ⟨rfl, hb3⟩
        have HB3 := Lib.hid (show Below w.heap.size w w3 from HB2.out.trans (hb3.mono HB2.out.size))
        have HC3 := Lib.hid (HZ.out (none) (0) w3)
        clear hb3 HC HB2
        go_wp2_with fail
        refine HC3.out.mono ?_
        rintro e w4 ⟨rfl, hb4⟩
        have HB4 := Lib.hid (show Below w.heap.size w w4 from HB3.out.trans (hb4.mono HB3.out.size))
        have HC4 := Lib.hid (HZ.out none 0 w4)
        clear hb4 HC3 HB3
        go_wp2_with fail
        refine HC4.out.mono ?_
        rintro e w5 ⟨rfl, hb5⟩
        have HB5 := Lib.hid (show Below w.heap.size w w5 from HB4.out.trans (hb5.mono HB4.out.size))
        have HC5 := Lib.hid (HF.out (none) (0) w5)
        clear hb5 HC4 HB4
        go_wp2_with fail
        refine HC5.out.mono ?_
        rintro e w6 ⟨rfl, hb6⟩
        have HB6 := Lib.hid (show Below w.heap.size w w6 from HB5.out.trans (hb6.mono HB5.out.size))
        clear hb6 HC5 HB5
        go_wp2_with fail
        go_ret
        exact ⟨rfl, HB6.out⟩
  | some a =>
    have hcp : (0 : Int) ≤ (cp : Int) := by omega
    clear hT
    go_enter Tryz.func12, Tryz.ntmps12
    go_wp2_with fail
    go_loopw [5, 7, 13] (fun v5 _ v13 wr => v5 = .int .i64 0 ∧ v13 = .int .i64 0 ∧ w = wr) (fun _ _ _ _ => 0)
    case atStart => exact ⟨rfl, rfl, rfl⟩
    case round =>
      obtain ⟨rfl, rfl, rfl⟩ := hrel
      go_wp2_with fail
      go_loopw [8, 9, 35] (fun v8 _ v35 wr2 => v8 = .bool true ∧ v35 = .int .i64 0 ∧ w = wr2) (fun _ _ _ _ => 0)
      case atStart => exact ⟨rfl, rfl, rfl⟩
      case round =>
        obtain ⟨rfl, rfl, rfl⟩ := hrel
        go_wp2_with fail
        refine HAW.out.mono ?_
        rintro e w2 ⟨rfl, hb2⟩
        have HB2 := Lib.hid hb2
        have HC := Lib.hid (HZ.out (some a) (cp) w2)
        clear hb2 HAW
        go_wp2_with fail
        refine HC.out.mono ?_
        rintro e w3 ⟨rfl, hb3⟩
        have HB3 := Lib.hid (show Below w.heap.size w w3 from HB2.out.trans (hb3.mono HB2.out.size))
        have HC3 := Lib.hid (HZ.out (some a) (cp) w3)
        clear hb3 HC HB2
        go_wp2_with fail
        refine HC3.out.mono ?_
        rintro e w4 ⟨rfl, hb4⟩
        have HB4 := Lib.hid (show Below w.heap.size w w4 from HB3.out.trans (hb4.mono HB3.out.size))
        have HC4 := Lib.hid (HZ.out none 0 w4)
        clear hb4 HC3 HB3
        go_wp2_with fail
        refine HC4.out.mono ?_
        rintro e w5 ⟨rfl, hb5⟩
        have HB5 := Lib.hid (show Below w.heap.size w w5 from HB4.out.trans (hb5.mono HB4.out.size))
        have HC5 := Lib.hid (HF.out (some a) (cp) w5)
        clear hb5 HC4 HB4
        go_wp2_with fail
        refine HC5.out.mono ?_
        rintro e w6 ⟨rfl, hb6⟩
        have HB6 := Lib.hid (show Below w.heap.size w w6 from HB5.out.trans (hb6.mono HB5.out.size))
        clear hb6 HC5 HB5
        go_wp2_with fail
        go_ret
        exact ⟨rfl, HB6.out⟩
theorem spot_none' {w : World} {a : Addr} {v : Value} {k : Nat} (h : w.cell? (a.add (0 * k)) = some v) : a = ⟨a.block, a.off, none⟩ := by
  simp [Addr.add] at h
  unfold World.cell? at h
  obtain ⟨b, o, s⟩ := a
  cases s with
  | none => rfl
  | some s =>
    simp only [Option.isSome_some, if_true] at h
    split at h <;> simp at h
theorem list_of' {α : Type} {R : Nat → α → Prop} : ∀ (n : Nat), (∀ i, i < n → ∃ p, R i p) → ∃ l : List α, l.length = n ∧ ∀ j p, l[j]? = some p → R j p := by
  intro n
  induction n with
  | zero => exact fun _ => ⟨[], rfl, by simp⟩
  | succ k ih =>
    intro hi
    obtain ⟨l, hl, hp⟩ := ih (fun i h => hi i (by omega))
    obtain ⟨q, hq⟩ := hi k (by omega)
    refine ⟨l ++ [q], by simp [hl], fun j p hj => ?_⟩
    by_cases hjk : j < l.length
    · rw [List.getElem?_append_left hjk] at hj
      exact hp j p hj
    · rw [List.getElem?_append_right (by omega)] at hj
      obtain ⟨h1, h2⟩ := List.getElem?_eq_some_iff.1 hj
      simp at h1 h2
      obtain rfl : j = k := by omega
      rw [← h2]
      exact hq
section
variable {H : Type} {enc : TypeId × Value → H} {w : World} {spare : Nat → Bool} {held : Bool}
set_option maxRecDepth 100000 in
/-- the cells of a histogram, read -/
theorem open_hc {fuel : Nat} {cs : List Value} {x : DataW H × List MemPlace} (h8 : cs.length = 8) (hf : DataW.trod enc Tryz.prog w 0 spare held fuel 39 cs = some x) :
    ∃ (h : HV) (A B : Option Addr) (c d : Nat), cs = [.int .i64 h.k, .int .i64 h.s, .int .i64 h.z, .int .u64 h.zc, .int .u64 h.ct, .int .i64 h.sm, .slice A h.P.length c, .slice B h.Q.length d] ∧ Bk w A h.P ∧ Bk w B h.Q ∧ (0 ≤ h.zc ∧ h.zc ≤ 18446744073709551615) := by
  obtain ⟨v0, v1, v2, v3, v4, v5, v6, v7, rfl⟩ := list8 h8
  obtain ⟨xs, n, _, _, _, hlen, hfs⟩ := DataW.trod_struct Tryz.underlying39 hf
  obtain ⟨y0, y1, y2, y3, y4, y5, y6, y7, rfl⟩ := list8 (by simpa using hlen)
  have g0 := hfs 0 _ rfl
  have g1 := hfs 1 _ rfl
  have g2 := hfs 2 _ rfl
  have g3 := hfs 3 _ rfl
  have g4 := hfs 4 _ rfl
  have g5 := hfs 5 _ rfl
  have g6 := hfs 6 _ rfl
  have g7 := hfs 7 _ rfl
  have cj : Tryz.prog.cellsOf 2 = 1 := by kernel_rfl
  have ci : Tryz.prog.cellsOf 3 = 1 := by kernel_rfl
  have cu : Tryz.prog.cellsOf 36 = 1 := by kernel_rfl
  have cb : Tryz.prog.cellsOf 37 = 1 := by kernel_rfl
  simp [ci, cj, cu, cb] at g0 g1 g2 g3 g4 g5 g6 g7
  obtain ⟨k, e0, _, w0⟩ := DataW.trod_int Tryz.underlying3 g0
  obtain ⟨s, e1, _, w1⟩ := DataW.trod_int Tryz.underlying3 g1
  obtain ⟨z, e2, _, w2⟩ := DataW.trod_int Tryz.underlying3 g2
  obtain ⟨zc, e3, _, w3⟩ := DataW.trod_int Tryz.underlying36 g3
  obtain ⟨ct, e4, _, w4⟩ := DataW.trod_int Tryz.underlying36 g4
  obtain ⟨sm, e5, _, w5⟩ := DataW.trod_int Tryz.underlying2 g5
  obtain ⟨A, P, c, e6, hP⟩ := open_bk g6
  obtain ⟨B, Q, d, e7, hQ⟩ := open_bk g7
  simp only [List.cons.injEq, and_true] at e0 e1 e2 e3 e4 e5 e6 e7
  subst e0 e1 e2 e3 e4 e5 e6 e7
  exact ⟨⟨k, s, z, zc, ct, sm, P, Q⟩, A, B, c, d, rfl, hP, hQ, ⟨(bounds_u64 w3).1, (bounds_u64 w3).2⟩⟩
set_option maxRecDepth 100000 in
theorem open_sm {fuel : Nat} {cs : List Value} {x : DataW H × List MemPlace} (h : DataW.trod enc Tryz.prog w 0 spare held fuel 22 cs = some x) :
    ∃ (A : Option Addr) (l : List SV) (c : Nat), cs = [.slice A l.length c] ∧ (l = [] ∨ ∃ b o, A = some ⟨b, o, none⟩) ∧ Sm w A l ∧ l.length ≤ c ∧ (A = none → c = 0) ∧ (l.length = 0 ∨ ∃ elems sp, x.1 = .slice elems sp ∧ elems.length = l.length) := by
  rcases open_slice Tryz.underlying22 h with ⟨rfl, _⟩ | ⟨a, len, cap, m, n, D, Pl, rfl, _, hlc, hcm, hm, hx, hc⟩
  · exact ⟨none, [], 0, rfl, .inl rfl, .inl rfl, Nat.zero_le _, fun _ => rfl, .inl rfl⟩
  · have hlm : len ≤ m := by rw [hm]; split <;> omega
    have c9 : Tryz.prog.cellsOf 41 = 9 := by kernel_rfl
    have cj : Tryz.prog.cellsOf 2 = 1 := by kernel_rfl
    have ch : Tryz.prog.cellsOf 39 = 8 := by kernel_rfl
    have hi : ∀ i, i < len → ∃ s : SV, ∃ (A B : Option Addr) (c d : Nat), (∀ t v, (smC s A B c d)[t]? = some v → w.cell? ((a.add (i * 9)).add t) = some v) ∧ Sb w s A B := fun i hi => by
      obtain ⟨cs', h1, h2⟩ := hc i (by omega)
      rw [c9] at h1
      obtain ⟨_, hlen, hcell⟩ := World.cells?_some h1
      obtain ⟨xs, k, _, _, hl, hlen2, hf⟩ := DataW.trod_struct Tryz.underlying41 h2
      match cs', hlen, xs, hlen2 with
      | [v0, v1, v2, v3, v4, v5, v6, v7, v8], _, [y0, y1], _ =>
        have g0 := hf 0 _ rfl
        have g1 := hf 1 _ rfl
        simp [cj, ch] at g0 g1
        obtain ⟨t, e0, _, _⟩ := DataW.trod_int Tryz.underlying2 g0
        obtain ⟨hh, A, B, c, d, e1, hA, hB, hz⟩ := open_hc (by simp) g1
        simp only [List.cons.injEq, and_true] at e0 e1
        obtain ⟨f1, f2, f3, f4, f5, f6, f7, f8⟩ := e1
        subst e0 f1 f2 f3 f4 f5 f6 f7 f8
        refine ⟨⟨t, hh⟩, A, B, c, d, fun j v hj => ?_, ⟨hA, hB, hz.1, hz.2⟩⟩
        have hj9 : j < 9 := (List.getElem?_eq_some_iff.1 hj).1
        rw [hcell j (by omega)]
        exact hj
    obtain ⟨l, hl, hp⟩ := list_of' len hi
    subst hl
    have hsp : l = [] ∨ a = ⟨a.block, a.off, none⟩ := by
      by_cases h0 : l.length = 0
      · exact .inl (List.eq_nil_of_length_eq_zero h0)
      · obtain ⟨A, B, c, d, hp0, _⟩ := hp 0 l[0] (List.getElem?_eq_getElem (by omega))
        have hp0 := hp0 0 _ rfl
        refine .inr (spot_none' (k := 9) (w := w) (by
          have e : (a.add (0 * 9)).add 0 = a.add (0 * 9) := by simp [Addr.add]
          rw [e] at hp0
          exact hp0))
    refine ⟨some a, l, cap, rfl, hsp.imp id fun e => ⟨_, _, congrArg some e⟩, ?_, hlc, (fun e => by cases e), .inr ⟨_, _, by rw [hx], by simp⟩⟩
    rcases hsp with h0 | ha
    · exact .inl h0
    · refine .inr ⟨a.block, a.off, congrArg some ha, fun i s his => ?_⟩
      obtain ⟨A, B, c, d, h1, h2⟩ := hp i s his
      refine ⟨A, B, c, d, fun j v hj => ?_, h2⟩
      have := h1 j v hj
      rw [ha, Tk.addr_add, Tk.addr_add] at this
      exact this
end
end Go.Proofs.YtjnienlidmmhdaaGreatDoor.En
