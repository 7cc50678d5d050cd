/- The document's part, all but brackets. -/
import Derived.Test.YtnabfganecghkaaDoorRrD
namespace Go.Proofs.YtnabfganecghkaaDoor
open Go.RowKit
set_option linter.unusedVariables false

/-- a call's result box and its reader -/
structure PtS (w : World) (q : Nat) (L : List UInt8) (k d : Nat) (e : Int) (h : Nat) (W : World) : Prop where
  ro : RO w q L k d e W
  nb : Nb W h ⟨#[]⟩ nvo nvo
  hq : q < h
  hs : w.heap.size ≤ h
theorem PtS.first {w W : World} {q k d h : Nat} {L : List UInt8} {e : Int} (p : Rr w q L k d e) (hh : w.heap.size = h) (hW : w.alloc (.cells #[.string ⟨#[]⟩, .slice none 0 0, .slice none 0 0] 60 (0, 0)) = W) : PtS w q L k d e h W := by
  refine ⟨⟨hW ▸ p.alloc _, hW ▸ (Go1.refl _ _ _).alloc _⟩, hh ▸ hW ▸ Nb.new w _ _ _, by have := p.qw; omega, by omega⟩
theorem PtS.step {w W W' : World} {q k d h k' d' : Nat} {L : List UInt8} {e e' : Int} (z : PtS w q L k d e h W) (o : RO W q L k' d' e' W') : PtS w q L k' d' e' h W' :=
  ⟨z.ro.trans o, z.nb.go o.2 (by have := z.hq; omega), z.hq, z.hs⟩
theorem PtS.incK {w W : World} {q k d h : Nat} {L : List UInt8} {e : Int} (z : PtS w q L k d e h W) : PtS w q L (k + 1) d e h (W.setCell ⟨q, 1, none⟩ (.int .i64 ((k : Int) + 1))) :=
  z.step ⟨z.ro.1.setK (k + 1) _ (by omega), go1_set 1 _⟩
theorem PtS.below {w W W' : World} {q k d h : Nat} {L : List UInt8} {e : Int} (z : PtS w q L k d e h W) (b : Below W.heap.size W W') : PtS w q L k d e h W' :=
  z.step ⟨z.ro.1.below b, Go1.of_below b⟩
theorem RO.oz {w W : World} {q k d h : Nat} {L : List UInt8} {e : Int} (o : RO w q L k d e W) (hq : q < h) (hs : w.heap.size ≤ h) (i : Nat) (u : Value) : RO w q L k d e (W.setCell ⟨h, i, none⟩ u) :=
  ⟨o.1.other (a := ⟨h, i, none⟩) (by show q ≠ h; omega) u, o.2.other (a := ⟨h, i, none⟩) hs u⟩
theorem PtS.fin {w W : World} {q k d h : Nat} {L : List UInt8} {e : Int} (z : PtS w q L k d e h W) (u0 u1 u2 : Value) : RO w q L k d e (((W.setCell ⟨h, 0, none⟩ u0).setCell ⟨h, 1, none⟩ u1).setCell ⟨h, 2, none⟩ u2) :=
  ((z.ro.oz z.hq z.hs 0 u0).oz z.hq z.hs 1 u1).oz z.hq z.hs 2 u2
theorem NdV.fin {w W : World} {h : Nat} {nd : Nd} {V : Value} (hs : w.heap.size ≤ h) (u0 u1 u2 : Value) (z : NdV W (fun b => h + 1 ≤ b) nd V) : NdV (((W.setCell ⟨h, 0, none⟩ u0).setCell ⟨h, 1, none⟩ u1).setCell ⟨h, 2, none⟩ u2) (fun b => w.heap.size ≤ b) nd V :=
  (((z.other (a := ⟨h, 0, none⟩) (fun b hb => by show b ≠ h; omega) u0).other (a := ⟨h, 1, none⟩) (fun b hb => by show b ≠ h; omega) u1).other (a := ⟨h, 2, none⟩) (fun b hb => by show b ≠ h; omega) u2).mono (fun b hb _ => by omega)
/-- a node of bytes as it comes -/
theorem nd_byte {W w' : World} {h b : Nat} {X Y : Nat → Bool} (hb : h + 1 ≤ b) (x : Hb w' b X) (hX : ∀ i, i < 256 → X i = Y i) : NdV w' (fun b => h + 1 ≤ b) (.byte Y) (.agg #[.string byteB, .slice (some ⟨b, 0, none⟩) 256 256, nvo]) :=
  ⟨b, rfl, hb, fun i hi => by rw [x.c i hi, hX i hi]⟩
theorem PtS.sz {w W : World} {q k d h : Nat} {L : List UInt8} {e : Int} (z : PtS w q L k d e h W) : h + 1 ≤ W.heap.size := z.nb.hw
set_option maxHeartbeats 2000000 in
theorem part_sign (z : Int) (hzz : z = 42 ∨ z = 43 ∨ z = 63 ∨ z = 93 ∨ z = 123 ∨ z = 125 ∨ z = 94 ∨ z = 36) (q : Nat) (L : List UInt8) (k d bd : Nat) (w : World) (p : Rr w q L k d 0) (hz : nxF L k = z) (hL : L.length ≤ 64) (hk : k ≤ 200) (hb : k + 1 ≤ bd) :
    Calls Tryd.prog 58 #[.pointer (some ⟨q, 0, none⟩)] w (RpP (.err 27) bd w q L d) := by
  obtain ⟨h, hh⟩ : ∃ h, w.heap.size = h := ⟨_, rfl⟩
  obtain ⟨W, hW⟩ : ∃ W, w.alloc (.cells #[.string ⟨#[]⟩, .slice none 0 0, .slice none 0 0] 60 (0, 0)) = W := ⟨_, rfl⟩
  have Z0 := Lib.hid (PtS.first p hh hW)
  clear p
  go_enter Tryd.func58, Tryd.ntmps58
  go_wp2_with fail
  clear hW hh
  refine (rnext_any _ _ _ _ _ _ Z0.out.ro.1 (by omega) (by omega)).mono ?_
  rw [hz]
  rintro y w1 ⟨rfl, ho⟩
  have Z1 := Lib.hid (Z0.out.step ho)
  have Z2 := Lib.hid Z1.out.incK
  have c1 := Z1.out.ro.1.c1
  have f1 := Z1.out.ro.1.f1
  clear ho hz
  rcases hzz with rfl | rfl | rfl | rfl | rfl | rfl | rfl | rfl
  all_goals
    go_wp2_with fail
    refine (rwrong_any _ _ _ _ _ 27 _ Z2.out.ro.1).mono ?_
    rintro y w2 ⟨rfl, ho⟩
    have Z3 := Lib.hid (Z2.out.step (show RO _ q L (k + 1) d 27 w2 from ho))
    obtain ⟨⟨z0, z1, z2⟩, zf0, zf1, zf2⟩ := Z3.out.nb.cells
    clear ho
    go_wp2_with fail
    refine bodyPost_ret (v := .agg #[.string ⟨#[]⟩, nvo, nvo]) (by simp [results, Tryd.results58, go_sem, z0, z1, z2]) rfl ?_
    exact ⟨_, _, _, k + 1, d, 27, rfl, isS _ _ _, isS _ _ _, Z3.out.fin _ _ _, hb, Nat.le_refl _, Nat.le_succ _, Lib.hid ⟨rfl, by decide⟩⟩
/-- a part that is what only makes -/
theorem part_only {w W w' : World} {q k d h b bd : Nat} {L r : List UInt8} {X Y : Nat → Bool} (z : PtS w q L k d 0 h W) (hb : W.heap.size ≤ b) (x : Hb w' b X) (hX : ∀ i, i < 256 → X i = Y i) (bl : Below W.heap.size W w') (hr : L.drop k = r) (hk : k ≤ L.length + 5) (hbd : k ≤ bd) (u0 u1 u2 : Value) :
    RpP (.ok (.one Y) r) bd w q L d (.returned (.agg #[.string byteB, .slice (some ⟨b, 0, none⟩) 256 256, nvo])) (((w'.setCell ⟨h, 0, none⟩ u0).setCell ⟨h, 1, none⟩ u1).setCell ⟨h, 2, none⟩ u2) := by
  refine ⟨_, _, _, k, d, 0, rfl, isS _ _ _, isS _ _ _, (z.below bl).fin _ _ _, hbd, Nat.le_refl _, Nat.le_succ _, Lib.hid ⟨rfl, rfl, hr, hk, .byte Y, rfl, NdV.fin z.hs _ _ _ (nd_byte (W := W) (by have := z.sz; omega) x hX), fun s => Iff.rfl⟩⟩
set_option maxHeartbeats 2000000 in
theorem part_dot (q : Nat) (L r : List UInt8) (k d bd : Nat) (w : World) (p : Rr w q L k d 0) (hz : nxF L k = 46) (hr : L.drop (k + 1) = r) (hL : L.length ≤ 64) (hk : k ≤ L.length) (hb : k + 1 ≤ bd) :
    Calls Tryd.prog 58 #[.pointer (some ⟨q, 0, none⟩)] w (RpP (.ok (.one (notX noX)) r) bd w q L d) := by
  obtain ⟨h, hh⟩ : ∃ h, w.heap.size = h := ⟨_, rfl⟩
  obtain ⟨W, hW⟩ : ∃ W, w.alloc (.cells #[.string ⟨#[]⟩, .slice none 0 0, .slice none 0 0] 60 (0, 0)) = W := ⟨_, rfl⟩
  have Z0 := Lib.hid (PtS.first p hh hW)
  clear p
  go_enter Tryd.func58, Tryd.ntmps58
  go_wp2_with fail
  clear hW hh
  refine (rnext_any _ _ _ _ _ _ Z0.out.ro.1 (by omega) (by omega)).mono ?_
  rw [hz]
  rintro y w1 ⟨rfl, ho⟩
  have Z1 := Lib.hid (Z0.out.step ho)
  have Z2 := Lib.hid Z1.out.incK
  have c1 := Z1.out.ro.1.c1
  have f1 := Z1.out.ro.1.f1
  have HK := Lib.hid (And.intro hk hb)
  clear ho hz hb
  go_wp2_with fail
  refine (only_any 0 255 false _).mono ?_
  rintro y w2 ⟨b, rfl, hb, hx, bl⟩
  have HB := Lib.hid hb
  have HX := Lib.hid hx
  have BL := Lib.hid bl
  have Z3 := Lib.hid (Z2.out.below bl)
  obtain ⟨⟨z0, z1, z2⟩, zf0, zf1, zf2⟩ := Z3.out.nb.cells
  clear hb hx bl
  go_wp2_with fail
  refine bodyPost_ret (v := .agg #[.string byteB, .slice (some ⟨b, 0, none⟩) 256 256, nvo]) (by simp [results, Tryd.results58, go_sem, z0, z1, z2]) rfl ?_
  exact part_only Z2.out HB.out HX.out (fun i hi => by unfold onX notX noX; simp; omega) BL.out hr (by have := HK.out; omega) HK.out.2 _ _ _
theorem on_one (b : Nat) : ∀ i, i < 256 → onX (b : Int) (b : Int) false i = withX noX b b i := by
  intro i hi
  unfold onX withX noX
  simp
set_option maxHeartbeats 2000000 in
theorem part_plain (a : Nat) (hne : a ≠ 40 ∧ a ≠ 91 ∧ a ≠ 46 ∧ a ≠ 42 ∧ a ≠ 43 ∧ a ≠ 63 ∧ a ≠ 93 ∧ a ≠ 123 ∧ a ≠ 125 ∧ a ≠ 94 ∧ a ≠ 36 ∧ a ≠ 92) (q : Nat) (L r : List UInt8) (k d bd : Nat) (w : World) (p : Rr w q L k d 0) (hz : nxF L k = (a : Int)) (hr : L.drop (k + 1) = r) (hL : L.length ≤ 64) (hk : k ≤ L.length) (hb : k + 1 ≤ bd) :
    Calls Tryd.prog 58 #[.pointer (some ⟨q, 0, none⟩)] w (RpP (.ok (.one (withX noX a a)) r) bd w q L d) := by
  obtain ⟨h, hh⟩ : ∃ h, w.heap.size = h := ⟨_, rfl⟩
  obtain ⟨W, hW⟩ : ∃ W, w.alloc (.cells #[.string ⟨#[]⟩, .slice none 0 0, .slice none 0 0] 60 (0, 0)) = W := ⟨_, rfl⟩
  have Z0 := Lib.hid (PtS.first p hh hW)
  obtain ⟨z, hza⟩ : ∃ z : Int, (a : Int) = z := ⟨_, rfl⟩
  rw [hza] at hz
  have HZA := Lib.hid hza
  have e1 : (z == 40) = false := z_no 40 (by omega)
  have e2 : (z == 91) = false := z_no 91 (by omega)
  have e3 : (z == 46) = false := z_no 46 (by omega)
  have e4 : (z == 42) = false := z_no 42 (by omega)
  have e5 : (z == 43) = false := z_no 43 (by omega)
  have e6 : (z == 63) = false := z_no 63 (by omega)
  have e7 : (z == 93) = false := z_no 93 (by omega)
  have e8 : (z == 123) = false := z_no 123 (by omega)
  have e9 : (z == 125) = false := z_no 125 (by omega)
  have e10 : (z == 94) = false := z_no 94 (by omega)
  have e11 : (z == 36) = false := z_no 36 (by omega)
  have e12 : (z == 92) = false := z_no 92 (by omega)
  clear p hne hza
  go_enter Tryd.func58, Tryd.ntmps58
  go_wp2_with fail
  clear hW hh
  refine (rnext_any _ _ _ _ _ _ Z0.out.ro.1 (by omega) (by omega)).mono ?_
  rw [hz]
  rintro y w1 ⟨rfl, ho⟩
  have Z1 := Lib.hid (Z0.out.step ho)
  have Z2 := Lib.hid Z1.out.incK
  have c1 := Z1.out.ro.1.c1
  have f1 := Z1.out.ro.1.f1
  have HK := Lib.hid (And.intro hk hb)
  clear ho hz hb
  go_wp2_with fail
  refine (only_any z z false _).mono ?_
  rintro y w2 ⟨b, rfl, hb, hx, bl⟩
  have HB := Lib.hid hb
  have HX := Lib.hid hx
  have BL := Lib.hid bl
  have Z3 := Lib.hid (Z2.out.below bl)
  obtain ⟨⟨z0, z1, z2⟩, zf0, zf1, zf2⟩ := Z3.out.nb.cells
  clear hb hx bl
  go_wp2_with fail
  refine bodyPost_ret (v := .agg #[.string byteB, .slice (some ⟨b, 0, none⟩) 256 256, nvo]) (by simp [results, Tryd.results58, go_sem, z0, z1, z2]) rfl ?_
  exact part_only Z2.out HB.out HX.out (fun i hi => by rw [← HZA.out]; exact on_one a i hi) BL.out hr (by have := HK.out; omega) HK.out.2 _ _ _
set_option maxHeartbeats 2000000 in
theorem part_back (b : Nat) (q : Nat) (L r : List UInt8) (k d bd : Nat) (w : World) (p : Rr w q L k d 0) (hz : nxF L k = 92) (hz2 : nxF L (k + 1) = (b : Int)) (hr : L.drop (k + 1 + 1) = r) (hL : L.length ≤ 64) (hk : k + 1 ≤ L.length) (hb : k + 2 ≤ bd) :
    Calls Tryd.prog 58 #[.pointer (some ⟨q, 0, none⟩)] w (RpP (.ok (.one (withX noX b b)) r) bd w q L d) := by
  obtain ⟨h, hh⟩ : ∃ h, w.heap.size = h := ⟨_, rfl⟩
  obtain ⟨W, hW⟩ : ∃ W, w.alloc (.cells #[.string ⟨#[]⟩, .slice none 0 0, .slice none 0 0] 60 (0, 0)) = W := ⟨_, rfl⟩
  have Z0 := Lib.hid (PtS.first p hh hW)
  clear p
  have hb0 : ¬ (b : Int) < 0 := by omega
  go_enter Tryd.func58, Tryd.ntmps58
  go_wp2_with fail
  clear hW hh
  refine (rnext_any _ _ _ _ _ _ Z0.out.ro.1 (by omega) (by omega)).mono ?_
  rw [hz]
  rintro y w1 ⟨rfl, ho⟩
  have Z1 := Lib.hid (Z0.out.step ho)
  have Z2 := Lib.hid Z1.out.incK
  have c1 := Z1.out.ro.1.c1
  have f1 := Z1.out.ro.1.f1
  have HK := Lib.hid (And.intro hk hb)
  clear ho hz hb
  go_wp2_with fail
  refine (rnext_any _ _ _ _ _ _ Z2.out.ro.1 (by omega) (by omega)).mono ?_
  rw [hz2]
  rintro y w2 ⟨rfl, ho⟩
  have Z3 := Lib.hid (Z2.out.step ho)
  obtain ⟨K, hK⟩ : ∃ K, k + 1 = K := ⟨_, rfl⟩
  have HKK := Lib.hid hK
  rw [hK] at Z3 hr
  have Z4 := Lib.hid Z3.out.incK
  have c1 := Z3.out.ro.1.c1
  have f1 := Z3.out.ro.1.f1
  have hKb : K ≤ 200 := by omega
  clear ho hz2 hK
  go_wp2_with fail
  refine (only_any (b : Int) (b : Int) false _).mono ?_
  rintro y w3 ⟨g, rfl, hb, hx, bl⟩
  have HB := Lib.hid hb
  have HX := Lib.hid hx
  have BL := Lib.hid bl
  have Z5 := Lib.hid (Z4.out.below bl)
  obtain ⟨⟨z0, z1, z2⟩, zf0, zf1, zf2⟩ := Z5.out.nb.cells
  clear hb hx bl
  go_wp2_with fail
  refine bodyPost_ret (v := .agg #[.string byteB, .slice (some ⟨g, 0, none⟩) 256 256, nvo]) (by simp [results, Tryd.results58, go_sem, z0, z1, z2]) rfl ?_
  exact part_only Z4.out HB.out HX.out (on_one b) BL.out hr (by have := HK.out; have := HKK.out; omega) (by have := HK.out; have := HKK.out; omega) _ _ _
set_option maxHeartbeats 2000000 in
theorem part_lone (q : Nat) (L : List UInt8) (k d bd : Nat) (w : World) (p : Rr w q L k d 0) (hz : nxF L k = 92) (hz2 : nxF L (k + 1) = -1) (hL : L.length ≤ 64) (hk : k ≤ L.length) (hb : k + 2 ≤ bd) :
    Calls Tryd.prog 58 #[.pointer (some ⟨q, 0, none⟩)] w (RpP (.err 27) bd w q L d) := by
  obtain ⟨h, hh⟩ : ∃ h, w.heap.size = h := ⟨_, rfl⟩
  obtain ⟨W, hW⟩ : ∃ W, w.alloc (.cells #[.string ⟨#[]⟩, .slice none 0 0, .slice none 0 0] 60 (0, 0)) = W := ⟨_, rfl⟩
  have Z0 := Lib.hid (PtS.first p hh hW)
  clear p
  go_enter Tryd.func58, Tryd.ntmps58
  go_wp2_with fail
  clear hW hh
  refine (rnext_any _ _ _ _ _ _ Z0.out.ro.1 (by omega) (by omega)).mono ?_
  rw [hz]
  rintro y w1 ⟨rfl, ho⟩
  have Z1 := Lib.hid (Z0.out.step ho)
  have Z2 := Lib.hid Z1.out.incK
  have c1 := Z1.out.ro.1.c1
  have f1 := Z1.out.ro.1.f1
  clear ho hz
  go_wp2_with fail
  refine (rnext_any _ _ _ _ _ _ Z2.out.ro.1 (by omega) (by omega)).mono ?_
  rw [hz2]
  rintro y w2 ⟨rfl, ho⟩
  have Z3 := Lib.hid (Z2.out.step ho)
  obtain ⟨K, hK⟩ : ∃ K, k + 1 = K := ⟨_, rfl⟩
  have HKK := Lib.hid hK
  rw [hK] at Z3
  have Z4 := Lib.hid Z3.out.incK
  have c1 := Z3.out.ro.1.c1
  have f1 := Z3.out.ro.1.f1
  have hKb : K ≤ 200 := by omega
  clear ho hz2 hK
  go_wp2_with fail
  refine (rwrong_any _ _ _ _ _ 27 _ Z4.out.ro.1).mono ?_
  rintro y w3 ⟨rfl, ho⟩
  have Z5 := Lib.hid (Z4.out.step (show RO _ q L (K + 1) d 27 w3 from ho))
  obtain ⟨⟨z0, z1, z2⟩, zf0, zf1, zf2⟩ := Z5.out.nb.cells
  clear ho
  go_wp2_with fail
  refine bodyPost_ret (v := .agg #[.string ⟨#[]⟩, nvo, nvo]) (by simp [results, Tryd.results58, go_sem, z0, z1, z2]) rfl ?_
  exact ⟨_, _, _, K + 1, d, 27, rfl, isS _ _ _, isS _ _ _, Z5.out.fin _ _ _, by have := HKK.out; omega, Nat.le_refl _, Nat.le_succ _, Lib.hid ⟨rfl, by decide⟩⟩
def clsR : Option ((Nat → Bool) × List UInt8) → Res
  | none => .err 27
  | some p => .ok (.one p.1) p.2
set_option maxHeartbeats 2000000 in
theorem part_class (q : Nat) (L r : List UInt8) (k d bd : Nat) (w : World) (p : Rr w q L k d 0) (hz : nxF L k = 91) (hr : L.drop (k + 1) = r) (hL : L.length ≤ 64) (hk : k ≤ L.length) (hb : L.length + 6 ≤ bd) :
    Calls Tryd.prog 58 #[.pointer (some ⟨q, 0, none⟩)] w (RpP (clsR (classF r)) bd w q L d) := by
  obtain ⟨h, hh⟩ : ∃ h, w.heap.size = h := ⟨_, rfl⟩
  obtain ⟨W, hW⟩ : ∃ W, w.alloc (.cells #[.string ⟨#[]⟩, .slice none 0 0, .slice none 0 0] 60 (0, 0)) = W := ⟨_, rfl⟩
  have Z0 := Lib.hid (PtS.first p hh hW)
  obtain ⟨R, hR⟩ : ∃ R, classF r = R := ⟨_, rfl⟩
  rw [hR]
  have HR := Lib.hid hR
  clear p hR
  go_enter Tryd.func58, Tryd.ntmps58
  go_wp2_with fail
  clear hW hh
  refine (rnext_any _ _ _ _ _ _ Z0.out.ro.1 (by omega) (by omega)).mono ?_
  rw [hz]
  rintro y w1 ⟨rfl, ho⟩
  have Z1 := Lib.hid (Z0.out.step ho)
  have Z2 := Lib.hid Z1.out.incK
  have c1 := Z1.out.ro.1.c1
  have f1 := Z1.out.ro.1.f1
  clear ho hz
  go_wp2_with fail
  refine (rclass_any q L r (k + 1) d _ Z2.out.ro.1 hr (by omega) (by omega)).mono ?_
  rw [HR.out]
  rintro y w2 ⟨X, b, k', e, rfl, hb2, hx, hk', ho, hout⟩
  have HB := Lib.hid hb2
  have HX := Lib.hid hx
  have HK := Lib.hid hk'
  have HO := Lib.hid hout
  have Z3 := Lib.hid (Z2.out.step ho)
  have HSZ := Lib.hid Z2.out.sz
  obtain ⟨⟨z0, z1, z2⟩, zf0, zf1, zf2⟩ := Z3.out.nb.cells
  clear hb2 hx hk' ho hout
  go_wp2_with fail
  refine bodyPost_ret (v := .agg #[.string byteB, .slice (some ⟨b, 0, none⟩) 256 256, nvo]) (by simp [results, Tryd.results58, go_sem, z0, z1, z2]) rfl ?_
  rcases HO.out with ⟨l', h1, h2, h3, h4⟩ | ⟨h1, h2⟩
  · subst h1 h2
    refine ⟨_, _, _, k', d, 0, rfl, isS _ _ _, isS _ _ _, Z3.out.fin _ _ _, by have := HK.out; omega, Nat.le_refl _, Nat.le_succ _, Lib.hid ⟨rfl, rfl, h3, by omega, .byte X, rfl, NdV.fin Z3.out.hs _ _ _ (nd_byte (W := W) (by have := HB.out; have := HSZ.out; omega) HX.out (fun i hi => rfl)), fun s => Iff.rfl⟩⟩
  · subst h1 h2
    exact ⟨_, _, _, k', d, 27, rfl, isS _ _ _, isS _ _ _, Z3.out.fin _ _ _, by have := HK.out; omega, Nat.le_refl _, Nat.le_succ _, Lib.hid ⟨rfl, by decide⟩⟩
end Go.Proofs.YtnabfganecghkaaDoor
