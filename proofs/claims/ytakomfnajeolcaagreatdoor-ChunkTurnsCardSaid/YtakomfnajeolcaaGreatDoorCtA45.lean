import Derived.Test.YtakomfnajeolcaaGreatDoorCtA44
set_option linter.unusedVariables false
/- take: the walk. -/
namespace Go.Proofs.YtakomfnajeolcaaGreatDoor.Ch
open Go.RowKit Go.Sort Go.Proofs.YtakomfnajeolcaaGreatDoor.En
set_option linter.unusedVariables false

theorem lyv_of {W : World} {bs : List Nat} {A1 B1 : Option Addr} {n1 c1 n2 d1 : Nat} {f1 f2 : Int} (e1 : (tkP bs).1.1 = f1) (e2 : (tkP bs).1.2.length = n1) (e3 : (tkQ bs).1.1 = f2) (e4 : (tkQ bs).1.2.length = n2) (h1 : Tk.Cl W A1 (Tk.twoC .i64 (tkP bs).1.2)) (h2 : Tk.Cl W B1 (Tk.twoC .i64 (tkQ bs).1.2)) : LyV W (xOf bs) (yOf bs) (.agg #[.int .i64 f1, .slice A1 n1 c1, .int .i64 f2, .slice B1 n2 d1]) := by
  obtain ⟨x1, x2, _⟩ := xOf_ix bs
  obtain ⟨y1, y2, _⟩ := yOf_ix bs
  refine ⟨A1, B1, c1, d1, ?_, ?_, ?_⟩
  · rw [x1, x2, y1, y2, e1, e2, e3, e4]
  · unfold Tk.Ly; rw [x1]; exact h1
  · unfold Tk.Ly; rw [y1]; exact h2
theorem iw_of (bs : List Nat) : Iw (xOf bs) ∧ Iw (yOf bs) := by
  obtain ⟨_, _, x3, x4, x5⟩ := xOf_ix bs
  obtain ⟨_, _, y3, y4, y5⟩ := yOf_ix bs
  exact ⟨⟨x3, x4, by omega⟩, ⟨y3, y4, by omega⟩⟩
theorem ClG.grown {G H : Nat → Prop} {w w' : World} {A : Option Addr} {l : List Value} {r : Option Nat} {m : Nat} (h : ClG G w A l) (hg : w.grownBy w' r) (hr : ∀ k, r = some k → m ≤ k) (hl : l ≠ [] → ∀ x, A = some x → x.block < m) (hm : m ≤ w.heap.size) (hH : ∀ y, G y → H y) : ClG H w' A l := by
  refine ⟨?_, fun hne x hx => hH _ (h.2 hne x hx)⟩
  rcases h.1 with h1 | ⟨b, o, e, hc⟩
  · exact .inl h1
  · by_cases hne : l = []
    · exact .inl hne
    · have hb := hl hne _ e
      simp only at hb
      have hx : w'.heap[b]? = w.heap[b]? := hg.block b (by omega) (fun e' => by have := hr _ e'.symm; omega)
      exact .inr ⟨b, o, e, fun j v hj => (World.cell?_of_block (a := ⟨b, o + j, none⟩) hx).trans (hc j v hj)⟩
theorem one9 (s : SV) (A B : Option Addr) (c d : Nat) : ∀ u ∈ smC s A B c d, u.oneCell' = true := fun u hu => by
  simp only [smC, List.mem_cons, List.not_mem_nil, or_false] at hu
  rcases hu with rfl | rfl | rfl | rfl | rfl | rfl | rfl | rfl | rfl <;> rfl
theorem ownB_len (D : Option Addr) (n m c : Nat) : (Value.slice D n c).ownBlock = (Value.slice D m c).ownBlock := by cases D <;> rfl
def own2 (D : Option Addr) (k c : Nat) (D' : Option Addr) (cR : Nat) : Nat → Prop := fun y => (Value.slice D k c).ownBlock = some y ∨ (Value.slice D' k cR).ownBlock = some y
/-- what the loop keeps -/
structure TkI (W0 : World) (q : Nat) (a : Option Addr) (l c : Nat) (bs : List Nat) (K : Nat) (s0 : Nat × Int) (g : Nat) (A1 B1 : Option Addr) (n1 n2 c1 d1 : Nat) (k : Nat) (D : Option Addr) (cD : Nat) (D' : Option Addr) (cR : Nat) (G : Nat → Prop) (L : List (Int × List Int)) (s : Nat × Int) (cs : List (List Value)) (vs : List Value) (wr : World) : Prop where
  tk : TkK bs K s0 k L s
  rg : RG G W0 q a l c bs s wr
  sg : SgV G (own2 D k cD D' cR) (g + 2) wr D cD (L.map (svOf bs)) cs
  rv : RwV G (g + 2) wr D' cR (L.map (·.2)) vs
  hx : wr.heap[g]? = some (.cells #[.int .i64 (kOf bs), .int .i64 (sOf bs), .int .i64 (zOf bs), .int .u64 0, .int .u64 0, .int .i64 0, .slice none 0 0, .slice none 0 0] 39 (0, 0))
  hy : wr.heap[g + 1]? = some (.cells #[.int .i64 (tkP bs).1.1, .slice A1 n1 c1, .int .i64 (tkQ bs).1.1, .slice B1 n2 d1] 54 (0, 0))
  gx : G g ∧ G (g + 1)
  la : ClG G wr A1 (Tk.twoC .i64 (tkP bs).1.2)
  lb : ClG G wr B1 (Tk.twoC .i64 (tkQ bs).1.2)
  lt : (Tk.twoC .i64 (tkP bs).1.2 ≠ [] → ∀ x, A1 = some x → x.block < g + 2) ∧ (Tk.twoC .i64 (tkQ bs).1.2 ≠ [] → ∀ x, B1 = some x → x.block < g + 2)
  sz : g + 2 ≤ wr.heap.size
def TakeP (W0 : World) (bs : List Nat) (e : Ending) (w' : World) : Prop :=
  ∃ D c, e = .returned (.slice D (takeF bs).length c) ∧ Sm w' D (takeF bs) ∧ Cpd w' D (takeF bs) ∧ Sums (takeF bs) ∧ ((takeF bs).length ≤ c ∧ c ≤ 9223372036854775807) ∧ (takeF bs).length ≤ 32 ∧ Below W0.heap.size W0 w'
theorem take_none {W0 : World} {bs : List Nat} {w' : World} (h : tkL bs = none) (hb : Below W0.heap.size W0 w') : TakeP W0 bs (.returned (.slice none 0 0)) w' := by
  have e : takeF bs = [] := by unfold takeF; rw [h]
  rw [TakeP, e]
  exact ⟨none, 0, rfl, .inl rfl, fun j s hj => by simp at hj, fun x hx => by simp at hx, ⟨by simp, by omega⟩, by simp, hb⟩
theorem svOf_times (bs : List Nat) (L : List (Int × List Int)) : (L.map (svOf bs)).map (·.t) = L.map (·.1) := by rw [List.map_map]; rfl
theorem svOf_len (bs : List Nat) (L : List (Int × List Int)) : (L.map (svOf bs)).length = L.length := List.length_map ..
theorem kz_bd (bs : List Nat) : I64 (kOf bs) ∧ I64 (sOf bs) ∧ I64 (zOf bs) := by
  have h1 := Tk.getF_lt bs 4 (st1 bs)
  have h2 := intF_bd bs (st2 bs)
  refine ⟨?_, ?_, h2⟩
  · unfold kOf; split <;> exact ⟨by decide, by decide⟩
  · unfold sOf; constructor <;> omega
set_option maxHeartbeats 8000000 in
set_option maxRecDepth 100000 in
theorem take_g (W0 : World) (q : Nat) (a : Option Addr) (l c : Nat) (bs : List Nat) (w : World) (h : RG (fun _ => False) W0 q a l c bs (0, 0) w) (hq : W0.heap.size ≤ q) (hT : Tk.Tab W0) :
    Calls Tryz.prog 29 #[.pointer (some ⟨q, 0, none⟩)] w (TakeP W0 bs) := by
  have HH := Lib.hid (takehead_g (fun _ => False) W0 q a l c bs w h hq hT)
  clear h
  go_enter Tryz.func29, Tryz.ntmps29
  go_wp2_with fail
  refine HH.out.mono ?_
  rintro e w2 ⟨A1, c1, B1, d1, rfl, ha, hb, hr, _⟩
  obtain ⟨f1, hf1⟩ : ∃ f, (tkP bs).1.1 = f := ⟨_, rfl⟩
  obtain ⟨n1, hn1⟩ : ∃ f, (tkP bs).1.2.length = f := ⟨_, rfl⟩
  obtain ⟨f2, hf2⟩ : ∃ f, (tkQ bs).1.1 = f := ⟨_, rfl⟩
  obtain ⟨n2, hn2⟩ : ∃ f, (tkQ bs).1.2.length = f := ⟨_, rfl⟩
  obtain ⟨KO, hKO⟩ : ∃ f, kOf bs = f := ⟨_, rfl⟩
  obtain ⟨SO, hSO⟩ : ∃ f, sOf bs = f := ⟨_, rfl⟩
  obtain ⟨ZO, hZO⟩ : ∃ f, zOf bs = f := ⟨_, rfl⟩
  have HF := Lib.hid (And.intro (And.intro hf1 hn1) (And.intro hf2 hn2))
  have HKS := Lib.hid (And.intro hKO (And.intro hSO hZO))
  have HBD := Lib.hid (show I64 SO from by rw [← hSO]; exact (kz_bd bs).2.1)
  rw [hf1, hn1, hf2, hn2, hKO, hSO, hZO]
  obtain ⟨g, hg⟩ : ∃ g, w2.heap.size = g := ⟨_, rfl⟩
  obtain ⟨u2, hu2⟩ : ∃ W, (w2.alloc (.cells #[.int .i64 0, .int .i64 0, .int .i64 0, .int .u64 0, .int .u64 0, .int .i64 0, .slice none 0 0, .slice none 0 0] 39)).alloc (.cells #[.int .i64 0, .slice none 0 0, .int .i64 0, .slice none 0 0] 54) = W := ⟨_, rfl⟩
  have hy0 : u2.heap[g]? = some (.cells #[.int .i64 0, .int .i64 0, .int .i64 0, .int .u64 0, .int .u64 0, .int .i64 0, .slice none 0 0, .slice none 0 0] 39 (0, 0)) := by rw [← hu2, ← hg, Below.heap_alloc _ _ _ (by simp)]; exact heap_alloc_new w2 _
  have hy1 : u2.heap[g + 1]? = some (.cells #[.int .i64 0, .slice none 0 0, .int .i64 0, .slice none 0 0] 54 (0, 0)) := by
    have hz : (w2.alloc (.cells #[.int .i64 0, .int .i64 0, .int .i64 0, .int .u64 0, .int .u64 0, .int .i64 0, .slice none 0 0, .slice none 0 0] 39)).heap.size = g + 1 := by simp [hg]
    rw [← hu2, ← hz]; exact heap_alloc_new _ _
  have hbu : Below w2.heap.size w2 u2 := by rw [← hu2]; exact ((Below.refl _ _).alloc (Nat.le_refl _) _).alloc (by simp) _
  have hsu : u2.heap.size = g + 2 := by rw [← hu2]; simp [hg]
  obtain ⟨w3, hw3⟩ : ∃ W, setL (setL u2 g 0 [.int .i64 KO, .int .i64 SO, .int .i64 ZO, .int .u64 0, .int .u64 0, .int .i64 0, .slice none 0 0, .slice none 0 0]) (g + 1) 0 [.int .i64 f1, .slice A1 n1 c1, .int .i64 f2, .slice B1 n2 d1] = W := ⟨_, rfl⟩
  have hx3 : w3.heap[g]? = some (.cells #[.int .i64 KO, .int .i64 SO, .int .i64 ZO, .int .u64 0, .int .u64 0, .int .i64 0, .slice none 0 0, .slice none 0 0] 39 (0, 0)) := by rw [← hw3, setL_block (by omega), setL_at hy0, setA8]
  have hy3 : w3.heap[g + 1]? = some (.cells #[.int .i64 f1, .slice A1 n1 c1, .int .i64 f2, .slice B1 n2 d1] 54 (0, 0)) := by rw [← hw3, setL_at ((setL_block (by omega)).trans hy1), setA4]
  have hb3 : Below w2.heap.size w2 w3 := by rw [← hw3]; exact setL_below (by omega) (setL_below (by omega) hbu)
  have hs3 : w3.heap.size = g + 2 := by rw [← hw3, setL_size, setL_size]; exact hsu
  obtain ⟨m0, m1, m2, m3, m4, m5, m6, m7, fm⟩ := box8 hy0
  obtain ⟨l0, l1, l2, l3, e0, e1, e2, e3⟩ := box4f hy1
  have fm0 := fm 0
  have fm1 := fm 1
  have fm2 := fm 2
  have fm3 := fm 3
  have fm4 := fm 4
  have fm5 := fm 5
  have fm6 := fm 6
  have fm7 := fm 7
  simp only [setL] at hw3
  obtain ⟨G3, hG3⟩ : ∃ G3, NewG (NewG (fun _ => False) w w2) w2 w3 = G3 := ⟨_, rfl⟩
  have HR3 := Lib.hid (show RG G3 W0 q a l c bs (tkQ bs).2 w3 from by rw [← hG3]; exact hr.more hb3)
  have HK23 := KpG.of_below (G := NewG (fun _ => False) w w2) (fun y hy => hr.lt hy) hb3
  have HLA := Lib.hid (show ClG G3 w3 A1 (Tk.twoC .i64 (tkP bs).1.2) ∧ ClG G3 w3 B1 (Tk.twoC .i64 (tkQ bs).1.2) from by rw [← hG3]; exact ⟨(ha.kept HK23).inc fun y hy => .inl hy, (hb.kept HK23).inc fun y hy => .inl hy⟩)
  have HGX := Lib.hid (show G3 g ∧ G3 (g + 1) from by rw [← hG3]; exact ⟨.inr ⟨by omega, by omega⟩, .inr ⟨by omega, by omega⟩⟩)
  have HXY := Lib.hid (And.intro hx3 hy3)
  have HS3 := Lib.hid hs3
  have HLT := Lib.hid (show (Tk.twoC .i64 (tkP bs).1.2 ≠ [] → ∀ x, A1 = some x → x.block < g + 2) ∧ (Tk.twoC .i64 (tkQ bs).1.2 ≠ [] → ∀ x, B1 = some x → x.block < g + 2) from
    ⟨fun hne x hx => by have := HR3.out.lt (HLA.out.1.2 hne x hx); omega, fun hne x hx => by have := HR3.out.lt (HLA.out.2.2 hne x hx); omega⟩)
  have HWg : W0.heap.size ≤ g := by have := hr.bel.size; omega
  have HW3 := Lib.hid hw3
  clear ha hb hr hf1 hn1 hf2 hn2 hKO hSO hZO hy0 hy1 hbu hsu hx3 hy3 hb3 hs3 fm hG3 HK23 hw3
  go_wp2_with fail
  rw [HW3.out]
  clear m0 m1 m2 m3 m4 m5 m6 m7 l0 l1 l2 l3 e0 e1 e2 e3 fm0 fm1 fm2 fm3 fm4 fm5 fm6 fm7 hu2 hg
  refine (rsmall_g 31 31 rfl (by decide) HR3.out hq hT).mono ?_
  obtain ⟨NN, s0, hNN⟩ : ∃ n s, Tk.smallF bs 31 (tkQ bs).2 = (n, s) := ⟨_, _, rfl⟩
  have hN31 : NN ≤ 31 := by have := Tk.smallF_le bs 31 (tkQ bs).2; rw [hNN] at this; exact this
  have HTN := Lib.hid (show tkN bs = (NN, s0) from hNN)
  rw [hNN]
  rintro e w4 ⟨rfl, r1, r2⟩
  have HI0 := Lib.hid (show TkI W0 q a l c bs (NN + 1) s0 g A1 B1 n1 n2 c1 d1 0 none 0 none 0 G3 [] s0 [] [] w4 from
    ⟨⟨rfl, by
      unfold tkL
      rw [HTN.out]
      simp, TB.nil, by simp⟩, r1, SgV.nil _ _ _ _, RwV.nil _ _ _, (r2.2 _ HGX.out.1).trans (by rw [HKS.out.1, HKS.out.2.1, HKS.out.2.2]; exact HXY.out.1), (r2.2 _ HGX.out.2).trans (by rw [HF.out.1.1, HF.out.2.1]; exact HXY.out.2), HGX.out, HLA.out.1.kept r2, HLA.out.2.kept r2, HLT.out, Nat.le_trans (Nat.le_of_eq HS3.out.symm) r2.1⟩)
  clear r1 r2 hNN HTN
  have hK : (NN : Int) + 1 = ((NN + 1 : Nat) : Int) := by omega
  obtain ⟨K, hKK⟩ : ∃ K, NN + 1 = K := ⟨_, rfl⟩
  rw [hKK] at HI0 hK
  have hK32 : K ≤ 32 := by omega
  go_wp2_with fail
  go_loopw [6, 7, 22] (fun v6 v7 i wr => ∃ (k : Nat) (D : Option Addr) (cD : Nat) (D' : Option Addr) (cR : Nat), k ≤ K ∧ i = .int .i64 (k : Int) ∧ v6 = .slice D k cD ∧ v7 = .slice D' k cR ∧ ∃ (G : Nat → Prop) (L : List (Int × List Int)) (s : Nat × Int) (cs : List (List Value)) (vs : List Value), Hid (TkI W0 q a l c bs K s0 g A1 B1 n1 n2 c1 d1 k D cD D' cR G L s cs vs wr)) (fun _ _ i _ => K - (intOf i).toNat)
  case atStart => exact ⟨0, none, 0, none, 0, by omega, rfl, rfl, rfl, _, _, _, _, _, HI0⟩
  case round =>
    obtain ⟨k, D, cD, D', cR, hk, rfl, rfl, rfl, G, L, s, cs, vs, HI⟩ := hrel
    have hLk : L.length = k := HI.out.tk.len
    have HLK := Lib.hid hLk
    by_cases hlt : k < K
    · have hki : (k : Int) < (K : Int) := by omega
      go_wp2_with fail
      have HTM := taketime_g D k cD (L.map (svOf bs)) G W0 q a l c bs s wr HI.out.rg hq hT (by rw [svOf_len]; omega) (by omega) HI.out.sg.sm.1 (fun x hx => by
        obtain ⟨p, hp, rfl⟩ := List.mem_map.1 hx
        have := HI.out.tk.tb.1 p.1 (List.mem_reverse.2 (List.mem_map_of_mem hp))
        show 0 ≤ p.1 ∧ p.1 ≤ 5000000000000
        omega)
      rw [svOf_times] at HTM
      obtain ⟨T1, T2, s1, ht⟩ : ∃ T1 T2 s1, timeF bs (L.map (·.1)).reverse s = ((T1, T2), s1) := ⟨_, _, _, rfl⟩
      rw [ht] at HTM
      have HTF := Lib.hid ht
      refine HTM.mono ?_
      clear HTM ht
      rintro e w4 ⟨rfl, r1, r2⟩
      have HR4 := Lib.hid (show RG G W0 q a l c bs s1 w4 from r1)
      have HK4 := Lib.hid r2
      have hy4 := (r2.2 _ HI.out.gx.2).trans HI.out.hy
      rw [HF.out.1.1, HF.out.2.1] at hy4
      have HZ4 := Lib.hid (show g + 2 ≤ w4.heap.size from Nat.le_trans HI.out.sz r2.1)
      have HLY4 := Lib.hid (lyv_of (c1 := c1) (d1 := d1) HF.out.1.1 HF.out.1.2 HF.out.2.1 HF.out.2.2 (HI.out.la.kept r2).1 (HI.out.lb.kept r2).1)
      clear r1 r2
      obtain ⟨b0, b1, b2, b3, _⟩ := box4f hy4
      clear hy4
      simp only
      go_wp2_with fail
      have HRW := takerow_g D' k cR (L.map (·.2)) (nNum (xOf bs) (yOf bs)) (xOf bs) (yOf bs) f1 A1 n1 c1 f2 B1 n2 d1 G W0 q a l c bs s1 w4 HR4.out hq hT (by rw [List.length_map]; omega) (by omega) (HI.out.rv.kept HK4.out).rg (fun r hr => by
        obtain ⟨p, hp, rfl⟩ := List.mem_map.1 hr
        exact (HI.out.tk.row p hp).1) rfl (iw_of bs).1 (iw_of bs).2 HLY4.out
      obtain ⟨rr, s2, hrf⟩ : ∃ r s2, rowF bs (L.map (·.2)).reverse.isEmpty (nextR (nNum (xOf bs) (yOf bs)) (L.map (·.2)).reverse) s1 = (r, s2) := ⟨_, _, rfl⟩
      have HST := Lib.hid (HI.out.tk.step hlt (T1, T2) s1 HTF.out rr s2 hrf)
      have hrl : rr.length = nNum (xOf bs) (yOf bs) := by
        have := rowF_length bs (L.map (·.2)).reverse.isEmpty (nextR (nNum (xOf bs) (yOf bs)) (L.map (·.2)).reverse) s1
        rw [hrf, nextR_length _ (fun q hq => by
          simp only [List.mem_reverse, List.mem_map] at hq
          obtain ⟨p, hp, rfl⟩ := hq
          exact (HI.out.tk.row p hp).1.1)] at this
        exact this
      have hru := rowF_r bs (L.map (·.2)).reverse.isEmpty (nextR (nNum (xOf bs) (yOf bs)) (L.map (·.2)).reverse) s1
      rw [hrf] at HRW hru
      have HRR := Lib.hid (show RowR (nNum (xOf bs) (yOf bs)) rr from ⟨hrl, hru⟩)
      refine HRW.mono ?_
      clear HRW hru hrf b0 b1 b2 b3
      rintro e w5 ⟨AR, dR, rfl, hou, hrg, hkp⟩
      simp only at hou hrg
      have hrl2 : 2 ≤ rr.length := by rw [hrl]; unfold nNum; omega
      obtain ⟨gr, dR', hgr, _, _⟩ := hou.1.form (by omega)
      unfold rowV at hgr
      injection hgr with ea1 _ ea3
      subst ea1
      have hcap : rr.length ≤ dR ∧ dR ≤ 9223372036854775807 := own_cap hou.1
      obtain ⟨G1, hG1⟩ : ∃ G1, NewG G w4 w5 = G1 := ⟨_, rfl⟩
      rw [hG1] at hou hrg
      have HL1 := Lib.hid (fun y (hy : G y) => show G1 y from by rw [← hG1]; exact .inl hy)
      have HR5 := Lib.hid hrg
      have HK5 := Lib.hid (HK4.out.trans hkp)
      have HOU5 := Lib.hid (show OwnU G1 (g + 2) w5 (some ⟨gr, 0, none⟩) dR rr from ⟨Bw.ownsRow_base hou.1 HZ4.out, hou.2⟩)
      have HZ5 := Lib.hid (Nat.le_trans HZ4.out hkp.1)
      have hx5 := (HK5.out.2 _ HI.out.gx.1).trans HI.out.hx
      have hy5 := (HK5.out.2 _ HI.out.gx.2).trans HI.out.hy
      rw [HKS.out.1, HKS.out.2.1, HKS.out.2.2] at hx5
      rw [HF.out.1.1, HF.out.2.1] at hy5
      have HLY5 := Lib.hid (lyv_of (c1 := c1) (d1 := d1) HF.out.1.1 HF.out.1.2 HF.out.2.1 HF.out.2.2 (HI.out.la.kept HK5.out).1 (HI.out.lb.kept HK5.out).1)
      have HRL := Lib.hid hrl
      clear hou hrg hkp hG1 ea3 hrl
      obtain ⟨b0, b1, b2, b3, _⟩ := box4f hy5
      obtain ⟨z0, z1, z2, z3, z4, z5, z6, z7, _⟩ := box8 hx5
      clear hx5 hy5
      unfold rowV
      simp only
      go_wp2_with fail
      have HHG := histogram_any KO SO ZO (xOf bs) (yOf bs) f1 A1 n1 c1 f2 B1 n2 d1 gr 0 rr.length dR rr w5 HRL.out (by rw [HRL.out]; exact HRR.out) hcap HOU5.out.cl.1 HBD.out (iw_of bs).1 (iw_of bs).2 HLY5.out
      have HRC := Lib.hid (fun (h : rowE KO SO ZO (xOf bs) (yOf bs) rr = 0) => row_ok HRR.out (by unfold nNum; omega) h)
      obtain ⟨RH, hRH⟩ : ∃ h, rowH KO SO ZO (xOf bs) (yOf bs) rr = h := ⟨_, rfl⟩
      obtain ⟨RE, hRE⟩ : ∃ h, rowE KO SO ZO (xOf bs) (yOf bs) rr = h := ⟨_, rfl⟩
      have HSV := Lib.hid (show svOf bs (T1, rr) = ⟨T1, RH⟩ from by unfold svOf; rw [HKS.out.1, HKS.out.2.1, HKS.out.2.2, hRH])
      rw [HKS.out.1, HKS.out.2.1, HKS.out.2.2, hRE] at HST
      rw [hRH, hRE] at HHG HRC
      refine HHG.mono ?_
      clear HHG hRH hRE z0 z1 z2 z3 z4 z5 z6 z7 b0 b1 b2 b3
      rintro e w6 ⟨Ah, Bh, ch, dh, rfl, bP, bQ, kP, kQ, hb6, nA, nB⟩
      have HBP := Lib.hid (And.intro bP bQ)
      have HCP := Lib.hid (And.intro kP kQ)
      have HNA := Lib.hid (And.intro nA nB)
      obtain ⟨g11, hg11⟩ : ∃ g, w6.heap.size = g := ⟨_, rfl⟩
      obtain ⟨u6, hu6⟩ : ∃ W, w6.alloc (.cells #[.int .i64 0, .int .i64 0, .int .i64 0, .int .u64 0, .int .u64 0, .int .i64 0, .slice none 0 0, .slice none 0 0] 39) = W := ⟨_, rfl⟩
      have hy6 : u6.heap[g11]? = some (.cells #[.int .i64 0, .int .i64 0, .int .i64 0, .int .u64 0, .int .u64 0, .int .i64 0, .slice none 0 0, .slice none 0 0] 39 (0, 0)) := by rw [← hu6, ← hg11]; exact heap_alloc_new _ _
      obtain ⟨w7, hw7⟩ : ∃ W, setL u6 g11 0 [.int .i64 RH.k, .int .i64 RH.s, .int .i64 RH.z, .int .u64 RH.zc, .int .u64 RH.ct, .int .i64 RH.sm, .slice Ah RH.P.length ch, .slice Bh RH.Q.length dh] = W := ⟨_, rfl⟩
      have hb67 : Below w6.heap.size w6 w7 := by rw [← hw7]; exact setL_below (by omega) (by rw [← hu6]; exact (Below.refl _ _).alloc (Nat.le_refl _) _)
      have hb57 : Below w5.heap.size w5 w7 := hb6.trans (hb67.mono hb6.size)
      have hx7 : w7.heap[g11]? = some (.cells #[.int .i64 RH.k, .int .i64 RH.s, .int .i64 RH.z, .int .u64 RH.zc, .int .u64 RH.ct, .int .i64 RH.sm, .slice Ah RH.P.length ch, .slice Bh RH.Q.length dh] 39 (0, 0)) := by rw [← hw7, setL_at hy6, setA8]
      obtain ⟨m0, m1, m2, m3, m4, m5, m6, m7, fm⟩ := box8 hy6
      have fm0 := fm 0
      have fm1 := fm 1
      have fm2 := fm 2
      have fm3 := fm 3
      have fm4 := fm 4
      have fm5 := fm 5
      have fm6 := fm 6
      have fm7 := fm 7
      simp only [setL] at hw7
      obtain ⟨G2, hG2⟩ : ∃ G2, NewG G1 w5 w7 = G2 := ⟨_, rfl⟩
      have HR7 := Lib.hid (show RG G2 W0 q a l c bs s2 w7 from by rw [← hG2]; exact HR5.out.more hb57)
      have HK57 := Lib.hid (KpG.of_below (fun y hy => HR5.out.lt hy) hb57)
      have HL2 := Lib.hid (fun y (hy : G1 y) => show G2 y from by rw [← hG2]; exact .inl hy)
      have HX7 := Lib.hid hx7
      have HBL := Lib.hid (And.intro hb6 hb67)
      have HGN := Lib.hid (fun y (h1 : w5.heap.size ≤ y) (h2 : y < w7.heap.size) => show G2 y from by rw [← hG2]; exact .inr ⟨h1, h2⟩)
      have HW7 := Lib.hid hw7
      have HUG := Lib.hid (And.intro hu6 hg11)
      clear bP bQ kP kQ nA nB hb6 hb67 hy6 hx7 fm hG2 hb57 hw7
      unfold hvA
      simp only
      cases T2 with
      | false =>
        go_wp2_with fail
        go_ret
        exact take_none (HST.out.1 (by simp)) (by first | (rw [HW7.out]; exact HR7.out.bel) | exact HR7.out.bel)
      | true =>
        by_cases hE0 : RE = 0
        · have hE' : (RE != 0) = false := by rw [hE0]; rfl
          have HT9 := Lib.hid (HST.out.2 rfl hE0)
          have HRO := Lib.hid (HRC.out hE0)
          clear hE0
          obtain ⟨g8, hg8⟩ : ∃ g, w7.heap.size = g := ⟨_, rfl⟩
          obtain ⟨w8, hw8⟩ : ∃ W, w7.alloc (.cells #[.int .i64 T1, .int .i64 RH.k, .int .i64 RH.s, .int .i64 RH.z, .int .u64 RH.zc, .int .u64 RH.ct, .int .i64 RH.sm, .slice Ah RH.P.length ch, .slice Bh RH.Q.length dh] 41) = W := ⟨_, rfl⟩
          have hb8 : Below w7.heap.size w7 w8 := by rw [← hw8]; exact (Below.refl _ _).alloc (Nat.le_refl _) _
          have hx8 : w8.heap[g8]? = some (.cells #[.int .i64 T1, .int .i64 RH.k, .int .i64 RH.s, .int .i64 RH.z, .int .u64 RH.zc, .int .u64 RH.ct, .int .i64 RH.sm, .slice Ah RH.P.length ch, .slice Bh RH.Q.length dh] 41 (0, 0)) := by rw [← hw8, ← hg8]; exact heap_alloc_new _ _
          have hs8 : w8.heap.size = g8 + 1 := by rw [← hw8]; simp [hg8]
          obtain ⟨G3', hG3'⟩ : ∃ G3, NewG G2 w7 w8 = G3 := ⟨_, rfl⟩
          have HK78 := Lib.hid (KpG.of_below (fun y hy => HR7.out.lt hy) hb8)
          have HL3 := Lib.hid (fun y (hy : G2 y) => show G3' y from by rw [← hG3']; exact .inl hy)
          have HR8 := Lib.hid (show RG G3' W0 q a l c bs s2 w8 from by rw [← hG3']; exact HR7.out.more hb8)
          have HKW := Lib.hid (show KpG G wr w8 from HK5.out.trans ((HK57.out.less HL1.out).trans (HK78.out.less fun y hy => HL2.out y (HL1.out y hy))))
          have HLG := Lib.hid (fun y (hy : G y) => HL3.out y (HL2.out y (HL1.out y hy)))
          have HZ8 := Lib.hid (Nat.le_trans HI.out.sz HKW.out.1)
          have HSG8 := Lib.hid ((HI.out.sg.kept HKW.out).inc HLG.out)
          have HRV8 := Lib.hid ((HI.out.rv.kept HKW.out).inc HLG.out)
          have HLA8 := Lib.hid (And.intro ((HI.out.la.kept HKW.out).inc HLG.out) ((HI.out.lb.kept HKW.out).inc HLG.out))
          have HX8 := Lib.hid (And.intro ((HKW.out.2 _ HI.out.gx.1).trans HI.out.hx) ((HKW.out.2 _ HI.out.gx.2).trans HI.out.hy))
          have HOU8 := Lib.hid (((HOU5.out.kept HK57.out).inc HL2.out).kept HK78.out |>.inc HL3.out)
          have hm1 : (L.map (svOf bs)).length = k := by rw [svOf_len]; exact HLK.out
          have hm2 : (L.map (·.2)).length = k := by rw [List.length_map]; exact HLK.out
          have HM1 := Lib.hid hm1
          have HM2 := Lib.hid hm2
          have HSC := Lib.hid (show SgC G3' (own2 D k cD D' cR) w8 ⟨T1, RH⟩ (smC ⟨T1, RH⟩ Ah Bh ch dh) from by
            have hb68 : Below w6.heap.size w6 w8 := HBL.out.2.trans (hb8.mono HBL.out.2.size)
            have hsz : w6.heap.size ≤ w7.heap.size := HBL.out.2.size
            have old : ∀ y, own2 D k cD D' cR y → y < w5.heap.size := fun y hy => by
              have h5 : wr.heap.size ≤ w5.heap.size := HK5.out.1
              rcases hy with hy | hy
              · have := HI.out.rg.lt (HI.out.sg.g y (by rw [hm1]; exact hy)).1; omega
              · have := HI.out.rg.lt (HI.out.rv.g y (by rw [hm2]; exact hy)); omega
            refine ⟨Ah, Bh, ch, dh, rfl, ⟨HBP.out.1.below hb68, HBP.out.2.below hb68, HRO.out.1, HRO.out.2.1⟩, HCP.out, fun hp x hx => ?_, fun hp x hx => ?_⟩
            · have h1 := HNA.out.1 x hx
              have h2 := bk_lt HBP.out.1 hp x hx
              exact ⟨HL3.out _ (HGN.out _ h1 (by omega)), fun hf => by have := old _ hf; omega⟩
            · have h1 := HNA.out.2 x hx
              have h2 := bk_lt HBP.out.2 hp x hx
              exact ⟨HL3.out _ (HGN.out _ h1 (by omega)), fun hf => by have := old _ hf; omega⟩)
          have HWW8 := Lib.hid hw8
          have HWG8 := Lib.hid hg8
          have HC8 := Lib.hid (fun (j : Nat) (u : Value) (hu : (smC ⟨T1, RH⟩ Ah Bh ch dh)[j]? = some u) => show w8.cell? ⟨g8, j, none⟩ = some u from bx hx8 j u (by simpa [smC] using hu))
          have HS8 := Lib.hid hs8
          clear hm1 hm2 hb8 hx8 hs8 hG3' hw8 hg8
          have hw7 := HW7.out
          obtain ⟨n0, n1', n2', n3, n4, n5, n6, n7, _⟩ := box8 HX7.out
          go_wp2_with (at_builtin; refine app_smp rfl _ _ rfl (g + 2) D k cD cs.flatten rfl ?c0 w7.heap.size rfl (smC ⟨T1, RH⟩ Ah Bh ch dh) rfl (one9 _ _ _ _ _) ?c1 (by omega) ?c2 ?_)
          case c0 => have := HSG8.out.own; rw [HM1.out, ← HWW8.out] at this; exact this
          case c1 => exact fun j u hu => hu
          case c2 => have := HZ8.out; have := HS8.out; have := HWG8.out; omega
          intro D2 cD2 w9 ho hgr hat
          rw [HWW8.out] at hgr
          have hat' : (Value.slice D2 (k + 1) cD2).ownBlock = (Value.slice D k cD).ownBlock ∨ (Value.slice D2 (k + 1) cD2).ownBlock = some w8.heap.size := by rw [HS8.out, ← HWG8.out]; exact hat
          have hol : ∀ y, (Value.slice D k cD).ownBlock = some y → g + 2 ≤ y := fun y hy => (HSG8.out.own.lt y (by rw [HM1.out]; exact hy)).1
          obtain ⟨G4, hG4⟩ : ∃ G4, NewG G3' w8 w9 = G4 := ⟨_, rfl⟩
          have HL4 := Lib.hid (fun y (hy : G3' y) => show G4 y from by rw [← hG4]; exact .inl hy)
          have HR9 := Lib.hid (show RG G4 W0 q a l c bs s2 w9 from by
            rw [← hG4]
            exact HR8.out.grown hgr (fun y hy => ⟨(HSG8.out.g y (by rw [HM1.out]; exact hy)).1, by have := hol y hy; omega⟩))
          have HSG9 := Lib.hid (show SgV G4 (own2 D2 (k + 1) cD2 D' cR) (g + 2) w9 D2 cD2 (L.map (svOf bs) ++ [⟨T1, RH⟩]) (cs ++ [smC ⟨T1, RH⟩ Ah Bh ch dh]) from by
            rw [← hG4]
            refine HSG8.out.snoc HSC.out (by rw [HM1.out]; exact ho) (by rw [HM1.out]; exact hgr) (by rw [HM1.out]; exact hat') (fun y hy => ?_) (fun y hy => .inl (by rw [HM1.out] at hy; exact hy))
            rcases hy with hy | hy
            · rcases hat' with e | e
              · rw [e] at hy; exact .inl (.inl hy)
              · rw [e] at hy; injection hy with hy; exact .inr (by omega)
            · exact .inl (.inr (by rw [ownB_len D' k (k + 1)]; exact hy)))
          have HRV9 := Lib.hid (show RwV G4 (g + 2) w9 D' cR (L.map (·.2)) vs from HRV8.out.beside hgr (fun y hy => own_apart HRV8.out.own HSG8.out.own (by decide) (by rw [HM1.out]; exact hy)) (fun A q d ou y hy => own_apart ou.1 HSG8.out.own (by decide) (by rw [HM1.out]; exact hy)) HL4.out)
          have HLA9 := Lib.hid (And.intro (HLA8.out.1.grown hgr hol HI.out.lt.1 HZ8.out HL4.out) (HLA8.out.2.grown hgr hol HI.out.lt.2 HZ8.out HL4.out))
          have HX9 := Lib.hid (And.intro ((hgr.block g (by have := HZ8.out; omega) (fun e => by have := hol _ e.symm; omega)).trans HX8.out.1) ((hgr.block (g + 1) (by have := HZ8.out; omega) (fun e => by have := hol _ e.symm; omega)).trans HX8.out.2))
          have HOU9 := Lib.hid (show OwnU G4 (g + 2) w9 (some ⟨gr, 0, none⟩) dR rr from ⟨Tk.own_abide HOU8.out.1 fun y hy => hgr.block y (HOU8.out.1.lt y hy).2 (fun e => own_apart HOU8.out.1 HSG8.out.own (by decide) (by rw [HM1.out]; exact e.symm) hy), fun y hy => HL4.out y (HOU8.out.2 y hy)⟩)
          have HZ9 := Lib.hid (Nat.le_trans HZ8.out hgr.size)
          clear ho hgr hat hat' hol hG4 hw7 n0 n1' n2' n3 n4 n5 n6 n7 m0 m1 m2 m3 m4 m5 m6 m7 fm0 fm1 fm2 fm3 fm4 fm5 fm6 fm7
          obtain ⟨g10, hg10⟩ : ∃ g, w9.heap.size = g := ⟨_, rfl⟩
          obtain ⟨wA, hwA⟩ : ∃ W, w9.alloc (.cells #[.slice (some ⟨gr, 0, none⟩) rr.length dR] 64) = W := ⟨_, rfl⟩
          have hbA : Below w9.heap.size w9 wA := by rw [← hwA]; exact (Below.refl _ _).alloc (Nat.le_refl _) _
          have hyA : wA.cell? ⟨g10, 0, none⟩ = some (.slice (some ⟨gr, 0, none⟩) rr.length dR) := by rw [← hwA, ← hg10]; exact Tk.new_one _ _ _
          have hsA : wA.heap.size = g10 + 1 := by rw [← hwA]; simp [hg10]
          obtain ⟨G5, hG5⟩ : ∃ G5, NewG G4 w9 wA = G5 := ⟨_, rfl⟩
          have HK9A := Lib.hid (KpG.of_below (fun y hy => HR9.out.lt hy) hbA)
          have HL5 := Lib.hid (fun y (hy : G4 y) => show G5 y from by rw [← hG5]; exact .inl hy)
          have HRA := Lib.hid (show RG G5 W0 q a l c bs s2 wA from by rw [← hG5]; exact HR9.out.more hbA)
          have HSGA := Lib.hid ((HSG9.out.kept HK9A.out).inc HL5.out)
          have HRVA := Lib.hid ((HRV9.out.kept HK9A.out).inc HL5.out)
          have HLAA := Lib.hid (And.intro ((HLA9.out.1.kept HK9A.out).inc HL5.out) ((HLA9.out.2.kept HK9A.out).inc HL5.out))
          have HOUA := Lib.hid ((HOU9.out.kept HK9A.out).inc HL5.out)
          have HXA := Lib.hid (And.intro ((hbA.block g (by have := HZ9.out; omega)).trans HX9.out.1) ((hbA.block (g + 1) (by have := HZ9.out; omega)).trans HX9.out.2))
          have HZA := Lib.hid (Nat.le_trans HZ9.out hbA.size)
          have HYA := Lib.hid hyA
          have HSA := Lib.hid hsA
          have HWA := Lib.hid hwA
          have HG10 := Lib.hid hg10
          clear hbA hyA hsA hG5 hwA hg10
          go_wp2_with (at_builtin; refine app_row rfl _ _ rfl (g + 2) D' k cR vs rfl ?d0 w9.heap.size rfl (some ⟨gr, 0, none⟩) rr.length dR ?d1 (by omega) ?d2 ?_)
          case d0 => have := HRVA.out.own; rw [HM2.out, ← HWA.out] at this; exact this
          case d1 => have := HYA.out; rw [← HWA.out, ← HG10.out] at this; exact this
          case d2 => have := HZA.out; have := HSA.out; have := HG10.out; first | omega | (simp; omega)
          intro D3 cD3 w11 ho hgr hat
          rw [HWA.out] at hgr
          have hat' : (Value.slice D3 (k + 1) cD3).ownBlock = (Value.slice D' k cR).ownBlock ∨ (Value.slice D3 (k + 1) cD3).ownBlock = some wA.heap.size := by rw [HSA.out, ← HG10.out]; exact hat
          have hol : ∀ y, (Value.slice D' k cR).ownBlock = some y → g + 2 ≤ y := fun y hy => (HRVA.out.own.lt y (by rw [HM2.out]; exact hy)).1
          have hlen2 : (L.map (svOf bs) ++ [(⟨T1, RH⟩ : SV)]).length = k + 1 := by rw [List.length_append, HM1.out]; rfl
          have HIN := Lib.hid (show TkI W0 q a l c bs K s0 g A1 B1 n1 n2 c1 d1 (k + 1) D2 cD2 D3 cD3 (NewG G5 wA w11) (L ++ [(T1, rr)]) s2 (cs ++ [smC ⟨T1, RH⟩ Ah Bh ch dh]) (vs ++ [rowV (some ⟨gr, 0, none⟩) rr dR]) w11 from
            ⟨HT9.out, HRA.out.grown hgr (fun y hy => ⟨HRVA.out.g y (by rw [HM2.out]; exact hy), by have := hol y hy; omega⟩), by
              rw [List.map_append, List.map_cons, List.map_nil, HSV.out]
              refine HSGA.out.beside hgr (fun y hy => ⟨.inr (by rw [ownB_len D' (k + 1) k]; exact hy), own_apart HSGA.out.own HRVA.out.own (by decide) (by rw [HM2.out]; exact hy)⟩) (fun y hy => ?_) (fun y hy => .inl (by rw [hlen2] at hy; exact hy)) (fun y hy => .inl hy)
              rcases hy with hy | hy
              · exact .inl (.inl hy)
              · rcases hat' with e | e
                · rw [e] at hy; exact .inl (.inr (by rw [ownB_len D' (k + 1) k]; exact hy))
                · rw [e] at hy; injection hy with hy; exact .inr (by omega), by
              rw [List.map_append, List.map_cons, List.map_nil]
              refine HRVA.out.snoc HOUA.out (by rw [HM2.out]; exact ho) (by rw [HM2.out]; exact hgr) (fun y hy => ?_)
              rw [HM2.out] at hy
              have hlt' := (ho.lt y hy).2
              rcases hat' with e | e
              · rw [e] at hy; exact .inl (HRVA.out.g y (by rw [HM2.out]; exact hy))
              · rw [e] at hy; injection hy with hy; exact .inr ⟨by omega, hlt'⟩,
              (hgr.block g (by have := HZA.out; omega) (fun e => by have := hol _ e.symm; omega)).trans HXA.out.1, (hgr.block (g + 1) (by have := HZA.out; omega) (fun e => by have := hol _ e.symm; omega)).trans HXA.out.2,
              ⟨.inl (HL5.out _ (HL4.out _ (HLG.out _ HI.out.gx.1))), .inl (HL5.out _ (HL4.out _ (HLG.out _ HI.out.gx.2)))⟩, HLAA.out.1.grown hgr hol HI.out.lt.1 HZA.out (fun y hy => .inl hy), HLAA.out.2.grown hgr hol HI.out.lt.2 HZA.out (fun y hy => .inl hy), HI.out.lt, Nat.le_trans HZA.out hgr.size⟩)
          clear ho hgr hat hat' hol hlen2
          go_wp2_with fail
          go_roundw
          case rel => exact ⟨k + 1, D2, cD2, D3, cD3, by omega, by go_num, rfl, rfl, _, _, _, _, _, HIN⟩
          case measure => simp [intOf]; omega
        · have hE' : (RE != 0) = true := by simpa using hE0
          have HNE := Lib.hid hE0
          clear hE0
          go_wp2_with fail
          go_ret
          exact take_none (HST.out.1 (.inr HNE.out)) (by first | (rw [HW7.out]; exact HR7.out.bel) | exact HR7.out.bel)
    · obtain rfl : k = K := by omega
      have HE := Lib.hid (show takeF bs = L.map (svOf bs) from by
        have := HI.out.tk.rest
        rw [Nat.sub_self] at this
        unfold bodyF at this
        unfold takeF
        rw [this]
        simp)
      have HSM := Lib.hid HI.out.sg.sm
      have HCP := Lib.hid (own_cap HI.out.sg.own)
      have HRO := Lib.hid HI.out.tk.row
      have HBE := Lib.hid HI.out.rg.bel
      clear HI hLk
      go_wp2_with fail
      go_ret
      refine ⟨D, cD, by rw [HE.out, svOf_len, HLK.out]; rfl, by rw [HE.out]; exact HSM.out.1, by rw [HE.out]; exact HSM.out.2, fun x hx => ?_, by rw [HE.out]; exact HCP.out, by rw [HE.out, svOf_len, HLK.out]; exact hK32, HBE.out⟩
      rw [HE.out] at hx
      obtain ⟨p, hp, rfl⟩ := List.mem_map.1 hx
      obtain ⟨h1, h2⟩ := HRO.out p hp
      exact (row_ok h1 (by unfold nNum; omega) h2).2.2
end Go.Proofs.YtakomfnajeolcaaGreatDoor.Ch
