/- The walk of the law LabelMakes. -/
import Derived.Test.YtnnfoagdgoionabLbGt
namespace Go.Proofs.Ytnnfoagdgoionab
open Go.RowKit
set_option linter.unusedVariables false

/-- is this name among the first of these? -/
def anyN (ns : List ByteArray) (p : Lab) : Bool := ns.any fun s => s.toList == p.1.toList
theorem anyN_snoc (ns : List ByteArray) (s : ByteArray) (p : Lab) : anyN (ns ++ [s]) p = (anyN ns p || s.toList == p.1.toList) := by
  unfold anyN; simp
theorem anyN_all (ns : List ByteArray) (p : Lab) : anyN ns p = inN ns p := by
  rw [Bool.eq_iff_iff]
  unfold anyN inN
  rw [Lib.containsS_iff, List.any_eq_true]
  constructor
  · rintro ⟨s, hs, h⟩
    have : s = p.1 := toList_inj (by simpa using h)
    exact this ▸ hs
  · intro h
    exact ⟨p.1, h, by simp⟩
theorem getV_drop {l : List Lab} {s : ByteArray} {m : Nat} {p : Lab} (hp : l[m]? = some p) : getV (l.drop m) s = if isN s p = true then p.2 else getV (l.drop (m + 1)) s := by
  obtain ⟨h1, e1⟩ := List.getElem?_eq_some_iff.1 hp
  unfold getV getK
  rw [List.drop_eq_getElem_cons h1, e1, List.find?_cons]
  by_cases h : isN s p = true
  · rw [h]; simp
  · have h' : isN s p = false := by simpa using h
    rw [h']; simp
set_option maxRecDepth 100000 in
set_option maxHeartbeats 8000000 in
theorem labelMakes_walk (A : Option Addr) (n c : Nat) (l : List Lab) (B : Option Addr) (m d : Nat) (b : List Lab) (NA : Option Addr) (nn nc : Nat) (ns : List ByteArray) (w : World) (hn : n = l.length) (hm : m = b.length) (hnn : nn = ns.length) (ha : Lw w A l) (hb : Lw w B b) (hns : Cl w NA (stC ns) ∧ ∀ s ∈ ns, Ws s)
    (hal : l.length ≤ 4398046510976) (hbl : b.length ≤ 4398046510976) (hnl : ns.length ≤ 8796093021952) :
    Calls Try.prog 3 #[.slice A n c, .slice B m d, .slice NA nn nc] w fun e w' => e = .returned (.bool true) ∧ Below w.heap.size w w' := by
  subst hn hm hnn
  have HA := Lib.hid ha
  have HB := Lib.hid hb
  have HNS := Lib.hid hns.1
  clear ha hb hns
  go_enter Try.func3, Try.ntmps3
  go_wp2_with fail
  refine (light_any A l.length c l _ rfl HA.out).mono ?_
  rintro e w1 ⟨⟨z1, rfl⟩, hb1⟩
  have H1 := Lib.hid hb1
  clear hb1
  cases z1 with
  | false =>
    go_wp2_with fail
    refine (awake_any _).mono ?_
    rintro e w2 ⟨rfl, hb2⟩
    have H2 := Lib.hid (H1.out.trans (hb2.mono H1.out.size))
    clear hb2
    go_wp2_with fail
    go_ret
    exact ⟨rfl, H2.out⟩
  | true =>
    go_wp2_with fail
    refine (light_any B b.length d b _ rfl (HB.out.below H1.out)).mono ?_
    rintro e w2 ⟨⟨z2, rfl⟩, hb2⟩
    have H2 := Lib.hid (H1.out.trans (hb2.mono H1.out.size))
    clear hb2
    cases z2 with
    | false =>
      go_wp2_with fail
      refine (awake_any _).mono ?_
      rintro e w3 ⟨rfl, hb3⟩
      have H3 := Lib.hid (H2.out.trans (hb3.mono H2.out.size))
      clear hb3
      go_wp2_with fail
      go_ret
      exact ⟨rfl, H3.out⟩
    | true =>
      by_cases hz : 20 < ns.length
      · have hz1 : (20 : Int) < (ns.length : Int) := by omega
        go_wp2_with fail
        refine (awake_any _).mono ?_
        rintro e w3 ⟨rfl, hb3⟩
        have H3 := Lib.hid (H2.out.trans (hb3.mono H2.out.size))
        clear hb3
        go_wp2_with fail
        go_ret
        exact ⟨rfl, H3.out⟩
      · have hz1 : ¬ ((20 : Int) < (ns.length : Int)) := by omega
        obtain ⟨E, hE⟩ : ∃ E, chk l = E := ⟨_, rfl⟩
        obtain ⟨V, hV⟩ : ∃ V, cmpLs l b = V := ⟨_, rfl⟩
        have HE := Lib.hid hE
        have HV := Lib.hid hV
        have he1 : (E != E) = false := by simp
        have he2 : (V != V) = false := by simp
        clear hE hV hz
        go_wp2_with fail
        refine (check_any A l.length c l _ rfl (HA.out.below H2.out)).mono ?_
        rw [HE.out]
        rintro e w3 ⟨rfl, hb3⟩
        have H3 := Lib.hid (H2.out.trans (hb3.mono H2.out.size))
        clear hb3
        go_wp2_with fail
        refine (rcheck_any A l.length c l _ rfl (HA.out.below H3.out)).mono ?_
        rw [HE.out]
        rintro e w4 ⟨rfl, q4, rfl⟩
        have H4 := Lib.hid (below_drewN H3.out q4)
        go_wp2_with fail
        refine (comp_any A B l.length b.length c d l b _ rfl rfl (HA.out.below H4.out) (HB.out.below H4.out)).mono ?_
        rw [HV.out]
        rintro e w5 ⟨rfl, hb5⟩
        have H5 := Lib.hid (H4.out.trans (hb5.mono H4.out.size))
        clear hb5
        go_wp2_with fail
        refine (rcomp_any A B l.length b.length c d l b _ rfl rfl (HA.out.below H5.out) (HB.out.below H5.out)).mono ?_
        rw [HV.out]
        rintro e w6 ⟨rfl, q6, rfl⟩
        have H6 := Lib.hid (below_drewN H5.out q6)
        clear he1 he2
        go_wp2_with fail
        refine (make_any A l.length c l _ rfl (HA.out.below H6.out) (by omega)).mono ?_
        rintro e w7 ⟨⟨Y, hp1, hs1, hr1⟩, hb7⟩
        have H7 := Lib.hid (H6.out.trans (hb7.mono H6.out.size))
        have HP1 := Lib.hid (And.intro hp1 hs1)
        clear hb7 hp1 hs1
        have HR1 := Lib.hid hr1
        clear hr1
        rcases HR1.out with ⟨hc1, A3, n3, c3, rfl, hn3, hY3⟩ | ⟨hc1, rfl⟩
        · have HC1 := Lib.hid hc1
          have HY3 := Lib.hid hY3
          have HNY := Lib.hid hn3
          clear hc1 hY3 hn3 HR1
          go_wp2_with fail
          refine (rmake_any A l.length c l _ rfl (HA.out.below H7.out) hal).mono ?_
          rintro e w8 ⟨⟨O, hp2, hs2, hr2⟩, hb8⟩
          obtain ⟨hck, heq⟩ := chk_same HP1.out.1 HP1.out.2 hp2 hs2
          obtain rfl : O = Y := heq HC1.out
          have H9 := Lib.hid (H7.out.trans (hb8.mono H7.out.size))
          have HY4 := Lib.hid (HY3.out.below hb8)
          have HR2 := Lib.hid hr2
          clear hb8 hp2 hs2 hr2 hck heq
          rcases HR2.out with ⟨_, A4, n4, c4, rfl, hn4, hY5⟩ | ⟨hc2, _⟩
          · have HY5 := Lib.hid hY5
            have HNZ := Lib.hid hn4
            clear hY5 hn4 HR2
            go_wp2_with fail
            refine (same_any A3 A4 n3 n4 c3 c4 O O _ HNY.out HNZ.out HY4.out HY5.out).mono ?_
            rw [(cmpLs_zero O O).2 rfl]
            rintro e w9 ⟨rfl, q9, rfl⟩
            have H8 := Lib.hid (below_drewN H9.out q9)
            go_wp2_with fail
            go_loopw [11, 70] (fun v i wr => ∃ k : Nat, k ≤ l.length ∧ i = .int .i64 k ∧ Hid (ORel w ((l.take k).filter (inN ns)) v wr)) (fun _ i _ => l.length - (intOf i).toNat)
            case atStart => exact ⟨0, by omega, rfl, Lib.hid ⟨none, 0, 0, rfl, own_nil _ _ _ _, H8.out⟩⟩
            case round =>
              obtain ⟨k, hk, rfl, HR⟩ := hrel
              obtain ⟨B1, m1, d1, rfl, hown, hbw⟩ := HR.out
              by_cases hlt : k < l.length
              · have hki : (k : Int) < (l.length : Int) := by omega
                obtain ⟨p, hp⟩ := getElem?_lt hlt
                obtain ⟨bA, oA, rfl, hcell⟩ := (HA.out.below hbw).some_ (by omega)
                obtain ⟨q0, q1⟩ := hcell k p hp
                have hlb := block_lt_of_cell q0
                simp only at hlb
                have hm := own_nl hown
                have hml : m1 ≤ k := by
                  rw [hm]
                  have h1 := List.length_filter_le (inN ns) (l.take k)
                  rw [List.length_take] at h1
                  omega
                have HT := Lib.hid (take_snoc l k p hp)
                have hb1 : Below w.heap.size w (wr.alloc (.cells #[.string p.1, .string p.2] 36)) := hbw.alloc hbw.size _
                have HO := Lib.hid (own_below hown ((Below.refl _ _).alloc (Nat.le_refl _) (.cells #[.string p.1, .string p.2] 36)))
                have HBX := Lib.hid (heap_alloc_new wr (.cells #[.string p.1, .string p.2] 36))
                have HB1 := Lib.hid hb1
                have HN1 := Lib.hid (HNS.out.below hb1)
                clear hcell hp hown hm HR hbw hb1
                go_wp2_with fail
                obtain ⟨wo, hwo⟩ : ∃ W, wr.alloc (.cells #[.string p.1, .string p.2] 36) = W := ⟨_, rfl⟩
                obtain ⟨g, hg⟩ : ∃ g, wr.heap.size = g := ⟨_, rfl⟩
                rw [hwo] at HO HBX HB1 HN1
                rw [hg] at HBX
                rw [hwo, hg]
                obtain ⟨x0, x1, _⟩ := box2 HBX.out
                have hwz : w.heap.size ≤ wo.heap.size := HB1.out.size
                clear hwo hg q0 q1 hlb
                go_loop [14, 76] (fun v i => ∃ j : Nat, j ≤ ns.length ∧ i = .int .i64 j ∧ v = .bool (anyN (ns.take j) p)) (fun _ i => ns.length - (intOf i).toNat)
                case atStart => exact ⟨0, by omega, rfl, rfl⟩
                case round =>
                  obtain ⟨j, hj, rfl, rfl⟩ := hrel
                  by_cases hlj : j < ns.length
                  · have hji : (j : Int) < (ns.length : Int) := by omega
                    obtain ⟨s, hs⟩ := getElem?_lt hlj
                    obtain ⟨bN, oN, rfl, hcn⟩ := HN1.out.some_ (by rw [stC_length]; omega)
                    have s0 := hcn j _ (stC_at hs)
                    have HS := Lib.hid (show anyN (ns.take (j + 1)) p = (anyN (ns.take j) p || s.toList == p.1.toList) by rw [take_snoc ns j s hs, anyN_snoc])
                    obtain ⟨z, hzz⟩ : ∃ z, anyN (ns.take j) p = z := ⟨_, rfl⟩
                    obtain ⟨y, hyy⟩ : ∃ y, (s.toList == p.1.toList) = y := ⟨_, rfl⟩
                    rw [hzz, hyy] at HS
                    rw [hzz]
                    clear hcn hs hzz
                    cases z <;> cases y
                    all_goals
                      go_wp2_with fail
                      go_round
                      case rel => exact ⟨j + 1, by omega, by go_num, by rw [HS.out]; rfl⟩
                      case measure => simp [intOf]; omega
                  · obtain rfl : j = ns.length := by omega
                    have hji : ¬ ((ns.length : Int) < (ns.length : Int)) := by omega
                    obtain ⟨z, hzz⟩ : ∃ z, anyN (ns.take ns.length) p = z := ⟨_, rfl⟩
                    have HZ := Lib.hid (show inN ns p = z by rw [← hzz, List.take_length, anyN_all])
                    rw [hzz]
                    clear hzz
                    cases z with
                    | true =>
                      go_wp2_with (at_builtin; refine put_lab (W := w) rfl _ _ rfl w.heap.size B1 m1 d1 ((l.take k).filter (inN ns)) rfl HO.out HB1.out hwz (by omega) wo.heap.size rfl rfl p ?_)
                      intro A2 c2 w9 hown9 hb9 hw9
                      have HF := Lib.hid (show (l.take k).filter (inN ns) ++ [p] = (l.take (k + 1)).filter (inN ns) by rw [HT.out, List.filter_append]; congr 1; rw [List.filter_cons, HZ.out]; rfl)
                      rw [HF.out] at hown9
                      have HR9 := Lib.hid (show ORel w ((l.take (k + 1)).filter (inN ns)) (.slice A2 (m1 + 1) c2) w9 from ⟨A2, m1 + 1, c2, rfl, hown9, hb9⟩)
                      clear hown9 hb9
                      go_wp2_with fail
                      go_roundw
                      case rel => exact ⟨k + 1, by omega, by go_num, HR9⟩
                      case measure => simp [intOf]; omega
                    | false =>
                      have HF := Lib.hid (show (l.take k).filter (inN ns) = (l.take (k + 1)).filter (inN ns) by rw [HT.out, List.filter_append, List.filter_cons, HZ.out]; simp)
                      have hown9 := HO.out
                      rw [HF.out] at hown9
                      have HR9 := Lib.hid (show ORel w ((l.take (k + 1)).filter (inN ns)) (.slice B1 m1 d1) wo from ⟨B1, m1, d1, rfl, hown9, HB1.out⟩)
                      clear hown9
                      go_wp2_with fail
                      go_roundw
                      case rel => exact ⟨k + 1, by omega, by go_num, HR9⟩
                      case measure => simp [intOf]; omega
              · obtain rfl : k = l.length := by omega
                have hki : ¬ ((l.length : Int) < (l.length : Int)) := by omega
                rw [List.take_length] at hown
                have hfl := List.length_filter_le (inN ns) l
                have HNB := Lib.hid (own_nl hown)
                have HLB := Lib.hid (own_lw2 hown (wl_filter HA.out.2.1) (by omega))
                have HB8 := Lib.hid hbw
                clear hown hbw HR hfl
                go_wp2_with fail
                obtain ⟨wo, hwo⟩ : ∃ W, W = wr := ⟨_, rfl⟩
                rw [← hwo] at HLB HB8
                rw [← hwo]
                clear hwo
                go_loopw [96] (fun i wx => ∃ j : Nat, j ≤ ns.length ∧ i = .int .i64 j ∧ Hid (Below wo.heap.size wo wx)) (fun i _ => ns.length - (intOf i).toNat)
                case atStart => exact ⟨0, by omega, rfl, Lib.hid (Below.refl _ _)⟩
                case round =>
                  obtain ⟨j, hj, rfl, HBX⟩ := hrel
                  have HBW := Lib.hid (HB8.out.trans (HBX.out.mono HB8.out.size))
                  by_cases hlj : j < ns.length
                  · have hji : (j : Int) < (ns.length : Int) := by omega
                    obtain ⟨s, hs⟩ := getElem?_lt hlj
                    obtain ⟨bN, oN, rfl, hcn⟩ := (HNS.out.below HBW.out).some_ (by rw [stC_length]; omega)
                    have s0 := hcn j _ (stC_at hs)
                    obtain ⟨wy, hwy⟩ : ∃ W, W = wr := ⟨_, rfl⟩
                    rw [← hwy] at HBX HBW s0
                    rw [← hwy]
                    clear hcn hs hwy
                    go_wp2_with fail
                    go_loop [20, 19] (fun i v => ∃ k : Nat, k ≤ l.length ∧ i = .int .i64 ((k : Int) - 1) ∧ v = .string (getV (l.drop k) s)) (fun i _ => (intOf i + 1).toNat)
                    case atStart => exact ⟨l.length, by omega, rfl, by rw [List.drop_length]; rfl⟩
                    case round =>
                      obtain ⟨k, hk, hi, rfl⟩ := hrel
                      cases k with
                      | zero =>
                        obtain rfl := hi
                        obtain ⟨X, hX⟩ : ∃ X, getV (l.drop 0) s = X := ⟨_, rfl⟩
                        have HX := Lib.hid (show getV l s = X from hX)
                        rw [hX]
                        have hxx : (!(X.toList == X.toList)) = false := by simp
                        clear hX
                        go_wp2_with fail
                        refine (get_any A l.length c l s _ rfl (HA.out.below HBW.out)).mono ?_
                        rw [HX.out]
                        rintro e w9 ⟨rfl, hb9⟩
                        have HB9 := Lib.hid (HBX.out.trans (hb9.mono HBX.out.size))
                        clear hb9 s0
                        go_wp2_with fail
                        go_roundw
                        case rel => exact ⟨j + 1, by omega, by go_num, HB9⟩
                        case measure => simp [intOf]; omega
                      | succ m =>
                        have hi2 := hi.trans (congrArg (Value.int .i64) (show (((m + 1 : Nat) : Int) - 1) = (m : Int) by omega))
                        clear hi
                        obtain rfl := hi2
                        have hml : m < l.length := by omega
                        have hmi : (m : Int) < (l.length : Int) := by omega
                        have hm0 : (0 : Int) ≤ (m : Int) := by omega
                        obtain ⟨p, hp⟩ := getElem?_lt hml
                        obtain ⟨bA, oA, rfl, hcell⟩ := (HA.out.below HBW.out).some_ (by omega)
                        obtain ⟨q0, q1⟩ := hcell m p hp
                        have HS := Lib.hid (getV_drop (s := s) hp)
                        obtain ⟨z, hzz⟩ : ∃ z, (p.1.toList == s.toList) = z := ⟨_, rfl⟩
                        have HZ := Lib.hid (show isN s p = z from hzz)
                        clear hcell hp
                        cases z with
                        | true =>
                          go_wp2_with fail
                          go_round
                          case rel => exact ⟨m, by omega, rfl, by rw [HS.out, HZ.out]; rfl⟩
                          case measure => simp [intOf]
                        | false =>
                          go_wp2_with fail
                          go_round
                          case rel => exact ⟨m, by omega, rfl, by rw [HS.out, HZ.out]; rfl⟩
                          case measure => simp [intOf]
                  · obtain rfl : j = ns.length := by omega
                    have hji : ¬ ((ns.length : Int) < (ns.length : Int)) := by omega
                    go_wp2_with fail
                    refine (awake_any _).mono ?_
                    rintro e w9 ⟨rfl, hb9⟩
                    have HB9 := Lib.hid (HBW.out.trans (hb9.mono HBW.out.size))
                    have HL9 := Lib.hid ((HLB.out.below HBX.out).below hb9)
                    clear hb9
                    go_wp2_with fail
                    refine (by_any A l.length c l NA ns.length nc ns _ rfl (HA.out.below HB9.out) (by omega) rfl (HNS.out.below HB9.out) (by omega)).mono ?_
                    rintro e w10 ⟨A6, n6, c6, rfl, hn6, hL6, hb6⟩
                    have HB10 := Lib.hid (HB9.out.trans (hb6.mono HB9.out.size))
                    have HL10 := Lib.hid (HL9.out.below hb6)
                    have HN6 := Lib.hid hn6
                    have HL6 := Lib.hid hL6
                    clear hn6 hL6 hb6
                    go_wp2_with fail
                    refine (same_any A6 B1 n6 m1 c6 d1 (l.filter (inN ns)) (l.filter (inN ns)) _ HN6.out HNB.out HL6.out HL10.out).mono ?_
                    rw [(cmpLs_zero (l.filter (inN ns)) (l.filter (inN ns))).2 rfl]
                    rintro e w11 ⟨rfl, q11, rfl⟩
                    go_wp2_with fail
                    go_ret
                    exact ⟨rfl, below_drewN HB10.out _⟩
          · exact absurd HC1.out hc2
        · have HC1 := Lib.hid hc1
          obtain ⟨E0, hE0⟩ : ∃ E, chk Y = E := ⟨_, rfl⟩
          have HE0 := Lib.hid hE0
          rw [hE0]
          have hnc : (E0 != E0) = false := by simp
          clear hc1 HR1 hE0
          go_wp2_with fail
          refine (rmake_any A l.length c l _ rfl (HA.out.below H7.out) hal).mono ?_
          rintro e w8 ⟨⟨O, hp2, hs2, hr2⟩, hb8⟩
          obtain ⟨hck, heq⟩ := chk_same HP1.out.1 HP1.out.2 hp2 hs2
          have H9 := Lib.hid (H7.out.trans (hb8.mono H7.out.size))
          have HCK := Lib.hid hck
          have HR2 := Lib.hid hr2
          clear hb8 hp2 hs2 hr2 hck heq
          rcases HR2.out with ⟨hc2, _⟩ | ⟨_, rfl⟩
          · exact absurd (HCK.out ▸ hc2) HC1.out
          · rw [HCK.out, HE0.out]
            clear HR2
            go_wp2_with fail
            refine (same_any none none 0 0 0 0 [] [] _ rfl rfl (Lw.nil _ _) (Lw.nil _ _)).mono ?_
            rw [(cmpLs_zero [] []).2 rfl]
            rintro e w9 ⟨rfl, q9, rfl⟩
            have H8 := Lib.hid (below_drewN H9.out q9)
            go_wp2_with fail
            go_loopw [11, 70] (fun v i wr => ∃ k : Nat, k ≤ l.length ∧ i = .int .i64 k ∧ Hid (ORel w ((l.take k).filter (inN ns)) v wr)) (fun _ i _ => l.length - (intOf i).toNat)
            case atStart => exact ⟨0, by omega, rfl, Lib.hid ⟨none, 0, 0, rfl, own_nil _ _ _ _, H8.out⟩⟩
            case round =>
              obtain ⟨k, hk, rfl, HR⟩ := hrel
              obtain ⟨B1, m1, d1, rfl, hown, hbw⟩ := HR.out
              by_cases hlt : k < l.length
              · have hki : (k : Int) < (l.length : Int) := by omega
                obtain ⟨p, hp⟩ := getElem?_lt hlt
                obtain ⟨bA, oA, rfl, hcell⟩ := (HA.out.below hbw).some_ (by omega)
                obtain ⟨q0, q1⟩ := hcell k p hp
                have hlb := block_lt_of_cell q0
                simp only at hlb
                have hm := own_nl hown
                have hml : m1 ≤ k := by
                  rw [hm]
                  have h1 := List.length_filter_le (inN ns) (l.take k)
                  rw [List.length_take] at h1
                  omega
                have HT := Lib.hid (take_snoc l k p hp)
                have hb1 : Below w.heap.size w (wr.alloc (.cells #[.string p.1, .string p.2] 36)) := hbw.alloc hbw.size _
                have HO := Lib.hid (own_below hown ((Below.refl _ _).alloc (Nat.le_refl _) (.cells #[.string p.1, .string p.2] 36)))
                have HBX := Lib.hid (heap_alloc_new wr (.cells #[.string p.1, .string p.2] 36))
                have HB1 := Lib.hid hb1
                have HN1 := Lib.hid (HNS.out.below hb1)
                clear hcell hp hown hm HR hbw hb1
                go_wp2_with fail
                obtain ⟨wo, hwo⟩ : ∃ W, wr.alloc (.cells #[.string p.1, .string p.2] 36) = W := ⟨_, rfl⟩
                obtain ⟨g, hg⟩ : ∃ g, wr.heap.size = g := ⟨_, rfl⟩
                rw [hwo] at HO HBX HB1 HN1
                rw [hg] at HBX
                rw [hwo, hg]
                obtain ⟨x0, x1, _⟩ := box2 HBX.out
                have hwz : w.heap.size ≤ wo.heap.size := HB1.out.size
                clear hwo hg q0 q1 hlb
                go_loop [14, 76] (fun v i => ∃ j : Nat, j ≤ ns.length ∧ i = .int .i64 j ∧ v = .bool (anyN (ns.take j) p)) (fun _ i => ns.length - (intOf i).toNat)
                case atStart => exact ⟨0, by omega, rfl, rfl⟩
                case round =>
                  obtain ⟨j, hj, rfl, rfl⟩ := hrel
                  by_cases hlj : j < ns.length
                  · have hji : (j : Int) < (ns.length : Int) := by omega
                    obtain ⟨s, hs⟩ := getElem?_lt hlj
                    obtain ⟨bN, oN, rfl, hcn⟩ := HN1.out.some_ (by rw [stC_length]; omega)
                    have s0 := hcn j _ (stC_at hs)
                    have HS := Lib.hid (show anyN (ns.take (j + 1)) p = (anyN (ns.take j) p || s.toList == p.1.toList) by rw [take_snoc ns j s hs, anyN_snoc])
                    obtain ⟨z, hzz⟩ : ∃ z, anyN (ns.take j) p = z := ⟨_, rfl⟩
                    obtain ⟨y, hyy⟩ : ∃ y, (s.toList == p.1.toList) = y := ⟨_, rfl⟩
                    rw [hzz, hyy] at HS
                    rw [hzz]
                    clear hcn hs hzz
                    cases z <;> cases y
                    all_goals
                      go_wp2_with fail
                      go_round
                      case rel => exact ⟨j + 1, by omega, by go_num, by rw [HS.out]; rfl⟩
                      case measure => simp [intOf]; omega
                  · obtain rfl : j = ns.length := by omega
                    have hji : ¬ ((ns.length : Int) < (ns.length : Int)) := by omega
                    obtain ⟨z, hzz⟩ : ∃ z, anyN (ns.take ns.length) p = z := ⟨_, rfl⟩
                    have HZ := Lib.hid (show inN ns p = z by rw [← hzz, List.take_length, anyN_all])
                    rw [hzz]
                    clear hzz
                    cases z with
                    | true =>
                      go_wp2_with (at_builtin; refine put_lab (W := w) rfl _ _ rfl w.heap.size B1 m1 d1 ((l.take k).filter (inN ns)) rfl HO.out HB1.out hwz (by omega) wo.heap.size rfl rfl p ?_)
                      intro A2 c2 w9 hown9 hb9 hw9
                      have HF := Lib.hid (show (l.take k).filter (inN ns) ++ [p] = (l.take (k + 1)).filter (inN ns) by rw [HT.out, List.filter_append]; congr 1; rw [List.filter_cons, HZ.out]; rfl)
                      rw [HF.out] at hown9
                      have HR9 := Lib.hid (show ORel w ((l.take (k + 1)).filter (inN ns)) (.slice A2 (m1 + 1) c2) w9 from ⟨A2, m1 + 1, c2, rfl, hown9, hb9⟩)
                      clear hown9 hb9
                      go_wp2_with fail
                      go_roundw
                      case rel => exact ⟨k + 1, by omega, by go_num, HR9⟩
                      case measure => simp [intOf]; omega
                    | false =>
                      have HF := Lib.hid (show (l.take k).filter (inN ns) = (l.take (k + 1)).filter (inN ns) by rw [HT.out, List.filter_append, List.filter_cons, HZ.out]; simp)
                      have hown9 := HO.out
                      rw [HF.out] at hown9
                      have HR9 := Lib.hid (show ORel w ((l.take (k + 1)).filter (inN ns)) (.slice B1 m1 d1) wo from ⟨B1, m1, d1, rfl, hown9, HB1.out⟩)
                      clear hown9
                      go_wp2_with fail
                      go_roundw
                      case rel => exact ⟨k + 1, by omega, by go_num, HR9⟩
                      case measure => simp [intOf]; omega
              · obtain rfl : k = l.length := by omega
                have hki : ¬ ((l.length : Int) < (l.length : Int)) := by omega
                rw [List.take_length] at hown
                have hfl := List.length_filter_le (inN ns) l
                have HNB := Lib.hid (own_nl hown)
                have HLB := Lib.hid (own_lw2 hown (wl_filter HA.out.2.1) (by omega))
                have HB8 := Lib.hid hbw
                clear hown hbw HR hfl
                go_wp2_with fail
                obtain ⟨wo, hwo⟩ : ∃ W, W = wr := ⟨_, rfl⟩
                rw [← hwo] at HLB HB8
                rw [← hwo]
                clear hwo
                go_loopw [96] (fun i wx => ∃ j : Nat, j ≤ ns.length ∧ i = .int .i64 j ∧ Hid (Below wo.heap.size wo wx)) (fun i _ => ns.length - (intOf i).toNat)
                case atStart => exact ⟨0, by omega, rfl, Lib.hid (Below.refl _ _)⟩
                case round =>
                  obtain ⟨j, hj, rfl, HBX⟩ := hrel
                  have HBW := Lib.hid (HB8.out.trans (HBX.out.mono HB8.out.size))
                  by_cases hlj : j < ns.length
                  · have hji : (j : Int) < (ns.length : Int) := by omega
                    obtain ⟨s, hs⟩ := getElem?_lt hlj
                    obtain ⟨bN, oN, rfl, hcn⟩ := (HNS.out.below HBW.out).some_ (by rw [stC_length]; omega)
                    have s0 := hcn j _ (stC_at hs)
                    obtain ⟨wy, hwy⟩ : ∃ W, W = wr := ⟨_, rfl⟩
                    rw [← hwy] at HBX HBW s0
                    rw [← hwy]
                    clear hcn hs hwy
                    go_wp2_with fail
                    go_loop [20, 19] (fun i v => ∃ k : Nat, k ≤ l.length ∧ i = .int .i64 ((k : Int) - 1) ∧ v = .string (getV (l.drop k) s)) (fun i _ => (intOf i + 1).toNat)
                    case atStart => exact ⟨l.length, by omega, rfl, by rw [List.drop_length]; rfl⟩
                    case round =>
                      obtain ⟨k, hk, hi, rfl⟩ := hrel
                      cases k with
                      | zero =>
                        obtain rfl := hi
                        obtain ⟨X, hX⟩ : ∃ X, getV (l.drop 0) s = X := ⟨_, rfl⟩
                        have HX := Lib.hid (show getV l s = X from hX)
                        rw [hX]
                        have hxx : (!(X.toList == X.toList)) = false := by simp
                        clear hX
                        go_wp2_with fail
                        refine (get_any A l.length c l s _ rfl (HA.out.below HBW.out)).mono ?_
                        rw [HX.out]
                        rintro e w9 ⟨rfl, hb9⟩
                        have HB9 := Lib.hid (HBX.out.trans (hb9.mono HBX.out.size))
                        clear hb9 s0
                        go_wp2_with fail
                        go_roundw
                        case rel => exact ⟨j + 1, by omega, by go_num, HB9⟩
                        case measure => simp [intOf]; omega
                      | succ m =>
                        have hi2 := hi.trans (congrArg (Value.int .i64) (show (((m + 1 : Nat) : Int) - 1) = (m : Int) by omega))
                        clear hi
                        obtain rfl := hi2
                        have hml : m < l.length := by omega
                        have hmi : (m : Int) < (l.length : Int) := by omega
                        have hm0 : (0 : Int) ≤ (m : Int) := by omega
                        obtain ⟨p, hp⟩ := getElem?_lt hml
                        obtain ⟨bA, oA, rfl, hcell⟩ := (HA.out.below HBW.out).some_ (by omega)
                        obtain ⟨q0, q1⟩ := hcell m p hp
                        have HS := Lib.hid (getV_drop (s := s) hp)
                        obtain ⟨z, hzz⟩ : ∃ z, (p.1.toList == s.toList) = z := ⟨_, rfl⟩
                        have HZ := Lib.hid (show isN s p = z from hzz)
                        clear hcell hp
                        cases z with
                        | true =>
                          go_wp2_with fail
                          go_round
                          case rel => exact ⟨m, by omega, rfl, by rw [HS.out, HZ.out]; rfl⟩
                          case measure => simp [intOf]
                        | false =>
                          go_wp2_with fail
                          go_round
                          case rel => exact ⟨m, by omega, rfl, by rw [HS.out, HZ.out]; rfl⟩
                          case measure => simp [intOf]
                  · obtain rfl : j = ns.length := by omega
                    have hji : ¬ ((ns.length : Int) < (ns.length : Int)) := by omega
                    go_wp2_with fail
                    refine (awake_any _).mono ?_
                    rintro e w9 ⟨rfl, hb9⟩
                    have HB9 := Lib.hid (HBW.out.trans (hb9.mono HBW.out.size))
                    have HL9 := Lib.hid ((HLB.out.below HBX.out).below hb9)
                    clear hb9
                    go_wp2_with fail
                    refine (by_any A l.length c l NA ns.length nc ns _ rfl (HA.out.below HB9.out) (by omega) rfl (HNS.out.below HB9.out) (by omega)).mono ?_
                    rintro e w10 ⟨A6, n6, c6, rfl, hn6, hL6, hb6⟩
                    have HB10 := Lib.hid (HB9.out.trans (hb6.mono HB9.out.size))
                    have HL10 := Lib.hid (HL9.out.below hb6)
                    have HN6 := Lib.hid hn6
                    have HL6 := Lib.hid hL6
                    clear hn6 hL6 hb6
                    go_wp2_with fail
                    refine (same_any A6 B1 n6 m1 c6 d1 (l.filter (inN ns)) (l.filter (inN ns)) _ HN6.out HNB.out HL6.out HL10.out).mono ?_
                    rw [(cmpLs_zero (l.filter (inN ns)) (l.filter (inN ns))).2 rfl]
                    rintro e w11 ⟨rfl, q11, rfl⟩
                    go_wp2_with fail
                    go_ret
                    exact ⟨rfl, below_drewN HB10.out _⟩
end Go.Proofs.Ytnnfoagdgoionab
