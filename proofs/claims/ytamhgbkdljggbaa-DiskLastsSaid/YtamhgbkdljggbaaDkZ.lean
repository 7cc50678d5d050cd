/- The law's do: a step on both disks. -/
import Derived.Test.YtamhgbkdljggbaaDkY
namespace Go.Proofs.Ytamhgbkdljggbaa.Dk
open Go.RowKit Go.Maps
set_option linter.unusedVariables false

/-- what a step makes of the program's disk -/
def DoS (kd : Int) (A B : ByteArray) (nn : Int) (S : PD) (C : Int) (S' : PD) : Prop :=
  (kd = 0 → (C ≠ 0 → S' = stepS S) ∧ (C = 0 → stepE S = 0 ∧ okName A = true ∧ AppS (stepS S) A.data.toList (byN B) S')) ∧
  (kd = 1 → S' = syncS S A.data.toList) ∧
  (kd = 2 → (C ≠ 0 → S' = stepS S) ∧ (C = 0 → ∃ nb, S' = giveS (delS (stepS S) A.data.toList) nb B.data.toList ((stepS S).now A.data.toList) ((stepS S).F ((stepS S).now A.data.toList)))) ∧
  (kd = 3 → S' = remS (stepE S) (stepS S) A.data.toList) ∧
  (kd = 4 → S' = stepS S ∨ ∃ sb, S' = { stepS S with sb := sb, sure := (stepS S).now }) ∧
  (kd = 5 → S' = { S with fuse := nn }) ∧ (kd < 0 ∨ 5 < kd → S' = S)
def DoP (Od Oq : Nat → Prop) (w : World) (d q M N : Nat) (kd : Int) (A B : ByteArray) (nn : Int) (S : PD) (e : Ending) (w' : World) : Prop :=
  ∃ C z S' Od' Oq' Sq', e = .returned (.tuple #[.int .i64 C, .int .i64 z]) ∧ Apt w.heap.size Od Oq Od' Oq' ∧ DK Od' w' d M S' ∧ RD Oq' w' q N Sq' ∧ Fr (fun k => Od k ∨ Oq k) w w' ∧ DoS kd A B nn S C S'
theorem Fr.sub {O O' : Nat → Prop} {w w' : World} (h : Fr O w w') (hs : ∀ k, O k → O' k) : Fr O' w w' := ⟨h.os, h.tape, h.output, h.size, fun k hk hn => h.block k hk (fun hO => hn (hs k hO))⟩
def IntV (v : Value) : Prop := ∃ C : Int, v = .int .i64 C
def ShV (n : Nat) (v : Value) : Prop := ∃ B c, v = .slice B n c
theorem Apt.kp {B0 : Nat} {Od Oq Od' Oq' : Nat → Prop} {w w' : World} (h : Apt B0 Od Oq Od' Oq') : (Fr Od' w w' → Fr (fun k => (Od k ∨ Oq k) ∨ B0 ≤ k) w w') ∧ (Fr Oq' w w' → Fr (fun k => (Od k ∨ Oq k) ∨ B0 ≤ k) w w') :=
  ⟨fun hf => hf.sub fun k hk => (h.2.1 k hk).elim (fun h => .inl (.inl h)) .inr, fun hf => hf.sub fun k hk => (h.2.2 k hk).elim (fun h => .inl (.inr h)) .inr⟩
theorem seq_both {Od Oq : Nat → Prop} {W1 w2 w3 : World} {d q M' N N' : Nat} {S' : PD} {Sq : RS} (hap : Apt W1.heap.size Od Oq Od Oq) (hdb : ∀ k, Od k → k < W1.heap.size) (hq0 : RD Oq W1 q N Sq) (hop : OpP Od W1 d M' S' w2) (hrp : RP Oq w2 q N' w3) :
    ∃ Od' Oq' Sq', Apt W1.heap.size Od Oq Od' Oq' ∧ DK Od' w3 d M' S' ∧ RD Oq' w3 q N' Sq' ∧ Fr (fun k => Od k ∨ Oq k) W1 w3 := by
  obtain ⟨S2, h1, h2⟩ := hrp
  have s1 := hop.2.size
  have s2 := h2.size
  have hqb := hq0.bound
  refine ⟨On Od W1 w2, On Oq w2 w3, S2, ⟨fun k hk hk' => ?_, fun k hk => ?_, fun k hk => ?_⟩, hop.1.keep s2 (fun k hk => h2.block k (hop.1.bound k hk) (fun hO => ?_)), h1, (hop.2.sub (fun k hk => .inl hk)).trans (h2.sub (O' := fun k => Od k ∨ Oq k) (fun k hk => .inr hk)) (fun x hx => .inl hx)⟩
  · rcases hk with hk | ⟨h3, h4⟩ <;> rcases hk' with hk' | ⟨h5, h6⟩
    · exact hap.1 k hk hk'
    · have := hdb k hk; omega
    · have := hqb k hk'; omega
    · omega
  · rcases hk with hk | ⟨h3, _⟩
    · exact .inl hk
    · exact .inr h3
  · rcases hk with hk | ⟨h3, _⟩
    · exact .inl hk
    · exact .inr (Nat.le_trans s1 h3)
  · rcases hk with hk | ⟨h3, _⟩
    · exact hap.1 k hk hO
    · have := hqb k hO; omega
theorem RD.past {Od Oq : Nat → Prop} {w w' : World} {q N : Nat} {Sq : RS} {B0 : Nat} (h : RD Oq w q N Sq) (hap : Apt B0 Od Oq Od Oq) (hf : Fr Od w w') : RD Oq w' q N Sq := h.keep hf.size (fun k hO => hf.block k (h.bound k hO) (fun hk => hap.1 k hk hO))
theorem OpP.up {O : Nat → Prop} {w w' : World} {d M M' : Nat} {S : PD} (h : OpP O w d M S w') (hM : M ≤ M') : OpP O w d M' S w' := ⟨h.1.mono (fun _ hk => hk) h.1.bound hM, h.2⟩
theorem RP.up {O : Nat → Prop} {w w' : World} {q M M' : Nat} (h : RP O w q M w') (hM : M ≤ M') : RP O w q M' w' := by
  obtain ⟨S, h1, h2⟩ := h
  exact ⟨S, h1.mono (fun _ hk => hk) h1.bound hM, h2⟩
set_option maxHeartbeats 1000000 in
set_option maxRecDepth 100000 in
theorem do_any (Od Oq : Nat → Prop) (d q M N : Nat) (S : PD) (Sq : RS) (kd nn : Int) (A B : ByteArray) (Kb : Option Addr) (kn kc : Nat) (Cb : Option Addr) (cn cc : Nat) (w : World) (h : DK Od w d M S) (hq : RD Oq w q N Sq) (hap : ∀ k, Od k → ¬ Oq k)
    (hA : Ks A) (hB : B.size ≤ 100000) (hf : I64 S.fuse) (hr : 0 ≤ S.room ∧ S.room ≤ 1048576) (hM : M ≤ 300000) (hN : N ≤ 300000) :
    Calls Try.prog 13 #[.pointer (some ⟨d, 0, none⟩), .pointer (some ⟨q, 0, none⟩), .agg #[.int .i64 kd, .string A, .string B, .int .i64 nn, .slice Kb kn kc, .slice Cb cn cc]] w (DoP Od Oq w d q (M + B.size + 2) (N + B.size + 2) kd A B nn S) := by
  show Calls Try.prog 13 #[.pointer (some ⟨d, 0, none⟩), .pointer (some ⟨q, 0, none⟩), .agg #[.int .i64 kd, .string A, .string B, .int .i64 nn, .slice Kb kn kc, .slice Cb cn cc]] w fun e w' => DoP Od Oq w d q (M + B.size + 2) (N + B.size + 2) kd A B nn S e w'
  have hKB : Ks B := Nat.le_trans hB (by decide)
  obtain ⟨W1, hW1⟩ : ∃ W1, w.alloc (.cells #[.int .i64 kd, .string A, .string B, .int .i64 nn, .slice Kb kn kc, .slice Cb cn cc] 38 (0, 0)) = W1 := ⟨_, rfl⟩
  obtain ⟨g5, hg5⟩ : ∃ g5, w.heap.size = g5 := ⟨_, rfl⟩
  have hb1 : Below w.heap.size w W1 := hW1 ▸ grows w _
  have hbx : W1.heap[g5]? = some (.cells #[.int .i64 kd, .string A, .string B, .int .i64 nn, .slice Kb kn kc, .slice Cb cn cc] 38 (0, 0)) := hg5 ▸ hW1 ▸ heap_alloc_new w _
  have x0 : W1.cell? ⟨g5, 0, none⟩ = some (.int .i64 kd) := by rw [cell_of_row _ _ _ _ _ _ hbx]; rfl
  have x1 : W1.cell? ⟨g5, 1, none⟩ = some (.string A) := by rw [cell_of_row _ _ _ _ _ _ hbx]; rfl
  have x2 : W1.cell? ⟨g5, 2, none⟩ = some (.string B) := by rw [cell_of_row _ _ _ _ _ _ hbx]; rfl
  have x3 : W1.cell? ⟨g5, 3, none⟩ = some (.int .i64 nn) := by rw [cell_of_row _ _ _ _ _ _ hbx]; rfl
  have hgl := (Array.getElem?_eq_some_iff.1 hbx).1
  have HC := Lib.hid (show ∀ W i v, Fr (fun k => Od k ∨ Oq k) W1 W → W1.cell? ⟨g5, i, none⟩ = some v → W.cell? ⟨g5, i, none⟩ = some v from fun W i v hF hv => by
    rw [World.cell?_of_block (w := W1) (hF.block g5 hgl (fun hO => by
      rcases hO with hO | hO
      · have := h.bound _ hO; omega
      · have := hq.bound _ hO; omega))]
    exact hv)
  have HD := Lib.hid (h.below hb1)
  have HQ := Lib.hid (hq.below hb1)
  have HAP := Lib.hid (show Apt W1.heap.size Od Oq Od Oq from ⟨hap, fun k hk => .inl hk, fun k hk => .inl hk⟩)
  have HP := Lib.hid (And.intro hA (And.intro hKB (And.intro hf (And.intro hr (And.intro hB hb1)))))
  have HEND := Lib.hid (show ∀ C z S' Od' Oq' Sq' w', Apt W1.heap.size Od Oq Od' Oq' → DK Od' w' d (M + B.size + 2) S' → RD Oq' w' q (N + B.size + 2) Sq' → Fr (fun k => Od k ∨ Oq k) W1 w' → DoS kd A B nn S C S' → DoP Od Oq w d q (M + B.size + 2) (N + B.size + 2) kd A B nn S (.returned (.tuple #[.int .i64 C, .int .i64 z])) w' from
    fun C z S' Od' Oq' Sq' w' ha h1 h2 h3 h4 => ⟨C, z, S', Od', Oq', Sq', rfl, ⟨ha.1, fun k hk => (ha.2.1 k hk).elim .inl (fun h => .inr (Nat.le_trans hb1.size h)), fun k hk => (ha.2.2 k hk).elim .inl (fun h => .inr (Nat.le_trans hb1.size h))⟩, h1, h2, (Fr.of_below hb1).trans h3 (fun x hx => .inl hx), h4⟩)
  clear h hq hap hA hKB hf hr hb1 hbx hgl
  go_enter Try.func13, Try.ntmps13
  by_cases c0 : kd = 0
  · subst c0
    go_wp2_with fail
    clear hg5 hW1
    refine Rg.wp_region_invJ ((fun w => Fr (fun k => Od k ∨ Oq k) W1 w)) (Fr.of_below ((Below.refl _ _).drew)) (fun w w' => Fr (fun k => (Od k ∨ Oq k) ∨ W1.heap.size ≤ k) w w') (R := fun sl v w => match sl with
        | 12 => v = .pointer (some ⟨d, 0, none⟩)
        | 13 => v = .pointer (some ⟨g5, 1, none⟩)
        | 14 => v = .string A
        | 15 => v = .pointer (some ⟨g5, 2, none⟩)
        | 16 => v = .string B
        | 17 => ShV B.size v
        | 18 => IntV v
        | 19 => v = .pointer (some ⟨q, 0, none⟩)
        | 20 => v = .pointer (some ⟨g5, 1, none⟩)
        | 21 => v = .string A
        | 22 => v = .pointer (some ⟨g5, 2, none⟩)
        | 23 => v = .string B
        | 24 => IntV v
        | _ => True) (fun a w => BG ⟨W1.heap.size, Od, Oq, d, q, M, M + B.size + 2, N, N + B.size + 2, S, Sq, byN B, 18, 24, 17⟩ (fun C S' => (C ≠ 0 → S' = stepS S) ∧ (C = 0 → stepE S = 0 ∧ okName A = true ∧ AppS (stepS S) A.data.toList (byN B) S')) a w) 13 [12, 13, 14, 15, 16, 17, 18, 19, 20, 21, 22, 23, 24] 76 [false, false, false, false, false, false, false, false, false, false, false, false, true, true, true, true, true, true, true, true, true, true, true, true, true, false, false, false, false, false, false, false, false, false, false, false, false, false, false, false, false, false, false, false, false, false, false, false, false, false, false, false, false, false, false, false, false, false, false, false, false, false, false, false, false, false, false, false, false, false, false, false, false, false, false, false] (by kernel_rfl) rfl (by kernel_rfl) (by kernel_rfl) (by kernel_rfl) (by kernel_rfl) (Nat.le_of_ble_eq_true (by kernel_rfl)) (by kernel_rfl) (by kernel_rfl) (fun w => Fr.refl _ w) (fun w w' h k => h.trans k (fun x hx => hx)) ?mono ?g0 ?good ?done
    case mono =>
      refine List.forall_mem_cons.2 ⟨fun _ _ _ _ _ h => h, ?_⟩
      refine List.forall_mem_cons.2 ⟨fun _ _ _ _ _ h => h, ?_⟩
      refine List.forall_mem_cons.2 ⟨fun _ _ _ _ _ h => h, ?_⟩
      refine List.forall_mem_cons.2 ⟨fun _ _ _ _ _ h => h, ?_⟩
      refine List.forall_mem_cons.2 ⟨fun _ _ _ _ _ h => h, ?_⟩
      refine List.forall_mem_cons.2 ⟨fun _ _ _ _ hb h => h, ?_⟩
      refine List.forall_mem_cons.2 ⟨fun _ _ _ _ hb h => h, ?_⟩
      refine List.forall_mem_cons.2 ⟨fun _ _ _ _ _ h => h, ?_⟩
      refine List.forall_mem_cons.2 ⟨fun _ _ _ _ _ h => h, ?_⟩
      refine List.forall_mem_cons.2 ⟨fun _ _ _ _ _ h => h, ?_⟩
      refine List.forall_mem_cons.2 ⟨fun _ _ _ _ _ h => h, ?_⟩
      refine List.forall_mem_cons.2 ⟨fun _ _ _ _ _ h => h, ?_⟩
      refine List.forall_mem_cons.2 ⟨fun _ _ _ _ hb h => h, ?_⟩
      exact fun _ h => absurd h (by simp)
    case g0 => exact ⟨Od, Oq, HAP.out, Nat.le_refl _, .inl ⟨rfl, HD.out.below ((Below.refl _ _).drew)⟩, .inl ⟨rfl, HQ.out.below ((Below.refl _ _).drew)⟩, fun Bv m c e => absurd (show some _ = some _ from e) (by intro h; cases h)⟩
    case good =>
      refine Rg.goodJ_cons ?_ ?_
      · intro ac w' cx hg hd hn
        have e0 := cx.at_ 0 (by kernel_rfl) rfl
        refine .inl ⟨(Rg.wanted_none rfl), fun K hK => ?_⟩
        go_simp
        exact hK _ _ ((fun w => Fr.refl _ w) _) (fun t ht => by injection ht with ht; subst ht; exact rfl) (hg.keep (Below.refl _ _) (show (12 : Nat) ≠ 18 by decide) (show (12 : Nat) ≠ 24 by decide) (show (12 : Nat) ≠ 17 by decide))
      refine Rg.goodJ_cons ?_ ?_
      · intro ac w' cx hg hd hn
        have e5 := cx.at_ 5 (by kernel_rfl) rfl
        refine .inl ⟨(Rg.wanted_none rfl), fun K hK => ?_⟩
        go_simp
        exact hK _ _ ((fun w => Fr.refl _ w) _) (fun t ht => by injection ht with ht; subst ht; exact rfl) (hg.keep (Below.refl _ _) (show (13 : Nat) ≠ 18 by decide) (show (13 : Nat) ≠ 24 by decide) (show (13 : Nat) ≠ 17 by decide))
      refine Rg.goodJ_cons ?_ ?_
      · intro ac w' cx hg hd hn
        obtain ⟨v13, e13, r13⟩ := hn 13 (Rg.mem_of (by kernel_rfl))
        obtain rfl : v13 = .pointer (some ⟨g5, 1, none⟩) := r13
        have hx := HC.out _ _ _ cx.bel x1
        refine .inl ⟨(Rg.wanted_none rfl), fun K hK => ?_⟩
        go_simp
        exact hK _ _ ((fun w => Fr.refl _ w) _) (fun t ht => by injection ht with ht; subst ht; exact rfl) (hg.keep (Below.refl _ _) (show (14 : Nat) ≠ 18 by decide) (show (14 : Nat) ≠ 24 by decide) (show (14 : Nat) ≠ 17 by decide))
      refine Rg.goodJ_cons ?_ ?_
      · intro ac w' cx hg hd hn
        have e5 := cx.at_ 5 (by kernel_rfl) rfl
        refine .inl ⟨(Rg.wanted_none rfl), fun K hK => ?_⟩
        go_simp
        exact hK _ _ ((fun w => Fr.refl _ w) _) (fun t ht => by injection ht with ht; subst ht; exact rfl) (hg.keep (Below.refl _ _) (show (15 : Nat) ≠ 18 by decide) (show (15 : Nat) ≠ 24 by decide) (show (15 : Nat) ≠ 17 by decide))
      refine Rg.goodJ_cons ?_ ?_
      · intro ac w' cx hg hd hn
        obtain ⟨v15, e15, r15⟩ := hn 15 (Rg.mem_of (by kernel_rfl))
        obtain rfl : v15 = .pointer (some ⟨g5, 2, none⟩) := r15
        have hx := HC.out _ _ _ cx.bel x2
        refine .inl ⟨(Rg.wanted_none rfl), fun K hK => ?_⟩
        go_simp
        exact hK _ _ ((fun w => Fr.refl _ w) _) (fun t ht => by injection ht with ht; subst ht; exact rfl) (hg.keep (Below.refl _ _) (show (16 : Nat) ≠ 18 by decide) (show (16 : Nat) ≠ 24 by decide) (show (16 : Nat) ≠ 17 by decide))
      refine Rg.goodJ_cons ?_ ?_
      · intro ac w' cx hg hd hn
        obtain ⟨v16, e16, r16⟩ := hn 16 (Rg.mem_of (by kernel_rfl))
        obtain rfl : v16 = .string B := r16
        refine .inl ⟨(Rg.wanted_none rfl), fun K hK => ?_⟩
        obtain ⟨c, W, hcv, hb, hlt, hS⟩ := str_bytes B w' HP.out.2.1
        go_simp
        exact hK _ _ (Fr.of_below hb) (fun t ht => by injection ht with ht; subst ht; exact ⟨_, c, rfl⟩) (hg.conv hb hlt (byN_length B).symm hS (show (17 : Nat) ≠ 18 by decide) (show (17 : Nat) ≠ 24 by decide) (by rw [cx.size]; show (17 : Nat) < 76; decide))
      refine Rg.goodJ_cons ?_ ?_
      · intro ac w' cx hg hd hn
        obtain ⟨v12, e12, r12⟩ := hn 12 (Rg.mem_of (by kernel_rfl))
        obtain rfl : v12 = .pointer (some ⟨d, 0, none⟩) := r12
        obtain ⟨v14, e14, r14⟩ := hn 14 (Rg.mem_of (by kernel_rfl))
        obtain rfl : v14 = .string A := r14
        obtain ⟨v17, e17, r17⟩ := hn 17 (Rg.mem_of (by kernel_rfl))
        replace r17 : ShV B.size v17 := r17
        refine .inl ⟨(Rg.wanted_none rfl), fun K hK => ?_⟩
        obtain ⟨Od', Oq', ha, h0, hdd, hqq, hc⟩ := hg
        obtain ⟨Bv, c, rfl⟩ := r17
        obtain ⟨k1, k2, k3⟩ := hc _ _ _ e17
        have hdk : DK Od' w' d M S := by
          rcases hdd with ⟨_, hdk⟩ | ⟨C, S', e, _⟩
          · exact hdk
          · have e' := ((hd 18 rfl).symm.trans e)
            cases e'
        have HK3 := Lib.hid (And.intro k1 (And.intro k2 k3))
        have HDK := Lib.hid hdk
        have HX := Lib.hid (And.intro ha (And.intro h0 (And.intro hqq hc)))
        clear hdk ha h0 hqq hc hdd hd hn k1 k2 k3
        go_simp
        refine (append_any Od' d M S A Bv B.size c (byN B) w' HDK.out HP.out.1 HP.out.2.2.1 (by omega) HK3.out.2.1 HK3.out.1 (fun b off e _ => (HK3.out.2.2 b off e).2.1) (by rw [byN_length]; exact HP.out.2.2.2.2.1) HP.out.2.2.2.1).mono ?_
        rintro y w5 ⟨C, S', rfl, hop, hne, h0C, _⟩
        have hop : OpP Od' w' d (M + B.size + 2) S' w5 := by rw [byN_length] at hop; exact hop
        exact hK _ _ (HX.out.1.kp.1 hop.2) (fun t ht => by injection ht with ht; subst ht; exact ⟨_, rfl⟩) (BG.dop HX.out.1 HX.out.2.1 HX.out.2.2.1 HX.out.2.2.2 ⟨hne, h0C⟩ hop (show (18 : Nat) ≠ 24 by decide) (show (18 : Nat) ≠ 17 by decide) (by rw [cx.size]; show (18 : Nat) < 76; decide))
      refine Rg.goodJ_cons ?_ ?_
      · intro ac w' cx hg hd hn
        have e1 := cx.at_ 1 (by kernel_rfl) rfl
        refine .inl ⟨(Rg.wanted_none rfl), fun K hK => ?_⟩
        go_simp
        exact hK _ _ ((fun w => Fr.refl _ w) _) (fun t ht => by injection ht with ht; subst ht; exact rfl) (hg.keep (Below.refl _ _) (show (19 : Nat) ≠ 18 by decide) (show (19 : Nat) ≠ 24 by decide) (show (19 : Nat) ≠ 17 by decide))
      refine Rg.goodJ_cons ?_ ?_
      · intro ac w' cx hg hd hn
        have e5 := cx.at_ 5 (by kernel_rfl) rfl
        refine .inl ⟨(Rg.wanted_none rfl), fun K hK => ?_⟩
        go_simp
        exact hK _ _ ((fun w => Fr.refl _ w) _) (fun t ht => by injection ht with ht; subst ht; exact rfl) (hg.keep (Below.refl _ _) (show (20 : Nat) ≠ 18 by decide) (show (20 : Nat) ≠ 24 by decide) (show (20 : Nat) ≠ 17 by decide))
      refine Rg.goodJ_cons ?_ ?_
      · intro ac w' cx hg hd hn
        obtain ⟨v20, e20, r20⟩ := hn 20 (Rg.mem_of (by kernel_rfl))
        obtain rfl : v20 = .pointer (some ⟨g5, 1, none⟩) := r20
        have hx := HC.out _ _ _ cx.bel x1
        refine .inl ⟨(Rg.wanted_none rfl), fun K hK => ?_⟩
        go_simp
        exact hK _ _ ((fun w => Fr.refl _ w) _) (fun t ht => by injection ht with ht; subst ht; exact rfl) (hg.keep (Below.refl _ _) (show (21 : Nat) ≠ 18 by decide) (show (21 : Nat) ≠ 24 by decide) (show (21 : Nat) ≠ 17 by decide))
      refine Rg.goodJ_cons ?_ ?_
      · intro ac w' cx hg hd hn
        have e5 := cx.at_ 5 (by kernel_rfl) rfl
        refine .inl ⟨(Rg.wanted_none rfl), fun K hK => ?_⟩
        go_simp
        exact hK _ _ ((fun w => Fr.refl _ w) _) (fun t ht => by injection ht with ht; subst ht; exact rfl) (hg.keep (Below.refl _ _) (show (22 : Nat) ≠ 18 by decide) (show (22 : Nat) ≠ 24 by decide) (show (22 : Nat) ≠ 17 by decide))
      refine Rg.goodJ_cons ?_ ?_
      · intro ac w' cx hg hd hn
        obtain ⟨v22, e22, r22⟩ := hn 22 (Rg.mem_of (by kernel_rfl))
        obtain rfl : v22 = .pointer (some ⟨g5, 2, none⟩) := r22
        have hx := HC.out _ _ _ cx.bel x2
        refine .inl ⟨(Rg.wanted_none rfl), fun K hK => ?_⟩
        go_simp
        exact hK _ _ ((fun w => Fr.refl _ w) _) (fun t ht => by injection ht with ht; subst ht; exact rfl) (hg.keep (Below.refl _ _) (show (23 : Nat) ≠ 18 by decide) (show (23 : Nat) ≠ 24 by decide) (show (23 : Nat) ≠ 17 by decide))
      refine Rg.goodJ_cons ?_ ?_
      · intro ac w' cx hg hd hn
        obtain ⟨v19, e19, r19⟩ := hn 19 (Rg.mem_of (by kernel_rfl))
        obtain rfl : v19 = .pointer (some ⟨q, 0, none⟩) := r19
        obtain ⟨v21, e21, r21⟩ := hn 21 (Rg.mem_of (by kernel_rfl))
        obtain rfl : v21 = .string A := r21
        obtain ⟨v23, e23, r23⟩ := hn 23 (Rg.mem_of (by kernel_rfl))
        obtain rfl : v23 = .string B := r23
        refine .inl ⟨(Rg.wanted_none rfl), fun K hK => ?_⟩
        obtain ⟨Od', Oq', ha, h0, hdd, hqq, hc⟩ := hg
        have hrd : RD Oq' w' q N Sq := by
          rcases hqq with ⟨_, hrd⟩ | ⟨z, S', e, _⟩
          · exact hrd
          · have e' := ((hd 24 rfl).symm.trans e)
            cases e'
        have HDK := Lib.hid hrd
        have HX := Lib.hid (And.intro ha (And.intro h0 (And.intro hdd hc)))
        clear hrd ha h0 hdd hc hqq hd hn
        go_simp
        refine (rappend_any Oq' q N Sq A B w' HDK.out HP.out.1 HP.out.2.2.2.2.1 (by omega)).mono ?_
        rintro y w5 ⟨z, rfl, hrp⟩
        have hrp := RP.up hrp (show _ ≤ N + B.size + 2 by omega)
        exact hK _ _ (HX.out.1.kp.2 hrp.choose_spec.2) (fun t ht => by injection ht with ht; subst ht; exact ⟨z, rfl⟩) (BG.qop HX.out.1 HX.out.2.1 HX.out.2.2.1 HX.out.2.2.2 hrp (show (24 : Nat) ≠ 18 by decide) (show (24 : Nat) ≠ 17 by decide) (by rw [cx.size]; show (24 : Nat) < 76; decide))
      exact Rg.goodJ_nil
    case done =>
      intro u w7 hF hr hG
      obtain ⟨C, hC⟩ : IntV (u 18) := hr 18 (by simp)
      obtain ⟨z, hz⟩ : IntV (u 24) := hr 24 (by simp)
      simp only [Rg.fillL_cons, Rg.fillL_nil, if_true, if_false, Bool.false_eq_true, hC, hz] at hG ⊢
      obtain ⟨Od', Oq', ha, h0, hdd, hqq, _⟩ := hG
      obtain ⟨S', hpo, hdk⟩ : ∃ S', (fun C S' => (C ≠ 0 → S' = stepS S) ∧ (C = 0 → stepE S = 0 ∧ okName A = true ∧ AppS (stepS S) A.data.toList (byN B) S')) C S' ∧ DK Od' w7 d (M + B.size + 2) S' := by
        rcases hdd with ⟨e, _⟩ | ⟨C', S', e, hp, hdk⟩
        · have e' : some (Value.int .i64 C) = some undef := e
          cases e'
        · have e' : some (Value.int .i64 C) = some (Value.int .i64 C') := e
          injection e' with e'
          injection e' with _ e'
          subst e'
          exact ⟨S', hp, hdk⟩
      obtain ⟨Sq', hrd⟩ : ∃ Sq', RD Oq' w7 q (N + B.size + 2) Sq' := by
        rcases hqq with ⟨e, _⟩ | ⟨z', S2, e, hrd⟩
        · have e' : some (Value.int .i64 z) = some undef := e
          cases e'
        · exact ⟨S2, hrd⟩
      have HX := Lib.hid (HEND.out C z S' Od' Oq' Sq' w7 ha hdk hrd hF (by
        refine ⟨fun _ => hpo, fun h => by omega, fun h => by omega, fun h => by omega, fun h => by omega, fun h => by omega, fun h => by omega⟩))
      clear hF hr hC hz ha h0 hdd hqq hpo hdk hrd
      change wpList _ _ _ [_, _] _ _
      go_wp2_with fail
      go_ret2
      exact HX.out
  by_cases c1 : kd = 1
  · subst c1
    go_wp2_with fail
    clear hg5 hW1
    refine Rg.wp_region_invJ ((fun w => Fr (fun k => Od k ∨ Oq k) W1 w)) (Fr.of_below ((Below.refl _ _).drew)) (fun w w' => Fr (fun k => (Od k ∨ Oq k) ∨ W1.heap.size ≤ k) w w') (R := fun sl v w => match sl with
        | 27 => v = .pointer (some ⟨d, 0, none⟩)
        | 28 => v = .pointer (some ⟨g5, 1, none⟩)
        | 29 => v = .string A
        | 30 => IntV v
        | 31 => v = .pointer (some ⟨q, 0, none⟩)
        | 32 => v = .pointer (some ⟨g5, 1, none⟩)
        | 33 => v = .string A
        | 34 => IntV v
        | _ => True) (fun a w => BG ⟨W1.heap.size, Od, Oq, d, q, M, M + B.size + 2, N, N + B.size + 2, S, Sq, byN B, 30, 34, 0⟩ (fun _ S' => S' = syncS S A.data.toList) a w) 8 [27, 28, 29, 30, 31, 32, 33, 34] 76 [false, false, false, false, false, false, false, false, false, false, false, false, false, false, false, false, false, false, false, false, false, false, false, false, false, false, false, true, true, true, true, true, true, true, true, false, false, false, false, false, false, false, false, false, false, false, false, false, false, false, false, false, false, false, false, false, false, false, false, false, false, false, false, false, false, false, false, false, false, false, false, false, false, false, false, false] (by kernel_rfl) rfl (by kernel_rfl) (by kernel_rfl) (by kernel_rfl) (by kernel_rfl) (Nat.le_of_ble_eq_true (by kernel_rfl)) (by kernel_rfl) (by kernel_rfl) (fun w => Fr.refl _ w) (fun w w' h k => h.trans k (fun x hx => hx)) ?mono ?g0 ?good ?done
    case mono =>
      refine List.forall_mem_cons.2 ⟨fun _ _ _ _ _ h => h, ?_⟩
      refine List.forall_mem_cons.2 ⟨fun _ _ _ _ _ h => h, ?_⟩
      refine List.forall_mem_cons.2 ⟨fun _ _ _ _ _ h => h, ?_⟩
      refine List.forall_mem_cons.2 ⟨fun _ _ _ _ hb h => h, ?_⟩
      refine List.forall_mem_cons.2 ⟨fun _ _ _ _ _ h => h, ?_⟩
      refine List.forall_mem_cons.2 ⟨fun _ _ _ _ _ h => h, ?_⟩
      refine List.forall_mem_cons.2 ⟨fun _ _ _ _ _ h => h, ?_⟩
      refine List.forall_mem_cons.2 ⟨fun _ _ _ _ hb h => h, ?_⟩
      exact fun _ h => absurd h (by simp)
    case g0 => exact ⟨Od, Oq, HAP.out, Nat.le_refl _, .inl ⟨rfl, HD.out.below ((Below.refl _ _).drew)⟩, .inl ⟨rfl, HQ.out.below ((Below.refl _ _).drew)⟩, fun Bv m c e => absurd (show some _ = some _ from e) (by intro h; cases h)⟩
    case good =>
      refine Rg.goodJ_cons ?_ ?_
      · intro ac w' cx hg hd hn
        have e0 := cx.at_ 0 (by kernel_rfl) rfl
        refine .inl ⟨(Rg.wanted_none rfl), fun K hK => ?_⟩
        go_simp
        exact hK _ _ ((fun w => Fr.refl _ w) _) (fun t ht => by injection ht with ht; subst ht; exact rfl) (hg.keep (Below.refl _ _) (show (27 : Nat) ≠ 30 by decide) (show (27 : Nat) ≠ 34 by decide) (show (27 : Nat) ≠ 0 by decide))
      refine Rg.goodJ_cons ?_ ?_
      · intro ac w' cx hg hd hn
        have e5 := cx.at_ 5 (by kernel_rfl) rfl
        refine .inl ⟨(Rg.wanted_none rfl), fun K hK => ?_⟩
        go_simp
        exact hK _ _ ((fun w => Fr.refl _ w) _) (fun t ht => by injection ht with ht; subst ht; exact rfl) (hg.keep (Below.refl _ _) (show (28 : Nat) ≠ 30 by decide) (show (28 : Nat) ≠ 34 by decide) (show (28 : Nat) ≠ 0 by decide))
      refine Rg.goodJ_cons ?_ ?_
      · intro ac w' cx hg hd hn
        obtain ⟨v28, e28, r28⟩ := hn 28 (Rg.mem_of (by kernel_rfl))
        obtain rfl : v28 = .pointer (some ⟨g5, 1, none⟩) := r28
        have hx := HC.out _ _ _ cx.bel x1
        refine .inl ⟨(Rg.wanted_none rfl), fun K hK => ?_⟩
        go_simp
        exact hK _ _ ((fun w => Fr.refl _ w) _) (fun t ht => by injection ht with ht; subst ht; exact rfl) (hg.keep (Below.refl _ _) (show (29 : Nat) ≠ 30 by decide) (show (29 : Nat) ≠ 34 by decide) (show (29 : Nat) ≠ 0 by decide))
      refine Rg.goodJ_cons ?_ ?_
      · intro ac w' cx hg hd hn
        obtain ⟨v27, e27, r27⟩ := hn 27 (Rg.mem_of (by kernel_rfl))
        obtain rfl : v27 = .pointer (some ⟨d, 0, none⟩) := r27
        obtain ⟨v29, e29, r29⟩ := hn 29 (Rg.mem_of (by kernel_rfl))
        obtain rfl : v29 = .string A := r29
        refine .inl ⟨(Rg.wanted_none rfl), fun K hK => ?_⟩
        obtain ⟨Od', Oq', ha, h0, hdd, hqq, hc⟩ := hg
        have hdk : DK Od' w' d M S := by
          rcases hdd with ⟨_, hdk⟩ | ⟨C, S', e, _⟩
          · exact hdk
          · have e' := ((hd 30 rfl).symm.trans e)
            cases e'
        have HDK := Lib.hid hdk
        have HX := Lib.hid (And.intro ha (And.intro h0 (And.intro hqq hc)))
        clear hdk ha h0 hqq hc hdd hd hn
        go_simp
        refine (sync_any Od' d M S A w' HDK.out HP.out.1 HP.out.2.2.1).mono ?_
        rintro y w5 ⟨rfl, hop⟩
        have hop := OpP.up hop (show M ≤ M + B.size + 2 by omega)
        exact hK _ _ (HX.out.1.kp.1 hop.2) (fun t ht => by injection ht with ht; subst ht; exact ⟨_, rfl⟩) (BG.dop HX.out.1 HX.out.2.1 HX.out.2.2.1 HX.out.2.2.2 rfl hop (show (30 : Nat) ≠ 34 by decide) (show (30 : Nat) ≠ 0 by decide) (by rw [cx.size]; show (30 : Nat) < 76; decide))
      refine Rg.goodJ_cons ?_ ?_
      · intro ac w' cx hg hd hn
        have e1 := cx.at_ 1 (by kernel_rfl) rfl
        refine .inl ⟨(Rg.wanted_none rfl), fun K hK => ?_⟩
        go_simp
        exact hK _ _ ((fun w => Fr.refl _ w) _) (fun t ht => by injection ht with ht; subst ht; exact rfl) (hg.keep (Below.refl _ _) (show (31 : Nat) ≠ 30 by decide) (show (31 : Nat) ≠ 34 by decide) (show (31 : Nat) ≠ 0 by decide))
      refine Rg.goodJ_cons ?_ ?_
      · intro ac w' cx hg hd hn
        have e5 := cx.at_ 5 (by kernel_rfl) rfl
        refine .inl ⟨(Rg.wanted_none rfl), fun K hK => ?_⟩
        go_simp
        exact hK _ _ ((fun w => Fr.refl _ w) _) (fun t ht => by injection ht with ht; subst ht; exact rfl) (hg.keep (Below.refl _ _) (show (32 : Nat) ≠ 30 by decide) (show (32 : Nat) ≠ 34 by decide) (show (32 : Nat) ≠ 0 by decide))
      refine Rg.goodJ_cons ?_ ?_
      · intro ac w' cx hg hd hn
        obtain ⟨v32, e32, r32⟩ := hn 32 (Rg.mem_of (by kernel_rfl))
        obtain rfl : v32 = .pointer (some ⟨g5, 1, none⟩) := r32
        have hx := HC.out _ _ _ cx.bel x1
        refine .inl ⟨(Rg.wanted_none rfl), fun K hK => ?_⟩
        go_simp
        exact hK _ _ ((fun w => Fr.refl _ w) _) (fun t ht => by injection ht with ht; subst ht; exact rfl) (hg.keep (Below.refl _ _) (show (33 : Nat) ≠ 30 by decide) (show (33 : Nat) ≠ 34 by decide) (show (33 : Nat) ≠ 0 by decide))
      refine Rg.goodJ_cons ?_ ?_
      · intro ac w' cx hg hd hn
        obtain ⟨v31, e31, r31⟩ := hn 31 (Rg.mem_of (by kernel_rfl))
        obtain rfl : v31 = .pointer (some ⟨q, 0, none⟩) := r31
        obtain ⟨v33, e33, r33⟩ := hn 33 (Rg.mem_of (by kernel_rfl))
        obtain rfl : v33 = .string A := r33
        refine .inl ⟨(Rg.wanted_none rfl), fun K hK => ?_⟩
        obtain ⟨Od', Oq', ha, h0, hdd, hqq, hc⟩ := hg
        have hrd : RD Oq' w' q N Sq := by
          rcases hqq with ⟨_, hrd⟩ | ⟨z, S', e, _⟩
          · exact hrd
          · have e' := ((hd 34 rfl).symm.trans e)
            cases e'
        have HDK := Lib.hid hrd
        have HX := Lib.hid (And.intro ha (And.intro h0 (And.intro hdd hc)))
        clear hrd ha h0 hdd hc hqq hd hn
        go_simp
        refine (rsync_any Oq' q N Sq A w' HDK.out HP.out.1 (by omega)).mono ?_
        rintro y w5 ⟨z, rfl, hrp⟩
        have hrp := RP.up hrp (show _ ≤ N + B.size + 2 by omega)
        exact hK _ _ (HX.out.1.kp.2 hrp.choose_spec.2) (fun t ht => by injection ht with ht; subst ht; exact ⟨z, rfl⟩) (BG.qop HX.out.1 HX.out.2.1 HX.out.2.2.1 HX.out.2.2.2 hrp (show (34 : Nat) ≠ 30 by decide) (show (34 : Nat) ≠ 0 by decide) (by rw [cx.size]; show (34 : Nat) < 76; decide))
      exact Rg.goodJ_nil
    case done =>
      intro u w7 hF hr hG
      obtain ⟨C, hC⟩ : IntV (u 30) := hr 30 (by simp)
      obtain ⟨z, hz⟩ : IntV (u 34) := hr 34 (by simp)
      simp only [Rg.fillL_cons, Rg.fillL_nil, if_true, if_false, Bool.false_eq_true, hC, hz] at hG ⊢
      obtain ⟨Od', Oq', ha, h0, hdd, hqq, _⟩ := hG
      obtain ⟨S', hpo, hdk⟩ : ∃ S', (fun _ S' => S' = syncS S A.data.toList) C S' ∧ DK Od' w7 d (M + B.size + 2) S' := by
        rcases hdd with ⟨e, _⟩ | ⟨C', S', e, hp, hdk⟩
        · have e' : some (Value.int .i64 C) = some undef := e
          cases e'
        · have e' : some (Value.int .i64 C) = some (Value.int .i64 C') := e
          injection e' with e'
          injection e' with _ e'
          subst e'
          exact ⟨S', hp, hdk⟩
      obtain ⟨Sq', hrd⟩ : ∃ Sq', RD Oq' w7 q (N + B.size + 2) Sq' := by
        rcases hqq with ⟨e, _⟩ | ⟨z', S2, e, hrd⟩
        · have e' : some (Value.int .i64 z) = some undef := e
          cases e'
        · exact ⟨S2, hrd⟩
      have HX := Lib.hid (HEND.out C z S' Od' Oq' Sq' w7 ha hdk hrd hF (by
        refine ⟨fun h => by omega, fun _ => hpo, fun h => by omega, fun h => by omega, fun h => by omega, fun h => by omega, fun h => by omega⟩))
      clear hF hr hC hz ha h0 hdd hqq hpo hdk hrd
      change wpList _ _ _ [_, _] _ _
      go_wp2_with fail
      go_ret2
      exact HX.out
  by_cases c2 : kd = 2
  · subst c2
    go_wp2_with fail
    clear hg5 hW1
    refine Rg.wp_region_invJ ((fun w => Fr (fun k => Od k ∨ Oq k) W1 w)) (Fr.of_below ((Below.refl _ _).drew)) (fun w w' => Fr (fun k => (Od k ∨ Oq k) ∨ W1.heap.size ≤ k) w w') (R := fun sl v w => match sl with
        | 37 => v = .pointer (some ⟨d, 0, none⟩)
        | 38 => v = .pointer (some ⟨g5, 1, none⟩)
        | 39 => v = .string A
        | 40 => v = .pointer (some ⟨g5, 2, none⟩)
        | 41 => v = .string B
        | 42 => IntV v
        | 43 => v = .pointer (some ⟨q, 0, none⟩)
        | 44 => v = .pointer (some ⟨g5, 1, none⟩)
        | 45 => v = .string A
        | 46 => v = .pointer (some ⟨g5, 2, none⟩)
        | 47 => v = .string B
        | 48 => IntV v
        | _ => True) (fun a w => BG ⟨W1.heap.size, Od, Oq, d, q, M, M + B.size + 2, N, N + B.size + 2, S, Sq, byN B, 42, 48, 0⟩ (fun C S' => (C ≠ 0 → S' = stepS S) ∧ (C = 0 → ∃ nb, S' = giveS (delS (stepS S) A.data.toList) nb B.data.toList ((stepS S).now A.data.toList) ((stepS S).F ((stepS S).now A.data.toList)))) a w) 12 [37, 38, 39, 40, 41, 42, 43, 44, 45, 46, 47, 48] 76 [false, false, false, false, false, false, false, false, false, false, false, false, false, false, false, false, false, false, false, false, false, false, false, false, false, false, false, false, false, false, false, false, false, false, false, false, false, true, true, true, true, true, true, true, true, true, true, true, true, false, false, false, false, false, false, false, false, false, false, false, false, false, false, false, false, false, false, false, false, false, false, false, false, false, false, false] (by kernel_rfl) rfl (by kernel_rfl) (by kernel_rfl) (by kernel_rfl) (by kernel_rfl) (Nat.le_of_ble_eq_true (by kernel_rfl)) (by kernel_rfl) (by kernel_rfl) (fun w => Fr.refl _ w) (fun w w' h k => h.trans k (fun x hx => hx)) ?mono ?g0 ?good ?done
    case mono =>
      refine List.forall_mem_cons.2 ⟨fun _ _ _ _ _ h => h, ?_⟩
      refine List.forall_mem_cons.2 ⟨fun _ _ _ _ _ h => h, ?_⟩
      refine List.forall_mem_cons.2 ⟨fun _ _ _ _ _ h => h, ?_⟩
      refine List.forall_mem_cons.2 ⟨fun _ _ _ _ _ h => h, ?_⟩
      refine List.forall_mem_cons.2 ⟨fun _ _ _ _ _ h => h, ?_⟩
      refine List.forall_mem_cons.2 ⟨fun _ _ _ _ hb h => h, ?_⟩
      refine List.forall_mem_cons.2 ⟨fun _ _ _ _ _ h => h, ?_⟩
      refine List.forall_mem_cons.2 ⟨fun _ _ _ _ _ h => h, ?_⟩
      refine List.forall_mem_cons.2 ⟨fun _ _ _ _ _ h => h, ?_⟩
      refine List.forall_mem_cons.2 ⟨fun _ _ _ _ _ h => h, ?_⟩
      refine List.forall_mem_cons.2 ⟨fun _ _ _ _ _ h => h, ?_⟩
      refine List.forall_mem_cons.2 ⟨fun _ _ _ _ hb h => h, ?_⟩
      exact fun _ h => absurd h (by simp)
    case g0 => exact ⟨Od, Oq, HAP.out, Nat.le_refl _, .inl ⟨rfl, HD.out.below ((Below.refl _ _).drew)⟩, .inl ⟨rfl, HQ.out.below ((Below.refl _ _).drew)⟩, fun Bv m c e => absurd (show some _ = some _ from e) (by intro h; cases h)⟩
    case good =>
      refine Rg.goodJ_cons ?_ ?_
      · intro ac w' cx hg hd hn
        have e0 := cx.at_ 0 (by kernel_rfl) rfl
        refine .inl ⟨(Rg.wanted_none rfl), fun K hK => ?_⟩
        go_simp
        exact hK _ _ ((fun w => Fr.refl _ w) _) (fun t ht => by injection ht with ht; subst ht; exact rfl) (hg.keep (Below.refl _ _) (show (37 : Nat) ≠ 42 by decide) (show (37 : Nat) ≠ 48 by decide) (show (37 : Nat) ≠ 0 by decide))
      refine Rg.goodJ_cons ?_ ?_
      · intro ac w' cx hg hd hn
        have e5 := cx.at_ 5 (by kernel_rfl) rfl
        refine .inl ⟨(Rg.wanted_none rfl), fun K hK => ?_⟩
        go_simp
        exact hK _ _ ((fun w => Fr.refl _ w) _) (fun t ht => by injection ht with ht; subst ht; exact rfl) (hg.keep (Below.refl _ _) (show (38 : Nat) ≠ 42 by decide) (show (38 : Nat) ≠ 48 by decide) (show (38 : Nat) ≠ 0 by decide))
      refine Rg.goodJ_cons ?_ ?_
      · intro ac w' cx hg hd hn
        obtain ⟨v38, e38, r38⟩ := hn 38 (Rg.mem_of (by kernel_rfl))
        obtain rfl : v38 = .pointer (some ⟨g5, 1, none⟩) := r38
        have hx := HC.out _ _ _ cx.bel x1
        refine .inl ⟨(Rg.wanted_none rfl), fun K hK => ?_⟩
        go_simp
        exact hK _ _ ((fun w => Fr.refl _ w) _) (fun t ht => by injection ht with ht; subst ht; exact rfl) (hg.keep (Below.refl _ _) (show (39 : Nat) ≠ 42 by decide) (show (39 : Nat) ≠ 48 by decide) (show (39 : Nat) ≠ 0 by decide))
      refine Rg.goodJ_cons ?_ ?_
      · intro ac w' cx hg hd hn
        have e5 := cx.at_ 5 (by kernel_rfl) rfl
        refine .inl ⟨(Rg.wanted_none rfl), fun K hK => ?_⟩
        go_simp
        exact hK _ _ ((fun w => Fr.refl _ w) _) (fun t ht => by injection ht with ht; subst ht; exact rfl) (hg.keep (Below.refl _ _) (show (40 : Nat) ≠ 42 by decide) (show (40 : Nat) ≠ 48 by decide) (show (40 : Nat) ≠ 0 by decide))
      refine Rg.goodJ_cons ?_ ?_
      · intro ac w' cx hg hd hn
        obtain ⟨v40, e40, r40⟩ := hn 40 (Rg.mem_of (by kernel_rfl))
        obtain rfl : v40 = .pointer (some ⟨g5, 2, none⟩) := r40
        have hx := HC.out _ _ _ cx.bel x2
        refine .inl ⟨(Rg.wanted_none rfl), fun K hK => ?_⟩
        go_simp
        exact hK _ _ ((fun w => Fr.refl _ w) _) (fun t ht => by injection ht with ht; subst ht; exact rfl) (hg.keep (Below.refl _ _) (show (41 : Nat) ≠ 42 by decide) (show (41 : Nat) ≠ 48 by decide) (show (41 : Nat) ≠ 0 by decide))
      refine Rg.goodJ_cons ?_ ?_
      · intro ac w' cx hg hd hn
        obtain ⟨v37, e37, r37⟩ := hn 37 (Rg.mem_of (by kernel_rfl))
        obtain rfl : v37 = .pointer (some ⟨d, 0, none⟩) := r37
        obtain ⟨v39, e39, r39⟩ := hn 39 (Rg.mem_of (by kernel_rfl))
        obtain rfl : v39 = .string A := r39
        obtain ⟨v41, e41, r41⟩ := hn 41 (Rg.mem_of (by kernel_rfl))
        obtain rfl : v41 = .string B := r41
        refine .inl ⟨(Rg.wanted_none rfl), fun K hK => ?_⟩
        obtain ⟨Od', Oq', ha, h0, hdd, hqq, hc⟩ := hg
        have hdk : DK Od' w' d M S := by
          rcases hdd with ⟨_, hdk⟩ | ⟨C, S', e, _⟩
          · exact hdk
          · have e' := ((hd 42 rfl).symm.trans e)
            cases e'
        have HDK := Lib.hid hdk
        have HX := Lib.hid (And.intro ha (And.intro h0 (And.intro hqq hc)))
        clear hdk ha h0 hqq hc hdd hd hn
        go_simp
        refine (rename_any Od' d M S A B w' HDK.out HP.out.1 HP.out.2.1 HP.out.2.2.1 (by omega)).mono ?_
        rintro y w5 ⟨S', rfl, hop, hne, h0C⟩
        have hop := OpP.up hop (show M + 2 ≤ M + B.size + 2 by omega)
        exact hK _ _ (HX.out.1.kp.1 hop.2) (fun t ht => by injection ht with ht; subst ht; exact ⟨_, rfl⟩) (BG.dop HX.out.1 HX.out.2.1 HX.out.2.2.1 HX.out.2.2.2 ⟨hne, h0C⟩ hop (show (42 : Nat) ≠ 48 by decide) (show (42 : Nat) ≠ 0 by decide) (by rw [cx.size]; show (42 : Nat) < 76; decide))
      refine Rg.goodJ_cons ?_ ?_
      · intro ac w' cx hg hd hn
        have e1 := cx.at_ 1 (by kernel_rfl) rfl
        refine .inl ⟨(Rg.wanted_none rfl), fun K hK => ?_⟩
        go_simp
        exact hK _ _ ((fun w => Fr.refl _ w) _) (fun t ht => by injection ht with ht; subst ht; exact rfl) (hg.keep (Below.refl _ _) (show (43 : Nat) ≠ 42 by decide) (show (43 : Nat) ≠ 48 by decide) (show (43 : Nat) ≠ 0 by decide))
      refine Rg.goodJ_cons ?_ ?_
      · intro ac w' cx hg hd hn
        have e5 := cx.at_ 5 (by kernel_rfl) rfl
        refine .inl ⟨(Rg.wanted_none rfl), fun K hK => ?_⟩
        go_simp
        exact hK _ _ ((fun w => Fr.refl _ w) _) (fun t ht => by injection ht with ht; subst ht; exact rfl) (hg.keep (Below.refl _ _) (show (44 : Nat) ≠ 42 by decide) (show (44 : Nat) ≠ 48 by decide) (show (44 : Nat) ≠ 0 by decide))
      refine Rg.goodJ_cons ?_ ?_
      · intro ac w' cx hg hd hn
        obtain ⟨v44, e44, r44⟩ := hn 44 (Rg.mem_of (by kernel_rfl))
        obtain rfl : v44 = .pointer (some ⟨g5, 1, none⟩) := r44
        have hx := HC.out _ _ _ cx.bel x1
        refine .inl ⟨(Rg.wanted_none rfl), fun K hK => ?_⟩
        go_simp
        exact hK _ _ ((fun w => Fr.refl _ w) _) (fun t ht => by injection ht with ht; subst ht; exact rfl) (hg.keep (Below.refl _ _) (show (45 : Nat) ≠ 42 by decide) (show (45 : Nat) ≠ 48 by decide) (show (45 : Nat) ≠ 0 by decide))
      refine Rg.goodJ_cons ?_ ?_
      · intro ac w' cx hg hd hn
        have e5 := cx.at_ 5 (by kernel_rfl) rfl
        refine .inl ⟨(Rg.wanted_none rfl), fun K hK => ?_⟩
        go_simp
        exact hK _ _ ((fun w => Fr.refl _ w) _) (fun t ht => by injection ht with ht; subst ht; exact rfl) (hg.keep (Below.refl _ _) (show (46 : Nat) ≠ 42 by decide) (show (46 : Nat) ≠ 48 by decide) (show (46 : Nat) ≠ 0 by decide))
      refine Rg.goodJ_cons ?_ ?_
      · intro ac w' cx hg hd hn
        obtain ⟨v46, e46, r46⟩ := hn 46 (Rg.mem_of (by kernel_rfl))
        obtain rfl : v46 = .pointer (some ⟨g5, 2, none⟩) := r46
        have hx := HC.out _ _ _ cx.bel x2
        refine .inl ⟨(Rg.wanted_none rfl), fun K hK => ?_⟩
        go_simp
        exact hK _ _ ((fun w => Fr.refl _ w) _) (fun t ht => by injection ht with ht; subst ht; exact rfl) (hg.keep (Below.refl _ _) (show (47 : Nat) ≠ 42 by decide) (show (47 : Nat) ≠ 48 by decide) (show (47 : Nat) ≠ 0 by decide))
      refine Rg.goodJ_cons ?_ ?_
      · intro ac w' cx hg hd hn
        obtain ⟨v43, e43, r43⟩ := hn 43 (Rg.mem_of (by kernel_rfl))
        obtain rfl : v43 = .pointer (some ⟨q, 0, none⟩) := r43
        obtain ⟨v45, e45, r45⟩ := hn 45 (Rg.mem_of (by kernel_rfl))
        obtain rfl : v45 = .string A := r45
        obtain ⟨v47, e47, r47⟩ := hn 47 (Rg.mem_of (by kernel_rfl))
        obtain rfl : v47 = .string B := r47
        refine .inl ⟨(Rg.wanted_none rfl), fun K hK => ?_⟩
        obtain ⟨Od', Oq', ha, h0, hdd, hqq, hc⟩ := hg
        have hrd : RD Oq' w' q N Sq := by
          rcases hqq with ⟨_, hrd⟩ | ⟨z, S', e, _⟩
          · exact hrd
          · have e' := ((hd 48 rfl).symm.trans e)
            cases e'
        have HDK := Lib.hid hrd
        have HX := Lib.hid (And.intro ha (And.intro h0 (And.intro hdd hc)))
        clear hrd ha h0 hdd hc hqq hd hn
        go_simp
        refine (rrename_any Oq' q N Sq A B w' HDK.out HP.out.1 HP.out.2.1 (by omega)).mono ?_
        rintro y w5 ⟨z, rfl, hrp⟩
        have hrp := RP.up hrp (show _ ≤ N + B.size + 2 by omega)
        exact hK _ _ (HX.out.1.kp.2 hrp.choose_spec.2) (fun t ht => by injection ht with ht; subst ht; exact ⟨z, rfl⟩) (BG.qop HX.out.1 HX.out.2.1 HX.out.2.2.1 HX.out.2.2.2 hrp (show (48 : Nat) ≠ 42 by decide) (show (48 : Nat) ≠ 0 by decide) (by rw [cx.size]; show (48 : Nat) < 76; decide))
      exact Rg.goodJ_nil
    case done =>
      intro u w7 hF hr hG
      obtain ⟨C, hC⟩ : IntV (u 42) := hr 42 (by simp)
      obtain ⟨z, hz⟩ : IntV (u 48) := hr 48 (by simp)
      simp only [Rg.fillL_cons, Rg.fillL_nil, if_true, if_false, Bool.false_eq_true, hC, hz] at hG ⊢
      obtain ⟨Od', Oq', ha, h0, hdd, hqq, _⟩ := hG
      obtain ⟨S', hpo, hdk⟩ : ∃ S', (fun C S' => (C ≠ 0 → S' = stepS S) ∧ (C = 0 → ∃ nb, S' = giveS (delS (stepS S) A.data.toList) nb B.data.toList ((stepS S).now A.data.toList) ((stepS S).F ((stepS S).now A.data.toList)))) C S' ∧ DK Od' w7 d (M + B.size + 2) S' := by
        rcases hdd with ⟨e, _⟩ | ⟨C', S', e, hp, hdk⟩
        · have e' : some (Value.int .i64 C) = some undef := e
          cases e'
        · have e' : some (Value.int .i64 C) = some (Value.int .i64 C') := e
          injection e' with e'
          injection e' with _ e'
          subst e'
          exact ⟨S', hp, hdk⟩
      obtain ⟨Sq', hrd⟩ : ∃ Sq', RD Oq' w7 q (N + B.size + 2) Sq' := by
        rcases hqq with ⟨e, _⟩ | ⟨z', S2, e, hrd⟩
        · have e' : some (Value.int .i64 z) = some undef := e
          cases e'
        · exact ⟨S2, hrd⟩
      have HX := Lib.hid (HEND.out C z S' Od' Oq' Sq' w7 ha hdk hrd hF (by
        refine ⟨fun h => by omega, fun h => by omega, fun _ => hpo, fun h => by omega, fun h => by omega, fun h => by omega, fun h => by omega⟩))
      clear hF hr hC hz ha h0 hdd hqq hpo hdk hrd
      change wpList _ _ _ [_, _] _ _
      go_wp2_with fail
      go_ret2
      exact HX.out
  by_cases c3 : kd = 3
  · subst c3
    go_wp2_with fail
    clear hg5 hW1
    refine Rg.wp_region_invJ ((fun w => Fr (fun k => Od k ∨ Oq k) W1 w)) (Fr.of_below ((Below.refl _ _).drew)) (fun w w' => Fr (fun k => (Od k ∨ Oq k) ∨ W1.heap.size ≤ k) w w') (R := fun sl v w => match sl with
        | 51 => v = .pointer (some ⟨d, 0, none⟩)
        | 52 => v = .pointer (some ⟨g5, 1, none⟩)
        | 53 => v = .string A
        | 54 => IntV v
        | 55 => v = .pointer (some ⟨q, 0, none⟩)
        | 56 => v = .pointer (some ⟨g5, 1, none⟩)
        | 57 => v = .string A
        | 58 => IntV v
        | _ => True) (fun a w => BG ⟨W1.heap.size, Od, Oq, d, q, M, M + B.size + 2, N, N + B.size + 2, S, Sq, byN B, 54, 58, 0⟩ (fun _ S' => S' = remS (stepE S) (stepS S) A.data.toList) a w) 8 [51, 52, 53, 54, 55, 56, 57, 58] 76 [false, false, false, false, false, false, false, false, false, false, false, false, false, false, false, false, false, false, false, false, false, false, false, false, false, false, false, false, false, false, false, false, false, false, false, false, false, false, false, false, false, false, false, false, false, false, false, false, false, false, false, true, true, true, true, true, true, true, true, false, false, false, false, false, false, false, false, false, false, false, false, false, false, false, false, false] (by kernel_rfl) rfl (by kernel_rfl) (by kernel_rfl) (by kernel_rfl) (by kernel_rfl) (Nat.le_of_ble_eq_true (by kernel_rfl)) (by kernel_rfl) (by kernel_rfl) (fun w => Fr.refl _ w) (fun w w' h k => h.trans k (fun x hx => hx)) ?mono ?g0 ?good ?done
    case mono =>
      refine List.forall_mem_cons.2 ⟨fun _ _ _ _ _ h => h, ?_⟩
      refine List.forall_mem_cons.2 ⟨fun _ _ _ _ _ h => h, ?_⟩
      refine List.forall_mem_cons.2 ⟨fun _ _ _ _ _ h => h, ?_⟩
      refine List.forall_mem_cons.2 ⟨fun _ _ _ _ hb h => h, ?_⟩
      refine List.forall_mem_cons.2 ⟨fun _ _ _ _ _ h => h, ?_⟩
      refine List.forall_mem_cons.2 ⟨fun _ _ _ _ _ h => h, ?_⟩
      refine List.forall_mem_cons.2 ⟨fun _ _ _ _ _ h => h, ?_⟩
      refine List.forall_mem_cons.2 ⟨fun _ _ _ _ hb h => h, ?_⟩
      exact fun _ h => absurd h (by simp)
    case g0 => exact ⟨Od, Oq, HAP.out, Nat.le_refl _, .inl ⟨rfl, HD.out.below ((Below.refl _ _).drew)⟩, .inl ⟨rfl, HQ.out.below ((Below.refl _ _).drew)⟩, fun Bv m c e => absurd (show some _ = some _ from e) (by intro h; cases h)⟩
    case good =>
      refine Rg.goodJ_cons ?_ ?_
      · intro ac w' cx hg hd hn
        have e0 := cx.at_ 0 (by kernel_rfl) rfl
        refine .inl ⟨(Rg.wanted_none rfl), fun K hK => ?_⟩
        go_simp
        exact hK _ _ ((fun w => Fr.refl _ w) _) (fun t ht => by injection ht with ht; subst ht; exact rfl) (hg.keep (Below.refl _ _) (show (51 : Nat) ≠ 54 by decide) (show (51 : Nat) ≠ 58 by decide) (show (51 : Nat) ≠ 0 by decide))
      refine Rg.goodJ_cons ?_ ?_
      · intro ac w' cx hg hd hn
        have e5 := cx.at_ 5 (by kernel_rfl) rfl
        refine .inl ⟨(Rg.wanted_none rfl), fun K hK => ?_⟩
        go_simp
        exact hK _ _ ((fun w => Fr.refl _ w) _) (fun t ht => by injection ht with ht; subst ht; exact rfl) (hg.keep (Below.refl _ _) (show (52 : Nat) ≠ 54 by decide) (show (52 : Nat) ≠ 58 by decide) (show (52 : Nat) ≠ 0 by decide))
      refine Rg.goodJ_cons ?_ ?_
      · intro ac w' cx hg hd hn
        obtain ⟨v52, e52, r52⟩ := hn 52 (Rg.mem_of (by kernel_rfl))
        obtain rfl : v52 = .pointer (some ⟨g5, 1, none⟩) := r52
        have hx := HC.out _ _ _ cx.bel x1
        refine .inl ⟨(Rg.wanted_none rfl), fun K hK => ?_⟩
        go_simp
        exact hK _ _ ((fun w => Fr.refl _ w) _) (fun t ht => by injection ht with ht; subst ht; exact rfl) (hg.keep (Below.refl _ _) (show (53 : Nat) ≠ 54 by decide) (show (53 : Nat) ≠ 58 by decide) (show (53 : Nat) ≠ 0 by decide))
      refine Rg.goodJ_cons ?_ ?_
      · intro ac w' cx hg hd hn
        obtain ⟨v51, e51, r51⟩ := hn 51 (Rg.mem_of (by kernel_rfl))
        obtain rfl : v51 = .pointer (some ⟨d, 0, none⟩) := r51
        obtain ⟨v53, e53, r53⟩ := hn 53 (Rg.mem_of (by kernel_rfl))
        obtain rfl : v53 = .string A := r53
        refine .inl ⟨(Rg.wanted_none rfl), fun K hK => ?_⟩
        obtain ⟨Od', Oq', ha, h0, hdd, hqq, hc⟩ := hg
        have hdk : DK Od' w' d M S := by
          rcases hdd with ⟨_, hdk⟩ | ⟨C, S', e, _⟩
          · exact hdk
          · have e' := ((hd 54 rfl).symm.trans e)
            cases e'
        have HDK := Lib.hid hdk
        have HX := Lib.hid (And.intro ha (And.intro h0 (And.intro hqq hc)))
        clear hdk ha h0 hqq hc hdd hd hn
        go_simp
        refine (remove_any Od' d M S A w' HDK.out HP.out.1 HP.out.2.2.1).mono ?_
        rintro y w5 ⟨rfl, hop⟩
        have hop := OpP.up hop (show M + 1 ≤ M + B.size + 2 by omega)
        exact hK _ _ (HX.out.1.kp.1 hop.2) (fun t ht => by injection ht with ht; subst ht; exact ⟨_, rfl⟩) (BG.dop HX.out.1 HX.out.2.1 HX.out.2.2.1 HX.out.2.2.2 rfl hop (show (54 : Nat) ≠ 58 by decide) (show (54 : Nat) ≠ 0 by decide) (by rw [cx.size]; show (54 : Nat) < 76; decide))
      refine Rg.goodJ_cons ?_ ?_
      · intro ac w' cx hg hd hn
        have e1 := cx.at_ 1 (by kernel_rfl) rfl
        refine .inl ⟨(Rg.wanted_none rfl), fun K hK => ?_⟩
        go_simp
        exact hK _ _ ((fun w => Fr.refl _ w) _) (fun t ht => by injection ht with ht; subst ht; exact rfl) (hg.keep (Below.refl _ _) (show (55 : Nat) ≠ 54 by decide) (show (55 : Nat) ≠ 58 by decide) (show (55 : Nat) ≠ 0 by decide))
      refine Rg.goodJ_cons ?_ ?_
      · intro ac w' cx hg hd hn
        have e5 := cx.at_ 5 (by kernel_rfl) rfl
        refine .inl ⟨(Rg.wanted_none rfl), fun K hK => ?_⟩
        go_simp
        exact hK _ _ ((fun w => Fr.refl _ w) _) (fun t ht => by injection ht with ht; subst ht; exact rfl) (hg.keep (Below.refl _ _) (show (56 : Nat) ≠ 54 by decide) (show (56 : Nat) ≠ 58 by decide) (show (56 : Nat) ≠ 0 by decide))
      refine Rg.goodJ_cons ?_ ?_
      · intro ac w' cx hg hd hn
        obtain ⟨v56, e56, r56⟩ := hn 56 (Rg.mem_of (by kernel_rfl))
        obtain rfl : v56 = .pointer (some ⟨g5, 1, none⟩) := r56
        have hx := HC.out _ _ _ cx.bel x1
        refine .inl ⟨(Rg.wanted_none rfl), fun K hK => ?_⟩
        go_simp
        exact hK _ _ ((fun w => Fr.refl _ w) _) (fun t ht => by injection ht with ht; subst ht; exact rfl) (hg.keep (Below.refl _ _) (show (57 : Nat) ≠ 54 by decide) (show (57 : Nat) ≠ 58 by decide) (show (57 : Nat) ≠ 0 by decide))
      refine Rg.goodJ_cons ?_ ?_
      · intro ac w' cx hg hd hn
        obtain ⟨v55, e55, r55⟩ := hn 55 (Rg.mem_of (by kernel_rfl))
        obtain rfl : v55 = .pointer (some ⟨q, 0, none⟩) := r55
        obtain ⟨v57, e57, r57⟩ := hn 57 (Rg.mem_of (by kernel_rfl))
        obtain rfl : v57 = .string A := r57
        refine .inl ⟨(Rg.wanted_none rfl), fun K hK => ?_⟩
        obtain ⟨Od', Oq', ha, h0, hdd, hqq, hc⟩ := hg
        have hrd : RD Oq' w' q N Sq := by
          rcases hqq with ⟨_, hrd⟩ | ⟨z, S', e, _⟩
          · exact hrd
          · have e' := ((hd 58 rfl).symm.trans e)
            cases e'
        have HDK := Lib.hid hrd
        have HX := Lib.hid (And.intro ha (And.intro h0 (And.intro hdd hc)))
        clear hrd ha h0 hdd hc hqq hd hn
        go_simp
        refine (rremove_any Oq' q N Sq A w' HDK.out HP.out.1 (by omega)).mono ?_
        rintro y w5 ⟨z, rfl, hrp⟩
        have hrp := RP.up hrp (show _ ≤ N + B.size + 2 by omega)
        exact hK _ _ (HX.out.1.kp.2 hrp.choose_spec.2) (fun t ht => by injection ht with ht; subst ht; exact ⟨z, rfl⟩) (BG.qop HX.out.1 HX.out.2.1 HX.out.2.2.1 HX.out.2.2.2 hrp (show (58 : Nat) ≠ 54 by decide) (show (58 : Nat) ≠ 0 by decide) (by rw [cx.size]; show (58 : Nat) < 76; decide))
      exact Rg.goodJ_nil
    case done =>
      intro u w7 hF hr hG
      obtain ⟨C, hC⟩ : IntV (u 54) := hr 54 (by simp)
      obtain ⟨z, hz⟩ : IntV (u 58) := hr 58 (by simp)
      simp only [Rg.fillL_cons, Rg.fillL_nil, if_true, if_false, Bool.false_eq_true, hC, hz] at hG ⊢
      obtain ⟨Od', Oq', ha, h0, hdd, hqq, _⟩ := hG
      obtain ⟨S', hpo, hdk⟩ : ∃ S', (fun _ S' => S' = remS (stepE S) (stepS S) A.data.toList) C S' ∧ DK Od' w7 d (M + B.size + 2) S' := by
        rcases hdd with ⟨e, _⟩ | ⟨C', S', e, hp, hdk⟩
        · have e' : some (Value.int .i64 C) = some undef := e
          cases e'
        · have e' : some (Value.int .i64 C) = some (Value.int .i64 C') := e
          injection e' with e'
          injection e' with _ e'
          subst e'
          exact ⟨S', hp, hdk⟩
      obtain ⟨Sq', hrd⟩ : ∃ Sq', RD Oq' w7 q (N + B.size + 2) Sq' := by
        rcases hqq with ⟨e, _⟩ | ⟨z', S2, e, hrd⟩
        · have e' : some (Value.int .i64 z) = some undef := e
          cases e'
        · exact ⟨S2, hrd⟩
      have HX := Lib.hid (HEND.out C z S' Od' Oq' Sq' w7 ha hdk hrd hF (by
        refine ⟨fun h => by omega, fun h => by omega, fun h => by omega, fun _ => hpo, fun h => by omega, fun h => by omega, fun h => by omega⟩))
      clear hF hr hC hz ha h0 hdd hqq hpo hdk hrd
      change wpList _ _ _ [_, _] _ _
      go_wp2_with fail
      go_ret2
      exact HX.out
  by_cases c4 : kd = 4
  · subst c4
    have HSN := Lib.hid (syncnames_any Od d M S W1 HD.out HP.out.2.2.1)
    go_wp2_with fail
    refine HSN.out.mono ?_
    rintro e w2 ⟨rfl, hz1, hz2⟩
    obtain ⟨S', hS', hop⟩ : ∃ S', (S' = stepS S ∨ ∃ sb, S' = { stepS S with sb := sb, sure := (stepS S).now }) ∧ OpP Od W1 d M S' w2 := by
      by_cases hE : stepE S = 0
      · obtain ⟨sb, h⟩ := hz2 hE
        exact ⟨_, .inr ⟨sb, rfl⟩, h⟩
      · exact ⟨_, .inl rfl, hz1 hE⟩
    have HO := Lib.hid (And.intro hS' hop)
    have HRS := Lib.hid (rsyncnames_any Oq q N Sq w2 (HQ.out.past HAP.out hop.2) (by omega))
    obtain ⟨E, hE⟩ : ∃ E, stepE S = E := ⟨_, rfl⟩
    rw [hE]
    clear hz1 hz2 hop hS' HSN hE
    go_wp2_with fail
    refine HRS.out.mono ?_
    rintro e w3 ⟨z, rfl, hrp⟩
    obtain ⟨Od', Oq', Sq', k1, k2, k3, k4⟩ := seq_both HAP.out HD.out.bound HQ.out (OpP.up HO.out.2 (show M ≤ M + B.size + 2 by omega)) (RP.up hrp (show N ≤ N + B.size + 2 by omega))
    have HX := Lib.hid (HEND.out E z S' Od' Oq' Sq' w3 k1 k2 k3 k4 ⟨fun h => by omega, fun h => by omega, fun h => by omega, fun h => by omega, fun _ => HO.out.1, fun h => by omega, fun h => by omega⟩)
    clear hrp k1 k2 k3 k4
    go_wp2_with fail
    go_ret2
    exact HX.out
  by_cases c5 : kd = 5
  · subst c5
    have HF := Lib.hid (fuse_any Od d M S nn W1 HD.out)
    go_wp2_with fail
    refine HF.out.mono ?_
    rintro e w2 ⟨rfl, hd2, hf2⟩
    have hq2 := HQ.out.past HAP.out hf2
    have hfz := hq2.cells.2 4
    have y3 := HC.out w2 3 _ (hf2.sub (fun k hk => .inl hk)) x3
    have hc4 := hq2.cells.1.2.2.2.2.1
    have hrp : RP Oq w2 q N (w2.setCell ⟨q, 4, none⟩ (.int .i64 nn)) := RP.of (hq2.turn Sq.room nn Sq.steps Sq.down (by simp) (fun k hk => Below.heap_setCell _ _ _ _ hk) (heap_set_at hq2.box _)) (hq2.fr 4 _) (Nat.le_refl _)
    have hop : OpP Od W1 d M { S with fuse := nn } w2 := OpP.of hd2 hf2 (Nat.le_refl _)
    obtain ⟨Od', Oq', Sq', k1, k2, k3, k4⟩ := seq_both HAP.out HD.out.bound HQ.out (OpP.up hop (show M ≤ M + B.size + 2 by omega)) (RP.up hrp (show N ≤ N + B.size + 2 by omega))
    have HX := Lib.hid (HEND.out 0 0 _ Od' Oq' Sq' _ k1 k2 k3 k4 ⟨fun h => by omega, fun h => by omega, fun h => by omega, fun h => by omega, fun h => by omega, fun _ => rfl, fun h => by omega⟩)
    clear hd2 hf2 hq2 hrp hop k1 k2 k3 k4 HF
    go_wp2_with fail
    go_ret2
    exact HX.out
  have b0 : (kd == 0) = false := by simpa using c0
  have b1 : (kd == 1) = false := by simpa using c1
  have b2 : (kd == 2) = false := by simpa using c2
  have b3 : (kd == 3) = false := by simpa using c3
  have b4 : (kd == 4) = false := by simpa using c4
  have b5 : (kd == 5) = false := by simpa using c5
  have HX := Lib.hid (HEND.out 0 0 S Od Oq Sq W1 HAP.out (HD.out.mono (fun _ h => h) HD.out.bound (by omega)) (HQ.out.mono (fun _ h => h) HQ.out.bound (by omega)) (Fr.refl _ _) ⟨fun h => absurd h c0, fun h => absurd h c1, fun h => absurd h c2, fun h => absurd h c3, fun h => absurd h c4, fun h => absurd h c5, fun _ => rfl⟩)
  clear c0 c1 c2 c3 c4 c5
  go_wp2_with fail
  go_ret2
  exact HX.out
end Go.Proofs.Ytamhgbkdljggbaa.Dk
