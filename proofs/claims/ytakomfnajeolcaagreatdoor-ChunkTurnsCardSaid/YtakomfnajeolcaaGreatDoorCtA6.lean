import Derived.Test.YtakomfnajeolcaaGreatDoorCtA5
set_option linter.unusedVariables false
/- What span.Take's memory holds, step by step. -/
namespace Go.Proofs.YtakomfnajeolcaaGreatDoor.Tk
open Go.RowKit
set_option linter.unusedVariables false

theorem own_abide {w w' : World} {B : Nat} {e : TypeId} {size n : Nat} {v : Value} {xs : List Value} (h : w.ownsRow B e size v n xs) (hb : ∀ k, v.ownBlock = some k → w'.heap[k]? = w.heap[k]?) : w'.ownsRow B e size v n xs := by
  rcases h.2 with h1 | ⟨g, cap, cur, hv, hB, hh, r⟩
  · exact ⟨h.1, .inl h1⟩
  · exact ⟨h.1, .inr ⟨g, cap, cur, hv, hB, (hb g (by rw [hv]; rfl)).trans hh, r⟩⟩
theorem Rd.elsewhere {w w' : World} {B q l c : Nat} {a : Option Addr} {bs : List Nat} {s : Nat × Int} (h : Rd w q a l c bs s) (hlt : 0 < l → ∀ r o, a = some ⟨r, o, none⟩ → r < B) (hq : q < B) (hb : Below B w w') : Rd w' q a l c bs s := by
  have hc : ∀ (r j : Nat), r < B → w'.cell? ⟨r, j, none⟩ = w.cell? ⟨r, j, none⟩ := fun r j hr => hb.cell (p := ⟨r, j, none⟩) hr
  have hf : ∀ (r j : Nat), r < B → w'.frozen? ⟨r, j, none⟩ = w.frozen? ⟨r, j, none⟩ := fun r j hr => by unfold World.frozen?; rw [hb.block r hr]
  refine ⟨Nat.lt_of_lt_of_le h.qw hb.size, (hc _ _ hq).trans h.c0, (hc _ _ hq).trans h.c1, (hc _ _ hq).trans h.c2, (hf _ _ hq).trans h.f1, (hf _ _ hq).trans h.f2, h.len, h.byte, fun h0 => ?_, h.tl, h.lb⟩
  obtain ⟨r, o, e, hr, hcc⟩ := h.lies h0
  exact ⟨r, o, e, hr, fun j b hj => (hc _ _ (hlt h0 r o e)).trans (hcc j b hj)⟩
theorem Step.more {q : Nat} {w wr wr' : World} (h : Step q none w wr) (hb : Below w.heap.size wr wr') : Step q none w wr' :=
  ⟨hb.os.trans h.os, hb.tape.trans h.tape, hb.output.trans h.output, Nat.le_trans h.size hb.size, fun k hk hq hn => (hb.block k hk).trans (h.block k hk hq hn)⟩

/-- between two rounds -/
structure LSt (w wr : World) (q : Nat) (a : Option Addr) (l c : Nat) (bs : List Nat) (s : Nat × Int) (f : Int) (A : Option Addr) (d : Nat) (L : List (Int × Int)) : Prop where
  rd : Rd wr q a l c bs s
  box : wr.heap[w.heap.size + 1]? = some (.cells #[.int .i64 f, .slice A L.length d] 52 (0, 0))
  own : wr.ownsRow (w.heap.size + 2) 130 2 (.slice A L.length d) L.length (twoC .i64 L)
  res : wr.heap[w.heap.size]? = some (.cells #[.int .i64 0, .slice none 0 0] 52 (0, 0))
  step : Step q none w wr
  qlt : q < w.heap.size
  src : 0 < l → ∀ r o, a = some ⟨r, o, none⟩ → r < w.heap.size
/-- within a round: the run under way at gS -/
structure TSt (w wr : World) (gS q : Nat) (a : Option Addr) (l c : Nat) (bs : List Nat) (s : Nat × Int) (f : Int) (A : Option Addr) (d : Nat) (L : List (Int × Int)) (o n : Int) : Prop where
  rest : LSt w wr q a l c bs s f A d L
  sbox : wr.heap[gS]? = some (.cells #[.int .i64 o, .int .i64 n] 130 (0, 0))
  ks : ∀ k, (Value.slice A L.length d).ownBlock = some k → k < gS
  gs : w.heap.size + 2 ≤ gS

section
variable {w wr : World} {gS q : Nat} {a : Option Addr} {l c : Nat} {bs : List Nat} {s : Nat × Int} {f : Int} {A : Option Addr} {d : Nat} {L : List (Int × Int)} {o n : Int}
theorem LSt.begin (h : LSt w wr q a l c bs s f A d L) : TSt w (wr.alloc (.cells #[.int .i64 0, .int .i64 0] 130)) wr.heap.size q a l c bs s f A d L 0 0 := by
  have hlt : w.heap.size + 1 < wr.heap.size := (Array.getElem?_eq_some_iff.1 h.box).1
  have hb : Below w.heap.size wr (wr.alloc (.cells #[.int .i64 0, .int .i64 0] 130)) := (Below.refl _ _).alloc (by omega) _
  refine ⟨⟨h.rd.elsewhere h.src h.qlt hb, ?_, h.own.alloc _, ?_, h.step.more hb, h.qlt, h.src⟩, heap_alloc_new _ _, fun k hk => (h.own.lt k hk).2, by omega⟩
  · rw [Below.heap_alloc _ _ _ hlt]; exact h.box
  · rw [Below.heap_alloc _ _ _ (by omega)]; exact h.res
theorem TSt.lt (h : TSt w wr gS q a l c bs s f A d L o n) : gS < wr.heap.size ∧ w.heap.size + 2 ≤ gS := ⟨(Array.getElem?_eq_some_iff.1 h.sbox).1, h.gs⟩
/-- a reader's call -/
theorem TSt.call (h : TSt w wr gS q a l c bs s f A d L o n) {wr' : World} {s' : Nat × Int} (hr : Rd wr' q a l c bs s') (st : Step q none wr wr') : TSt w wr' gS q a l c bs s' f A d L o n := by
  obtain ⟨h1, h2⟩ := h.lt
  have hq := h.rest.qlt
  have hb : ∀ k, w.heap.size ≤ k → k < wr.heap.size → wr'.heap[k]? = wr.heap[k]? := fun k hk hl => st.block k hl (by omega) (by simp)
  refine ⟨⟨hr, ?_, ?_, ?_, h.rest.step.trans0 st, hq, h.rest.src⟩, ?_, h.ks, h.gs⟩
  · rw [hb _ (by omega) (by omega)]; exact h.rest.box
  · exact own_abide h.rest.own fun k hk => hb k (by have := (h.rest.own.lt k hk).1; omega) (h.rest.own.lt k hk).2
  · rw [hb _ (by omega) (by omega)]; exact h.rest.res
  · rw [hb _ (by omega) (by omega)]; exact h.sbox
theorem TSt.putF (h : TSt w wr gS q a l c bs s f A d L o n) (x : Int) : TSt w (wr.setCell ⟨w.heap.size + 1, 0, none⟩ (.int .i64 x)) gS q a l c bs s x A d L o n := by
  obtain ⟨h1, h2⟩ := h.lt
  have hb : Below w.heap.size wr (wr.setCell ⟨w.heap.size + 1, 0, none⟩ (.int .i64 x)) := (Below.refl _ _).setCell (by simp) _
  refine ⟨⟨h.rest.rd.elsewhere h.rest.src h.rest.qlt hb, ?_, ?_, ?_, h.rest.step.more hb, h.rest.qlt, h.rest.src⟩, ?_, h.ks, h.gs⟩
  · rw [heap_set_at h.rest.box]; rfl
  · exact ownsRow_setCell_below h.rest.own (a := ⟨w.heap.size + 1, 0, none⟩) (by simp) _
  · rw [Below.heap_setCell _ _ _ _ (by simp)]; exact h.rest.res
  · rw [Below.heap_setCell _ _ _ _ (by simp; omega)]; exact h.sbox
theorem TSt.put (h : TSt w wr gS q a l c bs s f A d L o n) (i : Nat) (x o' n' : Int) (hx : (#[Value.int .i64 o, .int .i64 n] : Array Value).setIfInBounds i (.int .i64 x) = #[.int .i64 o', .int .i64 n']) : TSt w (wr.setCell ⟨gS, i, none⟩ (.int .i64 x)) gS q a l c bs s f A d L o' n' := by
  obtain ⟨h1, h2⟩ := h.lt
  have hb : Below w.heap.size wr (wr.setCell ⟨gS, i, none⟩ (.int .i64 x)) := (Below.refl _ _).setCell (by simp; omega) _
  refine ⟨⟨h.rest.rd.elsewhere h.rest.src h.rest.qlt hb, ?_, ?_, ?_, h.rest.step.more hb, h.rest.qlt, h.rest.src⟩, ?_, h.ks, h.gs⟩
  · rw [Below.heap_setCell _ _ _ _ (by simp; omega)]; exact h.rest.box
  · exact own_abide h.rest.own fun k hk => Below.heap_setCell _ _ _ _ (by have := h.ks k hk; simp; omega)
  · rw [Below.heap_setCell _ _ _ _ (by simp; omega)]; exact h.rest.res
  · rw [heap_set_at h.sbox, hx]
theorem TSt.next {w2 : World} {A2 : Option Addr} {d2 : Nat} {ob : Obj} (h : TSt w wr gS q a l c bs s f A d L o n)
    (ho : w2.ownsRow (w.heap.size + 2) 130 2 (.slice A2 (L.length + 1) d2) (L.length + 1) (twoC .i64 (L ++ [(o, n)]))) (hg : (wr.alloc ob).grownBy w2 (Value.slice A L.length d).ownBlock) :
    LSt w (w2.setCell ⟨w.heap.size + 1, 1, none⟩ (.slice A2 (L.length + 1) d2)) q a l c bs s f A2 d2 (L ++ [(o, n)]) := by
  obtain ⟨h1, h2⟩ := h.lt
  have hrow : ∀ k, (Value.slice A L.length d).ownBlock = some k → w.heap.size + 2 ≤ k := fun k hk => (h.rest.own.lt k hk).1
  have e1 : ∀ j, j ≤ w.heap.size + 1 → w2.heap[j]? = wr.heap[j]? := fun j hj => by
    rw [hg.block j (by simp; omega) (fun e => by have := hrow j e.symm; omega), Below.heap_alloc _ _ _ (by omega)]
  have hb : Below w.heap.size wr (w2.setCell ⟨w.heap.size + 1, 1, none⟩ (.slice A2 (L.length + 1) d2)) :=
    ((((Below.refl _ _).alloc (by omega) ob).grown hg (by simp; omega) (fun k hk => by have := hrow k hk; omega))).setCell (by simp) _
  have hlen : (L ++ [(o, n)]).length = L.length + 1 := by simp
  refine ⟨h.rest.rd.elsewhere h.rest.src h.rest.qlt hb, ?_, ?_, ?_, h.rest.step.more hb, h.rest.qlt, h.rest.src⟩
  · rw [heap_set_at ((e1 _ (Nat.le_refl _)).trans h.rest.box), hlen]; rfl
  · rw [hlen]; exact ownsRow_setCell_below ho (a := ⟨w.heap.size + 1, 1, none⟩) (by simp) _
  · rw [Below.heap_setCell _ _ _ _ (by simp), e1 _ (by omega)]; exact h.rest.res
end

/-- the text so far -/
def TxT (bs : List Nat) (n : Nat) (f : Int) (L : List (Int × Int)) (u : Nat) : Prop := sub bs 0 u = codeL n ++ (if L = [] then [] else codeL (zigv f).toNat ++ restL 0 L)
theorem zag_code (m : Nat) : (zigv (zagv (m : Int))).toNat = m := by rw [zig_zag _ (by omega)]; omega
theorem TxT.first {bs : List Nat} {n u u1 u2 m v : Nat} {f : Int} (h : TxT bs n f [] u) (h1 : u ≤ u1) (h2 : u1 ≤ u2) (e1 : sub bs u u1 = codeL m) (e2 : sub bs u1 u2 = codeL v) : TxT bs n (zagv (m : Int)) [(0, (v : Int) + 1)] u2 := by
  unfold TxT at h ⊢
  rw [if_pos rfl, List.append_nil] at h
  rw [if_neg (by simp), sub_append bs (Nat.zero_le u) (Nat.le_trans h1 h2), h, sub_append bs h1 h2, e1, e2, zag_code]
  simp only [restL, Nat.lt_irrefl, if_false, List.nil_append, List.append_nil]
  rw [show ((v : Int) + 1 - 1).toNat = v by omega]
theorem TxT.more {bs : List Nat} {n u u1 u2 x v : Nat} {f : Int} {L : List (Int × Int)} (h : TxT bs n f L u) (hL : L ≠ []) (h1 : u ≤ u1) (h2 : u1 ≤ u2) (e1 : sub bs u u1 = codeL x) (e2 : sub bs u1 u2 = codeL v) : TxT bs n f (L ++ [((x : Int) + 1, (v : Int) + 1)]) u2 := by
  unfold TxT at h ⊢
  rw [if_neg hL] at h
  have hlen : 0 < L.length := List.length_pos_iff.2 hL
  rw [if_neg (by simp), sub_append bs (Nat.zero_le u) (Nat.le_trans h1 h2), h, sub_append bs h1 h2, e1, e2, restL_snoc, Nat.zero_add, if_pos hlen]
  rw [show ((v : Int) + 1 - 1).toNat = v by omega, show ((x : Int) + 1 - 1).toNat = x by omega]
  simp only [List.append_assoc]
end Go.Proofs.YtakomfnajeolcaaGreatDoor.Tk


/- The contract of span.Take: of any bytes only a layout that is right, or none; and its bits are what was read. -/
namespace Go.Proofs.YtakomfnajeolcaaGreatDoor.Tk
open Go.RowKit Go.Sort
set_option linter.unusedVariables false

theorem small_at (m : Nat) (mi : Int) (hmi : mi = (m : Int)) (q l c : Nat) (a : Option Addr) (bs : List Nat) (s : Nat × Int) (w : World) (h : Rd w q a l c bs s) (hT : Tab w) (hq : q ≠ 0) (hm : m ≤ 1000000) :
    Calls Tryz.prog 64 #[.pointer (some ⟨q, 0, none⟩), .int .i64 mi] w (TakePost q a l c bs (.int .i64 (((smallF bs m s).1 : Nat) : Int)) (smallF bs m s).2 w) := by
  subst hmi
  exact small_any m q l c a bs s w h hT hq (by omega)
theorem sb_snoc {L : List (Int × Int)} {o n : Int} (h : Sb L) (ho : I64 o) (hn : I64 n) : Sb (L ++ [(o, n)]) := by
  intro p hp
  rcases List.mem_append.1 hp with hp | hp
  · exact h p hp
  · simp at hp; subst hp; exact ⟨ho, hn⟩
end Go.Proofs.YtakomfnajeolcaaGreatDoor.Tk


/- Plain arithmetic for the seat's contracts on bits: bytes as one number, a bit laid behind others. Nothing of the program stands here. -/
namespace Go.Proofs.YtakomfnajeolcaaGreatDoor.Bw

/-- bytes as one number, the first the highest -/
def val (bs : List Nat) : Nat := bs.foldl (fun a b => a * 256 + b) 0
theorem val_snoc (bs : List Nat) (b : Nat) : val (bs ++ [b]) = val bs * 256 + b := by
  unfold val
  rw [List.foldl_append]
  rfl
/-- n bits, as the number V, lie in these bytes, with noughts at the end -/
def Laid (bs : List Nat) (n V : Nat) : Prop :=
  bs.length = (n + 7) / 8 ∧ (∀ b ∈ bs, b < 256) ∧ val bs = V * 2 ^ (8 * bs.length - n) ∧ V < 2 ^ n

theorem Laid.none_ : Laid [] 0 0 := ⟨rfl, by simp, rfl, by decide⟩

/-- a new byte, where all bytes are full -/
theorem Laid.push {bs : List Nat} {n V : Nat} (h : Laid bs n V) (h8 : n % 8 = 0) :
    8 * bs.length = n ∧ val (bs ++ [0]) = V * 2 ^ 8 := by
  obtain ⟨h1, _, h3, _⟩ := h
  have e : 8 * bs.length = n := by omega
  refine ⟨e, ?_⟩
  rw [val_snoc, h3, show 8 * bs.length - n = 0 by omega]
  omega

theorem mod_two_pow_mul {a k : Nat} (hk : k ≤ 8) : (a * 256) % 2 ^ k = 0 := by
  have : 2 ^ k ∣ 256 := by
    have : (256 : Nat) = 2 ^ 8 := rfl
    rw [this]; exact Nat.pow_dvd_pow 2 hk
  exact Nat.mod_eq_zero_of_dvd (Nat.dvd_trans this (Nat.dvd_mul_left _ _))

/-- the bit's own place is free, and it is laid by 'or' -/
theorem lay_byte {cs : List Nat} {b V k x : Nat} (hk : k < 8) (hb : b < 256) (hv : val (cs ++ [b]) = V * 2 ^ (k + 1)) (hx : x < 2) :
    (b ||| x * 2 ^ k) = b + x * 2 ^ k ∧ b + x * 2 ^ k < 256 ∧ val (cs ++ [b + x * 2 ^ k]) = (V * 2 + x) * 2 ^ k := by
  rw [val_snoc] at hv
  have hp : 2 ^ (k + 1) = 2 ^ k * 2 := Nat.pow_succ 2 k
  have m1 : b % 2 ^ (k + 1) = 0 := by
    have h1 : (val cs * 256 + b) % 2 ^ (k + 1) = 0 := by rw [hv]; exact Nat.mul_mod_left _ _
    have h2 := mod_two_pow_mul (a := val cs) (k := k + 1) (by omega)
    rw [Nat.add_mod, h2, Nat.zero_add, Nat.mod_mod] at h1
    exact h1
  have hpos : 0 < 2 ^ k := Nat.two_pow_pos k
  have hlt : x * 2 ^ k < 2 ^ (k + 1) := by
    rw [hp]
    have : x * 2 ^ k ≤ 1 * 2 ^ k := Nat.mul_le_mul_right _ (by omega)
    omega
  refine ⟨nat_join (k + 1) b _ m1 hlt, ?_, ?_⟩
  · have hd : b / 2 ^ (k + 1) * 2 ^ (k + 1) = b := by have := Nat.div_add_mod b (2 ^ (k + 1)); rw [Nat.mul_comm] at this; omega
    have h256 : (256 : Nat) = 2 ^ (7 - k) * 2 ^ (k + 1) := by rw [← Nat.pow_add, show 7 - k + (k + 1) = 8 by omega]
    have hq : b / 2 ^ (k + 1) < 2 ^ (7 - k) := by
      rw [Nat.div_lt_iff_lt_mul (Nat.two_pow_pos _), ← h256]; exact hb
    have h3 : (b / 2 ^ (k + 1) + 1) * 2 ^ (k + 1) ≤ 2 ^ (7 - k) * 2 ^ (k + 1) := Nat.mul_le_mul_right _ hq
    rw [Nat.add_mul, Nat.one_mul, hd, ← h256] at h3
    omega
  · have ex : (V * 2 + x) * 2 ^ k = V * 2 ^ (k + 1) + x * 2 ^ k := by rw [Nat.add_mul, Nat.mul_assoc, Nat.mul_comm 2, ← hp]
    rw [val_snoc, ex, ← hv]
    omega

theorem pad_of {bs : List Nat} {n V : Nat} (h : Laid bs n V) (h8 : ¬ n % 8 = 0) : 8 * bs.length - n = 7 - n % 8 + 1 := by
  have := h.1; omega

/-- one bit more, in the last byte -/
theorem Laid.same {cs : List Nat} {b n V x : Nat} (h : Laid (cs ++ [b]) n V) (h8 : ¬ n % 8 = 0) (hx : x < 2) :
    cs.length = n / 8 ∧ b < 256 ∧ (b ||| x * 2 ^ (7 - n % 8)) = b + x * 2 ^ (7 - n % 8) ∧ b + x * 2 ^ (7 - n % 8) < 256 ∧ Laid (cs ++ [b + x * 2 ^ (7 - n % 8)]) (n + 1) (V * 2 + x) := by
  have hpad := pad_of h h8
  obtain ⟨h1, h2, h3, h4⟩ := h
  have hb : b < 256 := h2 b (by simp)
  rw [hpad] at h3
  obtain ⟨k1, k2, k3⟩ := lay_byte (k := 7 - n % 8) (by omega) hb h3 hx
  have hl : (cs ++ [b]).length = cs.length + 1 := by simp
  rw [hl] at h1
  refine ⟨by omega, hb, k1, k2, by simp; omega, ?_, ?_, ?_⟩
  · intro c hc
    rcases List.mem_append.mp hc with hc | hc
    · exact h2 c (List.mem_append.mpr (.inl hc))
    · rw [List.mem_singleton.mp hc]; exact k2
  · rw [k3]
    congr 2
    simp; omega
  · rw [Nat.pow_succ]; omega
/-- one bit more, in a new byte -/
theorem Laid.fresh {bs : List Nat} {n V x : Nat} (h : Laid bs n V) (h8 : n % 8 = 0) (hx : x < 2) :
    bs.length = n / 8 ∧ (0 ||| x * 2 ^ 7) = x * 2 ^ 7 ∧ x * 2 ^ 7 < 256 ∧ Laid (bs ++ [x * 2 ^ 7]) (n + 1) (V * 2 + x) := by
  obtain ⟨e, hv⟩ := h.push h8
  obtain ⟨h1, h2, h3, h4⟩ := h
  obtain ⟨k1, k2, k3⟩ := lay_byte (k := 7) (by omega) (by omega : 0 < 256) hv hx
  rw [Nat.zero_add] at k1 k2 k3
  refine ⟨by omega, k1, k2, by simp; omega, ?_, ?_, ?_⟩
  · intro c hc
    rcases List.mem_append.mp hc with hc | hc
    · exact h2 c hc
    · rw [List.mem_singleton.mp hc]; exact k2
  · rw [k3]
    congr 2
    simp; omega
  · rw [Nat.pow_succ]; omega
end Go.Proofs.YtakomfnajeolcaaGreatDoor.Bw
