/- Put and Bytes of a writer whose bits are a list; bytes.Equal. -/
import Derived.Test.YtjnienlidmmhdaaGreatDoorTlW
import Derived.Test.YtjnienlidmmhdaaGreatDoorTkK
import Derived.Lib.Strings
namespace Go.Proofs.YtjnienlidmmhdaaGreatDoor.En
open Go.RowKit Go.Sort
set_option linter.unusedVariables false
open Tl (WS WX valB LaidL tab_below tab_pos)

theorem put_x (x k : Nat) (W0 : World) (p B g : Nat) (l : List Bool) (w : World) (h : WX W0 p B g l w) (hp : W0.heap.size ≤ p) (hg : g < w.heap.size) (hgp : g ≠ p) (hn : l.length ≤ 800000) (hk : k ≤ 64) (x1 : x ≤ 18446744073709551615) :
    Calls Tryz.prog 104 #[.pointer (some ⟨p, 0, none⟩), .int .u64 (x : Int), .int .i64 (k : Int)] w fun e w' => e = .returned (.tuple #[]) ∧ WX W0 p B g (l ++ Tk.bitsL k x) w' ∧ w'.heap[g]? = w.heap[g]? ∧ w.heap.size ≤ w'.heap.size := by
  obtain ⟨⟨v, bs, h1, h2, h4⟩, h3⟩ := h
  have c1 : (Tk.bitsL k x).length = k := Tk.bitsL_length k x
  have c2 : valB (Tk.bitsL k x) = x % 2 ^ k := Tl.valB_bitsL k x
  refine (Bw.put_any x p B l.length (valB l) k v bs w h1 h2 hk x1 (by omega)).mono ?_
  rintro e w' ⟨rfl, v', bs', r1, r2, r3, r4⟩
  have r2' : Bw.Laid bs' (l.length + (Tk.bitsL k x).length) (valB l * 2 ^ (Tk.bitsL k x).length + valB (Tk.bitsL k x)) := by rw [c1, c2]; exact r2
  have r1' : Bw.Wr w' p B v' bs' (l.length + (Tk.bitsL k x).length) := by rw [c1]; exact r1
  refine ⟨rfl, ⟨⟨v', bs', by rw [List.length_append]; exact r1', LaidL.step r2', fun e => ?_⟩, ⟨r3.os.trans h3.os, r3.tape.trans h3.tape, r3.output.trans h3.output, Nat.le_trans h3.size r3.size, fun k hk => ?_⟩⟩, r3.block g hg hgp h4, r3.size⟩
  · rcases r4 g e with h | h
    · exact h4 h
    · omega
  · rw [r3.block k (Nat.lt_of_lt_of_le hk h3.size) (by omega) (fun e => by have := (h1.own.lt k e).1; have := h1.pb; omega)]
    exact h3.block k hk
/-- a new writer -/
theorem ws_new (W0 : World) : WS W0 W0.heap.size (W0.heap.size + 1) [] (W0.alloc (.cells #[.slice none 0 0, .int .i64 0] 96 (0, 0))) := by
  obtain ⟨W1, hW1⟩ : ∃ W1, W0.alloc (.cells #[.slice none 0 0, .int .i64 0] 96 (0, 0)) = W1 := ⟨_, rfl⟩
  have hbx : W1.heap[W0.heap.size]? = some (.cells #[.slice none 0 0, .int .i64 0] 96 (0, 0)) := hW1 ▸ heap_alloc_new W0 _
  rw [hW1]
  refine ⟨⟨.slice none 0 0, [], Bw.Wr.fresh (by omega) (by rw [← hW1]; simp) ?_ ?_ ?_ ?_, LaidL.nil⟩, hW1 ▸ (Below.refl _ _).alloc (Nat.le_refl _) _⟩
  · rw [cell_of_row _ _ _ _ _ _ hbx]; rfl
  · rw [cell_of_row _ _ _ _ _ _ hbx]; rfl
  · simp [World.frozen?, hbx]
  · simp [World.frozen?, hbx]
theorem bytes_l (v : Value) (p B : Nat) (l : List Bool) (bs : List Nat) (w : World) (hw : Bw.Wr w p B v bs l.length) (hla : LaidL bs l) (hl : l.length ≤ 900000) :
    Calls Tryz.prog 53 #[.pointer (some ⟨p, 0, none⟩)] w fun e w' => ∃ A c, e = .returned (.slice A bs.length c) ∧ Tk.Sl w' A c bs ∧ Below w.heap.size w w' := by
  have own : w.ownsRow B 5 1 v bs.length (Tk.cellsB bs) := hw.own
  have hbl : bs.length ≤ 900000 := by have := hla.1; omega
  obtain ⟨_, A, c, rfl, hS⟩ := Tk.own_sl own hla.2.1 (by omega)
  have c0 := hw.c0
  have HC := Lib.hid (Tk.clone_any A bs.length c bs w hS rfl (by omega))
  clear own hw hla hS hl
  go_enter Tryz.func53, Tryz.ntmps53
  go_wp2_with fail
  refine HC.out.mono ?_
  rintro e w' ⟨A2, c2, rfl, hs, hb⟩
  have HS := Lib.hid (And.intro hs hb)
  clear hs hb
  go_wp2_with fail
  go_ret
  exact ⟨A2, c2, rfl, HS.out.1, HS.out.2⟩
theorem bytes_s (W0 : World) (p B : Nat) (l : List Bool) (w : World) (h : WS W0 p B l w) (hl : l.length ≤ 900000) :
    Calls Tryz.prog 53 #[.pointer (some ⟨p, 0, none⟩)] w fun e w' => ∃ A c bs, e = .returned (.slice A bs.length c) ∧ Tk.Sl w' A c bs ∧ LaidL bs l ∧ Below W0.heap.size W0 w' := by
  obtain ⟨⟨v, bs, h1, h2⟩, h3⟩ := h
  refine (bytes_l v p B l bs w h1 h2 hl).mono ?_
  rintro e w' ⟨A, c, rfl, h4, h5⟩
  exact ⟨A, c, bs, rfl, h4, h2, h3.trans (h5.mono h3.size)⟩
theorem ret_boolF {a b : Bool} (h : a = b) : Ending.returned (.bool a) = .returned (.bool b) := by rw [h]
/-- bytes as a text -/
def txB (bs : List Nat) : ByteArray := ⟨(bs.map UInt8.ofNat).toArray⟩
theorem sl_txt {w : World} {A : Option Addr} {c : Nat} {bs : List Nat} (h : Tk.Sl w A c bs) : (convert 26 9 (.slice A bs.length c)).run Tryz.prog w = .ok (.string (txB bs)) w := by
  have hl : (bs.map UInt8.ofNat).length = bs.length := by simp
  cases A with
  | none =>
    have hc := h.2.2.1 rfl
    have hb : bs = [] := List.eq_nil_of_length_eq_zero (by have := h.1; omega)
    subst hb
    exact run_convert_bytes_nil w _ _ Tryz.underlying26 Tryz.underlying5 0 c _ Tryz.underlying9
  | some ad =>
    rw [← hl]
    refine run_convert_bytes_back (P := Tryz.prog) w 26 9 5 ad c (bs.map UInt8.ofNat) Tryz.underlying26 Tryz.underlying5 Tryz.underlying9 (fun j hj => ?_)
    have hj' : j < bs.length := by simpa using hj
    have hm : bs[j] < 256 := h.b8 _ (List.getElem_mem hj')
    exact h.2.2.2.src' j _ (by unfold Tk.cellsB; simp [hj', Nat.mod_eq_of_lt hm])
theorem txB_eq {a b : List Nat} (ha : ∀ x ∈ a, x < 256) (hb : ∀ x ∈ b, x < 256) : ((txB a).toList == (txB b).toList) = decide (a = b) := by
  rw [Lib.toList_data, Lib.toList_data]
  exact Bw.toList_eq a b ha hb
theorem equal_any (A B : Option Addr) (c d : Nat) (a b : List Nat) (w : World) (hA : Tk.Sl w A c a) (hB : Tk.Sl w B d b) :
    Calls Tryz.prog 56 #[.slice A a.length c, .slice B b.length d] w fun e w' => e = .returned (.bool (decide (a = b))) ∧ w' = w := by
  have e1 := sl_txt hA
  have e2 := sl_txt hB
  have HE := Lib.hid (txB_eq hA.b8 hB.b8)
  obtain ⟨n, hn⟩ : ∃ n, a.length = n := ⟨_, rfl⟩
  obtain ⟨m, hm⟩ : ∃ m, b.length = m := ⟨_, rfl⟩
  rw [hn] at e1 ⊢
  rw [hm] at e2 ⊢
  obtain ⟨S, hS⟩ : ∃ S, txB a = S := ⟨_, rfl⟩
  obtain ⟨T, hT⟩ : ∃ T, txB b = T := ⟨_, rfl⟩
  rw [hS] at e1 HE
  rw [hT] at e2 HE
  obtain ⟨z, hz⟩ : ∃ z, decide (a = b) = z := ⟨_, rfl⟩
  rw [hz] at HE ⊢
  clear hA hB hn hm hS hT hz
  go_enter Tryz.func56, Tryz.ntmps56
  go_wp2_with fail
  go_ret
  refine ⟨ret_boolF ?_, rfl⟩
  first | exact HE.out | (rw [← HE.out]; simp)
end Go.Proofs.YtjnienlidmmhdaaGreatDoor.En
