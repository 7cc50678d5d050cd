/- What Next returns, in one form; rotations. -/
import Derived.Test.YtpfceebmiolpeaaPlN
namespace Go.Proofs.Ytpfceebmiolpeaa.Pl
open Go.RowKit Go.Sort
set_option linter.unusedVariables false

theorem rnot_any (A : Option Addr) (n c : Nat) (l : List It) (w : World) (hn : n = l.length) (h : Cl w A (fC rfA l)) (hl : l.length ≤ 100000) (z : Bool) (hz : rightB l = z) :
    Calls Try.prog 13 #[.slice A n c] w fun e w' => e = .returned (.bool z) ∧ Below w.heap.size w w' := by
  rw [← hz]
  exact rright_any A n c l w hn h hl
/-- the next step: of which level, which blocks, is there one -/
def UR (l : List It) (k : Int) (S : List Int) (ok : Bool) : Prop := (ok = true ∧ NextR l (some (k, S))) ∨ (ok = false ∧ k = 0 ∧ S = [] ∧ NextR l none)
theorem UR.unique {l : List It} {k j : Int} {S T : List Int} {a b : Bool} (h : UR l k S a) (g : UR l j T b) : k = j ∧ S = T ∧ a = b := by
  rcases h with ⟨h1, h2⟩ | ⟨h1, h2, h3, h4⟩ <;> rcases g with ⟨g1, g2⟩ | ⟨g1, g2, g3, g4⟩
  · have := NextR.unique h2 g2
    injection this with this
    injection this with e1 e2
    exact ⟨e1, e2, by rw [h1, g1]⟩
  · have := NextR.unique h2 g4
    cases this
  · have := NextR.unique h4 g2
    cases this
  · exact ⟨by rw [h2, g2], by rw [h3, g3], by rw [h1, g1]⟩
theorem UR.perm {l m : List It} (hp : l.Perm m) {k : Int} {S : List Int} {a : Bool} (h : UR l k S a) : UR m k S a := by
  rcases h with ⟨h1, h2⟩ | ⟨h1, h2, h3, h4⟩
  · exact .inl ⟨h1, h2.perm hp⟩
  · exact .inr ⟨h1, h2, h3, h4.perm hp⟩
theorem UR.level {l : List It} {k : Int} {S : List Int} {a : Bool} (h : UR l k S a) : 0 ≤ k ∧ k ≤ 4 := by
  rcases h with ⟨_, h1, h2, _⟩ | ⟨_, h2, _⟩
  · exact ⟨h1, h2⟩
  · omega
theorem UR.more {l : List It} (hr : ∀ x ∈ l, RightI x) {k : Int} {S : List Int} {a : Bool} (h : UR l k S a) : a = decide (1 < S.length) ∧ S.length ≤ l.length := by
  rcases h with ⟨h1, h2, h3, _, v, h5, h6⟩ | ⟨h1, _, h3, _⟩
  · have := within_cnt hr ⟨h2, h3⟩ h5.mod
    have h7 := h5.1
    have h8 := withinF_length l k v
    rw [← h6] at this h8
    exact ⟨by rw [h1]; exact (decide_eq_true (by omega)).symm, h8⟩
  · subst h3
    exact ⟨by rw [h1]; rfl, by simp⟩
/-- the blocks of a step lie in one step of its grid -/
theorem UR.all {l : List It} (hl : RightL l) {k : Int} {S : List Int} {a : Bool} (h : UR l k S a) : ∃ v, 0 ≤ v ∧ ∀ x ∈ l, x.q ∈ S → x.lv ≤ k ∧ lowF k x.lo = v := by
  rcases h with ⟨_, h2, h3, _, v, h5, h6⟩ | ⟨_, _, h3, _⟩
  · refine ⟨v, (h5.range hl.1).1, fun x hx hq => ?_⟩
    have h7 := within_isIn hl.2 k v hx
    rw [← h6] at h7
    have h8 : inB k v x = true := by rw [← h7]; unfold isIn; simpa using hq
    exact (inB_iff (hl.1 x hx) ⟨h2, h3⟩ h5.mod).1 h8
  · exact ⟨0, by omega, fun x _ hq => by rw [h3] at hq; cases hq⟩
theorem UR.sub {l : List It} {k : Int} {S : List Int} {a : Bool} (h : UR l k S a) : ∀ q ∈ S, ∃ x ∈ l, x.q = q := by
  intro q hq
  rcases h with ⟨_, _, _, _, v, _, h6⟩ | ⟨_, _, h3, _⟩
  · rw [h6] at hq
    unfold withinF at hq
    rw [(srt_perm _).mem_iff, List.mem_map] at hq
    obtain ⟨x, hx, e⟩ := hq
    exact ⟨x, (List.mem_filter.1 hx).1, e⟩
  · rw [h3] at hq; cases hq
theorem UR.none_apt {l : List It} (hr : ∀ x ∈ l, RightI x) {k : Int} {S : List Int} (h : UR l k S false) : Apt l := by
  rcases h with ⟨h1, _⟩ | ⟨_, _, _, h4⟩
  · cases h1
  · exact apt_of_nodup hr (h4 4 (by omega) (by omega))
/-- a step in memory -/
def StV (w : World) (k : Int) (S : List Int) (ok : Bool) (A : Option Addr) (c : Nat) : Prop := Cl w A (intsC .i64 S)
theorem nx_u {w w' : World} {l : List It} {e : Ending} (h : NxP w l e w') : ∃ k S ok A c, UR l k S ok ∧ e = .returned (.tuple #[.agg #[.slice A S.length c, .int .i64 k], .bool ok]) ∧ Cl w' A (intsC .i64 S) ∧ Below w.heap.size w w' := by
  rcases h with ⟨h1, h2, h3⟩ | ⟨k, S, v, h1, h2, A, c, rfl, h4, h5⟩
  · exact ⟨0, [], false, none, 0, .inr ⟨rfl, rfl, rfl, h1⟩, h2, Cl.nil _ _, h3⟩
  · exact ⟨k, S, true, A, c, .inl ⟨rfl, h1⟩, h2, own_cl h4, h5⟩
theorem nx_v {w w' : World} {l m : List It} {e : Ending} {k : Int} {S : List Int} {ok : Bool} (h : NxP w m e w') (hp : l.Perm m) (hu : UR l k S ok) : ∃ A c, e = .returned (.tuple #[.agg #[.slice A S.length c, .int .i64 k], .bool ok]) ∧ Cl w' A (intsC .i64 S) ∧ Below w.heap.size w w' := by
  obtain ⟨k', S', ok', A, c, h1, h2, h3, h4⟩ := nx_u h
  obtain ⟨rfl, rfl, rfl⟩ := UR.unique (hu.perm hp) h1
  exact ⟨A, c, h2, h3, h4⟩
theorem rx_v {w w' : World} {l : List It} {e : Ending} {k : Int} {S : List Int} {ok : Bool} (h : RxP w l e w') (hu : UR l k S ok) : ∃ A c, e = .returned (.tuple #[.int .i64 k, .slice A S.length c, .bool ok]) ∧ Cl w' A (intsC .i64 S) ∧ Below w.heap.size w w' := by
  rcases h with ⟨h1, h2, h3⟩ | ⟨k', S', v, h1, h2, A, c, rfl, h4, h5⟩
  · obtain ⟨rfl, rfl, rfl⟩ := UR.unique hu (.inr ⟨rfl, rfl, rfl, h1⟩)
    exact ⟨none, 0, h2, Cl.nil _ _, h3⟩
  · obtain ⟨rfl, rfl, rfl⟩ := UR.unique hu (.inl ⟨rfl, h1⟩)
    exact ⟨A, c, h2, own_cl h4, h5⟩
/-- turned about by b -/
def rotL (l : List It) (b : Nat) : List It := l.drop (b % l.length) ++ l.take (b % l.length)
theorem rot_perm (l : List It) (b : Nat) : (rotL l b).Perm l := by
  unfold rotL
  exact List.perm_append_comm.trans (by rw [List.take_append_drop])
theorem rot_len (l : List It) (b : Nat) : (rotL l b).length = l.length := (rot_perm l b).length_eq
theorem rot_at {l : List It} {b i : Nat} (h : i < l.length) : (rotL l b)[i]? = l[(i + b) % l.length]? := by
  obtain ⟨n, hn⟩ : ∃ n, l.length = n := ⟨_, rfl⟩
  have hr : b % n < n := Nat.mod_lt _ (by omega)
  obtain ⟨r, hrr⟩ : ∃ r, b % n = r := ⟨_, rfl⟩
  have e : (i + b) % n = (i + r) % n := by rw [← hrr, Nat.add_mod_mod]
  unfold rotL
  rw [hn, e, hrr]
  rw [hrr] at hr
  by_cases hi : i < n - r
  · rw [List.getElem?_append_left (by rw [List.length_drop, hn]; exact hi), List.getElem?_drop, Nat.mod_eq_of_lt (by omega)]
    congr 1
    omega
  · rw [List.getElem?_append_right (by rw [List.length_drop, hn]; omega), List.length_drop, hn, List.getElem?_take_of_lt (by omega)]
    have : (i + r) % n = i + r - n := by
      rw [Nat.mod_eq_sub_mod (by omega), Nat.mod_eq_of_lt (by omega)]
    rw [this]
    congr 1
    omega
end Go.Proofs.Ytpfceebmiolpeaa.Pl
