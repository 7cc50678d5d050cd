/- A name given a file, a name taken away; give. -/
import Derived.Test.YtamhgbkdljggbaaDkC
import Derived.Shelf.SlMaps.Clone
namespace Go.Proofs.Ytamhgbkdljggbaa.Dk
open Go.RowKit Go.Maps
set_option linter.unusedVariables false

def putF (F : Nat → Fl) (g : Nat) (fl : Fl) : Nat → Fl := fun x => if x = g then fl else F x
theorem putF_same (F : Nat → Fl) (g : Nat) (fl : Fl) : putF F g fl g = fl := if_pos rfl
theorem putF_other {F : Nat → Fl} {g x : Nat} {fl : Fl} (h : x ≠ g) : putF F g fl x = F x := if_neg h
theorem putF_self (F : Nat → Fl) (g : Nat) : putF F g (F g) = F := by
  funext x
  unfold putF
  split
  · rename_i h; rw [h]
  · rfl
def giveS (S : PD) (nb : Option Nat) (s : Nm) (g : Nat) (fl : Fl) : PD := { S with nb := nb, now := putN S.now s g, F := putF S.F g fl }
theorem vd_give {S : PD} {nb : Option Nat} {s : Nm} {g x : Nat} {fl : Fl} (h : Vd (giveS S nb s g fl) x) : x = g ∨ Vd S x := by
  obtain ⟨h0, z, hz | hz⟩ := h
  · by_cases e : z = s
    · rw [e] at hz
      exact .inl (by have : putN S.now s g s = x := hz; rw [putN_same] at this; exact this.symm)
    · exact .inr ⟨h0, z, .inl (by have : putN S.now s g z = x := hz; rwa [putN_other e] at this)⟩
  · exact .inr ⟨h0, z, .inr hz⟩
theorem vd_del {S : PD} {nb : Option Nat} {s : Nm} {x : Nat} (h : Vd { S with nb := nb, now := putN S.now s 0 } x) : Vd S x := by
  obtain ⟨h0, z, hz | hz⟩ := h
  · by_cases e : z = s
    · rw [e] at hz
      have : putN S.now s 0 s = x := hz
      rw [putN_same] at this
      exact absurd this.symm h0
    · exact ⟨h0, z, .inl (by have : putN S.now s 0 z = x := hz; rwa [putN_other e] at this)⟩
  · exact ⟨h0, z, .inr hz⟩
/-- what turns when a map is written: blocks of files and bytes stay -/
theorem not_map {O : Nat → Prop} {w : World} {d M b : Nat} {S : PD} (h : DK O w d M S) (hd : b = d ∨ (∃ es clock, w.heap[b]? = some (.map es clock)) ∨ w.heap.size ≤ b) :
    ∀ k, (∃ cur fr, w.heap[k]? = some (.cells cur 60 fr)) ∨ (∃ cur, w.heap[k]? = some (.cells cur 5)) → k ≠ b := by
  intro k hk e
  subst e
  rcases hd with rfl | ⟨es, clock, hm⟩ | hge
  · rw [h.box] at hk
    rcases hk with ⟨cur, fr, hk⟩ | ⟨cur, hk⟩ <;> (injection hk with hk; injection hk with _ hk; exact absurd hk (by decide))
  · rw [hm] at hk
    rcases hk with ⟨cur, fr, hk⟩ | ⟨cur, hk⟩ <;> cases hk
  · rcases hk with ⟨cur, fr, hk⟩ | ⟨cur, hk⟩
    · have := (Array.getElem?_eq_some_iff.1 hk).1; omega
    · have := (Array.getElem?_eq_some_iff.1 hk).1; omega
/-- the names' map written: w' is w but for blocks d and b -/
theorem DK.names {O : Nat → Prop} {w w' : World} {d M b : Nat} {S S' : PD} (h : DK O w d M S) (hs : w.heap.size ≤ w'.heap.size) (hb : S.nb = some b ∨ (w.heap.size ≤ b ∧ b < w'.heap.size))
    (hk : ∀ k, k < w.heap.size → k ≠ d → k ≠ b → w'.heap[k]? = w.heap[k]?)
    (hbox : w'.heap[d]? = some (.cells #[.int .i64 S'.room, .map S'.nb, .map S'.sb, .int .i64 S'.fuse, .bool S'.down, .int .i64 S'.steps] 56 (0, 0)))
    (hnb : S'.nb = some b) (hsb : S'.sb = S.sb) (hsu : S'.sure = S.sure) (hm : MapP w' (some b) S'.now (M + 1))
    (hf : ∀ g, Vd S' g → FileOk O w M (S'.F g) g) (hr : ∀ g g', Vd S' g → Vd S' g' → g ≠ g' → ∀ r, (S'.F g).v.ownBlock = some r → (S'.F g').v.ownBlock ≠ some r) : DK (On O w w') w' d (M + 1) S' := by
  have hbd : b = d ∨ (∃ es clock, w.heap[b]? = some (.map es clock)) ∨ w.heap.size ≤ b := by
    rcases hb with hb | hb
    · have := h.now
      rw [hb] at this
      exact .inr (.inl this.isMap)
    · exact .inr (.inr hb.1)
  have hsure : ∀ c, S.sb = some c → c < w.heap.size ∧ c ≠ d ∧ c ≠ b := by
    intro c hc
    have hm := h.sure
    rw [hc] at hm
    obtain ⟨es, clock, hh⟩ := hm.isMap
    have hlt := (Array.getElem?_eq_some_iff.1 hh).1
    refine ⟨hlt, fun e => (by rw [e, h.box] at hh; cases hh), fun e => ?_⟩
    rcases hb with hb | hb
    · exact h.apart b hb (by rw [hc, e])
    · omega
  refine ⟨hbox, .inl h.od, by rw [hnb]; exact hm, ?_, ?_, ?_, ?_, fun g hg => ?_, hr, ?_⟩
  · rw [hsb, hsu]
    refine (h.sure.mono (Nat.le_succ M)).keep fun c hc => ?_
    obtain ⟨h1, h2, h3⟩ := hsure c hc
    exact hk c h1 h2 h3
  · intro c hc
    rw [hnb] at hc
    injection hc with hc
    subst hc
    rcases hb with hb | hb
    · exact .inl (h.onow _ hb)
    · exact .inr hb
  · intro c hc
    rw [hsb] at hc
    exact .inl (h.osure c hc)
  · intro c hc e
    rw [hnb] at hc
    injection hc with hc
    subst hc
    rw [hsb] at e
    exact (hsure _ e).2.2 rfl
  · refine (hf g hg).keep (fun k hO ht => hk k (h.bound k hO) ?_ ?_) (fun k hO => .inl hO) (Nat.le_succ M)
    · exact not_map h (.inl rfl) k ht
    · exact not_map h hbd k ht
  · intro k hO
    rcases hO with hO | hO
    · exact Nat.lt_of_lt_of_le (h.bound k hO) hs
    · exact hO.2
theorem eqm (nb : Option Nat) (w : World) : (binOp .eql 54 (.map nb) (.map none)).run Try.prog w = .ok (.bool nb.isNone) w := run_eql_map_nil_sl w _ _ _ nb Try.underlying54
/-- the file that a name is given stands apart from the others -/
def Apart (S : PD) (g : Nat) (fl : Fl) : Prop := ∀ x, Vd S x → x ≠ g → ∀ r, (S.F x).v.ownBlock = some r → fl.v.ownBlock ≠ some r
theorem rows_give {O : Nat → Prop} {w : World} {d M : Nat} {S : PD} (h : DK O w d M S) {nb : Option Nat} {s : Nm} {g : Nat} {fl : Fl} (ha : Apart S g fl) :
    ∀ x y, Vd (giveS S nb s g fl) x → Vd (giveS S nb s g fl) y → x ≠ y → ∀ r, ((giveS S nb s g fl).F x).v.ownBlock = some r → ((giveS S nb s g fl).F y).v.ownBlock ≠ some r := by
  intro x y hx hy hxy r
  show (putF S.F g fl x).v.ownBlock = some r → (putF S.F g fl y).v.ownBlock ≠ some r
  by_cases ex : x = g
  · have ey : y ≠ g := fun e => hxy (ex.trans e.symm)
    rw [ex, putF_same, putF_other ey]
    intro h1 h2
    rcases vd_give hy with h3 | h3
    · exact ey h3
    · exact ha y h3 ey r h2 h1
  · rw [putF_other ex]
    rcases vd_give hx with h3 | h3
    · exact absurd h3 ex
    · by_cases ey : y = g
      · rw [ey, putF_same]
        exact fun h1 => ha x h3 ex r h1
      · rw [putF_other ey]
        rcases vd_give hy with h4 | h4
        · exact absurd h4 ey
        · exact h.rows x y h3 h4 hxy r
theorem file_give {O : Nat → Prop} {w : World} {d M : Nat} {S : PD} (h : DK O w d M S) {nb : Option Nat} {s : Nm} {g : Nat} {fl : Fl} (hf : FileOk O w M fl g) : ∀ x, Vd (giveS S nb s g fl) x → FileOk O w M ((giveS S nb s g fl).F x) x := by
  intro x hx
  show FileOk O w M (putF S.F g fl x) x
  by_cases ex : x = g
  · rw [ex, putF_same]; exact hf
  · rw [putF_other ex]
    rcases vd_give hx with h3 | h3
    · exact absurd h3 ex
    · exact h.file x h3
def GiveP (O : Nat → Prop) (w : World) (d M : Nat) (S : PD) (s : Nm) (g : Nat) (fl : Fl) (w' : World) : Prop := ∃ nb, DK (On O w w') w' d (M + 1) (giveS S nb s g fl) ∧ Fr O w w'
set_option maxRecDepth 100000 in
theorem give_any (O : Nat → Prop) (d M : Nat) (S : PD) (s : ByteArray) (g : Nat) (fl : Fl) (w : World) (h : DK O w d M S) (hs : Ks s) (hM : M ≤ 1000000) (hg : g ≠ 0) (hf : FileOk O w M fl g) (ha : Apart S g fl) :
    Calls Try.prog 26 #[.pointer (some ⟨d, 0, none⟩), .string s, ptrV g] w fun e w' => e = .returned (.tuple #[]) ∧ GiveP O w d M S s.data.toList g fl w' := by
  obtain ⟨⟨c0, c1, c2, c3, c4, c5⟩, fz⟩ := h.cells
  have f1 := fz 1
  have hMm : M < maxLen := by unfold maxLen; omega
  cases hnb : S.nb with
  | none =>
    rw [hnb] at c1
    have he := fun w => eqm none w
    have hmk : (Instr.makeMap 54 none).run Try.prog w = .ok (.map (some w.heap.size)) (w.alloc (.map #[] 0)) := rfl
    obtain ⟨W, hW⟩ : ∃ W, w.alloc (.map #[] 0) = W := ⟨_, rfl⟩
    obtain ⟨b, hb⟩ : ∃ b, w.heap.size = b := ⟨_, rfl⟩
    have hdb : d < w.heap.size := h.bound d h.od
    obtain ⟨W2, hW2⟩ : ∃ W2, W.setCell ⟨d, 1, none⟩ (.map (some b)) = W2 := ⟨_, rfl⟩
    have hWs : W2.heap.size = b + 1 := by rw [← hW2, ← hW, ← hb]; simp
    have hWd : W.heap[d]? = w.heap[d]? := by rw [← hW]; exact Below.heap_alloc w _ d hdb
    have hbox2 : W2.heap[d]? = some (.cells #[.int .i64 S.room, .map (some b), .map S.sb, .int .i64 S.fuse, .bool S.down, .int .i64 S.steps] 56 (0, 0)) := by
      rw [← hW2]
      have := heap_set_at (i := 1) (hWd.trans h.box) (.map (some b))
      rw [this]
      rfl
    have hm0 : MapP W2 (some b) (fun _ => 0) M := by
      have h1 := MapP.made w
      rw [hW, hb] at h1
      refine (h1.mono (Nat.zero_le M)).keep fun c hc => ?_
      injection hc with hc
      subst hc
      rw [← hW2, Below.heap_setCell _ _ _ _ (by simp; omega)]
    obtain ⟨W3, hrun, hm3, hg3⟩ := hm0.store hMm hs g hg
    have hk3 : ∀ k, k < w.heap.size → k ≠ d → k ≠ b → W3.heap[k]? = w.heap[k]? := fun k hk hkd hkb => by
      rw [hg3.block k (by omega) (by simpa using fun e => hkb e), ← hW2, Below.heap_setCell _ _ _ _ hkd, ← hW, Below.heap_alloc w _ k hk]
    have hs3 : W3.heap.size ≥ b + 1 := by have := hg3.size; omega
    have hnow : putN (fun _ => 0) s.data.toList g = putN S.now s.data.toList g := by
      have h0 := h.now
      rw [hnb] at h0
      rcases h0 with ⟨_, h0⟩ | ⟨_, _, h0, _⟩
      · funext z
        unfold putN
        rw [h0 z]
      · cases h0
    have HG := Lib.hid (show GiveP O w d M S s.data.toList g fl W3 from ⟨some b, h.names (b := b) (S' := giveS S (some b) s.data.toList g fl) (by omega) (.inr ⟨by omega, by omega⟩) hk3 (by rw [hg3.block d (by omega) (by simp; omega)]; exact hbox2) rfl rfl rfl (by
        have e : (giveS S (some b) s.data.toList g fl).now = putN S.now s.data.toList g := rfl
        rw [e, ← hnow]; exact hm3) (file_give h hf) (rows_give h ha),
      ⟨hg3.os.trans (by rw [← hW2, ← hW]; rfl), hg3.tape.trans (by rw [← hW2, ← hW]; rfl), hg3.output.trans (by rw [← hW2, ← hW]; rfl), by omega, fun k hk hO => hk3 k hk (fun e => hO (e ▸ h.od)) (by omega)⟩⟩)
    have q1 : W2.cell? ⟨d, 1, none⟩ = some (.map (some b)) := by rw [cell_of_row _ _ _ _ _ _ hbox2]; rfl
    have q1' : W.cell? ⟨d, 1, none⟩ = some (.map none) := by have hbW := hWd.trans h.box; rw [hnb] at hbW; rw [cell_of_row _ _ _ _ _ _ hbW]; rfl
    have f1' : W.frozen? ⟨d, 1, none⟩ = false := by simp [World.frozen?, hWd, h.box]
    clear h fz hnow hm0 hm3 hg3 hk3 hs3 hbox2 hWs hdb hf ha hWd
    go_enter Try.func26, Try.ntmps26
    go_wp2_with fail
    go_end0
    exact ⟨rfl, HG.out⟩
  | some b =>
    rw [hnb] at c1
    have he := fun w => eqm (some b) w
    have hm0 := h.now
    rw [hnb] at hm0
    obtain ⟨W3, hrun, hm3, hg3⟩ := hm0.store hMm hs g hg
    have hk3 : ∀ k, k < w.heap.size → k ≠ d → k ≠ b → W3.heap[k]? = w.heap[k]? := fun k hk hkd hkb => hg3.block k hk (by simpa using fun e => hkb e)
    have hne : d ≠ b := fun e => by
      obtain ⟨es, clock, hh⟩ := hm0.isMap
      rw [← e, h.box] at hh
      cases hh
    have HG := Lib.hid (show GiveP O w d M S s.data.toList g fl W3 from ⟨some b, h.names (b := b) (S' := giveS S (some b) s.data.toList g fl) hg3.size (.inl hnb) hk3 (by rw [hg3.block d (h.bound d h.od) (by simpa using hne)]; have := h.box; rw [hnb] at this; exact this) rfl rfl rfl hm3 (file_give h hf) (rows_give h ha),
      Fr.grown hg3 (fun c hc => by injection hc with hc; subst hc; exact h.onow _ hnb)⟩)
    clear h fz hm0 hm3 hg3 hk3 hf ha hne
    go_enter Try.func26, Try.ntmps26
    go_wp2_with fail
    go_end0
    exact ⟨rfl, HG.out⟩
end Go.Proofs.Ytamhgbkdljggbaa.Dk
