/-
  The reference's device in memory: a struct, a row of what is kept, rows of what waits.
-/
import Derived.Test.YteigfpgdnfladaaDvL
import Derived.Test.YteigfpgdnfladaaChf
namespace Go.Proofs.Yteigfpgdnfladaa.S13
open Cf
open Go.RowKit
set_option linter.unusedVariables false
set_option linter.unusedSimpArgs false

def sv (l : List UInt8) : Value := .string ⟨l.toArray⟩
def iv (n : Nat) : Value := .int .i64 (n : Int)
theorem infoS : (Try.prog.info? 9).map (fun i => (i.zero, i.size, i.bytes)) = some (some (.string ByteArray.empty), 1, 16) := by kernel_rfl
theorem infoI : (Try.prog.info? 3).map (fun i => (i.zero, i.size, i.bytes)) = some (some (.int .i64 0), 1, 8) := by kernel_rfl
/-- The struct's state: what is kept; where, what; the counter; the calls. -/
structure Rs where
  kept : List (List UInt8)
  at_ : List Nat
  what : List (List UInt8)
  count : Int
  calls : Int
def raw (st : Dv) : Rs := ⟨st.kept, st.pend.map (·.1), st.pend.map (·.2), st.count, st.calls⟩
def DzC (Ak : Option Addr) (nk ck : Nat) (Aa : Option Addr) (na ca : Nat) (Aw : Option Addr) (nw cw : Nat) (count calls : Int) : Array Value := #[.slice Ak nk ck, .slice Aa na ca, .slice Aw nw cw, .int .i64 count, .int .i64 calls]
/-- Where it lies. -/
def RV (R : Nat) (Ak Aa Aw : Option Addr) (k : Nat) : Prop := k = R ∨ (∃ x, Ak = some x ∧ x.block = k) ∨ (∃ x, Aa = some x ∧ x.block = k) ∨ ∃ x, Aw = some x ∧ x.block = k
structure Rv (w : World) (base R : Nat) (Ak Aa Aw : Option Addr) (s : Rs) : Prop where
  bR : base ≤ R
  nk : ∀ x, Ak = some x → x.block ≠ R
  na : ∀ x, Aa = some x → x.block ≠ R
  nw : ∀ x, Aw = some x → x.block ≠ R
  ka : Apart Ak Aa
  kw : Apart Ak Aw
  aw : Apart Aa Aw
  ex : ∃ ck ca cw, w.heap[R]? = some (.cells (DzC Ak s.kept.length ck Aa s.at_.length ca Aw s.what.length cw s.count s.calls) 47 (0, 0)) ∧ Ow w base 9 Ak ck (s.kept.map sv) ∧ Ow w base 3 Aa ca (s.at_.map iv) ∧ Ow w base 9 Aw cw (s.what.map sv)
section
variable {w w' : World} {base R : Nat} {Ak Aa Aw : Option Addr} {s : Rs}
theorem Rv.lt (h : Rv w base R Ak Aa Aw s) : ∀ k, RV R Ak Aa Aw k → base ≤ k ∧ k < w.heap.size := by
  obtain ⟨ck, ca, cw, hR, hk, ha, hw⟩ := h.ex
  rintro k (rfl | ⟨x, hx, rfl⟩ | ⟨x, hx, rfl⟩ | ⟨x, hx, rfl⟩)
  · exact ⟨h.bR, lt_of_heap hR⟩
  · exact hk.lt x hx
  · exact ha.lt x hx
  · exact hw.lt x hx
theorem Rv.keep (h : Rv w base R Ak Aa Aw s) (hk : ∀ k, RV R Ak Aa Aw k → w'.heap[k]? = w.heap[k]?) : Rv w' base R Ak Aa Aw s := by
  obtain ⟨ck, ca, cw, hR, h1, h2, h3⟩ := h.ex
  exact { h with ex := ⟨ck, ca, cw, (hk R (.inl rfl)).trans hR, h1.keep fun x hx => hk _ (.inr (.inl ⟨x, hx, rfl⟩)), h2.keep fun x hx => hk _ (.inr (.inr (.inl ⟨x, hx, rfl⟩))), h3.keep fun x hx => hk _ (.inr (.inr (.inr ⟨x, hx, rfl⟩)))⟩ }
theorem Rv.grow (h : Rv w base R Ak Aa Aw s) (hg : Grown w w') : Rv w' base R Ak Aa Aw s := h.keep fun k hk => hg.block k (h.lt k hk).2
/-- What a walk reads of the struct. -/
theorem Rv.cells (h : Rv w base R Ak Aa Aw s) : ∃ ck ca cw, s.kept.length ≤ ck ∧ s.at_.length ≤ ca ∧ s.what.length ≤ cw ∧ w.cell? ⟨R, 0, none⟩ = some (.slice Ak s.kept.length ck) ∧ w.cell? ⟨R, 1, none⟩ = some (.slice Aa s.at_.length ca) ∧ w.cell? ⟨R, 2, none⟩ = some (.slice Aw s.what.length cw) ∧ w.cell? ⟨R, 3, none⟩ = some (.int .i64 s.count) ∧ w.cell? ⟨R, 4, none⟩ = some (.int .i64 s.calls) := by
  obtain ⟨ck, ca, cw, hR, h1, h2, h3⟩ := h.ex
  have l1 := h1.le
  have l2 := h2.le
  have l3 := h3.le
  rw [List.length_map] at l1 l2 l3
  exact ⟨ck, ca, cw, l1, l2, l3, cell_of_row w R 0 _ _ (0, 0) hR, cell_of_row w R 1 _ _ (0, 0) hR, cell_of_row w R 2 _ _ (0, 0) hR, cell_of_row w R 3 _ _ (0, 0) hR, cell_of_row w R 4 _ _ (0, 0) hR⟩
theorem Rv.frozen (h : Rv w base R Ak Aa Aw s) (j : Nat) : w.frozen? ⟨R, j, none⟩ = false := by
  obtain ⟨ck, ca, cw, hR, _⟩ := h.ex
  exact frozen_of_row w R j _ _ hR
/-- Sector i of what is kept. -/
theorem Rv.keptAt (h : Rv w base R Ak Aa Aw s) (i : Nat) (hi : i < s.kept.length) : ∃ g, Ak = some ⟨g, 0, none⟩ ∧ base ≤ g ∧ g < w.heap.size ∧ g ≠ R ∧ w.cell? ⟨g, i, none⟩ = some (sv s.kept[i]) ∧ w.frozen? ⟨g, i, none⟩ = false := by
  obtain ⟨ck, ca, cw, hR, h1, h2, h3⟩ := h.ex
  obtain ⟨g, e, hb, hl, hc, hf⟩ := h1.at_ i (by rw [List.length_map]; exact hi)
  exact ⟨g, e, hb, hl, h.nk _ e, by rw [hc]; simp, hf⟩
theorem Rv.atAt (h : Rv w base R Ak Aa Aw s) (i : Nat) (hi : i < s.at_.length) : ∃ g, Aa = some ⟨g, 0, none⟩ ∧ g < w.heap.size ∧ w.cell? ⟨g, i, none⟩ = some (iv s.at_[i]) := by
  obtain ⟨ck, ca, cw, hR, h1, h2, h3⟩ := h.ex
  obtain ⟨g, e, hb, hl, hc, hf⟩ := h2.at_ i (by rw [List.length_map]; exact hi)
  exact ⟨g, e, hl, by rw [hc]; simp⟩
theorem Rv.whatAt (h : Rv w base R Ak Aa Aw s) (i : Nat) (hi : i < s.what.length) : ∃ g, Aw = some ⟨g, 0, none⟩ ∧ g < w.heap.size ∧ w.cell? ⟨g, i, none⟩ = some (sv s.what[i]) := by
  obtain ⟨ck, ca, cw, hR, h1, h2, h3⟩ := h.ex
  obtain ⟨g, e, hb, hl, hc, hf⟩ := h3.at_ i (by rw [List.length_map]; exact hi)
  exact ⟨g, e, hl, by rw [hc]; simp⟩
/-- The struct's own cells do not touch the rows. -/
theorem Rv.offR {A : Option Addr} {e : TypeId} {c : Nat} {vs : List Value} (hn : ∀ x, A = some x → x.block ≠ R) (h : Ow w base e A c vs) (j : Nat) (u : Value) : Ow (w.setCell ⟨R, j, none⟩ u) base e A c vs :=
  h.keep fun x hx => heap_setCell_other w _ _ _ (hn x hx)
theorem Rv.setCount (h : Rv w base R Ak Aa Aw s) (n : Int) : Rv (w.setCell ⟨R, 3, none⟩ (.int .i64 n)) base R Ak Aa Aw { s with count := n } := by
  obtain ⟨ck, ca, cw, hR, h1, h2, h3⟩ := h.ex
  exact { h with ex := ⟨ck, ca, cw, by rw [heap_setCell_same w R 3 _ _ _ hR]; rfl, Rv.offR h.nk h1 3 _, Rv.offR h.na h2 3 _, Rv.offR h.nw h3 3 _⟩ }
theorem Rv.setCalls (h : Rv w base R Ak Aa Aw s) (n : Int) : Rv (w.setCell ⟨R, 4, none⟩ (.int .i64 n)) base R Ak Aa Aw { s with calls := n } := by
  obtain ⟨ck, ca, cw, hR, h1, h2, h3⟩ := h.ex
  exact { h with ex := ⟨ck, ca, cw, by rw [heap_setCell_same w R 4 _ _ _ hR]; rfl, Rv.offR h.nk h1 4 _, Rv.offR h.na h2 4 _, Rv.offR h.nw h3 4 _⟩ }
theorem Rv.setKept {g : Nat} (h : Rv w base R (some ⟨g, 0, none⟩) Aa Aw s) (i : Nat) (hi : i < s.kept.length) (l : List UInt8) : Rv (w.setCell ⟨g, i, none⟩ (sv l)) base R (some ⟨g, 0, none⟩) Aa Aw { s with kept := s.kept.set i l } := by
  obtain ⟨ck, ca, cw, hR, h1, h2, h3⟩ := h.ex
  have hgR : g ≠ R := h.nk _ rfl
  refine { h with ex := ⟨ck, ca, cw, ?_, ?_, h2.keep fun x hx => heap_setCell_other w _ _ _ (fun e => h.ka _ x rfl hx e.symm), h3.keep fun x hx => heap_setCell_other w _ _ _ (fun e => h.kw _ x rfl hx e.symm)⟩ }
  · rw [heap_setCell_other w _ R _ (Ne.symm hgR), hR]
    simp
  · have := h1.set i (by rw [List.length_map]; exact hi) (sv l)
    rw [← List.map_set] at this
    exact this
/-- The row of places has been put in the struct: it is new, or was there. -/
theorem Rv.putA {Aa' : Option Addr} {ca' na : Nat} {as' : List Nat} (h : Rv w base R Ak Aa Aw s) (hna : as'.length = na) (hA : ∀ k, RV R Ak Aa Aw k → (∀ x, Aa = some x → x.block ≠ k) → w'.heap[k]? = w.heap[k]?) (ho : Ow w' base 3 Aa' ca' (as'.map iv)) (hm : ∀ x, Aa' = some x → Aa = some x ∨ w.heap.size ≤ x.block) :
    Rv (w'.setCell ⟨R, 1, none⟩ (.slice Aa' na ca')) base R Ak Aa' Aw { s with at_ := as' } := by
  subst hna
  obtain ⟨ck, ca, cw, hR, h1, h2, h3⟩ := h.ex
  have hlt := h.lt
  have hR' : w'.heap[R]? = _ := (hA R (.inl rfl) (fun x hx => h.na x hx)).trans hR
  have n1 : ∀ x, Aa' = some x → x.block ≠ R := fun x hx => by
    rcases hm x hx with hy | hy
    · exact h.na x hy
    · have := (hlt R (.inl rfl)).2; omega
  have a1 : Apart Ak Aa' := fun x y hx hy => by
    rcases hm y hy with hz | hz
    · exact h.ka x y hx hz
    · have := (h1.lt x hx).2; omega
  have a2 : Apart Aa' Aw := fun x y hx hy => by
    rcases hm x hx with hz | hz
    · exact h.aw x y hz hy
    · have := (h3.lt y hy).2; omega
  refine { h with na := n1, ka := a1, aw := a2, ex := ⟨ck, ca', cw, ?_, ?_, Rv.offR n1 ho 1 _, ?_⟩ }
  · rw [heap_setCell_same w' R 1 _ _ _ hR']; rfl
  · exact Rv.offR h.nk (h1.keep fun x hx => hA _ (.inr (.inl ⟨x, hx, rfl⟩)) (fun y hy e => h.ka x y hx hy e.symm)) 1 _
  · exact Rv.offR h.nw (h3.keep fun x hx => hA _ (.inr (.inr (.inr ⟨x, hx, rfl⟩))) (fun y hy e => h.aw y x hy hx e)) 1 _
/-- .. the row of texts. -/
theorem Rv.putW {Aw' : Option Addr} {cw' nw : Nat} {ws' : List (List UInt8)} (h : Rv w base R Ak Aa Aw s) (hnw : ws'.length = nw) (hA : ∀ k, RV R Ak Aa Aw k → (∀ x, Aw = some x → x.block ≠ k) → w'.heap[k]? = w.heap[k]?) (ho : Ow w' base 9 Aw' cw' (ws'.map sv)) (hm : ∀ x, Aw' = some x → Aw = some x ∨ w.heap.size ≤ x.block) :
    Rv (w'.setCell ⟨R, 2, none⟩ (.slice Aw' nw cw')) base R Ak Aa Aw' { s with what := ws' } := by
  subst hnw
  obtain ⟨ck, ca, cw, hR, h1, h2, h3⟩ := h.ex
  have hlt := h.lt
  have hR' : w'.heap[R]? = _ := (hA R (.inl rfl) (fun x hx => h.nw x hx)).trans hR
  have n1 : ∀ x, Aw' = some x → x.block ≠ R := fun x hx => by
    rcases hm x hx with hy | hy
    · exact h.nw x hy
    · have := (hlt R (.inl rfl)).2; omega
  have a1 : Apart Ak Aw' := fun x y hx hy => by
    rcases hm y hy with hz | hz
    · exact h.kw x y hx hz
    · have := (h1.lt x hx).2; omega
  have a2 : Apart Aa Aw' := fun x y hx hy => by
    rcases hm y hy with hz | hz
    · exact h.aw x y hx hz
    · have := (h2.lt x hx).2; omega
  refine { h with nw := n1, kw := a1, aw := a2, ex := ⟨ck, ca, cw', ?_, ?_, ?_, Rv.offR n1 ho 2 _⟩ }
  · rw [heap_setCell_same w' R 2 _ _ _ hR']; rfl
  · exact Rv.offR h.nk (h1.keep fun x hx => hA _ (.inr (.inl ⟨x, hx, rfl⟩)) (fun y hy e => h.kw x y hx hy e.symm)) 2 _
  · exact Rv.offR h.na (h2.keep fun x hx => hA _ (.inr (.inr (.inl ⟨x, hx, rfl⟩))) (fun y hy e => h.aw x y hx hy e.symm)) 2 _
theorem moved_or {w : World} {A A' : Option Addr} (h : Moved w A A') : ∀ x, A' = some x → A = some x ∨ w.heap.size ≤ x.block := by
  intro x hx
  rcases h with rfl | ⟨y, hy, hy2⟩
  · exact .inl hx
  · rw [hx] at hy; simp only [Option.some.injEq] at hy; subst hy; exact .inr hy2
end
end Go.Proofs.Yteigfpgdnfladaa.S13
