/-
  The laws of dev: a sector's beginning; awake. DevActs: the program's device beside the reference's, and a block that neither touches; the acts.
-/
import Derived.Test.YthakdjaaknbmpaaMgKactsMain12
import Derived.Lib.SlBytesConst
namespace Go.Proofs.Ythakdjaaknbmpaa.S13
open Cf
open Go.RowKit
set_option linter.unusedVariables false
set_option linter.unusedSimpArgs false
section
variable {D : DTab}
def beg (st : Dv) (n : Int) (s : List UInt8) : Prop := (dvRead st n).2.1 = 0 ∧ (dvRead st n).1.length = 512 ∧ (dvRead st n).1.take s.length = s
instance (st : Dv) (n : Int) (s : List UInt8) : Decidable (beg st n s) := by unfold beg; exact inferInstance
/-- A text of the program's own is written. -/
theorem wr1 (K : DevOk D) {w w1 : World} {G : Nat} {F : Nat → Prop} {st : Dv} {i : Nat} (Z : DSince D w w1 G F st) (hk : Ok st i) (hi : i ≤ 1000) (hl : st.kept.length ≤ 100) (n : Int) (b : List UInt8) (m : Nat) (fr : Nat × Nat) (hm : b.length = m) (hm2 : m ≤ 1000) :
    Calls Try.prog 29 #[.pointer (some ⟨G, 0, none⟩), .int .i64 n, .slice (some ⟨w1.heap.size, 0, none⟩) m m] (w1.alloc (.cells (bvs b).toArray 5 fr)) fun e w' => e = .returned (.int .i64 (dvWrite st n b).1) ∧ ∃ F', DSince D w w' G F' (dvWrite st n b).2 := by
  refine (K.write _ G F st i n _ m m b (K.grow Z.1 (alloc_below w1 _)) hk hi hl (.inr ⟨_, 0, rfl, by simp, fun j hj => ?_⟩) hm (Nat.le_refl _) hm2 (fun x hx _ hf => ?_)).mono ?_
  · rw [Nat.zero_add, cell_of_row _ _ j _ _ fr (heap_alloc_new w1 _)]; simp [bvs, hj]
  · simp only [Option.some.injEq] at hx
    subst hx
    have := K.foot w1 G F st Z.1 _ hf
    simp at this
  rintro e w2 ⟨rfl, hd⟩
  exact ⟨rfl, (Z.grow K (alloc_below w1 _)).step hd⟩
def a0 : Dv := dvNew 3
def a1 : Dv := (dvWrite a0 0 [97]).2
def a2 : Dv := (dvFlush a1).2
def a3 : Dv := (dvWrite a2 0 [98]).2
def a4 : Dv := (dvWrite a3 1 [99]).2
def a5 : Dv := (dvCrash a4 [1]).2
end
end Go.Proofs.Ythakdjaaknbmpaa.S13
namespace Go.Proofs.Ythakdjaaknbmpaa.S13
open Cf
open Go.RowKit
set_option linter.unusedVariables false
set_option linter.unusedSimpArgs false

/-- The reference's device, its footprint hidden. -/
def RD (base : Nat) : DTab := fun w R F st => ∃ Ak Aa Aw, Rv w base R Ak Aa Aw (raw st) ∧ F = RV R Ak Aa Aw
theorem od_on {base R : Nat} {w w' : World} {F : Nat → Prop} {st' : Dv} (h : Od base R w F st' w') : DOn (RD base) w R F st' w' := by
  obtain ⟨Ak, Aa, Aw, h1, h2, h3⟩ := h
  exact ⟨RV R Ak Aa Aw, ⟨Ak, Aa, Aw, h1, rfl⟩, h2, h3⟩
theorem rd_foot {base : Nat} {w : World} {R : Nat} {F : Nat → Prop} {st : Dv} (h : RD base w R F st) : ∀ k, F k → base ≤ k ∧ k < w.heap.size := by
  obtain ⟨Ak, Aa, Aw, h1, rfl⟩ := h
  exact h1.lt
theorem rd_keep {base : Nat} {w w' : World} {R : Nat} {F : Nat → Prop} {st : Dv} (h : RD base w R F st) (hk : ∀ k, F k → w'.heap[k]? = w.heap[k]?) : RD base w' R F st := by
  obtain ⟨Ak, Aa, Aw, h1, rfl⟩ := h
  exact ⟨Ak, Aa, Aw, h1.keep hk, rfl⟩
/-- Two devices behind w0, side by side; the reference's in the state st2. -/
structure Tw (D : DTab) (w0 w : World) (G : Nat) (F : Nat → Prop) (st : Dv) (R : Nat) (F2 : Nat → Prop) (st2 : Dv) : Prop where
  p : D w G F st
  r : RD w0.heap.size w R F2 st2
  pb : ∀ k, F k → w0.heap.size ≤ k
  ap : ∀ k, F k → ¬ F2 k
  gr : Grown w0 w
/-- A block that neither touches. -/
def Bs (w : World) (F F2 : Nat → Prop) (a : Nat) (o : Obj) : Prop := w.heap[a]? = some o ∧ ¬ F a ∧ ¬ F2 a
section
variable {D : DTab} {w0 w w' : World} {G R a : Nat} {F F2 : Nat → Prop} {st st' st2 : Dv} {o : Obj}
theorem Tw.grow (K : DevOk D) (h : Tw D w0 w G F st R F2 st2) (hg : Grown w w') : Tw D w0 w' G F st R F2 st2 :=
  { h with p := K.grow h.p hg, r := rd_keep h.r fun k hk => hg.block k (rd_foot h.r k hk).2, gr := h.gr.trans hg }
theorem Bs.grow (h : Bs w F F2 a o) (hg : Grown w w') : Bs w' F F2 a o := ⟨(hg.block a (lt_of_heap h.1)).trans h.1, h.2⟩
theorem Tw.stepP (h : Tw D w0 w G F st R F2 st2) {F' : Nat → Prop} (ha : D w' G F' st') (hb : ∀ k, F' k → F k ∨ w.heap.size ≤ k) (hc : Ch F w w') : Tw D w0 w' G F' st' R F2 st2 ∧ ∀ a o, Bs w F F2 a o → Bs w' F' F2 a o := by
  refine ⟨⟨ha, rd_keep h.r fun k hk => hc.block k (rd_foot h.r k hk).2 (fun hf => h.ap k hf hk), fun k hk => ?_, fun k hk hr => ?_, chSince h.gr hc h.pb⟩, fun a o hbs => ⟨(hc.block a (lt_of_heap hbs.1) hbs.2.1).trans hbs.1, fun hf => ?_, hbs.2.2⟩⟩
  · rcases hb k hk with h4 | h4
    · exact h.pb k h4
    · exact Nat.le_trans h.gr.size h4
  · rcases hb k hk with h4 | h4
    · exact h.ap k h4 hr
    · have := (rd_foot h.r k hr).2; omega
  · rcases hb a hf with h4 | h4
    · exact hbs.2.1 h4
    · have := lt_of_heap hbs.1; omega
/-- The program's goes on. -/
theorem Tw.prog (K : DevOk D) (h : Tw D w0 w G F st R F2 st2) (h1 : DOn D w G F st' w') : ∃ F', Tw D w0 w' G F' st' R F2 st2 ∧ ∀ a o, Bs w F F2 a o → Bs w' F' F2 a o := by
  obtain ⟨F', ha, hb, hc⟩ := h1
  exact ⟨F', h.stepP ha hb hc⟩
/-- The reference's goes on. -/
theorem Tw.ref (K : DevOk D) (h : Tw D w0 w G F st R F2 st2) (h1 : DOn (RD w0.heap.size) w R F2 st' w') : ∃ F', Tw D w0 w' G F st R F' st' ∧ ∀ a o, Bs w F F2 a o → Bs w' F F' a o := by
  obtain ⟨F', ha, hb, hc⟩ := h1
  refine ⟨F', ⟨K.keep w w' G F st h.p (fun k hk => hc.block k (K.foot w G F st h.p k hk) (fun hf => h.ap k hk hf)) hc.size, ha, h.pb, fun k hk hr => ?_, chSince h.gr hc (fun k hk => (rd_foot h.r k hk).1)⟩, fun a o hbs => ⟨(hc.block a (lt_of_heap hbs.1) hbs.2.2).trans hbs.1, hbs.2.1, fun hf => ?_⟩⟩
  · rcases hb k hr with h4 | h4
    · exact h.ap k hk h4
    · have := K.foot w G F st h.p k hk; omega
  · rcases hb a hf with h4 | h4
    · exact hbs.2.2 h4
    · have := lt_of_heap hbs.1; omega
/-- A store beside both. -/
theorem Tw.beside (K : DevOk D) (h : Tw D w0 w G F st R F2 st2) (hp : ¬ F a) (hr : ¬ F2 a) (ha : w0.heap.size ≤ a) (j : Nat) (u : Value) : Tw D w0 (w.setCell ⟨a, j, none⟩ u) G F st R F2 st2 :=
  { h with
    p := K.keep w _ G F st h.p (fun k hk => heap_setCell_other w ⟨a, j, none⟩ k u (fun e => hp (by simp only at e; rw [← e]; exact hk))) (by simp)
    r := rd_keep h.r fun k hk => heap_setCell_other w ⟨a, j, none⟩ k u (fun e => hr (by simp only at e; rw [← e]; exact hk))
    gr := chSince (F := fun k => k = a) h.gr (Ch.setCell (F := fun k => k = a) (Ch.refl _ w) (p := ⟨a, j, none⟩) (.inl rfl) u) (fun k hk => by rw [hk]; exact ha) }
theorem Bs.beside {b : Nat} (h : Bs w F F2 a o) (hne : a ≠ b) (j : Nat) (u : Value) : Bs (w.setCell ⟨b, j, none⟩ u) F F2 a o := ⟨(heap_setCell_other w ⟨b, j, none⟩ a u hne).trans h.1, h.2⟩
theorem Bs.new (K : DevOk D) (h : Tw D w0 w G F st R F2 st2) (o : Obj) : Bs (w.alloc o) F F2 w.heap.size o :=
  ⟨heap_alloc_new w o, fun hf => by have := K.foot w G F st h.p _ hf; omega, fun hf => by have := (rd_foot h.r _ hf).2; omega⟩
end
/-- An act of the law. -/
structure Ad where
  k : Int
  at_ : Int
  n : Int
  b : List UInt8
  keep : List Int
def adCells (a : Ad) (Ab : Option Addr) (nb cb : Nat) (Ak : Option Addr) (nk ck : Nat) : Array Value := #[.int .i64 a.k, .int .i64 a.at_, .int .i64 a.n, .slice Ab nb cb, .slice Ak nk ck]
/-- The slice at A reads as the acts. -/
def RdAd (w : World) (B : Nat) (A : Option Addr) (acts : List Ad) : Prop :=
  acts = [] ∨ ∃ b off, A = some ⟨b, off, none⟩ ∧ b < B ∧ ∀ i (h : i < acts.length), ∃ Ab nb cb Ak nk ck, w.cell? ⟨b, off + i * 5, none⟩ = some (.int .i64 acts[i].k) ∧ w.cell? ⟨b, off + i * 5 + 1, none⟩ = some (.int .i64 acts[i].at_) ∧ w.cell? ⟨b, off + i * 5 + 2, none⟩ = some (.int .i64 acts[i].n) ∧ w.cell? ⟨b, off + i * 5 + 3, none⟩ = some (.slice Ab nb cb) ∧ w.cell? ⟨b, off + i * 5 + 4, none⟩ = some (.slice Ak nk ck) ∧
    acts[i].b.length = nb ∧ nb ≤ cb ∧ Rd w B Ab acts[i].b ∧ acts[i].keep.length = nk ∧ nk ≤ ck ∧ RdN w B Ak acts[i].keep ∧ -9223372036854775808 ≤ acts[i].n ∧ acts[i].n < 9223372036854775808
/-- What an act leaves. -/
def stepD (st : Dv) (a : Ad) : Dv := if a.k = 0 then (dvWrite st a.at_ a.b).2 else if a.k = 1 then (dvRead st a.at_).2.2 else if a.k = 2 then (dvFlush st).2 else if a.k = 3 then (dvRaise st).2 else if a.k = 4 then dvWear st a.n else if a.k = 5 then dvLimit st a.n else if a.k = 6 then (dvCrash st a.keep).2 else if a.k = 7 then (dvTamper st a.at_ a.b).2 else st
theorem len_write (st : Dv) (n : Int) (b : List UInt8) : (dvWrite st n b).2.kept.length = st.kept.length := by
  unfold dvWrite
  split
  · rfl
  · split
    · show (tick st).kept.length = _; rw [tick_kept]
    · rfl
theorem len_read (st : Dv) (n : Int) : (dvRead st n).2.2.kept.length = st.kept.length := by
  unfold dvRead
  split
  · rfl
  · split
    · show (tick st).kept.length = _; rw [tick_kept]
    · rfl
theorem len_flush (st : Dv) : (dvFlush st).2.kept.length = st.kept.length := by
  unfold dvFlush
  split
  · exact lay_len _ _
  · rfl
theorem len_raise (st : Dv) : (dvRaise st).2.kept.length = st.kept.length := by
  unfold dvRaise
  split
  · split <;> (show (tick st).kept.length = _; rw [tick_kept])
  · rfl
theorem len_crash (st : Dv) (keep : List Int) : (dvCrash st keep).2.kept.length = st.kept.length := lay_len _ _
theorem len_tamper (st : Dv) (n : Int) (b : List UInt8) : (dvTamper st n b).2.kept.length = st.kept.length := by
  unfold dvTamper
  split
  · rfl
  · exact List.length_set
/-- Where the law stands behind i acts. -/
def Num (st : Dv) (n i : Nat) : Prop := Ok st i ∧ st.kept.length = n
section
variable {base R : Nat} {F : Nat → Prop} {st : Dv} {w : World} {i : Nat}
theorem rWrite (h : RD base w R F st) (hk : Ok st i) (hi : i ≤ 1000) (hl : st.kept.length ≤ 100) (n : Int) (A2 : Option Addr) (n2 c2 : Nat) (b : List UInt8) (hb : Rd w w.heap.size A2 b) (hn2 : b.length = n2) (hn2b : n2 ≤ 1000) (hoff : ∀ x, A2 = some x → b ≠ [] → ¬ F x.block) : Calls Try.prog 36 #[.pointer (some ⟨R, 0, none⟩), .int .i64 n, .slice A2 n2 c2] w fun e w' => e = .returned (.int .i64 (dvWrite st n b).1) ∧ DOn (RD base) w R F ((dvWrite st n b).2) w' := by
  obtain ⟨Ak, Aa, Aw, h1, rfl⟩ := h
  exact (refWrite_any h1 hk hi (by omega) n A2 n2 c2 b hb hn2 hn2b hoff).mono fun e w' hh => ⟨hh.1, od_on hh.2⟩
theorem rTamper (h : RD base w R F st) (hk : Ok st i) (hi : i ≤ 1000) (hl : st.kept.length ≤ 100) (n : Int) (A2 : Option Addr) (n2 c2 : Nat) (b : List UInt8) (hb : Rd w w.heap.size A2 b) (hn2 : b.length = n2) (hn2b : n2 ≤ 1000) (hoff : ∀ x, A2 = some x → b ≠ [] → ¬ F x.block) : Calls Try.prog 25 #[.pointer (some ⟨R, 0, none⟩), .int .i64 n, .slice A2 n2 c2] w fun e w' => e = .returned (.int .i64 (dvTamper st n b).1) ∧ DOn (RD base) w R F ((dvTamper st n b).2) w' := by
  obtain ⟨Ak, Aa, Aw, h1, rfl⟩ := h
  exact (refTamper_any h1 hk hi (by omega) n A2 n2 c2 b hb hn2 hn2b hoff).mono fun e w' hh => ⟨hh.1, od_on hh.2⟩
theorem rRead (h : RD base w R F st) (hk : Ok st i) (hi : i ≤ 1000) (hl : st.kept.length ≤ 100) (n : Int) : Calls Try.prog 41 #[.pointer (some ⟨R, 0, none⟩), .int .i64 n] w fun e w' => e = .returned (.tuple #[sv (dvRead st n).1, .int .i64 (dvRead st n).2.1]) ∧ DOn (RD base) w R F ((dvRead st n).2.2) w' := by
  obtain ⟨Ak, Aa, Aw, h1, rfl⟩ := h
  exact (refRead_any h1 hk hi (by omega) n).mono fun e w' hh => ⟨hh.1, od_on hh.2⟩
theorem rFlush (h : RD base w R F st) (hk : Ok st i) (hi : i ≤ 1000) (hl : st.kept.length ≤ 100) : Calls Try.prog 19 #[.pointer (some ⟨R, 0, none⟩)] w fun e w' => e = .returned (.int .i64 (dvFlush st).1) ∧ DOn (RD base) w R F ((dvFlush st).2) w' := by
  obtain ⟨Ak, Aa, Aw, h1, rfl⟩ := h
  exact (refFlush_any h1 hk hi (by omega)).mono fun e w' hh => ⟨hh.1, od_on hh.2⟩
theorem rLimit (h : RD base w R F st) (n : Int) : Calls Try.prog 21 #[.pointer (some ⟨R, 0, none⟩), .int .i64 n] w fun e w' => e = .returned (.tuple #[]) ∧ DOn (RD base) w R F (dvLimit st n) w' := by
  obtain ⟨Ak, Aa, Aw, h1, rfl⟩ := h
  exact (refLimit_any h1 n).mono fun e w' hh => ⟨hh.1, od_on hh.2⟩
theorem rCrash (h : RD base w R F st) (hk : Ok st i) (hi : i ≤ 1000) (hl : st.kept.length ≤ 100) (D : Option Addr) (nd cd : Nat) (keep : List Int) (hD : RdN w w.heap.size D keep) (hnd : keep.length = nd) (hnd2 : nd ≤ 1000) (hoff : ∀ x, D = some x → keep ≠ [] → ¬ F x.block) : Calls Try.prog 23 #[.pointer (some ⟨R, 0, none⟩), .slice D nd cd] w fun e w' => e = .returned (.int .i64 (dvCrash st keep).1) ∧ DOn (RD base) w R F ((dvCrash st keep).2) w' := by
  obtain ⟨Ak, Aa, Aw, h1, rfl⟩ := h
  exact (refCrash_any h1 hk hi (by omega) D nd cd keep hD hnd hnd2 hoff).mono fun e w' hh => ⟨hh.1, od_on hh.2⟩
theorem rd_lt13 {w : World} {B : Nat} {A : Option Addr} {l : List UInt8} (h : Rd w B A l) (hl : l ≠ []) : ∀ x, A = some x → x.block < B := by
  rintro x rfl
  rcases h with e | ⟨b, off, e, hb, _⟩
  · exact absurd e hl
  · simp only [Option.some.injEq] at e
    rw [e]; exact hb
theorem rdN_lt {w : World} {B : Nat} {A : Option Addr} {l : List Int} (h : RdN w B A l) (hl : l ≠ []) : ∀ x, A = some x → x.block < B := by
  rintro x rfl
  rcases h with e | ⟨b, off, e, hb, _⟩
  · exact absurd e hl
  · simp only [Option.some.injEq] at e
    rw [e]; exact hb
theorem rdN_grow {w w' : World} {A : Option Addr} {l : List Int} (h : RdN w w.heap.size A l) (hg : Grown w w') : RdN w' w'.heap.size A l := by
  rcases h with e | ⟨b, off, e, hb, hc⟩
  · exact .inl e
  · exact .inr ⟨b, off, e, Nat.lt_of_lt_of_le hb hg.size, fun j hj => (hg.cell (p := ⟨b, off + j, none⟩) hb).trans (hc j hj)⟩
theorem rSee (h : RD base w R F st) (n : Nat) (hn : n < st.kept.length) (hp : st.pend.length ≤ 100000) (hn2 : n ≤ 100000) :
    Calls Try.prog 56 #[.pointer (some ⟨R, 0, none⟩), .int .i64 (n : Int)] w fun e w' => e = .returned (.string ⟨(see st n).toArray⟩) ∧ w' = w := by
  obtain ⟨Ak, Aa, Aw, h1, rfl⟩ := h
  exact refSee_any h1 n hn hp hn2
/-- What the law reads of the reference's struct. -/
theorem rd_cells (h : RD base w R F st) : ∃ Aa ca, st.pend.length ≤ ca ∧ w.cell? ⟨R, 1, none⟩ = some (.slice Aa st.pend.length ca) ∧ w.cell? ⟨R, 3, none⟩ = some (.int .i64 st.count) := by
  obtain ⟨Ak, Aa, Aw, h1, rfl⟩ := h
  obtain ⟨ck, ca, cw, _, h2, _, _, h3, _, h4, _⟩ := h1.cells
  have e : (raw st).at_.length = st.pend.length := List.length_map ..
  rw [e] at h2 h3
  exact ⟨Aa, ca, h2, h3, h4⟩
end
end Go.Proofs.Ythakdjaaknbmpaa.S13
