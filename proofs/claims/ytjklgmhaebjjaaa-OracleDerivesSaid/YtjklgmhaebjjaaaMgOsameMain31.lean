/-
  What the program's expand keeps: its oracle, the row that it grows, the block that came last. The program's expand, for an ideal oracle.
-/
import Derived.Test.YtjklgmhaebjjaaaMgOsameMain30
import Derived.Test.YtjklgmhaebjjaaaMgOsameMain29
import Derived.Test.YtjklgmhaebjjaaaMgOsameMain5
namespace Go.Proofs.Ytjklgmhaebjjaaa.S12
open S11
open Go.RowKit
set_option linter.unusedVariables false
set_option linter.unusedSimpArgs false

theorem mk0 (k : Nat) (hk : k ≤ 1000000) (w : World) :
    (Instr.makeSlice 22 (.int .i64 0) (.int .i64 (k : Int))).run Try.prog w = .ok (.slice (some ⟨w.heap.size, 0, none⟩) 0 k) (w.alloc (.cells (bvs (List.replicate k 0)).toArray 5)) := by
  obtain ⟨i0, hi, hz0, hz1, hz2⟩ := info_parts info5
  have hr := run_make (P := Try.prog) w 22 5 i0 _ Try.underlying22 hi hz0 .i64 .i64 0 (k : Int) (by omega) (by omega) (by rw [hz2]; omega) (by omega)
  simp only [Int.toNat_natCast, hz1, Nat.mul_one] at hr
  rw [hr]
  have : madeCells (Value.int IntKind.u8 0).cells k = (bvs (List.replicate k 0)).toArray := by
    apply Array.toList_inj.1
    show (madeCells #[_] k).toList = _
    rw [toList_madeCells_one]
    simp [bvs, bv]
  rw [this]
  rfl
theorem own_mk0 (w : World) (k : Nat) (hk : k ≤ 1000000) (base : Nat) (hb : base ≤ w.heap.size) : Own (w.alloc (.cells (bvs (List.replicate k 0)).toArray 5)) base (some ⟨w.heap.size, 0, none⟩) k [] :=
  ⟨by simp [bvs], .inr ⟨w.heap.size, k, _, rfl, hb, heap_alloc_new w _, Nat.zero_le _, by unfold maxLen; omega, by simp [bvs], by simp [bvs]⟩⟩
theorem own_same {w w' : World} {base : Nat} {A : Option Addr} {c : Nat} {l : List UInt8} (h : Own w base A c l) (hs : ∀ x, A = some x → w'.heap[x.block]? = w.heap[x.block]?) : Own w' base A c l := by
  refine ⟨h.1, ?_⟩
  rcases h.2 with h1 | ⟨g1, cap, cur, h1, h2, h3, r⟩
  · exact .inl h1
  · refine .inr ⟨g1, cap, cur, h1, h2, ?_, r⟩
    simp only [Value.slice.injEq] at h1
    rw [hs _ h1.1]
    exact h3
/-- append where there is room: the slice stays where it is, and all other blocks as they are. -/
theorem run_appR {w : World} {g : Nat} {c : Nat} {l : List UInt8} (h : Own w g (some ⟨g, 0, none⟩) c l) {B : Nat} {A2 : Addr} (c2 : Nat) {l2 : List UInt8} (h2 : Rd w B (some A2) l2)
    (hroom : l.length + l2.length ≤ c) (hl : l.length + l2.length ≤ 4294967296) (ty : TypeId) :
    ∃ w', (Builtin.append_ #[22, 22] ty #[.slice (some ⟨g, 0, none⟩) l.length c, .slice (some A2) l2.length c2]).run Try.prog w = .ok (.slice (some ⟨g, 0, none⟩) (l ++ l2).length c) w' ∧ Own w' g (some ⟨g, 0, none⟩) c (l ++ l2) ∧ w.grownBy w' (some g) := by
  obtain ⟨i0, hi, hz0, hz1, hz2⟩ := info_parts info5
  have hb : g ≤ w.heap.size := by
    rcases h.form with ⟨e, _⟩ | ⟨g', cur, e, _, hh, _⟩
    · cases e
    · simp only [Option.some.injEq, Addr.mk.injEq] at e
      have := lt_of_heap hh
      omega
  obtain ⟨A', c', w', hrun, hown, hg, _⟩ := run_appS h c2 h2 hl hb ty
  have hcells : ∀ j u, (bvs l2)[j]? = some u → w.cell? (A2.add j) = some u := by
    intro j u hu
    rcases h2 with rfl | ⟨b, off, e, hb, hc⟩
    · simp [bvs] at hu
    · simp only [Option.some.injEq] at e
      subst e
      have hj : j < l2.length := by
        have := (List.getElem?_eq_some_iff.1 hu).1
        simpa [bvs] using this
      have h3 := hc j hj
      simp [bvs, hj] at hu
      subst hu
      by_cases h0 : j = 0
      · subst h0; simpa [Addr.add] using h3
      · simpa [Addr.add, h0] using h3
  rcases h.2 with ⟨h1, h3⟩ | ⟨g1, cap, cur, h1, hbg, hheap, hnc, hcm, hcs, htake⟩
  · simp only [Value.slice.injEq] at h1
    cases h1.1
  · simp only [Value.slice.injEq, Option.some.injEq, Addr.mk.injEq] at h1
    obtain ⟨⟨rfl, _⟩, _, rfl⟩ := h1
    have hr := run_append_room (P := Try.prog) w 22 ty 5 i0 Try.underlying22 hi g l.length c cur hheap A2 l2.length c2 (bvs l2) (by rw [hz1]; simp [bvs]) hcells (bvs_one l2) hroom (by rw [hz1, hcs]; simp [bvs]; omega)
    have e := hrun.symm.trans hr
    injection e with e _
    simp only [Value.slice.injEq] at e
    obtain ⟨rfl, _, rfl⟩ := e
    refine ⟨w', hrun, hown, ?_⟩
    simpa [Value.ownBlock] using hg
section
variable {w : World} {o : Oper} {a : Act} {K : Act → World → Prop} {Q : Exit → Act → World → Prop} {ops : Array Oper} {rest : List Oper}
theorem wp_appR (s x : Operand) (ho : o.op = .call { callee := .builtin .append, args := #[s, x], argTypes := #[22, 22] })
    {g n c n2 m : Nat} {l : List UInt8} (hn : l.length = n) (hs : a.eval s = .slice (some ⟨g, 0, none⟩) n c) (h : Own w g (some ⟨g, 0, none⟩) c l) {B : Nat} {A2 : Addr} {c2 : Nat} {l2 : List UInt8} (hn2 : l2.length = n2) (hx : a.eval x = .slice (some A2) n2 c2) (h2 : Rd w B (some A2) l2)
    (hm : m = n + n2) (hroom : m ≤ c) (hl : m ≤ 4294967296)
    (hk : ∀ w', Own w' g (some ⟨g, 0, none⟩) c (l ++ l2) → w.grownBy w' (some g) → K (a.put o.dst (.slice (some ⟨g, 0, none⟩) m c)) w') : o.wp Try.prog a w K Q := by
  subst hn hn2
  obtain ⟨w', hrun, h3, h4⟩ := run_appR h c2 h2 (by omega) (by omega) o.type
  unfold Oper.wp execOp
  simp only [ho, resolve, invoke, builtin, Sem.run_bind, Sem.run_pure, Result.andThen_ok, List.map_toArray, List.map_cons, List.map_nil, hs, hx, hrun]
  have := hk w' h3 h4
  rwa [hm, ← List.length_append] at this
theorem wpList_appR (hgd : o.guard = none) (s x : Operand) (ho : o.op = .call { callee := .builtin .append, args := #[s, x], argTypes := #[22, 22] })
    {g n c n2 m : Nat} {l : List UInt8} (hn : l.length = n) (hs : a.eval s = .slice (some ⟨g, 0, none⟩) n c) (h : Own w g (some ⟨g, 0, none⟩) c l) {B : Nat} {A2 : Addr} {c2 : Nat} {l2 : List UInt8} (hn2 : l2.length = n2) (hx : a.eval x = .slice (some A2) n2 c2) (h2 : Rd w B (some A2) l2)
    (hm : m = n + n2) (hroom : m ≤ c) (hl : m ≤ 4294967296)
    (hk : ∀ w', Own w' g (some ⟨g, 0, none⟩) c (l ++ l2) → w.grownBy w' (some g) → wpList Try.prog ops Q rest (a.put o.dst (.slice (some ⟨g, 0, none⟩) m c)) w') : wpList Try.prog ops Q (o :: rest) a w :=
  wpList_plain hgd fun _ hK => wp_appR s x ho hn hs h hn2 hx h2 hm hroom hl fun w' h3 h4 => hK _ _ (hk w' h3 h4)
end

theorem oi_same {B : Nat} {w w' : World} {G : Nat} {F : Nat → Prop} {st : St} (h : OIo B w G F st) (hk : ∀ k, F k → w'.heap[k]? = w.heap[k]?) (hs : w.heap.size ≤ w'.heap.size) : OIo B w' G F st := by
  obtain ⟨H, FS, hG1, hG, hS, hnF, hF⟩ := h
  exact ⟨H, FS, hG1, (hk G ((hF G).2 (.inl rfl))).trans hG, src_keep w w' H FS st hS (fun k h => hk k ((hF k).2 (.inr h))) hs, hnF, hF⟩
/-- The block that came last: none, or an array in a cell of its own, behind go. -/
def Prv (w : World) (F : Nat → Prop) (go : Nat) (P : Option Addr) (t : List UInt8) : Prop := t = [] ∨ ∃ g, P = some ⟨g, 0, none⟩ ∧ Ba w g 34 t ∧ ¬ F g ∧ go < g
theorem Prv.bes {w : World} {F : Nat → Prop} {go : Nat} {P : Option Addr} {t : List UInt8} (h : Prv w F go P t) (c : Nat) (hc : t.length ≤ c) : Bes w F P t.length c t := by
  rcases h with rfl | ⟨g, rfl, h1, h2, _⟩
  · exact ⟨.inl rfl, rfl, hc, fun x _ hne => absurd rfl hne⟩
  · exact ⟨h1.rd, rfl, hc, fun x hx _ hf => by simp only [Option.some.injEq] at hx; subst hx; exact h2 hf⟩
/-- Where expand's loop stands: it was begun in w; its row lies at go. -/
structure Ex (B : Nat) (w wr : World) (G go : Nat) (F Fj : Nat → Prop) (stj : St) (A1 : Option Addr) (key : List UInt8) (A2 : Option Addr) (pre : List UInt8) (P : Option Addr) (t s : List UInt8) (M : Nat) : Prop where
  e : go = w.heap.size
  o : OIo B wr G Fj stj
  old : ∀ k, F k → k < go
  sub : ∀ k, Fj k → F k ∨ go < k
  ch : Ch F w wr
  k : Rd wr go A1 key ∧ Off Fj A1 key
  i : Rd wr go A2 pre ∧ Off Fj A2 pre
  p : Prv wr Fj go P t
  own : Own wr go (some ⟨go, 0, none⟩) M s
  lt : go < wr.heap.size
section
variable {B : Nat} {w wr w' : World} {G go : Nat} {F Fj F' : Nat → Prop} {stj st' : St} {A1 : Option Addr} {key : List UInt8} {A2 : Option Addr} {pre : List UInt8} {P : Option Addr} {t s : List UInt8} {M : Nat}
theorem Ex.grow (h : Ex B w wr G go F Fj stj A1 key A2 pre P t s M) (hg : Grown wr w') : Ex B w w' G go F Fj stj A1 key A2 pre P t s M where
  e := h.e
  o := oi_grow h.o hg
  old := h.old
  sub := h.sub
  ch := Ch.trans h.ch (Ch.grown hg)
  k := ⟨h.k.1.below (Below.mono hg (Nat.le_of_lt h.lt)), h.k.2⟩
  i := ⟨h.i.1.below (Below.mono hg (Nat.le_of_lt h.lt)), h.i.2⟩
  p := h.p.imp id fun ⟨g, e, h1, h2, h3⟩ => ⟨g, e, h1.grow hg, h2, h3⟩
  own := own_same h.own (fun x hx => by simp only [Option.some.injEq] at hx; subst hx; exact hg.block go h.lt)
  lt := Nat.lt_of_lt_of_le h.lt hg.size
theorem Ex.not (h : Ex B w wr G go F Fj stj A1 key A2 pre P t s M) : ¬ Fj go := fun hf => by
  rcases h.sub go hf with h1 | h1
  · have := h.old go h1; omega
  · omega
theorem rd_chB {B : Nat} {F : Nat → Prop} {w w' : World} {A : Option Addr} {l : List UInt8} (h : Rd w B A l) (ho : Off F A l) (hc : Ch F w w') (hB : B ≤ w.heap.size) : Rd w' B A l := by
  by_cases hl : l = []
  · exact .inl hl
  rcases h with e | ⟨b, off, e, hb, hcl⟩
  · exact .inl e
  · exact .inr ⟨b, off, e, hb, fun j hj => (World.cell?_of_block (a := ⟨b, off + j, none⟩) (hc.block b (by omega) (ho _ e hl))).trans (hcl j hj)⟩
theorem off_on {F F' : Nat → Prop} {w : World} {A : Option Addr} {l : List UInt8} {B : Nat} (h : Off F A l) (hr : Rd w B A l) (hB : B ≤ w.heap.size) (hF : ∀ k, F' k → F k ∨ w.heap.size ≤ k) : Off F' A l := fun x hx hl hf => by
  rcases hF _ hf with h1 | h1
  · exact h x hx hl h1
  · rcases hr with e | ⟨b, off, e, hb, _⟩
    · exact hl e
    · rw [hx] at e
      simp only [Option.some.injEq] at e
      subst e
      simp at h1
      omega
/-- Behind a step of the oracle. -/
theorem Ex.step (h : Ex B w wr G go F Fj stj A1 key A2 pre P t s M) (ho : OIo B w' G F' st') (hF' : ∀ k, F' k → Fj k ∨ wr.heap.size ≤ k) (hC : Ch Fj wr w') : Ex B w w' G go F F' st' A1 key A2 pre P t s M where
  e := h.e
  o := ho
  old := h.old
  sub := fun k hk => by
    rcases hF' k hk with h1 | h1
    · exact h.sub k h1
    · exact .inr (Nat.lt_of_lt_of_le h.lt h1)
  ch := Ch.then h.ch hC (fun k hk hf => by
    rcases h.sub k hf with h1 | h1
    · exact h1
    · have := h.e; omega)
  k := ⟨rd_chB h.k.1 h.k.2 hC (Nat.le_of_lt h.lt), off_on h.k.2 h.k.1 (Nat.le_of_lt h.lt) hF'⟩
  i := ⟨rd_chB h.i.1 h.i.2 hC (Nat.le_of_lt h.lt), off_on h.i.2 h.i.1 (Nat.le_of_lt h.lt) hF'⟩
  p := h.p.imp id fun ⟨g, e, h1, h2, h3⟩ => ⟨g, e, h1.ch hC h2, fun hf => by
    rcases hF' g hf with h4 | h4
    · exact h2 h4
    · have := h1.lt; omega, h3⟩
  own := own_same h.own (fun x hx => by simp only [Option.some.injEq] at hx; subst hx; exact hC.block go h.lt h.not)
  lt := Nat.lt_of_lt_of_le h.lt hC.size
/-- A new block comes last. -/
theorem Ex.put (h : Ex B w wr G go F Fj stj A1 key A2 pre P t s M) (hg : Grown wr w') {r : Nat} {D : List UInt8} (hr : wr.heap.size ≤ r) (hb : Ba w' r 34 D) : Ex B w w' G go F Fj stj A1 key A2 pre (some ⟨r, 0, none⟩) D s M :=
  { h.grow hg with p := .inr ⟨r, rfl, hb, fun hf => by have := oi_foot B wr G Fj stj h.o r hf; omega, Nat.lt_of_lt_of_le h.lt hr⟩ }
/-- The row has grown in its place. -/
theorem Ex.app (h : Ex B w wr G go F Fj stj A1 key A2 pre P t s M) (hg : wr.grownBy w' (some go)) {s' : List UInt8} (ho : Own w' go (some ⟨go, 0, none⟩) M s') : Ex B w w' G go F Fj stj A1 key A2 pre P t s' M := by
  have hb : ∀ k, k < wr.heap.size → k ≠ go → w'.heap[k]? = wr.heap[k]? := fun k hk hne => hg.block k hk (by simpa using hne)
  have hbe : Below go wr w' := ⟨hg.os, hg.tape, hg.output, hg.size, fun k hk => hb k (by have := h.lt; omega) (by omega)⟩
  exact { e := h.e
          o := oi_same h.o (fun k hk => hb k (oi_foot B wr G Fj stj h.o k hk) (fun e => by subst e; exact h.not hk)) hg.size
          old := h.old
          sub := h.sub
          ch := ⟨hg.os.trans h.ch.os, hg.tape.trans h.ch.tape, hg.output.trans h.ch.output, Nat.le_trans h.ch.size hg.size, fun k hk hf => (hb k (Nat.lt_of_lt_of_le hk h.ch.size) (by have := h.e; omega)).trans (h.ch.block k hk hf)⟩
          k := ⟨h.k.1.below hbe, h.k.2⟩
          i := ⟨h.i.1.below hbe, h.i.2⟩
          p := h.p.imp id fun ⟨g, e, h1, h2, h3⟩ => ⟨g, e, (hb g h1.lt (by omega)).trans h1, h2, h3⟩
          own := ho
          lt := Nat.lt_of_lt_of_le h.lt hg.size }
end
/-- Three pieces in a row that was just made. -/
theorem besL_three {B : Nat} {w : World} {G : Nat} {F : Nat → Prop} {st : St} (h : OIo B w G F st) {A1 A2 A3 : Option Addr} {n1 c1 n2 c2 n3 c3 : Nat} {p q r : List UInt8} (h1 : Bes w F A1 n1 c1 p) (h2 : Bes w F A2 n2 c2 q) (h3 : Bes w F A3 n3 c3 r) :
    BesL (w.alloc (.cells #[.slice A1 n1 c1, .slice A2 n2 c2, .slice A3 n3 c3] 22)) F (some ⟨w.heap.size, 0, none⟩) 3 3 [p, q, r] := by
  have hnew := heap_alloc_new w (.cells #[.slice A1 n1 c1, .slice A2 n2 c2, .slice A3 n3 c3] 22)
  have hc := fun j => cell_of_row _ w.heap.size j _ 22 (0, 0) hnew
  have g := alloc_below w (.cells #[.slice A1 n1 c1, .slice A2 n2 c2, .slice A3 n3 c3] 22)
  have hsz : w.heap.size < (w.alloc (.cells #[.slice A1 n1 c1, .slice A2 n2 c2, .slice A3 n3 c3] 22)).heap.size := by simp
  refine ⟨.inr ⟨w.heap.size, 0, rfl, hsz, fun j hj => ?_⟩, rfl, Nat.le_refl _, fun _ => ⟨w.heap.size, 0, rfl, fun hf => by have := oi_foot B w G F st h _ hf; omega, fun j hj => ?_⟩⟩
  · rcases (show j = 0 ∨ j = 1 ∨ j = 2 by simp at hj; omega) with rfl | rfl | rfl
    · exact ⟨A1, c1, by rw [hc]; simp [h1.2.1], by simpa [h1.2.1] using h1.2.2.1, h1.1.grow g⟩
    · exact ⟨A2, c2, by rw [hc]; simp [h2.2.1], by simpa [h2.2.1] using h2.2.2.1, h2.1.grow g⟩
    · exact ⟨A3, c3, by rw [hc]; simp [h3.2.1], by simpa [h3.2.1] using h3.2.2.1, h3.1.grow g⟩
  · rcases (show j = 0 ∨ j = 1 ∨ j = 2 by simp at hj; omega) with rfl | rfl | rfl
    · exact ⟨A1, c1, by rw [hc]; simp [h1.2.1], h1.2.2.2⟩
    · exact ⟨A2, c2, by rw [hc]; simp [h2.2.1], h2.2.2.2⟩
    · exact ⟨A3, c3, by rw [hc]; simp [h3.2.1], h3.2.2.2⟩
end Go.Proofs.Ytjklgmhaebjjaaa.S12
namespace Go.Proofs.Ytjklgmhaebjjaaa.S12
open S11
open Go.RowKit
set_option linter.unusedVariables false
set_option linter.unusedSimpArgs false

def sLen : Value → Nat
  | .slice _ n _ => n
  | _ => 0
set_option maxHeartbeats 4000000 in
set_option maxRecDepth 20000 in
theorem expand_or {B : Nat} {w : World} {G : Nat} {F : Nat → Prop} {st : St} {i : Nat} {A1 A2 : Option Addr} {c1 n2 c2 n : Nat} {key pre : List UInt8} (hO : OIo B w G F st) (hN : Nm st i) (hi : i ≤ 195) (h1 : Bes w F A1 64 c1 key) (h2 : Bes w F A2 n2 c2 pre) (h3 : n2 ≤ 2100) (hn : n ≤ 200) :
    Calls Try.prog 14 #[.pointer (some ⟨G, 0, none⟩), .slice A1 64 c1, .slice A2 n2 c2, .int .i64 (n : Int)] w fun e w' =>
      ∃ A, e = .returned (.slice A n n) ∧ Rd w' w'.heap.size A ((idealM.drv st key pre ((n + 63) / 64)).2.1.take n) ∧ (∀ x, A = some x → w.heap.size ≤ x.block) ∧
        ∃ F', OIo B w' G F' (idealM.drv st key pre ((n + 63) / 64)).2.2 ∧ (∀ k, F' k → F k ∨ w.heap.size ≤ k) ∧ Ch F w w' ∧ Off F' A ((idealM.drv st key pre ((n + 63) / 64)).2.1.take n) := by
  have HO := Lib.hid hO
  have HN := Lib.hid hN
  have H1 := Lib.hid h1
  have H2 := Lib.hid h2
  obtain ⟨M, hM⟩ : ∃ M, n + 64 = M := ⟨_, rfl⟩
  have hmk := fun W => mk0 M (by omega) W
  have hwr : ((n : Int) + 64) = (M : Int) := by omega
  have HM := Lib.hid hM
  obtain ⟨m, hm⟩ : ∃ m, m = (n + 63) / 64 := ⟨_, rfl⟩
  have hm4 : m ≤ 4 := by omega
  have Hm := Lib.hid hm
  rw [← hm]
  clear hO hN h1 h2 hM hm
  go_enter Try.func14, Try.ntmps14
  go_wp2_with fail
  obtain ⟨go, hgo⟩ : ∃ g, g = w.heap.size := ⟨_, rfl⟩
  have Hgo := Lib.hid hgo
  have X0 := Lib.hid (show Ex B w (w.alloc (.cells (bvs (List.replicate M 0)).toArray 5)) G go F F st A1 key A2 pre none [] [] M from
    { e := hgo
      o := oi_grow HO.out (alloc_below w _)
      old := fun k hk => by rw [hgo]; exact oi_foot B w G F st HO.out k hk
      sub := fun k hk => .inl hk
      ch := Ch.grown (alloc_below w _)
      k := by rw [hgo]; exact ⟨H1.out.1.below (alloc_below w _), H1.out.2.2.2⟩
      i := by rw [hgo]; exact ⟨H2.out.1.below (alloc_below w _), H2.out.2.2.2⟩
      p := .inl rfl
      own := by rw [hgo]; exact own_mk0 w M (by have := HM.out; omega) _ (Nat.le_refl _)
      lt := by rw [hgo]; simp })
  rw [← hgo]
  clear hmk hwr hgo
  generalize w.alloc _ = w0 at X0 ⊢
  go_loopw [9, 10, 11] (fun v9 v10 v11 wr => ∃ (j L pm pc y : Nat) (P : Option Addr) (t s : List UInt8) (stj : St) (Fj : Nat → Prop), v9 = .slice (some ⟨go, 0, none⟩) L M ∧ v10 = .slice P pm pc ∧ v11 = .int .u8 (y : Int) ∧ y = j + 1 ∧ j ≤ m ∧ pm ≤ pc ∧ pm ≤ 64 ∧ Hid (L = 64 * j) ∧ Hid (t.length = pm) ∧ Hid (s.length = L) ∧ Hid (idealM.drv st key pre j = (t, s, stj)) ∧ Hid (Nm stj (i + j)) ∧ Hid (Ex B w wr G go F Fj stj A1 key A2 pre P t s M)) (fun v9 _ _ _ => 20000 - sLen v9)
  case atStart => exact ⟨0, 0, 0, 0, 1, none, [], [], st, F, rfl, rfl, rfl, rfl, Nat.zero_le _, Nat.le_refl _, by omega, rfl, rfl, rfl, rfl, HN.out, X0.out⟩
  case round =>
    clear X0
    obtain ⟨j, L, pm, pc, y, P, t, s, stj, Fj, rfl, rfl, rfl, hy, hj, hpc, hpm, HL, Ht, Hs, HD, HNj, HX⟩ := hrel
    have Hy := Lib.hid hy
    have hy6 : y ≤ 5 := by omega
    clear hy
    by_cases hlt : L < n
    · obtain ⟨x, hx⟩ : ∃ x, x = UInt8.ofNat (j + 1) := ⟨_, rfl⟩
      have Hyx := Lib.hid (show Value.int .u8 (y : Int) = bv x by
        have h1 := Hy.out
        rw [hx, bv, UInt8.toNat_ofNat', h1]
        congr 1
        omega)
      have HT := Lib.hid (show [t, pre, [x]].flatten = t ++ pre ++ [UInt8.ofNat (j + 1)] by rw [hx]; simp)
      have Hfl := Lib.hid (show [t, pre, [x]].flatten.length ≤ 2500 by have h1 := Ht.out; have h2 := H2.out.2.1; simp; omega)
      have Hj := Lib.hid (show j < m by have := Hm.out; have := HL.out; omega)
      clear hx
      go_wp2_with fail
      have GA := Lib.hid (alloc_below wr (.cells #[.int .u8 (y : Int)] 5))
      have RA := Lib.hid (show Bes (wr.alloc (.cells #[.int .u8 (y : Int)] 5)) Fj (some ⟨wr.heap.size, 0, none⟩) 1 1 [x] from ⟨by rw [Hyx.out]; exact (Row.new wr [x]).rd (by simp), rfl, Nat.le_refl _, fun z hz _ hf => by
        simp only [Option.some.injEq] at hz
        subst hz
        have := oi_foot B wr G Fj stj HX.out.o _ hf
        simp at this⟩)
      have hsA : (wr.alloc (.cells #[.int .u8 (y : Int)] 5)).heap.size = wr.heap.size + 1 := by simp
      rw [← hsA]
      clear hsA
      obtain ⟨gx, hgx⟩ : ∃ g, g = wr.heap.size := ⟨_, rfl⟩
      rw [← hgx] at RA ⊢
      clear hgx
      generalize wr.alloc _ = wA at GA RA ⊢
      have XA := Lib.hid (HX.out.grow GA.out)
      have BP := Lib.hid (show Bes wA Fj P pm pc t by have := XA.out.p.bes pc (by rw [Ht.out]; exact hpc); rwa [Ht.out] at this)
      have BI := Lib.hid (show Bes wA Fj A2 n2 c2 pre from ⟨XA.out.i.1.more (Nat.le_of_lt XA.out.lt), H2.out.2.1, H2.out.2.2.1, XA.out.i.2⟩)
      have BL := Lib.hid (besL_three XA.out.o BP.out BI.out RA.out)
      have GB := Lib.hid (alloc_below wA (.cells #[.slice P pm pc, .slice A2 n2 c2, .slice (some ⟨gx, 0, none⟩) 1 1] 22))
      obtain ⟨gb, hgb⟩ : ∃ g, g = wA.heap.size := ⟨_, rfl⟩
      rw [← hgb] at BL ⊢
      clear hgb
      generalize wA.alloc _ = wB at GB BL ⊢
      have XB := Lib.hid (XA.out.grow GB.out)
      have BK := Lib.hid (show Bes wB Fj A1 64 c1 key from ⟨XB.out.k.1.more (Nat.le_of_lt XB.out.lt), H1.out.2.1, H1.out.2.2.1, XB.out.k.2⟩)
      have HNe := Lib.hid (show Nm (idealM.mac stj key [t, pre, [x]].flatten).2 (i + j + 1) from idealM.num_mac stj (i + j) _ _ HNj.out (by have := Hj.out; omega))
      have HDl := Lib.hid (show (idealM.mac stj key [t, pre, [x]].flatten).1.length = 64 from idealM.len_mac stj (i + j) _ _ HNj.out)
      have HDn := Lib.hid (show idealM.drv st key pre (j + 1) = ((idealM.mac stj key [t, pre, [x]].flatten).1, s ++ (idealM.mac stj key [t, pre, [x]].flatten).1, (idealM.mac stj key [t, pre, [x]].flatten).2) by
        rw [HT.out]
        show ((idealM.mac (idealM.drv st key pre j).2.2 key ((idealM.drv st key pre j).1 ++ pre ++ [UInt8.ofNat (j + 1)])).1, _, _) = _
        rw [HD.out])
      refine (seal_or XB.out.o HNj.out (by omega) BK.out (by omega) BL.out (by omega) Hfl.out).mono ?_
      rintro e w2 ⟨rfl, F2, hO2, hF2, hC2⟩
      have X2 := Lib.hid (XB.out.step hO2 hF2 hC2)
      obtain ⟨D, hD⟩ : ∃ D, D = (idealM.mac stj key [t, pre, [x]].flatten).1 := ⟨_, rfl⟩
      obtain ⟨st2, hst2⟩ : ∃ s', s' = (idealM.mac stj key [t, pre, [x]].flatten).2 := ⟨_, rfl⟩
      rw [← hD] at HDl HDn ⊢
      rw [← hst2] at HDn HNe X2
      clear hD hst2 hO2 hF2 hC2 GA RA XA BP BI BL GB XB BK HX HD HNj HT Hfl Hyx
      have hz := fun V : World => zq64 V
      have hcut := fun V : World => cut64 V w2.heap.size
      have GC := Lib.hid (alloc_below w2 (.cells (bvs z64).toArray 34))
      have BC := Lib.hid (Ba.new w2 34 z64)
      have hroom : L + 64 ≤ M := by have := HM.out; omega
      have hlm : L + 64 ≤ 4294967296 := by omega
      go_wp2_with (first
        | (refine wpList_store_ba rfl i64a (.tmp 12) (.tmp 29) rfl rfl (M := D) (by rfl) (L := z64) BC.out rfl HDl.out ?_
           have X4 := Lib.hid (X2.out.put (show Grown w2 ((w2.alloc (.cells (bvs z64).toArray 34)).setRow w2.heap.size (bvs D).toArray) from below_setRow GC.out (Nat.le_refl _) _) (Nat.le_refl _) (BC.out.row D))
           have R4 := Lib.hid (BC.out.row D).rd
           clear GC BC X2
           generalize (w2.alloc _).setRow _ _ = w4 at X4 R4 ⊢)
        | (at_builtin
           refine wpList_appR rfl (.tmp 31) (.tmp 32) rfl (n := L) (n2 := 64) (m := L + 64) Hs.out rfl X4.out.own HDl.out rfl R4.out rfl hroom hlm ?_
           intro w5 ho5 hg5
           have X5 := Lib.hid (X4.out.app hg5 ho5)
           clear ho5 hg5))
      go_roundw
      case rel =>
        refine ⟨j + 1, L + 64, 64, 64, y + 1, _, D, s ++ D, st2, F2, rfl, rfl, by go_num, ?_, ?_, Nat.le_refl _, Nat.le_refl _, ?_, HDl.out, ?_, HDn.out, ?_, X5.out⟩
        · have := Hy.out; omega
        · have := Hj.out; omega
        · show L + 64 = 64 * (j + 1)
          have := HL.out; omega
        · show (s ++ D).length = L + 64
          rw [List.length_append, Hs.out, HDl.out]
        · exact HNe.out
      case measure => simp [sLen]; omega
    · have HE := Lib.hid (show idealM.drv st key pre m = (t, s, stj) by
        rw [show m = j by have := Hm.out; have := HL.out; omega]
        exact HD.out)
      have HnM := Lib.hid (show n ≤ M by have := HM.out; omega)
      have hnm : n ≤ M := HnM.out
      go_wp2
      go_ret
      rw [HE.out]
      refine ⟨_, rfl, ?_, ?_, Fj, HX.out.o, fun k hk => ?_, HX.out.ch, ?_⟩
      · exact HX.out.own.rd.take n
      · intro z hz
        simp only [Option.some.injEq] at hz
        subst hz
        have := Hgo.out
        simp
        omega
      · rcases HX.out.sub k hk with h4 | h4
        · exact .inl h4
        · exact .inr (by have := Hgo.out; omega)
      · intro z hz _ hf
        simp only [Option.some.injEq] at hz
        subst hz
        exact HX.out.not hf
end Go.Proofs.Ytjklgmhaebjjaaa.S12
