/-
  Two of the program's oracles side by side, with a cipher of each; a row of arrays of sixteen octets. From what the rows tell of a byte slice to a list of bytes.
-/
import Derived.Test.YtjklgmhaebjjaaaGreatMgOidealMain41
import Derived.Test.YtjklgmhaebjjaaaGreatMgOidealMain44
import Derived.Test.YtjklgmhaebjjaaaGreatMgOidealMain2
import Derived.ProofKit
import Derived.OpenShut
import Derived.ShutString
import Derived.ChangeOld
import Derived.Below
namespace Go.Proofs.YtjklgmhaebjjaaaGreat.S12
open S11
open Go.RowKit
set_option linter.unusedVariables false
set_option linter.unusedSimpArgs false

/-- A load of a row, the same in every world that meets S. -/
theorem restS_range {P : Program} {ops : Array Oper} {Q : Exit → Act → World → Prop} {S : World → Prop} {i : Nat} {d : Option Tmp} {op : Op} {ty : TypeId} {pos : String} {after : Array Edge} {guard : Option (Nat × Bool)} {fuel : Nat} {listed : Array Bool} {a : Act} {w : World} (hSw : S w) (hi : ops[i]? = some ⟨d, op, ty, pos, after, guard⟩)
    (hs : Region.noSelect ops = true) (hf : Region.free .any ops listed i = true) (hr : (Region.ready .any ops listed).contains i = true) (hwn : Region.wanted ⟨d, op, ty, pos, after, guard⟩ (yielded ops a.tmps) = true)
    (t : TypeId) (x : Operand) (ho : op = .load t x) (b o : Nat) (hx : a.eval x = .pointer (some ⟨b, o, none⟩)) (cs : List Value) (de : TypeDesc) (hS : ∀ w, S w → w.rangeAt b o cs)
    (hu : P.underlying t = some de) (hd : de.isRow = true) (hz : (P.info? t).map (·.size) = some cs.length)
    (h : RestS P ops Q S fuel (listed.setIfInBounds i true) (a.put d (.agg cs.toArray)) w) : RestS P ops Q S (fuel + 1) listed a w :=
  wpAnyH_take hi hs hf hr (fun _ _ _ h => h) (yieldsIf_load_mid hwn t x ho b o hx cs de hS hu hd hz) hSw h
theorem range_below {w w' : World} {B b o : Nat} {cs : List Value} (h : w.rangeAt b o cs) (hb : b < B) (hg : Below B w w') : w'.rangeAt b o cs :=
  fun j v hv => (World.cell?_of_block (a := ⟨b, o + j, none⟩) (hg.block b hb)).trans (h j v hv)
theorem range_rdB {w : World} {B b o : Nat} {l : List UInt8} (h : w.rangeAt b o (bvs l)) (hb : b < B) : Rd w B (some ⟨b, o, none⟩) l :=
  .inr ⟨b, o, rfl, hb, fun j hj => h j _ (by simp [bvs, hj])⟩
theorem sz16 (l : List UInt8) (h : l.length = 16) : (Tryz.prog.info? 62).map (·.size) = some (bvs l).length := by rw [i16a, bvs_length, h]
theorem cut16o (W : World) (g o : Nat) : (Instr.sliceAt 62 (.pointer (some ⟨g, o, none⟩)) none none none).run Tryz.prog W = .ok (.slice (some ⟨g, o, none⟩) 16 16) W := by
  have i5 : (Tryz.prog.info? 5).map (·.size) = some 1 := by kernel_rfl
  have u16 : Tryz.prog.underlying 62 = some (.array 16 5) := by kernel_rfl
  go_simp
  try done
theorem ne_arr (l : List UInt8) (t : TypeId) (n : Nat) (hu : Tryz.prog.underlying t = some (.array n 5)) (hgt : Tryz.prog.eqGuardType Tryz.prog.depth t = false) (hl : l.length = n) {a : Act} {d : Option Tmp} {ty t2 : TypeId} {pos : String} {after : Array Edge} {guard : Option (Nat × Bool)} (x y : Operand)
    (hx : a.eval x = .agg (bvs l).toArray) (hy : a.eval y = .agg (bvs l).toArray) (w : World) : (execOp a.eval ⟨d, .binOp .neq t x y t2, ty, pos, after, guard⟩).run Tryz.prog w = .ok (.value (.bool false)) w := by
  have h : (Op.equal t (.agg (bvs l).toArray) (.agg (bvs l).toArray)).run Tryz.prog w = .ok true w := eq_self l t n hu hl 9998 w
  have hb : (binOp .neq t (.agg (bvs l).toArray) (.agg (bvs l).toArray)).run Tryz.prog w = .ok (.bool false) w := by
    simp only [binOp]
    simp [h]
  have hg : (eqGuard .neq t x y (.agg (bvs l).toArray) (.agg (bvs l).toArray)).run Tryz.prog w = .ok () w := by
    unfold eqGuard
    simp [hgt, run_program]
  unfold execOp
  simp only [hx, hy, Sem.run_bind, hg, Result.andThen_ok, hb, Sem.run_pure]
theorem u64s : Tryz.prog.underlying 43 = some (.array 64 5) := by kernel_rfl
theorem gt64 : Tryz.prog.eqGuardType Tryz.prog.depth 43 = false := by kernel_rfl

theorem mk32k (V : World) : (Instr.makeSlice 22 (.int .i64 32) (.int .i64 32)).run Tryz.prog V = .ok (.slice (some ⟨V.heap.size, 0, none⟩) 32 32) (V.alloc (.cells (bvs z32).toArray 5)) := by
  have := mk22 32 (by omega) V
  exact this
/-- A row of arrays, at D, below B. -/
def RdR (w : World) (B : Nat) (D : Option Addr) (xs : List (List UInt8)) : Prop :=
  xs = [] ∨ ∃ b off, D = some ⟨b, off, none⟩ ∧ b < B ∧ ∀ i (h : i < xs.length), xs[i].length = 16 ∧ w.rangeAt b (off + i * 16) (bvs xs[i])
def nth (xs : List (List UInt8)) (k : Nat) : List UInt8 := xs.getD k []
theorem RdR.at_ {w : World} {B : Nat} {D : Option Addr} {xs : List (List UInt8)} (h : RdR w B D xs) (hne : xs ≠ []) : ∃ b off, D = some ⟨b, off, none⟩ ∧ b < B ∧ ∀ i, i < xs.length → (nth xs i).length = 16 ∧ w.rangeAt b (off + i * 16) (bvs (nth xs i)) := by
  rcases h with e | ⟨b, off, e, hb, hc⟩
  · exact absurd e hne
  · refine ⟨b, off, e, hb, fun i hi => ?_⟩
    have : nth xs i = xs[i] := by simp [nth, hi]
    rw [this]
    exact hc i hi

/-- One piece, at block g. -/
theorem besL_at {v : World} {F : Nat → Prop} {g : Nat} {A : Option Addr} {n c : Nat} {p : List UInt8} (h : v.heap[g]? = some (.cells #[.slice A n c] 22 (0, 0))) (hg : ¬ F g) (hp : Bes v F A n c p) : BesL v F (some ⟨g, 0, none⟩) 1 1 [p] := by
  have hc := fun j => cell_of_row v g j _ 22 (0, 0) h
  obtain ⟨r1, rfl, k1, o1⟩ := hp
  refine ⟨.inr ⟨g, 0, rfl, lt_of_heap h, fun j hj => ?_⟩, rfl, Nat.le_refl _, fun _ => ⟨g, 0, rfl, hg, fun j hj => ?_⟩⟩
  · obtain rfl : j = 0 := by simp at hj; omega
    exact ⟨A, c, by rw [hc]; rfl, k1, r1⟩
  · obtain rfl : j = 0 := by simp at hj; omega
    exact ⟨A, c, by rw [hc]; rfl, o1⟩
theorem besNil (v : World) (F : Nat → Prop) : Bes v F none 0 0 [] := ⟨.inl rfl, rfl, Nat.le_refl _, fun x hx => by cases hx⟩
/-- Two oracles side by side. -/
structure Duo (M : Mod) (O : Ob M) (B G R : Nat) (w : World) (F F2 : Nat → Prop) (st st2 : M.σ) : Prop where
  p : O w G F st
  r : O w R F2 st2
  apart : ∀ k, F k → ¬ F2 k
  pB : ∀ k, F k → B ≤ k
  rB : ∀ k, F2 k → B ≤ k
  bw : B ≤ w.heap.size
/-- A cipher's own blocks: beside both, and as they were in w1. -/
structure Fc (FB : Nat → Prop) (w1 : World) (v : World) (F F2 : Nat → Prop) : Prop where
  loc : ∀ k, FB k → ¬ F k ∧ ¬ F2 k ∧ k < w1.heap.size
  same : ∀ k, FB k → v.heap[k]? = w1.heap[k]?
  size : w1.heap.size ≤ v.heap.size
section
variable {M : Mod} {O : Ob M} {B G R : Nat} {w w' w1 : World} {F F2 F' FB : Nat → Prop} {st st2 st' : M.σ}
theorem Duo.grow (K : Kept B O) (h : Duo M O B G R w F F2 st st2) (hg : Grown w w') : Duo M O B G R w' F F2 st st2 :=
  { h with
    p := K.grow h.p h.bw hg
    r := K.grow h.r h.bw hg
    bw := Nat.le_trans h.bw hg.size }
theorem Duo.stepP (K : Kept B O) (h : Duo M O B G R w F F2 st st2) (h1 : O w' G F' st') (h2 : ∀ k, F' k → F k ∨ w.heap.size ≤ k) (h3 : Ch F w w') : Duo M O B G R w' F' F2 st' st2 where
  p := h1
  r := K.keep w w' R F2 st2 h.r (fun k hk => h3.block k (by rcases hk with hk | hk; exact K.foot w R F2 st2 h.r k hk; have := h.bw; omega) (fun hf => by rcases hk with hk | hk; exact h.apart k hf hk; have := h.pB k hf; omega)) h3.size
  apart k hk hr := by
    rcases h2 k hk with h4 | h4
    · exact h.apart k h4 hr
    · have := K.foot w R F2 st2 h.r k hr; omega
  pB k hk := by
    rcases h2 k hk with h4 | h4
    · exact h.pB k h4
    · exact Nat.le_trans h.bw h4
  rB := h.rB
  bw := Nat.le_trans h.bw h3.size
theorem Duo.stepR (K : Kept B O) (h : Duo M O B G R w F F2 st st2) (h1 : O w' R F' st') (h2 : ∀ k, F' k → F2 k ∨ w.heap.size ≤ k) (h3 : Ch F2 w w') : Duo M O B G R w' F F' st st' where
  p := K.keep w w' G F st h.p (fun k hk => h3.block k (by rcases hk with hk | hk; exact K.foot w G F st h.p k hk; have := h.bw; omega) (fun hf => by rcases hk with hk | hk; exact h.apart k hk hf; have := h.rB k hf; omega)) h3.size
  r := h1
  apart k hk hr := by
    rcases h2 k hr with h4 | h4
    · exact h.apart k hk h4
    · have := K.foot w G F st h.p k hk; omega
  pB := h.pB
  rB k hk := by
    rcases h2 k hk with h4 | h4
    · exact h.rB k h4
    · exact Nat.le_trans h.bw h4
  bw := Nat.le_trans h.bw h3.size
theorem Fc.grow (h : Fc FB w1 w F F2) (hg : Grown w w') : Fc FB w1 w' F F2 :=
  ⟨h.loc, fun k hk => (hg.block k (Nat.lt_of_lt_of_le (h.loc k hk).2.2 h.size)).trans (h.same k hk), Nat.le_trans h.size hg.size⟩
theorem Fc.stepP (h : Fc FB w1 w F F2) (h2 : ∀ k, F' k → F k ∨ w.heap.size ≤ k) (hc : Ch F w w') : Fc FB w1 w' F' F2 :=
  ⟨fun k hk => ⟨fun hf => by
    rcases h2 k hf with h4 | h4
    · exact (h.loc k hk).1 h4
    · have := (h.loc k hk).2.2; have := h.size; omega, (h.loc k hk).2⟩, fun k hk => (hc.block k (Nat.lt_of_lt_of_le (h.loc k hk).2.2 h.size) (h.loc k hk).1).trans (h.same k hk), Nat.le_trans h.size hc.size⟩
theorem Fc.stepR (h : Fc FB w1 w F F2) (h2 : ∀ k, F' k → F2 k ∨ w.heap.size ≤ k) (hc : Ch F2 w w') : Fc FB w1 w' F F' :=
  ⟨fun k hk => ⟨(h.loc k hk).1, fun hf => by
    rcases h2 k hf with h4 | h4
    · exact (h.loc k hk).2.1 h4
    · have := (h.loc k hk).2.2; have := h.size; omega, (h.loc k hk).2.2⟩, fun k hk => (hc.block k (Nat.lt_of_lt_of_le (h.loc k hk).2.2 h.size) (h.loc k hk).2.1).trans (h.same k hk), Nat.le_trans h.size hc.size⟩
theorem Duo.besP (h : Duo M O B G R w F F2 st st2) {A : Option Addr} {n c : Nat} {l : List UInt8} (hr : Rd w B A l) (hl : l.length = n) (hn : n ≤ c) : Bes w F A n c l := ⟨hr.more h.bw, hl, hn, off_below hr h.pB⟩
theorem Duo.besR (h : Duo M O B G R w F F2 st st2) {A : Option Addr} {n c : Nat} {l : List UInt8} (hr : Rd w B A l) (hl : l.length = n) (hn : n ≤ c) : Bes w F2 A n c l := ⟨hr.more h.bw, hl, hn, off_below hr h.rB⟩
/-- What was made last is neither's. -/
theorem Duo.new (K : Kept B O) (h : Duo M O B G R w F F2 st st2) : ¬ F w.heap.size ∧ ¬ F2 w.heap.size :=
  ⟨fun hf => by have := K.foot w G F st h.p _ hf; omega, fun hf => by have := K.foot w R F2 st2 h.r _ hf; omega⟩
/-- What a call of one of them leaves of all below B. -/
theorem ch_belowB (h : Ch F w w') (hF : ∀ k, F k → B ≤ k) (hB : B ≤ w.heap.size) : Below B w w' :=
  ⟨h.os, h.tape, h.output, h.size, fun k hk => h.block k (by omega) (fun hf => by have := hF k hf; omega)⟩
/-- A piece of sixteen octets, alone in a row at block g, which is neither's. -/
structure Pc (w : World) (F F2 : Nat → Prop) (g b o : Nat) : Prop where
  row : w.heap[g]? = some (.cells #[.slice (some ⟨b, o, none⟩) 16 16] 22 (0, 0))
  nP : ¬ F g
  nR : ¬ F2 g
theorem Pc.grow {g b o : Nat} (h : Pc w F F2 g b o) (hg : Grown w w') : Pc w' F F2 g b o := ⟨(hg.block g (lt_of_heap h.row)).trans h.row, h.nP, h.nR⟩
theorem Pc.stepP {g b o : Nat} (h : Pc w F F2 g b o) (h2 : ∀ k, F' k → F k ∨ w.heap.size ≤ k) (hc : Ch F w w') : Pc w' F' F2 g b o :=
  ⟨(hc.block g (lt_of_heap h.row) h.nP).trans h.row, fun hf => by
    rcases h2 g hf with h4 | h4
    · exact h.nP h4
    · have := lt_of_heap h.row; omega, h.nR⟩
theorem Pc.stepR {g b o : Nat} (h : Pc w F F2 g b o) (h2 : ∀ k, F' k → F2 k ∨ w.heap.size ≤ k) (hc : Ch F2 w w') : Pc w' F F' g b o :=
  ⟨(hc.block g (lt_of_heap h.row) h.nR).trans h.row, h.nP, fun hf => by
    rcases h2 g hf with h4 | h4
    · exact h.nR h4
    · have := lt_of_heap h.row; omega⟩
theorem Pc.new (K : Kept B O) (h : Duo M O B G R w F F2 st st2) (b o : Nat) : Pc (w.alloc (.cells #[.slice (some ⟨b, o, none⟩) 16 16] 22)) F F2 w.heap.size b o :=
  ⟨heap_alloc_new w _, (h.new K).1, (h.new K).2⟩
end
end Go.Proofs.YtjklgmhaebjjaaaGreat.S12
namespace Go.Proofs.YtjklgmhaebjjaaaGreat
open Go.ChangeShapes Go.WideShapes Go.ChangeAt Go.RowKit
open Go.ChangeMaps (open_string shut_string)
set_option linter.unusedVariables false

theorem own : ownKnob Tryz.prog.godebug = none := by kernel_rfl
theorem laidOut : laidOutB Tryz.prog = true := by kernel_rfl

/-- A slice of integers that came in: nil, or a row of 'cap' numbers of its kind. -/
def IsRow (k : IntKind) (w : World) (a : Option Addr) (len cap : Nat) (zs : List Int) : Prop :=
  (a = none ∧ len = 0 ∧ cap = 0 ∧ zs = []) ∨
  ∃ x, a = some x ∧ len ≤ cap ∧ cap ≤ maxLen ∧ zs.length = cap ∧ (∀ i, i < zs.length → w.cell? (x.add i) = some (.int k (zs.getD i 0))) ∧ ∀ n ∈ zs, (Lit.int k n).wf = true

theorem rd_of_row {w : World} {a : Option Addr} {len cap : Nat} {zs : List Int} (h : IsRow .u8 w a len cap zs) : ∃ l : List UInt8, l.length = len ∧ Rd w w.heap.size a l ∧ len ≤ cap ∧ cap ≤ maxLen := by
  rcases h with ⟨rfl, rfl, rfl, rfl⟩ | ⟨x, rfl, h1, h2, h3, h4, h5⟩
  · exact ⟨[], rfl, .inl rfl, Nat.le_refl _, by unfold maxLen; omega⟩
  · refine ⟨(zs.take len).map fun n => UInt8.ofNat n.toNat, by simp; omega, ?_, h1, h2⟩
    by_cases h0 : len = 0
    · subst h0; exact .inl (by simp)
    · have hc0 := h4 0 (by omega)
      obtain ⟨b, off, spot⟩ := x
      have hspot : spot = none := by simpa [Addr.add] using World.cell?_spot hc0
      subst hspot
      have hlt : b < w.heap.size := by
        have := World.block_lt_of_cell? w _ hc0
        simpa [Addr.add] using this
      refine .inr ⟨b, off, rfl, hlt, fun j hj => ?_⟩
      simp at hj
      have hcj := h4 j (by omega)
      have eg : zs.getD j 0 = zs[j] := by simp [show j < zs.length by omega]
      have hw := h5 (zs.getD j 0) (by rw [eg]; exact List.getElem_mem _)
      have hb := bounds_u8 hw
      have e : (⟨b, off, none⟩ : Addr).add j = ⟨b, off + j, none⟩ := by
        by_cases hj0 : j = 0
        · subst hj0; simp [Addr.add]
        · simp [Addr.add, hj0]
      rw [e] at hcj
      rw [hcj]
      congr 1
      unfold bv
      simp only [List.getElem_map, List.getElem_take]
      rw [eg] at hb ⊢
      congr 1
      rw [UInt8.toNat_ofNat']
      omega
end Go.Proofs.YtjklgmhaebjjaaaGreat
