/-
  A block of 16 bytes: loaded, stored, whole or by bytes; a slice of bytes cut.
-/
import Derived.Test.YtgfmdjagggnfbaaXtL
import Derived.Test.YtgfmdjagggnfbaaAeE
import Derived.Test.YtgfmdjagggnfbaaGrt
namespace Go.Proofs.Ytgfmdjagggnfbaa.S8
open Go.RowKit
open Go.Proofs.Ytgfmdjagggnfbaa.S7 hiding intOf
set_option linter.unusedVariables false
set_option linter.unusedSimpArgs false

/-- Block g is the bytes l, as a block of type t. -/
def Br (w : World) (g : Nat) (l : List UInt8) : Prop := w.heap[g]? = some (.cells (bvs l).toArray 37 (0, 0))
section
variable {w w' : World} {g : Nat} {l : List UInt8}
theorem Br.cell (h : Br w g l) (i : Nat) (hi : i < l.length) : w.cell? ⟨g, i, none⟩ = some (.int .u8 ((gt l i).toNat : Int)) := by
  rw [cell_of_row w g i _ _ (0, 0) h]; simp [bvs, bv, gt, hi]
theorem Br.free (h : Br w g l) (i : Nat) : w.frozen? ⟨g, i, none⟩ = false := frozen_of_row w g i _ _ h
theorem Br.put (h : Br w g l) (i : Nat) (x : UInt8) : Br (w.setCell ⟨g, i, none⟩ (.int .u8 (x.toNat : Int))) g (l.set i x) := by
  unfold Br at *
  rw [heap_setCell_same w g i _ _ _ h]
  simp [bvs, bv, List.map_set]
theorem Br.far (h : Br w g l) {p : Addr} (hp : g ≠ p.block) (u : Value) : Br (w.setCell p u) g l := (Below.heap_setCell w p u g hp).trans h
theorem Br.lt (h : Br w g l) : g < w.heap.size := lt_of_heap h
theorem Br.alloc (h : Br w g l) (o : Obj) : Br (w.alloc o) g l := (Below.heap_alloc w o g h.lt).trans h
theorem Br.grow (h : Br w g l) (hb : Grown w w') : Br w' g l := (hb.block g h.lt).trans h
theorem Br.new (w : World) (l : List UInt8) : Br (w.alloc (.cells (bvs l).toArray 37)) w.heap.size l := heap_alloc_new w _
theorem Br.row (h : Br w g l) (m : List UInt8) : Br (w.setRow g (bvs m).toArray) g m := setRow_at h
theorem Br.off (h : Br w g l) {k : Nat} (hk : g ≠ k) (cs : Array Value) : Br (w.setRow k cs) g l := (setRow_other w k g cs (by omega)).trans h
end
theorem sz16 {l : List UInt8} (h : l.length = 16) : (Try.prog.info? 37).map (·.size) = some (bvs l).toArray.size := by rw [show (bvs l).toArray.size = 16 by simp [bvs, h]]; exact i16B
theorem on16 (l : List UInt8) : (bvs l).toArray.all (·.oneCell') = true := all_oneCell_toArray (bvs_one l)
section
variable {P : Program} {W : World} {op : Oper} {a : Act} {K : Act → World → Prop} {Q : Exit → Act → World → Prop} {g : Nat}
theorem wp_load_br (x : Operand) (ho : op.op = .load 37 x) (hx : a.eval x = .pointer (some ⟨g, 0, none⟩)) {L : List UInt8} (h : Br W g L) (hL : L.length = 16) (hk : K (a.put op.dst (.agg (bvs L).toArray)) W) : op.wp Try.prog a W K Q := by
  have hl := run_loadVar_row (P := Try.prog) W g 37 37 _ _ _ h u16B (by simp) (sz16 hL)
  unfold Oper.wp execOp
  simp only [ho, hx, Instr.loadAt, Instr.sureAddr, Sem.run_bind, Sem.run_pure, Result.andThen_ok, hl]
  exact hk
theorem wp_store_br (x y : Operand) (ho : op.op = .store 37 x y) (hx : a.eval x = .pointer (some ⟨g, 0, none⟩)) {L M : List UInt8} (hy : a.eval y = .agg (bvs M).toArray) (h : Br W g L) (hL : L.length = 16) (hM : M.length = 16) (hk : K (a.put op.dst undef) (W.setRow g (bvs M).toArray)) : op.wp Try.prog a W K Q := by
  have hr := run_storeVar_row (P := Try.prog) W g 37 37 _ _ h (sz16 hM) (by simp [bvs, hL, hM]) (on16 M)
  unfold Oper.wp execOp
  simp only [ho, hx, hy, Instr.storeAt, Instr.sureAddr, Sem.run_bind, Sem.run_pure, Result.andThen_ok, hr]
  exact hk
variable {ops : Array Oper} {rest : List Oper}
theorem wpList_load_br (hgd : op.guard = none) (x : Operand) (ho : op.op = .load 37 x) (hx : a.eval x = .pointer (some ⟨g, 0, none⟩)) {L : List UInt8} (h : Br W g L) (hL : L.length = 16) (hk : wpList Try.prog ops Q rest (a.put op.dst (.agg (bvs L).toArray)) W) : wpList Try.prog ops Q (op :: rest) a W :=
  wpList_plain hgd fun _ hK => wp_load_br x ho hx h hL (hK _ _ hk)
theorem wpList_store_br (hgd : op.guard = none) (x y : Operand) (ho : op.op = .store 37 x y) (hx : a.eval x = .pointer (some ⟨g, 0, none⟩)) {L M : List UInt8} (hy : a.eval y = .agg (bvs M).toArray) (h : Br W g L) (hL : L.length = 16) (hM : M.length = 16) (hk : wpList Try.prog ops Q rest (a.put op.dst undef) (W.setRow g (bvs M).toArray)) : wpList Try.prog ops Q (op :: rest) a W :=
  wpList_plain hgd fun _ hK => wp_store_br x y ho hx hy h hL hM (hK _ _ hk)
end
theorem cut_k (W : World) (A : Option Addr) (m c d : Nat) (h : d ≤ m) : (Instr.slice 23 (.slice A m c) (some (.int .i64 (d : Int))) none none).run Try.prog W = .ok (.slice (if c = d then A else A.map (·.add d)) (m - d) (c - d)) W := by
  obtain ⟨i0, hi, hz0, hz1, hz2⟩ := info_parts info5
  have he : Try.prog.elem 23 = 5 := by kernel_rfl
  rw [run_slice_l W 23 A m c (by rw [he]; exact Try.underlying23) .i64 (d : Int) (by omega) (by omega), he]
  simp [sizeOf, typeInfo, hi, hz1, sliced, Result.andThen]
def numF (n i : Nat) : UInt8 := UInt8.ofNat (n / 256 ^ i % 256)
theorem num_eight (n : Nat) (h : n < 9223372036854775808) : pt (numF n) zs16 8 = numL n := mk_congr fun i hi => by
  by_cases h8 : i < 8
  · rw [if_pos h8]; rfl
  · rw [if_neg h8]
    have : n / 256 ^ i = 0 := Nat.div_eq_of_lt (Nat.lt_of_lt_of_le h (by have := Nat.pow_le_pow_right (n := 256) (by omega) (show 8 ≤ i by omega); omega))
    rw [this]
    have hz : ∀ j : Fin 16, gt zs16 j.val = 0 := by decide +kernel
    exact (hz ⟨i, hi⟩).trans (by simp)
theorem wr64 (n : Nat) (h : n < 100000) : IntKind.i64.wrap (n : Int) = (n : Int) := by rw [IntKind.wrap_i64]; omega
theorem x_u8 (a b : UInt8) : bits .xor .u8 (a.toNat : Int) (b.toNat : Int) = ((a ^^^ b).toNat : Int) := by
  have ha := u8_lt a
  have hb := u8_lt b
  have hx : a.toNat ^^^ b.toNat < 2 ^ 8 := Nat.xor_lt_two_pow (by omega) (by omega)
  rw [UInt8.toNat_xor]
  show IntKind.u8.wrap ((BitVec.ofInt 8 (a.toNat : Int) ^^^ BitVec.ofInt 8 (b.toNat : Int)).toNat : Int) = _
  rw [BitVec.toNat_xor, BitVec.toNat_ofInt, BitVec.toNat_ofInt, IntKind.wrap_u8]
  rw [show ((a.toNat : Int) % (2 ^ 8 : Nat)).toNat = a.toNat by omega, show ((b.toNat : Int) % (2 ^ 8 : Nat)).toNat = b.toNat by omega]
  omega
end Go.Proofs.Ytgfmdjagggnfbaa.S8
