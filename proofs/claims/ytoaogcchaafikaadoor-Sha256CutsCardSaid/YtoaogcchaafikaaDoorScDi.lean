/-
  Contract of the program's digest: the bytes of the value.
-/
import Derived.Test.YtoaogcchaafikaaDoorScDg
import Derived.Test.YtoaogcchaafikaaDoorSaAw
namespace Go.Proofs.YtoaogcchaafikaaDoor.S3
open Go.RowKit
set_option linter.unusedVariables false
set_option linter.unusedSimpArgs false

/-- Where digest stands: its row of bytes holds o. -/
def DiIn (w wr : World) (o : List UInt8) : Prop :=
  wr.heap[w.heap.size + 1]? = some (.cells (bvs o).toArray 26 (0, 0)) ∧ (∃ z, wr.heap[w.heap.size]? = some (.cells z 26 (0, 0)) ∧ z.size = 32) ∧ Below w.heap.size w wr ∧ o.length = 32
theorem DiIn.put {w wr : World} {o : List UInt8} (h : DiIn w wr o) (i : Nat) (x : UInt8) : DiIn w (wr.setCell ⟨w.heap.size + 1, i, none⟩ (.int .u8 (x.toNat : Int))) (o.set i x) := by
  obtain ⟨h1, ⟨z, h2, h3⟩, h4, h5⟩ := h
  refine ⟨?_, ⟨z, (Below.heap_setCell wr _ _ _ (by show w.heap.size ≠ w.heap.size + 1; omega)).trans h2, h3⟩, h4.setCell (by show w.heap.size ≤ w.heap.size + 1; omega) _, by simpa using h5⟩
  rw [heap_setCell_same wr (w.heap.size + 1) i _ _ (.int .u8 (x.toNat : Int)) h1]
  congr 2
  simp only [List.setIfInBounds_toArray, bvs]
  congr 1
  rw [show Value.int .u8 (x.toNat : Int) = bv x from rfl, ← List.map_set]
theorem wpList_store_di {P : Program} {w wr : World} {ops : Array Oper} {rest : List Oper} {o : Oper} {a : Act} {Q : Exit → Act → World → Prop} (hgd : o.guard = none) (x y : Operand) (ho : o.op = .store 5 x y) (hag : P.underlying 5 = some (.int .u8)) (hsz : (P.info? 5).map (·.size) = some 1)
    {l : List UInt8} {i : Nat} {b : UInt8} (hx : a.eval x = .pointer (some ⟨w.heap.size + 1, i, none⟩)) (hy : a.eval y = .int .u8 (b.toNat : Int)) (h : DiIn w wr l) (hi : i < 32)
    (hk : ∀ wr', DiIn w wr' (l.set i b) → wpList P ops Q rest (a.put o.dst undef) wr') : wpList P ops Q (o :: rest) a wr := by
  refine wpList_plain hgd fun K hK => ?_
  have hc : wr.cell? ⟨w.heap.size + 1, i, none⟩ = some (bv (l.getD i 0)) := by
    rw [cell_of_row wr _ i _ _ _ h.1]
    have hil : i < l.length := by rw [h.2.2.2]; exact hi
    simp [bvs, hil]
  have hf : wr.frozen? ⟨w.heap.size + 1, i, none⟩ = false := frozen_of_row wr _ i _ _ h.1
  have hs : (storeVar 5 ⟨w.heap.size + 1, i, none⟩ (.int .u8 (b.toNat : Int))).run P wr = .ok () (wr.setCell ⟨w.heap.size + 1, i, none⟩ (.int .u8 (b.toNat : Int))) := by
    cases hq : P.info? 5 with
    | none => simp [hq] at hsz
    | some i0 =>
      have hs1 : i0.size = 1 := by simpa [hq] using hsz
      have hst : (store ((⟨w.heap.size + 1, i, none⟩ : Addr).add 0) (.int .u8 (b.toNat : Int))).run P wr = .ok () (wr.setCell ⟨w.heap.size + 1, i, none⟩ (.int .u8 (b.toNat : Int))) := by
        rw [show (⟨w.heap.size + 1, i, none⟩ : Addr).add 0 = ⟨w.heap.size + 1, i, none⟩ from Addr.add_mid _ _ _, run_store P wr _ _ _ rfl, hc]
        simp [hf]
      simp [storeVar, sizeOf, typeInfo, hq, Value.cells, hs1, storeCells, hst]
  unfold Oper.wp execOp
  simp only [ho, hx, hy, Instr.storeAt, Instr.sureAddr, Sem.run_bind, Sem.run_pure, Result.andThen_ok, hs]
  exact hK _ _ (hk _ (h.put i b))
/-- The first k words of a value, as bytes; behind them noughts. -/
def dout (v : St) (k : Nat) : List UInt8 := (digest v).take (4 * k) ++ List.replicate (32 - 4 * k) 0
def wbyte (x : UInt32) (j : Nat) : UInt8 := UInt8.ofNat (x.toNat / 256 ^ (3 - j) % 256)
theorem dout_next (v : St) (k : Nat) (hk : k < 8) : ((((dout v k).set (4 * k) (wbyte (v.l.getD k 0) 0)).set (4 * k + 1) (wbyte (v.l.getD k 0) 1)).set (4 * k + 2) (wbyte (v.l.getD k 0) 2)).set (4 * k + 3) (wbyte (v.l.getD k 0) 3) = dout v (k + 1) := by
  match k, hk with
  | 0, _ | 1, _ | 2, _ | 3, _ | 4, _ | 5, _ | 6, _ | 7, _ => rfl
theorem dout_top (v : St) : dout v 8 = digest v := by
  simp only [dout]
  rw [List.take_of_length_le (by rw [digest_len]; omega)]
  simp
theorem byte_at (x : UInt32) (n j : Nat) (h : 256 ^ (3 - j) = n) : IntKind.u8.wrap ((x.toNat : Int) / (n : Int)) = ((wbyte x j).toNat : Int) := by
  have e : (wbyte x j).toNat = x.toNat / n % 256 := by
    unfold wbyte
    rw [h, UInt8.toNat_ofNat']
    omega
  rw [IntKind.wrap_u8, e]
  omega
end Go.Proofs.YtoaogcchaafikaaDoor.S3
