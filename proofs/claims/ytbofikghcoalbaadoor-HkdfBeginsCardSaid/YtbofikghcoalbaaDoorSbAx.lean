/-
  What the laws of sha512 ask of the program's Sum.
-/
import Derived.Test.YtbofikghcoalbaaDoorSbSu
import Derived.Test.YtbofikghcoalbaaDoorRdl
import Derived.Deep.MidRow
import Derived.Test.YtbofikghcoalbaaDoorSto
import Derived.Lib.SlBytesConst
namespace Go.Proofs.YtbofikghcoalbaaDoor.S4
open Go.RowKit
set_option linter.unusedVariables false
set_option linter.unusedSimpArgs false

/-- An array of bytes, as a value's cells. -/
def arr (l : List UInt8) : Array Value := (bvs l).toArray
/-- The program's Sum is the digest of its arguments put together. -/
def SumDev : Prop := ∀ (A : Option Addr) (n c : Nat) (ls : List (List UInt8)) (w : World), RdL w w.heap.size A ls → ls.length = n → n ≤ 100000 → ls.flatten.length ≤ 50000 →
  Calls Tryd.prog 19 #[.slice A n c] w fun e w' => e = .returned (.agg (arr (digest (sumV ls.flatten)))) ∧ Grown w w'
theorem rd_block {w : World} {g B : Nat} {l : List UInt8} {fr : Nat × Nat} {t : TypeId} (h : w.heap[g]? = some (.cells (bvs l).toArray t fr)) (hB : g < B) : Rd w B (some ⟨g, 0, none⟩) l :=
  .inr ⟨g, 0, rfl, hB, fun j hj => by rw [Nat.zero_add, cell_of_row w g j _ t fr h]; simp [bvs, hj]⟩
theorem rdL_one {w : World} {A : Option Addr} {p : List UInt8} {n c : Nat} (h : Rd w w.heap.size A p) (hn : p.length = n) (hc : n ≤ c) (fr : Nat × Nat) :
    RdL (w.alloc (.cells #[.slice A n c] 22 fr)) (w.alloc (.cells #[.slice A n c] 22 fr)).heap.size (some ⟨w.heap.size, 0, none⟩) [p] := by
  refine .inr ⟨w.heap.size, 0, rfl, by simp, fun j hj => ?_⟩
  obtain rfl : j = 0 := by simp at hj; omega
  refine ⟨A, c, ?_, by simpa [hn] using hc, h.grow (alloc_below w _)⟩
  rw [cell_of_row _ _ _ _ 22 fr (heap_alloc_new w _)]
  simp [hn]
theorem sum_one (hd : SumDev) {w : World} {A : Option Addr} {p : List UInt8} {n c : Nat} (h : Rd w w.heap.size A p) (hn : p.length = n) (hc : n ≤ c) (hl : n ≤ 50000) (fr : Nat × Nat) :
    Calls Tryd.prog 19 #[.slice (some ⟨w.heap.size, 0, none⟩) 1 1] (w.alloc (.cells #[.slice A n c] 22 fr)) fun e w' => e = .returned (.agg (arr (digest (sumV p)))) ∧ Grown w w' := by
  refine (hd (some ⟨w.heap.size, 0, none⟩) 1 1 [p] _ (rdL_one h hn hc fr) rfl (by omega) (by simp; omega)).mono ?_
  rintro e w' ⟨rfl, hb⟩
  exact ⟨by simp, Grown.trans (alloc_below w _) hb⟩
theorem digest_len (s : St) : (digest s).length = 64 := by
  simp [digest, St.l, wb_len]
theorem arr_size (l : List UInt8) : (arr l).size = l.length := by simp [arr, bvs]
theorem arr_one (l : List UInt8) : (arr l).all (·.oneCell') = true := all_oneCell_toArray (bvs_one l)
theorem infoA : (Tryd.prog.info? 24).map (·.size) = some 64 := by kernel_rfl
end Go.Proofs.YtbofikghcoalbaaDoor.S4
