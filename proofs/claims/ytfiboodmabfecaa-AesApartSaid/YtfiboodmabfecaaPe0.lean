/-
  What the laws of aes share.
-/
import Derived.Test.YtfiboodmabfecaaPdW
import Derived.Test.YtfiboodmabfecaaPdQ
namespace Go.Proofs.Ytfiboodmabfecaa.S7
open Go.RowKit
set_option linter.unusedVariables false
set_option linter.unusedSimpArgs false

/-- The key and a block that came in, boxed. -/
def In2 (w v : World) (k b : List UInt8) : Prop := Grown w v ∧ Bk v w.heap.size 22 k ∧ Bk v (w.heap.size + 1) 23 b
theorem In2.start (w : World) (k b : List UInt8) : In2 w ((w.alloc (.cells (bvs k).toArray 22)).alloc (.cells (bvs b).toArray 23)) k b := ⟨two_grown w _ _, first_new w _ _, two_new w _ _⟩
theorem In2.grow {w v v' : World} {k b : List UInt8} (h : In2 w v k b) (hg : Grown v v') : In2 w v' k b := ⟨h.1.trans hg, h.2.1.grow hg, h.2.2.grow hg⟩
theorem In2.rd {w v : World} {k b : List UInt8} (h : In2 w v k b) : Rd v v.heap.size (some ⟨w.heap.size, 0, none⟩) k := bk_rd h.2.1 h.2.1.lt
end Go.Proofs.Ytfiboodmabfecaa.S7
