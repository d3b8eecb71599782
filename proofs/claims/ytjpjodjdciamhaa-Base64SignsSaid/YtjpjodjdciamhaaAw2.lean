/-
  Contract of law02's awake: it returns true, and leaves older memory as it was.
-/
import Derived.Test.YtjpjodjdciamhaaBen
import Derived.Test.YtjpjodjdciamhaaBdc
import Derived.Test.YtjpjodjdciamhaaGrow
import Derived.Lib.SlBytesConst
namespace Go.Proofs.Ytjpjodjdciamhaa
open Go.RowKit
set_option linter.unusedVariables false
set_option linter.unusedSimpArgs false

theorem rd_block {w : World} {g B : Nat} {l : List UInt8} {fr : Nat × Nat} (h : w.heap[g]? = some (.cells (bvs l).toArray 5 fr)) (hB : g < B) : Rd w B (some ⟨g, 0, none⟩) l :=
  .inr ⟨g, 0, rfl, hB, fun j hj => by rw [Nat.zero_add, cell_of_row w g j _ 5 fr h]; simp [bvs, hj]⟩
theorem rdL_one {w : World} {A : Option Addr} {p : List UInt8} {n c : Nat} (h : Rd w w.heap.size A p) (hn : p.length = n) (hc : n ≤ c) (fr : Nat × Nat) :
    RdL (w.alloc (.cells #[.slice A n c] 24 fr)) (w.alloc (.cells #[.slice A n c] 24 fr)).heap.size (some ⟨w.heap.size, 0, none⟩) [p] := by
  refine .inr ⟨w.heap.size, 0, rfl, by simp, fun j hj => ?_⟩
  obtain rfl : j = 0 := by simp at hj; omega
  refine ⟨A, c, ?_, by simpa [hn] using hc, h.grow (alloc_below w _)⟩
  rw [cell_of_row _ _ _ _ 24 fr (heap_alloc_new w _)]
  simp [hn]
/-- Encode of one piece, laid as the call lays it. -/
theorem encode_one {w : World} {A : Option Addr} {p : List UInt8} {n c : Nat} (h : Rd w w.heap.size A p) (hn : p.length = n) (hc : n ≤ c) (hl : n ≤ 50000) (fr : Nat × Nat) :
    Calls Try.prog 9 #[.slice (some ⟨w.heap.size, 0, none⟩) 1 1] (w.alloc (.cells #[.slice A n c] 24 fr)) fun e w' => e = .returned (.string { data := (encL p).toArray }) ∧ Grown w w' := by
  refine (encode_dev (some ⟨w.heap.size, 0, none⟩) 1 1 [p] _ (rdL_one h hn hc fr) rfl (by omega) (by simp; omega)).mono ?_
  rintro e w' ⟨rfl, hb⟩
  exact ⟨by simp, (alloc_below w _).trans (hb.mono (alloc_below w _).size)⟩
theorem not_dec : ¬ Dec [90, 109, 57] := fun h => by
  have h1 := ((dec_three 90 109 57).1 h).2.2.2
  revert h1
  decide +kernel
theorem enc_foobar : encL [102, 111, 111, 98, 97, 114] = [90, 109, 57, 118, 89, 109, 70, 121] := by decide +kernel
theorem enc_fo : encL [102, 111] = [90, 109, 56] := by decide +kernel

set_option maxHeartbeats 1000000 in
theorem awake2 (w : World) : Calls Try.prog 7 #[] w (Says w true) := by
  have kc := fun (W : World) (C : Array Value) (n c : Nat) => Lib.run_convert_bytes_const (P := Try.prog) W 24 5 C n c Try.underlying24 Try.underlying5
  go_enter Try.func7, Try.ntmps7
  go_wp2_with fail
  refine (decode_dev [90, 109, 57] 3 _ rfl (by omega)).mono ?_
  rintro e w1 (⟨hd, _⟩ | ⟨_, rfl, hb1⟩)
  · exact absurd hd not_dec
  have Hb1 := Lib.hid hb1
  clear hb1
  go_wp2_with fail
  have e1 := encode_one (w := w1.alloc (.cells #[.int .u8 102, .int .u8 111, .int .u8 111, .int .u8 98, .int .u8 97, .int .u8 114] 5 (6, 7))) (c := 6) (rd_block (l := [102, 111, 111, 98, 97, 114]) (fr := (6, 7)) (heap_alloc_new _ _) (by simp)) rfl (by simp) (by simp) (0, 0)
  rw [show (w1.alloc (.cells #[.int .u8 102, .int .u8 111, .int .u8 111, .int .u8 98, .int .u8 97, .int .u8 114] 5 (6, 7))).heap.size = w1.heap.size + 1 by simp, enc_foobar] at e1
  refine e1.mono ?_
  rintro e w2 ⟨rfl, hb2⟩
  have Hb2 := Lib.hid (Grown.trans (alloc_below w1 _) hb2)
  clear hb2 e1
  go_wp2_with fail
  have e2 := encode_one (w := w2.alloc (.cells #[.int .u8 102, .int .u8 111] 5 (2, 3))) (c := 2) (rd_block (l := [102, 111]) (fr := (2, 3)) (heap_alloc_new _ _) (by simp)) rfl (by simp) (by simp) (0, 0)
  rw [show (w2.alloc (.cells #[.int .u8 102, .int .u8 111] 5 (2, 3))).heap.size = w2.heap.size + 1 by simp, enc_fo] at e2
  refine e2.mono ?_
  rintro e w3 ⟨rfl, hb3⟩
  have Hb3 := Lib.hid (Grown.trans (alloc_below w2 _) hb3)
  clear hb3 e2
  go_wp2
  go_ret
  exact ⟨rfl, Grown.trans (Grown.trans (show Grown w w1 from Hb1.out) Hb2.out) Hb3.out⟩
end Go.Proofs.Ytjpjodjdciamhaa
