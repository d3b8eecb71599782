/-
  What the laws of sha512 ask of the program's Sum and Fill; awake.
-/
import Derived.Test.YtbelcocgkimkbaaDoorSbSu
import Derived.Test.YtbelcocgkimkbaaDoorRhx
import Derived.Test.YtbelcocgkimkbaaDoorAll
import Derived.Deep.MidRow
import Derived.Test.YtbelcocgkimkbaaDoorSto
import Derived.Lib.SlBytesConst
namespace Go.Proofs.YtbelcocgkimkbaaDoor.S4
open Go.RowKit
set_option linter.unusedVariables false
set_option linter.unusedSimpArgs false

/-- An array of bytes, as a value's cells. -/
def arr (l : List UInt8) : Array Value := (bvs l).toArray
/-- The program's Sum is the digest of its arguments put together. -/
def SumDev : Prop := ∀ (A : Option Addr) (n c : Nat) (ls : List (List UInt8)) (w : World), RdL w w.heap.size A ls → ls.length = n → n ≤ 100000 → ls.flatten.length ≤ 50000 →
  Calls Tryd.prog 7 #[.slice A n c] w fun e w' => e = .returned (.agg (arr (digest (sumV ls.flatten)))) ∧ Grown w w'
theorem rd_block {w : World} {g B : Nat} {l : List UInt8} {fr : Nat × Nat} {t : TypeId} (h : w.heap[g]? = some (.cells (bvs l).toArray t fr)) (hB : g < B) : Rd w B (some ⟨g, 0, none⟩) l :=
  .inr ⟨g, 0, rfl, hB, fun j hj => by rw [Nat.zero_add, cell_of_row w g j _ t fr h]; simp [bvs, hj]⟩
theorem rdL_one {w : World} {A : Option Addr} {p : List UInt8} {n c : Nat} (h : Rd w w.heap.size A p) (hn : p.length = n) (hc : n ≤ c) (fr : Nat × Nat) :
    RdL (w.alloc (.cells #[.slice A n c] 24 fr)) (w.alloc (.cells #[.slice A n c] 24 fr)).heap.size (some ⟨w.heap.size, 0, none⟩) [p] := by
  refine .inr ⟨w.heap.size, 0, rfl, by simp, fun j hj => ?_⟩
  obtain rfl : j = 0 := by simp at hj; omega
  refine ⟨A, c, ?_, by simpa [hn] using hc, h.grow (alloc_below w _)⟩
  rw [cell_of_row _ _ _ _ 24 fr (heap_alloc_new w _)]
  simp [hn]
theorem sum_one (hd : SumDev) {w : World} {A : Option Addr} {p : List UInt8} {n c : Nat} (h : Rd w w.heap.size A p) (hn : p.length = n) (hc : n ≤ c) (hl : n ≤ 50000) (fr : Nat × Nat) :
    Calls Tryd.prog 7 #[.slice (some ⟨w.heap.size, 0, none⟩) 1 1] (w.alloc (.cells #[.slice A n c] 24 fr)) fun e w' => e = .returned (.agg (arr (digest (sumV p)))) ∧ Grown w w' := by
  refine (hd (some ⟨w.heap.size, 0, none⟩) 1 1 [p] _ (rdL_one h hn hc fr) rfl (by omega) (by simp; omega)).mono ?_
  rintro e w' ⟨rfl, hb⟩
  exact ⟨by simp, Grown.trans (alloc_below w _) hb⟩
theorem digest_len (s : St) : (digest s).length = 64 := by
  simp [digest, St.l, wb_len]
theorem arr_size (l : List UInt8) : (arr l).size = l.length := by simp [arr, bvs]
theorem arr_one (l : List UInt8) : (arr l).all (·.oneCell') = true := all_oneCell_toArray (bvs_one l)
theorem infoA : (Tryd.prog.info? 26).map (·.size) = some 64 := by kernel_rfl
set_option maxRecDepth 100000 in
theorem abc4 : (digest (sumV [97, 98, 99])).take 4 = [221, 175, 53, 161] := by decide +kernel

set_option maxHeartbeats 1000000 in
theorem awake3 (hd : SumDev) (w : World) : Calls Tryd.prog 5 #[] w (Says w true) := by
  have kc := fun (W : World) (C : Array Value) (n c : Nat) => Lib.run_convert_bytes_const (P := Tryd.prog) W 24 5 C n c Tryd.underlying24 Tryd.underlying5
  go_enter Tryd.func5, Tryd.ntmps5
  go_wp2_with fail
  have e1 := sum_one hd (w := w.alloc (.cells #[.int .u8 97, .int .u8 98, .int .u8 99] 5 (3, 4))) (c := 3) (rd_block (l := [97, 98, 99]) (fr := (3, 4)) (heap_alloc_new _ _) (by simp)) rfl (by simp) (by simp) (0, 0)
  rw [show (w.alloc (.cells #[.int .u8 97, .int .u8 98, .int .u8 99] 5 (3, 4))).heap.size = w.heap.size + 1 by simp] at e1
  refine e1.mono ?_
  rintro e w2 ⟨rfl, hb2⟩
  have Hb2 := Lib.hid (Grown.trans (alloc_below w _) hb2)
  obtain ⟨D, hD⟩ : ∃ D, D = arr (digest (sumV [97, 98, 99])) := ⟨_, rfl⟩
  rw [← hD]
  have HD := Lib.hid hD
  clear hb2 e1 hD
  go_wp2_with (first
    | (refine wpList_store_last rfl 26 (.tmp 1) (.tmp 5) rfl rfl rfl (by rw [HD.out, arr_size, digest_len]; exact infoA) (by rw [HD.out, arr_size, digest_len]; rfl) (by rw [HD.out]; exact arr_one _) ?_))
  have hr : Rd (w2.alloc (.cells D 26)) (w2.alloc (.cells D 26)).heap.size (some ⟨w2.heap.size, 0, none⟩) [221, 175, 53, 161] := by
    rw [HD.out, ← abc4]
    exact (rd_block (t := 26) (heap_alloc_new w2 _) (by simp)).take 4
  refine (refHex_any _ 4 64 [221, 175, 53, 161] _ rfl hr (by omega)).mono ?_
  rintro e w4 ⟨rfl, hb4⟩
  have Hb4 := Lib.hid (Grown.trans (alloc_below w2 _) hb4)
  clear hb4 hr
  rw [show (⟨(hexL [221, 175, 53, 161]).toArray⟩ : ByteArray) = ⟨#[100, 100, 97, 102, 51, 53, 97, 49]⟩ from rfl]
  go_wp2
  go_ret
  exact ⟨rfl, Grown.trans (show Grown w w2 from Hb2.out) Hb4.out⟩
end Go.Proofs.YtbelcocgkimkbaaDoor.S4
