/-
  The program's Sum of one text; law04's awake.
-/
import Derived.Test.YtbelcocgkimkbaaDoorSdSu
namespace Go.Proofs.YtbelcocgkimkbaaDoor.S4
open Go.RowKit
set_option linter.unusedVariables false
set_option linter.unusedSimpArgs false

theorem put_one {w : World} {A : Option Addr} {p : List UInt8} {n c : Nat} (hk : Kt w) (h : Rd w w.heap.size A p) (hn : p.length = n) (hc : n ≤ c) (hl : n ≤ 50000) (fr : Nat × Nat) :
    Calls Tryd.prog 7 #[.slice (some ⟨w.heap.size, 0, none⟩) 1 1] (w.alloc (.cells #[.slice A n c] 24 fr)) fun e w' => e = .returned (.agg (arr (digest (sumV p)))) ∧ Grown w w' := by
  refine (sum_put (some ⟨w.heap.size, 0, none⟩) 1 1 [p] _ (hk.grow (alloc_below w _)) (rdL_one h hn hc fr) rfl (by omega) (by simp; omega)).mono ?_
  rintro e w' ⟨rfl, hb⟩
  exact ⟨by simp, Grown.trans (alloc_below w _) hb⟩

set_option maxHeartbeats 1000000 in
theorem awake (w : World) (hk : Kt w) : Calls Tryd.prog 5 #[] w (Says w true) := by
  have Hk := Lib.hid hk
  clear hk
  have kc := fun (W : World) (C : Array Value) (n c : Nat) => Lib.run_convert_bytes_const (P := Tryd.prog) W 24 5 C n c Tryd.underlying24 Tryd.underlying5
  go_enter Tryd.func5, Tryd.ntmps5
  go_wp2_with fail
  have e1 := put_one (w := w.alloc (.cells #[.int .u8 97, .int .u8 98, .int .u8 99] 5 (3, 4))) (c := 3) (Hk.out.grow (alloc_below w _)) (rd_block (l := [97, 98, 99]) (fr := (3, 4)) (heap_alloc_new _ _) (by simp)) rfl (by simp) (by simp) (0, 0)
  rw [show (w.alloc (.cells #[.int .u8 97, .int .u8 98, .int .u8 99] 5 (3, 4))).heap.size = w.heap.size + 1 by simp] at e1
  refine e1.mono ?_
  rintro e w2 ⟨rfl, hb2⟩
  have Hb2 := Lib.hid (Grown.trans (alloc_below w _) hb2)
  obtain ⟨D, hD⟩ : ∃ D, D = arr (digest (sumV [97, 98, 99])) := ⟨_, rfl⟩
  rw [← hD]
  have HD := Lib.hid hD
  clear hb2 e1 hD
  go_wp2_with (first
    | (refine wpList_store_last rfl 26 (.tmp 1) (.tmp 5) rfl rfl rfl (by rw [HD.out, arr_size, digest_len]; exact infoA) (by rw [HD.out, arr_size, digest_len]; rfl) (by rw [HD.out]; exact arr_one _) ?_))
  have hr : Rd (w2.alloc (.cells D 26)) (w2.alloc (.cells D 26)).heap.size (some ⟨w2.heap.size, 0, none⟩) [221, 175, 53, 161] := by
    rw [HD.out, ← abc4]
    exact (rd_block (t := 26) (heap_alloc_new w2 _) (by simp)).take 4
  refine (refHex_any _ 4 64 [221, 175, 53, 161] _ rfl hr (by omega)).mono ?_
  rintro e w4 ⟨rfl, hb4⟩
  have Hb4 := Lib.hid (Grown.trans (alloc_below w2 _) hb4)
  clear hb4 hr
  rw [show (⟨(hexL [221, 175, 53, 161]).toArray⟩ : ByteArray) = ⟨#[100, 100, 97, 102, 51, 53, 97, 49]⟩ from rfl]
  go_wp2
  go_ret
  exact ⟨rfl, Grown.trans (show Grown w w2 from Hb2.out) Hb4.out⟩
end Go.Proofs.YtbelcocgkimkbaaDoor.S4
