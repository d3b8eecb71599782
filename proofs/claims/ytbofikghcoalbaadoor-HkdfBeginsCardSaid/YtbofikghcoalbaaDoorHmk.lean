/-
  Contracts of the program's mask and blockOf.
-/
import Derived.Test.YtbofikghcoalbaaDoorRep
import Derived.Test.YtbofikghcoalbaaDoorOxr
import Derived.Test.YtbofikghcoalbaaDoorSdSu
namespace Go.Proofs.YtbofikghcoalbaaDoor.S5
open Go.RowKit
open S4 (Kt put_one sum_put digest sumV arr arr_size arr_one digest_len infoA rdL_one rd_block u64D)
set_option linter.unusedVariables false
set_option linter.unusedSimpArgs false

/-- A block with each byte XORed with x. -/
def maskL (l : List UInt8) (x : UInt8) : List UInt8 := xorL l (List.replicate 128 x)
theorem maskL_len (l : List UInt8) (x : UInt8) (h : l.length = 128) : (maskL l x).length = 128 := by rw [maskL, xorL_len, h, List.length_replicate]; rfl

set_option maxHeartbeats 1000000 in
theorem mask_any (A : Option Addr) (c : Nat) (l : List UInt8) (x : UInt8) (w : World) (h : Rd w w.heap.size A l) (hl : l.length = 128) :
    Calls Tryd.prog 18 #[.slice A 128 c, .int .u8 (x.toNat : Int)] w (Makes w (maskL l x)) := by
  have H := Lib.hid h
  have Hl := Lib.hid hl
  clear h hl
  go_enter Tryd.func18, Tryd.ntmps18
  go_wp2_with fail
  refine (repeat_128 _ _ x _ (rd_block (l := [x]) (heap_alloc_new w _) (by simp))).mono ?_
  rintro e w1 ⟨A1, c1, rfl, hc1, hr1, hg1⟩
  rw [List.length_replicate]
  have Hg1 := Lib.hid (Grown.trans (alloc_below w _) hg1)
  have Hr1 := Lib.hid hr1
  clear hc1 hr1 hg1
  go_wp2_with fail
  refine (xor_any A 128 c A1 128 c1 l (List.replicate 128 x) _ (H.out.grow Hg1.out) Hr1.out Hl.out (by simp) (by omega) (by omega)).mono ?_
  rintro e w2 ⟨A2, c2, rfl, ho2, hb2⟩
  have Ho2 := Lib.hid ho2
  have Hb2 := Lib.hid hb2
  rw [show xorL l (List.replicate 128 x) = maskL l x from rfl, maskL_len l x Hl.out]
  clear ho2 hb2
  go_wp2
  go_ret
  exact ⟨A2, c2, by rw [maskL_len l x Hl.out]; rfl, Ho2.out.less (Below.size Hg1.out), Grown.trans Hg1.out Hb2.out⟩

/-- A key, made as long as a block. -/
def keyL (k : List UInt8) : List UInt8 := if 128 < k.length then digest (sumV k) else k
def blkL (k : List UInt8) : List UInt8 := fillL (keyL k) 128
theorem keyL_len (k : List UInt8) : (keyL k).length ≤ 128 := by
  unfold keyL
  split
  · rw [digest_len]; omega
  · omega
theorem blkL_len (k : List UInt8) : (blkL k).length = 128 := by rw [blkL, fillL_len]; have := keyL_len k; omega

set_option maxHeartbeats 1000000 in
theorem block_any (A : Option Addr) (n c : Nat) (k : List UInt8) (w : World) (hk : Kt w) (h : Rd w w.heap.size A k) (hn : k.length = n) (hc : n ≤ c) (hl : n ≤ 40000) :
    Calls Tryd.prog 17 #[.slice A n c] w (Makes w (blkL k)) := by
  have H := Lib.hid h
  have Hn := Lib.hid hn
  have Hk := Lib.hid hk
  clear h hk
  by_cases hlong : 128 < n
  · have hb : blkL k = fillL (digest (sumV k)) 128 := by unfold blkL keyL; rw [if_pos (by omega)]
    have Hb := Lib.hid hb
    clear hn hb
    go_enter Tryd.func17, Tryd.ntmps17
    go_wp2_with fail
    refine (put_one Hk.out H.out Hn.out hc (by omega) (0, 0)).mono ?_
    rintro e w2 ⟨rfl, hb2⟩
    obtain ⟨D, hD⟩ : ∃ D, D = arr (digest (sumV k)) := ⟨_, rfl⟩
    rw [← hD]
    have Hb2 := Lib.hid hb2
    have HD := Lib.hid hD
    clear hb2 hD
    go_wp2_with (first
      | (refine wpList_store_last rfl 24 (.tmp 3) (.tmp 9) rfl rfl rfl (by rw [HD.out, arr_size, digest_len]; exact infoA) (by rw [HD.out, arr_size, digest_len]; rfl) (by rw [HD.out]; exact arr_one _) ?_))
    have hr : Rd (w2.alloc (.cells D 24)) (w2.alloc (.cells D 24)).heap.size (some ⟨w2.heap.size, 0, none⟩) (digest (sumV k)) := by
      rw [HD.out]
      exact rd_block (t := 24) (heap_alloc_new w2 _) (by simp)
    refine (fill_any _ 64 64 (digest (sumV k)) 128 _ hr (digest_len _) (by omega) (by omega)).mono ?_
    rw [show (128 : Int).toNat = 128 from rfl, ← Hb.out]
    rintro e w3 ⟨A3, c3, rfl, ho3, hb3⟩
    rw [blkL_len]
    have Ho3 := Lib.hid ho3
    have Hb3 := Lib.hid (Grown.trans (alloc_below w2 _) hb3)
    clear hr ho3 hb3
    go_wp2
    go_ret
    exact ⟨A3, c3, by rw [blkL_len]; rfl, Ho3.out.less (by have h1 := Below.size Hb2.out; simp; omega), Grown.trans Hb2.out Hb3.out⟩
  · have hb : blkL k = fillL k 128 := by unfold blkL keyL; rw [if_neg (by omega)]
    have Hb := Lib.hid hb
    clear hn hb
    go_enter Tryd.func17, Tryd.ntmps17
    go_wp2_with fail
    refine (fill_any A n c k 128 _ H.out Hn.out (by omega) (by omega)).mono ?_
    rw [show (128 : Int).toNat = 128 from rfl, ← Hb.out]
    rintro e w3 ⟨A3, c3, rfl, ho3, hb3⟩
    rw [blkL_len]
    have Ho3 := Lib.hid ho3
    have Hb3 := Lib.hid hb3
    clear ho3 hb3
    go_wp2
    go_ret
    exact ⟨A3, c3, by rw [blkL_len]; rfl, Ho3.out, Hb3.out⟩
end Go.Proofs.YtbofikghcoalbaaDoor.S5
