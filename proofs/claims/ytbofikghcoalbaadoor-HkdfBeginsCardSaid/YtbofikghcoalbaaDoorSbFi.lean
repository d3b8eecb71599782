/-
  Contract of the reference's Fill: what is laid behind a text.
-/
import Derived.Test.YtbofikghcoalbaaDoorSbSp
import Derived.Test.YtbofikghcoalbaaDoorApk
namespace Go.Proofs.YtbofikghcoalbaaDoor.S4
open Go.RowKit
set_option linter.unusedVariables false
set_option linter.unusedSimpArgs false

def sliceLen : Value → Nat
  | .slice _ n _ => n
  | _ => 0
/-- The eight bytes of a number, the most significant first. -/
def be (N : Nat) : List UInt8 := (List.range 8).map fun j => UInt8.ofNat (N / 256 ^ (7 - j) % 256)
def zs (n : Nat) : Nat := (239 - n % 128) % 128
def fillL (n : Nat) : List UInt8 := 128 :: List.replicate (zs n) 0 ++ be (n / 2305843009213693952) ++ be (n * 8)
theorem zs_hit (n j : Nat) (h : j ≤ zs n) : (n + (1 + j)) % 128 = 112 ↔ j = zs n := by
  unfold zs at *
  omega
theorem be_take (N j : Nat) (h : j < 8) : (be N).take j ++ [UInt8.ofNat (N / 256 ^ (7 - j) % 256)] = (be N).take (j + 1) := by
  have hl : j < (be N).length := by simpa [be] using h
  rw [List.take_succ_eq_append_getElem hl]
  simp [be]
theorem one_byte (w : World) (x : UInt8) : Rd (w.alloc (.cells #[.int .u8 (x.toNat : Int)] 5)) (w.heap.size + 1) (some ⟨w.heap.size, 0, none⟩) [x] :=
  .inr ⟨w.heap.size, 0, rfl, by omega, fun j hj => by
    obtain rfl : j = 0 := by simp at hj; omega
    rw [Nat.zero_add, cell_of_row _ _ 0 _ _ _ (heap_alloc_new w _)]
    rfl⟩

set_option maxHeartbeats 4000000 in
theorem fill_any (n : Nat) (w : World) (hn : n ≤ 1000000) :
    Calls Tryd.prog 20 #[.int .i64 (n : Int)] w (Makes w (fillL n)) := by
  go_enter Tryd.func20, Tryd.ntmps20
  have hdec : decide ((n : Int) < 0) = false := decide_eq_false (by omega)
  have Ho0 := Lib.hid (Own.lit w [128] (Nat.le_refl _) (by decide))
  go_wp2
  go_loopw [3] (fun b wr => ∃ (j : Nat) (A : Option Addr) (c : Nat), j ≤ zs n ∧ b = .slice A (1 + j) c ∧ Hid (Own wr w.heap.size A c (128 :: List.replicate j 0)) ∧ Hid (Below w.heap.size w wr)) (fun b _ => 256 - sliceLen b)
  case atStart => exact ⟨0, _, 1, by omega, rfl, Ho0.out, alloc_below w _⟩
  case round =>
    obtain ⟨j, A, c, hj, rfl, Ho, Hb⟩ := hrel
    have hB := Hb.out.size
    have hz : zs n < 128 := Nat.mod_lt _ (by omega)
    have hiff := zs_hit n j hj
    by_cases hjz : j = zs n
    · have hm : ((n : Int) + ((1 : Int) + (j : Int))) % 128 = 112 := by have := hiff.2 hjz; omega
      clear hiff
      subst hjz
      have hhi : (n : Int) / 2305843009213693952 = 0 := by omega
      have Hhi := Lib.hid (show n / 2305843009213693952 = 0 by omega)
      go_wp2
      clear hm
      go_loopw [3, 6] (fun b d wr => ∃ (j : Nat) (A : Option Addr) (c : Nat) (dI : Int), j ≤ 8 ∧ d = .int .i64 dI ∧ dI = 7 - (j : Int) ∧ b = .slice A (1 + zs n + j) c ∧ Hid (Own wr w.heap.size A c ((128 :: List.replicate (zs n) 0) ++ (be (n / 2305843009213693952)).take j)) ∧ Hid (Below w.heap.size w wr)) (fun _ d _ => (intOf d + 1).toNat)
      case atStart => exact ⟨0, A, c, 7, by omega, rfl, by omega, rfl, (by show Own _ _ _ _ _; simpa using Ho.out), Hb.out⟩
      case round =>
        clear Ho Hb hB
        obtain ⟨j, A, c, dI, hj8, rfl, hdI, rfl, Ho, Hb⟩ := hrel
        have hB := Hb.out.size
        have hlen : ((128 :: List.replicate (zs n) 0) ++ (be (n / 2305843009213693952)).take j).length = 1 + zs n + j := by simp [be]; omega
        have Hlen := Lib.hid hlen
        clear hlen
        by_cases hlt : j < 8
        · have Hbt := Lib.hid (be_take (n / 2305843009213693952) j hlt)
          have hcase : j = 0 ∨ j = 1 ∨ j = 2 ∨ j = 3 ∨ j = 4 ∨ j = 5 ∨ j = 6 ∨ j = 7 := by omega
          clear hlt hj8
          rcases hcase with rfl | rfl | rfl | rfl | rfl | rfl | rfl | rfl
          · obtain rfl : dI = 7 := by omega
            clear hdI
            obtain ⟨x, hx⟩ : ∃ x, x = UInt8.ofNat ((n / 2305843009213693952) / 256 ^ (7 - 0) % 256) := ⟨_, rfl⟩
            obtain rfl : x = 0 := by rw [hx, Hhi.out, Nat.zero_div]; rfl
            rw [← hx] at Hbt
            clear hx
            go_wp2_with (first
              | (at_builtin
                 refine wpList_appK rfl (.tmp 30) (.tmp 36) rfl Hlen.out rfl (Ho.out.grow (alloc_below _ _)) (n2 := 1) (l2 := [0]) rfl rfl (one_byte _ 0) (by omega) (by simp; omega) ?_
                 intro A3 c3 w3 ho3 hb3 hk3
                 have Ho3 := Lib.hid ho3
                 have Hb3 := Lib.hid hb3
                 clear ho3 hb3 hk3))
            go_roundw
            case rel =>
              refine ⟨1, A3, c3, 6, by omega, rfl, by omega, rfl, ?_, (Hb.out.alloc hB _).trans Hb3.out⟩
              show Own _ _ _ _ _
              have := Ho3.out
              rwa [List.append_assoc, Hbt.out] at this
            case measure => simp [intOf]
          · obtain rfl : dI = 6 := by omega
            clear hdI
            obtain ⟨x, hx⟩ : ∃ x, x = UInt8.ofNat ((n / 2305843009213693952) / 256 ^ (7 - 1) % 256) := ⟨_, rfl⟩
            obtain rfl : x = 0 := by rw [hx, Hhi.out, Nat.zero_div]; rfl
            rw [← hx] at Hbt
            clear hx
            go_wp2_with (first
              | (at_builtin
                 refine wpList_appK rfl (.tmp 30) (.tmp 36) rfl Hlen.out rfl (Ho.out.grow (alloc_below _ _)) (n2 := 1) (l2 := [0]) rfl rfl (one_byte _ 0) (by omega) (by simp; omega) ?_
                 intro A3 c3 w3 ho3 hb3 hk3
                 have Ho3 := Lib.hid ho3
                 have Hb3 := Lib.hid hb3
                 clear ho3 hb3 hk3))
            go_roundw
            case rel =>
              refine ⟨2, A3, c3, 5, by omega, rfl, by omega, rfl, ?_, (Hb.out.alloc hB _).trans Hb3.out⟩
              show Own _ _ _ _ _
              have := Ho3.out
              rwa [List.append_assoc, Hbt.out] at this
            case measure => simp [intOf]
          · obtain rfl : dI = 5 := by omega
            clear hdI
            obtain ⟨x, hx⟩ : ∃ x, x = UInt8.ofNat ((n / 2305843009213693952) / 256 ^ (7 - 2) % 256) := ⟨_, rfl⟩
            obtain rfl : x = 0 := by rw [hx, Hhi.out, Nat.zero_div]; rfl
            rw [← hx] at Hbt
            clear hx
            go_wp2_with (first
              | (at_builtin
                 refine wpList_appK rfl (.tmp 30) (.tmp 36) rfl Hlen.out rfl (Ho.out.grow (alloc_below _ _)) (n2 := 1) (l2 := [0]) rfl rfl (one_byte _ 0) (by omega) (by simp; omega) ?_
                 intro A3 c3 w3 ho3 hb3 hk3
                 have Ho3 := Lib.hid ho3
                 have Hb3 := Lib.hid hb3
                 clear ho3 hb3 hk3))
            go_roundw
            case rel =>
              refine ⟨3, A3, c3, 4, by omega, rfl, by omega, rfl, ?_, (Hb.out.alloc hB _).trans Hb3.out⟩
              show Own _ _ _ _ _
              have := Ho3.out
              rwa [List.append_assoc, Hbt.out] at this
            case measure => simp [intOf]
          · obtain rfl : dI = 4 := by omega
            clear hdI
            obtain ⟨x, hx⟩ : ∃ x, x = UInt8.ofNat ((n / 2305843009213693952) / 256 ^ (7 - 3) % 256) := ⟨_, rfl⟩
            obtain rfl : x = 0 := by rw [hx, Hhi.out, Nat.zero_div]; rfl
            rw [← hx] at Hbt
            clear hx
            go_wp2_with (first
              | (at_builtin
                 refine wpList_appK rfl (.tmp 30) (.tmp 36) rfl Hlen.out rfl (Ho.out.grow (alloc_below _ _)) (n2 := 1) (l2 := [0]) rfl rfl (one_byte _ 0) (by omega) (by simp; omega) ?_
                 intro A3 c3 w3 ho3 hb3 hk3
                 have Ho3 := Lib.hid ho3
                 have Hb3 := Lib.hid hb3
                 clear ho3 hb3 hk3))
            go_roundw
            case rel =>
              refine ⟨4, A3, c3, 3, by omega, rfl, by omega, rfl, ?_, (Hb.out.alloc hB _).trans Hb3.out⟩
              show Own _ _ _ _ _
              have := Ho3.out
              rwa [List.append_assoc, Hbt.out] at this
            case measure => simp [intOf]
          · obtain rfl : dI = 3 := by omega
            clear hdI
            obtain ⟨x, hx⟩ : ∃ x, x = UInt8.ofNat ((n / 2305843009213693952) / 256 ^ (7 - 4) % 256) := ⟨_, rfl⟩
            obtain rfl : x = 0 := by rw [hx, Hhi.out, Nat.zero_div]; rfl
            rw [← hx] at Hbt
            clear hx
            go_wp2_with (first
              | (at_builtin
                 refine wpList_appK rfl (.tmp 30) (.tmp 36) rfl Hlen.out rfl (Ho.out.grow (alloc_below _ _)) (n2 := 1) (l2 := [0]) rfl rfl (one_byte _ 0) (by omega) (by simp; omega) ?_
                 intro A3 c3 w3 ho3 hb3 hk3
                 have Ho3 := Lib.hid ho3
                 have Hb3 := Lib.hid hb3
                 clear ho3 hb3 hk3))
            go_roundw
            case rel =>
              refine ⟨5, A3, c3, 2, by omega, rfl, by omega, rfl, ?_, (Hb.out.alloc hB _).trans Hb3.out⟩
              show Own _ _ _ _ _
              have := Ho3.out
              rwa [List.append_assoc, Hbt.out] at this
            case measure => simp [intOf]
          · obtain rfl : dI = 2 := by omega
            clear hdI
            obtain ⟨x, hx⟩ : ∃ x, x = UInt8.ofNat ((n / 2305843009213693952) / 256 ^ (7 - 5) % 256) := ⟨_, rfl⟩
            obtain rfl : x = 0 := by rw [hx, Hhi.out, Nat.zero_div]; rfl
            rw [← hx] at Hbt
            clear hx
            go_wp2_with (first
              | (at_builtin
                 refine wpList_appK rfl (.tmp 30) (.tmp 36) rfl Hlen.out rfl (Ho.out.grow (alloc_below _ _)) (n2 := 1) (l2 := [0]) rfl rfl (one_byte _ 0) (by omega) (by simp; omega) ?_
                 intro A3 c3 w3 ho3 hb3 hk3
                 have Ho3 := Lib.hid ho3
                 have Hb3 := Lib.hid hb3
                 clear ho3 hb3 hk3))
            go_roundw
            case rel =>
              refine ⟨6, A3, c3, 1, by omega, rfl, by omega, rfl, ?_, (Hb.out.alloc hB _).trans Hb3.out⟩
              show Own _ _ _ _ _
              have := Ho3.out
              rwa [List.append_assoc, Hbt.out] at this
            case measure => simp [intOf]
          · obtain rfl : dI = 1 := by omega
            clear hdI
            obtain ⟨x, hx⟩ : ∃ x, x = UInt8.ofNat ((n / 2305843009213693952) / 256 ^ (7 - 6) % 256) := ⟨_, rfl⟩
            obtain rfl : x = 0 := by rw [hx, Hhi.out, Nat.zero_div]; rfl
            rw [← hx] at Hbt
            clear hx
            go_wp2_with (first
              | (at_builtin
                 refine wpList_appK rfl (.tmp 30) (.tmp 36) rfl Hlen.out rfl (Ho.out.grow (alloc_below _ _)) (n2 := 1) (l2 := [0]) rfl rfl (one_byte _ 0) (by omega) (by simp; omega) ?_
                 intro A3 c3 w3 ho3 hb3 hk3
                 have Ho3 := Lib.hid ho3
                 have Hb3 := Lib.hid hb3
                 clear ho3 hb3 hk3))
            go_roundw
            case rel =>
              refine ⟨7, A3, c3, 0, by omega, rfl, by omega, rfl, ?_, (Hb.out.alloc hB _).trans Hb3.out⟩
              show Own _ _ _ _ _
              have := Ho3.out
              rwa [List.append_assoc, Hbt.out] at this
            case measure => simp [intOf]
          · obtain rfl : dI = 0 := by omega
            clear hdI
            obtain ⟨x, hx⟩ : ∃ x, x = UInt8.ofNat ((n / 2305843009213693952) / 256 ^ (7 - 7) % 256) := ⟨_, rfl⟩
            obtain rfl : x = 0 := by rw [hx, Hhi.out, Nat.zero_div]; rfl
            rw [← hx] at Hbt
            clear hx
            go_wp2_with (first
              | (at_builtin
                 refine wpList_appK rfl (.tmp 30) (.tmp 36) rfl Hlen.out rfl (Ho.out.grow (alloc_below _ _)) (n2 := 1) (l2 := [0]) rfl rfl (one_byte _ 0) (by omega) (by simp; omega) ?_
                 intro A3 c3 w3 ho3 hb3 hk3
                 have Ho3 := Lib.hid ho3
                 have Hb3 := Lib.hid hb3
                 clear ho3 hb3 hk3))
            go_roundw
            case rel =>
              refine ⟨8, A3, c3, -1, by omega, rfl, by omega, rfl, ?_, (Hb.out.alloc hB _).trans Hb3.out⟩
              show Own _ _ _ _ _
              have := Ho3.out
              rwa [List.append_assoc, Hbt.out] at this
            case measure => simp [intOf]
        · obtain rfl : j = 8 := by omega
          obtain rfl : dI = -1 := by omega
          clear hdI hlt hj8
          have Hbe : (be (n / 2305843009213693952)).take 8 = be (n / 2305843009213693952) := List.take_of_length_le (by simp [be])
          rw [Hbe] at Ho
          clear Hbe Hlen
          go_wp2
          go_loopw [3, 7] (fun b d wr => ∃ (j : Nat) (A : Option Addr) (c : Nat) (dI : Int), j ≤ 8 ∧ d = .int .i64 dI ∧ dI = 7 - (j : Int) ∧ b = .slice A (1 + zs n + 8 + j) c ∧ Hid (Own wr w.heap.size A c (((128 :: List.replicate (zs n) 0) ++ be (n / 2305843009213693952)) ++ (be (n * 8)).take j)) ∧ Hid (Below w.heap.size w wr)) (fun _ d _ => (intOf d + 1).toNat)
          case atStart => exact ⟨0, A, c, 7, by omega, rfl, by omega, rfl, (by show Own _ _ _ _ _; simpa using Ho.out), Hb.out⟩
          case round =>
            clear Ho Hb hB
            obtain ⟨j, A, c, dI, hj8, rfl, hdI, rfl, Ho, Hb⟩ := hrel
            have hB := Hb.out.size
            have hlen : (((128 :: List.replicate (zs n) 0) ++ be (n / 2305843009213693952)) ++ (be (n * 8)).take j).length = 1 + zs n + 8 + j := by simp [be]; omega
            have Hlen := Lib.hid hlen
            clear hlen
            by_cases hlt : j < 8
            · have Hbt := Lib.hid (be_take (n * 8) j hlt)
              have hcase : j = 0 ∨ j = 1 ∨ j = 2 ∨ j = 3 ∨ j = 4 ∨ j = 5 ∨ j = 6 ∨ j = 7 := by omega
              clear hlt hj8
              rcases hcase with rfl | rfl | rfl | rfl | rfl | rfl | rfl | rfl
              · obtain rfl : dI = 7 := by omega
                clear hdI
                obtain ⟨x, hx⟩ : ∃ x, x = UInt8.ofNat ((n * 8) / 256 ^ (7 - 0) % 256) := ⟨_, rfl⟩
                have hxx : ((n : Int) * 8) / 72057594037927936 = (x.toNat : Int) := by rw [hx, UInt8.toNat_ofNat', show 256 ^ (7 - 0) = 72057594037927936 from rfl]; omega
                rw [← hx] at Hbt
                clear hx
                go_wp2_with (first
                  | (at_builtin
                     refine wpList_appK rfl (.tmp 42) (.tmp 48) rfl Hlen.out rfl (Ho.out.grow (alloc_below _ _)) (n2 := 1) (l2 := [x]) rfl rfl (one_byte _ x) (by omega) (by simp; omega) ?_
                     intro A3 c3 w3 ho3 hb3 hk3
                     have Ho3 := Lib.hid ho3
                     have Hb3 := Lib.hid hb3
                     clear ho3 hb3 hk3))
                go_roundw
                case rel =>
                  refine ⟨1, A3, c3, 6, by omega, rfl, by omega, rfl, ?_, (Hb.out.alloc hB _).trans Hb3.out⟩
                  show Own _ _ _ _ _
                  have := Ho3.out
                  rwa [List.append_assoc, Hbt.out] at this
                case measure => simp [intOf]
              · obtain rfl : dI = 6 := by omega
                clear hdI
                obtain ⟨x, hx⟩ : ∃ x, x = UInt8.ofNat ((n * 8) / 256 ^ (7 - 1) % 256) := ⟨_, rfl⟩
                have hxx : ((n : Int) * 8) / 281474976710656 = (x.toNat : Int) := by rw [hx, UInt8.toNat_ofNat', show 256 ^ (7 - 1) = 281474976710656 from rfl]; omega
                rw [← hx] at Hbt
                clear hx
                go_wp2_with (first
                  | (at_builtin
                     refine wpList_appK rfl (.tmp 42) (.tmp 48) rfl Hlen.out rfl (Ho.out.grow (alloc_below _ _)) (n2 := 1) (l2 := [x]) rfl rfl (one_byte _ x) (by omega) (by simp; omega) ?_
                     intro A3 c3 w3 ho3 hb3 hk3
                     have Ho3 := Lib.hid ho3
                     have Hb3 := Lib.hid hb3
                     clear ho3 hb3 hk3))
                go_roundw
                case rel =>
                  refine ⟨2, A3, c3, 5, by omega, rfl, by omega, rfl, ?_, (Hb.out.alloc hB _).trans Hb3.out⟩
                  show Own _ _ _ _ _
                  have := Ho3.out
                  rwa [List.append_assoc, Hbt.out] at this
                case measure => simp [intOf]
              · obtain rfl : dI = 5 := by omega
                clear hdI
                obtain ⟨x, hx⟩ : ∃ x, x = UInt8.ofNat ((n * 8) / 256 ^ (7 - 2) % 256) := ⟨_, rfl⟩
                have hxx : ((n : Int) * 8) / 1099511627776 = (x.toNat : Int) := by rw [hx, UInt8.toNat_ofNat', show 256 ^ (7 - 2) = 1099511627776 from rfl]; omega
                rw [← hx] at Hbt
                clear hx
                go_wp2_with (first
                  | (at_builtin
                     refine wpList_appK rfl (.tmp 42) (.tmp 48) rfl Hlen.out rfl (Ho.out.grow (alloc_below _ _)) (n2 := 1) (l2 := [x]) rfl rfl (one_byte _ x) (by omega) (by simp; omega) ?_
                     intro A3 c3 w3 ho3 hb3 hk3
                     have Ho3 := Lib.hid ho3
                     have Hb3 := Lib.hid hb3
                     clear ho3 hb3 hk3))
                go_roundw
                case rel =>
                  refine ⟨3, A3, c3, 4, by omega, rfl, by omega, rfl, ?_, (Hb.out.alloc hB _).trans Hb3.out⟩
                  show Own _ _ _ _ _
                  have := Ho3.out
                  rwa [List.append_assoc, Hbt.out] at this
                case measure => simp [intOf]
              · obtain rfl : dI = 4 := by omega
                clear hdI
                obtain ⟨x, hx⟩ : ∃ x, x = UInt8.ofNat ((n * 8) / 256 ^ (7 - 3) % 256) := ⟨_, rfl⟩
                have hxx : ((n : Int) * 8) / 4294967296 = (x.toNat : Int) := by rw [hx, UInt8.toNat_ofNat', show 256 ^ (7 - 3) = 4294967296 from rfl]; omega
                rw [← hx] at Hbt
                clear hx
                go_wp2_with (first
                  | (at_builtin
                     refine wpList_appK rfl (.tmp 42) (.tmp 48) rfl Hlen.out rfl (Ho.out.grow (alloc_below _ _)) (n2 := 1) (l2 := [x]) rfl rfl (one_byte _ x) (by omega) (by simp; omega) ?_
                     intro A3 c3 w3 ho3 hb3 hk3
                     have Ho3 := Lib.hid ho3
                     have Hb3 := Lib.hid hb3
                     clear ho3 hb3 hk3))
                go_roundw
                case rel =>
                  refine ⟨4, A3, c3, 3, by omega, rfl, by omega, rfl, ?_, (Hb.out.alloc hB _).trans Hb3.out⟩
                  show Own _ _ _ _ _
                  have := Ho3.out
                  rwa [List.append_assoc, Hbt.out] at this
                case measure => simp [intOf]
              · obtain rfl : dI = 3 := by omega
                clear hdI
                obtain ⟨x, hx⟩ : ∃ x, x = UInt8.ofNat ((n * 8) / 256 ^ (7 - 4) % 256) := ⟨_, rfl⟩
                have hxx : ((n : Int) * 8) / 16777216 = (x.toNat : Int) := by rw [hx, UInt8.toNat_ofNat', show 256 ^ (7 - 4) = 16777216 from rfl]; omega
                rw [← hx] at Hbt
                clear hx
                go_wp2_with (first
                  | (at_builtin
                     refine wpList_appK rfl (.tmp 42) (.tmp 48) rfl Hlen.out rfl (Ho.out.grow (alloc_below _ _)) (n2 := 1) (l2 := [x]) rfl rfl (one_byte _ x) (by omega) (by simp; omega) ?_
                     intro A3 c3 w3 ho3 hb3 hk3
                     have Ho3 := Lib.hid ho3
                     have Hb3 := Lib.hid hb3
                     clear ho3 hb3 hk3))
                go_roundw
                case rel =>
                  refine ⟨5, A3, c3, 2, by omega, rfl, by omega, rfl, ?_, (Hb.out.alloc hB _).trans Hb3.out⟩
                  show Own _ _ _ _ _
                  have := Ho3.out
                  rwa [List.append_assoc, Hbt.out] at this
                case measure => simp [intOf]
              · obtain rfl : dI = 2 := by omega
                clear hdI
                obtain ⟨x, hx⟩ : ∃ x, x = UInt8.ofNat ((n * 8) / 256 ^ (7 - 5) % 256) := ⟨_, rfl⟩
                have hxx : ((n : Int) * 8) / 65536 = (x.toNat : Int) := by rw [hx, UInt8.toNat_ofNat', show 256 ^ (7 - 5) = 65536 from rfl]; omega
                rw [← hx] at Hbt
                clear hx
                go_wp2_with (first
                  | (at_builtin
                     refine wpList_appK rfl (.tmp 42) (.tmp 48) rfl Hlen.out rfl (Ho.out.grow (alloc_below _ _)) (n2 := 1) (l2 := [x]) rfl rfl (one_byte _ x) (by omega) (by simp; omega) ?_
                     intro A3 c3 w3 ho3 hb3 hk3
                     have Ho3 := Lib.hid ho3
                     have Hb3 := Lib.hid hb3
                     clear ho3 hb3 hk3))
                go_roundw
                case rel =>
                  refine ⟨6, A3, c3, 1, by omega, rfl, by omega, rfl, ?_, (Hb.out.alloc hB _).trans Hb3.out⟩
                  show Own _ _ _ _ _
                  have := Ho3.out
                  rwa [List.append_assoc, Hbt.out] at this
                case measure => simp [intOf]
              · obtain rfl : dI = 1 := by omega
                clear hdI
                obtain ⟨x, hx⟩ : ∃ x, x = UInt8.ofNat ((n * 8) / 256 ^ (7 - 6) % 256) := ⟨_, rfl⟩
                have hxx : ((n : Int) * 8) / 256 % 256 = (x.toNat : Int) := by rw [hx, UInt8.toNat_ofNat', show 256 ^ (7 - 6) = 256 from rfl]; omega
                rw [← hx] at Hbt
                clear hx
                go_wp2_with (first
                  | (at_builtin
                     refine wpList_appK rfl (.tmp 42) (.tmp 48) rfl Hlen.out rfl (Ho.out.grow (alloc_below _ _)) (n2 := 1) (l2 := [x]) rfl rfl (one_byte _ x) (by omega) (by simp; omega) ?_
                     intro A3 c3 w3 ho3 hb3 hk3
                     have Ho3 := Lib.hid ho3
                     have Hb3 := Lib.hid hb3
                     clear ho3 hb3 hk3))
                go_roundw
                case rel =>
                  refine ⟨7, A3, c3, 0, by omega, rfl, by omega, rfl, ?_, (Hb.out.alloc hB _).trans Hb3.out⟩
                  show Own _ _ _ _ _
                  have := Ho3.out
                  rwa [List.append_assoc, Hbt.out] at this
                case measure => simp [intOf]
              · obtain rfl : dI = 0 := by omega
                clear hdI
                obtain ⟨x, hx⟩ : ∃ x, x = UInt8.ofNat ((n * 8) / 256 ^ (7 - 7) % 256) := ⟨_, rfl⟩
                have hxx : ((n : Int) * 8) % 256 = (x.toNat : Int) := by rw [hx, UInt8.toNat_ofNat', show 256 ^ (7 - 7) = 1 from rfl]; omega
                rw [← hx] at Hbt
                clear hx
                go_wp2_with (first
                  | (at_builtin
                     refine wpList_appK rfl (.tmp 42) (.tmp 48) rfl Hlen.out rfl (Ho.out.grow (alloc_below _ _)) (n2 := 1) (l2 := [x]) rfl rfl (one_byte _ x) (by omega) (by simp; omega) ?_
                     intro A3 c3 w3 ho3 hb3 hk3
                     have Ho3 := Lib.hid ho3
                     have Hb3 := Lib.hid hb3
                     clear ho3 hb3 hk3))
                go_roundw
                case rel =>
                  refine ⟨8, A3, c3, -1, by omega, rfl, by omega, rfl, ?_, (Hb.out.alloc hB _).trans Hb3.out⟩
                  show Own _ _ _ _ _
                  have := Ho3.out
                  rwa [List.append_assoc, Hbt.out] at this
                case measure => simp [intOf]
            · obtain rfl : j = 8 := by omega
              obtain rfl : dI = -1 := by omega
              clear hdI hlt hj8
              go_wp2
              go_ret
              refine ⟨A, c, ?_, ?_, Hb.out⟩
              · show Ending.returned (.slice A _ c) = _
                rw [← Hlen.out]
                rfl
              · exact Ho.out
    · have hm : ¬ ((n : Int) + ((1 : Int) + (j : Int))) % 128 = 112 := by
        intro h
        exact hjz (hiff.1 (by omega))
      clear hiff
      go_wp2_with (first
        | (at_builtin
           refine wpList_appK rfl (.tmp 17) (.tmp 18) rfl (l := 128 :: List.replicate j 0) (by simp; omega) rfl (Ho.out.grow (alloc_below _ _)) (n2 := 1) (l2 := [0]) rfl rfl (one_byte _ 0) (by omega) (by simp; omega) ?_
           intro A3 c3 w3 ho3 hb3 hk3
           have Ho3 := Lib.hid ho3
           have Hb3 := Lib.hid hb3
           clear ho3 hb3 hk3))
      go_roundw
      case rel =>
        refine ⟨j + 1, A3, c3, by omega, by rw [show 1 + (j + 1) = 1 + j + 1 by omega], ?_, (Hb.out.alloc hB _).trans Hb3.out⟩
        show Own _ _ _ _ _
        have := Ho3.out
        rw [List.cons_append, ← List.replicate_succ'] at this
        exact this
      case measure => simp [sliceLen]; omega
end Go.Proofs.YtbofikghcoalbaaDoor.S4
