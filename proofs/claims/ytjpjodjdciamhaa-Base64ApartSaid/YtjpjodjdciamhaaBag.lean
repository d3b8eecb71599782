/-
  Contract of base64's appendGroup.
-/
import Derived.Test.YtjpjodjdciamhaaBln
import Derived.Test.YtjpjodjdciamhaaApk
import Derived.Test.YtjpjodjdciamhaaBmd
import Derived.Laws.BitsAllLaws
namespace Go.Proofs.Ytjpjodjdciamhaa
open Go.RowKit
set_option linter.unusedVariables false
set_option linter.unusedSimpArgs false

/-- Base64's characters, by their numbers. -/
def abc : ByteArray := { data := #[65, 66, 67, 68, 69, 70, 71, 72, 73, 74, 75, 76, 77, 78, 79, 80, 81, 82, 83, 84, 85, 86, 87, 88, 89, 90, 97, 98, 99, 100, 101, 102, 103, 104, 105, 106, 107, 108, 109, 110, 111, 112, 113, 114, 115, 116, 117, 118, 119, 120, 121, 122, 48, 49, 50, 51, 52, 53, 54, 55, 56, 57, 45, 95] }
theorem bits_and_i64 (a b : Nat) (ha : a < 9223372036854775808) (hb : b < 9223372036854775808) : bits .and .i64 (a : Int) (b : Int) = ((a &&& b : Nat) : Int) := by
  have h1 : (BitVec.ofInt 64 (a : Int)).toNat = a := by rw [toNat_ofInt64]; omega
  have h2 : (BitVec.ofInt 64 (b : Int)).toNat = b := by rw [toNat_ofInt64]; omega
  have hlt : a &&& b < 9223372036854775808 := Nat.lt_of_le_of_lt Nat.and_le_left ha
  show IntKind.i64.wrap ((BitVec.ofInt 64 (a : Int) &&& BitVec.ofInt 64 (b : Int)).toNat : Int) = _
  rw [BitVec.toNat_and, h1, h2, IntKind.wrap_i64]
  omega
theorem and63 (a : Nat) (ha : a < 9223372036854775808) : bits .and .i64 (a : Int) 63 = ((a % 64 : Nat) : Int) := by
  have := bits_and_i64 a 63 ha (by omega)
  rw [nat_mask6] at this
  exact this
theorem or3 (x y z : Nat) (hx : x < 256) (hy : y < 256) (hz : z < 256) : bits .or .i64 (bits .or .i64 ((x : Int) * 65536) ((y : Int) * 256)) (z : Int) = ((x * 65536 + y * 256 + z : Nat) : Int) := by
  have e1 : bits .or .i64 ((x : Int) * 65536) ((y : Int) * 256) = ((x * 65536 + y * 256 : Nat) : Int) := by
    have := bits_or_i64 (x * 65536) (y * 256) (by omega) (by omega)
    rw [nat_join 16 (x * 65536) (y * 256) (by omega) (by omega)] at this
    simpa using this
  rw [e1, bits_or_i64 _ _ (by omega) (by omega), nat_join 8 (x * 65536 + y * 256) z (by omega) (by omega)]
theorem abc_sg : ∀ m : Fin 64, abc.data[m.1]? = some (sg m.1) := by decide +kernel
theorem idx_abc (m : Nat) (hm : m < 64) (W : World) : (Instr.index 9 (.string abc) (.int .i64 (m : Int))).run Try.prog W = .ok (.int .u8 ((sg m).toNat : Int)) W := by
  rw [run_index_string W 9 _ .i64 (m : Int) Try.underlying9]
  have h := abc_sg ⟨m, hm⟩
  have hs : abc.size = 64 := rfl
  obtain ⟨hlt, he⟩ := Array.getElem?_eq_some_iff.1 h
  rw [dif_pos ⟨by omega, by omega⟩]
  show Result.ok (Value.int .u8 ((abc.data[m]'hlt).toNat : Int)) W = _
  rw [show abc.data[m]'hlt = sg m from he]

theorem arr_rd (w : World) {W : World} {o : Obj} {cs : Array Value} {t : TypeId} (hW : W = (w.alloc o).alloc (.cells cs t)) (l : List UInt8) (hc : ∀ j (h : j < l.length), cs[j]? = some (bv l[j])) : Rd W W.heap.size (some ⟨w.heap.size + 1, 0, none⟩) l := by
  refine .inr ⟨w.heap.size + 1, 0, rfl, by rw [hW]; simp, fun j hj => ?_⟩
  have hh : W.heap[w.heap.size + 1]? = some (.cells cs t (0, 0)) := by
    rw [hW]
    have := heap_alloc_new (w.alloc o) (.cells cs t)
    simpa using this
  rw [Nat.zero_add, cell_of_row W _ j cs t (0, 0) hh]
  exact hc j hj

set_option maxHeartbeats 2000000 in
theorem ag3 (x y z : UInt8) (A : Option Addr) (n c base : Nat) (l : List UInt8) (w : World) (hn : l.length = n) (h : Own w base A c l) (hb : base ≤ w.heap.size) (hl : n ≤ 100000) :
    Calls Try.prog 14 #[.slice A n c, .agg #[.int .u8 x.toNat, .int .u8 y.toNat, .int .u8 z.toNat], .int .i64 3] w
      fun e w' => ∃ A' c', e = .returned (.slice A' (n + 4) c') ∧ Own w' base A' c' (l ++ [sg (x.toNat / 4), sg (x.toNat % 4 * 16 + y.toNat / 16), sg (y.toNat % 16 * 4 + z.toNat / 64), sg (z.toNat % 64)]) ∧ Below base w w' ∧ Keep5 w w' := by
  have Ho := Lib.hid h
  have Hn := Lib.hid hn
  have hx := u8_lt x
  have hy := u8_lt y
  have hz := u8_lt z
  clear h hn
  obtain ⟨V, hV⟩ : ∃ V : Nat, V = x.toNat * 65536 + y.toNat * 256 + z.toNat := ⟨_, rfl⟩
  have hV2 : V < 16777216 := by omega
  have hor : bits .or .i64 (bits .or .i64 ((x.toNat : Int) * 65536) ((y.toNat : Int) * 256)) (z.toNat : Int) = (V : Int) := by
    rw [hV]; exact or3 _ _ _ hx hy hz
  obtain ⟨a0, ha0⟩ : ∃ a0 : Nat, a0 = x.toNat / 4 := ⟨_, rfl⟩
  obtain ⟨a1, ha1⟩ : ∃ a1 : Nat, a1 = x.toNat % 4 * 16 + y.toNat / 16 := ⟨_, rfl⟩
  obtain ⟨a2, ha2⟩ : ∃ a2 : Nat, a2 = y.toNat % 16 * 4 + z.toNat / 64 := ⟨_, rfl⟩
  obtain ⟨a3, ha3⟩ : ∃ a3 : Nat, a3 = z.toNat % 64 := ⟨_, rfl⟩
  have h3 : bits .and .i64 (V : Int) 63 = (a3 : Int) := by rw [and63 V (by omega)]; omega
  have h2 : bits .and .i64 ((V : Int) / 64) 63 = (a2 : Int) := by rw [show (V : Int) / 64 = ((V / 64 : Nat) : Int) by omega, and63 _ (by omega)]; omega
  have h1 : bits .and .i64 ((V : Int) / 4096) 63 = (a1 : Int) := by rw [show (V : Int) / 4096 = ((V / 4096 : Nat) : Int) by omega, and63 _ (by omega)]; omega
  have h0 : (V : Int) / 262144 = (a0 : Int) := by omega
  have g0 : a0 < 64 := by omega
  have g1 : a1 < 64 := by omega
  have g2 : a2 < 64 := by omega
  have g3 : a3 < 64 := by omega
  rw [← ha0, ← ha1, ← ha2, ← ha3]
  have i0 := idx_abc a0 g0
  have i1 := idx_abc a1 g1
  have i2 := idx_abc a2 g2
  have i3 := idx_abc a3 g3
  simp only [abc] at i0 i1 i2 i3
  clear hV ha0 g0 ha1 g1 ha2 g2 ha3 g3
  go_enter Try.func14, Try.ntmps14
  go_wp2_with fail
  refine (len_any 3 _ (by omega) (by omega)).mono ?_
  rintro e w5 ⟨rfl, rfl⟩
  rw [show lenI 3 = 4 from rfl]
  obtain ⟨W, hW⟩ : ∃ W : World, W = (w.alloc (.cells #[.int .u8 (x.toNat : Int), .int .u8 (y.toNat : Int), .int .u8 (z.toNat : Int)] 35)).alloc (.cells #[.int .u8 ((sg a0).toNat : Int), .int .u8 ((sg a1).toNat : Int), .int .u8 ((sg a2).toNat : Int), .int .u8 ((sg a3).toNat : Int)] 42) := ⟨_, rfl⟩
  rw [← hW]
  have Hrd := Lib.hid (show Rd W W.heap.size (some ⟨w.heap.size + 1, 0, none⟩) ([sg a0, sg a1, sg a2, sg a3] : List UInt8) from arr_rd w hW ([sg a0, sg a1, sg a2, sg a3] : List UInt8) (by intro j hj; simp only [List.length_cons, List.length_nil] at hj; match j, hj with | 0, _ => rfl | 1, _ => rfl | 2, _ => rfl | 3, _ => rfl))
  have Hbw := Lib.hid (show Below w.heap.size w W by rw [hW]; exact ((Below.refl _ _).alloc (Nat.le_refl _) _).alloc (by simp) _)
  have hsz : base ≤ W.heap.size := by have := Hbw.out.size; omega
  clear hW
  have HoW := Lib.hid (Ho.out.grow Hbw.out)
  go_wp2_with (first | (at_builtin
                        refine wpList_appK rfl (.tmp 47) (.tmp 50) rfl Hn.out rfl HoW.out (n2 := 4) (l2 := [sg a0, sg a1, sg a2, sg a3]) rfl rfl Hrd.out (by omega) hsz ?_
                        intro A3 c3 w3 ho3 hb3 hk3
                        have Ho3 := Lib.hid ho3
                        have Hb3 := Lib.hid hb3
                        have Hk3 := Lib.hid hk3
                        clear ho3 hb3 hk3))
  go_ret
  exact ⟨A3, c3, rfl, Ho3.out, Below.trans (Hbw.out.mono hb) Hb3.out, (Keep5.of_below Hbw.out).trans Hk3.out⟩

set_option maxHeartbeats 2000000 in
theorem ag2 (x y z : UInt8) (A : Option Addr) (n c base : Nat) (l : List UInt8) (w : World) (hn : l.length = n) (h : Own w base A c l) (hb : base ≤ w.heap.size) (hl : n ≤ 100000) :
    Calls Try.prog 14 #[.slice A n c, .agg #[.int .u8 x.toNat, .int .u8 y.toNat, .int .u8 z.toNat], .int .i64 2] w
      fun e w' => ∃ A' c', e = .returned (.slice A' (n + 3) c') ∧ Own w' base A' c' (l ++ [sg (x.toNat / 4), sg (x.toNat % 4 * 16 + y.toNat / 16), sg (y.toNat % 16 * 4 + z.toNat / 64)]) ∧ Below base w w' ∧ Keep5 w w' := by
  have Ho := Lib.hid h
  have Hn := Lib.hid hn
  have hx := u8_lt x
  have hy := u8_lt y
  have hz := u8_lt z
  clear h hn
  obtain ⟨V, hV⟩ : ∃ V : Nat, V = x.toNat * 65536 + y.toNat * 256 + z.toNat := ⟨_, rfl⟩
  have hV2 : V < 16777216 := by omega
  have hor : bits .or .i64 (bits .or .i64 ((x.toNat : Int) * 65536) ((y.toNat : Int) * 256)) (z.toNat : Int) = (V : Int) := by
    rw [hV]; exact or3 _ _ _ hx hy hz
  obtain ⟨a0, ha0⟩ : ∃ a0 : Nat, a0 = x.toNat / 4 := ⟨_, rfl⟩
  obtain ⟨a1, ha1⟩ : ∃ a1 : Nat, a1 = x.toNat % 4 * 16 + y.toNat / 16 := ⟨_, rfl⟩
  obtain ⟨a2, ha2⟩ : ∃ a2 : Nat, a2 = y.toNat % 16 * 4 + z.toNat / 64 := ⟨_, rfl⟩
  have h2 : bits .and .i64 ((V : Int) / 64) 63 = (a2 : Int) := by rw [show (V : Int) / 64 = ((V / 64 : Nat) : Int) by omega, and63 _ (by omega)]; omega
  have h1 : bits .and .i64 ((V : Int) / 4096) 63 = (a1 : Int) := by rw [show (V : Int) / 4096 = ((V / 4096 : Nat) : Int) by omega, and63 _ (by omega)]; omega
  have h0 : (V : Int) / 262144 = (a0 : Int) := by omega
  have g0 : a0 < 64 := by omega
  have g1 : a1 < 64 := by omega
  have g2 : a2 < 64 := by omega
  rw [← ha0, ← ha1, ← ha2]
  have i0 := idx_abc a0 g0
  have i1 := idx_abc a1 g1
  have i2 := idx_abc a2 g2
  simp only [abc] at i0 i1 i2
  clear hV ha0 g0 ha1 g1 ha2 g2
  go_enter Try.func14, Try.ntmps14
  go_wp2_with fail
  refine (len_any 2 _ (by omega) (by omega)).mono ?_
  rintro e w5 ⟨rfl, rfl⟩
  rw [show lenI 2 = 3 from rfl]
  obtain ⟨W, hW⟩ : ∃ W : World, W = (w.alloc (.cells #[.int .u8 (x.toNat : Int), .int .u8 (y.toNat : Int), .int .u8 (z.toNat : Int)] 35)).alloc (.cells #[.int .u8 ((sg a0).toNat : Int), .int .u8 ((sg a1).toNat : Int), .int .u8 ((sg a2).toNat : Int), .int .u8 0] 42) := ⟨_, rfl⟩
  rw [← hW]
  have Hrd := Lib.hid (show Rd W W.heap.size (some ⟨w.heap.size + 1, 0, none⟩) ([sg a0, sg a1, sg a2] : List UInt8) from arr_rd w hW ([sg a0, sg a1, sg a2] : List UInt8) (by intro j hj; simp only [List.length_cons, List.length_nil] at hj; match j, hj with | 0, _ => rfl | 1, _ => rfl | 2, _ => rfl))
  have Hbw := Lib.hid (show Below w.heap.size w W by rw [hW]; exact ((Below.refl _ _).alloc (Nat.le_refl _) _).alloc (by simp) _)
  have hsz : base ≤ W.heap.size := by have := Hbw.out.size; omega
  clear hW
  have HoW := Lib.hid (Ho.out.grow Hbw.out)
  go_wp2_with (first | (at_builtin
                        refine wpList_appK rfl (.tmp 47) (.tmp 50) rfl Hn.out rfl HoW.out (n2 := 3) (l2 := [sg a0, sg a1, sg a2]) rfl rfl Hrd.out (by omega) hsz ?_
                        intro A3 c3 w3 ho3 hb3 hk3
                        have Ho3 := Lib.hid ho3
                        have Hb3 := Lib.hid hb3
                        have Hk3 := Lib.hid hk3
                        clear ho3 hb3 hk3))
  go_ret
  exact ⟨A3, c3, rfl, Ho3.out, Below.trans (Hbw.out.mono hb) Hb3.out, (Keep5.of_below Hbw.out).trans Hk3.out⟩

set_option maxHeartbeats 2000000 in
theorem ag1 (x y z : UInt8) (A : Option Addr) (n c base : Nat) (l : List UInt8) (w : World) (hn : l.length = n) (h : Own w base A c l) (hb : base ≤ w.heap.size) (hl : n ≤ 100000) :
    Calls Try.prog 14 #[.slice A n c, .agg #[.int .u8 x.toNat, .int .u8 y.toNat, .int .u8 z.toNat], .int .i64 1] w
      fun e w' => ∃ A' c', e = .returned (.slice A' (n + 2) c') ∧ Own w' base A' c' (l ++ [sg (x.toNat / 4), sg (x.toNat % 4 * 16 + y.toNat / 16)]) ∧ Below base w w' ∧ Keep5 w w' := by
  have Ho := Lib.hid h
  have Hn := Lib.hid hn
  have hx := u8_lt x
  have hy := u8_lt y
  have hz := u8_lt z
  clear h hn
  obtain ⟨V, hV⟩ : ∃ V : Nat, V = x.toNat * 65536 + y.toNat * 256 + z.toNat := ⟨_, rfl⟩
  have hV2 : V < 16777216 := by omega
  have hor : bits .or .i64 (bits .or .i64 ((x.toNat : Int) * 65536) ((y.toNat : Int) * 256)) (z.toNat : Int) = (V : Int) := by
    rw [hV]; exact or3 _ _ _ hx hy hz
  obtain ⟨a0, ha0⟩ : ∃ a0 : Nat, a0 = x.toNat / 4 := ⟨_, rfl⟩
  obtain ⟨a1, ha1⟩ : ∃ a1 : Nat, a1 = x.toNat % 4 * 16 + y.toNat / 16 := ⟨_, rfl⟩
  have h1 : bits .and .i64 ((V : Int) / 4096) 63 = (a1 : Int) := by rw [show (V : Int) / 4096 = ((V / 4096 : Nat) : Int) by omega, and63 _ (by omega)]; omega
  have h0 : (V : Int) / 262144 = (a0 : Int) := by omega
  have g0 : a0 < 64 := by omega
  have g1 : a1 < 64 := by omega
  rw [← ha0, ← ha1]
  have i0 := idx_abc a0 g0
  have i1 := idx_abc a1 g1
  simp only [abc] at i0 i1
  clear hV ha0 g0 ha1 g1
  go_enter Try.func14, Try.ntmps14
  go_wp2_with fail
  refine (len_any 1 _ (by omega) (by omega)).mono ?_
  rintro e w5 ⟨rfl, rfl⟩
  rw [show lenI 1 = 2 from rfl]
  obtain ⟨W, hW⟩ : ∃ W : World, W = (w.alloc (.cells #[.int .u8 (x.toNat : Int), .int .u8 (y.toNat : Int), .int .u8 (z.toNat : Int)] 35)).alloc (.cells #[.int .u8 ((sg a0).toNat : Int), .int .u8 ((sg a1).toNat : Int), .int .u8 0, .int .u8 0] 42) := ⟨_, rfl⟩
  rw [← hW]
  have Hrd := Lib.hid (show Rd W W.heap.size (some ⟨w.heap.size + 1, 0, none⟩) ([sg a0, sg a1] : List UInt8) from arr_rd w hW ([sg a0, sg a1] : List UInt8) (by intro j hj; simp only [List.length_cons, List.length_nil] at hj; match j, hj with | 0, _ => rfl | 1, _ => rfl))
  have Hbw := Lib.hid (show Below w.heap.size w W by rw [hW]; exact ((Below.refl _ _).alloc (Nat.le_refl _) _).alloc (by simp) _)
  have hsz : base ≤ W.heap.size := by have := Hbw.out.size; omega
  clear hW
  have HoW := Lib.hid (Ho.out.grow Hbw.out)
  go_wp2_with (first | (at_builtin
                        refine wpList_appK rfl (.tmp 47) (.tmp 50) rfl Hn.out rfl HoW.out (n2 := 2) (l2 := [sg a0, sg a1]) rfl rfl Hrd.out (by omega) hsz ?_
                        intro A3 c3 w3 ho3 hb3 hk3
                        have Ho3 := Lib.hid ho3
                        have Hb3 := Lib.hid hb3
                        have Hk3 := Lib.hid hk3
                        clear ho3 hb3 hk3))
  go_ret
  exact ⟨A3, c3, rfl, Ho3.out, Below.trans (Hbw.out.mono hb) Hb3.out, (Keep5.of_below Hbw.out).trans Hk3.out⟩

set_option maxHeartbeats 2000000 in
theorem ag0 (x y z : UInt8) (A : Option Addr) (n c base : Nat) (l : List UInt8) (w : World) (hn : l.length = n) (h : Own w base A c l) (hb : base ≤ w.heap.size) (hl : n ≤ 100000) :
    Calls Try.prog 14 #[.slice A n c, .agg #[.int .u8 x.toNat, .int .u8 y.toNat, .int .u8 z.toNat], .int .i64 0] w
      fun e w' => ∃ A' c', e = .returned (.slice A' (n + 0) c') ∧ Own w' base A' c' (l ++ []) ∧ Below base w w' ∧ Keep5 w w' := by
  have Ho := Lib.hid h
  have Hn := Lib.hid hn
  have hx := u8_lt x
  have hy := u8_lt y
  have hz := u8_lt z
  clear h hn
  obtain ⟨V, hV⟩ : ∃ V : Nat, V = x.toNat * 65536 + y.toNat * 256 + z.toNat := ⟨_, rfl⟩
  have hV2 : V < 16777216 := by omega
  have hor : bits .or .i64 (bits .or .i64 ((x.toNat : Int) * 65536) ((y.toNat : Int) * 256)) (z.toNat : Int) = (V : Int) := by
    rw [hV]; exact or3 _ _ _ hx hy hz
  go_enter Try.func14, Try.ntmps14
  go_wp2_with fail
  refine (len_any 0 _ (by omega) (by omega)).mono ?_
  rintro e w5 ⟨rfl, rfl⟩
  rw [show lenI 0 = 0 from rfl]
  obtain ⟨W, hW⟩ : ∃ W : World, W = (w.alloc (.cells #[.int .u8 (x.toNat : Int), .int .u8 (y.toNat : Int), .int .u8 (z.toNat : Int)] 35)).alloc (.cells #[.int .u8 0, .int .u8 0, .int .u8 0, .int .u8 0] 42) := ⟨_, rfl⟩
  rw [← hW]
  have Hrd := Lib.hid (show Rd W W.heap.size (some ⟨w.heap.size + 1, 0, none⟩) ([] : List UInt8) from arr_rd w hW ([] : List UInt8) (by intro j hj; simp at hj))
  have Hbw := Lib.hid (show Below w.heap.size w W by rw [hW]; exact ((Below.refl _ _).alloc (Nat.le_refl _) _).alloc (by simp) _)
  have hsz : base ≤ W.heap.size := by have := Hbw.out.size; omega
  clear hW
  have HoW := Lib.hid (Ho.out.grow Hbw.out)
  go_wp2_with (first | (at_builtin
                        refine wpList_appK rfl (.tmp 47) (.tmp 50) rfl Hn.out rfl HoW.out (n2 := 0) (l2 := []) rfl rfl Hrd.out (by omega) hsz ?_
                        intro A3 c3 w3 ho3 hb3 hk3
                        have Ho3 := Lib.hid ho3
                        have Hb3 := Lib.hid hb3
                        have Hk3 := Lib.hid hk3
                        clear ho3 hb3 hk3))
  go_ret
  exact ⟨A3, c3, rfl, Ho3.out, Below.trans (Hbw.out.mono hb) Hb3.out, (Keep5.of_below Hbw.out).trans Hk3.out⟩
end Go.Proofs.Ytjpjodjdciamhaa
