/-
  law07's awake.
-/
import Derived.Test.YtfiboodmabfecaaPdN
import Derived.Test.YtfiboodmabfecaaRhx
import Derived.Test.YtfiboodmabfecaaSto
namespace Go.Proofs.Ytfiboodmabfecaa.S7
open Go.RowKit
set_option linter.unusedVariables false
set_option linter.unusedSimpArgs false

theorem hex_ex : (hexL (encL (keysL ex1) ex2)).toArray = #[56, 101, 97, 50, 98, 55, 99, 97, 53, 49, 54, 55, 52, 53, 98, 102, 101, 97, 102, 99, 52, 57, 57, 48, 52, 98, 52, 57, 54, 48, 56, 57] := by
  rw [example_enc]
  rfl
theorem ex1_len : ex1.length = 32 := rfl
theorem ex1_at (t : Nat) (h : t < 32) : ex1.take t ++ [UInt8.ofNat t] = ex1.take (t + 1) := by
  rw [take_snoc ex1 t (by rw [ex1_len]; exact h)]
  congr 2
  simp [ex1]
theorem rd_far {w : World} {B g o : Nat} {l : List UInt8} (h : Rd w B (some ⟨g, o, none⟩) l) {p : Addr} (hp : g ≠ p.block) (u : Value) : Rd (w.setCell p u) B (some ⟨g, o, none⟩) l := by
  rcases h with h | ⟨b, off, e, hb, hc⟩
  · exact .inl h
  · refine .inr ⟨b, off, e, hb, fun j hj => ?_⟩
    simp only [Option.some.injEq, Addr.mk.injEq] at e
    obtain ⟨rfl, rfl, _⟩ := e
    exact (World.cell?_of_block (a := ⟨g, o + j, none⟩) (Below.heap_setCell w p u g hp)).trans (hc j hj)
theorem bk_rd {w : World} {g : Nat} {t : TypeId} {l : List UInt8} (h : Bk w g t l) {B : Nat} (hB : g < B) : Rd w B (some ⟨g, 0, none⟩) l :=
  .inr ⟨g, 0, rfl, hB, fun j hj => by rw [Nat.zero_add, h.cell j hj]; simp [bv, gt, hj]⟩
def ex2F (t : Nat) : UInt8 := UInt8.ofNat (17 * t)

set_option maxHeartbeats 4000000 in
set_option maxRecDepth 20000 in
theorem awake (w : World) : Calls Try.prog 7 #[] w (Says w true) := by
  go_enter Try.func7, Try.ntmps7
  go_wp2
  obtain ⟨gb, hgb⟩ : ∃ g, g = w.heap.size := ⟨_, rfl⟩
  have H0 := Lib.hid (show Below gb w (w.alloc (.cells (bvs zs16).toArray 23)) ∧ Bk (w.alloc (.cells (bvs zs16).toArray 23)) gb 23 zs16 from ⟨by rw [hgb]; exact alloc_below w _, by rw [hgb]; exact Bk.new w _ _⟩)
  rw [show (bvs zs16).toArray = #[Value.int .u8 0, Value.int .u8 0, Value.int .u8 0, Value.int .u8 0, Value.int .u8 0, Value.int .u8 0, Value.int .u8 0, Value.int .u8 0, Value.int .u8 0, Value.int .u8 0, Value.int .u8 0, Value.int .u8 0, Value.int .u8 0, Value.int .u8 0, Value.int .u8 0, Value.int .u8 0] from rfl] at H0
  rw [← hgb]
  have HGB := Lib.hid hgb
  clear hgb
  generalize w.alloc _ = w2 at H0 ⊢
  go_loopw [1, 3] (fun v1 v3 wr => ∃ (t c1 : Nat) (A1 : Option Addr), t ≤ 32 ∧ v1 = .slice A1 t c1 ∧ v3 = .int .i64 (t : Int) ∧ Hid (Own wr (gb + 1) A1 c1 (ex1.take t)) ∧ Hid (Below gb w wr ∧ Bk wr gb 23 zs16)) (fun _ v3 _ => 32 - (intOf v3).toNat)
  case atStart => exact ⟨0, 0, none, by omega, rfl, rfl, Own.nil _ _, H0.out⟩
  case round =>
    clear H0
    obtain ⟨t, c1, A1, ht, rfl, rfl, HO, HB⟩ := hrel
    by_cases hlt : t < 32
    · obtain ⟨x, hx⟩ : ∃ x, x = UInt8.ofNat t := ⟨_, rfl⟩
      have hxt : x.toNat = t := by rw [hx, UInt8.toNat_ofNat']; omega
      have wt : IntKind.u8.wrap (t : Int) = (x.toNat : Int) := by rw [IntKind.wrap_u8, hxt]; omega
      have wt2 : (t : Int) % 256 = (x.toNat : Int) := by rw [hxt]; omega
      have Htk := Lib.hid (show ex1.take t ++ [x] = ex1.take (t + 1) by rw [hx]; exact ex1_at t hlt)
      have HL := Lib.hid (show (ex1.take t).length = t by rw [List.length_take, ex1_len]; omega)
      have HL2 := Lib.hid (show (ex1.take (t + 1)).length = t + 1 by rw [List.length_take, ex1_len]; omega)
      have hsz : gb + 1 ≤ wr.heap.size := by have := HB.out.2.lt; omega
      have bt : (t : Int) < 32 := by omega
      clear hx hxt
      go_wp2_with (first
        | (at_builtin
           refine wpList_app rfl (.tmp 12) (.tmp 15) rfl (base := gb + 1) (l := ex1.take t) (by rw [HL.out]; rfl) (HO.out.grow (alloc_below wr _)) (l2 := [x]) rfl ((Row.new wr [x]).rd (Nat.lt_succ_self _)) (by rw [HL.out]; simp; omega) (by simp; omega) (ex1.take (t + 1)) Htk.out ?_
           intro A3 c3 w3 ho3 hb3
           rw [HL2.out]
           have Ho3 := Lib.hid ho3
           have Hb3 := Lib.hid (show Below gb w w3 ∧ Bk w3 gb 23 zs16 from ⟨(Below.alloc HB.out.1 (by omega) _).trans (hb3.mono (by omega)), (HB.out.2.alloc _).below hb3 (by omega)⟩)
           clear ho3 hb3))
      go_roundw
      case rel => exact ⟨t + 1, c3, A3, by omega, rfl, by go_num, Ho3.out, Hb3.out⟩
      case measure => simp [intOf]; omega
    · have Ht := Lib.hid (show t = 32 by omega)
      have HO2 := Lib.hid (show Own wr (gb + 1) A1 c1 ex1 by have := HO.out; rwa [List.take_of_length_le (by rw [ex1_len, Ht.out]; omega)] at this)
      obtain ⟨g, rfl, hgg⟩ : ∃ g, A1 = some ⟨g, 0, none⟩ ∧ gb ≠ g := by
        rcases HO2.out.form with ⟨_, h2, _⟩ | ⟨g, cur, h1, h2, _⟩
        · exact absurd h2 (by decide)
        · exact ⟨g, h1, by omega⟩
      have hc32 : 32 ≤ c1 := by have := HO2.out.le; rwa [ex1_len] at this
      have HB2 := Lib.hid (show Below gb w wr ∧ Rd wr wr.heap.size (some ⟨g, 0, none⟩) ex1 ∧ Bk wr gb 23 (pt ex2F zs16 0) from ⟨HB.out.1, HO2.out.rd, by rw [pt_zero _ _ rfl]; exact HB.out.2⟩)
      have bt : ¬ (t : Int) < 32 := by omega
      clear HO HO2 HB
      go_wp2
      go_loopw [4] (fun v4 wr => ∃ s : Nat, s ≤ 16 ∧ v4 = .int .i64 (s : Int) ∧ Hid (Below gb w wr ∧ Rd wr wr.heap.size (some ⟨g, 0, none⟩) ex1 ∧ Bk wr gb 23 (pt ex2F zs16 s))) (fun v4 _ => 16 - (intOf v4).toNat)
      case atStart => exact ⟨0, by omega, rfl, HB2.out⟩
      case round =>
        clear HB2
        obtain ⟨s, hs, rfl, H⟩ := hrel
        by_cases hls : s < 16
        · obtain ⟨x, hx⟩ : ∃ x, x = ex2F s := ⟨_, rfl⟩
          obtain ⟨m, hm⟩ : ∃ m, m = 17 * s := ⟨_, rfl⟩
          have hxm : x.toNat = m := by rw [hx]; unfold ex2F; rw [UInt8.toNat_ofNat', hm]; omega
          have e0 : 17 * (s : Int) = (m : Int) := by omega
          have e1 : IntKind.i64.wrap (m : Int) = (m : Int) := wrap_i64 m (by omega)
          have wm : IntKind.u8.wrap (m : Int) = (x.toNat : Int) := by rw [IntKind.wrap_u8, hxm]; omega
          have wm2 : (m : Int) % 256 = (x.toNat : Int) := by rw [hxm]; omega
          have yc := H.out.2.2.cell s (by rw [pt_len]; exact hls)
          have yf := H.out.2.2.free s
          have HX := Lib.hid hx
          have bs : (s : Int) < 16 := by omega
          clear hx hm hxm
          go_wp2
          go_roundw
          case rel => exact ⟨s + 1, by omega, by go_num, H.out.1.setCell (Nat.le_refl _) _, (by have := rd_far H.out.2.1 (p := ⟨gb, s, none⟩) (fun e => hgg e.symm) (.int .u8 (x.toNat : Int)); simpa using this), (by rw [← pt_set, ← HX.out]; exact H.out.2.2.put s x)⟩
          case measure => simp [intOf]; omega
        · have H2 := Lib.hid (show Below gb w wr ∧ Rd wr wr.heap.size (some ⟨g, 0, none⟩) ex1 ∧ Bk wr gb 23 ex2 by have := H.out; rw [show s = 16 by omega, pt_all] at this; exact this)
          have bs : ¬ (s : Int) < 16 := by omega
          obtain rfl : t = 32 := Ht.out
          clear H Ht
          go_wp2_with fail
          refine (new_any (some ⟨g, 0, none⟩) c1 ex1 ex1_len hc32 _ H2.out.2.1).mono ?_
          rintro e w5 ⟨G, rfl, hG, hCi, hg5⟩
          have H5 := Lib.hid (show Below gb w w5 ∧ Ci w5 G (keysL ex1) ∧ Bk w5 gb 23 ex2 from ⟨H2.out.1.trans (hg5.mono (by have := H2.out.2.2.lt; omega)), hCi, H2.out.2.2.grow hg5⟩)
          have HeX := Lib.hid (show ex2.length = 16 from rfl)
          clear hG hCi hg5 H2
          obtain ⟨X, hX⟩ : ∃ X, X = ex2 := ⟨_, rfl⟩
          rw [← hX] at H5 HeX
          have HXe := Lib.hid hX
          clear hX
          go_wp2_with (first
            | (refine wpList_load_row rfl 23 (.tmp 2) rfl _ rfl H5.out.2.2 u16B rfl (size16 HeX.out) ?_))
          refine (enc_any G (keysL ex1) X HeX.out _ H5.out.2.1).mono ?_
          rintro e w6 ⟨rfl, hg6⟩
          have H6 := Lib.hid (show Below gb w w6 from H5.out.1.trans (hg6.mono (by have := H5.out.2.2.lt; omega)))
          clear hg6 H5
          obtain ⟨E, hE⟩ : ∃ E, E = encL (keysL ex1) X := ⟨_, rfl⟩
          rw [← hE]
          have HEl := Lib.hid (show E.length = 16 by rw [hE]; exact encL_len _ _)
          have HEx := Lib.hid (show (hexL E).toArray = #[56, 101, 97, 50, 98, 55, 99, 97, 53, 49, 54, 55, 52, 53, 98, 102, 101, 97, 102, 99, 52, 57, 57, 48, 52, 98, 52, 57, 54, 48, 56, 57] by rw [hE, HXe.out]; exact hex_ex)
          clear hE
          go_wp2_with (first
            | (refine wpList_store_last rfl 23 (.tmp 7) (.tmp 39) rfl rfl rfl (size16 HEl.out) (by simp [bvs, HEl.out]) (one16 E) ?_))
          have hR := bk_rd (Bk.new w6 23 E) (B := (w6.alloc (.cells (bvs E).toArray 23)).heap.size) (by simp)
          refine (refHex_any (some ⟨w6.heap.size, 0, none⟩) 16 16 E _ HEl.out hR (by omega)).mono ?_
          rintro e w7 ⟨rfl, hg7⟩
          rw [HEx.out]
          have H7 := Lib.hid (show Below gb w w7 from (H6.out.trans ((alloc_below w6 _).mono (by have := H6.out.size; have := HGB.out; omega))).trans (hg7.mono (by have := H6.out.size; have := HGB.out; simp; omega)))
          clear hg7 hR
          go_wp2
          go_ret
          exact ⟨rfl, by have := H7.out; rw [HGB.out] at this; exact this⟩
theorem awake_twice (w w1 : World) (h : Grown w w1) : Calls Try.prog 7 #[] w1 (Says w true) :=
  (awake w1).mono fun e w2 h2 => ⟨h2.1, Grown.trans h h2.2⟩
end Go.Proofs.Ytfiboodmabfecaa.S7
