/-
  Contract of the reference's Sum.
-/
import Derived.Test.YtbofikghcoalbaaDoorSbOn
import Derived.Test.YtbofikghcoalbaaDoorSbFi
namespace Go.Proofs.YtbofikghcoalbaaDoor.S4
open Go.RowKit
set_option linter.unusedVariables false
set_option linter.unusedSimpArgs false

def sumSt (s : St) : Nat → List UInt8 → St
  | 0, _ => s
  | m + 1, r => sumSt (blk s (r.take 128)) m (r.drop 128)
/-- A text, padded. -/
def padL (l : List UInt8) : List UInt8 := l ++ fillL l.length
def sumV (l : List UInt8) : St := sumSt H0 ((padL l).length / 128) (padL l)
/-- The bytes of a word, the most significant first. -/
def wb (x : UInt64) : List UInt8 := (List.range 8).map fun j => UInt8.ofNat (x.toNat / 256 ^ (7 - j) % 256)
def digest (s : St) : List UInt8 := s.l.flatMap wb
theorem fillL_len (n : Nat) : (fillL n).length = 1 + zs n + 16 := by simp [fillL, be]; omega
theorem pad_len (l : List UInt8) : (padL l).length % 128 = 0 := by
  have h := (zs_hit l.length (zs l.length) (Nat.le_refl _)).2 rfl
  rw [padL, List.length_append, fillL_len]
  omega
theorem wb_take (x : UInt64) (j : Nat) (h : j < 8) : (wb x).take j ++ [UInt8.ofNat (x.toNat / 256 ^ (7 - j) % 256)] = (wb x).take (j + 1) := by
  have hl : j < (wb x).length := by simpa [wb] using h
  rw [List.take_succ_eq_append_getElem hl]
  simp [wb]
theorem wb_len (x : UInt64) : (wb x).length = 8 := by simp [wb]
theorem conv1 (x : UInt8) (W : World) : (convert 22 9 (.slice (some ⟨W.heap.size, 0, none⟩) 1 1)).run Tryd.prog (W.alloc (.cells #[.int .u8 (x.toNat : Int)] 5)) = .ok (.string { data := #[x] }) (W.alloc (.cells #[.int .u8 (x.toNat : Int)] 5)) :=
  conv (one_byte W x) 1
theorem add1 (p : List UInt8) (x : UInt8) (hp : p.length ≤ 4294967296) (W : World) : (Op.stringOp .add { data := p.toArray } { data := #[x] }).run Tryd.prog W = .ok (.string { data := (p ++ [x]).toArray }) W := by
  rw [run_string_add_sum _ _ _ (by show p.toArray.size + 1 ≤ _; simp; omega)]
  congr 2
theorem cut_from (W : World) (A : Option Addr) (m c d : Nat) (h : d ≤ m) : (Instr.slice 22 (.slice A m c) (some (.int .i64 (d : Int))) none none).run Tryd.prog W = .ok (.slice (if c = d then A else A.map (·.add d)) (m - d) (c - d)) W := by
  obtain ⟨i0, hi, hz0, hz1, hz2⟩ := info_parts info5
  have he : Tryd.prog.elem 22 = 5 := by kernel_rfl
  rw [run_slice_l W 22 A m c (by rw [he]; exact Tryd.underlying22) .i64 (d : Int) (by omega) (by omega), he]
  simp [sizeOf, typeInfo, hi, hz1, sliced, Result.andThen]
theorem cut_to (W : World) (A : Option Addr) (m c d : Nat) (h : d ≤ c) : (Instr.slice 22 (.slice A m c) none (some (.int .i64 (d : Int))) none).run Tryd.prog W = .ok (.slice A d c) W := by
  obtain ⟨i0, hi, hz0, hz1, hz2⟩ := info_parts info5
  have he : Tryd.prog.elem 22 = 5 := by kernel_rfl
  rw [run_slice_h W 22 A m c (by rw [he]; exact Tryd.underlying22) .i64 (d : Int) (by omega) (by omega), he]
  cases A <;> simp [sizeOf, typeInfo, hi, hz1, sliced, Result.andThen, Addr.add]
/-- Where Sum stands between two blocks. -/
def SumIn (w wr : World) (V : St) (b h : Value) : Prop :=
  ∃ (m N : Nat) (s : St) (r : List UInt8) (A A8 : Option Addr) (c c8 : Nat), b = .slice A N c ∧ h = .slice A8 8 c8 ∧ N ≤ c ∧ N ≤ 1000000 ∧ Hid (N = 128 * m) ∧ Hid (r.length = N) ∧ Hid (Rd wr wr.heap.size A r) ∧ Hid (RdW wr wr.heap.size A8 s.l) ∧ Hid (sumSt s m r = V) ∧ Hid (Below w.heap.size w wr)

set_option maxHeartbeats 8000000 in
theorem sum_any (A : Option Addr) (n c : Nat) (l : List UInt8) (w : World) (h : Rd w w.heap.size A l) (hn : l.length = n) (hl : n ≤ 100000) :
    Calls Tryd.prog 16 #[.slice A n c] w fun e w' => e = .returned (.string { data := (digest (sumV l)).toArray }) ∧ Below w.heap.size w w' := by
  obtain ⟨F, hF⟩ : ∃ F, (fillL n).length = F := ⟨_, rfl⟩
  have hz : zs n < 128 := Nat.mod_lt _ (by omega)
  have hF2 : F ≤ 200 := by rw [← hF, fillL_len]; omega
  have HF := Lib.hid hF
  have Hn := Lib.hid hn
  have Hpad := Lib.hid (show (n + F) % 128 = 0 by have := pad_len l; rw [padL, List.length_append, hn, hF] at this; exact this)
  have HV := Lib.hid (show sumSt H0 ((n + F) / 128) (l ++ fillL n) = sumV l by rw [sumV, padL, List.length_append, hn, hF])
  have H0 := Lib.hid (h.grow (alloc_below w (.cells #[] 5)))
  have Ho0 := Lib.hid (Own.lit w [] (Nat.le_refl _) (by decide))
  clear h hn hF hz
  go_enter Tryd.func16, Tryd.ntmps16
  go_wp2_with (first
    | (at_builtin
       refine wpList_appK rfl (.tmp 8) (.tmp 9) rfl (n := 0) (l := []) rfl rfl Ho0.out (n2 := n) (l2 := l) Hn.out rfl H0.out (by omega) (by simp) ?_
       intro A3 c3 w3 ho3 hb3 hk3
       have Ho3 := Lib.hid ho3
       have Hb3 := Lib.hid ((alloc_below w (.cells #[] 5)).trans hb3)
       clear ho3 hb3 hk3))
  refine (fill_any n _ (by omega)).mono ?_
  rintro e w4 ⟨A4, c4, rfl, ho4, hb4⟩
  rw [HF.out]
  have Ho4 := Lib.hid ho4
  have hs3 := Hb3.out.size
  have hs4 := hb4.size
  have Hb4 := Lib.hid (Hb3.out.trans (hb4.mono hs3))
  have Ho5 := Lib.hid (Ho3.out.grow hb4)
  clear ho4 hb4
  go_wp2_with (first
    | (at_builtin
       refine wpList_appK rfl (.tmp 10) (.tmp 13) rfl (l := l) Hn.out rfl Ho5.out (n2 := F) (l2 := fillL n) HF.out rfl Ho4.out.rd (by omega) (by omega) ?_
       intro A6 c6 w6 ho6 hb6 hk6
       have Ho6 := Lib.hid ho6
       have Hb6 := Lib.hid (Hb4.out.trans hb6)
       clear ho6 hb6 hk6))
  have hs6 := Hb6.out.size
  have HoH := Lib.hid (OwnW.lit w6 Go.Proofs.YtbofikghcoalbaaDoor.S4.H0.l (Nat.le_refl _) (by decide))
  have Hal := Lib.hid (alloc_below w6 (.cells (wvs Go.Proofs.YtbofikghcoalbaaDoor.S4.H0.l).toArray 44))
  go_loopw [3, 4] (fun b h wr => SumIn w wr (sumV l) b h) (fun b _ _ => sliceLen b)
  case atStart =>
    refine ⟨(n + F) / 128, n + F, _, _, A6, _, c6, 8, rfl, rfl, ?_, by omega, ?_, ?_, Ho6.out.rd.grow Hal.out, HoH.out.rd, HV.out, (Hb6.out.trans (Hal.out.mono hs6))⟩
    · have := Ho6.out.le
      rw [List.length_append, Hn.out, HF.out] at this
      exact this
    · show n + F = 128 * ((n + F) / 128)
      have := Hpad.out
      omega
    · show _ = _
      rw [List.length_append, Hn.out, HF.out]
  case round =>
    obtain ⟨m, N, s, r, Ab, A8, cb, c8, rfl, rfl, hNc, hN, HNm, Hr, Hrd, H8, Hs, Hb⟩ := hrel
    have hB := Hb.out.size
    by_cases hN0 : 0 < N
    · obtain ⟨m', rfl⟩ : ∃ m', m = m' + 1 := ⟨m - 1, by have := HNm.out; omega⟩
      have hNB : 128 ≤ N := by have := HNm.out; omega
      obtain ⟨Ac, hAc⟩ : ∃ Ac, Ac = (if cb = 128 then Ab else Ab.map (·.add 128)) := ⟨_, rfl⟩
      have hto : ∀ W : World, (Instr.slice 22 (.slice Ab N cb) none (some (.int .i64 128)) none).run Tryd.prog W = .ok (.slice Ab 128 cb) W := fun W => cut_to W Ab N cb 128 (by omega)
      have hfrom : ∀ W : World, (Instr.slice 22 (.slice Ab N cb) (some (.int .i64 128)) none none).run Tryd.prog W = .ok (.slice Ac (N - 128) (cb - 128)) W := fun W => by rw [hAc]; exact cut_from W Ab N cb 128 hNB
      have HAc := Lib.hid hAc
      clear hAc
      go_wp2_with fail
      refine (one_any A8 Ab c8 cb s (r.take 128) _ H8.out (Hrd.out.take 128) (by rw [List.length_take, Hr.out]; omega)).mono ?_
      rintro e w7 ⟨A7, c7, rfl, ho7, hb7⟩
      rw [show (blk s (r.take 128)).l.length = 8 from rfl]
      have Ho7 := Lib.hid ho7
      have Hb7 := Lib.hid hb7
      clear ho7 hb7
      go_wp2
      go_roundw
      case rel =>
        refine ⟨m', N - 128, blk s (r.take 128), r.drop 128, Ac, A7, cb - 128, c7, rfl, rfl, by omega, by omega, ?_, ?_, ?_, Ho7.out.rd, Hs.out, Hb.out.trans (Hb7.out.mono hB)⟩
        · show N - 128 = 128 * m'
          have := HNm.out
          omega
        · show _ = _
          rw [List.length_drop, Hr.out]
        · show Rd _ _ _ _
          rw [HAc.out]
          exact Rd.cut (Hrd.out.grow Hb7.out) (by rw [Hr.out]; exact hNc)
      case measure => simp [sliceLen]; omega
    · obtain rfl : N = 0 := by omega
      obtain rfl : m = 0 := by have := HNm.out; omega
      have HsV := Lib.hid (show s = sumV l from Hs.out)
      obtain ⟨g8, o8, rfl, hg8, hcs8⟩ := H8.out.eight (Below.refl _ _)
      have Hcs := Lib.hid hcs8
      obtain ⟨wo, hwo⟩ : ∃ wo : World, wo = wr := ⟨_, rfl⟩
      subst hwo
      clear hcs8 Hrd Hr HNm Hs H8 hNc hN hN0
      go_wp2
      go_loopw [5, 6] (fun v i wr => ∃ (q : Nat) (S : ByteArray), q ≤ 8 ∧ i = .int .i64 (q : Int) ∧ v = .string S ∧ Hid (S = { data := ((s.l.take q).flatMap wb).toArray }) ∧ Hid (Grown wo wr)) (fun _ i _ => 8 - (intOf i).toNat)
      case atStart => exact ⟨0, _, by omega, rfl, rfl, rfl, Grown.refl _⟩
      case round =>
        obtain ⟨q, S, hq, rfl, rfl, HS, Hg⟩ := hrel
        by_cases hlt : q < 8
        · have hcq := cell_at (Hcs.out q hlt) _ Hg.out
          have hql : q < s.l.length := hlt
          obtain ⟨x, hx⟩ : ∃ x, s.l.getD q 0 = x := ⟨_, rfl⟩
          rw [hx] at hcq
          have Hx := Lib.hid (show (s.l.take q).flatMap wb ++ wb x = (s.l.take (q + 1)).flatMap wb by
            rw [List.take_succ_eq_append_getElem hql, List.flatMap_append]
            simp only [List.flatMap_cons, List.flatMap_nil, List.append_nil]
            rw [← hx, List.getD_eq_getElem?_getD, List.getElem?_eq_getElem hql]
            rfl)
          have Hpl := Lib.hid (show ((s.l.take q).flatMap wb).length ≤ 100 by
            rw [List.length_flatMap, show (s.l.take q).map (fun a => (wb a).length) = List.replicate q 8 by
              apply List.ext_getElem
              · simp; omega
              · intro i h1 h2; simp [wb_len]]
            simp
            omega)
          have Cq := Lib.hid hcq
          have Hxe := Lib.hid hx
          clear hx hcq hql
          go_wp2
          go_loopw [5, 7] (fun v d wr => ∃ (j : Nat) (S : ByteArray) (dI : Int), j ≤ 8 ∧ d = .int .i64 dI ∧ dI = 7 - (j : Int) ∧ v = .string S ∧ Hid (S = { data := ((s.l.take q).flatMap wb ++ (wb x).take j).toArray }) ∧ Hid (Grown wo wr)) (fun _ d _ => (intOf d + 1).toNat)
          case atStart => exact ⟨0, S, 7, by omega, rfl, by omega, rfl, (by show _ = _; rw [HS.out]; simp), Hg.out⟩
          case round =>
            clear HS Hg
            obtain ⟨j, S, dI, hj, rfl, hdI, rfl, HS, Hg⟩ := hrel
            by_cases hj4 : j < 8
            · have hc := cell_at (Hcs.out q hlt) _ Hg.out
              have Hwt := Lib.hid (wb_take x j hj4)
              rw [Hxe.out] at hc
              have hcase : j = 0 ∨ j = 1 ∨ j = 2 ∨ j = 3 ∨ j = 4 ∨ j = 5 ∨ j = 6 ∨ j = 7 := by omega
              clear hj hj4
              rcases hcase with rfl | rfl | rfl | rfl | rfl | rfl | rfl | rfl
              · obtain rfl : dI = 7 := by omega
                clear hdI
                obtain ⟨y, hy⟩ : ∃ y, y = UInt8.ofNat (x.toNat / 256 ^ (7 - 0) % 256) := ⟨_, rfl⟩
                have hyy : (x.toNat : Int) / 72057594037927936 % 256 = (y.toNat : Int) := by rw [hy, UInt8.toNat_ofNat', show 256 ^ (7 - 0) = 72057594037927936 from rfl]; omega
                rw [← hy] at Hwt
                clear hy
                obtain ⟨S2, hS2⟩ : ∃ S2 : ByteArray, S2 = { data := ((s.l.take q).flatMap wb ++ (wb x).take 1).toArray } := ⟨_, rfl⟩
                have hcv := conv1 y
                have hadd : ∀ W : World, (Op.stringOp .add S { data := #[y] }).run Tryd.prog W = .ok (.string S2) W := fun W => by
                  rw [HS.out, add1 _ _ (by rw [List.length_append, List.length_take, wb_len]; have := Hpl.out; omega) W, hS2, List.append_assoc, Hwt.out]
                have HS2 := Lib.hid hS2
                clear hS2
                go_wp2
                go_roundw
                case rel => exact ⟨1, S2, 6, by omega, rfl, by omega, rfl, HS2.out, Grown.trans Hg.out (alloc_below _ _)⟩
                case measure => simp [intOf]
              · obtain rfl : dI = 6 := by omega
                clear hdI
                obtain ⟨y, hy⟩ : ∃ y, y = UInt8.ofNat (x.toNat / 256 ^ (7 - 1) % 256) := ⟨_, rfl⟩
                have hyy : (x.toNat : Int) / 281474976710656 % 256 = (y.toNat : Int) := by rw [hy, UInt8.toNat_ofNat', show 256 ^ (7 - 1) = 281474976710656 from rfl]; omega
                rw [← hy] at Hwt
                clear hy
                obtain ⟨S2, hS2⟩ : ∃ S2 : ByteArray, S2 = { data := ((s.l.take q).flatMap wb ++ (wb x).take 2).toArray } := ⟨_, rfl⟩
                have hcv := conv1 y
                have hadd : ∀ W : World, (Op.stringOp .add S { data := #[y] }).run Tryd.prog W = .ok (.string S2) W := fun W => by
                  rw [HS.out, add1 _ _ (by rw [List.length_append, List.length_take, wb_len]; have := Hpl.out; omega) W, hS2, List.append_assoc, Hwt.out]
                have HS2 := Lib.hid hS2
                clear hS2
                go_wp2
                go_roundw
                case rel => exact ⟨2, S2, 5, by omega, rfl, by omega, rfl, HS2.out, Grown.trans Hg.out (alloc_below _ _)⟩
                case measure => simp [intOf]
              · obtain rfl : dI = 5 := by omega
                clear hdI
                obtain ⟨y, hy⟩ : ∃ y, y = UInt8.ofNat (x.toNat / 256 ^ (7 - 2) % 256) := ⟨_, rfl⟩
                have hyy : (x.toNat : Int) / 1099511627776 % 256 = (y.toNat : Int) := by rw [hy, UInt8.toNat_ofNat', show 256 ^ (7 - 2) = 1099511627776 from rfl]; omega
                rw [← hy] at Hwt
                clear hy
                obtain ⟨S2, hS2⟩ : ∃ S2 : ByteArray, S2 = { data := ((s.l.take q).flatMap wb ++ (wb x).take 3).toArray } := ⟨_, rfl⟩
                have hcv := conv1 y
                have hadd : ∀ W : World, (Op.stringOp .add S { data := #[y] }).run Tryd.prog W = .ok (.string S2) W := fun W => by
                  rw [HS.out, add1 _ _ (by rw [List.length_append, List.length_take, wb_len]; have := Hpl.out; omega) W, hS2, List.append_assoc, Hwt.out]
                have HS2 := Lib.hid hS2
                clear hS2
                go_wp2
                go_roundw
                case rel => exact ⟨3, S2, 4, by omega, rfl, by omega, rfl, HS2.out, Grown.trans Hg.out (alloc_below _ _)⟩
                case measure => simp [intOf]
              · obtain rfl : dI = 4 := by omega
                clear hdI
                obtain ⟨y, hy⟩ : ∃ y, y = UInt8.ofNat (x.toNat / 256 ^ (7 - 3) % 256) := ⟨_, rfl⟩
                have hyy : (x.toNat : Int) / 4294967296 % 256 = (y.toNat : Int) := by rw [hy, UInt8.toNat_ofNat', show 256 ^ (7 - 3) = 4294967296 from rfl]; omega
                rw [← hy] at Hwt
                clear hy
                obtain ⟨S2, hS2⟩ : ∃ S2 : ByteArray, S2 = { data := ((s.l.take q).flatMap wb ++ (wb x).take 4).toArray } := ⟨_, rfl⟩
                have hcv := conv1 y
                have hadd : ∀ W : World, (Op.stringOp .add S { data := #[y] }).run Tryd.prog W = .ok (.string S2) W := fun W => by
                  rw [HS.out, add1 _ _ (by rw [List.length_append, List.length_take, wb_len]; have := Hpl.out; omega) W, hS2, List.append_assoc, Hwt.out]
                have HS2 := Lib.hid hS2
                clear hS2
                go_wp2
                go_roundw
                case rel => exact ⟨4, S2, 3, by omega, rfl, by omega, rfl, HS2.out, Grown.trans Hg.out (alloc_below _ _)⟩
                case measure => simp [intOf]
              · obtain rfl : dI = 3 := by omega
                clear hdI
                obtain ⟨y, hy⟩ : ∃ y, y = UInt8.ofNat (x.toNat / 256 ^ (7 - 4) % 256) := ⟨_, rfl⟩
                have hyy : (x.toNat : Int) / 16777216 % 256 = (y.toNat : Int) := by rw [hy, UInt8.toNat_ofNat', show 256 ^ (7 - 4) = 16777216 from rfl]; omega
                rw [← hy] at Hwt
                clear hy
                obtain ⟨S2, hS2⟩ : ∃ S2 : ByteArray, S2 = { data := ((s.l.take q).flatMap wb ++ (wb x).take 5).toArray } := ⟨_, rfl⟩
                have hcv := conv1 y
                have hadd : ∀ W : World, (Op.stringOp .add S { data := #[y] }).run Tryd.prog W = .ok (.string S2) W := fun W => by
                  rw [HS.out, add1 _ _ (by rw [List.length_append, List.length_take, wb_len]; have := Hpl.out; omega) W, hS2, List.append_assoc, Hwt.out]
                have HS2 := Lib.hid hS2
                clear hS2
                go_wp2
                go_roundw
                case rel => exact ⟨5, S2, 2, by omega, rfl, by omega, rfl, HS2.out, Grown.trans Hg.out (alloc_below _ _)⟩
                case measure => simp [intOf]
              · obtain rfl : dI = 2 := by omega
                clear hdI
                obtain ⟨y, hy⟩ : ∃ y, y = UInt8.ofNat (x.toNat / 256 ^ (7 - 5) % 256) := ⟨_, rfl⟩
                have hyy : (x.toNat : Int) / 65536 % 256 = (y.toNat : Int) := by rw [hy, UInt8.toNat_ofNat', show 256 ^ (7 - 5) = 65536 from rfl]; omega
                rw [← hy] at Hwt
                clear hy
                obtain ⟨S2, hS2⟩ : ∃ S2 : ByteArray, S2 = { data := ((s.l.take q).flatMap wb ++ (wb x).take 6).toArray } := ⟨_, rfl⟩
                have hcv := conv1 y
                have hadd : ∀ W : World, (Op.stringOp .add S { data := #[y] }).run Tryd.prog W = .ok (.string S2) W := fun W => by
                  rw [HS.out, add1 _ _ (by rw [List.length_append, List.length_take, wb_len]; have := Hpl.out; omega) W, hS2, List.append_assoc, Hwt.out]
                have HS2 := Lib.hid hS2
                clear hS2
                go_wp2
                go_roundw
                case rel => exact ⟨6, S2, 1, by omega, rfl, by omega, rfl, HS2.out, Grown.trans Hg.out (alloc_below _ _)⟩
                case measure => simp [intOf]
              · obtain rfl : dI = 1 := by omega
                clear hdI
                obtain ⟨y, hy⟩ : ∃ y, y = UInt8.ofNat (x.toNat / 256 ^ (7 - 6) % 256) := ⟨_, rfl⟩
                have hyy : (x.toNat : Int) / 256 % 256 = (y.toNat : Int) := by rw [hy, UInt8.toNat_ofNat', show 256 ^ (7 - 6) = 256 from rfl]; omega
                rw [← hy] at Hwt
                clear hy
                obtain ⟨S2, hS2⟩ : ∃ S2 : ByteArray, S2 = { data := ((s.l.take q).flatMap wb ++ (wb x).take 7).toArray } := ⟨_, rfl⟩
                have hcv := conv1 y
                have hadd : ∀ W : World, (Op.stringOp .add S { data := #[y] }).run Tryd.prog W = .ok (.string S2) W := fun W => by
                  rw [HS.out, add1 _ _ (by rw [List.length_append, List.length_take, wb_len]; have := Hpl.out; omega) W, hS2, List.append_assoc, Hwt.out]
                have HS2 := Lib.hid hS2
                clear hS2
                go_wp2
                go_roundw
                case rel => exact ⟨7, S2, 0, by omega, rfl, by omega, rfl, HS2.out, Grown.trans Hg.out (alloc_below _ _)⟩
                case measure => simp [intOf]
              · obtain rfl : dI = 0 := by omega
                clear hdI
                obtain ⟨y, hy⟩ : ∃ y, y = UInt8.ofNat (x.toNat / 256 ^ (7 - 7) % 256) := ⟨_, rfl⟩
                have hyy : (x.toNat : Int) % 256 = (y.toNat : Int) := by rw [hy, UInt8.toNat_ofNat', show 256 ^ (7 - 7) = 1 from rfl]; omega
                rw [← hy] at Hwt
                clear hy
                obtain ⟨S2, hS2⟩ : ∃ S2 : ByteArray, S2 = { data := ((s.l.take q).flatMap wb ++ (wb x).take 8).toArray } := ⟨_, rfl⟩
                have hcv := conv1 y
                have hadd : ∀ W : World, (Op.stringOp .add S { data := #[y] }).run Tryd.prog W = .ok (.string S2) W := fun W => by
                  rw [HS.out, add1 _ _ (by rw [List.length_append, List.length_take, wb_len]; have := Hpl.out; omega) W, hS2, List.append_assoc, Hwt.out]
                have HS2 := Lib.hid hS2
                clear hS2
                go_wp2
                go_roundw
                case rel => exact ⟨8, S2, -1, by omega, rfl, by omega, rfl, HS2.out, Grown.trans Hg.out (alloc_below _ _)⟩
                case measure => simp [intOf]
            · obtain rfl : j = 8 := by omega
              obtain rfl : dI = -1 := by omega
              have HS2 := Lib.hid (show S = { data := ((s.l.take (q + 1)).flatMap wb).toArray } by rw [HS.out, show (wb x).take 8 = wb x from List.take_of_length_le (by rw [wb_len]; omega), Hx.out])
              clear hdI hj hj4 HS
              go_wp2
              go_roundw
              case rel => exact ⟨q + 1, S, by omega, by go_num, rfl, HS2.out, Hg.out⟩
              case measure => simp [intOf]; omega
        · obtain rfl : q = 8 := by omega
          go_wp2
          go_ret
          refine ⟨?_, Hb.out.trans (Below.mono Hg.out hB)⟩
          show Ending.returned (.string S) = _
          rw [HS.out, ← HsV.out]
          rfl
end Go.Proofs.YtbofikghcoalbaaDoor.S4
