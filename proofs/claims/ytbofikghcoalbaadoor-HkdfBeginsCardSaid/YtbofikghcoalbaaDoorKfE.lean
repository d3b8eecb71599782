/-
  Contract of the program's hkdf.Expand.
-/
import Derived.Test.YtbofikghcoalbaaDoorKfL
import Derived.Test.YtbofikghcoalbaaDoorKfB
import Derived.Test.YtbofikghcoalbaaDoorApk
namespace Go.Proofs.YtbofikghcoalbaaDoor.S6
open Go.RowKit
open S4 (Kt arr arr_size arr_one infoA rd_block)
open S5 (macL macL_len mac_any conv_bytes)
set_option linter.unusedVariables false
set_option linter.unusedSimpArgs false

/-- The block that came last: none, or an array in a cell of its own. -/
def Prev (w : World) (P : Option Addr) (T : List UInt8) : Prop := T = [] ∨ ∃ g, P = some ⟨g, 0, none⟩ ∧ w.heap[g]? = some (.cells (arr T) 24 (0, 0))
theorem Prev.rd {w : World} {P : Option Addr} {T : List UInt8} (h : Prev w P T) : Rd w w.heap.size P T := by
  rcases h with rfl | ⟨g, rfl, h⟩
  · exact .inl rfl
  · exact rd_block (t := 24) h (lt_of_heap h)
theorem Prev.keep {w w' : World} {P : Option Addr} {T : List UInt8} (h : Prev w P T) (hk : Keep5 w w') : Prev w' P T := by
  rcases h with rfl | ⟨g, rfl, h⟩
  · exact .inl rfl
  · exact .inr ⟨g, rfl, hk g _ _ _ (by decide) h⟩

def sliceLen : Value → Nat
  | .slice _ n _ => n
  | _ => 0
/-- Where the loop stands. -/
def Lo (w1 wr : World) (k i : List UInt8) (t : Nat) (A1 : Option Addr) (c1 : Nat) (P : Option Addr) : Prop :=
  Own wr w1.heap.size A1 c1 (oL k i t) ∧ Prev wr P (tL k i t) ∧ Below w1.heap.size w1 wr

set_option maxHeartbeats 4000000 in
theorem expand_any (A : Option Addr) (n c : Nat) (k : List UInt8) (i : List UInt8) (S : ByteArray) (q : Nat) (N : Nat) (w : World) (hk : Kt w) (h : Rd w w.heap.size A k) (hn : k.length = n) (hc : n ≤ c) (hl : n ≤ 40000)
    (hS : S = ⟨i.toArray⟩) (hq : i.length = q) (hq2 : q ≤ 30000) (hN : N ≤ 16320) :
    Calls Tryd.prog 10 #[.slice A n c, .string S, .int .i64 (N : Int)] w fun e w' => ∃ A', e = .returned (.tuple #[.slice A' N N, .bool true]) ∧ Rd w' w'.heap.size A' (exL k i N) ∧ Grown w w' := by
  have H := Lib.hid h
  have Hn := Lib.hid hn
  have Hk := Lib.hid hk
  obtain ⟨c2, w1, hcvb, hc2, hr1, hg1⟩ := conv_bytes w i S hS
  rw [hq] at hcvb hc2
  have R1 := Lib.hid hr1
  have G1 := Lib.hid hg1
  have Hq := Lib.hid hq
  obtain ⟨M, hM⟩ : ∃ M, N + 64 = M := ⟨_, rfl⟩
  have hmk := fun W => mk0 M (by omega) W
  have hwr : ((N : Int) + 64) = (M : Int) := by omega
  clear h hn hk hr1 hg1 hS hq
  go_enter Tryd.func10, Tryd.ntmps10
  go_wp2_with fail
  have Hst := Lib.hid (show Lo w1 (w1.alloc (.cells (bvs (List.replicate M 0)).toArray 5)) k i 0 (some ⟨w1.heap.size, 0, none⟩) M none from ⟨own_mk0 w1 M (by omega) _ (Nat.le_refl _), .inl rfl, alloc_below w1 _⟩)
  clear hcvb hmk hwr
  go_loopw [9, 10, 11] (fun v9 v10 v11 wr => ∃ (t L y m pc c1 : Nat) (A1 P : Option Addr), v9 = .slice A1 L c1 ∧ v10 = .slice P m pc ∧ v11 = .int .u8 (y : Int) ∧ m ≤ pc ∧ m ≤ 64 ∧ L ≤ c1 ∧ L ≤ 16320 ∧ y < 256 ∧ Hid (L = 64 * t) ∧ Hid (y = (t + 1) % 256) ∧ Hid ((tL k i t).length = m) ∧ Hid (Lo w1 wr k i t A1 c1 P)) (fun v9 _ _ _ => 20000 - sliceLen v9)
  case atStart => exact ⟨0, 0, 1, 0, 0, M, _, _, rfl, rfl, rfl, by omega, by omega, by omega, by omega, by omega, rfl, rfl, rfl, Hst.out⟩
  case round =>
    obtain ⟨t, L, y, m, pc, c1, A1, P, rfl, rfl, rfl, hmp, hm64, hLc, hL2, hy2, HL64, Hy, Hm, HL⟩ := hrel
    by_cases hlt : L < N
    · obtain ⟨x, hx⟩ : ∃ x, x = UInt8.ofNat (t + 1) := ⟨_, rfl⟩
      have hyx : Value.int .u8 (y : Int) = bv x := by
        have h1 := HL64.out
        have h2 := Hy.out
        rw [hx, bv, UInt8.toNat_ofNat', h2]
      obtain ⟨hL1, hLp, hL3⟩ := HL.out
      have L1 := Lib.hid hL1
      have L2 := Lib.hid hLp
      have L3 := Lib.hid hL3
      have Hyx := Lib.hid hyx
      have HT := Lib.hid (show macL k [tL k i t, i, [x]].flatten = tL k i (t + 1) by rw [tL_succ, hx]; simp)
      have Hfl := Lib.hid (show [tL k i t, i, [x]].flatten.length ≤ 40000 by have h1 := Hm.out; have h2 := Hq.out; simp; omega)
      have hsz := hL3.size
      clear hL1 hLp hL3 HL Hst hyx hx
      go_wp2_with fail
      have RA := Lib.hid (show Rd (wr.alloc (.cells #[.int .u8 (y : Int)] 5)) (wr.alloc (.cells #[.int .u8 (y : Int)] 5)).heap.size (some ⟨wr.heap.size, 0, none⟩) [x] by rw [Hyx.out]; exact (Row.new wr [x]).rd (by simp))
      have hsA : (wr.alloc (.cells #[.int .u8 (y : Int)] 5)).heap.size = wr.heap.size + 1 := by simp
      have GA := Lib.hid (show Grown wr _ from alloc_below wr (.cells #[.int .u8 (y : Int)] 5))
      rw [← hsA]
      clear hsA
      generalize wr.alloc (.cells #[.int .u8 (y : Int)] 5) = wA at RA GA ⊢
      have TA := Lib.hid (rdL_three (L2.out.rd.grow GA.out) (((R1.out.below L3.out).more hsz).grow GA.out) RA.out Hm.out hmp Hq.out hc2 rfl (Nat.le_refl 1))
      have GB := Lib.hid (Grown.trans GA.out (alloc_below wA (.cells #[.slice P m pc, .slice (some ⟨w.heap.size, 0, none⟩) q c2, .slice (some ⟨wr.heap.size, 0, none⟩) 1 1] 22)))
      have GW := Lib.hid (Grown.trans (Grown.trans G1.out L3.out) GB.out)
      refine (mac_any A n c k _ 3 3 [tL k i t, i, [x]] _ (Hk.out.grow GW.out) (H.out.grow GW.out) Hn.out hc hl TA.out rfl (by omega) Hfl.out).mono ?_
      rintro e w2 ⟨rfl, hb2⟩
      rw [HT.out]
      obtain ⟨D, hD⟩ : ∃ D, D = arr (tL k i (t + 1)) := ⟨_, rfl⟩
      rw [← hD]
      have HD := Lib.hid hD
      have G2 := Lib.hid (Grown.trans GB.out hb2)
      have OD := Lib.hid ((L1.out.grow G2.out).grow (alloc_below w2 (.cells D 24)))
      have PD := Lib.hid (show Prev (w2.alloc (.cells D 24)) (some ⟨w2.heap.size, 0, none⟩) (tL k i (t + 1)) by rw [hD]; exact .inr ⟨_, rfl, heap_alloc_new w2 _⟩)
      have HoL := Lib.hid (show (oL k i t).length = L by rw [oL_len]; exact HL64.out.symm)
      have hs2 : w1.heap.size ≤ w2.heap.size := Nat.le_trans hsz (Below.size G2.out)
      have hbD : w1.heap.size ≤ (w2.alloc (.cells D 24)).heap.size := Nat.le_trans hs2 (Below.size (alloc_below w2 _))
      clear hb2 hD TA RA GA GB GW Hfl HT Hyx
      go_wp2_with (first
        | (refine wpList_store_last rfl 24 (.tmp 12) (.tmp 36) rfl rfl rfl (by rw [HD.out, arr_size, tL_len]; exact infoA) (by rw [HD.out, arr_size, tL_len]; rfl) (by rw [HD.out]; exact arr_one _) ?_)
        | (at_builtin
           refine wpList_appK rfl (.tmp 38) (.tmp 39) rfl (n := L) (l := oL k i t) HoL.out rfl OD.out (n2 := 64) (l2 := tL k i (t + 1)) (tL_len k i t) rfl PD.out.rd (by omega) hbD ?_
           intro A3 c3 w3 ho3 hb3 hk3
           have Ho3 := Lib.hid ho3
           have Hb3 := Lib.hid hb3
           have Hk3 := Lib.hid hk3
           clear ho3 hb3 hk3))
      go_roundw
      case rel =>
        refine ⟨t + 1, L + 64, (y + 1) % 256, 64, 64, c3, A3, _, rfl, rfl, by go_num, by omega, by omega, ?_, ?_, by omega, ?_, ?_, tL_len k i t, Ho3.out, PD.out.keep Hk3.out, ?_⟩
        · have := Ho3.out.le
          rw [List.length_append, HoL.out, tL_len] at this
          exact this
        · have := HL64.out; omega
        · show L + 64 = 64 * (t + 1)
          have := HL64.out; omega
        · show (y + 1) % 256 = (t + 1 + 1) % 256
          have := Hy.out; omega
        · exact L3.out.trans ((G2.out.mono hsz).trans ((Below.mono (alloc_below w2 _) hs2).trans Hb3.out))
      case measure => simp [sliceLen]; omega
    · have HLo := HL.out
      go_wp2
      go_ret2
      refine ⟨A1, rfl, ?_, Grown.trans G1.out HLo.2.2⟩
      rw [← exL_of k i t N (by have := HL64.out; omega)]
      exact HLo.1.rd.take N

theorem expand_no (A : Option Addr) (n c : Nat) (S : ByteArray) (N : Int) (w : World) (h : N < 0 ∨ 16320 < N) :
    Calls Tryd.prog 10 #[.slice A n c, .string S, .int .i64 N] w fun e w' => e = .returned (.tuple #[.slice none 0 0, .bool false]) ∧ Grown w w' := by
  go_enter Tryd.func10, Tryd.ntmps10
  by_cases h0 : N < 0
  · go_wp2
    go_ret2
    exact ⟨rfl, Grown.refl _⟩
  · have h1 : 16320 < N := by omega
    go_wp2
    go_ret2
    exact ⟨rfl, Grown.refl _⟩
end Go.Proofs.YtbofikghcoalbaaDoor.S6
