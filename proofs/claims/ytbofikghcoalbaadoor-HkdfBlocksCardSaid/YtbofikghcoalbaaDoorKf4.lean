/-
  The walk of HkdfBlocks.
-/
import Derived.Test.YtbofikghcoalbaaDoorKfY
namespace Go.Proofs.YtbofikghcoalbaaDoor.S6
open Go.RowKit
open S4 (Kt arr arr_size arr_one infoA rd_block u64D conv1)
open S5 (macL macL_len mac_any mac_one conv_bytes refMac_any)
set_option linter.unusedVariables false
set_option linter.unusedSimpArgs false

set_option maxHeartbeats 4000000 in
theorem blocks_walk (A : Option Addr) (n c : Nat) (k : List UInt8) (S : ByteArray) (i : List UInt8) (q : Nat) (w : World) (hkt : Kt w) (h : Rd w w.heap.size A k) (hn : k.length = n) (hc : n ≤ c) (hnm : n ≤ 9223372036854775807)
    (hS : S = ⟨i.toArray⟩) (hq : i.length = q) (hqm : q ≤ 9223372036854775807) :
    Calls Tryd.prog 6 #[.slice A n c, .string S] w (Says w true) := by
  have hSs : S.size = q := by rw [hS]; show i.toArray.size = q; simpa using hq
  have H := Lib.hid h
  have Hn := Lib.hid hn
  have HS := Lib.hid hS
  have Hq := Lib.hid hq
  have Hkt := Lib.hid hkt
  clear h hn hS hq hkt
  go_enter Tryd.func6, Tryd.ntmps6
  go_wp2_with fail
  refine (awake _ Hkt.out).mono ?_
  rintro e w1 ⟨rfl, hb⟩
  have Hkt1 := Lib.hid (Hkt.out.grow hb)
  have Hb1 := Lib.hid (show Grown w w1 from hb)
  have H1 := Lib.hid (H.out.grow hb)
  clear hb H Hkt
  by_cases ha : 200 < n
  · go_wp2_with fail
    refine (awake_twice w _ Hb1.out Hkt1.out).mono ?_
    rintro e w2 ⟨rfl, hb2⟩
    have Hb2 := Lib.hid hb2
    clear hb2
    go_wp2
    go_ret
    exact ⟨rfl, Hb2.out⟩
  by_cases hcc : 200 < q
  · go_wp2_with fail
    refine (awake_twice w _ Hb1.out Hkt1.out).mono ?_
    rintro e w2 ⟨rfl, hb2⟩
    have Hb2 := Lib.hid hb2
    clear hb2
    go_wp2
    go_ret
    exact ⟨rfl, Hb2.out⟩
  go_wp2_with fail
  refine (expand_any A n c k i S q 192 _ Hkt1.out H1.out Hn.out hc (by omega) HS.out Hq.out (by omega) (by omega)).mono ?_
  rintro e w2 ⟨A2, rfl, hr2, hg2⟩
  have R2 := Lib.hid hr2
  have Hb2 := Lib.hid (Grown.trans Hb1.out hg2)
  have H2 := Lib.hid (H1.out.grow hg2)
  clear hr2 hg2 Hb1 H1 Hkt1
  go_wp2
  go_loopw [7, 8] (fun v7 v8 wr => ∃ (t : Nat) (S2 : ByteArray), t ≤ 3 ∧ v7 = .string S2 ∧ v8 = .int .i64 (t : Int) ∧ Hid (S2 = ⟨(tL k i t).toArray⟩) ∧ Hid (Grown w2 wr)) (fun _ v8 _ => 3 - (intOf v8).toNat)
  case atStart => exact ⟨0, _, by omega, rfl, rfl, rfl, Grown.refl _⟩
  case round =>
    obtain ⟨t, S2, ht3, rfl, rfl, HS2, Hg⟩ := hrel
    by_cases hlt : t < 3
    · obtain ⟨x, hx⟩ : ∃ x, x = UInt8.ofNat (t + 1) := ⟨_, rfl⟩
      obtain ⟨m, hm⟩ : ∃ m, m = t + 1 := ⟨_, rfl⟩
      obtain ⟨D, hD⟩ : ∃ D, D = 64 * t := ⟨_, rfl⟩
      obtain ⟨E, hE⟩ : ∃ E, E = D + 64 := ⟨_, rfl⟩
      have hm1 : (t : Int) + 1 = (m : Int) := by omega
      have hD1 : 64 * (t : Int) = (D : Int) := by omega
      have hE1 : (D : Int) + 64 = (E : Int) := by omega
      have hxm : (x.toNat : Int) = (m : Int) := by rw [hx, UInt8.toNat_ofNat', hm]; omega
      have hm4 : m ≤ 3 := by omega
      have hD4 : D ≤ 128 := by omega
      have hE4 : E ≤ 192 := by omega
      have htl := tL_le k i t
      obtain ⟨U, hU⟩ : ∃ U : ByteArray, U = ⟨(tL k i t ++ i).toArray⟩ := ⟨_, rfl⟩
      obtain ⟨V, hV⟩ : ∃ V : ByteArray, V = ⟨(tL k i t ++ i ++ [x]).toArray⟩ := ⟨_, rfl⟩
      obtain ⟨S3, hS3⟩ : ∃ S : ByteArray, S = ⟨(tL k i (t + 1)).toArray⟩ := ⟨_, rfl⟩
      have ha1 : ∀ W : World, (Op.stringOp .add S2 S).run Tryd.prog W = .ok (.string U) W := fun W => by rw [HS2.out, HS.out, hU]; exact addS _ _ (by have := Hq.out; omega) W
      have ha2 : ∀ W : World, (Op.stringOp .add U { data := #[x] }).run Tryd.prog W = .ok (.string V) W := fun W => by rw [hU, hV]; exact addS _ [x] (by have := Hq.out; simp; omega) W
      have hcv := conv1 x wr
      rw [hxm] at hcv
      obtain ⟨c5, w5, hcvb, hc5, hr5, hg5⟩ := conv_bytes (wr.alloc (.cells #[.int .u8 (m : Int)] 5)) _ V hV
      obtain ⟨r, hr⟩ : ∃ r, (tL k i t ++ i ++ [x]).length = r := ⟨_, rfl⟩
      have hr2 : r ≤ 40000 := by rw [← hr]; have := Hq.out; simp; omega
      have hsA : (wr.alloc (.cells #[.int .u8 (m : Int)] 5)).heap.size = wr.heap.size + 1 := by simp
      rw [hr, hsA] at hcvb
      rw [hsA] at hr5
      obtain ⟨A6, hA6⟩ : ∃ A6, A6 = (if 192 = D then A2 else A2.map (·.add D)) := ⟨_, rfl⟩
      obtain ⟨c6, hc6⟩ : ∃ c6, c6 = 192 - D := ⟨_, rfl⟩
      have hcut : ∀ W : World, (Instr.slice 22 (.slice A2 192 192) (some (.int .i64 (D : Int))) (some (.int .i64 (E : Int))) none).run Tryd.prog W = .ok (.slice A6 64 c6) W := fun W => by
        rw [hA6, hc6, cut_lh W A2 192 192 D E (by omega) hE4, show E - D = 64 by omega]
      have R6 := Lib.hid (show Rd w2 w2.heap.size A6 (tL k i (t + 1)) by
        have h1 := ((R2.out.cut (k := D) (cap := 192) (by rw [exL_len]; omega)).take 64)
        rw [hD, exL_block k i t 192 (by omega), ← hD, ← hA6] at h1
        exact h1)
      have R5 := Lib.hid hr5
      have Hr := Lib.hid hr
      have G5 := Lib.hid (Grown.trans (alloc_below wr _) hg5)
      have HS3 := Lib.hid hS3
      have Hm := Lib.hid hm
      have HT := Lib.hid (show macL k (tL k i t ++ i ++ [x]) = tL k i (t + 1) by rw [tL_succ, hx])
      clear hx hxm htl hU hV hS3 hr5 hr hsA hg5 hc5 hm hD hE hA6 hc6
      go_wp2_with fail
      refine (refMac_any A n c k _ r c5 (tL k i t ++ i ++ [x]) _ (H2.out.grow (Grown.trans Hg.out G5.out)) Hn.out (by omega) R5.out Hr.out hr2).mono ?_
      rintro e w6 ⟨rfl, hb6⟩
      rw [HT.out, ← HS3.out]
      have G6 := Lib.hid (Grown.trans (Grown.trans Hg.out G5.out) hb6)
      have hcv6 := conv_at R6.out (tL_len k i t) c6 w6 G6.out
      rw [← HS3.out] at hcv6
      clear hb6 ha1 ha2 hcv hcvb
      go_wp2
      go_roundw
      case rel => exact ⟨t + 1, S3, by omega, rfl, (by show Value.int .i64 (m : Int) = .int .i64 ((t + 1 : Nat) : Int); rw [Hm.out]), HS3.out, G6.out⟩
      case measure => simp [intOf]; omega
    · go_wp2
      go_ret
      exact ⟨rfl, Grown.trans Hb2.out Hg.out⟩
end Go.Proofs.YtbofikghcoalbaaDoor.S6
