/-
  Contracts of the reference's HKDF: Expand and Extract.
-/
import Derived.Test.YtbofikghcoalbaaDoorKfL
import Derived.Test.YtbofikghcoalbaaDoorKfB
import Derived.Test.YtbofikghcoalbaaDoorHrm
import Derived.Test.YtbofikghcoalbaaDoorHmo
namespace Go.Proofs.YtbofikghcoalbaaDoor.S6
open Go.RowKit
open S4 (conv1)
open S5 (macL macL_len refMac_any conv_bytes mac_noughts)
set_option linter.unusedVariables false
set_option linter.unusedSimpArgs false

set_option maxHeartbeats 4000000 in
theorem refExpand_any (A : Option Addr) (n c : Nat) (k : List UInt8) (i : List UInt8) (S : ByteArray) (q : Nat) (N : Nat) (w : World) (h : Rd w w.heap.size A k) (hn : k.length = n) (hl : n ≤ 40000)
    (hS : S = ⟨i.toArray⟩) (hq : i.length = q) (hq2 : q ≤ 30000) (hN : N ≤ 16320) :
    Calls Tryd.prog 11 #[.slice A n c, .string S, .int .i64 (N : Int)] w fun e w' => e = .returned (.string ⟨(exL k i N).toArray⟩) ∧ Grown w w' := by
  have H := Lib.hid h
  have Hn := Lib.hid hn
  have HS := Lib.hid hS
  have Hq := Lib.hid hq
  clear h hn hS hq
  go_enter Tryd.func11, Tryd.ntmps11
  go_wp2
  go_loopw [7, 8, 9] (fun v7 v8 v9 wr => ∃ (t m L : Nat) (S1 S2 : ByteArray), v7 = .string S1 ∧ v8 = .string S2 ∧ v9 = .int .i64 (m : Int) ∧ m ≤ 1000 ∧ S1.size = L ∧ Hid (m = t + 1) ∧ Hid (L = 64 * t) ∧ Hid (S1 = ⟨(oL k i t).toArray⟩) ∧ Hid (S2 = ⟨(tL k i t).toArray⟩) ∧ Hid (Grown w wr)) (fun _ _ v9 _ => 20000 - (intOf v9).toNat)
  case atStart => exact ⟨0, 1, 0, _, _, rfl, rfl, rfl, by omega, rfl, rfl, rfl, rfl, rfl, Grown.refl _⟩
  case round =>
    obtain ⟨t, m, L, S1, S2, rfl, rfl, rfl, hmm, hS1, Hm, HL, HS1, HS2, Hg⟩ := hrel
    by_cases hlt : L < N
    · have ht : t < 255 := by have := HL.out; omega
      obtain ⟨x, hx⟩ : ∃ x, x = UInt8.ofNat (t + 1) := ⟨_, rfl⟩
      have hxn : x.toNat = m := by rw [hx, UInt8.toNat_ofNat', Hm.out]; omega
      have hm256 : (m : Int) % 256 = (x.toNat : Int) := by rw [hxn]; have := Hm.out; omega
      have htl := tL_le k i t
      obtain ⟨U, hU⟩ : ∃ U : ByteArray, U = ⟨(tL k i t ++ i).toArray⟩ := ⟨_, rfl⟩
      obtain ⟨V, hV⟩ : ∃ V : ByteArray, V = ⟨(tL k i t ++ i ++ [x]).toArray⟩ := ⟨_, rfl⟩
      obtain ⟨S3, hS3⟩ : ∃ S : ByteArray, S = ⟨(tL k i (t + 1)).toArray⟩ := ⟨_, rfl⟩
      obtain ⟨S4, hS4⟩ : ∃ S : ByteArray, S = ⟨(oL k i (t + 1)).toArray⟩ := ⟨_, rfl⟩
      have ha1 : ∀ W : World, (Op.stringOp .add S2 S).run Tryd.prog W = .ok (.string U) W := fun W => by rw [HS2.out, HS.out, hU]; exact addS _ _ (by have := Hq.out; omega) W
      have ha2 : ∀ W : World, (Op.stringOp .add U { data := #[x] }).run Tryd.prog W = .ok (.string V) W := fun W => by rw [hU, hV]; exact addS _ [x] (by have := Hq.out; simp; omega) W
      have ha3 : ∀ W : World, (Op.stringOp .add S1 S3).run Tryd.prog W = .ok (.string S4) W := fun W => by rw [HS1.out, hS3, hS4, oL_succ]; exact addS _ _ (by rw [oL_len, tL_len]; omega) W
      have hcv := conv1 x wr
      obtain ⟨c5, w5, hcvb, hc5, hr5, hg5⟩ := conv_bytes (wr.alloc (.cells #[.int .u8 (x.toNat : Int)] 5)) _ V hV
      obtain ⟨r, hr⟩ : ∃ r, (tL k i t ++ i ++ [x]).length = r := ⟨_, rfl⟩
      have hr2 : r ≤ 40000 := by rw [← hr]; have := Hq.out; simp; omega
      have hsA : (wr.alloc (.cells #[.int .u8 (x.toNat : Int)] 5)).heap.size = wr.heap.size + 1 := by simp
      rw [hr, hsA] at hcvb
      rw [hsA] at hr5
      have hS4s : S4.size = L + 64 := by rw [hS4]; show (oL k i (t + 1)).toArray.size = _; have := HL.out; simp [oL_len]; omega
      have R5 := Lib.hid hr5
      have Hr := Lib.hid hr
      have G5 := Lib.hid (Grown.trans (alloc_below wr _) hg5)
      have HS3 := Lib.hid hS3
      have HS4 := Lib.hid hS4
      have HT := Lib.hid (show macL k (tL k i t ++ i ++ [x]) = tL k i (t + 1) by rw [tL_succ, hx])
      clear hx hxn htl hU hV hS3 hS4 hr5 hr hsA hg5 hc5
      go_wp2_with fail
      refine (refMac_any A n c k _ r c5 (tL k i t ++ i ++ [x]) _ (H.out.grow (Grown.trans Hg.out G5.out)) Hn.out hl R5.out Hr.out hr2).mono ?_
      rintro e w6 ⟨rfl, hb6⟩
      rw [HT.out, ← HS3.out]
      have G6 := Lib.hid (Grown.trans (Grown.trans Hg.out G5.out) hb6)
      clear hb6 ha1 ha2 hcv hcvb
      go_wp2
      go_roundw
      case rel => exact ⟨t + 1, m + 1, L + 64, S4, S3, rfl, rfl, by go_num, by have := Hm.out; omega, hS4s, (by show m + 1 = t + 1 + 1; rw [Hm.out]), (by show L + 64 = 64 * (t + 1); have := HL.out; omega), HS4.out, HS3.out, G6.out⟩
      case measure => simp [intOf]; omega
    · obtain ⟨S5, hS5⟩ : ∃ S : ByteArray, S = ⟨(exL k i N).toArray⟩ := ⟨_, rfl⟩
      have hcut : ∀ W : World, (Instr.slice 9 (.string S1) none (some (.int .i64 (N : Int))) none).run Tryd.prog W = .ok (.string S5) W := fun W => by
        rw [HS1.out, hS5, ← exL_of k i t N (by have := HL.out; omega)]
        exact cutS _ N (by rw [oL_len]; have := HL.out; omega) W
      have HS5 := Lib.hid hS5
      clear hS5
      go_wp2
      go_ret
      exact ⟨by rw [← HS5.out]; rfl, Hg.out⟩

set_option maxHeartbeats 1000000 in
theorem refExtract_any (A : Option Addr) (n c : Nat) (k : List UInt8) (A2 : Option Addr) (n2 c2 : Nat) (T : List UInt8) (w : World) (h : Rd w w.heap.size A k) (hn : k.length = n) (hl : n ≤ 40000)
    (h2 : Rd w w.heap.size A2 T) (hn2 : T.length = n2) (hl2 : n2 ≤ 40000) :
    Calls Tryd.prog 9 #[.slice A n c, .slice A2 n2 c2] w fun e w' => e = .returned (.string ⟨(macL k T).toArray⟩) ∧ Grown w w' := by
  have H := Lib.hid h
  have Hn := Lib.hid hn
  have H2 := Lib.hid h2
  have Hn2 := Lib.hid hn2
  obtain ⟨Z, hZ⟩ : ∃ Z : List UInt8, Z = List.replicate 64 0 := ⟨_, rfl⟩
  have hmk : ∀ W : World, (Instr.makeSlice 22 (.int .i64 64) (.int .i64 64)).run Tryd.prog W = .ok (.slice (some ⟨W.heap.size, 0, none⟩) 64 64) (W.alloc (.cells (bvs Z).toArray 5)) := fun W => by
    rw [hZ]
    exact mk22 64 (by omega) W
  have HZ := Lib.hid hZ
  clear h h2 hn2 hZ
  go_enter Tryd.func9, Tryd.ntmps9
  by_cases h0 : n = 0
  · subst h0
    have hk : k = [] := List.eq_nil_of_length_eq_zero hn
    have Hk := Lib.hid (show macL Z T = macL k T by rw [hk, HZ.out]; exact mac_zero T)
    clear hn hk
    go_wp2_with fail
    refine (refMac_any _ 64 64 Z A2 n2 c2 T _ ((Row.new w Z).rd (by simp)) (by rw [HZ.out, List.length_replicate]) (by omega) (H2.out.grow (alloc_below w _)) Hn2.out hl2).mono ?_
    rintro e w1 ⟨rfl, hb1⟩
    rw [Hk.out]
    have G1 := Lib.hid (Grown.trans (alloc_below w _) hb1)
    clear hb1
    go_wp2
    go_ret
    exact ⟨rfl, G1.out⟩
  · clear hn
    go_wp2_with fail
    refine (refMac_any A n c k A2 n2 c2 T _ H.out Hn.out hl H2.out Hn2.out hl2).mono ?_
    rintro e w1 ⟨rfl, hb1⟩
    have G1 := Lib.hid hb1
    clear hb1
    go_wp2
    go_ret
    exact ⟨rfl, G1.out⟩
end Go.Proofs.YtbofikghcoalbaaDoor.S6
