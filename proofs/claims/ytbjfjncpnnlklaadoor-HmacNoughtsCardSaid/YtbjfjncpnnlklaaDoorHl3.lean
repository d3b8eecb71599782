/-
  The walk of HmacNoughts.
-/
import Derived.Test.YtbjfjncpnnlklaaDoorHl4
import Derived.Test.YtbjfjncpnnlklaaDoorApz
namespace Go.Proofs.YtbjfjncpnnlklaaDoor.S5
open Go.RowKit
open S4 (Kt sum_any digest sumV arr arr_size arr_one digest_len infoA rdL_one rd_block u64D)
set_option linter.unusedVariables false
set_option linter.unusedSimpArgs false

theorem mac_noughts (k T : List UInt8) (z : Nat) (h : k.length + z ≤ 128) : macL (k ++ List.replicate z 0) T = macL k T := by
  have e : blkL (k ++ List.replicate z 0) = blkL k := by
    unfold blkL keyL
    rw [if_neg (by simp; omega), if_neg (by omega)]
    unfold fillL
    rw [List.append_assoc, List.length_append, List.length_replicate, List.replicate_append_replicate]
    congr 2
    omega
  unfold macL inL
  rw [e]

theorem noughts_num (N : Int) (n : Nat) (h : n ≤ 128) : ∃ z : Nat, (wrap64 (wrap64 (N.tmod ((129 - n : Nat) : Int) + 129) - (n : Int))).tmod ((129 - n : Nat) : Int) = (z : Int) ∧ n + z ≤ 128 := by
  have hp : (0 : Int) < ((129 - n : Nat) : Int) := by omega
  have h1 := Int.tmod_lt_of_pos N hp
  have h2 := Int.lt_tmod_of_pos N hp
  generalize N.tmod ((129 - n : Nat) : Int) = q at *
  have e1 : wrap64 (q + 129) = q + 129 := by unfold wrap64; omega
  have e2 : wrap64 (q + 129 - (n : Int)) = q + 129 - (n : Int) := by unfold wrap64; omega
  rw [e1, e2, Int.tmod_eq_emod_of_nonneg (by omega)]
  have h3 := Int.emod_nonneg (q + 129 - (n : Int)) (show ((129 - n : Nat) : Int) ≠ 0 by omega)
  have h4 := Int.emod_lt_of_pos (q + 129 - (n : Int)) hp
  generalize (q + 129 - (n : Int)) % ((129 - n : Nat) : Int) = r at *
  exact ⟨r.toNat, by omega, by omega⟩

set_option maxHeartbeats 4000000 in
theorem noughts_walk (A : Option Addr) (n c : Nat) (k : List UInt8) (B : Option Addr) (m d : Nat) (T : List UInt8) (N : Int) (w : World) (hkt : Kt w) (h : Rd w w.heap.size A k) (hn : k.length = n) (hc : n ≤ c) (hnm : n ≤ 9223372036854775807)
    (h2 : Rd w w.heap.size B T) (hm : T.length = m) (hd : m ≤ d) (hmm : m ≤ 9223372036854775807) (hN : -9223372036854775808 ≤ N ∧ N ≤ 9223372036854775807) :
    Calls Tryd.prog 5 #[.slice A n c, .slice B m d, .int .i64 N] w (Says w true) := by
  have H := Lib.hid h
  have Hn := Lib.hid hn
  have H2 := Lib.hid h2
  have Hm := Lib.hid hm
  have Hkt := Lib.hid hkt
  clear h hn h2 hm hkt
  go_enter Tryd.func5, Tryd.ntmps5
  go_wp2_with fail
  refine (awake _ Hkt.out).mono ?_
  rintro e w1 ⟨rfl, hb⟩
  have Hkt1 := Lib.hid (Hkt.out.grow hb)
  have Hb1 := Lib.hid (show Grown w w1 from hb)
  have H1 := Lib.hid (H.out.grow hb)
  have H21 := Lib.hid (H2.out.grow hb)
  clear hb H H2 Hkt
  by_cases ha : 128 < n
  · go_wp2_with fail
    refine (awake_twice w _ Hb1.out Hkt1.out).mono ?_
    rintro e w2 ⟨rfl, hb2⟩
    have Hb2 := Lib.hid hb2
    clear hb2
    go_wp2
    go_ret
    exact ⟨rfl, Hb2.out⟩
  by_cases hcc : 300 < m
  · go_wp2_with fail
    refine (awake_twice w _ Hb1.out Hkt1.out).mono ?_
    rintro e w2 ⟨rfl, hb2⟩
    have Hb2 := Lib.hid hb2
    clear hb2
    go_wp2
    go_ret
    exact ⟨rfl, Hb2.out⟩
  have hM0 : ¬ (((129 - n : Nat) : Int) = 0) := by omega
  have hwr : IntKind.i64.wrap (129 - (n : Int)) = ((129 - n : Nat) : Int) := by rw [IntKind.wrap_i64]; omega
  have hMi : (129 : Int) - (n : Int) = ((129 - n : Nat) : Int) := by omega
  obtain ⟨z, hz, hz2⟩ := noughts_num N n (by omega)
  have Hz := Lib.hid hz
  clear hz
  go_wp2_with fail
  rw [Hz.out]
  refine (mac_one Hkt1.out H1.out Hn.out hc (by omega) H21.out Hm.out hd (by omega) (0, 0)).mono ?_
  rintro e w2 ⟨rfl, hb2⟩
  obtain ⟨D, hD⟩ : ∃ D, D = arr (macL k T) := ⟨_, rfl⟩
  rw [← hD]
  have HD := Lib.hid hD
  have q64 := fun W => same64 HD.out (macL_len k T) W
  have Hkt2 := Lib.hid (Hkt1.out.grow hb2)
  have Hb2 := Lib.hid (Grown.trans Hb1.out hb2)
  have H2 := Lib.hid (H1.out.grow hb2)
  have H22 := Lib.hid (H21.out.grow hb2)
  clear hb2 hD Hkt1 Hb1 H1 H21 hM0 hwr hMi
  have Hm2 := Lib.hid (mac_noughts k T z (by have := Hn.out; omega))
  go_wp2_with (first
    | (at_builtin
       refine wpList_app rfl (.tmp 38) (.tmp 39) rfl (base := w2.heap.size) (l := []) (c := 0) rfl (Own.lit w2 [] (Nat.le_refl _) (by simp)) (l2 := k) (by rw [Hn.out]; rfl) (H2.out.grow (alloc_below w2 _)) (by have := Hn.out; simp; omega) (by simp) k (by simp) ?_
       intro A3 c3 w3 ho3 hb3
       rw [Hn.out]
       have Ho3 := Lib.hid ho3
       have Hg3 := Lib.hid (show Grown w2 w3 from (alloc_below w2 _).trans hb3)
       have hsz3 := Below.size Hg3.out
       clear ho3 hb3)
    | (at_builtin
       refine wpList_appZ rfl (.tmp 40) (.tmp 41) rfl rfl Hn.out Ho3.out rfl (by omega) hsz3 ?_
       intro A4 c4 w4 hr4 hc4 hb4
       have R4 := Lib.hid hr4
       have Hg4 := Lib.hid (show Grown w2 w4 from Below.trans Hg3.out hb4)
       clear hr4 hb4))
  have Hkt4 := Lib.hid (Hkt2.out.grow Hg4.out)
  have H24 := Lib.hid (H22.out.grow Hg4.out)
  refine (mac_one Hkt4.out R4.out (by rw [List.length_append, List.length_replicate, Hn.out]) hc4 (by omega) H24.out Hm.out hd (by omega) (0, 0)).mono ?_
  rintro e w5 ⟨rfl, hb5⟩
  rw [Hm2.out, ← HD.out]
  have Hb5 := Lib.hid (Grown.trans (Grown.trans Hb2.out Hg4.out) hb5)
  clear hb5 Hkt4 H24 Hkt2 H22 R4
  go_wp2
  go_ret
  exact ⟨rfl, Hb5.out⟩
end Go.Proofs.YtbjfjncpnnlklaaDoor.S5
