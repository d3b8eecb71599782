/-
  The walk of HmacLong.
-/
import Derived.Test.YtbjfjncpnnlklaaDoorHaw
import Derived.Test.YtbjfjncpnnlklaaDoorHre
import Derived.Test.YtbjfjncpnnlklaaDoorEqb
namespace Go.Proofs.YtbjfjncpnnlklaaDoor.S5
open Go.RowKit
open S4 (Kt sum_any digest sumV arr arr_size arr_one digest_len infoA rdL_one rd_block u64D)
set_option linter.unusedVariables false
set_option linter.unusedSimpArgs false

theorem awake_twice (w w1 : World) (h : Grown w w1) (hk : Kt w1) : Calls Tryd.prog 7 #[] w1 (Says w true) :=
  (awake w1 hk).mono fun e w2 h2 => ⟨h2.1, Grown.trans h h2.2⟩

/-- '[]byte(s)': new bytes. -/
theorem conv_bytes (w : World) (l : List UInt8) (S : ByteArray) (hS : S = ⟨l.toArray⟩) : ∃ c w', (convert 9 22 (.string S)).run Tryd.prog w = .ok (.slice (some ⟨w.heap.size, 0, none⟩) l.length c) w' ∧ l.length ≤ c ∧ Rd w' w'.heap.size (some ⟨w.heap.size, 0, none⟩) l ∧ Grown w w' := by
  subst hS
  have hsz : (⟨l.toArray⟩ : ByteArray).size = l.length := by show l.toArray.size = _; simp
  have hr := run_bytes_of_string (P := Tryd.prog) w 9 22 5 ⟨l.toArray⟩ Tryd.underlying9 Tryd.underlying22 Tryd.underlying5
  have hge := grownCap_ge w (⟨l.toArray⟩ : ByteArray).size 0 5
  generalize grownCap w (⟨l.toArray⟩ : ByteArray).size 0 5 = cap at hr hge
  rw [hsz] at hr hge
  refine ⟨cap, _, hr, hge, .inr ⟨w.heap.size, 0, rfl, by simp, fun j hj => ?_⟩, ⟨rfl, rfl, rfl, by simp, fun k hk => heap_alloc_old w.drew _ hk⟩⟩
  have hcell := cell_of_row _ w.heap.size j _ 5 _ (heap_alloc_new w.drew (.cells (bytesRow ⟨l.toArray⟩ cap) 5 ((bytesRow ⟨l.toArray⟩ cap).size, (bytesRow ⟨l.toArray⟩ cap).size + 1)))
  rw [Nat.zero_add, hcell, bytesRow, Array.getElem?_append_left (by simpa using hj)]
  simp [hj, bv]
theorem mac_long (k T : List UInt8) (h : 128 < k.length) : macL (digest (sumV k)) T = macL k T := by
  have e : blkL (digest (sumV k)) = blkL k := by
    unfold blkL keyL
    rw [if_pos h, if_neg (by rw [digest_len]; omega)]
  unfold macL inL
  rw [e]
theorem same64 {D : Array Value} {l : List UInt8} (hD : D = arr l) (hl : l.length = 64) (W : World) : (Op.equalIn 10000 26 (.agg D) (.agg D)).run Tryd.prog W = .ok true W := by
  rw [hD]
  exact eq_self l 26 64 u64D hl 9998 W
theorem same32 {D : Array Value} {l : List UInt8} (hD : D = arr l) (hl : l.length = 32) (W : World) : (Op.equalIn 10000 28 (.agg D) (.agg D)).run Tryd.prog W = .ok true W := by
  rw [hD]
  exact eq_self l 28 32 u32B hl 9998 W

set_option maxHeartbeats 4000000 in
theorem long_walk (A : Option Addr) (n c : Nat) (k : List UInt8) (B : Option Addr) (m d : Nat) (T : List UInt8) (w : World) (hkt : Kt w) (h : Rd w w.heap.size A k) (hn : k.length = n) (hc : n ≤ c) (hnm : n ≤ 9223372036854775807)
    (h2 : Rd w w.heap.size B T) (hm : T.length = m) (hd : m ≤ d) (hmm : m ≤ 9223372036854775807) :
    Calls Tryd.prog 6 #[.slice A n c, .slice B m d] w (Says w true) := by
  have H := Lib.hid h
  have Hn := Lib.hid hn
  have H2 := Lib.hid h2
  have Hm := Lib.hid hm
  have Hkt := Lib.hid hkt
  clear h hn h2 hm hkt
  go_enter Tryd.func6, Tryd.ntmps6
  go_wp2_with fail
  refine (awake _ Hkt.out).mono ?_
  rintro e w1 ⟨rfl, hb1⟩
  have Hkt1 := Lib.hid (Hkt.out.grow hb1)
  have Hb1 := Lib.hid (show Grown w w1 from hb1)
  have H1 := Lib.hid (H.out.grow hb1)
  have H21 := Lib.hid (H2.out.grow hb1)
  clear hb1 H H2 Hkt
  by_cases ha : n < 129
  · go_wp2_with fail
    refine (awake_twice w _ Hb1.out Hkt1.out).mono ?_
    rintro e w2 ⟨rfl, hb2⟩
    have Hb2 := Lib.hid hb2
    clear hb2
    go_wp2
    go_ret
    exact ⟨rfl, Hb2.out⟩
  by_cases hb : 400 < n
  · go_wp2_with fail
    refine (awake_twice w _ Hb1.out Hkt1.out).mono ?_
    rintro e w2 ⟨rfl, hb2⟩
    have Hb2 := Lib.hid hb2
    clear hb2
    go_wp2
    go_ret
    exact ⟨rfl, Hb2.out⟩
  by_cases hcc : 300 < m
  · go_wp2_with fail
    refine (awake_twice w _ Hb1.out Hkt1.out).mono ?_
    rintro e w2 ⟨rfl, hb2⟩
    have Hb2 := Lib.hid hb2
    clear hb2
    go_wp2
    go_ret
    exact ⟨rfl, Hb2.out⟩
  go_wp2_with fail
  refine (sum_any A n c k _ H1.out Hn.out (by omega)).mono ?_
  rintro e w2 ⟨rfl, hb2⟩
  obtain ⟨S, hS⟩ : ∃ S : ByteArray, S = { data := (digest (sumV k)).toArray } := ⟨_, rfl⟩
  rw [← hS]
  obtain ⟨G, hG⟩ : ∃ G, G = digest (sumV k) := ⟨_, rfl⟩
  have hGl : G.length = 64 := by rw [hG, digest_len]
  obtain ⟨c3, w3, hcvb, hc3, hr3, hg3⟩ := conv_bytes w2 G S (by rw [hG]; exact hS)
  rw [hGl] at hcvb hc3
  have HG := Lib.hid hG
  have HGl := Lib.hid hGl
  have R3 := Lib.hid hr3
  have hb3 := Grown.trans hb2 hg3
  have Hkt3 := Lib.hid (Hkt1.out.grow hb3)
  have Hb3 := Lib.hid (Grown.trans Hb1.out hb3)
  have H3 := Lib.hid (H1.out.grow hb3)
  have H23 := Lib.hid (H21.out.grow hb3)
  clear hS hG hGl hr3 hb3 hg3 hb2 Hkt1 Hb1 H1 H21
  obtain ⟨D, hD⟩ : ∃ D, D = arr (macL k T) := ⟨_, rfl⟩
  obtain ⟨E, hE⟩ : ∃ E, E = arr (tagL k T) := ⟨_, rfl⟩
  have HD := Lib.hid hD
  have HE := Lib.hid hE
  have HD2 := Lib.hid (show arr (macL G T) = D by rw [HG.out, mac_long k T (by have := Hn.out; omega), hD])
  have HE2 := Lib.hid (show arr (tagL G T) = E by rw [HG.out, tagL, mac_long k T (by have := Hn.out; omega), hE, tagL])
  clear hD hE
  go_wp2_with fail
  refine (mac_one Hkt3.out H3.out Hn.out hc (by omega) H23.out Hm.out hd (by omega) (0, 0)).mono ?_
  rintro e w4 ⟨rfl, hb4⟩
  rw [← HD.out]
  have Hkt4 := Lib.hid (Hkt3.out.grow hb4)
  have Hb4 := Lib.hid (Grown.trans Hb3.out hb4)
  have H4 := Lib.hid (H3.out.grow hb4)
  have H24 := Lib.hid (H23.out.grow hb4)
  have R4 := Lib.hid (R3.out.grow hb4)
  clear hb4 Hkt3 Hb3 H3 H23 R3 hcvb
  go_wp2_with fail
  refine (mac_one Hkt4.out R4.out HGl.out hc3 (by omega) H24.out Hm.out hd (by omega) (0, 0)).mono ?_
  rintro e w5 ⟨rfl, hb5⟩
  rw [HD2.out]
  have Hkt5 := Lib.hid (Hkt4.out.grow hb5)
  have Hb5 := Lib.hid (Grown.trans Hb4.out hb5)
  have H5 := Lib.hid (H4.out.grow hb5)
  have H25 := Lib.hid (H24.out.grow hb5)
  have R5 := Lib.hid (R4.out.grow hb5)
  clear hb5 Hkt4 Hb4 H4 H24 R4
  have q64 := fun W => same64 HD.out (macL_len k T) W
  have q32 := fun W => same32 HE.out (tagL_len k T) W
  go_wp2_with fail
  refine (tag_one Hkt5.out H5.out Hn.out hc (by omega) H25.out Hm.out hd (by omega) (0, 0)).mono ?_
  rintro e w6 ⟨rfl, hb6⟩
  rw [← HE.out]
  have Hkt6 := Lib.hid (Hkt5.out.grow hb6)
  have Hb6 := Lib.hid (Grown.trans Hb5.out hb6)
  have H26 := Lib.hid (H25.out.grow hb6)
  have R6 := Lib.hid (R5.out.grow hb6)
  clear hb6 Hkt5 Hb5 H5 H25 R5
  go_wp2_with fail
  refine (tag_one Hkt6.out R6.out HGl.out hc3 (by omega) H26.out Hm.out hd (by omega) (0, 0)).mono ?_
  rintro e w7 ⟨rfl, hb7⟩
  rw [HE2.out]
  have Hb7 := Lib.hid (Grown.trans Hb6.out hb7)
  clear hb7 Hkt6 Hb6 H26 R6
  go_wp2
  go_ret
  exact ⟨rfl, Hb7.out⟩
end Go.Proofs.YtbjfjncpnnlklaaDoor.S5
