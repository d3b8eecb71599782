/-
  The reference's Derive; law06's awake.
-/
import Derived.Test.YtbofikghcoalbaaDoorKfX
import Derived.Test.YtbofikghcoalbaaDoorGrq
import Derived.Lib.SlBytesConst
namespace Go.Proofs.YtbofikghcoalbaaDoor.S6
open Go.RowKit
open S4 (Kt arr arr_size arr_one infoA rd_block u64D conv1)
open S5 (macL macL_len mac_any mac_one conv_bytes)
set_option linter.unusedVariables false
set_option linter.unusedSimpArgs false

set_option maxHeartbeats 4000000 in
theorem refDerive_any (A : Option Addr) (n c : Nat) (T : List UInt8) (x : UInt8) (B : Option Addr) (m d : Nat) (i : List UInt8) (N : Nat) (w : World) (h : Rd w w.heap.size A T) (hn : T.length = n) (hl : n ≤ 40000)
    (h2 : Rd w w.heap.size B i) (hm : i.length = m) (hl2 : m ≤ 20000) (hN : N ≤ 16320) :
    Calls Tryd.prog 13 #[.slice A n c, .int .u8 (x.toNat : Int), .slice B m d, .int .i64 (N : Int)] w fun e w' => e = .returned (.string ⟨(exL (macL [] T) ([116, 117, 114, 110, 107, 101, 121, 0, x] ++ i) N).toArray⟩) ∧ Grown w w' := by
  have H := Lib.hid h
  have Hn := Lib.hid hn
  have H2 := Lib.hid h2
  have Hm := Lib.hid hm
  clear h hn h2 hm
  go_enter Tryd.func13, Tryd.ntmps13
  obtain ⟨S1, hS1⟩ : ∃ S : ByteArray, S = ⟨(macL [] T).toArray⟩ := ⟨_, rfl⟩
  obtain ⟨SI, hSI⟩ : ∃ S : ByteArray, S = ⟨i.toArray⟩ := ⟨_, rfl⟩
  obtain ⟨U, hU⟩ : ∃ S : ByteArray, S = ⟨([116, 117, 114, 110, 107, 101, 121, 0] ++ [x]).toArray⟩ := ⟨_, rfl⟩
  obtain ⟨V, hV⟩ : ∃ S : ByteArray, S = ⟨([116, 117, 114, 110, 107, 101, 121, 0, x] ++ i).toArray⟩ := ⟨_, rfl⟩
  have ha1 : ∀ W : World, (Op.stringOp .add { data := #[116, 117, 114, 110, 107, 101, 121, 0] } { data := #[x] }).run Tryd.prog W = .ok (.string U) W := fun W => by rw [hU]; exact addS [116, 117, 114, 110, 107, 101, 121, 0] [x] (by simp) W
  have ha2 : ∀ W : World, (Op.stringOp .add U SI).run Tryd.prog W = .ok (.string V) W := fun W => by rw [hU, hSI, hV]; exact addS ([116, 117, 114, 110, 107, 101, 121, 0] ++ [x]) i (by have := Hm.out; simp; omega) W
  have HS1 := Lib.hid hS1
  have HSI := Lib.hid hSI
  have HV := Lib.hid hV
  have Hlen := Lib.hid (show ([116, 117, 114, 110, 107, 101, 121, 0, x] ++ i).length = 9 + m by rw [List.length_append, Hm.out]; rfl)
  clear hS1 hSI hU hV
  go_wp2_with fail
  try simp only [Act.put]
  refine rest_start (by kernel_rfl) fun v hv => ?_
  have HA := Lib.hid (H.out.grow hv)
  have HB := Lib.hid (H2.out.grow hv)
  have G := Lib.hid hv
  clear hv H H2
  refine rest_take (i := 0) rfl (by kernel_rfl) (by kernel_rfl) (by kernel_rfl) (by rfl) (fun w' hg => by go_simp; try with_reducible rfl) ?_
  try simp only [Act.put, List.setIfInBounds_toArray, List.set_cons_zero, List.set_cons_succ]
  refine rest_take (i := 3) rfl (by kernel_rfl) (by kernel_rfl) (by kernel_rfl) (by rfl) (fun w' hg => by go_simp; try with_reducible rfl) ?_
  try simp only [Act.put, List.setIfInBounds_toArray, List.set_cons_zero, List.set_cons_succ]
  refine rest_take (i := 7) rfl (by kernel_rfl) (by kernel_rfl) (by kernel_rfl) (by rfl) (fun w' hg => by go_simp; try with_reducible rfl) ?_
  try simp only [Act.put, List.setIfInBounds_toArray, List.set_cons_zero, List.set_cons_succ]
  refine rest_take (i := 8) rfl (by kernel_rfl) (by kernel_rfl) (by kernel_rfl) (by rfl) (fun w' hg => by have hcv := conv_at HB.out Hm.out d w' hg; rw [← HSI.out] at hcv; go_simp; try with_reducible rfl) ?_
  try simp only [Act.put, List.setIfInBounds_toArray, List.set_cons_zero, List.set_cons_succ]
  refine rest_take (i := 10) rfl (by kernel_rfl) (by kernel_rfl) (by kernel_rfl) (by rfl) (fun w' hg => by go_simp; try with_reducible rfl) ?_
  try simp only [Act.put, List.setIfInBounds_toArray, List.set_cons_zero, List.set_cons_succ]
  refine rest_two (i := 1) (j := 4) rfl rfl (by kernel_rfl) (by rfl) (by rfl) (fun K hK => ?_) (fun K hK => ?_)
  · go_simp
    refine (refExtract_any none 0 0 [] A n c T _ (.inl rfl) rfl (by omega) HA.out Hn.out hl).mono ?_
    rintro e v1 ⟨rfl, hb⟩
    rw [← HS1.out]
    refine hK.out _ _ hb ?_
    clear hK K
    replace HA := Lib.hid (HA.out.grow hb)
    replace HB := Lib.hid (HB.out.grow hb)
    replace G := Lib.hid (Grown.trans G.out hb)
    clear hb
    try simp only [Act.put, List.setIfInBounds_toArray, List.set_cons_zero, List.set_cons_succ]
    refine rest_two (i := 2) (j := 4) rfl rfl (by kernel_rfl) (by rfl) (by rfl) (fun K hK => ?_) (fun K hK => ?_)
    · obtain ⟨c2, v2, hcvb, hc2, hr2, hb⟩ := conv_bytes v1 (macL [] T) S1 HS1.out
      rw [macL_len] at hcvb hc2
      go_simp
      refine hK.out _ _ hb ?_
      clear hK K hcvb
      have RK := Lib.hid hr2
      replace HA := Lib.hid (HA.out.grow hb)
      replace HB := Lib.hid (HB.out.grow hb)
      replace G := Lib.hid (Grown.trans G.out hb)
      clear hb hr2
      try simp only [Act.put, List.setIfInBounds_toArray, List.set_cons_zero, List.set_cons_succ]
      refine rest_lone (i := 4) rfl (by kernel_rfl) (by rfl) (fun K hK => ?_)
      go_simp
      refine hK.out _ _ (alloc_below v2 _) ?_
      clear hK K
      have RX := Lib.hid (show Rd (v2.alloc (.cells #[.int .u8 (x.toNat : Int)] 5)) (v2.alloc (.cells #[.int .u8 (x.toNat : Int)] 5)).heap.size (some ⟨v2.heap.size, 0, none⟩) [x] from (Row.new v2 [x]).rd (by simp))
      have hb := alloc_below v2 (.cells #[.int .u8 (x.toNat : Int)] 5)
      replace HA := Lib.hid (HA.out.grow hb)
      replace HB := Lib.hid (HB.out.grow hb)
      replace RK := Lib.hid (RK.out.grow hb)
      replace G := Lib.hid (Grown.trans G.out hb)
      clear hb
      generalize hg4 : v2.heap.size = g4 at RX ⊢
      clear hg4
      generalize v2.alloc _ = v4 at HA HB RK RX G ⊢
      try simp only [Act.put, List.setIfInBounds_toArray, List.set_cons_zero, List.set_cons_succ]
      refine rest_take (i := 5) rfl (by kernel_rfl) (by kernel_rfl) (by kernel_rfl) (by rfl) (fun w' hg => by have hcv := conv_at (n := 1) RX.out rfl 1 w' hg; go_simp; try with_reducible rfl) ?_
      try simp only [Act.put, List.setIfInBounds_toArray, List.set_cons_zero, List.set_cons_succ]
      clear RX
      refine rest_take (i := 6) rfl (by kernel_rfl) (by kernel_rfl) (by kernel_rfl) (by rfl) (fun w' hg => by go_simp; try with_reducible rfl) ?_
      try simp only [Act.put, List.setIfInBounds_toArray, List.set_cons_zero, List.set_cons_succ]
      refine rest_take (i := 9) rfl (by kernel_rfl) (by kernel_rfl) (by kernel_rfl) (by rfl) (fun w' hg => by go_simp; try with_reducible rfl) ?_
      try simp only [Act.put, List.setIfInBounds_toArray, List.set_cons_zero, List.set_cons_succ]
      refine rest_lone (i := 11) rfl (by kernel_rfl) (by rfl) (fun K hK => ?_)
      go_simp
      refine (refExpand_any _ 64 c2 (macL [] T) ([116, 117, 114, 110, 107, 101, 121, 0, x] ++ i) V (9 + m) N _ RK.out (macL_len _ _) (by omega) HV.out Hlen.out (by omega) hN).mono ?_
      rintro e v11 ⟨rfl, hb⟩
      refine hK.out _ _ hb ?_
      clear hK K
      replace G := Lib.hid (Grown.trans G.out hb)
      clear hb
      try simp only [Act.put, List.setIfInBounds_toArray, List.set_cons_zero, List.set_cons_succ]
      refine rest_take (i := 12) rfl (by kernel_rfl) (by kernel_rfl) (by kernel_rfl) (by rfl) (fun w' hg => by go_simp; try with_reducible rfl) ?_
      try simp only [Act.put, List.setIfInBounds_toArray, List.set_cons_zero, List.set_cons_succ]
      refine rest_done (by kernel_rfl) ?_
      go_wp2
      go_ret
      exact ⟨rfl, G.out⟩
    · go_simp
      refine hK.out _ _ (alloc_below v1 _) ?_
      clear hK K
      have RX := Lib.hid (show Rd (v1.alloc (.cells #[.int .u8 (x.toNat : Int)] 5)) (v1.alloc (.cells #[.int .u8 (x.toNat : Int)] 5)).heap.size (some ⟨v1.heap.size, 0, none⟩) [x] from (Row.new v1 [x]).rd (by simp))
      have hb := alloc_below v1 (.cells #[.int .u8 (x.toNat : Int)] 5)
      replace HA := Lib.hid (HA.out.grow hb)
      replace HB := Lib.hid (HB.out.grow hb)
      replace G := Lib.hid (Grown.trans G.out hb)
      clear hb
      generalize hg4 : v1.heap.size = g4 at RX ⊢
      clear hg4
      generalize v1.alloc _ = v4 at HA HB RX G ⊢
      try simp only [Act.put, List.setIfInBounds_toArray, List.set_cons_zero, List.set_cons_succ]
      refine rest_take (i := 5) rfl (by kernel_rfl) (by kernel_rfl) (by kernel_rfl) (by rfl) (fun w' hg => by have hcv := conv_at (n := 1) RX.out rfl 1 w' hg; go_simp; try with_reducible rfl) ?_
      try simp only [Act.put, List.setIfInBounds_toArray, List.set_cons_zero, List.set_cons_succ]
      clear RX
      refine rest_take (i := 6) rfl (by kernel_rfl) (by kernel_rfl) (by kernel_rfl) (by rfl) (fun w' hg => by go_simp; try with_reducible rfl) ?_
      try simp only [Act.put, List.setIfInBounds_toArray, List.set_cons_zero, List.set_cons_succ]
      refine rest_take (i := 9) rfl (by kernel_rfl) (by kernel_rfl) (by kernel_rfl) (by rfl) (fun w' hg => by go_simp; try with_reducible rfl) ?_
      try simp only [Act.put, List.setIfInBounds_toArray, List.set_cons_zero, List.set_cons_succ]
      refine rest_lone (i := 2) rfl (by kernel_rfl) (by rfl) (fun K hK => ?_)
      obtain ⟨c2, v2, hcvb, hc2, hr2, hb⟩ := conv_bytes v4 (macL [] T) S1 HS1.out
      rw [macL_len] at hcvb hc2
      go_simp
      refine hK.out _ _ hb ?_
      clear hK K hcvb
      have RK := Lib.hid hr2
      replace HA := Lib.hid (HA.out.grow hb)
      replace HB := Lib.hid (HB.out.grow hb)
      replace G := Lib.hid (Grown.trans G.out hb)
      clear hb hr2
      try simp only [Act.put, List.setIfInBounds_toArray, List.set_cons_zero, List.set_cons_succ]
      refine rest_lone (i := 11) rfl (by kernel_rfl) (by rfl) (fun K hK => ?_)
      go_simp
      refine (refExpand_any _ 64 c2 (macL [] T) ([116, 117, 114, 110, 107, 101, 121, 0, x] ++ i) V (9 + m) N _ RK.out (macL_len _ _) (by omega) HV.out Hlen.out (by omega) hN).mono ?_
      rintro e v11 ⟨rfl, hb⟩
      refine hK.out _ _ hb ?_
      clear hK K
      replace G := Lib.hid (Grown.trans G.out hb)
      clear hb
      try simp only [Act.put, List.setIfInBounds_toArray, List.set_cons_zero, List.set_cons_succ]
      refine rest_take (i := 12) rfl (by kernel_rfl) (by kernel_rfl) (by kernel_rfl) (by rfl) (fun w' hg => by go_simp; try with_reducible rfl) ?_
      try simp only [Act.put, List.setIfInBounds_toArray, List.set_cons_zero, List.set_cons_succ]
      refine rest_done (by kernel_rfl) ?_
      go_wp2
      go_ret
      exact ⟨rfl, G.out⟩
  · go_simp
    refine hK.out _ _ (alloc_below v _) ?_
    clear hK K
    have RX := Lib.hid (show Rd (v.alloc (.cells #[.int .u8 (x.toNat : Int)] 5)) (v.alloc (.cells #[.int .u8 (x.toNat : Int)] 5)).heap.size (some ⟨v.heap.size, 0, none⟩) [x] from (Row.new v [x]).rd (by simp))
    have hb := alloc_below v (.cells #[.int .u8 (x.toNat : Int)] 5)
    replace HA := Lib.hid (HA.out.grow hb)
    replace HB := Lib.hid (HB.out.grow hb)
    replace G := Lib.hid (Grown.trans G.out hb)
    clear hb
    generalize hg4 : v.heap.size = g4 at RX ⊢
    clear hg4
    generalize v.alloc _ = v4 at HA HB RX G ⊢
    try simp only [Act.put, List.setIfInBounds_toArray, List.set_cons_zero, List.set_cons_succ]
    refine rest_take (i := 5) rfl (by kernel_rfl) (by kernel_rfl) (by kernel_rfl) (by rfl) (fun w' hg => by have hcv := conv_at (n := 1) RX.out rfl 1 w' hg; go_simp; try with_reducible rfl) ?_
    try simp only [Act.put, List.setIfInBounds_toArray, List.set_cons_zero, List.set_cons_succ]
    clear RX
    refine rest_take (i := 6) rfl (by kernel_rfl) (by kernel_rfl) (by kernel_rfl) (by rfl) (fun w' hg => by go_simp; try with_reducible rfl) ?_
    try simp only [Act.put, List.setIfInBounds_toArray, List.set_cons_zero, List.set_cons_succ]
    refine rest_take (i := 9) rfl (by kernel_rfl) (by kernel_rfl) (by kernel_rfl) (by rfl) (fun w' hg => by go_simp; try with_reducible rfl) ?_
    try simp only [Act.put, List.setIfInBounds_toArray, List.set_cons_zero, List.set_cons_succ]
    refine rest_lone (i := 1) rfl (by kernel_rfl) (by rfl) (fun K hK => ?_)
    go_simp
    refine (refExtract_any none 0 0 [] A n c T _ (.inl rfl) rfl (by omega) HA.out Hn.out hl).mono ?_
    rintro e v1 ⟨rfl, hb⟩
    rw [← HS1.out]
    refine hK.out _ _ hb ?_
    clear hK K
    replace HA := Lib.hid (HA.out.grow hb)
    replace HB := Lib.hid (HB.out.grow hb)
    replace G := Lib.hid (Grown.trans G.out hb)
    clear hb
    try simp only [Act.put, List.setIfInBounds_toArray, List.set_cons_zero, List.set_cons_succ]
    refine rest_lone (i := 2) rfl (by kernel_rfl) (by rfl) (fun K hK => ?_)
    obtain ⟨c2, v2, hcvb, hc2, hr2, hb⟩ := conv_bytes v1 (macL [] T) S1 HS1.out
    rw [macL_len] at hcvb hc2
    go_simp
    refine hK.out _ _ hb ?_
    clear hK K hcvb
    have RK := Lib.hid hr2
    replace HA := Lib.hid (HA.out.grow hb)
    replace HB := Lib.hid (HB.out.grow hb)
    replace G := Lib.hid (Grown.trans G.out hb)
    clear hb hr2
    try simp only [Act.put, List.setIfInBounds_toArray, List.set_cons_zero, List.set_cons_succ]
    refine rest_lone (i := 11) rfl (by kernel_rfl) (by rfl) (fun K hK => ?_)
    go_simp
    refine (refExpand_any _ 64 c2 (macL [] T) ([116, 117, 114, 110, 107, 101, 121, 0, x] ++ i) V (9 + m) N _ RK.out (macL_len _ _) (by omega) HV.out Hlen.out (by omega) hN).mono ?_
    rintro e v11 ⟨rfl, hb⟩
    refine hK.out _ _ hb ?_
    clear hK K
    replace G := Lib.hid (Grown.trans G.out hb)
    clear hb
    try simp only [Act.put, List.setIfInBounds_toArray, List.set_cons_zero, List.set_cons_succ]
    refine rest_take (i := 12) rfl (by kernel_rfl) (by kernel_rfl) (by kernel_rfl) (by rfl) (fun w' hg => by go_simp; try with_reducible rfl) ?_
    try simp only [Act.put, List.setIfInBounds_toArray, List.set_cons_zero, List.set_cons_succ]
    refine rest_done (by kernel_rfl) ?_
    go_wp2
    go_ret
    exact ⟨rfl, G.out⟩

set_option maxHeartbeats 4000000 in
theorem awake (w : World) (hk : Kt w) : Calls Tryd.prog 7 #[] w (Says w true) := by
  have Hk := Lib.hid hk
  clear hk
  have kc := fun (W : World) (C : Array Value) (n c : Nat) => Lib.run_convert_bytes_const (P := Tryd.prog) W 22 5 C n c Tryd.underlying22 Tryd.underlying5
  have rk : ∀ W : World, Hid (Rd (W.alloc (.cells #[.int .u8 107] 5 (1, 2))) (W.alloc (.cells #[.int .u8 107] 5 (1, 2))).heap.size (some ⟨W.heap.size, 0, none⟩) [107]) := fun W => rd_block (l := [107]) (fr := (1, 2)) (heap_alloc_new W _) (by simp)
  go_enter Tryd.func7, Tryd.ntmps7
  go_wp2_with fail
  refine (expand_any _ 1 1 [107] [105] { data := #[105] } 1 0 _ (Hk.out.grow (alloc_below w _)) (rk w).out rfl (by omega) (by omega) rfl rfl (by omega) (by omega)).mono ?_
  rintro e w1 ⟨A1, rfl, hr1, hg1⟩
  have G1 := Lib.hid (Grown.trans (alloc_below w _) hg1)
  clear hr1 hg1
  go_wp2_with fail
  refine (expand_no _ 1 1 _ (-1) _ (by omega)).mono ?_
  rintro e w2 ⟨rfl, hg2⟩
  have G2 := Lib.hid (Grown.trans G1.out (Grown.trans (alloc_below w1 _) hg2))
  clear hg2 G1
  go_wp2_with fail
  refine (expand_any _ 1 1 [107] [105] { data := #[105] } 1 3 _ (Hk.out.grow (Grown.trans G2.out (alloc_below w2 _))) (rk w2).out rfl (by omega) (by omega) rfl rfl (by omega) (by omega)).mono ?_
  rintro e w3 ⟨A3, rfl, hr3, hg3⟩
  have G3 := Lib.hid (Grown.trans G2.out (Grown.trans (alloc_below w2 _) hg3))
  clear hr3 hg3 G2
  go_wp2
  go_ret
  exact ⟨rfl, G3.out⟩
theorem awake_twice (w w1 : World) (h : Grown w w1) (hk : Kt w1) : Calls Tryd.prog 7 #[] w1 (Says w true) :=
  (awake w1 hk).mono fun e w2 h2 => ⟨h2.1, Grown.trans h h2.2⟩
end Go.Proofs.YtbofikghcoalbaaDoor.S6
