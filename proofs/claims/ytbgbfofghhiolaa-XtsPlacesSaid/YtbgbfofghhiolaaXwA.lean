/-
  law08's awake, out of the program's contracts.
-/
import Derived.Test.YtbgbfofghhiolaaXwC
namespace Go.Proofs.Ytbgbfofghhiolaa.S8
open Go.RowKit
open Go.Proofs.Ytbgbfofghhiolaa.S7 hiding intOf
set_option linter.unusedVariables false
set_option linter.unusedSimpArgs false

set_option maxHeartbeats 4000000 in
set_option maxRecDepth 20000 in
theorem awakeX (HN : EncNo) (HE : EncOk) (w : World) : Calls Try.prog 6 #[] w (Says w true) := by
  have Hno := Lib.hid HN
  have Hok := Lib.hid HE
  clear HN HE
  obtain ⟨Z63', hZ⟩ : ∃ Z, Z = (bvs (List.replicate 63 0)).toArray := ⟨_, rfl⟩
  have Z63 := Lib.hid hZ
  clear hZ
  obtain ⟨Z16', hZ⟩ : ∃ Z, Z = (bvs (List.replicate 16 0)).toArray := ⟨_, rfl⟩
  have Z16 := Lib.hid hZ
  clear hZ
  obtain ⟨Z64', hZ⟩ : ∃ Z, Z = (bvs (List.replicate 64 0)).toArray := ⟨_, rfl⟩
  have Z64 := Lib.hid hZ
  clear hZ
  obtain ⟨Z32', hZ⟩ : ∃ Z, Z = (bvs (List.replicate 32 0)).toArray := ⟨_, rfl⟩
  have Z32 := Lib.hid hZ
  clear hZ
  go_enter Try.func6, Try.ntmps6
  go_wp2
  refine rest_start (by kernel_rfl) fun v hv => ?_
  have G0 := Lib.hid hv
  clear hv
  refine rest_two (i := 0) (j := 1) rfl rfl (by kernel_rfl) (by rfl) (by rfl) (fun K hK => ?_) (fun K hK => ?_)
  case' refine_1 =>
    have hm := mk_row 63 (by omega) _ Z63.out v
    rw [show ((63 : Nat) : Int) = 63 from rfl] at hm
    go_simp
    refine hK.out _ _ (alloc_below v _) ?_
    clear hK K hm
    obtain ⟨ga, hga⟩ : ∃ g, g = v.heap.size := ⟨_, rfl⟩
    have Gv1 := Lib.hid (Grown.trans G0.out (alloc_below v (.cells Z63' 5)))
    have Ra := Lib.hid (show Rd (v.alloc (.cells Z63' 5)) (v.alloc (.cells Z63' 5)).heap.size (some ⟨ga, 0, none⟩) z63 by rw [hga]; exact row_rd v z63 Z63' Z63.out (Grown.refl _))
    rw [← hga]
    clear hga G0
    generalize v.alloc _ = v1 at *
    try simp only [Act.put, List.setIfInBounds_toArray, List.set_cons_zero, List.set_cons_succ]
    refine rest_lone (i := 1) rfl (by kernel_rfl) (by rfl) (fun K hK => ?_)
    have hm := mk_row 16 (by omega) _ Z16.out v1
    rw [show ((16 : Nat) : Int) = 16 from rfl] at hm
    go_simp
    refine hK.out _ _ (alloc_below v1 _) ?_
    clear hK K hm
    obtain ⟨gb, hgb⟩ : ∃ g, g = v1.heap.size := ⟨_, rfl⟩
    have Gv2 := Lib.hid (Grown.trans Gv1.out (alloc_below v1 (.cells Z16' 5)))
    have Rb := Lib.hid (show Rd (v1.alloc (.cells Z16' 5)) (v1.alloc (.cells Z16' 5)).heap.size (some ⟨gb, 0, none⟩) z16 by rw [hgb]; exact row_rd v1 z16 Z16' Z16.out (Grown.refl _))
    replace Ra := Lib.hid (Ra.out.grow (alloc_below v1 (.cells Z16' 5)))
    rw [← hgb]
    clear hgb Gv1
    generalize v1.alloc _ = v2 at *
    try simp only [Act.put, List.setIfInBounds_toArray, List.set_cons_zero, List.set_cons_succ]
  case' refine_2 =>
    have hm := mk_row 16 (by omega) _ Z16.out v
    rw [show ((16 : Nat) : Int) = 16 from rfl] at hm
    go_simp
    refine hK.out _ _ (alloc_below v _) ?_
    clear hK K hm
    obtain ⟨gb, hgb⟩ : ∃ g, g = v.heap.size := ⟨_, rfl⟩
    have Gv1 := Lib.hid (Grown.trans G0.out (alloc_below v (.cells Z16' 5)))
    have Rb := Lib.hid (show Rd (v.alloc (.cells Z16' 5)) (v.alloc (.cells Z16' 5)).heap.size (some ⟨gb, 0, none⟩) z16 by rw [hgb]; exact row_rd v z16 Z16' Z16.out (Grown.refl _))
    rw [← hgb]
    clear hgb G0
    generalize v.alloc _ = v1 at *
    try simp only [Act.put, List.setIfInBounds_toArray, List.set_cons_zero, List.set_cons_succ]
    refine rest_lone (i := 0) rfl (by kernel_rfl) (by rfl) (fun K hK => ?_)
    have hm := mk_row 63 (by omega) _ Z63.out v1
    rw [show ((63 : Nat) : Int) = 63 from rfl] at hm
    go_simp
    refine hK.out _ _ (alloc_below v1 _) ?_
    clear hK K hm
    obtain ⟨ga, hga⟩ : ∃ g, g = v1.heap.size := ⟨_, rfl⟩
    have Gv2 := Lib.hid (Grown.trans Gv1.out (alloc_below v1 (.cells Z63' 5)))
    have Ra := Lib.hid (show Rd (v1.alloc (.cells Z63' 5)) (v1.alloc (.cells Z63' 5)).heap.size (some ⟨ga, 0, none⟩) z63 by rw [hga]; exact row_rd v1 z63 Z63' Z63.out (Grown.refl _))
    replace Rb := Lib.hid (Rb.out.grow (alloc_below v1 (.cells Z63' 5)))
    rw [← hga]
    clear hga Gv1
    generalize v1.alloc _ = v2 at *
    try simp only [Act.put, List.setIfInBounds_toArray, List.set_cons_zero, List.set_cons_succ]
  all_goals
    refine rest_lone (i := 2) rfl (by kernel_rfl) (by rfl) (fun K hK => ?_)
    go_simp
    refine (Hno.out (some ⟨ga, 0, none⟩) (some ⟨gb, 0, none⟩) 63 63 16 16 0 z63 z16 _ (by simp [z63]) (by omega) (by unfold maxLen; omega) Ra.out (by omega) (by omega) (by simp [z16]) (by omega) (by unfold maxLen; omega) Rb.out (by unfold okX; omega)).mono ?_
    rintro e v3 ⟨A3, c3, rfl, hg3⟩
    have G3 := Lib.hid (Grown.trans Gv2.out hg3)
    refine hK.out _ _ hg3 ?_
    clear hK K hg3 Ra Rb Gv2
    try simp only [Act.put, List.setIfInBounds_toArray, List.set_cons_zero, List.set_cons_succ]
    refine rest_take (i := 3) rfl (by kernel_rfl) (by kernel_rfl) (by kernel_rfl) (by rfl) (fun w' hg => by go_simp; try with_reducible rfl) ?_
    try simp only [Act.put, List.setIfInBounds_toArray, List.set_cons_zero, List.set_cons_succ]
    refine rest_take (i := 4) rfl (by kernel_rfl) (by kernel_rfl) (by kernel_rfl) (by rfl) (fun w' hg => by go_simp; try with_reducible rfl) ?_
    try simp only [Act.put, List.setIfInBounds_toArray, List.set_cons_zero, List.set_cons_succ]
    refine rest_take (i := 5) rfl (by kernel_rfl) (by kernel_rfl) (by kernel_rfl) (by rfl) (fun w' hg => by go_simp; try with_reducible rfl) ?_
    try simp only [Act.put, List.setIfInBounds_toArray, List.set_cons_zero, List.set_cons_succ]
    refine rest_take (i := 6) rfl (by kernel_rfl) (by kernel_rfl) (by kernel_rfl) (by rfl) (fun w' hg => by go_simp; try with_reducible rfl) ?_
    try simp only [Act.put, List.setIfInBounds_toArray, List.set_cons_zero, List.set_cons_succ]
    refine rest_take (i := 7) rfl (by kernel_rfl) (by kernel_rfl) (by kernel_rfl) (by rfl) (fun w' hg => by go_simp; try with_reducible rfl) ?_
    try simp only [Act.put, List.setIfInBounds_toArray, List.set_cons_zero, List.set_cons_succ]
    refine rest_done (by kernel_rfl) ?_
    go_wp2
    refine rest_start (by kernel_rfl) fun v hv => ?_
    have G0 := Lib.hid (Grown.trans G3.out hv)
    clear hv G3
    refine rest_two (i := 0) (j := 1) rfl rfl (by kernel_rfl) (by rfl) (by rfl) (fun K hK => ?_) (fun K hK => ?_)
    case' refine_1 =>
      have hm := mk_row 64 (by omega) _ Z64.out v
      rw [show ((64 : Nat) : Int) = 64 from rfl] at hm
      go_simp
      refine hK.out _ _ (alloc_below v _) ?_
      clear hK K hm
      obtain ⟨ga, hga⟩ : ∃ g, g = v.heap.size := ⟨_, rfl⟩
      have Gv1 := Lib.hid (Grown.trans G0.out (alloc_below v (.cells Z64' 5)))
      have Ra := Lib.hid (show Rd (v.alloc (.cells Z64' 5)) (v.alloc (.cells Z64' 5)).heap.size (some ⟨ga, 0, none⟩) z64 by rw [hga]; exact row_rd v z64 Z64' Z64.out (Grown.refl _))
      rw [← hga]
      clear hga G0
      generalize v.alloc _ = v1 at *
      try simp only [Act.put, List.setIfInBounds_toArray, List.set_cons_zero, List.set_cons_succ]
      refine rest_lone (i := 1) rfl (by kernel_rfl) (by rfl) (fun K hK => ?_)
      have hm := mk_row 32 (by omega) _ Z32.out v1
      rw [show ((32 : Nat) : Int) = 32 from rfl] at hm
      go_simp
      refine hK.out _ _ (alloc_below v1 _) ?_
      clear hK K hm
      obtain ⟨gb, hgb⟩ : ∃ g, g = v1.heap.size := ⟨_, rfl⟩
      have Gv2 := Lib.hid (Grown.trans Gv1.out (alloc_below v1 (.cells Z32' 5)))
      have Rb := Lib.hid (show Rd (v1.alloc (.cells Z32' 5)) (v1.alloc (.cells Z32' 5)).heap.size (some ⟨gb, 0, none⟩) z32 by rw [hgb]; exact row_rd v1 z32 Z32' Z32.out (Grown.refl _))
      replace Ra := Lib.hid (Ra.out.grow (alloc_below v1 (.cells Z32' 5)))
      rw [← hgb]
      clear hgb Gv1
      generalize v1.alloc _ = v2 at *
      try simp only [Act.put, List.setIfInBounds_toArray, List.set_cons_zero, List.set_cons_succ]
    case' refine_2 =>
      have hm := mk_row 32 (by omega) _ Z32.out v
      rw [show ((32 : Nat) : Int) = 32 from rfl] at hm
      go_simp
      refine hK.out _ _ (alloc_below v _) ?_
      clear hK K hm
      obtain ⟨gb, hgb⟩ : ∃ g, g = v.heap.size := ⟨_, rfl⟩
      have Gv1 := Lib.hid (Grown.trans G0.out (alloc_below v (.cells Z32' 5)))
      have Rb := Lib.hid (show Rd (v.alloc (.cells Z32' 5)) (v.alloc (.cells Z32' 5)).heap.size (some ⟨gb, 0, none⟩) z32 by rw [hgb]; exact row_rd v z32 Z32' Z32.out (Grown.refl _))
      rw [← hgb]
      clear hgb G0
      generalize v.alloc _ = v1 at *
      try simp only [Act.put, List.setIfInBounds_toArray, List.set_cons_zero, List.set_cons_succ]
      refine rest_lone (i := 0) rfl (by kernel_rfl) (by rfl) (fun K hK => ?_)
      have hm := mk_row 64 (by omega) _ Z64.out v1
      rw [show ((64 : Nat) : Int) = 64 from rfl] at hm
      go_simp
      refine hK.out _ _ (alloc_below v1 _) ?_
      clear hK K hm
      obtain ⟨ga, hga⟩ : ∃ g, g = v1.heap.size := ⟨_, rfl⟩
      have Gv2 := Lib.hid (Grown.trans Gv1.out (alloc_below v1 (.cells Z64' 5)))
      have Ra := Lib.hid (show Rd (v1.alloc (.cells Z64' 5)) (v1.alloc (.cells Z64' 5)).heap.size (some ⟨ga, 0, none⟩) z64 by rw [hga]; exact row_rd v1 z64 Z64' Z64.out (Grown.refl _))
      replace Rb := Lib.hid (Rb.out.grow (alloc_below v1 (.cells Z64' 5)))
      rw [← hga]
      clear hga Gv1
      generalize v1.alloc _ = v2 at *
      try simp only [Act.put, List.setIfInBounds_toArray, List.set_cons_zero, List.set_cons_succ]
    all_goals
      refine rest_lone (i := 2) rfl (by kernel_rfl) (by rfl) (fun K hK => ?_)
      go_simp
      refine (Hok.out (some ⟨ga, 0, none⟩) (some ⟨gb, 0, none⟩) 64 32 32 0 2 z64 z32 _ (by simp [z64]) (by omega) (by unfold maxLen; omega) Ra.out (by omega) (by simp [z32]) (by omega) (by omega) (by omega) (by omega) (by unfold maxLen; omega) Rb.out).mono ?_
      rintro e v5 ⟨A5, c5, rfl, hl5, hc5, _, hr5, hg5⟩
      have G5 := Lib.hid (Grown.trans Gv2.out hg5)
      have HR5 := Lib.hid hr5
      have HL5 := Lib.hid hl5
      refine hK.out _ _ hg5 ?_
      clear hK K hg5 hr5 hl5 Ra Rb Gv2
      try simp only [Act.put, List.setIfInBounds_toArray, List.set_cons_zero, List.set_cons_succ]
      refine rest_take (i := 3) rfl (by kernel_rfl) (by kernel_rfl) (by kernel_rfl) (by rfl) (fun w' hg => by go_simp; try with_reducible rfl) ?_
      try simp only [Act.put, List.setIfInBounds_toArray, List.set_cons_zero, List.set_cons_succ]
      refine rest_take (i := 4) rfl (by kernel_rfl) (by kernel_rfl) (by kernel_rfl) (by rfl) (fun w' hg => by go_simp; try with_reducible rfl) ?_
      try simp only [Act.put, List.setIfInBounds_toArray, List.set_cons_zero, List.set_cons_succ]
      refine rest_take (i := 5) rfl (by kernel_rfl) (by kernel_rfl) (by kernel_rfl) (by rfl) (fun w' hg => by go_simp; try with_reducible rfl) ?_
      try simp only [Act.put, List.setIfInBounds_toArray, List.set_cons_zero, List.set_cons_succ]
      refine rest_take (i := 6) rfl (by kernel_rfl) (by kernel_rfl) (by kernel_rfl) (by rfl) (fun w' hg => by go_simp; try with_reducible rfl) ?_
      try simp only [Act.put, List.setIfInBounds_toArray, List.set_cons_zero, List.set_cons_succ]
      refine rest_take (i := 7) rfl (by kernel_rfl) (by kernel_rfl) (by kernel_rfl) (by rfl) (fun w' hg => by go_simp; try with_reducible rfl) ?_
      try simp only [Act.put, List.setIfInBounds_toArray, List.set_cons_zero, List.set_cons_succ]
      refine rest_done (by kernel_rfl) ?_
      obtain ⟨R, hR⟩ : ∃ R, R = xtE (wK1 z64) (wK2 z64) 0 z32 2 := ⟨_, rfl⟩
      rw [← hR] at HR5 HL5
      have HRe := Lib.hid (show (hexL (R.take 16)).toArray = #[100, 52, 53, 54, 98, 52, 102, 99, 50, 101, 54, 50, 48, 98, 98, 97, 54, 102, 102, 98, 101, 100, 50, 55, 98, 57, 53, 54, 99, 57, 53, 52] by rw [hR]; exact hex_xts)
      clear hR
      have hsl : ∀ V : World, (Instr.slice 22 (.slice A5 32 c5) none (some (.int .i64 16)) none).run Try.prog V = .ok (.slice A5 16 c5) V := fun V => cut_h V A5 32 c5 16 (by omega)
      go_wp2_with fail
      refine (refHex_any A5 16 c5 (R.take 16) _ (by rw [List.length_take, HL5.out]; omega) (HR5.out.take 16) (by omega)).mono ?_
      rintro e v6 ⟨rfl, hg6⟩
      rw [HRe.out]
      have G6 := Lib.hid (Grown.trans G5.out hg6)
      clear hg6 HR5 HL5
      go_wp2
      go_ret
      exact ⟨rfl, G6.out⟩
theorem awakeX_twice (HN : EncNo) (HE : EncOk) (w w1 : World) (h : Grown w w1) : Calls Try.prog 6 #[] w1 (Says w true) :=
  (awakeX HN HE w1).mono fun e w2 h2 => ⟨h2.1, Grown.trans h h2.2⟩
end Go.Proofs.Ytbgbfofghhiolaa.S8
