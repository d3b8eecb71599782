/-
  The walk of Base64Apart.
-/
import Derived.Test.YtjpjodjdciamhaaAw2
namespace Go.Proofs.Ytjpjodjdciamhaa
open Go.RowKit
set_option linter.unusedVariables false
set_option linter.unusedSimpArgs false

theorem encL_beq (a b : List UInt8) : (encL a == encL b) = (a == b) := by
  rw [Bool.eq_iff_iff]
  simp only [beq_iff_eq]
  exact ⟨enc_inj a b, fun h => by rw [h]⟩
theorem encode_piece {w : World} {A : Option Addr} {p : List UInt8} (h : RdL w w.heap.size A [p]) (hl : p.length ≤ 50000) :
    Calls Try.prog 9 #[.slice A 1 1] w fun e w' => e = .returned (.string { data := (encL p).toArray }) ∧ Grown w w' := by
  refine (encode_dev A 1 1 [p] _ h rfl (by omega) (by simp; omega)).mono ?_
  rintro e w' ⟨rfl, hb⟩
  exact ⟨by simp, hb⟩
/-- Two operations that may come up. -/
theorem rest_two {P : Program} {ops : Array Oper} {Q : Exit → Act → World → Prop} {i j : Nat} {d d2 : Option Tmp} {op op2 : Op} {ty ty2 : TypeId} {pos pos2 : String} {after after2 : Array Edge} {guard guard2 : Option (Nat × Bool)} {fuel : Nat} {listed : Array Bool} {a : Act} {w : World}
    (hi : ops[i]? = some ⟨d, op, ty, pos, after, guard⟩) (hj : ops[j]? = some ⟨d2, op2, ty2, pos2, after2, guard2⟩) (hr : Region.ready .any ops listed = [i, j])
    (hwn : Region.wanted ⟨d, op, ty, pos, after, guard⟩ (yielded ops a.tmps) = true) (hwn2 : Region.wanted ⟨d2, op2, ty2, pos2, after2, guard2⟩ (yielded ops a.tmps) = true)
    (h : ∀ K : Act → World → Prop, Shut (∀ a' w', Grown w w' → Rest P ops Q fuel (listed.setIfInBounds i true) a' w' → K a' w') → Oper.wp P ⟨d, op, ty, pos, after, guard⟩ a w K (NoPanic Q))
    (h2 : ∀ K : Act → World → Prop, Shut (∀ a' w', Grown w w' → Rest P ops Q fuel (listed.setIfInBounds j true) a' w' → K a' w') → Oper.wp P ⟨d2, op2, ty2, pos2, after2, guard2⟩ a w K (NoPanic Q)) : Rest P ops Q (fuel + 1) listed a w := by
  refine wpAnyH_all hr (by simp) fun k hk => ?_
  simp only [List.mem_cons, List.not_mem_nil, or_false] at hk
  rcases hk with rfl | rfl
  · unfold wpOp
    simp only [hi, hwn, if_true]
    refine .inl (h _ ?_)
    intro a' w' hg hrest
    exact ⟨hg, held_mono (fun x hx => hg.trans hx) _ _ _ _ hrest⟩
  · unfold wpOp
    simp only [hj, hwn2, if_true]
    refine .inl (h2 _ ?_)
    intro a' w' hg hrest
    exact ⟨hg, held_mono (fun x hx => hg.trans hx) _ _ _ _ hrest⟩
set_option maxHeartbeats 3000000 in
theorem apart_walk (A1 : Option Addr) (n1 c1 : Nat) (A2 : Option Addr) (n2 c2 : Nat) (a b : List UInt8) (w : World) (h1 : Rd w w.heap.size A1 a) (h2 : Rd w w.heap.size A2 b) (hn1 : a.length = n1) (hn2 : b.length = n2) (hc1 : n1 ≤ c1) (hc2 : n2 ≤ c2) (hm1 : c1 ≤ 9223372036854775807) (hm2 : c2 ≤ 9223372036854775807) :
    Calls Try.prog 5 #[.slice A1 n1 c1, .slice A2 n2 c2] w (Says w true) := by
  have Hn1 := Lib.hid hn1
  have Hn2 := Lib.hid hn2
  clear hn1 hn2
  go_enter Try.func5, Try.ntmps5
  go_wp2_with fail
  refine (awake2 _).mono ?_
  rintro e w1 ⟨rfl, hb1⟩
  have Hb := Lib.hid (show Grown w w1 from hb1)
  have S1 := Lib.hid (h1.grow hb1)
  have S2 := Lib.hid (h2.grow hb1)
  clear hb1 h1 h2
  by_cases hl : n1 ≤ 300 ∧ n2 ≤ 300
  · obtain ⟨hl1, hl2⟩ := hl
    go_wp2
    refine rest_start (by kernel_rfl) fun v0 hv0 => ?_
    replace S1 := Lib.hid (S1.out.grow hv0)
    replace S2 := Lib.hid (S2.out.grow hv0)
    replace Hb := Lib.hid (Grown.trans Hb.out hv0)
    clear hv0
    refine rest_take (i := 0) rfl (by kernel_rfl) (by kernel_rfl) (by kernel_rfl) (by rfl) (fun w' hg => by go_simp; try with_reducible rfl) ?_
    try simp only [Act.put, List.setIfInBounds_toArray, List.set_cons_zero, List.set_cons_succ]
    refine rest_take (i := 3) rfl (by kernel_rfl) (by kernel_rfl) (by kernel_rfl) (by rfl) (fun w' hg => by go_simp; try with_reducible rfl) ?_
    try simp only [Act.put, List.setIfInBounds_toArray, List.set_cons_zero, List.set_cons_succ]
    refine rest_take (i := 7) rfl (by kernel_rfl) (by kernel_rfl) (by kernel_rfl) (by rfl) (fun w' hg => by go_simp; try with_reducible rfl) ?_
    try simp only [Act.put, List.setIfInBounds_toArray, List.set_cons_zero, List.set_cons_succ]
    refine rest_take (i := 8) rfl (by kernel_rfl) (by kernel_rfl) (by kernel_rfl) (by rfl) (fun w' hg => by have hcv := conv_at S1.out Hn1.out c1 w' hg; go_simp; try with_reducible rfl) ?_
    try simp only [Act.put, List.setIfInBounds_toArray, List.set_cons_zero, List.set_cons_succ]
    refine rest_take (i := 9) rfl (by kernel_rfl) (by kernel_rfl) (by kernel_rfl) (by rfl) (fun w' hg => by go_simp; try with_reducible rfl) ?_
    try simp only [Act.put, List.setIfInBounds_toArray, List.set_cons_zero, List.set_cons_succ]
    refine rest_take (i := 10) rfl (by kernel_rfl) (by kernel_rfl) (by kernel_rfl) (by rfl) (fun w' hg => by have hcv := conv_at S2.out Hn2.out c2 w' hg; go_simp; try with_reducible rfl) ?_
    try simp only [Act.put, List.setIfInBounds_toArray, List.set_cons_zero, List.set_cons_succ]
    refine rest_take (i := 11) rfl (by kernel_rfl) (by kernel_rfl) (by kernel_rfl) (by rfl) (fun w' hg => by have hxx := encL_beq a b; go_simp; try with_reducible rfl) ?_
    try simp only [Act.put, List.setIfInBounds_toArray, List.set_cons_zero, List.set_cons_succ]
    refine rest_two (i := 1) (j := 4) rfl rfl (by kernel_rfl) (by rfl) (by rfl) (fun K hK => ?_) (fun K hK => ?_)
    · skip
      go_simp
      refine hK.out _ _ (alloc_below v0 (.cells #[.slice A1 n1 c1] 24)) ?_
      clear hK K
      have L1 := Lib.hid (rdL_one S1.out Hn1.out hc1 (0, 0))
      have Hal := Lib.hid (show Grown v0 (v0.alloc (.cells #[.slice A1 n1 c1] 24)) from alloc_below v0 (.cells #[.slice A1 n1 c1] 24))
      generalize v0.alloc (.cells #[.slice A1 n1 c1] 24) = W1 at Hal L1 ⊢
      try replace L2 := Lib.hid ((L2.out.keep Hal.out).more (Below.size Hal.out))
      replace S1 := Lib.hid (S1.out.grow Hal.out)
      replace S2 := Lib.hid (S2.out.grow Hal.out)
      replace Hb := Lib.hid (Grown.trans Hb.out Hal.out)
      clear Hal
      try simp only [Act.put, List.setIfInBounds_toArray, List.set_cons_zero, List.set_cons_succ]
      refine rest_two (i := 2) (j := 4) rfl rfl (by kernel_rfl) (by rfl) (by rfl) (fun K hK => ?_) (fun K hK => ?_)
      · skip
        go_simp
        refine (encode_piece L1.out (by have := Hn1.out; omega)).mono ?_
        rintro e v1 ⟨rfl, hv⟩
        refine hK.out _ _ hv ?_
        clear hK K
        have Hv := Lib.hid hv
        clear hv
        try replace L2 := Lib.hid ((L2.out.keep Hv.out).more (Below.size Hv.out))
        replace S1 := Lib.hid (S1.out.grow Hv.out)
        replace S2 := Lib.hid (S2.out.grow Hv.out)
        replace Hb := Lib.hid (Grown.trans Hb.out Hv.out)
        clear Hv L1
        try simp only [Act.put, List.setIfInBounds_toArray, List.set_cons_zero, List.set_cons_succ]
        refine rest_lone (i := 4) rfl (by kernel_rfl) (by rfl) (fun K hK => ?_)
        go_simp
        refine hK.out _ _ (alloc_below v1 (.cells #[.slice A2 n2 c2] 24)) ?_
        clear hK K
        have L2 := Lib.hid (rdL_one S2.out Hn2.out hc2 (0, 0))
        have Hal := Lib.hid (show Grown v1 (v1.alloc (.cells #[.slice A2 n2 c2] 24)) from alloc_below v1 (.cells #[.slice A2 n2 c2] 24))
        generalize v1.alloc (.cells #[.slice A2 n2 c2] 24) = W2 at Hal L2 ⊢
        try replace L1 := Lib.hid ((L1.out.keep Hal.out).more (Below.size Hal.out))
        replace S1 := Lib.hid (S1.out.grow Hal.out)
        replace S2 := Lib.hid (S2.out.grow Hal.out)
        replace Hb := Lib.hid (Grown.trans Hb.out Hal.out)
        clear Hal
        try simp only [Act.put, List.setIfInBounds_toArray, List.set_cons_zero, List.set_cons_succ]
        refine rest_lone (i := 5) rfl (by kernel_rfl) (by rfl) (fun K hK => ?_)
        go_simp
        refine (encode_piece L2.out (by have := Hn2.out; omega)).mono ?_
        rintro e v2 ⟨rfl, hv⟩
        refine hK.out _ _ hv ?_
        clear hK K
        have Hv := Lib.hid hv
        clear hv
        try replace L1 := Lib.hid ((L1.out.keep Hv.out).more (Below.size Hv.out))
        replace S1 := Lib.hid (S1.out.grow Hv.out)
        replace S2 := Lib.hid (S2.out.grow Hv.out)
        replace Hb := Lib.hid (Grown.trans Hb.out Hv.out)
        clear Hv L2
        try simp only [Act.put, List.setIfInBounds_toArray, List.set_cons_zero, List.set_cons_succ]
        refine rest_take (i := 6) rfl (by kernel_rfl) (by kernel_rfl) (by kernel_rfl) (by rfl) (fun w' hg => by have hxx := encL_beq a b; go_simp; try with_reducible rfl) ?_
        try simp only [Act.put, List.setIfInBounds_toArray, List.set_cons_zero, List.set_cons_succ]
        refine rest_take (i := 12) rfl (by kernel_rfl) (by kernel_rfl) (by kernel_rfl) (by rfl) (fun w' hg => by have hxx := encL_beq a b; go_simp; try with_reducible rfl) ?_
        try simp only [Act.put, List.setIfInBounds_toArray, List.set_cons_zero, List.set_cons_succ]
        refine rest_take (i := 13) rfl (by kernel_rfl) (by kernel_rfl) (by kernel_rfl) (by rfl) (fun w' hg => by go_simp; try with_reducible rfl) ?_
        try simp only [Act.put, List.setIfInBounds_toArray, List.set_cons_zero, List.set_cons_succ]
        refine rest_done (by kernel_rfl) ?_
        go_wp2
        go_ret
        exact ⟨rfl, Hb.out⟩
      · skip
        go_simp
        refine hK.out _ _ (alloc_below W1 (.cells #[.slice A2 n2 c2] 24)) ?_
        clear hK K
        have L2 := Lib.hid (rdL_one S2.out Hn2.out hc2 (0, 0))
        have Hal := Lib.hid (show Grown W1 (W1.alloc (.cells #[.slice A2 n2 c2] 24)) from alloc_below W1 (.cells #[.slice A2 n2 c2] 24))
        generalize W1.alloc (.cells #[.slice A2 n2 c2] 24) = W2 at Hal L2 ⊢
        try replace L1 := Lib.hid ((L1.out.keep Hal.out).more (Below.size Hal.out))
        replace S1 := Lib.hid (S1.out.grow Hal.out)
        replace S2 := Lib.hid (S2.out.grow Hal.out)
        replace Hb := Lib.hid (Grown.trans Hb.out Hal.out)
        clear Hal
        try simp only [Act.put, List.setIfInBounds_toArray, List.set_cons_zero, List.set_cons_succ]
        refine rest_lone (i := 2) rfl (by kernel_rfl) (by rfl) (fun K hK => ?_)
        go_simp
        refine (encode_piece L1.out (by have := Hn1.out; omega)).mono ?_
        rintro e v1 ⟨rfl, hv⟩
        refine hK.out _ _ hv ?_
        clear hK K
        have Hv := Lib.hid hv
        clear hv
        try replace L2 := Lib.hid ((L2.out.keep Hv.out).more (Below.size Hv.out))
        replace S1 := Lib.hid (S1.out.grow Hv.out)
        replace S2 := Lib.hid (S2.out.grow Hv.out)
        replace Hb := Lib.hid (Grown.trans Hb.out Hv.out)
        clear Hv L1
        try simp only [Act.put, List.setIfInBounds_toArray, List.set_cons_zero, List.set_cons_succ]
        refine rest_lone (i := 5) rfl (by kernel_rfl) (by rfl) (fun K hK => ?_)
        go_simp
        refine (encode_piece L2.out (by have := Hn2.out; omega)).mono ?_
        rintro e v2 ⟨rfl, hv⟩
        refine hK.out _ _ hv ?_
        clear hK K
        have Hv := Lib.hid hv
        clear hv
        try replace L1 := Lib.hid ((L1.out.keep Hv.out).more (Below.size Hv.out))
        replace S1 := Lib.hid (S1.out.grow Hv.out)
        replace S2 := Lib.hid (S2.out.grow Hv.out)
        replace Hb := Lib.hid (Grown.trans Hb.out Hv.out)
        clear Hv L2
        try simp only [Act.put, List.setIfInBounds_toArray, List.set_cons_zero, List.set_cons_succ]
        refine rest_take (i := 6) rfl (by kernel_rfl) (by kernel_rfl) (by kernel_rfl) (by rfl) (fun w' hg => by have hxx := encL_beq a b; go_simp; try with_reducible rfl) ?_
        try simp only [Act.put, List.setIfInBounds_toArray, List.set_cons_zero, List.set_cons_succ]
        refine rest_take (i := 12) rfl (by kernel_rfl) (by kernel_rfl) (by kernel_rfl) (by rfl) (fun w' hg => by have hxx := encL_beq a b; go_simp; try with_reducible rfl) ?_
        try simp only [Act.put, List.setIfInBounds_toArray, List.set_cons_zero, List.set_cons_succ]
        refine rest_take (i := 13) rfl (by kernel_rfl) (by kernel_rfl) (by kernel_rfl) (by rfl) (fun w' hg => by go_simp; try with_reducible rfl) ?_
        try simp only [Act.put, List.setIfInBounds_toArray, List.set_cons_zero, List.set_cons_succ]
        refine rest_done (by kernel_rfl) ?_
        go_wp2
        go_ret
        exact ⟨rfl, Hb.out⟩
    · skip
      go_simp
      refine hK.out _ _ (alloc_below v0 (.cells #[.slice A2 n2 c2] 24)) ?_
      clear hK K
      have L2 := Lib.hid (rdL_one S2.out Hn2.out hc2 (0, 0))
      have Hal := Lib.hid (show Grown v0 (v0.alloc (.cells #[.slice A2 n2 c2] 24)) from alloc_below v0 (.cells #[.slice A2 n2 c2] 24))
      generalize v0.alloc (.cells #[.slice A2 n2 c2] 24) = W2 at Hal L2 ⊢
      try replace L1 := Lib.hid ((L1.out.keep Hal.out).more (Below.size Hal.out))
      replace S1 := Lib.hid (S1.out.grow Hal.out)
      replace S2 := Lib.hid (S2.out.grow Hal.out)
      replace Hb := Lib.hid (Grown.trans Hb.out Hal.out)
      clear Hal
      try simp only [Act.put, List.setIfInBounds_toArray, List.set_cons_zero, List.set_cons_succ]
      refine rest_lone (i := 1) rfl (by kernel_rfl) (by rfl) (fun K hK => ?_)
      go_simp
      refine hK.out _ _ (alloc_below W2 (.cells #[.slice A1 n1 c1] 24)) ?_
      clear hK K
      have L1 := Lib.hid (rdL_one S1.out Hn1.out hc1 (0, 0))
      have Hal := Lib.hid (show Grown W2 (W2.alloc (.cells #[.slice A1 n1 c1] 24)) from alloc_below W2 (.cells #[.slice A1 n1 c1] 24))
      generalize W2.alloc (.cells #[.slice A1 n1 c1] 24) = W1 at Hal L1 ⊢
      try replace L2 := Lib.hid ((L2.out.keep Hal.out).more (Below.size Hal.out))
      replace S1 := Lib.hid (S1.out.grow Hal.out)
      replace S2 := Lib.hid (S2.out.grow Hal.out)
      replace Hb := Lib.hid (Grown.trans Hb.out Hal.out)
      clear Hal
      try simp only [Act.put, List.setIfInBounds_toArray, List.set_cons_zero, List.set_cons_succ]
      refine rest_lone (i := 2) rfl (by kernel_rfl) (by rfl) (fun K hK => ?_)
      go_simp
      refine (encode_piece L1.out (by have := Hn1.out; omega)).mono ?_
      rintro e v1 ⟨rfl, hv⟩
      refine hK.out _ _ hv ?_
      clear hK K
      have Hv := Lib.hid hv
      clear hv
      try replace L2 := Lib.hid ((L2.out.keep Hv.out).more (Below.size Hv.out))
      replace S1 := Lib.hid (S1.out.grow Hv.out)
      replace S2 := Lib.hid (S2.out.grow Hv.out)
      replace Hb := Lib.hid (Grown.trans Hb.out Hv.out)
      clear Hv L1
      try simp only [Act.put, List.setIfInBounds_toArray, List.set_cons_zero, List.set_cons_succ]
      refine rest_lone (i := 5) rfl (by kernel_rfl) (by rfl) (fun K hK => ?_)
      go_simp
      refine (encode_piece L2.out (by have := Hn2.out; omega)).mono ?_
      rintro e v2 ⟨rfl, hv⟩
      refine hK.out _ _ hv ?_
      clear hK K
      have Hv := Lib.hid hv
      clear hv
      try replace L1 := Lib.hid ((L1.out.keep Hv.out).more (Below.size Hv.out))
      replace S1 := Lib.hid (S1.out.grow Hv.out)
      replace S2 := Lib.hid (S2.out.grow Hv.out)
      replace Hb := Lib.hid (Grown.trans Hb.out Hv.out)
      clear Hv L2
      try simp only [Act.put, List.setIfInBounds_toArray, List.set_cons_zero, List.set_cons_succ]
      refine rest_take (i := 6) rfl (by kernel_rfl) (by kernel_rfl) (by kernel_rfl) (by rfl) (fun w' hg => by have hxx := encL_beq a b; go_simp; try with_reducible rfl) ?_
      try simp only [Act.put, List.setIfInBounds_toArray, List.set_cons_zero, List.set_cons_succ]
      refine rest_take (i := 12) rfl (by kernel_rfl) (by kernel_rfl) (by kernel_rfl) (by rfl) (fun w' hg => by have hxx := encL_beq a b; go_simp; try with_reducible rfl) ?_
      try simp only [Act.put, List.setIfInBounds_toArray, List.set_cons_zero, List.set_cons_succ]
      refine rest_take (i := 13) rfl (by kernel_rfl) (by kernel_rfl) (by kernel_rfl) (by rfl) (fun w' hg => by go_simp; try with_reducible rfl) ?_
      try simp only [Act.put, List.setIfInBounds_toArray, List.set_cons_zero, List.set_cons_succ]
      refine rest_done (by kernel_rfl) ?_
      go_wp2
      go_ret
      exact ⟨rfl, Hb.out⟩
  · by_cases hl1 : n1 ≤ 300
    · have hl2 : 300 < n2 := by omega
      go_wp2_with fail
      refine (awake2 _).mono ?_
      rintro e w2 ⟨rfl, hb2⟩
      have Hb2 := Lib.hid hb2
      clear hb2
      go_wp2
      go_ret
      exact ⟨rfl, Grown.trans Hb.out (show Grown w1 w2 from Hb2.out)⟩
    · go_wp2_with fail
      refine (awake2 _).mono ?_
      rintro e w2 ⟨rfl, hb2⟩
      have Hb2 := Lib.hid hb2
      clear hb2
      go_wp2
      go_ret
      exact ⟨rfl, Grown.trans Hb.out (show Grown w1 w2 from Hb2.out)⟩
end Go.Proofs.Ytjpjodjdciamhaa
