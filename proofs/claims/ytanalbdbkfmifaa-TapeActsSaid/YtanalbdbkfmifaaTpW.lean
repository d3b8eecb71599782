/-
  TapeActs out of the program's contracts.
-/
import Derived.Test.YtanalbdbkfmifaaTpB
import Derived.Test.YtanalbdbkfmifaaGrt
namespace Go.Proofs.Ytanalbdbkfmifaa.S11
open Go.RowKit
set_option linter.unusedVariables false
set_option linter.unusedSimpArgs false

set_option maxHeartbeats 8000000 in
set_option maxRecDepth 20000 in
theorem acts_walk {Lz : Tab} (K : TapeOk Lz) (A : Option Addr) (n c : Nat) (seed : List UInt8) (D : Option Addr) (m d : Nat) (acts : List Ac) (w : World) (hA : Rd w w.heap.size A seed) (hn : seed.length = n) (hc : n ≤ c) (hcm : c ≤ maxLen) (hD : RdA w w.heap.size D acts) (hm : acts.length = m) (hd : m ≤ d) :
    Calls Try.prog 3 #[.slice A n c, .slice D m d] w fun e w' => e = .returned (.bool true) ∧ Below w.heap.size w w' := by
  have HA := Lib.hid hA
  have HN := Lib.hid hn
  have HD := Lib.hid hD
  have HM := Lib.hid hm
  clear hA hn hD hm
  by_cases h1 : (n : Int) > 500
  · go_enter Try.func3, Try.ntmps3
    go_wp2_with fail
    refine (awakeT K w).mono ?_
    rintro e w1 ⟨rfl, hg1⟩
    go_wp2_with fail
    refine (awakeT K w1).mono ?_
    rintro e w2 ⟨rfl, hg2⟩
    have HG := Lib.hid (Grown.trans hg1 hg2)
    go_wp2
    go_ret
    exact ⟨rfl, HG.out⟩
  by_cases h2 : (m : Int) > 50
  · go_enter Try.func3, Try.ntmps3
    go_wp2_with fail
    refine (awakeT K w).mono ?_
    rintro e w1 ⟨rfl, hg1⟩
    go_wp2_with fail
    refine (awakeT K w1).mono ?_
    rintro e w2 ⟨rfl, hg2⟩
    have HG := Lib.hid (Grown.trans hg1 hg2)
    go_wp2
    go_ret
    exact ⟨rfl, HG.out⟩
  go_enter Try.func3, Try.ntmps3
  go_wp2_with fail
  refine (awakeT K w).mono ?_
  rintro e w1 ⟨rfl, hg1⟩
  have G1 := Lib.hid hg1
  have A1 := Lib.hid (HA.out.grow hg1)
  have hn5 : n ≤ 500 := by omega
  have hm5 : m ≤ 50 := by omega
  clear hg1
  go_wp2_with (first
    | (at_builtin
       refine wpList_app0 rfl (.tmp 24) (.tmp 25) rfl rfl rfl HN.out (A1.out.grow (alloc_below w1 _)) (by omega) ?_
       intro A2 c2 w2 hr2 hc2 hg2
       have R2 := Lib.hid hr2
       have G2 := Lib.hid (Grown.trans G1.out (Grown.trans (alloc_below w1 _) hg2))
       clear hr2 hg2))
  refine (K.new A2 n c2 seed w2 R2.out HN.out hc2 (by omega)).mono ?_
  rintro e w3 ⟨G, F, rfl, hl, hF, hg⟩
  have Z3 := Lib.hid (show Since Lz w w3 G F (emp seed) from ⟨hl, fun k hk => Nat.le_trans G2.out.size (hF k hk), Grown.trans G2.out hg⟩)
  clear hl hF hg R2 G2 A1 G1
  go_wp2_with fail
  have HT0 := Lib.hid (show Both Lz w (w3.alloc (.cells #[.slice A n c, .slice none 0 0, .slice none 0 0, .bool false, .int .i64 0] 30)) G F w3.heap.size none none (emp seed) by
    have hg4 : Grown w3 (w3.alloc (.cells #[.slice A n c, .slice none 0 0, .slice none 0 0, .bool false, .int .i64 0] 30)) := alloc_below w3 _
    refine ⟨Z3.out.grow K hg4, ⟨Nat.le_refl _, (fun x y hx => by cases hx), A, n, c, 0, 0, heap_alloc_new w3 _, HN.out, hc, ?_, OwnR.nil _ _, OwnR.nil _ _⟩, Z3.out.2.2.size, fun k hk hr => ?_⟩
    · exact HA.out.below (Grown.trans Z3.out.2.2 hg4)
    · have := K.foot w3 G F _ Z3.out.1 k hk
      rcases hr with rfl | ⟨x, hx, _⟩ | ⟨x, hx, _⟩
      · omega
      · cases hx
      · cases hx)
  clear Z3
  generalize w3.alloc _ = w4 at HT0 ⊢
  obtain ⟨R, hR⟩ : ∃ R, R = w3.heap.size := ⟨_, rfl⟩
  rw [← hR] at HT0 ⊢
  clear hR
  go_loopw [7] (fun v7 wr => ∃ (i : Nat) (st : St) (Af Ap : Option Addr) (F : Nat → Prop), v7 = .int .i64 (i : Int) ∧ i ≤ m ∧ Hid (Num st i) ∧ Hid (Both Lz w wr G F R Af Ap st)) (fun v7 _ => m - (intOf v7).toNat)
  case atStart => exact ⟨0, emp seed, none, none, F, rfl, Nat.zero_le _, ⟨Nat.le_refl _, Nat.le_refl _, Nat.le_refl _⟩, HT0.out⟩
  case round =>
    clear HT0
    obtain ⟨i, st, Af, Ap, F, rfl, hi, HNum, HT⟩ := hrel
    by_cases hlt : i < m
    · have bi : (i : Int) < (m : Int) := by omega
      have hil : i < acts.length := by have := HM.out; omega
      obtain ⟨b, off, hDe, hb, hcells⟩ : ∃ b off, D = some ⟨b, off, none⟩ ∧ b < w.heap.size ∧ ∀ i (h : i < acts.length), w.cell? ⟨b, off + i * 4, none⟩ = some (.int .i64 acts[i].k) ∧ w.cell? ⟨b, off + i * 4 + 1, none⟩ = some (.int .i64 acts[i].n) ∧ w.cell? ⟨b, off + i * 4 + 2, none⟩ = some (.string ⟨acts[i].name.toArray⟩) ∧ w.cell? ⟨b, off + i * 4 + 3, none⟩ = some (.string ⟨acts[i].x.toArray⟩) := by
        rcases HD.out with e | h
        · rw [e] at hil; simp at hil
        · exact h
      obtain ⟨k0, k1, k2, k3⟩ := hcells i hil
      obtain ⟨ac, hac⟩ : ∃ ac, ac = acts[i] := ⟨_, rfl⟩
      rw [← hac] at k0 k1 k2 k3
      have hcell : ∀ j, wr.cell? ⟨b, j, none⟩ = w.cell? ⟨b, j, none⟩ := fun j => World.cell?_of_block (HT.out.1.2.2.block b hb)
      rw [← hcell] at k0 k1 k2 k3
      subst hDe
      clear hac hcell hcells
      obtain ⟨ak, an, nm, ax⟩ := ac
      simp only at k0 k1 k2 k3
      by_cases t1 : (nm.length : Int) > 50
      · have HG := Lib.hid (Grown.trans HT.out.1.2.2 (alloc_below wr (.cells #[.int .i64 ak, .int .i64 an, .string ⟨nm.toArray⟩, .string ⟨ax.toArray⟩] 32)))
        go_wp2
        go_ret
        exact ⟨rfl, HG.out⟩
      by_cases t2 : (ax.length : Int) > 50
      · have HG := Lib.hid (Grown.trans HT.out.1.2.2 (alloc_below wr (.cells #[.int .i64 ak, .int .i64 an, .string ⟨nm.toArray⟩, .string ⟨ax.toArray⟩] 32)))
        go_wp2
        go_ret
        exact ⟨rfl, HG.out⟩
      by_cases t3 : an > 100
      · have HG := Lib.hid (Grown.trans HT.out.1.2.2 (alloc_below wr (.cells #[.int .i64 ak, .int .i64 an, .string ⟨nm.toArray⟩, .string ⟨ax.toArray⟩] 32)))
        go_wp2
        go_ret
        exact ⟨rfl, HG.out⟩
      have hn50 : nm.length ≤ 50 := by omega
      have hx50 : ax.length ≤ 50 := by omega
      have ha100 : an ≤ 100 := by omega
      by_cases q0 : ak = 0
      · subst q0
        have H5 := Lib.hid (HT.out.grow K (alloc_below wr (.cells #[.int .i64 0, .int .i64 an, .string ⟨nm.toArray⟩, .string ⟨ax.toArray⟩] 32)))
        have B5 := Lib.hid (show (wr.alloc (.cells #[.int .i64 0, .int .i64 an, .string ⟨nm.toArray⟩, .string ⟨ax.toArray⟩] 32)).heap[wr.heap.size]? = some (.cells #[.int .i64 0, .int .i64 an, .string ⟨nm.toArray⟩, .string ⟨ax.toArray⟩] 32 (0, 0)) from heap_alloc_new wr _)
        have HFG := Lib.hid (show ∀ k, F k → k ≠ wr.heap.size from fun k hk e => by have := K.foot wr G F st HT.out.1.1 k hk; omega)
        have HRG := Lib.hid (show ∀ k, RF R Af Ap k → k ≠ wr.heap.size from fun k hk e => by have := HT.out.2.1.lt k hk; omega)
        clear HT
        go_wp2_with fail
        obtain ⟨ga, hga⟩ : ∃ ga, ga = wr.heap.size := ⟨_, rfl⟩
        rw [← hga] at B5 HFG HRG ⊢
        clear hga k0 k1 k2 k3
        generalize wr.alloc _ = w5 at H5 B5 ⊢
        try simp only [Act.put, List.setIfInBounds_toArray, List.set_cons_zero, List.set_cons_succ]
        refine restS_begin (fun v => v.heap[ga]? = some (.cells #[.int .i64 0, .int .i64 an, .string ⟨nm.toArray⟩, .string ⟨ax.toArray⟩] 32 (0, 0))) (by kernel_rfl) ?_
        have HS := Lib.hid (show ∀ v : World, v.heap[ga]? = some (.cells #[.int .i64 0, .int .i64 an, .string ⟨nm.toArray⟩, .string ⟨ax.toArray⟩] 32 (0, 0)) → v.cell? ⟨ga, 1, none⟩ = some (.int .i64 an) ∧ v.cell? ⟨ga, 2, none⟩ = some (.string ⟨nm.toArray⟩) ∧ v.cell? ⟨ga, 3, none⟩ = some (.string ⟨ax.toArray⟩) from fun v hv => ⟨cell_of_row v ga 1 _ _ (0, 0) hv, cell_of_row v ga 2 _ _ (0, 0) hv, cell_of_row v ga 3 _ _ (0, 0) hv⟩)
        have S6 := Lib.hid (show w5.drew.heap[ga]? = some (.cells #[.int .i64 0, .int .i64 an, .string ⟨nm.toArray⟩, .string ⟨ax.toArray⟩] 32 (0, 0)) from B5.out)
        have H6 := Lib.hid (H5.out.grow K (show Grown w5 w5.drew from (Grown.refl w5).drew))
        clear H5 B5
        generalize w5.drew = w6 at S6 H6 ⊢
        refine restS_take (i := 0) S6.out rfl (by kernel_rfl) (by kernel_rfl) (by kernel_rfl) (by rfl) (fun v hv => by go_simp; try with_reducible rfl) ?_
        try simp only [Act.put, List.setIfInBounds_toArray, List.set_cons_zero, List.set_cons_succ]
        refine restS_take (i := 1) S6.out rfl (by kernel_rfl) (by kernel_rfl) (by kernel_rfl) (by rfl) (fun v hv => by go_simp; try with_reducible rfl) ?_
        try simp only [Act.put, List.setIfInBounds_toArray, List.set_cons_zero, List.set_cons_succ]
        refine restS_take (i := 2) S6.out rfl (by kernel_rfl) (by kernel_rfl) (by kernel_rfl) (by rfl) (fun v hv => by obtain ⟨c1, c2, c3⟩ := HS.out v hv; go_simp; try with_reducible rfl) ?_
        try simp only [Act.put, List.setIfInBounds_toArray, List.set_cons_zero, List.set_cons_succ]
        refine restS_take (i := 3) S6.out rfl (by kernel_rfl) (by kernel_rfl) (by kernel_rfl) (by rfl) (fun v hv => by go_simp; try with_reducible rfl) ?_
        try simp only [Act.put, List.setIfInBounds_toArray, List.set_cons_zero, List.set_cons_succ]
        refine restS_take (i := 4) S6.out rfl (by kernel_rfl) (by kernel_rfl) (by kernel_rfl) (by rfl) (fun v hv => by obtain ⟨c1, c2, c3⟩ := HS.out v hv; go_simp; try with_reducible rfl) ?_
        try simp only [Act.put, List.setIfInBounds_toArray, List.set_cons_zero, List.set_cons_succ]
        refine restS_take (i := 5) S6.out rfl (by kernel_rfl) (by kernel_rfl) (by kernel_rfl) (by rfl) (fun v hv => by go_simp; try with_reducible rfl) ?_
        try simp only [Act.put, List.setIfInBounds_toArray, List.set_cons_zero, List.set_cons_succ]
        refine restS_take (i := 6) S6.out rfl (by kernel_rfl) (by kernel_rfl) (by kernel_rfl) (by rfl) (fun v hv => by obtain ⟨c1, c2, c3⟩ := HS.out v hv; go_simp; try with_reducible rfl) ?_
        try simp only [Act.put, List.setIfInBounds_toArray, List.set_cons_zero, List.set_cons_succ]
        refine restS_take (i := 9) S6.out rfl (by kernel_rfl) (by kernel_rfl) (by kernel_rfl) (by rfl) (fun v hv => by go_simp; try with_reducible rfl) ?_
        try simp only [Act.put, List.setIfInBounds_toArray, List.set_cons_zero, List.set_cons_succ]
        refine restS_take (i := 10) S6.out rfl (by kernel_rfl) (by kernel_rfl) (by kernel_rfl) (by rfl) (fun v hv => by go_simp; try with_reducible rfl) ?_
        try simp only [Act.put, List.setIfInBounds_toArray, List.set_cons_zero, List.set_cons_succ]
        refine restS_take (i := 11) S6.out rfl (by kernel_rfl) (by kernel_rfl) (by kernel_rfl) (by rfl) (fun v hv => by obtain ⟨c1, c2, c3⟩ := HS.out v hv; go_simp; try with_reducible rfl) ?_
        try simp only [Act.put, List.setIfInBounds_toArray, List.set_cons_zero, List.set_cons_succ]
        refine restS_take (i := 12) S6.out rfl (by kernel_rfl) (by kernel_rfl) (by kernel_rfl) (by rfl) (fun v hv => by go_simp; try with_reducible rfl) ?_
        try simp only [Act.put, List.setIfInBounds_toArray, List.set_cons_zero, List.set_cons_succ]
        refine restS_take (i := 13) S6.out rfl (by kernel_rfl) (by kernel_rfl) (by kernel_rfl) (by rfl) (fun v hv => by obtain ⟨c1, c2, c3⟩ := HS.out v hv; go_simp; try with_reducible rfl) ?_
        try simp only [Act.put, List.setIfInBounds_toArray, List.set_cons_zero, List.set_cons_succ]
        refine restS_take (i := 14) S6.out rfl (by kernel_rfl) (by kernel_rfl) (by kernel_rfl) (by rfl) (fun v hv => by go_simp; try with_reducible rfl) ?_
        try simp only [Act.put, List.setIfInBounds_toArray, List.set_cons_zero, List.set_cons_succ]
        refine restS_take (i := 15) S6.out rfl (by kernel_rfl) (by kernel_rfl) (by kernel_rfl) (by rfl) (fun v hv => by obtain ⟨c1, c2, c3⟩ := HS.out v hv; go_simp; try with_reducible rfl) ?_
        try simp only [Act.put, List.setIfInBounds_toArray, List.set_cons_zero, List.set_cons_succ]
        refine restS_lone (i := 7) rfl (by kernel_rfl) (by rfl) (fun K1 hK1 => ?_)
        go_simp
        refine (K.func w6 G F st nm ax an H6.out.1.1 (HNum.out.few (by omega)) (by omega) (by omega) (by omega)).mono ?_
        rintro e w7 ⟨A7, n7, c7, F7, rfl, hl7, hc7, hr7, ha7, hz7, hf7, hch7⟩
        obtain ⟨l7, hl7e⟩ : ∃ l7, l7 = (fnOp st nm ax an).1 := ⟨_, rfl⟩
        obtain ⟨s7, hs7e⟩ : ∃ s7, s7 = (fnOp st nm ax an).2 := ⟨_, rfl⟩
        rw [← hl7e] at hl7 hr7 ha7
        rw [← hs7e] at hz7
        have S7 := Lib.hid (show w7.heap[ga]? = some (.cells #[.int .i64 0, .int .i64 an, .string ⟨nm.toArray⟩, .string ⟨ax.toArray⟩] 32 (0, 0)) from (hch7.block ga (lt_of_heap S6.out) (fun hf => HFG.out ga hf rfl)).trans S6.out)
        have H7 := Lib.hid (H6.out.half hz7 hf7 hch7)
        have HL7 := Lib.hid hl7
        have R7 := Lib.hid hr7
        have A7a := Lib.hid (show ∀ x, A7 = some x → l7 ≠ [] → ¬ RF R Af Ap x.block from fun x hx hne hr => by have h1 := (ha7 x hx hne).1; have h2 := (H6.out.2.1.lt _ hr).2; omega)
        have HLe := Lib.hid hl7e
        have HSe := Lib.hid hs7e
        have HN7 := Lib.hid (show Num s7 (i + 1) by rw [hs7e]; exact num_fn HNum.out nm ax an)
        refine hK1.out _ _ S7.out ?_
        clear hK1 K1 hl7 hc7 hr7 ha7 hz7 hf7 hch7 hl7e hs7e H6 S6
        try simp only [Act.put, List.setIfInBounds_toArray, List.set_cons_zero, List.set_cons_succ]
        refine restS_two (i := 8) (j := 16) rfl rfl (by kernel_rfl) (by rfl) (by rfl) (fun K1 hK1 => ?_) (fun K1 hK1 => ?_)
        all_goals (first
          | (have hcv := conv R7.out c7
             rw [HL7.out] at hcv
             go_simp
             refine hK1.out _ _ S7.out ?_
             clear hK1 K1 hcv R7 A7a
             try simp only [Act.put, List.setIfInBounds_toArray, List.set_cons_zero, List.set_cons_succ]
             refine restS_lone (i := 16) rfl (by kernel_rfl) (by rfl) (fun K1 hK1 => ?_)
             go_simp
             refine (refFn_any w.heap.size R R Af Ap st nm ax an w7 H7.out.2.2.1 (by have := H7.out.2.1.lt R (.inl rfl); omega) (by omega) (by have := HNum.out.1; omega) (by have := HNum.out.2.2; omega) H7.out.2.1).mono ?_
             rintro e w8 ⟨rfl, Af8, hz8, hch8, hmf8⟩
             rw [← HSe.out] at hz8
             rw [← HLe.out]
             have hmp8 : Moved w7 Ap Ap := .inl rfl
             have S8 := Lib.hid (show w8.heap[ga]? = some (.cells #[.int .i64 0, .int .i64 an, .string ⟨nm.toArray⟩, .string ⟨ax.toArray⟩] 32 (0, 0)) from (hch8.block ga (lt_of_heap S7.out) (fun hf => HRG.out ga hf rfl)).trans S7.out)
             have H8 := Lib.hid (H7.out.both K hz8 hch8 hmf8 hmp8)
             refine hK1.out _ _ S8.out ?_
             clear hK1 K1 hz8 hch8 hmf8 hmp8 H7 S7
             try simp only [Act.put, List.setIfInBounds_toArray, List.set_cons_zero, List.set_cons_succ])
          | (go_simp
             refine (refFn_any w.heap.size R R Af Ap st nm ax an w7 H7.out.2.2.1 (by have := H7.out.2.1.lt R (.inl rfl); omega) (by omega) (by have := HNum.out.1; omega) (by have := HNum.out.2.2; omega) H7.out.2.1).mono ?_
             rintro e w8 ⟨rfl, Af8, hz8, hch8, hmf8⟩
             rw [← HSe.out] at hz8
             rw [← HLe.out]
             have hmp8 : Moved w7 Ap Ap := .inl rfl
             have S8 := Lib.hid (show w8.heap[ga]? = some (.cells #[.int .i64 0, .int .i64 an, .string ⟨nm.toArray⟩, .string ⟨ax.toArray⟩] 32 (0, 0)) from (hch8.block ga (lt_of_heap S7.out) (fun hf => HRG.out ga hf rfl)).trans S7.out)
             have H8 := Lib.hid (H7.out.both K hz8 hch8 hmf8 hmp8)
             have R8 := Lib.hid (show Rd w8 w8.heap.size A7 l7 by
               rcases R7.out with e | ⟨b7, o7, e, hb7, hc7⟩
               · exact .inl e
               · by_cases hne : l7 = []
                 · exact .inl hne
                 · have hnr := A7a.out _ e hne
                   exact .inr ⟨b7, o7, e, Nat.lt_of_lt_of_le hb7 hch8.size, fun j hj => (World.cell?_of_block (hch8.block b7 hb7 hnr)).trans (hc7 j hj)⟩)
             refine hK1.out _ _ S8.out ?_
             clear hK1 K1 hz8 hch8 hmf8 hmp8 H7 S7 R7 A7a
             try simp only [Act.put, List.setIfInBounds_toArray, List.set_cons_zero, List.set_cons_succ]
             refine restS_lone (i := 8) rfl (by kernel_rfl) (by rfl) (fun K1 hK1 => ?_)
             have hcv := conv R8.out c7
             rw [HL7.out] at hcv
             go_simp
             refine hK1.out _ _ S8.out ?_
             clear hK1 K1 hcv R8
             try simp only [Act.put, List.setIfInBounds_toArray, List.set_cons_zero, List.set_cons_succ]))
        all_goals
          refine restS_take (i := 17) S8.out rfl (by kernel_rfl) (by kernel_rfl) (by kernel_rfl) (by rfl) (fun v hv => by go_simp; try with_reducible rfl) ?_
          try simp only [Act.put, List.setIfInBounds_toArray, List.set_cons_zero, List.set_cons_succ]
          refine restS_take (i := 18) S8.out rfl (by kernel_rfl) (by kernel_rfl) (by kernel_rfl) (by rfl) (fun v hv => by go_simp; try with_reducible rfl) ?_
          try simp only [Act.put, List.setIfInBounds_toArray, List.set_cons_zero, List.set_cons_succ]
          refine restS_done (by kernel_rfl) ?_
          clear S8 HS HFG HRG
          go_wp2_with fail
          try simp only [Act.put, List.setIfInBounds_toArray, List.set_cons_zero, List.set_cons_succ]
          obtain ⟨_, _, A9, n9, c9, cf9, cp9, hR9, _⟩ := H8.out.2.1
          obtain ⟨bd, hbd⟩ : ∃ bd, bd = s7.bad := ⟨_, rfl⟩
          obtain ⟨kc, hkc⟩ : ∃ kc, kc = s7.cnt := ⟨_, rfl⟩
          rw [← hbd, ← hkc] at hR9
          have HBd := Lib.hid hbd
          have HKc := Lib.hid hkc
          refine restS_begin (fun v => v.cell? ⟨R, 3, none⟩ = some (.bool bd) ∧ v.cell? ⟨R, 4, none⟩ = some (.int .i64 (kc : Int))) (by kernel_rfl) ?_
          have Sw9 := Lib.hid (show w8.drew.cell? ⟨R, 3, none⟩ = some (.bool bd) ∧ w8.drew.cell? ⟨R, 4, none⟩ = some (.int .i64 (kc : Int)) from ⟨cell_of_row w8.drew R 3 _ _ (0, 0) hR9, cell_of_row w8.drew R 4 _ _ (0, 0) hR9⟩)
          have HRw9 := Lib.hid (show R < w8.drew.heap.size from lt_of_heap (w := w8.drew) hR9)
          have Hw9 := Lib.hid (H8.out.grow K (show Grown w8 w8.drew from (Grown.refl w8).drew))
          clear H8 hR9 hbd hkc
          generalize w8.drew = w9 at Sw9 Hw9 HRw9 ⊢
          refine restS_take (i := 0) Sw9.out rfl (by kernel_rfl) (by kernel_rfl) (by kernel_rfl) (by rfl) (fun v hv => by have hv1 := hv.1; have hv2 := hv.2; go_simp; try with_reducible rfl) ?_
          try simp only [Act.put, List.setIfInBounds_toArray, List.set_cons_zero, List.set_cons_succ]
          refine restS_take (i := 1) Sw9.out rfl (by kernel_rfl) (by kernel_rfl) (by kernel_rfl) (by rfl) (fun v hv => by have hv1 := hv.1; have hv2 := hv.2; go_simp; try with_reducible rfl) ?_
          try simp only [Act.put, List.setIfInBounds_toArray, List.set_cons_zero, List.set_cons_succ]
          refine restS_take (i := 2) Sw9.out rfl (by kernel_rfl) (by kernel_rfl) (by kernel_rfl) (by rfl) (fun v hv => by have hv1 := hv.1; have hv2 := hv.2; go_simp; try with_reducible rfl) ?_
          try simp only [Act.put, List.setIfInBounds_toArray, List.set_cons_zero, List.set_cons_succ]
          refine restS_take (i := 3) Sw9.out rfl (by kernel_rfl) (by kernel_rfl) (by kernel_rfl) (by rfl) (fun v hv => by have hv1 := hv.1; have hv2 := hv.2; go_simp; try with_reducible rfl) ?_
          try simp only [Act.put, List.setIfInBounds_toArray, List.set_cons_zero, List.set_cons_succ]
          refine restS_take (i := 4) Sw9.out rfl (by kernel_rfl) (by kernel_rfl) (by kernel_rfl) (by rfl) (fun v hv => by have hv1 := hv.1; have hv2 := hv.2; go_simp; try with_reducible rfl) ?_
          try simp only [Act.put, List.setIfInBounds_toArray, List.set_cons_zero, List.set_cons_succ]
          refine restS_take (i := 6) Sw9.out rfl (by kernel_rfl) (by kernel_rfl) (by kernel_rfl) (by rfl) (fun v hv => by have hv1 := hv.1; have hv2 := hv.2; go_simp; try with_reducible rfl) ?_
          try simp only [Act.put, List.setIfInBounds_toArray, List.set_cons_zero, List.set_cons_succ]
          refine restS_take (i := 7) Sw9.out rfl (by kernel_rfl) (by kernel_rfl) (by kernel_rfl) (by rfl) (fun v hv => by have hv1 := hv.1; have hv2 := hv.2; go_simp; try with_reducible rfl) ?_
          try simp only [Act.put, List.setIfInBounds_toArray, List.set_cons_zero, List.set_cons_succ]
          refine restS_take (i := 8) Sw9.out rfl (by kernel_rfl) (by kernel_rfl) (by kernel_rfl) (by rfl) (fun v hv => by have hv1 := hv.1; have hv2 := hv.2; go_simp; try with_reducible rfl) ?_
          try simp only [Act.put, List.setIfInBounds_toArray, List.set_cons_zero, List.set_cons_succ]
          refine restS_take (i := 9) Sw9.out rfl (by kernel_rfl) (by kernel_rfl) (by kernel_rfl) (by rfl) (fun v hv => by have hv1 := hv.1; have hv2 := hv.2; go_simp; try with_reducible rfl) ?_
          try simp only [Act.put, List.setIfInBounds_toArray, List.set_cons_zero, List.set_cons_succ]
          refine restS_lone (i := 5) rfl (by kernel_rfl) (by rfl) (fun K1 hK1 => ?_)
          go_simp
          refine (K.bad w9 G F7 s7 Hw9.out.1.1).mono ?_
          rintro e w10 ⟨rfl, hg⟩
          rw [← HBd.out]
          have Sw10 := Lib.hid (show w10.cell? ⟨R, 3, none⟩ = some (.bool bd) ∧ w10.cell? ⟨R, 4, none⟩ = some (.int .i64 (kc : Int)) from ⟨(hg.cell (p := ⟨R, 3, none⟩) HRw9.out).trans Sw9.out.1, (hg.cell (p := ⟨R, 4, none⟩) HRw9.out).trans Sw9.out.2⟩)
          have HRw10 := Lib.hid (Nat.lt_of_lt_of_le HRw9.out hg.size)
          have Hw10 := Lib.hid (Hw9.out.grow K hg)
          refine hK1.out _ _ Sw10.out ?_
          clear hK1 K1 hg Hw9 Sw9
          try simp only [Act.put, List.setIfInBounds_toArray, List.set_cons_zero, List.set_cons_succ]
          refine restS_take (i := 10) Sw10.out rfl (by kernel_rfl) (by kernel_rfl) (by kernel_rfl) (by rfl) (fun v hv => by have hv1 := hv.1; have hv2 := hv.2; go_simp; try with_reducible rfl) ?_
          try simp only [Act.put, List.setIfInBounds_toArray, List.set_cons_zero, List.set_cons_succ]
          refine restS_take (i := 11) Sw10.out rfl (by kernel_rfl) (by kernel_rfl) (by kernel_rfl) (by rfl) (fun v hv => by have hv1 := hv.1; have hv2 := hv.2; go_simp; try with_reducible rfl) ?_
          try simp only [Act.put, List.setIfInBounds_toArray, List.set_cons_zero, List.set_cons_succ]
          refine restS_take (i := 12) Sw10.out rfl (by kernel_rfl) (by kernel_rfl) (by kernel_rfl) (by rfl) (fun v hv => by have hv1 := hv.1; have hv2 := hv.2; go_simp; try with_reducible rfl) ?_
          try simp only [Act.put, List.setIfInBounds_toArray, List.set_cons_zero, List.set_cons_succ]
          refine restS_take (i := 13) Sw10.out rfl (by kernel_rfl) (by kernel_rfl) (by kernel_rfl) (by rfl) (fun v hv => by have hv1 := hv.1; have hv2 := hv.2; go_simp; try with_reducible rfl) ?_
          try simp only [Act.put, List.setIfInBounds_toArray, List.set_cons_zero, List.set_cons_succ]
          refine restS_take (i := 15) Sw10.out rfl (by kernel_rfl) (by kernel_rfl) (by kernel_rfl) (by rfl) (fun v hv => by have hv1 := hv.1; have hv2 := hv.2; go_simp; try with_reducible rfl) ?_
          try simp only [Act.put, List.setIfInBounds_toArray, List.set_cons_zero, List.set_cons_succ]
          refine restS_take (i := 16) Sw10.out rfl (by kernel_rfl) (by kernel_rfl) (by kernel_rfl) (by rfl) (fun v hv => by have hv1 := hv.1; have hv2 := hv.2; go_simp; try with_reducible rfl) ?_
          try simp only [Act.put, List.setIfInBounds_toArray, List.set_cons_zero, List.set_cons_succ]
          refine restS_take (i := 17) Sw10.out rfl (by kernel_rfl) (by kernel_rfl) (by kernel_rfl) (by rfl) (fun v hv => by have hv1 := hv.1; have hv2 := hv.2; go_simp; try with_reducible rfl) ?_
          try simp only [Act.put, List.setIfInBounds_toArray, List.set_cons_zero, List.set_cons_succ]
          refine restS_take (i := 18) Sw10.out rfl (by kernel_rfl) (by kernel_rfl) (by kernel_rfl) (by rfl) (fun v hv => by have hv1 := hv.1; have hv2 := hv.2; go_simp; try with_reducible rfl) ?_
          try simp only [Act.put, List.setIfInBounds_toArray, List.set_cons_zero, List.set_cons_succ]
          refine restS_lone (i := 14) rfl (by kernel_rfl) (by rfl) (fun K1 hK1 => ?_)
          go_simp
          refine (K.count w10 G F7 s7 Hw10.out.1.1).mono ?_
          rintro e w11 ⟨rfl, hg⟩
          rw [← HKc.out]
          have Sw11 := Lib.hid (show w11.cell? ⟨R, 3, none⟩ = some (.bool bd) ∧ w11.cell? ⟨R, 4, none⟩ = some (.int .i64 (kc : Int)) from ⟨(hg.cell (p := ⟨R, 3, none⟩) HRw10.out).trans Sw10.out.1, (hg.cell (p := ⟨R, 4, none⟩) HRw10.out).trans Sw10.out.2⟩)
          have HRw11 := Lib.hid (Nat.lt_of_lt_of_le HRw10.out hg.size)
          have Hw11 := Lib.hid (Hw10.out.grow K hg)
          refine hK1.out _ _ Sw11.out ?_
          clear hK1 K1 hg Hw10 Sw10
          try simp only [Act.put, List.setIfInBounds_toArray, List.set_cons_zero, List.set_cons_succ]
          refine restS_take (i := 19) Sw11.out rfl (by kernel_rfl) (by kernel_rfl) (by kernel_rfl) (by rfl) (fun v hv => by have hv1 := hv.1; have hv2 := hv.2; go_simp; try with_reducible rfl) ?_
          try simp only [Act.put, List.setIfInBounds_toArray, List.set_cons_zero, List.set_cons_succ]
          refine restS_take (i := 20) Sw11.out rfl (by kernel_rfl) (by kernel_rfl) (by kernel_rfl) (by rfl) (fun v hv => by have hv1 := hv.1; have hv2 := hv.2; go_simp; try with_reducible rfl) ?_
          try simp only [Act.put, List.setIfInBounds_toArray, List.set_cons_zero, List.set_cons_succ]
          refine restS_done (by kernel_rfl) ?_
          go_wp2
          go_roundw
          case rel => exact ⟨i + 1, s7, Af8, Ap, F7, by go_num, by omega, HN7.out, Hw11.out⟩
          case measure => simp [intOf]; omega
      by_cases q1 : ak = 1
      · subst q1
        have H5 := Lib.hid (HT.out.grow K (alloc_below wr (.cells #[.int .i64 1, .int .i64 an, .string ⟨nm.toArray⟩, .string ⟨ax.toArray⟩] 32)))
        have B5 := Lib.hid (show (wr.alloc (.cells #[.int .i64 1, .int .i64 an, .string ⟨nm.toArray⟩, .string ⟨ax.toArray⟩] 32)).heap[wr.heap.size]? = some (.cells #[.int .i64 1, .int .i64 an, .string ⟨nm.toArray⟩, .string ⟨ax.toArray⟩] 32 (0, 0)) from heap_alloc_new wr _)
        have HFG := Lib.hid (show ∀ k, F k → k ≠ wr.heap.size from fun k hk e => by have := K.foot wr G F st HT.out.1.1 k hk; omega)
        have HRG := Lib.hid (show ∀ k, RF R Af Ap k → k ≠ wr.heap.size from fun k hk e => by have := HT.out.2.1.lt k hk; omega)
        clear HT
        go_wp2_with fail
        obtain ⟨ga, hga⟩ : ∃ ga, ga = wr.heap.size := ⟨_, rfl⟩
        rw [← hga] at B5 HFG HRG ⊢
        clear hga k0 k1 k2 k3
        generalize wr.alloc _ = w5 at H5 B5 ⊢
        try simp only [Act.put, List.setIfInBounds_toArray, List.set_cons_zero, List.set_cons_succ]
        refine restS_begin (fun v => v.heap[ga]? = some (.cells #[.int .i64 1, .int .i64 an, .string ⟨nm.toArray⟩, .string ⟨ax.toArray⟩] 32 (0, 0))) (by kernel_rfl) ?_
        have HS := Lib.hid (show ∀ v : World, v.heap[ga]? = some (.cells #[.int .i64 1, .int .i64 an, .string ⟨nm.toArray⟩, .string ⟨ax.toArray⟩] 32 (0, 0)) → v.cell? ⟨ga, 1, none⟩ = some (.int .i64 an) ∧ v.cell? ⟨ga, 2, none⟩ = some (.string ⟨nm.toArray⟩) ∧ v.cell? ⟨ga, 3, none⟩ = some (.string ⟨ax.toArray⟩) from fun v hv => ⟨cell_of_row v ga 1 _ _ (0, 0) hv, cell_of_row v ga 2 _ _ (0, 0) hv, cell_of_row v ga 3 _ _ (0, 0) hv⟩)
        have S6 := Lib.hid (show w5.drew.heap[ga]? = some (.cells #[.int .i64 1, .int .i64 an, .string ⟨nm.toArray⟩, .string ⟨ax.toArray⟩] 32 (0, 0)) from B5.out)
        have H6 := Lib.hid (H5.out.grow K (show Grown w5 w5.drew from (Grown.refl w5).drew))
        clear H5 B5
        generalize w5.drew = w6 at S6 H6 ⊢
        refine restS_take (i := 0) S6.out rfl (by kernel_rfl) (by kernel_rfl) (by kernel_rfl) (by rfl) (fun v hv => by go_simp; try with_reducible rfl) ?_
        try simp only [Act.put, List.setIfInBounds_toArray, List.set_cons_zero, List.set_cons_succ]
        refine restS_take (i := 1) S6.out rfl (by kernel_rfl) (by kernel_rfl) (by kernel_rfl) (by rfl) (fun v hv => by go_simp; try with_reducible rfl) ?_
        try simp only [Act.put, List.setIfInBounds_toArray, List.set_cons_zero, List.set_cons_succ]
        refine restS_take (i := 2) S6.out rfl (by kernel_rfl) (by kernel_rfl) (by kernel_rfl) (by rfl) (fun v hv => by obtain ⟨c1, c2, c3⟩ := HS.out v hv; go_simp; try with_reducible rfl) ?_
        try simp only [Act.put, List.setIfInBounds_toArray, List.set_cons_zero, List.set_cons_succ]
        refine restS_take (i := 3) S6.out rfl (by kernel_rfl) (by kernel_rfl) (by kernel_rfl) (by rfl) (fun v hv => by go_simp; try with_reducible rfl) ?_
        try simp only [Act.put, List.setIfInBounds_toArray, List.set_cons_zero, List.set_cons_succ]
        refine restS_take (i := 4) S6.out rfl (by kernel_rfl) (by kernel_rfl) (by kernel_rfl) (by rfl) (fun v hv => by obtain ⟨c1, c2, c3⟩ := HS.out v hv; go_simp; try with_reducible rfl) ?_
        try simp only [Act.put, List.setIfInBounds_toArray, List.set_cons_zero, List.set_cons_succ]
        refine restS_take (i := 8) S6.out rfl (by kernel_rfl) (by kernel_rfl) (by kernel_rfl) (by rfl) (fun v hv => by go_simp; try with_reducible rfl) ?_
        try simp only [Act.put, List.setIfInBounds_toArray, List.set_cons_zero, List.set_cons_succ]
        refine restS_take (i := 9) S6.out rfl (by kernel_rfl) (by kernel_rfl) (by kernel_rfl) (by rfl) (fun v hv => by go_simp; try with_reducible rfl) ?_
        try simp only [Act.put, List.setIfInBounds_toArray, List.set_cons_zero, List.set_cons_succ]
        refine restS_take (i := 10) S6.out rfl (by kernel_rfl) (by kernel_rfl) (by kernel_rfl) (by rfl) (fun v hv => by obtain ⟨c1, c2, c3⟩ := HS.out v hv; go_simp; try with_reducible rfl) ?_
        try simp only [Act.put, List.setIfInBounds_toArray, List.set_cons_zero, List.set_cons_succ]
        refine restS_take (i := 11) S6.out rfl (by kernel_rfl) (by kernel_rfl) (by kernel_rfl) (by rfl) (fun v hv => by go_simp; try with_reducible rfl) ?_
        try simp only [Act.put, List.setIfInBounds_toArray, List.set_cons_zero, List.set_cons_succ]
        refine restS_take (i := 12) S6.out rfl (by kernel_rfl) (by kernel_rfl) (by kernel_rfl) (by rfl) (fun v hv => by obtain ⟨c1, c2, c3⟩ := HS.out v hv; go_simp; try with_reducible rfl) ?_
        try simp only [Act.put, List.setIfInBounds_toArray, List.set_cons_zero, List.set_cons_succ]
        refine restS_lone (i := 5) rfl (by kernel_rfl) (by rfl) (fun K1 hK1 => ?_)
        obtain ⟨cb, wb, hcvb, hcb, hbq, hgb⟩ := conv_bq w6 ax
        obtain ⟨xl, hxl⟩ : ∃ xl, xl = ax.length := ⟨_, rfl⟩
        rw [← hxl] at hcvb hcb
        have HXL := Lib.hid hxl
        have hxl50 : xl ≤ 50 := by omega
        clear hxl
        go_simp
        obtain ⟨gb, hgb2⟩ : ∃ gb, gb = w6.heap.size := ⟨_, rfl⟩
        have HFB := Lib.hid (show ∀ k, F k → k ≠ gb from fun k hk e => by have := K.foot w6 G F st H6.out.1.1 k hk; omega)
        have Hb := Lib.hid (H6.out.grow K hgb)
        have Sb := Lib.hid (show wb.heap[ga]? = some (.cells #[.int .i64 1, .int .i64 an, .string ⟨nm.toArray⟩, .string ⟨ax.toArray⟩] 32 (0, 0)) from (hgb.block ga (lt_of_heap S6.out)).trans S6.out)
        rw [← hgb2] at hbq ⊢
        have Rb := Lib.hid hbq.rd
        refine hK1.out _ _ Sb.out ?_
        clear hK1 K1 hcvb hbq hgb hgb2 H6 S6
        try simp only [Act.put, List.setIfInBounds_toArray, List.set_cons_zero, List.set_cons_succ]
        refine restS_lone (i := 6) rfl (by kernel_rfl) (by rfl) (fun K1 hK1 => ?_)
        go_simp
        refine (K.forw wb G F st nm (some ⟨gb, 0, none⟩) xl cb ax Hb.out.1.1 (HNum.out.few (by omega)) (by omega) (by omega) HXL.out.symm hcb Rb.out (fun x hx _ hf => by simp only [Option.some.injEq] at hx; subst hx; exact HFB.out _ hf rfl)).mono ?_
        rintro e w7 ⟨A7, n7, c7, F7, rfl, hl7, hc7, hr7, ha7, hz7, hf7, hch7⟩
        obtain ⟨l7, hl7e⟩ : ∃ l7, l7 = (prOp st nm ax true).1 := ⟨_, rfl⟩
        obtain ⟨s7, hs7e⟩ : ∃ s7, s7 = (prOp st nm ax true).2 := ⟨_, rfl⟩
        rw [← hl7e] at hl7 hr7 ha7
        rw [← hs7e] at hz7
        have S7 := Lib.hid (show w7.heap[ga]? = some (.cells #[.int .i64 1, .int .i64 an, .string ⟨nm.toArray⟩, .string ⟨ax.toArray⟩] 32 (0, 0)) from (hch7.block ga (lt_of_heap Sb.out) (fun hf => HFG.out ga hf rfl)).trans Sb.out)
        have H7 := Lib.hid (Hb.out.half hz7 hf7 hch7)
        have HL7 := Lib.hid hl7
        have R7 := Lib.hid hr7
        have A7a := Lib.hid (show ∀ x, A7 = some x → l7 ≠ [] → ¬ RF R Af Ap x.block from fun x hx hne hr => by have h1 := (ha7 x hx hne).1; have h2 := (Hb.out.2.1.lt _ hr).2; omega)
        have HLe := Lib.hid hl7e
        have HSe := Lib.hid hs7e
        have HN7 := Lib.hid (show Num s7 (i + 1) by rw [hs7e]; exact num_pr HNum.out nm ax true)
        refine hK1.out _ _ S7.out ?_
        clear hK1 K1 hl7 hc7 hr7 ha7 hz7 hf7 hch7 hl7e hs7e Hb Sb
        try simp only [Act.put, List.setIfInBounds_toArray, List.set_cons_zero, List.set_cons_succ]
        refine restS_two (i := 7) (j := 13) rfl rfl (by kernel_rfl) (by rfl) (by rfl) (fun K1 hK1 => ?_) (fun K1 hK1 => ?_)
        all_goals (first
          | (have hcv := conv R7.out c7
             rw [HL7.out] at hcv
             go_simp
             refine hK1.out _ _ S7.out ?_
             clear hK1 K1 hcv R7 A7a
             try simp only [Act.put, List.setIfInBounds_toArray, List.set_cons_zero, List.set_cons_succ]
             refine restS_lone (i := 13) rfl (by kernel_rfl) (by rfl) (fun K1 hK1 => ?_)
             go_simp
             refine (refPair_any w.heap.size R R Af Ap st nm ax true w7 H7.out.2.2.1 (by have := HNum.out.2.1; omega) (by omega) (by have := HNum.out.2.2; omega) H7.out.2.1).mono ?_
             rintro e w8 ⟨rfl, Ap8, hz8, hch8, hmp8⟩
             rw [← HSe.out] at hz8
             rw [← HLe.out]
             have hmf8 : Moved w7 Af Af := .inl rfl
             have S8 := Lib.hid (show w8.heap[ga]? = some (.cells #[.int .i64 1, .int .i64 an, .string ⟨nm.toArray⟩, .string ⟨ax.toArray⟩] 32 (0, 0)) from (hch8.block ga (lt_of_heap S7.out) (fun hf => HRG.out ga hf rfl)).trans S7.out)
             have H8 := Lib.hid (H7.out.both K hz8 hch8 hmf8 hmp8)
             refine hK1.out _ _ S8.out ?_
             clear hK1 K1 hz8 hch8 hmf8 hmp8 H7 S7
             try simp only [Act.put, List.setIfInBounds_toArray, List.set_cons_zero, List.set_cons_succ])
          | (go_simp
             refine (refPair_any w.heap.size R R Af Ap st nm ax true w7 H7.out.2.2.1 (by have := HNum.out.2.1; omega) (by omega) (by have := HNum.out.2.2; omega) H7.out.2.1).mono ?_
             rintro e w8 ⟨rfl, Ap8, hz8, hch8, hmp8⟩
             rw [← HSe.out] at hz8
             rw [← HLe.out]
             have hmf8 : Moved w7 Af Af := .inl rfl
             have S8 := Lib.hid (show w8.heap[ga]? = some (.cells #[.int .i64 1, .int .i64 an, .string ⟨nm.toArray⟩, .string ⟨ax.toArray⟩] 32 (0, 0)) from (hch8.block ga (lt_of_heap S7.out) (fun hf => HRG.out ga hf rfl)).trans S7.out)
             have H8 := Lib.hid (H7.out.both K hz8 hch8 hmf8 hmp8)
             have R8 := Lib.hid (show Rd w8 w8.heap.size A7 l7 by
               rcases R7.out with e | ⟨b7, o7, e, hb7, hc7⟩
               · exact .inl e
               · by_cases hne : l7 = []
                 · exact .inl hne
                 · have hnr := A7a.out _ e hne
                   exact .inr ⟨b7, o7, e, Nat.lt_of_lt_of_le hb7 hch8.size, fun j hj => (World.cell?_of_block (hch8.block b7 hb7 hnr)).trans (hc7 j hj)⟩)
             refine hK1.out _ _ S8.out ?_
             clear hK1 K1 hz8 hch8 hmf8 hmp8 H7 S7 R7 A7a
             try simp only [Act.put, List.setIfInBounds_toArray, List.set_cons_zero, List.set_cons_succ]
             refine restS_lone (i := 7) rfl (by kernel_rfl) (by rfl) (fun K1 hK1 => ?_)
             have hcv := conv R8.out c7
             rw [HL7.out] at hcv
             go_simp
             refine hK1.out _ _ S8.out ?_
             clear hK1 K1 hcv R8
             try simp only [Act.put, List.setIfInBounds_toArray, List.set_cons_zero, List.set_cons_succ]))
        all_goals
          refine restS_take (i := 14) S8.out rfl (by kernel_rfl) (by kernel_rfl) (by kernel_rfl) (by rfl) (fun v hv => by go_simp; try with_reducible rfl) ?_
          try simp only [Act.put, List.setIfInBounds_toArray, List.set_cons_zero, List.set_cons_succ]
          refine restS_take (i := 15) S8.out rfl (by kernel_rfl) (by kernel_rfl) (by kernel_rfl) (by rfl) (fun v hv => by go_simp; try with_reducible rfl) ?_
          try simp only [Act.put, List.setIfInBounds_toArray, List.set_cons_zero, List.set_cons_succ]
          refine restS_done (by kernel_rfl) ?_
          clear S8 HS HFG HRG
          go_wp2_with fail
          try simp only [Act.put, List.setIfInBounds_toArray, List.set_cons_zero, List.set_cons_succ]
          obtain ⟨_, _, A9, n9, c9, cf9, cp9, hR9, _⟩ := H8.out.2.1
          obtain ⟨bd, hbd⟩ : ∃ bd, bd = s7.bad := ⟨_, rfl⟩
          obtain ⟨kc, hkc⟩ : ∃ kc, kc = s7.cnt := ⟨_, rfl⟩
          rw [← hbd, ← hkc] at hR9
          have HBd := Lib.hid hbd
          have HKc := Lib.hid hkc
          refine restS_begin (fun v => v.cell? ⟨R, 3, none⟩ = some (.bool bd) ∧ v.cell? ⟨R, 4, none⟩ = some (.int .i64 (kc : Int))) (by kernel_rfl) ?_
          have Sw9 := Lib.hid (show w8.drew.cell? ⟨R, 3, none⟩ = some (.bool bd) ∧ w8.drew.cell? ⟨R, 4, none⟩ = some (.int .i64 (kc : Int)) from ⟨cell_of_row w8.drew R 3 _ _ (0, 0) hR9, cell_of_row w8.drew R 4 _ _ (0, 0) hR9⟩)
          have HRw9 := Lib.hid (show R < w8.drew.heap.size from lt_of_heap (w := w8.drew) hR9)
          have Hw9 := Lib.hid (H8.out.grow K (show Grown w8 w8.drew from (Grown.refl w8).drew))
          clear H8 hR9 hbd hkc
          generalize w8.drew = w9 at Sw9 Hw9 HRw9 ⊢
          refine restS_take (i := 0) Sw9.out rfl (by kernel_rfl) (by kernel_rfl) (by kernel_rfl) (by rfl) (fun v hv => by have hv1 := hv.1; have hv2 := hv.2; go_simp; try with_reducible rfl) ?_
          try simp only [Act.put, List.setIfInBounds_toArray, List.set_cons_zero, List.set_cons_succ]
          refine restS_take (i := 1) Sw9.out rfl (by kernel_rfl) (by kernel_rfl) (by kernel_rfl) (by rfl) (fun v hv => by have hv1 := hv.1; have hv2 := hv.2; go_simp; try with_reducible rfl) ?_
          try simp only [Act.put, List.setIfInBounds_toArray, List.set_cons_zero, List.set_cons_succ]
          refine restS_take (i := 2) Sw9.out rfl (by kernel_rfl) (by kernel_rfl) (by kernel_rfl) (by rfl) (fun v hv => by have hv1 := hv.1; have hv2 := hv.2; go_simp; try with_reducible rfl) ?_
          try simp only [Act.put, List.setIfInBounds_toArray, List.set_cons_zero, List.set_cons_succ]
          refine restS_take (i := 3) Sw9.out rfl (by kernel_rfl) (by kernel_rfl) (by kernel_rfl) (by rfl) (fun v hv => by have hv1 := hv.1; have hv2 := hv.2; go_simp; try with_reducible rfl) ?_
          try simp only [Act.put, List.setIfInBounds_toArray, List.set_cons_zero, List.set_cons_succ]
          refine restS_take (i := 4) Sw9.out rfl (by kernel_rfl) (by kernel_rfl) (by kernel_rfl) (by rfl) (fun v hv => by have hv1 := hv.1; have hv2 := hv.2; go_simp; try with_reducible rfl) ?_
          try simp only [Act.put, List.setIfInBounds_toArray, List.set_cons_zero, List.set_cons_succ]
          refine restS_take (i := 6) Sw9.out rfl (by kernel_rfl) (by kernel_rfl) (by kernel_rfl) (by rfl) (fun v hv => by have hv1 := hv.1; have hv2 := hv.2; go_simp; try with_reducible rfl) ?_
          try simp only [Act.put, List.setIfInBounds_toArray, List.set_cons_zero, List.set_cons_succ]
          refine restS_take (i := 7) Sw9.out rfl (by kernel_rfl) (by kernel_rfl) (by kernel_rfl) (by rfl) (fun v hv => by have hv1 := hv.1; have hv2 := hv.2; go_simp; try with_reducible rfl) ?_
          try simp only [Act.put, List.setIfInBounds_toArray, List.set_cons_zero, List.set_cons_succ]
          refine restS_take (i := 8) Sw9.out rfl (by kernel_rfl) (by kernel_rfl) (by kernel_rfl) (by rfl) (fun v hv => by have hv1 := hv.1; have hv2 := hv.2; go_simp; try with_reducible rfl) ?_
          try simp only [Act.put, List.setIfInBounds_toArray, List.set_cons_zero, List.set_cons_succ]
          refine restS_take (i := 9) Sw9.out rfl (by kernel_rfl) (by kernel_rfl) (by kernel_rfl) (by rfl) (fun v hv => by have hv1 := hv.1; have hv2 := hv.2; go_simp; try with_reducible rfl) ?_
          try simp only [Act.put, List.setIfInBounds_toArray, List.set_cons_zero, List.set_cons_succ]
          refine restS_lone (i := 5) rfl (by kernel_rfl) (by rfl) (fun K1 hK1 => ?_)
          go_simp
          refine (K.bad w9 G F7 s7 Hw9.out.1.1).mono ?_
          rintro e w10 ⟨rfl, hg⟩
          rw [← HBd.out]
          have Sw10 := Lib.hid (show w10.cell? ⟨R, 3, none⟩ = some (.bool bd) ∧ w10.cell? ⟨R, 4, none⟩ = some (.int .i64 (kc : Int)) from ⟨(hg.cell (p := ⟨R, 3, none⟩) HRw9.out).trans Sw9.out.1, (hg.cell (p := ⟨R, 4, none⟩) HRw9.out).trans Sw9.out.2⟩)
          have HRw10 := Lib.hid (Nat.lt_of_lt_of_le HRw9.out hg.size)
          have Hw10 := Lib.hid (Hw9.out.grow K hg)
          refine hK1.out _ _ Sw10.out ?_
          clear hK1 K1 hg Hw9 Sw9
          try simp only [Act.put, List.setIfInBounds_toArray, List.set_cons_zero, List.set_cons_succ]
          refine restS_take (i := 10) Sw10.out rfl (by kernel_rfl) (by kernel_rfl) (by kernel_rfl) (by rfl) (fun v hv => by have hv1 := hv.1; have hv2 := hv.2; go_simp; try with_reducible rfl) ?_
          try simp only [Act.put, List.setIfInBounds_toArray, List.set_cons_zero, List.set_cons_succ]
          refine restS_take (i := 11) Sw10.out rfl (by kernel_rfl) (by kernel_rfl) (by kernel_rfl) (by rfl) (fun v hv => by have hv1 := hv.1; have hv2 := hv.2; go_simp; try with_reducible rfl) ?_
          try simp only [Act.put, List.setIfInBounds_toArray, List.set_cons_zero, List.set_cons_succ]
          refine restS_take (i := 12) Sw10.out rfl (by kernel_rfl) (by kernel_rfl) (by kernel_rfl) (by rfl) (fun v hv => by have hv1 := hv.1; have hv2 := hv.2; go_simp; try with_reducible rfl) ?_
          try simp only [Act.put, List.setIfInBounds_toArray, List.set_cons_zero, List.set_cons_succ]
          refine restS_take (i := 13) Sw10.out rfl (by kernel_rfl) (by kernel_rfl) (by kernel_rfl) (by rfl) (fun v hv => by have hv1 := hv.1; have hv2 := hv.2; go_simp; try with_reducible rfl) ?_
          try simp only [Act.put, List.setIfInBounds_toArray, List.set_cons_zero, List.set_cons_succ]
          refine restS_take (i := 15) Sw10.out rfl (by kernel_rfl) (by kernel_rfl) (by kernel_rfl) (by rfl) (fun v hv => by have hv1 := hv.1; have hv2 := hv.2; go_simp; try with_reducible rfl) ?_
          try simp only [Act.put, List.setIfInBounds_toArray, List.set_cons_zero, List.set_cons_succ]
          refine restS_take (i := 16) Sw10.out rfl (by kernel_rfl) (by kernel_rfl) (by kernel_rfl) (by rfl) (fun v hv => by have hv1 := hv.1; have hv2 := hv.2; go_simp; try with_reducible rfl) ?_
          try simp only [Act.put, List.setIfInBounds_toArray, List.set_cons_zero, List.set_cons_succ]
          refine restS_take (i := 17) Sw10.out rfl (by kernel_rfl) (by kernel_rfl) (by kernel_rfl) (by rfl) (fun v hv => by have hv1 := hv.1; have hv2 := hv.2; go_simp; try with_reducible rfl) ?_
          try simp only [Act.put, List.setIfInBounds_toArray, List.set_cons_zero, List.set_cons_succ]
          refine restS_take (i := 18) Sw10.out rfl (by kernel_rfl) (by kernel_rfl) (by kernel_rfl) (by rfl) (fun v hv => by have hv1 := hv.1; have hv2 := hv.2; go_simp; try with_reducible rfl) ?_
          try simp only [Act.put, List.setIfInBounds_toArray, List.set_cons_zero, List.set_cons_succ]
          refine restS_lone (i := 14) rfl (by kernel_rfl) (by rfl) (fun K1 hK1 => ?_)
          go_simp
          refine (K.count w10 G F7 s7 Hw10.out.1.1).mono ?_
          rintro e w11 ⟨rfl, hg⟩
          rw [← HKc.out]
          have Sw11 := Lib.hid (show w11.cell? ⟨R, 3, none⟩ = some (.bool bd) ∧ w11.cell? ⟨R, 4, none⟩ = some (.int .i64 (kc : Int)) from ⟨(hg.cell (p := ⟨R, 3, none⟩) HRw10.out).trans Sw10.out.1, (hg.cell (p := ⟨R, 4, none⟩) HRw10.out).trans Sw10.out.2⟩)
          have HRw11 := Lib.hid (Nat.lt_of_lt_of_le HRw10.out hg.size)
          have Hw11 := Lib.hid (Hw10.out.grow K hg)
          refine hK1.out _ _ Sw11.out ?_
          clear hK1 K1 hg Hw10 Sw10
          try simp only [Act.put, List.setIfInBounds_toArray, List.set_cons_zero, List.set_cons_succ]
          refine restS_take (i := 19) Sw11.out rfl (by kernel_rfl) (by kernel_rfl) (by kernel_rfl) (by rfl) (fun v hv => by have hv1 := hv.1; have hv2 := hv.2; go_simp; try with_reducible rfl) ?_
          try simp only [Act.put, List.setIfInBounds_toArray, List.set_cons_zero, List.set_cons_succ]
          refine restS_take (i := 20) Sw11.out rfl (by kernel_rfl) (by kernel_rfl) (by kernel_rfl) (by rfl) (fun v hv => by have hv1 := hv.1; have hv2 := hv.2; go_simp; try with_reducible rfl) ?_
          try simp only [Act.put, List.setIfInBounds_toArray, List.set_cons_zero, List.set_cons_succ]
          refine restS_done (by kernel_rfl) ?_
          go_wp2
          go_roundw
          case rel => exact ⟨i + 1, s7, Af, Ap8, F7, by go_num, by omega, HN7.out, Hw11.out⟩
          case measure => simp [intOf]; omega
      by_cases q2 : ak = 2
      · subst q2
        have H5 := Lib.hid (HT.out.grow K (alloc_below wr (.cells #[.int .i64 2, .int .i64 an, .string ⟨nm.toArray⟩, .string ⟨ax.toArray⟩] 32)))
        have B5 := Lib.hid (show (wr.alloc (.cells #[.int .i64 2, .int .i64 an, .string ⟨nm.toArray⟩, .string ⟨ax.toArray⟩] 32)).heap[wr.heap.size]? = some (.cells #[.int .i64 2, .int .i64 an, .string ⟨nm.toArray⟩, .string ⟨ax.toArray⟩] 32 (0, 0)) from heap_alloc_new wr _)
        have HFG := Lib.hid (show ∀ k, F k → k ≠ wr.heap.size from fun k hk e => by have := K.foot wr G F st HT.out.1.1 k hk; omega)
        have HRG := Lib.hid (show ∀ k, RF R Af Ap k → k ≠ wr.heap.size from fun k hk e => by have := HT.out.2.1.lt k hk; omega)
        clear HT
        go_wp2_with fail
        obtain ⟨ga, hga⟩ : ∃ ga, ga = wr.heap.size := ⟨_, rfl⟩
        rw [← hga] at B5 HFG HRG ⊢
        clear hga k0 k1 k2 k3
        generalize wr.alloc _ = w5 at H5 B5 ⊢
        try simp only [Act.put, List.setIfInBounds_toArray, List.set_cons_zero, List.set_cons_succ]
        refine restS_begin (fun v => v.heap[ga]? = some (.cells #[.int .i64 2, .int .i64 an, .string ⟨nm.toArray⟩, .string ⟨ax.toArray⟩] 32 (0, 0))) (by kernel_rfl) ?_
        have HS := Lib.hid (show ∀ v : World, v.heap[ga]? = some (.cells #[.int .i64 2, .int .i64 an, .string ⟨nm.toArray⟩, .string ⟨ax.toArray⟩] 32 (0, 0)) → v.cell? ⟨ga, 1, none⟩ = some (.int .i64 an) ∧ v.cell? ⟨ga, 2, none⟩ = some (.string ⟨nm.toArray⟩) ∧ v.cell? ⟨ga, 3, none⟩ = some (.string ⟨ax.toArray⟩) from fun v hv => ⟨cell_of_row v ga 1 _ _ (0, 0) hv, cell_of_row v ga 2 _ _ (0, 0) hv, cell_of_row v ga 3 _ _ (0, 0) hv⟩)
        have S6 := Lib.hid (show w5.drew.heap[ga]? = some (.cells #[.int .i64 2, .int .i64 an, .string ⟨nm.toArray⟩, .string ⟨ax.toArray⟩] 32 (0, 0)) from B5.out)
        have H6 := Lib.hid (H5.out.grow K (show Grown w5 w5.drew from (Grown.refl w5).drew))
        clear H5 B5
        generalize w5.drew = w6 at S6 H6 ⊢
        refine restS_take (i := 0) S6.out rfl (by kernel_rfl) (by kernel_rfl) (by kernel_rfl) (by rfl) (fun v hv => by go_simp; try with_reducible rfl) ?_
        try simp only [Act.put, List.setIfInBounds_toArray, List.set_cons_zero, List.set_cons_succ]
        refine restS_take (i := 1) S6.out rfl (by kernel_rfl) (by kernel_rfl) (by kernel_rfl) (by rfl) (fun v hv => by go_simp; try with_reducible rfl) ?_
        try simp only [Act.put, List.setIfInBounds_toArray, List.set_cons_zero, List.set_cons_succ]
        refine restS_take (i := 2) S6.out rfl (by kernel_rfl) (by kernel_rfl) (by kernel_rfl) (by rfl) (fun v hv => by obtain ⟨c1, c2, c3⟩ := HS.out v hv; go_simp; try with_reducible rfl) ?_
        try simp only [Act.put, List.setIfInBounds_toArray, List.set_cons_zero, List.set_cons_succ]
        refine restS_take (i := 3) S6.out rfl (by kernel_rfl) (by kernel_rfl) (by kernel_rfl) (by rfl) (fun v hv => by go_simp; try with_reducible rfl) ?_
        try simp only [Act.put, List.setIfInBounds_toArray, List.set_cons_zero, List.set_cons_succ]
        refine restS_take (i := 4) S6.out rfl (by kernel_rfl) (by kernel_rfl) (by kernel_rfl) (by rfl) (fun v hv => by obtain ⟨c1, c2, c3⟩ := HS.out v hv; go_simp; try with_reducible rfl) ?_
        try simp only [Act.put, List.setIfInBounds_toArray, List.set_cons_zero, List.set_cons_succ]
        refine restS_take (i := 8) S6.out rfl (by kernel_rfl) (by kernel_rfl) (by kernel_rfl) (by rfl) (fun v hv => by go_simp; try with_reducible rfl) ?_
        try simp only [Act.put, List.setIfInBounds_toArray, List.set_cons_zero, List.set_cons_succ]
        refine restS_take (i := 9) S6.out rfl (by kernel_rfl) (by kernel_rfl) (by kernel_rfl) (by rfl) (fun v hv => by go_simp; try with_reducible rfl) ?_
        try simp only [Act.put, List.setIfInBounds_toArray, List.set_cons_zero, List.set_cons_succ]
        refine restS_take (i := 10) S6.out rfl (by kernel_rfl) (by kernel_rfl) (by kernel_rfl) (by rfl) (fun v hv => by obtain ⟨c1, c2, c3⟩ := HS.out v hv; go_simp; try with_reducible rfl) ?_
        try simp only [Act.put, List.setIfInBounds_toArray, List.set_cons_zero, List.set_cons_succ]
        refine restS_take (i := 11) S6.out rfl (by kernel_rfl) (by kernel_rfl) (by kernel_rfl) (by rfl) (fun v hv => by go_simp; try with_reducible rfl) ?_
        try simp only [Act.put, List.setIfInBounds_toArray, List.set_cons_zero, List.set_cons_succ]
        refine restS_take (i := 12) S6.out rfl (by kernel_rfl) (by kernel_rfl) (by kernel_rfl) (by rfl) (fun v hv => by obtain ⟨c1, c2, c3⟩ := HS.out v hv; go_simp; try with_reducible rfl) ?_
        try simp only [Act.put, List.setIfInBounds_toArray, List.set_cons_zero, List.set_cons_succ]
        refine restS_lone (i := 5) rfl (by kernel_rfl) (by rfl) (fun K1 hK1 => ?_)
        obtain ⟨cb, wb, hcvb, hcb, hbq, hgb⟩ := conv_bq w6 ax
        obtain ⟨xl, hxl⟩ : ∃ xl, xl = ax.length := ⟨_, rfl⟩
        rw [← hxl] at hcvb hcb
        have HXL := Lib.hid hxl
        have hxl50 : xl ≤ 50 := by omega
        clear hxl
        go_simp
        obtain ⟨gb, hgb2⟩ : ∃ gb, gb = w6.heap.size := ⟨_, rfl⟩
        have HFB := Lib.hid (show ∀ k, F k → k ≠ gb from fun k hk e => by have := K.foot w6 G F st H6.out.1.1 k hk; omega)
        have Hb := Lib.hid (H6.out.grow K hgb)
        have Sb := Lib.hid (show wb.heap[ga]? = some (.cells #[.int .i64 2, .int .i64 an, .string ⟨nm.toArray⟩, .string ⟨ax.toArray⟩] 32 (0, 0)) from (hgb.block ga (lt_of_heap S6.out)).trans S6.out)
        rw [← hgb2] at hbq ⊢
        have Rb := Lib.hid hbq.rd
        refine hK1.out _ _ Sb.out ?_
        clear hK1 K1 hcvb hbq hgb hgb2 H6 S6
        try simp only [Act.put, List.setIfInBounds_toArray, List.set_cons_zero, List.set_cons_succ]
        refine restS_lone (i := 6) rfl (by kernel_rfl) (by rfl) (fun K1 hK1 => ?_)
        go_simp
        refine (K.back wb G F st nm (some ⟨gb, 0, none⟩) xl cb ax Hb.out.1.1 (HNum.out.few (by omega)) (by omega) (by omega) HXL.out.symm hcb Rb.out (fun x hx _ hf => by simp only [Option.some.injEq] at hx; subst hx; exact HFB.out _ hf rfl)).mono ?_
        rintro e w7 ⟨A7, n7, c7, F7, rfl, hl7, hc7, hr7, ha7, hz7, hf7, hch7⟩
        obtain ⟨l7, hl7e⟩ : ∃ l7, l7 = (prOp st nm ax false).1 := ⟨_, rfl⟩
        obtain ⟨s7, hs7e⟩ : ∃ s7, s7 = (prOp st nm ax false).2 := ⟨_, rfl⟩
        rw [← hl7e] at hl7 hr7 ha7
        rw [← hs7e] at hz7
        have S7 := Lib.hid (show w7.heap[ga]? = some (.cells #[.int .i64 2, .int .i64 an, .string ⟨nm.toArray⟩, .string ⟨ax.toArray⟩] 32 (0, 0)) from (hch7.block ga (lt_of_heap Sb.out) (fun hf => HFG.out ga hf rfl)).trans Sb.out)
        have H7 := Lib.hid (Hb.out.half hz7 hf7 hch7)
        have HL7 := Lib.hid hl7
        have R7 := Lib.hid hr7
        have A7a := Lib.hid (show ∀ x, A7 = some x → l7 ≠ [] → ¬ RF R Af Ap x.block from fun x hx hne hr => by have h1 := (ha7 x hx hne).1; have h2 := (Hb.out.2.1.lt _ hr).2; omega)
        have HLe := Lib.hid hl7e
        have HSe := Lib.hid hs7e
        have HN7 := Lib.hid (show Num s7 (i + 1) by rw [hs7e]; exact num_pr HNum.out nm ax false)
        refine hK1.out _ _ S7.out ?_
        clear hK1 K1 hl7 hc7 hr7 ha7 hz7 hf7 hch7 hl7e hs7e Hb Sb
        try simp only [Act.put, List.setIfInBounds_toArray, List.set_cons_zero, List.set_cons_succ]
        refine restS_two (i := 7) (j := 13) rfl rfl (by kernel_rfl) (by rfl) (by rfl) (fun K1 hK1 => ?_) (fun K1 hK1 => ?_)
        all_goals (first
          | (have hcv := conv R7.out c7
             rw [HL7.out] at hcv
             go_simp
             refine hK1.out _ _ S7.out ?_
             clear hK1 K1 hcv R7 A7a
             try simp only [Act.put, List.setIfInBounds_toArray, List.set_cons_zero, List.set_cons_succ]
             refine restS_lone (i := 13) rfl (by kernel_rfl) (by rfl) (fun K1 hK1 => ?_)
             go_simp
             refine (refPair_any w.heap.size R R Af Ap st nm ax false w7 H7.out.2.2.1 (by have := HNum.out.2.1; omega) (by omega) (by have := HNum.out.2.2; omega) H7.out.2.1).mono ?_
             rintro e w8 ⟨rfl, Ap8, hz8, hch8, hmp8⟩
             rw [← HSe.out] at hz8
             rw [← HLe.out]
             have hmf8 : Moved w7 Af Af := .inl rfl
             have S8 := Lib.hid (show w8.heap[ga]? = some (.cells #[.int .i64 2, .int .i64 an, .string ⟨nm.toArray⟩, .string ⟨ax.toArray⟩] 32 (0, 0)) from (hch8.block ga (lt_of_heap S7.out) (fun hf => HRG.out ga hf rfl)).trans S7.out)
             have H8 := Lib.hid (H7.out.both K hz8 hch8 hmf8 hmp8)
             refine hK1.out _ _ S8.out ?_
             clear hK1 K1 hz8 hch8 hmf8 hmp8 H7 S7
             try simp only [Act.put, List.setIfInBounds_toArray, List.set_cons_zero, List.set_cons_succ])
          | (go_simp
             refine (refPair_any w.heap.size R R Af Ap st nm ax false w7 H7.out.2.2.1 (by have := HNum.out.2.1; omega) (by omega) (by have := HNum.out.2.2; omega) H7.out.2.1).mono ?_
             rintro e w8 ⟨rfl, Ap8, hz8, hch8, hmp8⟩
             rw [← HSe.out] at hz8
             rw [← HLe.out]
             have hmf8 : Moved w7 Af Af := .inl rfl
             have S8 := Lib.hid (show w8.heap[ga]? = some (.cells #[.int .i64 2, .int .i64 an, .string ⟨nm.toArray⟩, .string ⟨ax.toArray⟩] 32 (0, 0)) from (hch8.block ga (lt_of_heap S7.out) (fun hf => HRG.out ga hf rfl)).trans S7.out)
             have H8 := Lib.hid (H7.out.both K hz8 hch8 hmf8 hmp8)
             have R8 := Lib.hid (show Rd w8 w8.heap.size A7 l7 by
               rcases R7.out with e | ⟨b7, o7, e, hb7, hc7⟩
               · exact .inl e
               · by_cases hne : l7 = []
                 · exact .inl hne
                 · have hnr := A7a.out _ e hne
                   exact .inr ⟨b7, o7, e, Nat.lt_of_lt_of_le hb7 hch8.size, fun j hj => (World.cell?_of_block (hch8.block b7 hb7 hnr)).trans (hc7 j hj)⟩)
             refine hK1.out _ _ S8.out ?_
             clear hK1 K1 hz8 hch8 hmf8 hmp8 H7 S7 R7 A7a
             try simp only [Act.put, List.setIfInBounds_toArray, List.set_cons_zero, List.set_cons_succ]
             refine restS_lone (i := 7) rfl (by kernel_rfl) (by rfl) (fun K1 hK1 => ?_)
             have hcv := conv R8.out c7
             rw [HL7.out] at hcv
             go_simp
             refine hK1.out _ _ S8.out ?_
             clear hK1 K1 hcv R8
             try simp only [Act.put, List.setIfInBounds_toArray, List.set_cons_zero, List.set_cons_succ]))
        all_goals
          refine restS_take (i := 14) S8.out rfl (by kernel_rfl) (by kernel_rfl) (by kernel_rfl) (by rfl) (fun v hv => by go_simp; try with_reducible rfl) ?_
          try simp only [Act.put, List.setIfInBounds_toArray, List.set_cons_zero, List.set_cons_succ]
          refine restS_take (i := 15) S8.out rfl (by kernel_rfl) (by kernel_rfl) (by kernel_rfl) (by rfl) (fun v hv => by go_simp; try with_reducible rfl) ?_
          try simp only [Act.put, List.setIfInBounds_toArray, List.set_cons_zero, List.set_cons_succ]
          refine restS_done (by kernel_rfl) ?_
          clear S8 HS HFG HRG
          go_wp2_with fail
          try simp only [Act.put, List.setIfInBounds_toArray, List.set_cons_zero, List.set_cons_succ]
          obtain ⟨_, _, A9, n9, c9, cf9, cp9, hR9, _⟩ := H8.out.2.1
          obtain ⟨bd, hbd⟩ : ∃ bd, bd = s7.bad := ⟨_, rfl⟩
          obtain ⟨kc, hkc⟩ : ∃ kc, kc = s7.cnt := ⟨_, rfl⟩
          rw [← hbd, ← hkc] at hR9
          have HBd := Lib.hid hbd
          have HKc := Lib.hid hkc
          refine restS_begin (fun v => v.cell? ⟨R, 3, none⟩ = some (.bool bd) ∧ v.cell? ⟨R, 4, none⟩ = some (.int .i64 (kc : Int))) (by kernel_rfl) ?_
          have Sw9 := Lib.hid (show w8.drew.cell? ⟨R, 3, none⟩ = some (.bool bd) ∧ w8.drew.cell? ⟨R, 4, none⟩ = some (.int .i64 (kc : Int)) from ⟨cell_of_row w8.drew R 3 _ _ (0, 0) hR9, cell_of_row w8.drew R 4 _ _ (0, 0) hR9⟩)
          have HRw9 := Lib.hid (show R < w8.drew.heap.size from lt_of_heap (w := w8.drew) hR9)
          have Hw9 := Lib.hid (H8.out.grow K (show Grown w8 w8.drew from (Grown.refl w8).drew))
          clear H8 hR9 hbd hkc
          generalize w8.drew = w9 at Sw9 Hw9 HRw9 ⊢
          refine restS_take (i := 0) Sw9.out rfl (by kernel_rfl) (by kernel_rfl) (by kernel_rfl) (by rfl) (fun v hv => by have hv1 := hv.1; have hv2 := hv.2; go_simp; try with_reducible rfl) ?_
          try simp only [Act.put, List.setIfInBounds_toArray, List.set_cons_zero, List.set_cons_succ]
          refine restS_take (i := 1) Sw9.out rfl (by kernel_rfl) (by kernel_rfl) (by kernel_rfl) (by rfl) (fun v hv => by have hv1 := hv.1; have hv2 := hv.2; go_simp; try with_reducible rfl) ?_
          try simp only [Act.put, List.setIfInBounds_toArray, List.set_cons_zero, List.set_cons_succ]
          refine restS_take (i := 2) Sw9.out rfl (by kernel_rfl) (by kernel_rfl) (by kernel_rfl) (by rfl) (fun v hv => by have hv1 := hv.1; have hv2 := hv.2; go_simp; try with_reducible rfl) ?_
          try simp only [Act.put, List.setIfInBounds_toArray, List.set_cons_zero, List.set_cons_succ]
          refine restS_take (i := 3) Sw9.out rfl (by kernel_rfl) (by kernel_rfl) (by kernel_rfl) (by rfl) (fun v hv => by have hv1 := hv.1; have hv2 := hv.2; go_simp; try with_reducible rfl) ?_
          try simp only [Act.put, List.setIfInBounds_toArray, List.set_cons_zero, List.set_cons_succ]
          refine restS_take (i := 4) Sw9.out rfl (by kernel_rfl) (by kernel_rfl) (by kernel_rfl) (by rfl) (fun v hv => by have hv1 := hv.1; have hv2 := hv.2; go_simp; try with_reducible rfl) ?_
          try simp only [Act.put, List.setIfInBounds_toArray, List.set_cons_zero, List.set_cons_succ]
          refine restS_take (i := 6) Sw9.out rfl (by kernel_rfl) (by kernel_rfl) (by kernel_rfl) (by rfl) (fun v hv => by have hv1 := hv.1; have hv2 := hv.2; go_simp; try with_reducible rfl) ?_
          try simp only [Act.put, List.setIfInBounds_toArray, List.set_cons_zero, List.set_cons_succ]
          refine restS_take (i := 7) Sw9.out rfl (by kernel_rfl) (by kernel_rfl) (by kernel_rfl) (by rfl) (fun v hv => by have hv1 := hv.1; have hv2 := hv.2; go_simp; try with_reducible rfl) ?_
          try simp only [Act.put, List.setIfInBounds_toArray, List.set_cons_zero, List.set_cons_succ]
          refine restS_take (i := 8) Sw9.out rfl (by kernel_rfl) (by kernel_rfl) (by kernel_rfl) (by rfl) (fun v hv => by have hv1 := hv.1; have hv2 := hv.2; go_simp; try with_reducible rfl) ?_
          try simp only [Act.put, List.setIfInBounds_toArray, List.set_cons_zero, List.set_cons_succ]
          refine restS_take (i := 9) Sw9.out rfl (by kernel_rfl) (by kernel_rfl) (by kernel_rfl) (by rfl) (fun v hv => by have hv1 := hv.1; have hv2 := hv.2; go_simp; try with_reducible rfl) ?_
          try simp only [Act.put, List.setIfInBounds_toArray, List.set_cons_zero, List.set_cons_succ]
          refine restS_lone (i := 5) rfl (by kernel_rfl) (by rfl) (fun K1 hK1 => ?_)
          go_simp
          refine (K.bad w9 G F7 s7 Hw9.out.1.1).mono ?_
          rintro e w10 ⟨rfl, hg⟩
          rw [← HBd.out]
          have Sw10 := Lib.hid (show w10.cell? ⟨R, 3, none⟩ = some (.bool bd) ∧ w10.cell? ⟨R, 4, none⟩ = some (.int .i64 (kc : Int)) from ⟨(hg.cell (p := ⟨R, 3, none⟩) HRw9.out).trans Sw9.out.1, (hg.cell (p := ⟨R, 4, none⟩) HRw9.out).trans Sw9.out.2⟩)
          have HRw10 := Lib.hid (Nat.lt_of_lt_of_le HRw9.out hg.size)
          have Hw10 := Lib.hid (Hw9.out.grow K hg)
          refine hK1.out _ _ Sw10.out ?_
          clear hK1 K1 hg Hw9 Sw9
          try simp only [Act.put, List.setIfInBounds_toArray, List.set_cons_zero, List.set_cons_succ]
          refine restS_take (i := 10) Sw10.out rfl (by kernel_rfl) (by kernel_rfl) (by kernel_rfl) (by rfl) (fun v hv => by have hv1 := hv.1; have hv2 := hv.2; go_simp; try with_reducible rfl) ?_
          try simp only [Act.put, List.setIfInBounds_toArray, List.set_cons_zero, List.set_cons_succ]
          refine restS_take (i := 11) Sw10.out rfl (by kernel_rfl) (by kernel_rfl) (by kernel_rfl) (by rfl) (fun v hv => by have hv1 := hv.1; have hv2 := hv.2; go_simp; try with_reducible rfl) ?_
          try simp only [Act.put, List.setIfInBounds_toArray, List.set_cons_zero, List.set_cons_succ]
          refine restS_take (i := 12) Sw10.out rfl (by kernel_rfl) (by kernel_rfl) (by kernel_rfl) (by rfl) (fun v hv => by have hv1 := hv.1; have hv2 := hv.2; go_simp; try with_reducible rfl) ?_
          try simp only [Act.put, List.setIfInBounds_toArray, List.set_cons_zero, List.set_cons_succ]
          refine restS_take (i := 13) Sw10.out rfl (by kernel_rfl) (by kernel_rfl) (by kernel_rfl) (by rfl) (fun v hv => by have hv1 := hv.1; have hv2 := hv.2; go_simp; try with_reducible rfl) ?_
          try simp only [Act.put, List.setIfInBounds_toArray, List.set_cons_zero, List.set_cons_succ]
          refine restS_take (i := 15) Sw10.out rfl (by kernel_rfl) (by kernel_rfl) (by kernel_rfl) (by rfl) (fun v hv => by have hv1 := hv.1; have hv2 := hv.2; go_simp; try with_reducible rfl) ?_
          try simp only [Act.put, List.setIfInBounds_toArray, List.set_cons_zero, List.set_cons_succ]
          refine restS_take (i := 16) Sw10.out rfl (by kernel_rfl) (by kernel_rfl) (by kernel_rfl) (by rfl) (fun v hv => by have hv1 := hv.1; have hv2 := hv.2; go_simp; try with_reducible rfl) ?_
          try simp only [Act.put, List.setIfInBounds_toArray, List.set_cons_zero, List.set_cons_succ]
          refine restS_take (i := 17) Sw10.out rfl (by kernel_rfl) (by kernel_rfl) (by kernel_rfl) (by rfl) (fun v hv => by have hv1 := hv.1; have hv2 := hv.2; go_simp; try with_reducible rfl) ?_
          try simp only [Act.put, List.setIfInBounds_toArray, List.set_cons_zero, List.set_cons_succ]
          refine restS_take (i := 18) Sw10.out rfl (by kernel_rfl) (by kernel_rfl) (by kernel_rfl) (by rfl) (fun v hv => by have hv1 := hv.1; have hv2 := hv.2; go_simp; try with_reducible rfl) ?_
          try simp only [Act.put, List.setIfInBounds_toArray, List.set_cons_zero, List.set_cons_succ]
          refine restS_lone (i := 14) rfl (by kernel_rfl) (by rfl) (fun K1 hK1 => ?_)
          go_simp
          refine (K.count w10 G F7 s7 Hw10.out.1.1).mono ?_
          rintro e w11 ⟨rfl, hg⟩
          rw [← HKc.out]
          have Sw11 := Lib.hid (show w11.cell? ⟨R, 3, none⟩ = some (.bool bd) ∧ w11.cell? ⟨R, 4, none⟩ = some (.int .i64 (kc : Int)) from ⟨(hg.cell (p := ⟨R, 3, none⟩) HRw10.out).trans Sw10.out.1, (hg.cell (p := ⟨R, 4, none⟩) HRw10.out).trans Sw10.out.2⟩)
          have HRw11 := Lib.hid (Nat.lt_of_lt_of_le HRw10.out hg.size)
          have Hw11 := Lib.hid (Hw10.out.grow K hg)
          refine hK1.out _ _ Sw11.out ?_
          clear hK1 K1 hg Hw10 Sw10
          try simp only [Act.put, List.setIfInBounds_toArray, List.set_cons_zero, List.set_cons_succ]
          refine restS_take (i := 19) Sw11.out rfl (by kernel_rfl) (by kernel_rfl) (by kernel_rfl) (by rfl) (fun v hv => by have hv1 := hv.1; have hv2 := hv.2; go_simp; try with_reducible rfl) ?_
          try simp only [Act.put, List.setIfInBounds_toArray, List.set_cons_zero, List.set_cons_succ]
          refine restS_take (i := 20) Sw11.out rfl (by kernel_rfl) (by kernel_rfl) (by kernel_rfl) (by rfl) (fun v hv => by have hv1 := hv.1; have hv2 := hv.2; go_simp; try with_reducible rfl) ?_
          try simp only [Act.put, List.setIfInBounds_toArray, List.set_cons_zero, List.set_cons_succ]
          refine restS_done (by kernel_rfl) ?_
          go_wp2
          go_roundw
          case rel => exact ⟨i + 1, s7, Af, Ap8, F7, by go_num, by omega, HN7.out, Hw11.out⟩
          case measure => simp [intOf]; omega
      have H5 := Lib.hid (HT.out.grow K (alloc_below wr (.cells #[.int .i64 ak, .int .i64 an, .string ⟨nm.toArray⟩, .string ⟨ax.toArray⟩] 32)))
      have B5 := Lib.hid (show (wr.alloc (.cells #[.int .i64 ak, .int .i64 an, .string ⟨nm.toArray⟩, .string ⟨ax.toArray⟩] 32)).heap[wr.heap.size]? = some (.cells #[.int .i64 ak, .int .i64 an, .string ⟨nm.toArray⟩, .string ⟨ax.toArray⟩] 32 (0, 0)) from heap_alloc_new wr _)
      have HFG := Lib.hid (show ∀ k, F k → k ≠ wr.heap.size from fun k hk e => by have := K.foot wr G F st HT.out.1.1 k hk; omega)
      have HRG := Lib.hid (show ∀ k, RF R Af Ap k → k ≠ wr.heap.size from fun k hk e => by have := HT.out.2.1.lt k hk; omega)
      clear HT
      go_wp2_with fail
      obtain ⟨ga, hga⟩ : ∃ ga, ga = wr.heap.size := ⟨_, rfl⟩
      rw [← hga] at B5 HFG HRG ⊢
      clear hga k0 k1 k2 k3
      generalize wr.alloc _ = w5 at H5 B5 ⊢
      try simp only [Act.put, List.setIfInBounds_toArray, List.set_cons_zero, List.set_cons_succ]
      refine restS_begin (fun v => v.heap[ga]? = some (.cells #[.int .i64 ak, .int .i64 an, .string ⟨nm.toArray⟩, .string ⟨ax.toArray⟩] 32 (0, 0))) (by kernel_rfl) ?_
      have HS := Lib.hid (show ∀ v : World, v.heap[ga]? = some (.cells #[.int .i64 ak, .int .i64 an, .string ⟨nm.toArray⟩, .string ⟨ax.toArray⟩] 32 (0, 0)) → v.cell? ⟨ga, 1, none⟩ = some (.int .i64 an) ∧ v.cell? ⟨ga, 2, none⟩ = some (.string ⟨nm.toArray⟩) ∧ v.cell? ⟨ga, 3, none⟩ = some (.string ⟨ax.toArray⟩) from fun v hv => ⟨cell_of_row v ga 1 _ _ (0, 0) hv, cell_of_row v ga 2 _ _ (0, 0) hv, cell_of_row v ga 3 _ _ (0, 0) hv⟩)
      have S6 := Lib.hid (show w5.drew.heap[ga]? = some (.cells #[.int .i64 ak, .int .i64 an, .string ⟨nm.toArray⟩, .string ⟨ax.toArray⟩] 32 (0, 0)) from B5.out)
      have H6 := Lib.hid (H5.out.grow K (show Grown w5 w5.drew from (Grown.refl w5).drew))
      clear H5 B5
      generalize w5.drew = w6 at S6 H6 ⊢
      refine restS_take (i := 0) S6.out rfl (by kernel_rfl) (by kernel_rfl) (by kernel_rfl) (by rfl) (fun v hv => by go_simp; try with_reducible rfl) ?_
      try simp only [Act.put, List.setIfInBounds_toArray, List.set_cons_zero, List.set_cons_succ]
      refine restS_take (i := 1) S6.out rfl (by kernel_rfl) (by kernel_rfl) (by kernel_rfl) (by rfl) (fun v hv => by go_simp; try with_reducible rfl) ?_
      try simp only [Act.put, List.setIfInBounds_toArray, List.set_cons_zero, List.set_cons_succ]
      refine restS_take (i := 2) S6.out rfl (by kernel_rfl) (by kernel_rfl) (by kernel_rfl) (by rfl) (fun v hv => by obtain ⟨c1, c2, c3⟩ := HS.out v hv; go_simp; try with_reducible rfl) ?_
      try simp only [Act.put, List.setIfInBounds_toArray, List.set_cons_zero, List.set_cons_succ]
      refine restS_take (i := 5) S6.out rfl (by kernel_rfl) (by kernel_rfl) (by kernel_rfl) (by rfl) (fun v hv => by go_simp; try with_reducible rfl) ?_
      try simp only [Act.put, List.setIfInBounds_toArray, List.set_cons_zero, List.set_cons_succ]
      refine restS_take (i := 6) S6.out rfl (by kernel_rfl) (by kernel_rfl) (by kernel_rfl) (by rfl) (fun v hv => by go_simp; try with_reducible rfl) ?_
      try simp only [Act.put, List.setIfInBounds_toArray, List.set_cons_zero, List.set_cons_succ]
      refine restS_take (i := 7) S6.out rfl (by kernel_rfl) (by kernel_rfl) (by kernel_rfl) (by rfl) (fun v hv => by obtain ⟨c1, c2, c3⟩ := HS.out v hv; go_simp; try with_reducible rfl) ?_
      try simp only [Act.put, List.setIfInBounds_toArray, List.set_cons_zero, List.set_cons_succ]
      refine restS_lone (i := 3) rfl (by kernel_rfl) (by rfl) (fun K1 hK1 => ?_)
      go_simp
      refine (K.draw w6 G F st an H6.out.1.1 (HNum.out.few (by omega)) (by omega)).mono ?_
      rintro e w7 ⟨A7, n7, c7, F7, rfl, hl7, hc7, hr7, ha7, hz7, hf7, hch7⟩
      obtain ⟨l7, hl7e⟩ : ∃ l7, l7 = (drOp st an).1 := ⟨_, rfl⟩
      obtain ⟨s7, hs7e⟩ : ∃ s7, s7 = (drOp st an).2 := ⟨_, rfl⟩
      rw [← hl7e] at hl7 hr7 ha7
      rw [← hs7e] at hz7
      have S7 := Lib.hid (show w7.heap[ga]? = some (.cells #[.int .i64 ak, .int .i64 an, .string ⟨nm.toArray⟩, .string ⟨ax.toArray⟩] 32 (0, 0)) from (hch7.block ga (lt_of_heap S6.out) (fun hf => HFG.out ga hf rfl)).trans S6.out)
      have H7 := Lib.hid (H6.out.half hz7 hf7 hch7)
      have HL7 := Lib.hid hl7
      have R7 := Lib.hid hr7
      have A7a := Lib.hid (show ∀ x, A7 = some x → l7 ≠ [] → ¬ RF R Af Ap x.block from fun x hx hne hr => by have h1 := (ha7 x hx hne).1; have h2 := (H6.out.2.1.lt _ hr).2; omega)
      have HLe := Lib.hid hl7e
      have HSe := Lib.hid hs7e
      have HN7 := Lib.hid (show Num s7 (i + 1) by rw [hs7e]; exact num_dr HNum.out an)
      refine hK1.out _ _ S7.out ?_
      clear hK1 K1 hl7 hc7 hr7 ha7 hz7 hf7 hch7 hl7e hs7e H6 S6
      try simp only [Act.put, List.setIfInBounds_toArray, List.set_cons_zero, List.set_cons_succ]
      refine restS_two (i := 4) (j := 8) rfl rfl (by kernel_rfl) (by rfl) (by rfl) (fun K1 hK1 => ?_) (fun K1 hK1 => ?_)
      all_goals (first
        | (have hcv := conv R7.out c7
           rw [HL7.out] at hcv
           go_simp
           refine hK1.out _ _ S7.out ?_
           clear hK1 K1 hcv R7 A7a
           try simp only [Act.put, List.setIfInBounds_toArray, List.set_cons_zero, List.set_cons_succ]
           refine restS_lone (i := 8) rfl (by kernel_rfl) (by rfl) (fun K1 hK1 => ?_)
           go_simp
           refine (refDraw_any w.heap.size R R Af Ap st an w7 H7.out.2.2.1 (by omega) H7.out.2.1).mono ?_
           rintro e w8 ⟨rfl, hz8, hch80⟩
           rw [← HSe.out] at hz8
           rw [← HLe.out]
           have hch8 : Ch (RF R Af Ap) w7 w8 := ⟨hch80.os, hch80.tape, hch80.output, hch80.size, fun k hk hf => hch80.block k hk (fun e => hf (.inl e))⟩
           have hmf8 : Moved w7 Af Af := .inl rfl
           have hmp8 : Moved w7 Ap Ap := .inl rfl
           have S8 := Lib.hid (show w8.heap[ga]? = some (.cells #[.int .i64 ak, .int .i64 an, .string ⟨nm.toArray⟩, .string ⟨ax.toArray⟩] 32 (0, 0)) from (hch8.block ga (lt_of_heap S7.out) (fun hf => HRG.out ga hf rfl)).trans S7.out)
           have H8 := Lib.hid (H7.out.both K hz8 hch8 hmf8 hmp8)
           refine hK1.out _ _ S8.out ?_
           clear hK1 K1 hz8 hch8 hmf8 hmp8 H7 S7
           try simp only [Act.put, List.setIfInBounds_toArray, List.set_cons_zero, List.set_cons_succ])
        | (go_simp
           refine (refDraw_any w.heap.size R R Af Ap st an w7 H7.out.2.2.1 (by omega) H7.out.2.1).mono ?_
           rintro e w8 ⟨rfl, hz8, hch80⟩
           rw [← HSe.out] at hz8
           rw [← HLe.out]
           have hch8 : Ch (RF R Af Ap) w7 w8 := ⟨hch80.os, hch80.tape, hch80.output, hch80.size, fun k hk hf => hch80.block k hk (fun e => hf (.inl e))⟩
           have hmf8 : Moved w7 Af Af := .inl rfl
           have hmp8 : Moved w7 Ap Ap := .inl rfl
           have S8 := Lib.hid (show w8.heap[ga]? = some (.cells #[.int .i64 ak, .int .i64 an, .string ⟨nm.toArray⟩, .string ⟨ax.toArray⟩] 32 (0, 0)) from (hch8.block ga (lt_of_heap S7.out) (fun hf => HRG.out ga hf rfl)).trans S7.out)
           have H8 := Lib.hid (H7.out.both K hz8 hch8 hmf8 hmp8)
           have R8 := Lib.hid (show Rd w8 w8.heap.size A7 l7 by
             rcases R7.out with e | ⟨b7, o7, e, hb7, hc7⟩
             · exact .inl e
             · by_cases hne : l7 = []
               · exact .inl hne
               · have hnr := A7a.out _ e hne
                 exact .inr ⟨b7, o7, e, Nat.lt_of_lt_of_le hb7 hch8.size, fun j hj => (World.cell?_of_block (hch8.block b7 hb7 hnr)).trans (hc7 j hj)⟩)
           refine hK1.out _ _ S8.out ?_
           clear hK1 K1 hz8 hch8 hmf8 hmp8 H7 S7 R7 A7a
           try simp only [Act.put, List.setIfInBounds_toArray, List.set_cons_zero, List.set_cons_succ]
           refine restS_lone (i := 4) rfl (by kernel_rfl) (by rfl) (fun K1 hK1 => ?_)
           have hcv := conv R8.out c7
           rw [HL7.out] at hcv
           go_simp
           refine hK1.out _ _ S8.out ?_
           clear hK1 K1 hcv R8
           try simp only [Act.put, List.setIfInBounds_toArray, List.set_cons_zero, List.set_cons_succ]))
      all_goals
        refine restS_take (i := 9) S8.out rfl (by kernel_rfl) (by kernel_rfl) (by kernel_rfl) (by rfl) (fun v hv => by go_simp; try with_reducible rfl) ?_
        try simp only [Act.put, List.setIfInBounds_toArray, List.set_cons_zero, List.set_cons_succ]
        refine restS_take (i := 10) S8.out rfl (by kernel_rfl) (by kernel_rfl) (by kernel_rfl) (by rfl) (fun v hv => by go_simp; try with_reducible rfl) ?_
        try simp only [Act.put, List.setIfInBounds_toArray, List.set_cons_zero, List.set_cons_succ]
        refine restS_done (by kernel_rfl) ?_
        clear S8 HS HFG HRG
        go_wp2_with fail
        try simp only [Act.put, List.setIfInBounds_toArray, List.set_cons_zero, List.set_cons_succ]
        obtain ⟨_, _, A9, n9, c9, cf9, cp9, hR9, _⟩ := H8.out.2.1
        obtain ⟨bd, hbd⟩ : ∃ bd, bd = s7.bad := ⟨_, rfl⟩
        obtain ⟨kc, hkc⟩ : ∃ kc, kc = s7.cnt := ⟨_, rfl⟩
        rw [← hbd, ← hkc] at hR9
        have HBd := Lib.hid hbd
        have HKc := Lib.hid hkc
        refine restS_begin (fun v => v.cell? ⟨R, 3, none⟩ = some (.bool bd) ∧ v.cell? ⟨R, 4, none⟩ = some (.int .i64 (kc : Int))) (by kernel_rfl) ?_
        have Sw9 := Lib.hid (show w8.drew.cell? ⟨R, 3, none⟩ = some (.bool bd) ∧ w8.drew.cell? ⟨R, 4, none⟩ = some (.int .i64 (kc : Int)) from ⟨cell_of_row w8.drew R 3 _ _ (0, 0) hR9, cell_of_row w8.drew R 4 _ _ (0, 0) hR9⟩)
        have HRw9 := Lib.hid (show R < w8.drew.heap.size from lt_of_heap (w := w8.drew) hR9)
        have Hw9 := Lib.hid (H8.out.grow K (show Grown w8 w8.drew from (Grown.refl w8).drew))
        clear H8 hR9 hbd hkc
        generalize w8.drew = w9 at Sw9 Hw9 HRw9 ⊢
        refine restS_take (i := 0) Sw9.out rfl (by kernel_rfl) (by kernel_rfl) (by kernel_rfl) (by rfl) (fun v hv => by have hv1 := hv.1; have hv2 := hv.2; go_simp; try with_reducible rfl) ?_
        try simp only [Act.put, List.setIfInBounds_toArray, List.set_cons_zero, List.set_cons_succ]
        refine restS_take (i := 1) Sw9.out rfl (by kernel_rfl) (by kernel_rfl) (by kernel_rfl) (by rfl) (fun v hv => by have hv1 := hv.1; have hv2 := hv.2; go_simp; try with_reducible rfl) ?_
        try simp only [Act.put, List.setIfInBounds_toArray, List.set_cons_zero, List.set_cons_succ]
        refine restS_take (i := 2) Sw9.out rfl (by kernel_rfl) (by kernel_rfl) (by kernel_rfl) (by rfl) (fun v hv => by have hv1 := hv.1; have hv2 := hv.2; go_simp; try with_reducible rfl) ?_
        try simp only [Act.put, List.setIfInBounds_toArray, List.set_cons_zero, List.set_cons_succ]
        refine restS_take (i := 3) Sw9.out rfl (by kernel_rfl) (by kernel_rfl) (by kernel_rfl) (by rfl) (fun v hv => by have hv1 := hv.1; have hv2 := hv.2; go_simp; try with_reducible rfl) ?_
        try simp only [Act.put, List.setIfInBounds_toArray, List.set_cons_zero, List.set_cons_succ]
        refine restS_take (i := 4) Sw9.out rfl (by kernel_rfl) (by kernel_rfl) (by kernel_rfl) (by rfl) (fun v hv => by have hv1 := hv.1; have hv2 := hv.2; go_simp; try with_reducible rfl) ?_
        try simp only [Act.put, List.setIfInBounds_toArray, List.set_cons_zero, List.set_cons_succ]
        refine restS_take (i := 6) Sw9.out rfl (by kernel_rfl) (by kernel_rfl) (by kernel_rfl) (by rfl) (fun v hv => by have hv1 := hv.1; have hv2 := hv.2; go_simp; try with_reducible rfl) ?_
        try simp only [Act.put, List.setIfInBounds_toArray, List.set_cons_zero, List.set_cons_succ]
        refine restS_take (i := 7) Sw9.out rfl (by kernel_rfl) (by kernel_rfl) (by kernel_rfl) (by rfl) (fun v hv => by have hv1 := hv.1; have hv2 := hv.2; go_simp; try with_reducible rfl) ?_
        try simp only [Act.put, List.setIfInBounds_toArray, List.set_cons_zero, List.set_cons_succ]
        refine restS_take (i := 8) Sw9.out rfl (by kernel_rfl) (by kernel_rfl) (by kernel_rfl) (by rfl) (fun v hv => by have hv1 := hv.1; have hv2 := hv.2; go_simp; try with_reducible rfl) ?_
        try simp only [Act.put, List.setIfInBounds_toArray, List.set_cons_zero, List.set_cons_succ]
        refine restS_take (i := 9) Sw9.out rfl (by kernel_rfl) (by kernel_rfl) (by kernel_rfl) (by rfl) (fun v hv => by have hv1 := hv.1; have hv2 := hv.2; go_simp; try with_reducible rfl) ?_
        try simp only [Act.put, List.setIfInBounds_toArray, List.set_cons_zero, List.set_cons_succ]
        refine restS_lone (i := 5) rfl (by kernel_rfl) (by rfl) (fun K1 hK1 => ?_)
        go_simp
        refine (K.bad w9 G F7 s7 Hw9.out.1.1).mono ?_
        rintro e w10 ⟨rfl, hg⟩
        rw [← HBd.out]
        have Sw10 := Lib.hid (show w10.cell? ⟨R, 3, none⟩ = some (.bool bd) ∧ w10.cell? ⟨R, 4, none⟩ = some (.int .i64 (kc : Int)) from ⟨(hg.cell (p := ⟨R, 3, none⟩) HRw9.out).trans Sw9.out.1, (hg.cell (p := ⟨R, 4, none⟩) HRw9.out).trans Sw9.out.2⟩)
        have HRw10 := Lib.hid (Nat.lt_of_lt_of_le HRw9.out hg.size)
        have Hw10 := Lib.hid (Hw9.out.grow K hg)
        refine hK1.out _ _ Sw10.out ?_
        clear hK1 K1 hg Hw9 Sw9
        try simp only [Act.put, List.setIfInBounds_toArray, List.set_cons_zero, List.set_cons_succ]
        refine restS_take (i := 10) Sw10.out rfl (by kernel_rfl) (by kernel_rfl) (by kernel_rfl) (by rfl) (fun v hv => by have hv1 := hv.1; have hv2 := hv.2; go_simp; try with_reducible rfl) ?_
        try simp only [Act.put, List.setIfInBounds_toArray, List.set_cons_zero, List.set_cons_succ]
        refine restS_take (i := 11) Sw10.out rfl (by kernel_rfl) (by kernel_rfl) (by kernel_rfl) (by rfl) (fun v hv => by have hv1 := hv.1; have hv2 := hv.2; go_simp; try with_reducible rfl) ?_
        try simp only [Act.put, List.setIfInBounds_toArray, List.set_cons_zero, List.set_cons_succ]
        refine restS_take (i := 12) Sw10.out rfl (by kernel_rfl) (by kernel_rfl) (by kernel_rfl) (by rfl) (fun v hv => by have hv1 := hv.1; have hv2 := hv.2; go_simp; try with_reducible rfl) ?_
        try simp only [Act.put, List.setIfInBounds_toArray, List.set_cons_zero, List.set_cons_succ]
        refine restS_take (i := 13) Sw10.out rfl (by kernel_rfl) (by kernel_rfl) (by kernel_rfl) (by rfl) (fun v hv => by have hv1 := hv.1; have hv2 := hv.2; go_simp; try with_reducible rfl) ?_
        try simp only [Act.put, List.setIfInBounds_toArray, List.set_cons_zero, List.set_cons_succ]
        refine restS_take (i := 15) Sw10.out rfl (by kernel_rfl) (by kernel_rfl) (by kernel_rfl) (by rfl) (fun v hv => by have hv1 := hv.1; have hv2 := hv.2; go_simp; try with_reducible rfl) ?_
        try simp only [Act.put, List.setIfInBounds_toArray, List.set_cons_zero, List.set_cons_succ]
        refine restS_take (i := 16) Sw10.out rfl (by kernel_rfl) (by kernel_rfl) (by kernel_rfl) (by rfl) (fun v hv => by have hv1 := hv.1; have hv2 := hv.2; go_simp; try with_reducible rfl) ?_
        try simp only [Act.put, List.setIfInBounds_toArray, List.set_cons_zero, List.set_cons_succ]
        refine restS_take (i := 17) Sw10.out rfl (by kernel_rfl) (by kernel_rfl) (by kernel_rfl) (by rfl) (fun v hv => by have hv1 := hv.1; have hv2 := hv.2; go_simp; try with_reducible rfl) ?_
        try simp only [Act.put, List.setIfInBounds_toArray, List.set_cons_zero, List.set_cons_succ]
        refine restS_take (i := 18) Sw10.out rfl (by kernel_rfl) (by kernel_rfl) (by kernel_rfl) (by rfl) (fun v hv => by have hv1 := hv.1; have hv2 := hv.2; go_simp; try with_reducible rfl) ?_
        try simp only [Act.put, List.setIfInBounds_toArray, List.set_cons_zero, List.set_cons_succ]
        refine restS_lone (i := 14) rfl (by kernel_rfl) (by rfl) (fun K1 hK1 => ?_)
        go_simp
        refine (K.count w10 G F7 s7 Hw10.out.1.1).mono ?_
        rintro e w11 ⟨rfl, hg⟩
        rw [← HKc.out]
        have Sw11 := Lib.hid (show w11.cell? ⟨R, 3, none⟩ = some (.bool bd) ∧ w11.cell? ⟨R, 4, none⟩ = some (.int .i64 (kc : Int)) from ⟨(hg.cell (p := ⟨R, 3, none⟩) HRw10.out).trans Sw10.out.1, (hg.cell (p := ⟨R, 4, none⟩) HRw10.out).trans Sw10.out.2⟩)
        have HRw11 := Lib.hid (Nat.lt_of_lt_of_le HRw10.out hg.size)
        have Hw11 := Lib.hid (Hw10.out.grow K hg)
        refine hK1.out _ _ Sw11.out ?_
        clear hK1 K1 hg Hw10 Sw10
        try simp only [Act.put, List.setIfInBounds_toArray, List.set_cons_zero, List.set_cons_succ]
        refine restS_take (i := 19) Sw11.out rfl (by kernel_rfl) (by kernel_rfl) (by kernel_rfl) (by rfl) (fun v hv => by have hv1 := hv.1; have hv2 := hv.2; go_simp; try with_reducible rfl) ?_
        try simp only [Act.put, List.setIfInBounds_toArray, List.set_cons_zero, List.set_cons_succ]
        refine restS_take (i := 20) Sw11.out rfl (by kernel_rfl) (by kernel_rfl) (by kernel_rfl) (by rfl) (fun v hv => by have hv1 := hv.1; have hv2 := hv.2; go_simp; try with_reducible rfl) ?_
        try simp only [Act.put, List.setIfInBounds_toArray, List.set_cons_zero, List.set_cons_succ]
        refine restS_done (by kernel_rfl) ?_
        go_wp2
        go_roundw
        case rel => exact ⟨i + 1, s7, Af, Ap, F7, by go_num, by omega, HN7.out, Hw11.out⟩
        case measure => simp [intOf]; omega
    · have HG := Lib.hid HT.out.1.2.2
      have bi : ¬ (i : Int) < (m : Int) := by omega
      go_wp2
      go_ret
      exact ⟨rfl, HG.out⟩
end Go.Proofs.Ytanalbdbkfmifaa.S11
