/-
  The walk of Sha512Cuts.
-/
import Derived.Test.YtbelcocgkimkbaaDoorSdAw
import Derived.Test.YtbelcocgkimkbaaDoorEqb
import Derived.Test.YtbelcocgkimkbaaDoorGrq
namespace Go.Proofs.YtbelcocgkimkbaaDoor.S4
open Go.RowKit
set_option linter.unusedVariables false
set_option linter.unusedSimpArgs false

theorem cut_num (x : Int) (k : Nat) (hk : 0 < k) (hk2 : k ≤ 100000) : ∃ (x2 a : Nat), IntKind.i64.wrap (x.tmod (k : Int) + (k : Int)) = (x2 : Int) ∧ (x2 : Int).tmod (k : Int) = (a : Int) ∧ a < k := by
  have h1 : x.tmod k < k := Int.tmod_lt_of_pos x (by omega)
  have h2 : -(k : Int) < x.tmod k := Int.lt_tmod_of_pos x (by omega)
  refine ⟨(x.tmod k + k).toNat, (x.tmod k + k).toNat % k, ?_, rfl, Nat.mod_lt _ hk⟩
  rw [IntKind.wrap_i64]; omega

theorem cut_mid (W : World) (A : Option Addr) (m c d e : Nat) (h : d ≤ e) (h2 : e ≤ c) : (Instr.slice 24 (.slice A m c) (some (.int .i64 (d : Int))) (some (.int .i64 (e : Int))) none).run Tryd.prog W = .ok (.slice (if c = d then A else A.map (·.add d)) (e - d) (c - d)) W := by
  obtain ⟨i0, hi, hz0, hz1, hz2⟩ := info_parts info5
  have he : Tryd.prog.elem 24 = 5 := by kernel_rfl
  rw [run_slice_lh W 24 A m c (by rw [he]; exact Tryd.underlying24) .i64 .i64 (d : Int) (e : Int) (by omega) (by omega) (by omega), he]
  simp [sizeOf, typeInfo, hi, hz1, sliced, Result.andThen]
theorem cut3 (l : List UInt8) (p q : Nat) (hp : p ≤ q) : [l.take p, (l.drop p).take (q - p), l.drop q].flatten = l := by
  have h : (l.drop p).take (q - p) ++ l.drop q = l.drop p := by
    have := List.take_append_drop (q - p) (l.drop p)
    rwa [List.drop_drop, show p + (q - p) = q by omega] at this
  simp [h]
theorem rdL_grow {w w' : World} {A : Option Addr} {ls : List (List UInt8)} (h : RdL w w.heap.size A ls) (hg : Grown w w') : RdL w' w'.heap.size A ls := (RdL.keep h hg).more hg.size
theorem rdL_three {v : World} {A : Option Addr} {l : List UInt8} {n c p q : Nat} (h : Rd v v.heap.size A l) (hn : l.length = n) (hp : p ≤ q) (hq : q ≤ n) (hc : n ≤ c) :
    RdL (v.alloc (.cells #[.slice A p c, .slice (if c = p then A else A.map (·.add p)) (q - p) (c - p), .slice (if c = q then A else A.map (·.add q)) (n - q) (c - q)] 24)) (v.alloc (.cells #[.slice A p c, .slice (if c = p then A else A.map (·.add p)) (q - p) (c - p), .slice (if c = q then A else A.map (·.add q)) (n - q) (c - q)] 24)).heap.size (some ⟨v.heap.size, 0, none⟩) [l.take p, (l.drop p).take (q - p), l.drop q] := by
  refine .inr ⟨v.heap.size, 0, rfl, by simp, fun j hj => ?_⟩
  have hrow := heap_alloc_new v (.cells #[.slice A p c, .slice (if c = p then A else A.map (·.add p)) (q - p) (c - p), .slice (if c = q then A else A.map (·.add q)) (n - q) (c - q)] 24)
  have l1 : (l.take p).length = p := by rw [List.length_take]; omega
  have l2 : ((l.drop p).take (q - p)).length = q - p := by rw [List.length_take, List.length_drop]; omega
  have l3 : (l.drop q).length = n - q := by rw [List.length_drop, hn]
  match j, hj with
  | 0, _ =>
    refine ⟨A, c, ?_, ?_, (h.take p).grow (alloc_below v _)⟩
    · show _ = some (Value.slice A (l.take p).length c)
      rw [l1, cell_of_row _ _ _ _ _ _ hrow]; rfl
    · show (l.take p).length ≤ c
      omega
  | 1, _ =>
    refine ⟨_, c - p, ?_, ?_, ((h.cut (k := p) (cap := c) (by omega)).take (q - p)).grow (alloc_below v _)⟩
    · show _ = some (Value.slice _ ((l.drop p).take (q - p)).length (c - p))
      rw [l2, cell_of_row _ _ _ _ _ _ hrow]; rfl
    · show ((l.drop p).take (q - p)).length ≤ c - p
      omega
  | 2, _ =>
    refine ⟨_, c - q, ?_, ?_, (h.cut (k := q) (cap := c) (by omega)).grow (alloc_below v _)⟩
    · show _ = some (Value.slice _ (l.drop q).length (c - q))
      rw [l3, cell_of_row _ _ _ _ _ _ hrow]; rfl
    · show (l.drop q).length ≤ c - q
      omega
/-- What stays while the last line of Sha512Cuts is evaluated. -/
structure CuIn (w v : World) (A A3 : Option Addr) (l : List UInt8) : Prop where
  grown : Grown w v
  kt : Kt v
  text : Rd v v.heap.size A l
  in_ : Rd v v.heap.size A3 l
theorem CuIn.grow {w v v' : World} {A A3 : Option Addr} {l : List UInt8} (h : CuIn w v A A3 l) (hg : Grown v v') : CuIn w v' A A3 l := ⟨h.grown.trans hg, h.kt.grow hg, h.text.grow hg, h.in_.grow hg⟩

set_option maxHeartbeats 4000000 in
theorem cuts_walk (A : Option Addr) (n c : Nat) (l : List UInt8) (x y : Int) (w : World) (hkt : Kt w) (h : Rd w w.heap.size A l) (hn : l.length = n) (hc : n ≤ c) (hnm : n ≤ 9223372036854775807)
    (hx : -9223372036854775808 ≤ x ∧ x ≤ 9223372036854775807) (hy : -9223372036854775808 ≤ y ∧ y ≤ 9223372036854775807) :
    Calls Tryd.prog 4 #[.slice A n c, .agg #[.int .i64 x, .int .i64 y]] w (Says w true) := by
  have Hn := Lib.hid hn
  have Hx := Lib.hid hx
  have Hy := Lib.hid hy
  have Hkt := Lib.hid (hkt.grow (alloc_below w (.cells #[.int .i64 x, .int .i64 y] 30)))
  have H := Lib.hid (h.grow (alloc_below w (.cells #[.int .i64 x, .int .i64 y] 30)))
  have HA := Lib.hid (heap_alloc_new w (.cells #[.int .i64 x, .int .i64 y] 30))
  have Hb0 := Lib.hid (show Grown w _ from alloc_below w (.cells #[.int .i64 x, .int .i64 y] 30))
  clear hn hx hy hkt h
  go_enter Tryd.func4, Tryd.ntmps4
  go_wp2_with fail
  refine (awake _ Hkt.out).mono ?_
  rintro e w1 ⟨rfl, hb1⟩
  have Hb1 := Lib.hid (Grown.trans Hb0.out hb1)
  have Hkt1 := Lib.hid (Hkt.out.grow hb1)
  have H1 := Lib.hid (H.out.grow hb1)
  have HA1 := Lib.hid (show w1.heap[w.heap.size]? = _ from (hb1.block _ (lt_of_heap HA.out)).trans HA.out)
  clear hb1 Hkt H HA Hb0
  by_cases h600 : n ≤ 600
  · obtain ⟨k, hk⟩ : ∃ k, k = n + 1 := ⟨_, rfl⟩
    have ek : IntKind.i64.wrap ((n : Int) + 1) = (k : Int) := by rw [IntKind.wrap_i64]; omega
    have cx : w1.cell? ⟨w.heap.size, 0, none⟩ = some (.int .i64 x) := by rw [cell_of_row w1 _ 0 _ _ _ HA1.out]; rfl
    have cy : w1.cell? ⟨w.heap.size, 1, none⟩ = some (.int .i64 y) := by rw [cell_of_row w1 _ 1 _ _ _ HA1.out]; rfl
    have Hk := Lib.hid hk
    have hk0 : 0 < k := by omega
    have hk1 : k ≤ 601 := by omega
    clear hk
    obtain ⟨x2, a, hx2, hx3, ha⟩ := cut_num x k hk0 (by omega)
    obtain ⟨y2, b, hy2, hy3, hb⟩ := cut_num y k hk0 (by omega)
    have hkz : ¬ k = 0 := by omega
    go_wp2
    refine wp_region_still_lit (by kernel_rfl) (by kernel_rfl) ?_
    repeat still_step
    refine wpStill_nil ?_
    change Exit.then _ _ _ _ w1.drew
    have Hb2 := Lib.hid (Grown.trans Hb1.out (grown_drew w1))
    have Hkt2 := Lib.hid (Hkt1.out.grow (grown_drew w1))
    have H2 := Lib.hid (H1.out.grow (grown_drew w1))
    generalize w1.drew = w2 at *
    clear HA1 cx cy Hb1 Hkt1 H1 hx2 hx3 hy2 hy3 hkz ek
    have H20 := Lib.hid (H2.out.grow (alloc_below w2 (.cells #[] 5)))
    have Ho0 := Lib.hid (Own.lit w2 [] (Nat.le_refl _) (by decide))
    have hpq : ∃ p q : Nat, p ≤ q ∧ q ≤ n ∧ ((b < a ∧ p = b ∧ q = a) ∨ (¬ b < a ∧ p = a ∧ q = b)) := by
      have := Hk.out
      by_cases hab : b < a
      · exact ⟨b, a, by omega, by omega, .inl ⟨hab, rfl, rfl⟩⟩
      · exact ⟨a, b, by omega, by omega, .inr ⟨hab, rfl, rfl⟩⟩
    obtain ⟨p, q, hp, hq, hcase⟩ := hpq
    rcases hcase with ⟨hab, rfl, rfl⟩ | ⟨hab, rfl, rfl⟩
    all_goals
      go_wp2_with (first
        | (at_builtin
           refine wpList_appK rfl (.tmp 41) (.tmp 42) rfl (n := 0) (l := []) rfl rfl Ho0.out (n2 := n) (l2 := l) Hn.out rfl H20.out (by omega) (by simp) ?_
           intro A3 c3 w3 ho3 hb3 hk3
           have Ho3 := Lib.hid ho3
           have Hb3 := Lib.hid ((alloc_below w2 (.cells #[] 5)).trans hb3)
           clear ho3 hb3 hk3))
      rw [List.nil_append] at Ho3
      have C0 := Lib.hid (show CuIn w w3 A A3 l from ⟨Grown.trans Hb2.out Hb3.out, Hkt2.out.grow Hb3.out, H2.out.grow Hb3.out, Ho3.out.rd⟩)
      have hc3 : n ≤ c3 := by have := Ho3.out.le; rw [Hn.out] at this; exact this
      obtain ⟨Ap, hAp⟩ : ∃ Ap, Ap = (if c3 = p then A3 else A3.map (·.add p)) := ⟨_, rfl⟩
      obtain ⟨Aq, hAq⟩ : ∃ Aq, Aq = (if c3 = q then A3 else A3.map (·.add q)) := ⟨_, rfl⟩
      have s1 := fun W : World => cut_to W A3 n c3 p (by omega)
      have s2 : ∀ W : World, (Instr.slice 24 (.slice A3 n c3) (some (.int .i64 (p : Int))) (some (.int .i64 (q : Int))) none).run Tryd.prog W = .ok (.slice Ap (q - p) (c3 - p)) W := fun W => by rw [hAp]; exact cut_mid W A3 n c3 p q hp (by omega)
      have s3 : ∀ W : World, (Instr.slice 24 (.slice A3 n c3) (some (.int .i64 (q : Int))) none none).run Tryd.prog W = .ok (.slice Aq (n - q) (c3 - q)) W := fun W => by rw [hAq]; exact cut_from W A3 n c3 q hq
      have HAp := Lib.hid hAp
      have HAq := Lib.hid hAq
      obtain ⟨D, hD⟩ : ∃ D, D = arr (digest (sumV l)) := ⟨_, rfl⟩
      have HD := Lib.hid hD
      obtain ⟨dg, hdg⟩ : ∃ dg, dg = digest (sumV l) := ⟨_, rfl⟩
      have Hdl := Lib.hid (show dg.length = 64 by rw [hdg, digest_len])
      have HDg := Lib.hid (show D = (bvs dg).toArray by rw [hD, hdg]; rfl)
      clear hdg hD hAp hAq Ho3 Hb3 Hb2 Hkt2 H2 H20 Ho0
      refine rest_start (by kernel_rfl) fun vv hv => ?_
      have C := Lib.hid (C0.out.grow hv)
      clear hv C0 w3
      refine rest_take (i := 0) rfl (by kernel_rfl) (by kernel_rfl) (by kernel_rfl) (by rfl) (fun w' hg => by go_simp; try with_reducible rfl) ?_
      try simp only [Act.put, List.setIfInBounds_toArray, List.set_cons_zero, List.set_cons_succ]
      refine rest_take (i := 1) rfl (by kernel_rfl) (by kernel_rfl) (by kernel_rfl) (by rfl) (fun w' hg => by go_simp; try with_reducible rfl) ?_
      try simp only [Act.put, List.setIfInBounds_toArray, List.set_cons_zero, List.set_cons_succ]
      refine rest_take (i := 2) rfl (by kernel_rfl) (by kernel_rfl) (by kernel_rfl) (by rfl) (fun w' hg => by go_simp; try with_reducible rfl) ?_
      try simp only [Act.put, List.setIfInBounds_toArray, List.set_cons_zero, List.set_cons_succ]
      refine rest_take (i := 3) rfl (by kernel_rfl) (by kernel_rfl) (by kernel_rfl) (by rfl) (fun w' hg => by go_simp; try with_reducible rfl) ?_
      try simp only [Act.put, List.setIfInBounds_toArray, List.set_cons_zero, List.set_cons_succ]
      refine rest_take (i := 4) rfl (by kernel_rfl) (by kernel_rfl) (by kernel_rfl) (by rfl) (fun w' hg => by go_simp; try with_reducible rfl) ?_
      try simp only [Act.put, List.setIfInBounds_toArray, List.set_cons_zero, List.set_cons_succ]
      refine rest_take (i := 5) rfl (by kernel_rfl) (by kernel_rfl) (by kernel_rfl) (by rfl) (fun w' hg => by go_simp; try with_reducible rfl) ?_
      try simp only [Act.put, List.setIfInBounds_toArray, List.set_cons_zero, List.set_cons_succ]
      refine rest_take (i := 6) rfl (by kernel_rfl) (by kernel_rfl) (by kernel_rfl) (by rfl) (fun w' hg => by go_simp; try with_reducible rfl) ?_
      try simp only [Act.put, List.setIfInBounds_toArray, List.set_cons_zero, List.set_cons_succ]
      refine rest_take (i := 7) rfl (by kernel_rfl) (by kernel_rfl) (by kernel_rfl) (by rfl) (fun w' hg => by go_simp; try with_reducible rfl) ?_
      try simp only [Act.put, List.setIfInBounds_toArray, List.set_cons_zero, List.set_cons_succ]
      refine rest_take (i := 8) rfl (by kernel_rfl) (by kernel_rfl) (by kernel_rfl) (by rfl) (fun w' hg => by go_simp; try with_reducible rfl) ?_
      try simp only [Act.put, List.setIfInBounds_toArray, List.set_cons_zero, List.set_cons_succ]
      refine rest_take (i := 9) rfl (by kernel_rfl) (by kernel_rfl) (by kernel_rfl) (by rfl) (fun w' hg => by go_simp; try with_reducible rfl) ?_
      try simp only [Act.put, List.setIfInBounds_toArray, List.set_cons_zero, List.set_cons_succ]
      refine rest_take (i := 12) rfl (by kernel_rfl) (by kernel_rfl) (by kernel_rfl) (by rfl) (fun w' hg => by go_simp; try with_reducible rfl) ?_
      try simp only [Act.put, List.setIfInBounds_toArray, List.set_cons_zero, List.set_cons_succ]
      clear s1 s2 s3
      refine rest_two (i := 10) (j := 13) rfl rfl (by kernel_rfl) (by rfl) (by rfl) (fun K hK => ?_) (fun K hK => ?_)
      · go_simp
        refine hK.out _ _ (alloc_below _ _) ?_
        clear hK K
        have R3 := Lib.hid (rdL_three C.out.in_ (Hn.out) hp hq hc3)
        have ga := Lib.hid (show Grown vv _ from alloc_below vv (.cells #[.slice A3 p c3, .slice Ap (q - p) (c3 - p), .slice Aq (n - q) (c3 - q)] 24))
        rw [← HAp.out, ← HAq.out] at R3
        replace C := Lib.hid (C.out.grow ga.out)
        clear ga
        generalize vv.alloc (.cells #[.slice A3 p c3, .slice Ap (q - p) (c3 - p), .slice Aq (n - q) (c3 - q)] 24) = v2 at *
        generalize vv.heap.size = g3 at *
        clear vv
        rename World => vv
        try simp only [Act.put, List.setIfInBounds_toArray, List.set_cons_zero, List.set_cons_succ]
        refine rest_two (i := 11) (j := 13) rfl rfl (by kernel_rfl) (by rfl) (by rfl) (fun K hK => ?_) (fun K hK => ?_)
        · go_simp
          refine (sum_put _ 3 3 _ _ C.out.kt R3.out rfl (by omega) (by rw [cut3 l p q hp, Hn.out]; omega)).mono ?_
          rintro e v2 ⟨rfl, hg2⟩
          refine hK.out _ _ hg2 ?_
          clear hK K
          rw [cut3 l p q hp, ← HD.out]
          replace C := Lib.hid (C.out.grow hg2)
          clear R3 hg2 vv
          rename World => vv
          try simp only [Act.put, List.setIfInBounds_toArray, List.set_cons_zero, List.set_cons_succ]
          refine rest_lone (i := 13) rfl (by kernel_rfl) (by rfl) (fun K hK => ?_)
          go_simp
          refine hK.out _ _ (alloc_below _ _) ?_
          clear hK K
          have R1 := Lib.hid (rdL_one C.out.text Hn.out hc (0, 0))
          have ga := Lib.hid (show Grown vv _ from alloc_below vv (.cells #[.slice A n c] 24))
          replace C := Lib.hid (C.out.grow ga.out)
          clear ga
          generalize vv.alloc (.cells #[.slice A n c] 24) = v2 at *
          generalize vv.heap.size = g1 at *
          clear vv
          rename World => vv
          try simp only [Act.put, List.setIfInBounds_toArray, List.set_cons_zero, List.set_cons_succ]
          refine rest_lone (i := 14) rfl (by kernel_rfl) (by rfl) (fun K hK => ?_)
          go_simp
          refine (sum_put _ 1 1 _ _ C.out.kt R1.out rfl (by omega) (by simp [Hn.out]; omega)).mono ?_
          rintro e v2 ⟨rfl, hg2⟩
          refine hK.out _ _ hg2 ?_
          clear hK K
          rw [show [l].flatten = l by simp, ← HD.out]
          replace C := Lib.hid (C.out.grow hg2)
          clear R1 hg2 vv
          rename World => vv
          try simp only [Act.put, List.setIfInBounds_toArray, List.set_cons_zero, List.set_cons_succ]
          refine rest_take (i := 15) rfl (by kernel_rfl) (by kernel_rfl) (by kernel_rfl) (by rfl) (fun w' hg => exec_eq_arr dg 26 64 u64D (by kernel_rfl) Hdl.out (.tmp 55) (.tmp 58) (by rw [← HDg.out]; rfl) (by rw [← HDg.out]; rfl) w') ?_
          try simp only [Act.put, List.setIfInBounds_toArray, List.set_cons_zero, List.set_cons_succ]
          refine rest_take (i := 16) rfl (by kernel_rfl) (by kernel_rfl) (by kernel_rfl) (by rfl) (fun w' hg => by go_simp; try with_reducible rfl) ?_
          try simp only [Act.put, List.setIfInBounds_toArray, List.set_cons_zero, List.set_cons_succ]
          refine rest_take (i := 17) rfl (by kernel_rfl) (by kernel_rfl) (by kernel_rfl) (by rfl) (fun w' hg => by go_simp; try with_reducible rfl) ?_
          try simp only [Act.put, List.setIfInBounds_toArray, List.set_cons_zero, List.set_cons_succ]
          refine rest_take (i := 18) rfl (by kernel_rfl) (by kernel_rfl) (by kernel_rfl) (by rfl) (fun w' hg => by have hc := conv_at C.out.in_ Hn.out c3 w' hg; go_simp; try with_reducible rfl) ?_
          try simp only [Act.put, List.setIfInBounds_toArray, List.set_cons_zero, List.set_cons_succ]
          refine rest_take (i := 19) rfl (by kernel_rfl) (by kernel_rfl) (by kernel_rfl) (by rfl) (fun w' hg => by go_simp; try with_reducible rfl) ?_
          try simp only [Act.put, List.setIfInBounds_toArray, List.set_cons_zero, List.set_cons_succ]
          refine rest_take (i := 20) rfl (by kernel_rfl) (by kernel_rfl) (by kernel_rfl) (by rfl) (fun w' hg => by have hc := conv_at C.out.text Hn.out c w' hg; go_simp; try with_reducible rfl) ?_
          try simp only [Act.put, List.setIfInBounds_toArray, List.set_cons_zero, List.set_cons_succ]
          refine rest_take (i := 21) rfl (by kernel_rfl) (by kernel_rfl) (by kernel_rfl) (by rfl) (fun w' hg => by go_simp; try with_reducible rfl) ?_
          try simp only [Act.put, List.setIfInBounds_toArray, List.set_cons_zero, List.set_cons_succ]
          refine rest_take (i := 22) rfl (by kernel_rfl) (by kernel_rfl) (by kernel_rfl) (by rfl) (fun w' hg => by go_simp; try with_reducible rfl) ?_
          try simp only [Act.put, List.setIfInBounds_toArray, List.set_cons_zero, List.set_cons_succ]
          refine rest_take (i := 23) rfl (by kernel_rfl) (by kernel_rfl) (by kernel_rfl) (by rfl) (fun w' hg => by go_simp; try with_reducible rfl) ?_
          try simp only [Act.put, List.setIfInBounds_toArray, List.set_cons_zero, List.set_cons_succ]
          refine rest_lone (i := 24) rfl (by kernel_rfl) (by rfl) (fun K hK => ?_)
          go_simp
          refine (dfill_any 0 _ (by omega)).mono ?_
          rintro e v2 ⟨A5, c5, rfl, ho5, hb5⟩
          refine hK.out _ _ hb5 ?_
          clear hK K
          rw [show (fillL 0).length = 128 from rfl]
          replace C := Lib.hid (C.out.grow hb5)
          clear ho5 hb5 vv
          rename World => vv
          try simp only [Act.put, List.setIfInBounds_toArray, List.set_cons_zero, List.set_cons_succ]
          refine rest_take (i := 25) rfl (by kernel_rfl) (by kernel_rfl) (by kernel_rfl) (by rfl) (fun w' hg => by go_simp; try with_reducible rfl) ?_
          try simp only [Act.put, List.setIfInBounds_toArray, List.set_cons_zero, List.set_cons_succ]
          refine rest_take (i := 26) rfl (by kernel_rfl) (by kernel_rfl) (by kernel_rfl) (by rfl) (fun w' hg => by go_simp; try with_reducible rfl) ?_
          try simp only [Act.put, List.setIfInBounds_toArray, List.set_cons_zero, List.set_cons_succ]
          refine rest_take (i := 27) rfl (by kernel_rfl) (by kernel_rfl) (by kernel_rfl) (by rfl) (fun w' hg => by go_simp; try with_reducible rfl) ?_
          try simp only [Act.put, List.setIfInBounds_toArray, List.set_cons_zero, List.set_cons_succ]
          refine rest_take (i := 28) rfl (by kernel_rfl) (by kernel_rfl) (by kernel_rfl) (by rfl) (fun w' hg => by go_simp; try with_reducible rfl) ?_
          try simp only [Act.put, List.setIfInBounds_toArray, List.set_cons_zero, List.set_cons_succ]
          refine rest_done (by kernel_rfl) ?_
          go_wp2
          go_ret
          exact ⟨rfl, C.out.grown⟩
        · go_simp
          refine hK.out _ _ (alloc_below _ _) ?_
          clear hK K
          have R1 := Lib.hid (rdL_one C.out.text Hn.out hc (0, 0))
          have ga := Lib.hid (show Grown vv _ from alloc_below vv (.cells #[.slice A n c] 24))
          replace C := Lib.hid (C.out.grow ga.out)
          replace R3 := Lib.hid (rdL_grow R3.out ga.out)
          clear ga
          generalize vv.alloc (.cells #[.slice A n c] 24) = v2 at *
          generalize vv.heap.size = g1 at *
          clear vv
          rename World => vv
          try simp only [Act.put, List.setIfInBounds_toArray, List.set_cons_zero, List.set_cons_succ]
          refine rest_lone (i := 11) rfl (by kernel_rfl) (by rfl) (fun K hK => ?_)
          go_simp
          refine (sum_put _ 3 3 _ _ C.out.kt R3.out rfl (by omega) (by rw [cut3 l p q hp, Hn.out]; omega)).mono ?_
          rintro e v2 ⟨rfl, hg2⟩
          refine hK.out _ _ hg2 ?_
          clear hK K
          rw [cut3 l p q hp, ← HD.out]
          replace C := Lib.hid (C.out.grow hg2)
          replace R1 := Lib.hid (rdL_grow R1.out hg2)
          clear R3 hg2 vv
          rename World => vv
          try simp only [Act.put, List.setIfInBounds_toArray, List.set_cons_zero, List.set_cons_succ]
          refine rest_lone (i := 14) rfl (by kernel_rfl) (by rfl) (fun K hK => ?_)
          go_simp
          refine (sum_put _ 1 1 _ _ C.out.kt R1.out rfl (by omega) (by simp [Hn.out]; omega)).mono ?_
          rintro e v2 ⟨rfl, hg2⟩
          refine hK.out _ _ hg2 ?_
          clear hK K
          rw [show [l].flatten = l by simp, ← HD.out]
          replace C := Lib.hid (C.out.grow hg2)
          clear R1 hg2 vv
          rename World => vv
          try simp only [Act.put, List.setIfInBounds_toArray, List.set_cons_zero, List.set_cons_succ]
          refine rest_take (i := 15) rfl (by kernel_rfl) (by kernel_rfl) (by kernel_rfl) (by rfl) (fun w' hg => exec_eq_arr dg 26 64 u64D (by kernel_rfl) Hdl.out (.tmp 55) (.tmp 58) (by rw [← HDg.out]; rfl) (by rw [← HDg.out]; rfl) w') ?_
          try simp only [Act.put, List.setIfInBounds_toArray, List.set_cons_zero, List.set_cons_succ]
          refine rest_take (i := 16) rfl (by kernel_rfl) (by kernel_rfl) (by kernel_rfl) (by rfl) (fun w' hg => by go_simp; try with_reducible rfl) ?_
          try simp only [Act.put, List.setIfInBounds_toArray, List.set_cons_zero, List.set_cons_succ]
          refine rest_take (i := 17) rfl (by kernel_rfl) (by kernel_rfl) (by kernel_rfl) (by rfl) (fun w' hg => by go_simp; try with_reducible rfl) ?_
          try simp only [Act.put, List.setIfInBounds_toArray, List.set_cons_zero, List.set_cons_succ]
          refine rest_take (i := 18) rfl (by kernel_rfl) (by kernel_rfl) (by kernel_rfl) (by rfl) (fun w' hg => by have hc := conv_at C.out.in_ Hn.out c3 w' hg; go_simp; try with_reducible rfl) ?_
          try simp only [Act.put, List.setIfInBounds_toArray, List.set_cons_zero, List.set_cons_succ]
          refine rest_take (i := 19) rfl (by kernel_rfl) (by kernel_rfl) (by kernel_rfl) (by rfl) (fun w' hg => by go_simp; try with_reducible rfl) ?_
          try simp only [Act.put, List.setIfInBounds_toArray, List.set_cons_zero, List.set_cons_succ]
          refine rest_take (i := 20) rfl (by kernel_rfl) (by kernel_rfl) (by kernel_rfl) (by rfl) (fun w' hg => by have hc := conv_at C.out.text Hn.out c w' hg; go_simp; try with_reducible rfl) ?_
          try simp only [Act.put, List.setIfInBounds_toArray, List.set_cons_zero, List.set_cons_succ]
          refine rest_take (i := 21) rfl (by kernel_rfl) (by kernel_rfl) (by kernel_rfl) (by rfl) (fun w' hg => by go_simp; try with_reducible rfl) ?_
          try simp only [Act.put, List.setIfInBounds_toArray, List.set_cons_zero, List.set_cons_succ]
          refine rest_take (i := 22) rfl (by kernel_rfl) (by kernel_rfl) (by kernel_rfl) (by rfl) (fun w' hg => by go_simp; try with_reducible rfl) ?_
          try simp only [Act.put, List.setIfInBounds_toArray, List.set_cons_zero, List.set_cons_succ]
          refine rest_take (i := 23) rfl (by kernel_rfl) (by kernel_rfl) (by kernel_rfl) (by rfl) (fun w' hg => by go_simp; try with_reducible rfl) ?_
          try simp only [Act.put, List.setIfInBounds_toArray, List.set_cons_zero, List.set_cons_succ]
          refine rest_lone (i := 24) rfl (by kernel_rfl) (by rfl) (fun K hK => ?_)
          go_simp
          refine (dfill_any 0 _ (by omega)).mono ?_
          rintro e v2 ⟨A5, c5, rfl, ho5, hb5⟩
          refine hK.out _ _ hb5 ?_
          clear hK K
          rw [show (fillL 0).length = 128 from rfl]
          replace C := Lib.hid (C.out.grow hb5)
          clear ho5 hb5 vv
          rename World => vv
          try simp only [Act.put, List.setIfInBounds_toArray, List.set_cons_zero, List.set_cons_succ]
          refine rest_take (i := 25) rfl (by kernel_rfl) (by kernel_rfl) (by kernel_rfl) (by rfl) (fun w' hg => by go_simp; try with_reducible rfl) ?_
          try simp only [Act.put, List.setIfInBounds_toArray, List.set_cons_zero, List.set_cons_succ]
          refine rest_take (i := 26) rfl (by kernel_rfl) (by kernel_rfl) (by kernel_rfl) (by rfl) (fun w' hg => by go_simp; try with_reducible rfl) ?_
          try simp only [Act.put, List.setIfInBounds_toArray, List.set_cons_zero, List.set_cons_succ]
          refine rest_take (i := 27) rfl (by kernel_rfl) (by kernel_rfl) (by kernel_rfl) (by rfl) (fun w' hg => by go_simp; try with_reducible rfl) ?_
          try simp only [Act.put, List.setIfInBounds_toArray, List.set_cons_zero, List.set_cons_succ]
          refine rest_take (i := 28) rfl (by kernel_rfl) (by kernel_rfl) (by kernel_rfl) (by rfl) (fun w' hg => by go_simp; try with_reducible rfl) ?_
          try simp only [Act.put, List.setIfInBounds_toArray, List.set_cons_zero, List.set_cons_succ]
          refine rest_done (by kernel_rfl) ?_
          go_wp2
          go_ret
          exact ⟨rfl, C.out.grown⟩
      · go_simp
        refine hK.out _ _ (alloc_below _ _) ?_
        clear hK K
        have R1 := Lib.hid (rdL_one C.out.text Hn.out hc (0, 0))
        have ga := Lib.hid (show Grown vv _ from alloc_below vv (.cells #[.slice A n c] 24))
        replace C := Lib.hid (C.out.grow ga.out)
        clear ga
        generalize vv.alloc (.cells #[.slice A n c] 24) = v2 at *
        generalize vv.heap.size = g1 at *
        clear vv
        rename World => vv
        try simp only [Act.put, List.setIfInBounds_toArray, List.set_cons_zero, List.set_cons_succ]
        refine rest_lone (i := 10) rfl (by kernel_rfl) (by rfl) (fun K hK => ?_)
        go_simp
        refine hK.out _ _ (alloc_below _ _) ?_
        clear hK K
        have R3 := Lib.hid (rdL_three C.out.in_ (Hn.out) hp hq hc3)
        have ga := Lib.hid (show Grown vv _ from alloc_below vv (.cells #[.slice A3 p c3, .slice Ap (q - p) (c3 - p), .slice Aq (n - q) (c3 - q)] 24))
        rw [← HAp.out, ← HAq.out] at R3
        replace C := Lib.hid (C.out.grow ga.out)
        replace R1 := Lib.hid (rdL_grow R1.out ga.out)
        clear ga
        generalize vv.alloc (.cells #[.slice A3 p c3, .slice Ap (q - p) (c3 - p), .slice Aq (n - q) (c3 - q)] 24) = v2 at *
        generalize vv.heap.size = g3 at *
        clear vv
        rename World => vv
        try simp only [Act.put, List.setIfInBounds_toArray, List.set_cons_zero, List.set_cons_succ]
        refine rest_lone (i := 11) rfl (by kernel_rfl) (by rfl) (fun K hK => ?_)
        go_simp
        refine (sum_put _ 3 3 _ _ C.out.kt R3.out rfl (by omega) (by rw [cut3 l p q hp, Hn.out]; omega)).mono ?_
        rintro e v2 ⟨rfl, hg2⟩
        refine hK.out _ _ hg2 ?_
        clear hK K
        rw [cut3 l p q hp, ← HD.out]
        replace C := Lib.hid (C.out.grow hg2)
        replace R1 := Lib.hid (rdL_grow R1.out hg2)
        clear R3 hg2 vv
        rename World => vv
        try simp only [Act.put, List.setIfInBounds_toArray, List.set_cons_zero, List.set_cons_succ]
        refine rest_lone (i := 14) rfl (by kernel_rfl) (by rfl) (fun K hK => ?_)
        go_simp
        refine (sum_put _ 1 1 _ _ C.out.kt R1.out rfl (by omega) (by simp [Hn.out]; omega)).mono ?_
        rintro e v2 ⟨rfl, hg2⟩
        refine hK.out _ _ hg2 ?_
        clear hK K
        rw [show [l].flatten = l by simp, ← HD.out]
        replace C := Lib.hid (C.out.grow hg2)
        clear R1 hg2 vv
        rename World => vv
        try simp only [Act.put, List.setIfInBounds_toArray, List.set_cons_zero, List.set_cons_succ]
        refine rest_take (i := 15) rfl (by kernel_rfl) (by kernel_rfl) (by kernel_rfl) (by rfl) (fun w' hg => exec_eq_arr dg 26 64 u64D (by kernel_rfl) Hdl.out (.tmp 55) (.tmp 58) (by rw [← HDg.out]; rfl) (by rw [← HDg.out]; rfl) w') ?_
        try simp only [Act.put, List.setIfInBounds_toArray, List.set_cons_zero, List.set_cons_succ]
        refine rest_take (i := 16) rfl (by kernel_rfl) (by kernel_rfl) (by kernel_rfl) (by rfl) (fun w' hg => by go_simp; try with_reducible rfl) ?_
        try simp only [Act.put, List.setIfInBounds_toArray, List.set_cons_zero, List.set_cons_succ]
        refine rest_take (i := 17) rfl (by kernel_rfl) (by kernel_rfl) (by kernel_rfl) (by rfl) (fun w' hg => by go_simp; try with_reducible rfl) ?_
        try simp only [Act.put, List.setIfInBounds_toArray, List.set_cons_zero, List.set_cons_succ]
        refine rest_take (i := 18) rfl (by kernel_rfl) (by kernel_rfl) (by kernel_rfl) (by rfl) (fun w' hg => by have hc := conv_at C.out.in_ Hn.out c3 w' hg; go_simp; try with_reducible rfl) ?_
        try simp only [Act.put, List.setIfInBounds_toArray, List.set_cons_zero, List.set_cons_succ]
        refine rest_take (i := 19) rfl (by kernel_rfl) (by kernel_rfl) (by kernel_rfl) (by rfl) (fun w' hg => by go_simp; try with_reducible rfl) ?_
        try simp only [Act.put, List.setIfInBounds_toArray, List.set_cons_zero, List.set_cons_succ]
        refine rest_take (i := 20) rfl (by kernel_rfl) (by kernel_rfl) (by kernel_rfl) (by rfl) (fun w' hg => by have hc := conv_at C.out.text Hn.out c w' hg; go_simp; try with_reducible rfl) ?_
        try simp only [Act.put, List.setIfInBounds_toArray, List.set_cons_zero, List.set_cons_succ]
        refine rest_take (i := 21) rfl (by kernel_rfl) (by kernel_rfl) (by kernel_rfl) (by rfl) (fun w' hg => by go_simp; try with_reducible rfl) ?_
        try simp only [Act.put, List.setIfInBounds_toArray, List.set_cons_zero, List.set_cons_succ]
        refine rest_take (i := 22) rfl (by kernel_rfl) (by kernel_rfl) (by kernel_rfl) (by rfl) (fun w' hg => by go_simp; try with_reducible rfl) ?_
        try simp only [Act.put, List.setIfInBounds_toArray, List.set_cons_zero, List.set_cons_succ]
        refine rest_take (i := 23) rfl (by kernel_rfl) (by kernel_rfl) (by kernel_rfl) (by rfl) (fun w' hg => by go_simp; try with_reducible rfl) ?_
        try simp only [Act.put, List.setIfInBounds_toArray, List.set_cons_zero, List.set_cons_succ]
        refine rest_lone (i := 24) rfl (by kernel_rfl) (by rfl) (fun K hK => ?_)
        go_simp
        refine (dfill_any 0 _ (by omega)).mono ?_
        rintro e v2 ⟨A5, c5, rfl, ho5, hb5⟩
        refine hK.out _ _ hb5 ?_
        clear hK K
        rw [show (fillL 0).length = 128 from rfl]
        replace C := Lib.hid (C.out.grow hb5)
        clear ho5 hb5 vv
        rename World => vv
        try simp only [Act.put, List.setIfInBounds_toArray, List.set_cons_zero, List.set_cons_succ]
        refine rest_take (i := 25) rfl (by kernel_rfl) (by kernel_rfl) (by kernel_rfl) (by rfl) (fun w' hg => by go_simp; try with_reducible rfl) ?_
        try simp only [Act.put, List.setIfInBounds_toArray, List.set_cons_zero, List.set_cons_succ]
        refine rest_take (i := 26) rfl (by kernel_rfl) (by kernel_rfl) (by kernel_rfl) (by rfl) (fun w' hg => by go_simp; try with_reducible rfl) ?_
        try simp only [Act.put, List.setIfInBounds_toArray, List.set_cons_zero, List.set_cons_succ]
        refine rest_take (i := 27) rfl (by kernel_rfl) (by kernel_rfl) (by kernel_rfl) (by rfl) (fun w' hg => by go_simp; try with_reducible rfl) ?_
        try simp only [Act.put, List.setIfInBounds_toArray, List.set_cons_zero, List.set_cons_succ]
        refine rest_take (i := 28) rfl (by kernel_rfl) (by kernel_rfl) (by kernel_rfl) (by rfl) (fun w' hg => by go_simp; try with_reducible rfl) ?_
        try simp only [Act.put, List.setIfInBounds_toArray, List.set_cons_zero, List.set_cons_succ]
        refine rest_done (by kernel_rfl) ?_
        go_wp2
        go_ret
        exact ⟨rfl, C.out.grown⟩
  · go_wp2_with fail
    refine (awake _ Hkt1.out).mono ?_
    rintro e w2 ⟨rfl, hb2⟩
    have Hb2 := Lib.hid hb2
    clear hb2
    go_wp2
    go_ret
    exact ⟨rfl, Grown.trans (show Grown w w1 from Hb1.out) (show Grown w1 w2 from Hb2.out)⟩
end Go.Proofs.YtbelcocgkimkbaaDoor.S4
