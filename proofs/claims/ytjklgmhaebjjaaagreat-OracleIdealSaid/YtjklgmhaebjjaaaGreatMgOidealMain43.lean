/-
  OracleIdeal out of the program's contracts.
-/
import Derived.Test.YtjklgmhaebjjaaaGreatMgOidealMain42
namespace Go.Proofs.YtjklgmhaebjjaaaGreat.S12
open S11
open Go.RowKit
set_option linter.unusedVariables false
set_option linter.unusedSimpArgs false

/-- What the last region reads all along: the pair, the act. -/
def Sd (P G R b o : Nat) (ac : Ac) (Ak : Option Addr) (nk ck : Nat) (Ax1 : Option Addr) (nx cx : Nat) (v : World) : Prop :=
  v.cell? ⟨P, 0, none⟩ = some (.pointer (some ⟨G, 0, none⟩)) ∧ v.cell? ⟨P, 1, none⟩ = some (.pointer (some ⟨R, 0, none⟩)) ∧ v.cell? ⟨b, o, none⟩ = some (.int .i64 ac.k) ∧ v.cell? ⟨b, o + 1, none⟩ = some (.int .i64 ac.n) ∧ v.cell? ⟨b, o + 2, none⟩ = some (.int .i64 ac.number) ∧ v.cell? ⟨b, o + 3, none⟩ = some (.slice Ak nk ck) ∧ v.cell? ⟨b, o + 4, none⟩ = some (.slice Ax1 nx cx)
theorem sd_of {M : Mod} {O Q : Ob M} {B P G R b o : Nat} {v : World} {F F2 : Nat → Prop} {st st2 : M.σ} {ac : Ac} {Ak : Option Addr} {nk ck : Nat} {Ax1 : Option Addr} {nx cx : Nat} (h : Two M O Q B P G R v F F2 st st2) (hc : RdC v B b o ac Ak nk ck Ax1 nx cx) : Sd P G R b o ac Ak nk ck Ax1 nx cx v :=
  ⟨h.cP, h.cR, hc.c0, hc.c1, hc.c2, hc.c3, hc.c4⟩

set_option maxHeartbeats 8000000 in
set_option maxRecDepth 20000 in
theorem ideal_walk {MR : Mod} {s0 : MR.σ} {T : Nat → World → Prop} {OI : Nat → Ob idealM} {OR : Nat → Ob MR} (K : OracleOk MR s0 T OI OR) (A : Option Addr) (n c : Nat) (seed : List UInt8) (D : Option Addr) (m d : Nat) (acts : List Ac) (w : World) (hT : T w.heap.size w)
    (hA : Rd w w.heap.size A seed) (hn : seed.length = n) (hc : n ≤ c) (hD : RdAct w w.heap.size D acts) (hm : acts.length = m) (hd : m ≤ d) :
    Calls Tryz.prog 3 #[.slice A n c, .slice D m d] w fun e w' => e = .returned (.bool true) ∧ Below w.heap.size w w' := by
  have HA := Lib.hid hA
  have HN := Lib.hid hn
  have HD := Lib.hid hD
  have HM := Lib.hid hm
  have HT := Lib.hid hT
  have KK := Lib.hid K
  clear hA hn hD hm hT
  by_cases h1 : (n : Int) > 2000
  · go_enter Tryz.func3, Tryz.ntmps3
    go_wp2_with fail
    refine (awakeO KK.out w.heap.size w HT.out (Nat.le_refl _)).mono ?_
    rintro e w1 ⟨rfl, hg1⟩
    have T1 := Lib.hid (KK.out.tk _ w w1 HT.out (Nat.le_refl _) hg1)
    go_wp2_with fail
    refine (awakeO KK.out w.heap.size w1 T1.out hg1.size).mono ?_
    rintro e w2 ⟨rfl, hg2⟩
    have HG := Lib.hid (Grown.trans hg1 hg2)
    go_wp2
    go_ret
    exact ⟨rfl, HG.out⟩
  by_cases h2 : (m : Int) > 20
  · go_enter Tryz.func3, Tryz.ntmps3
    go_wp2_with fail
    refine (awakeO KK.out w.heap.size w HT.out (Nat.le_refl _)).mono ?_
    rintro e w1 ⟨rfl, hg1⟩
    have T1 := Lib.hid (KK.out.tk _ w w1 HT.out (Nat.le_refl _) hg1)
    go_wp2_with fail
    refine (awakeO KK.out w.heap.size w1 T1.out hg1.size).mono ?_
    rintro e w2 ⟨rfl, hg2⟩
    have HG := Lib.hid (Grown.trans hg1 hg2)
    go_wp2
    go_ret
    exact ⟨rfl, HG.out⟩
  go_enter Tryz.func3, Tryz.ntmps3
  go_wp2_with fail
  refine (awakeO KK.out w.heap.size w HT.out (Nat.le_refl _)).mono ?_
  rintro e w1 ⟨rfl, hg1⟩
  have G1 := Lib.hid hg1
  have T1 := Lib.hid (KK.out.tk _ w w1 HT.out (Nat.le_refl _) hg1)
  have A1 := Lib.hid (show Rd w1 w.heap.size A seed from HA.out.below hg1)
  have hn2 : n ≤ 2000 := by omega
  have hm2 : m ≤ 20 := by omega
  clear hg1 h1 h2
  have RB := Lib.hid (Nat.le_refl w.heap.size)
  go_wp2_with fail
  refine (KK.out.ideal w.heap.size w1 A n c seed T1.out G1.out.size (A1.out.more G1.out.size) HN.out hc hn2).mono ?_
  rintro e w2 ⟨G, F, rfl, hO, hF, hg⟩
  have KI := Lib.hid (KK.out.pI w.heap.size)
  have KR := Lib.hid (refIdeal w.heap.size w2.heap.size)
  have G2 := Lib.hid (Grown.trans G1.out hg)
  have A2 := Lib.hid (show Rd w2 w.heap.size A seed from A1.out.below (Below.mono hg G1.out.size))
  have HO2 := Lib.hid hO
  have HF2 := Lib.hid (show ∀ k, F k → w.heap.size ≤ k from fun k hk => Nat.le_trans G1.out.size (hF k hk))
  clear hO hF hg A1 G1 T1
  go_wp2_with fail
  obtain ⟨P, hP⟩ : ∃ P, P = w2.heap.size + 1 := ⟨_, rfl⟩
  obtain ⟨R, hR⟩ : ∃ R, R = w2.heap.size := ⟨_, rfl⟩
  have HT0 := Lib.hid (show Two idealM (OI w.heap.size) (refO w.heap.size w2.heap.size) w.heap.size P G R ((w2.alloc (.cells (OzC A n c none 0 0 none 0 0 false 0) 33)).alloc (.cells #[.pointer (some ⟨G, 0, none⟩), .pointer (some ⟨R, 0, none⟩)] 35)) F (RF R none none) (emp0 seed) (emp0 seed) by
    have g3 : Grown w2 (w2.alloc (.cells (OzC A n c none 0 0 none 0 0 false 0) 33)) := alloc_below w2 _
    have g4 := alloc_below (w2.alloc (.cells (OzC A n c none 0 0 none 0 0 false 0) 33)) (.cells #[.pointer (some ⟨G, 0, none⟩), .pointer (some ⟨R, 0, none⟩)] 35)
    have g24 : Grown w2 _ := Grown.trans g3 g4
    have hs3 : (w2.alloc (.cells (OzC A n c none 0 0 none 0 0 false 0) 33)).heap.size = w2.heap.size + 1 := by simp
    have hnew := heap_alloc_new (w2.alloc (.cells (OzC A n c none 0 0 none 0 0 false 0) 33)) (.cells #[.pointer (some ⟨G, 0, none⟩), .pointer (some ⟨R, 0, none⟩)] 35)
    rw [hs3] at hnew
    have hrow : ((w2.alloc (.cells (OzC A n c none 0 0 none 0 0 false 0) 33)).alloc (.cells #[.pointer (some ⟨G, 0, none⟩), .pointer (some ⟨R, 0, none⟩)] 35)).heap[R]? = some (.cells (OzC A n c none 0 0 none 0 0 false 0) 33 (0, 0)) := by
      have h0 := (g4.block w2.heap.size (by rw [hs3]; omega)).trans (heap_alloc_new w2 _)
      rw [← hR] at h0
      exact h0
    have hfl : ∀ k, F k → k < w2.heap.size := KI.out.toKept.foot w2 G F _ HO2.out
    have hsz : ((w2.alloc (.cells (OzC A n c none 0 0 none 0 0 false 0) 33)).alloc (.cells #[.pointer (some ⟨G, 0, none⟩), .pointer (some ⟨R, 0, none⟩)] 35)).heap.size = w2.heap.size + 2 := by simp
    exact {
      p := KI.out.toKept.grow HO2.out G2.out.size g24
      r := ⟨none, none, ⟨by rw [hR]; exact Nat.le_refl _, (fun x y hx => by cases hx), A, n, c, 0, 0, hrow, HN.out, hc, A2.out.below (Below.mono g24 G2.out.size), OwnR.nil _ _, OwnR.nil _ _⟩, G2.out.size, by rw [hsz]; omega, fun k => Iff.rfl⟩
      apart := fun k hk hr => by
        have := hfl k hk
        rcases hr with rfl | ⟨x, hx, _⟩ | ⟨x, hx, _⟩
        · omega
        · cases hx
        · cases hx
      pB := HF2.out
      rB := fun k hr => by
        rcases hr with rfl | ⟨x, hx, _⟩ | ⟨x, hx, _⟩
        · rw [hR]; exact G2.out.size
        · cases hx
        · cases hx
      bw := by rw [hsz]; have := G2.out.size; omega
      cP := by rw [hP, cell_of_row _ (w2.heap.size + 1) 0 _ 35 (0, 0) hnew]; rfl
      cR := by rw [hP, cell_of_row _ (w2.heap.size + 1) 1 _ 35 (0, 0) hnew]; rfl
      lt := by rw [hsz]; omega
      BP := by rw [hP]; have := G2.out.size; omega
      nP := fun hk => by have := hfl P hk; omega
      nR := fun hr => by
        rcases hr with e | ⟨x, hx, _⟩ | ⟨x, hx, _⟩
        · omega
        · cases hx
        · cases hx })
  have C4 := Lib.hid (show Below w.heap.size w ((w2.alloc (.cells (OzC A n c none 0 0 none 0 0 false 0) 33)).alloc (.cells #[.pointer (some ⟨G, 0, none⟩), .pointer (some ⟨R, 0, none⟩)] 35)) from Below.trans G2.out (Below.mono (Grown.trans (alloc_below w2 (.cells (OzC A n c none 0 0 none 0 0 false 0) 33)) (alloc_below (w2.alloc (.cells (OzC A n c none 0 0 none 0 0 false 0) 33)) (.cells #[.pointer (some ⟨G, 0, none⟩), .pointer (some ⟨R, 0, none⟩)] 35))) G2.out.size))
  rw [show (#[.bool true, .slice A n c, .slice none 0 0, .slice none 0 0, .bool false, .int .i64 0, .int .i64 0] : Array Value) = OzC A n c none 0 0 none 0 0 false 0 from rfl]
  rw [← hP, ← hR]
  have HR1 := Lib.hid (show w.heap.size ≤ R from by rw [hR]; exact G2.out.size)
  clear hP HO2 HF2 A2 G2
  generalize (w2.alloc _).alloc _ = w4 at HT0 C4 ⊢
  generalize w2.heap.size = base at *
  clear hR
  go_loopw [6] (fun v6 wr => ∃ (i : Nat) (st : St) (F F2 : Nat → Prop), v6 = .int .i64 (i : Int) ∧ i ≤ m ∧ Hid (Nm st (5 * i)) ∧ Hid (Two idealM (OI w.heap.size) (refO w.heap.size base) w.heap.size P G R wr F F2 st st) ∧ Hid (Below w.heap.size w wr)) (fun v6 _ => m - (intOf v6).toNat)
  case atStart => exact ⟨0, emp0 seed, F, _, rfl, Nat.zero_le _, nm_emp seed, HT0.out, C4.out⟩
  case round =>
    clear HT0 C4
    obtain ⟨i, st, F, F2, rfl, hi, HNum, HTw, HB⟩ := hrel
    by_cases hlt : i < m
    · have bi : (i : Int) < (m : Int) := by omega
      have hil : i < acts.length := by have := HM.out; omega
      obtain ⟨b, off, hDe, hb, hcells⟩ : ∃ b off, D = some ⟨b, off, none⟩ ∧ b < w.heap.size ∧ ∀ i (h : i < acts.length), ∃ Ak nk ck Ax1 nx cx, RdC w w.heap.size b (off + i * 5) acts[i] Ak nk ck Ax1 nx cx := by
        rcases HD.out with e | h
        · rw [e] at hil; simp at hil
        · exact h
      obtain ⟨Ak, nk, ck, Ax1, nx, cx, hcs⟩ := hcells i hil
      obtain ⟨ac, hac⟩ : ∃ ac, ac = acts[i] := ⟨_, rfl⟩
      rw [← hac] at hcs
      subst hDe
      clear hac hcells
      have HC := Lib.hid (hcs.below hb HB.out)
      have k0 := HC.out.c0
      have k1 := HC.out.c1
      have k2 := HC.out.c2
      have k3 := HC.out.c3
      have k4 := HC.out.c4
      clear hcs
      go_wp2_with fail
      refine (small_any ac.k ac.n ac.number Ak nk ck Ax1 nx cx wr).mono ?_
      rintro e w5 ⟨rfl, hg⟩
      have HT5 := Lib.hid (HTw.out.grow KI.out.toKept KR.out.toKept hg)
      have HB5 := Lib.hid (show Below w.heap.size w w5 from Below.trans HB.out (Below.mono hg HB.out.size))
      have HC5 := Lib.hid (HC.out.below hb (Below.mono hg HB.out.size))
      clear hg HTw HB HC k0 k1 k2 k3 k4
      by_cases hsm : smallB nk nx ac.n = false
      · rw [hsm]
        go_wp2
        go_ret
        exact ⟨rfl, HB5.out⟩
      have HSm := Lib.hid (show smallB nk nx ac.n = true by simpa using hsm)
      rw [HSm.out]
      clear hsm
      go_wp2_with fail
      try simp only [Act.put, List.setIfInBounds_toArray, List.set_cons_zero, List.set_cons_succ]
      refine restS_begin (Sd P G R b (off + i * 5) ac Ak nk ck Ax1 nx cx) (by kernel_rfl) ?_
      have GG := Lib.hid (show Grown w5 w5.drew from (Below.refl _ w5).drew)
      have HT6 := Lib.hid (HT5.out.grow KI.out.toKept KR.out.toKept GG.out)
      have HB6 := Lib.hid (show Below w.heap.size w w5.drew from HB5.out.drew)
      have HC6 := Lib.hid (HC5.out.below hb (Below.mono GG.out HB5.out.size))
      clear HT5 HB5 HC5 GG
      generalize w5.drew = w6 at HT6 HB6 HC6 ⊢
      have S6 := Lib.hid (sd_of HT6.out HC6.out)
      refine restS_take (i := 0) S6.out rfl (by kernel_rfl) (by kernel_rfl) (by kernel_rfl) (by rfl) (fun v hv => by obtain ⟨v1, v2, v3, v4, v5, v6, v7⟩ := hv; go_simp; try with_reducible rfl) ?_
      try simp only [Act.put, List.setIfInBounds_toArray, List.set_cons_zero, List.set_cons_succ]
      refine restS_take (i := 1) S6.out rfl (by kernel_rfl) (by kernel_rfl) (by kernel_rfl) (by rfl) (fun v hv => by obtain ⟨v1, v2, v3, v4, v5, v6, v7⟩ := hv; go_simp; try with_reducible rfl) ?_
      try simp only [Act.put, List.setIfInBounds_toArray, List.set_cons_zero, List.set_cons_succ]
      refine restS_take (i := 2) S6.out rfl (by kernel_rfl) (by kernel_rfl) (by kernel_rfl) (by rfl) (fun v hv => by obtain ⟨v1, v2, v3, v4, v5, v6, v7⟩ := hv; go_simp; try with_reducible rfl) ?_
      try simp only [Act.put, List.setIfInBounds_toArray, List.set_cons_zero, List.set_cons_succ]
      refine restS_take (i := 3) S6.out rfl (by kernel_rfl) (by kernel_rfl) (by kernel_rfl) (by rfl) (fun v hv => by obtain ⟨v1, v2, v3, v4, v5, v6, v7⟩ := hv; go_simp; try with_reducible rfl) ?_
      try simp only [Act.put, List.setIfInBounds_toArray, List.set_cons_zero, List.set_cons_succ]
      refine restS_take (i := 4) S6.out rfl (by kernel_rfl) (by kernel_rfl) (by kernel_rfl) (by rfl) (fun v hv => by obtain ⟨v1, v2, v3, v4, v5, v6, v7⟩ := hv; go_simp; try with_reducible rfl) ?_
      try simp only [Act.put, List.setIfInBounds_toArray, List.set_cons_zero, List.set_cons_succ]
      refine restS_lone (i := 5) rfl (by kernel_rfl) (by rfl) (fun K hK => ?_)
      go_simp
      refine (does_any KI.out KR.out w6 F F2 st (5 * i) HT6.out HNum.out (by omega) ac.k ac.n ac.number Ak nk ck ac.key Ax1 nx cx ac.x HC6.out.rk HC6.out.lk HC6.out.qk HC6.out.rx HC6.out.lx HC6.out.qx HSm.out HC6.out.i1.1 HC6.out.i1.2 HC6.out.i2.1 HC6.out.i2.2).mono ?_
      rintro e w7 ⟨st', hnum, rfl, F3, F4, hT7, hB7⟩
      have HT7 := Lib.hid hT7
      have HN7 := Lib.hid (show Nm st' (5 * (i + 1)) from hnum)
      have HB7 := Lib.hid (Below.trans HB6.out hB7)
      have HC7 := Lib.hid (HC6.out.below hb hB7)
      have S7 := Lib.hid (sd_of HT7.out HC7.out)
      clear hT7 hnum hB7 HT6 HB6 HC6 S6
      refine hK.out _ _ S7.out ?_
      clear hK K
      try simp only [Act.put, List.setIfInBounds_toArray, List.set_cons_zero, List.set_cons_succ]
      have HRc := Lib.hid (show w7.cell? ⟨R, 4, none⟩ = some (.bool st'.bad) ∧ w7.cell? ⟨R, 5, none⟩ = some (.int .i64 (st'.cnt : Int)) by
        obtain ⟨Af, Ap, ⟨_, _, A9, n9, c9, cf, cp, hR, _⟩, _⟩ := HT7.out.r
        exact ⟨cell_of_row w7 R 4 _ _ (0, 0) hR, cell_of_row w7 R 5 _ _ (0, 0) hR⟩)
      have hRlt : R < w7.heap.size := HT7.out.r.elim fun Af h => h.elim fun Ap h => (h.1.lt R (.inl rfl)).2
      refine restS_mono (S' := fun v => Sd P G R b (off + i * 5) ac Ak nk ck Ax1 nx cx v ∧ v.cell? ⟨R, 4, none⟩ = some (.bool st'.bad) ∧ v.cell? ⟨R, 5, none⟩ = some (.int .i64 (st'.cnt : Int))) (fun v hv => hv.1) ?_
      have S8 := Lib.hid (show Sd P G R b (off + i * 5) ac Ak nk ck Ax1 nx cx w7 ∧ w7.cell? ⟨R, 4, none⟩ = some (.bool st'.bad) ∧ w7.cell? ⟨R, 5, none⟩ = some (.int .i64 (st'.cnt : Int)) from ⟨S7.out, HRc.out⟩)
      refine restS_take (i := 6) S8.out rfl (by kernel_rfl) (by kernel_rfl) (by kernel_rfl) (by rfl) (fun v hv => by obtain ⟨⟨v1, v2, v3, v4, v5, v6, v7⟩, v8, v9⟩ := hv; go_simp; try with_reducible rfl) ?_
      try simp only [Act.put, List.setIfInBounds_toArray, List.set_cons_zero, List.set_cons_succ]
      refine restS_take (i := 7) S8.out rfl (by kernel_rfl) (by kernel_rfl) (by kernel_rfl) (by rfl) (fun v hv => by obtain ⟨⟨v1, v2, v3, v4, v5, v6, v7⟩, v8, v9⟩ := hv; go_simp; try with_reducible rfl) ?_
      try simp only [Act.put, List.setIfInBounds_toArray, List.set_cons_zero, List.set_cons_succ]
      refine restS_take (i := 8) S8.out rfl (by kernel_rfl) (by kernel_rfl) (by kernel_rfl) (by rfl) (fun v hv => by obtain ⟨⟨v1, v2, v3, v4, v5, v6, v7⟩, v8, v9⟩ := hv; go_simp; try with_reducible rfl) ?_
      try simp only [Act.put, List.setIfInBounds_toArray, List.set_cons_zero, List.set_cons_succ]
      refine restS_take (i := 9) S8.out rfl (by kernel_rfl) (by kernel_rfl) (by kernel_rfl) (by rfl) (fun v hv => by obtain ⟨⟨v1, v2, v3, v4, v5, v6, v7⟩, v8, v9⟩ := hv; go_simp; try with_reducible rfl) ?_
      try simp only [Act.put, List.setIfInBounds_toArray, List.set_cons_zero, List.set_cons_succ]
      refine restS_take (i := 10) S8.out rfl (by kernel_rfl) (by kernel_rfl) (by kernel_rfl) (by rfl) (fun v hv => by obtain ⟨⟨v1, v2, v3, v4, v5, v6, v7⟩, v8, v9⟩ := hv; go_simp; try with_reducible rfl) ?_
      try simp only [Act.put, List.setIfInBounds_toArray, List.set_cons_zero, List.set_cons_succ]
      refine restS_take (i := 11) S8.out rfl (by kernel_rfl) (by kernel_rfl) (by kernel_rfl) (by rfl) (fun v hv => by obtain ⟨⟨v1, v2, v3, v4, v5, v6, v7⟩, v8, v9⟩ := hv; go_simp; try with_reducible rfl) ?_
      try simp only [Act.put, List.setIfInBounds_toArray, List.set_cons_zero, List.set_cons_succ]
      refine restS_take (i := 13) S8.out rfl (by kernel_rfl) (by kernel_rfl) (by kernel_rfl) (by rfl) (fun v hv => by obtain ⟨⟨v1, v2, v3, v4, v5, v6, v7⟩, v8, v9⟩ := hv; go_simp; try with_reducible rfl) ?_
      try simp only [Act.put, List.setIfInBounds_toArray, List.set_cons_zero, List.set_cons_succ]
      refine restS_take (i := 14) S8.out rfl (by kernel_rfl) (by kernel_rfl) (by kernel_rfl) (by rfl) (fun v hv => by obtain ⟨⟨v1, v2, v3, v4, v5, v6, v7⟩, v8, v9⟩ := hv; go_simp; try with_reducible rfl) ?_
      try simp only [Act.put, List.setIfInBounds_toArray, List.set_cons_zero, List.set_cons_succ]
      refine restS_take (i := 15) S8.out rfl (by kernel_rfl) (by kernel_rfl) (by kernel_rfl) (by rfl) (fun v hv => by obtain ⟨⟨v1, v2, v3, v4, v5, v6, v7⟩, v8, v9⟩ := hv; go_simp; try with_reducible rfl) ?_
      try simp only [Act.put, List.setIfInBounds_toArray, List.set_cons_zero, List.set_cons_succ]
      refine restS_take (i := 16) S8.out rfl (by kernel_rfl) (by kernel_rfl) (by kernel_rfl) (by rfl) (fun v hv => by obtain ⟨⟨v1, v2, v3, v4, v5, v6, v7⟩, v8, v9⟩ := hv; go_simp; try with_reducible rfl) ?_
      try simp only [Act.put, List.setIfInBounds_toArray, List.set_cons_zero, List.set_cons_succ]
      refine restS_take (i := 17) S8.out rfl (by kernel_rfl) (by kernel_rfl) (by kernel_rfl) (by rfl) (fun v hv => by obtain ⟨⟨v1, v2, v3, v4, v5, v6, v7⟩, v8, v9⟩ := hv; go_simp; try with_reducible rfl) ?_
      try simp only [Act.put, List.setIfInBounds_toArray, List.set_cons_zero, List.set_cons_succ]
      refine restS_take (i := 18) S8.out rfl (by kernel_rfl) (by kernel_rfl) (by kernel_rfl) (by rfl) (fun v hv => by obtain ⟨⟨v1, v2, v3, v4, v5, v6, v7⟩, v8, v9⟩ := hv; go_simp; try with_reducible rfl) ?_
      try simp only [Act.put, List.setIfInBounds_toArray, List.set_cons_zero, List.set_cons_succ]
      refine restS_take (i := 19) S8.out rfl (by kernel_rfl) (by kernel_rfl) (by kernel_rfl) (by rfl) (fun v hv => by obtain ⟨⟨v1, v2, v3, v4, v5, v6, v7⟩, v8, v9⟩ := hv; go_simp; try with_reducible rfl) ?_
      try simp only [Act.put, List.setIfInBounds_toArray, List.set_cons_zero, List.set_cons_succ]
      refine restS_take (i := 20) S8.out rfl (by kernel_rfl) (by kernel_rfl) (by kernel_rfl) (by rfl) (fun v hv => by obtain ⟨⟨v1, v2, v3, v4, v5, v6, v7⟩, v8, v9⟩ := hv; go_simp; try with_reducible rfl) ?_
      try simp only [Act.put, List.setIfInBounds_toArray, List.set_cons_zero, List.set_cons_succ]
      refine restS_lone (i := 12) rfl (by kernel_rfl) (by rfl) (fun K hK => ?_)
      go_simp
      refine (KI.out.bad w7 G F3 st' HT7.out.p).mono ?_
      rw [show idealM.bad st' = st'.bad from rfl]
      rintro e w8 ⟨rfl, hg⟩
      have HT8 := Lib.hid (HT7.out.grow KI.out.toKept KR.out.toKept hg)
      have HB8 := Lib.hid (show Below w.heap.size w w8 from Below.trans HB7.out (Below.mono hg HB7.out.size))
      have HC8 := Lib.hid (HC7.out.below hb (Below.mono hg HB7.out.size))
      have S9 := Lib.hid (show Sd P G R b (off + i * 5) ac Ak nk ck Ax1 nx cx w8 ∧ w8.cell? ⟨R, 4, none⟩ = some (.bool st'.bad) ∧ w8.cell? ⟨R, 5, none⟩ = some (.int .i64 (st'.cnt : Int)) from ⟨sd_of HT8.out HC8.out, (hg.cell (p := ⟨R, 4, none⟩) hRlt).trans HRc.out.1, (hg.cell (p := ⟨R, 5, none⟩) hRlt).trans HRc.out.2⟩)
      have HRl := Lib.hid (Nat.lt_of_lt_of_le hRlt hg.size)
      clear HT7 HB7 HC7 S7 S8 hg hRlt
      refine hK.out _ _ S9.out ?_
      clear hK K
      try simp only [Act.put, List.setIfInBounds_toArray, List.set_cons_zero, List.set_cons_succ]
      refine restS_take (i := 21) S9.out rfl (by kernel_rfl) (by kernel_rfl) (by kernel_rfl) (by rfl) (fun v hv => by obtain ⟨⟨v1, v2, v3, v4, v5, v6, v7⟩, v8, v9⟩ := hv; go_simp; try with_reducible rfl) ?_
      try simp only [Act.put, List.setIfInBounds_toArray, List.set_cons_zero, List.set_cons_succ]
      refine restS_take (i := 22) S9.out rfl (by kernel_rfl) (by kernel_rfl) (by kernel_rfl) (by rfl) (fun v hv => by obtain ⟨⟨v1, v2, v3, v4, v5, v6, v7⟩, v8, v9⟩ := hv; go_simp; try with_reducible rfl) ?_
      try simp only [Act.put, List.setIfInBounds_toArray, List.set_cons_zero, List.set_cons_succ]
      refine restS_take (i := 23) S9.out rfl (by kernel_rfl) (by kernel_rfl) (by kernel_rfl) (by rfl) (fun v hv => by obtain ⟨⟨v1, v2, v3, v4, v5, v6, v7⟩, v8, v9⟩ := hv; go_simp; try with_reducible rfl) ?_
      try simp only [Act.put, List.setIfInBounds_toArray, List.set_cons_zero, List.set_cons_succ]
      refine restS_take (i := 24) S9.out rfl (by kernel_rfl) (by kernel_rfl) (by kernel_rfl) (by rfl) (fun v hv => by obtain ⟨⟨v1, v2, v3, v4, v5, v6, v7⟩, v8, v9⟩ := hv; go_simp; try with_reducible rfl) ?_
      try simp only [Act.put, List.setIfInBounds_toArray, List.set_cons_zero, List.set_cons_succ]
      refine restS_take (i := 25) S9.out rfl (by kernel_rfl) (by kernel_rfl) (by kernel_rfl) (by rfl) (fun v hv => by obtain ⟨⟨v1, v2, v3, v4, v5, v6, v7⟩, v8, v9⟩ := hv; go_simp; try with_reducible rfl) ?_
      try simp only [Act.put, List.setIfInBounds_toArray, List.set_cons_zero, List.set_cons_succ]
      refine restS_take (i := 26) S9.out rfl (by kernel_rfl) (by kernel_rfl) (by kernel_rfl) (by rfl) (fun v hv => by obtain ⟨⟨v1, v2, v3, v4, v5, v6, v7⟩, v8, v9⟩ := hv; go_simp; try with_reducible rfl) ?_
      try simp only [Act.put, List.setIfInBounds_toArray, List.set_cons_zero, List.set_cons_succ]
      refine restS_take (i := 27) S9.out rfl (by kernel_rfl) (by kernel_rfl) (by kernel_rfl) (by rfl) (fun v hv => by obtain ⟨⟨v1, v2, v3, v4, v5, v6, v7⟩, v8, v9⟩ := hv; go_simp; try with_reducible rfl) ?_
      try simp only [Act.put, List.setIfInBounds_toArray, List.set_cons_zero, List.set_cons_succ]
      refine restS_take (i := 29) S9.out rfl (by kernel_rfl) (by kernel_rfl) (by kernel_rfl) (by rfl) (fun v hv => by obtain ⟨⟨v1, v2, v3, v4, v5, v6, v7⟩, v8, v9⟩ := hv; go_simp; try with_reducible rfl) ?_
      try simp only [Act.put, List.setIfInBounds_toArray, List.set_cons_zero, List.set_cons_succ]
      refine restS_take (i := 30) S9.out rfl (by kernel_rfl) (by kernel_rfl) (by kernel_rfl) (by rfl) (fun v hv => by obtain ⟨⟨v1, v2, v3, v4, v5, v6, v7⟩, v8, v9⟩ := hv; go_simp; try with_reducible rfl) ?_
      try simp only [Act.put, List.setIfInBounds_toArray, List.set_cons_zero, List.set_cons_succ]
      refine restS_take (i := 31) S9.out rfl (by kernel_rfl) (by kernel_rfl) (by kernel_rfl) (by rfl) (fun v hv => by obtain ⟨⟨v1, v2, v3, v4, v5, v6, v7⟩, v8, v9⟩ := hv; go_simp; try with_reducible rfl) ?_
      try simp only [Act.put, List.setIfInBounds_toArray, List.set_cons_zero, List.set_cons_succ]
      refine restS_take (i := 32) S9.out rfl (by kernel_rfl) (by kernel_rfl) (by kernel_rfl) (by rfl) (fun v hv => by obtain ⟨⟨v1, v2, v3, v4, v5, v6, v7⟩, v8, v9⟩ := hv; go_simp; try with_reducible rfl) ?_
      try simp only [Act.put, List.setIfInBounds_toArray, List.set_cons_zero, List.set_cons_succ]
      refine restS_take (i := 33) S9.out rfl (by kernel_rfl) (by kernel_rfl) (by kernel_rfl) (by rfl) (fun v hv => by obtain ⟨⟨v1, v2, v3, v4, v5, v6, v7⟩, v8, v9⟩ := hv; go_simp; try with_reducible rfl) ?_
      try simp only [Act.put, List.setIfInBounds_toArray, List.set_cons_zero, List.set_cons_succ]
      refine restS_take (i := 34) S9.out rfl (by kernel_rfl) (by kernel_rfl) (by kernel_rfl) (by rfl) (fun v hv => by obtain ⟨⟨v1, v2, v3, v4, v5, v6, v7⟩, v8, v9⟩ := hv; go_simp; try with_reducible rfl) ?_
      try simp only [Act.put, List.setIfInBounds_toArray, List.set_cons_zero, List.set_cons_succ]
      refine restS_take (i := 35) S9.out rfl (by kernel_rfl) (by kernel_rfl) (by kernel_rfl) (by rfl) (fun v hv => by obtain ⟨⟨v1, v2, v3, v4, v5, v6, v7⟩, v8, v9⟩ := hv; go_simp; try with_reducible rfl) ?_
      try simp only [Act.put, List.setIfInBounds_toArray, List.set_cons_zero, List.set_cons_succ]
      refine restS_take (i := 36) S9.out rfl (by kernel_rfl) (by kernel_rfl) (by kernel_rfl) (by rfl) (fun v hv => by obtain ⟨⟨v1, v2, v3, v4, v5, v6, v7⟩, v8, v9⟩ := hv; go_simp; try with_reducible rfl) ?_
      try simp only [Act.put, List.setIfInBounds_toArray, List.set_cons_zero, List.set_cons_succ]
      refine restS_lone (i := 28) rfl (by kernel_rfl) (by rfl) (fun K hK => ?_)
      go_simp
      refine (KI.out.queries w8 G F3 st' (5 * (i + 1)) HT8.out.p HN7.out (by omega)).mono ?_
      rw [show idealM.cnt st' = st'.cnt from rfl]
      rintro e w9 ⟨rfl, hg⟩
      have HT9 := Lib.hid (HT8.out.grow KI.out.toKept KR.out.toKept hg)
      have HB9 := Lib.hid (show Below w.heap.size w w9 from Below.trans HB8.out (Below.mono hg HB8.out.size))
      have HC9 := Lib.hid (HC8.out.below hb (Below.mono hg HB8.out.size))
      have S10 := Lib.hid (show Sd P G R b (off + i * 5) ac Ak nk ck Ax1 nx cx w9 ∧ w9.cell? ⟨R, 4, none⟩ = some (.bool st'.bad) ∧ w9.cell? ⟨R, 5, none⟩ = some (.int .i64 (st'.cnt : Int)) from ⟨sd_of HT9.out HC9.out, (hg.cell (p := ⟨R, 4, none⟩) HRl.out).trans S9.out.2.1, (hg.cell (p := ⟨R, 5, none⟩) HRl.out).trans S9.out.2.2⟩)
      clear HT8 HB8 HC8 S9 hg
      refine hK.out _ _ S10.out ?_
      clear hK K
      try simp only [Act.put, List.setIfInBounds_toArray, List.set_cons_zero, List.set_cons_succ]
      refine restS_take (i := 37) S10.out rfl (by kernel_rfl) (by kernel_rfl) (by kernel_rfl) (by rfl) (fun v hv => by obtain ⟨⟨v1, v2, v3, v4, v5, v6, v7⟩, v8, v9⟩ := hv; go_simp; try with_reducible rfl) ?_
      try simp only [Act.put, List.setIfInBounds_toArray, List.set_cons_zero, List.set_cons_succ]
      refine restS_take (i := 38) S10.out rfl (by kernel_rfl) (by kernel_rfl) (by kernel_rfl) (by rfl) (fun v hv => by obtain ⟨⟨v1, v2, v3, v4, v5, v6, v7⟩, v8, v9⟩ := hv; go_simp; try with_reducible rfl) ?_
      try simp only [Act.put, List.setIfInBounds_toArray, List.set_cons_zero, List.set_cons_succ]
      refine restS_done (by kernel_rfl) ?_
      go_wp2
      go_roundw
      case rel => exact ⟨i + 1, st', F3, F4, rfl, by omega, HN7.out, HT9.out, HB9.out⟩
      case measure => simp [intOf]; omega
    · have bi : ¬ (i : Int) < (m : Int) := by omega
      go_wp2
      go_ret
      exact ⟨rfl, HB.out⟩
end Go.Proofs.YtjklgmhaebjjaaaGreat.S12
