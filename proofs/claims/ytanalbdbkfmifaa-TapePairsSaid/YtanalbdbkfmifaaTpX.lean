/-
  TapePairs out of the program's contracts.
-/
import Derived.Test.YtanalbdbkfmifaaTpB
import Derived.Test.YtanalbdbkfmifaaTpQ
import Derived.Test.YtanalbdbkfmifaaGrt
import Derived.Test.YtanalbdbkfmifaaEqg
namespace Go.Proofs.Ytanalbdbkfmifaa.S11
open Go.RowKit
set_option linter.unusedVariables false
set_option linter.unusedSimpArgs false

theorem pr_more (st : St) (name x : List UInt8) (first : Bool) : (prOp st name x first).2.ps.length ≤ st.ps.length + 1 := by
  unfold prOp
  split
  · exact Nat.le_succ _
  · split
    · exact Nat.le_succ _
    · show (st.ps ++ _).length ≤ _
      simp
/-- Two texts asked one behind the other: alike exactly if the answers are. -/
theorem pr_two {st : St} (h : Good st.ps) (name x y : List UInt8) (hx : x ≠ []) (hy : y ≠ []) (hp : st.ps.length ≤ 200) :
    (prOp st name x true).1 = (prOp (prOp st name x true).2 name y true).1 ↔ x = y := by
  obtain ⟨t, ht, hn, hs, ha⟩ := pr_told st name x true hx
  have g1 := pr_good h name x true (by omega)
  constructor
  · intro e
    obtain ⟨u, hu, hn2, hs2, ha2⟩ := pr_told (prOp st name x true).2 name y true hy
    have hl : (prOp st name x true).2.ps.length ≤ 255 := by have := pr_more st name x true; omega
    have g2 := pr_good g1 name y true hl
    have ht2 := pr_keeps (prOp st name x true).2 name y true t ht
    have hy' : t.y = u.y := by
      have e1 : t.y = (prOp st name x true).1 := ha
      have e2 : u.y = (prOp (prOp st name x true).2 name y true).1 := ha2
      rw [e1, e2, e]
    have := (good_one g2 ht2 hu (hn.trans hn2.symm) (.inr hy')).1
    have e1 : t.x = x := hs
    have e2 : u.x = y := hs2
    rw [← e1, ← e2, this]
  · intro e
    subst e
    have := pr_again g1 ht true (by rw [hs]; exact hx)
    rw [hn, hs] at this
    rw [this]
    exact ha.symm
/-- The partner's partner. -/
theorem pr_back {st st' : St} (h : Good st'.ps) (name x : List UInt8) (first : Bool) (hx : x ≠ []) (hk : ∀ t ∈ (prOp st name x first).2.ps, t ∈ st'.ps) (hne : (prOp st name x first).1 ≠ []) : prOp st' name (prOp st name x first).1 (!first) = (x, st') := by
  obtain ⟨t, ht, hn, hs, ha⟩ := pr_told st name x first hx
  have e : side (!first) t = (prOp st name x first).1 := by rw [← ha, ans_side]
  have := pr_again h (hk t ht) (!first) (by rw [e]; exact hne)
  rw [hn, e] at this
  rw [this]
  have e2 : ans (!first) t = x := by rw [← hs]; cases first <;> rfl
  rw [e2]
theorem pr_few {st : St} {i : Nat} (h : Num st i) (name x : List UInt8) (first : Bool) : (prOp st name x first).2.ps.length ≤ i + 1 := (num_pr h name x first).2.1
theorem cut_two (W : World) (g o : Nat) : (Instr.sliceAt 41 (.pointer (some ⟨g, o, none⟩)) none none none).run Try.prog W = .ok (.slice (some ⟨g, o, none⟩) 2 2) W := by
  obtain ⟨i0, hi0, hz0, hz1, hz2⟩ := info_parts info5
  have hel : Try.prog.elem 41 = 5 := by kernel_rfl
  have hl : Try.prog.arrayLen 41 = 2 := by kernel_rfl
  rw [run_sliceAt_array_all (P := Try.prog) W 41 ⟨g, o, none⟩ (by rw [hel, hl]; kernel_rfl), hel, hl]
  simp [sizeOf, typeInfo, hi0, hz1, slicedAt, Result.andThen, Addr.add_mid]

set_option maxHeartbeats 8000000 in
set_option maxRecDepth 20000 in
theorem pairs_walk {Lz : Tab} (K : TapeOk Lz) (A : Option Addr) (n c : Nat) (seed : List UInt8) (D : Option Addr) (m d : Nat) (acts : List Ac) (x0 x1 y0 y1 : UInt8) (w : World) (hA : Rd w w.heap.size A seed) (hn : seed.length = n) (hc : n ≤ c) (hD : RdA w w.heap.size D acts) (hm : acts.length = m) (hd : m ≤ d) :
    Calls Try.prog 4 #[.slice A n c, .slice D m d, .agg #[.int .u8 (x0.toNat : Int), .int .u8 (x1.toNat : Int), .int .u8 (y0.toNat : Int), .int .u8 (y1.toNat : Int)]] w fun e w' => e = .returned (.bool true) ∧ Below w.heap.size w w' := by
  have HA := Lib.hid hA
  have HN := Lib.hid hn
  have HD := Lib.hid hD
  have HM := Lib.hid hm
  clear hA hn hD hm
  obtain ⟨wx, hwx⟩ : ∃ wx, wx = w.alloc (.cells #[.int .u8 (x0.toNat : Int), .int .u8 (x1.toNat : Int), .int .u8 (y0.toNat : Int), .int .u8 (y1.toNat : Int)] 42) := ⟨_, rfl⟩
  have GX := Lib.hid (show Grown w wx by rw [hwx]; exact alloc_below w _)
  have BX := Lib.hid (show wx.heap[w.heap.size]? = some (.cells #[.int .u8 (x0.toNat : Int), .int .u8 (x1.toNat : Int), .int .u8 (y0.toNat : Int), .int .u8 (y1.toNat : Int)] 42 (0, 0)) by rw [hwx]; exact heap_alloc_new w _)
  have HWX := Lib.hid hwx
  clear hwx
  by_cases h1 : (n : Int) > 300
  · go_enter Try.func4, Try.ntmps4
    go_wp2_with fail
    rw [← HWX.out]
    refine (awakeT K wx).mono ?_
    rintro e w1 ⟨rfl, hg1⟩
    go_wp2_with fail
    refine (awakeT K w1).mono ?_
    rintro e w2 ⟨rfl, hg2⟩
    have HG := Lib.hid (Grown.trans GX.out (Grown.trans hg1 hg2))
    go_wp2
    go_ret
    exact ⟨rfl, HG.out⟩
  by_cases h2 : (m : Int) > 30
  · go_enter Try.func4, Try.ntmps4
    go_wp2_with fail
    rw [← HWX.out]
    refine (awakeT K wx).mono ?_
    rintro e w1 ⟨rfl, hg1⟩
    go_wp2_with fail
    refine (awakeT K w1).mono ?_
    rintro e w2 ⟨rfl, hg2⟩
    have HG := Lib.hid (Grown.trans GX.out (Grown.trans hg1 hg2))
    go_wp2
    go_ret
    exact ⟨rfl, HG.out⟩
  go_enter Try.func4, Try.ntmps4
  go_wp2_with fail
  rw [← HWX.out]
  refine (awakeT K wx).mono ?_
  rintro e w1 ⟨rfl, hg1⟩
  have G1 := Lib.hid (Grown.trans GX.out hg1)
  have B1 := Lib.hid ((hg1.block _ (lt_of_heap BX.out)).trans BX.out)
  have hn5 : n ≤ 300 := by omega
  have hm5 : m ≤ 30 := by omega
  clear hg1 HWX BX GX
  obtain ⟨gx, hgx⟩ : ∃ gx, gx = w.heap.size := ⟨_, rfl⟩
  rw [← hgx] at B1 ⊢
  go_wp2_with fail
  refine (K.new A n c seed w1 (HA.out.grow G1.out) HN.out hc (by omega)).mono ?_
  rintro e w3 ⟨G, F, rfl, hl, hF, hg⟩
  have Z3 := Lib.hid (show Since Lz w w3 G F (emp seed) from ⟨hl, fun k hk => Nat.le_trans G1.out.size (hF k hk), Grown.trans G1.out hg⟩)
  have B3 := Lib.hid ((hg.block _ (lt_of_heap B1.out)).trans B1.out)
  have HFX := Lib.hid (show ∀ k, F k → k ≠ gx from fun k hk e => by have := hF k hk; have := lt_of_heap B1.out; omega)
  have HGX := Lib.hid hgx
  clear hl hF hg G1 B1 hgx
  go_wp2_with fail
  go_loopw [8] (fun v8 wr => ∃ (i : Nat) (st : St) (F : Nat → Prop), v8 = .int .i64 (i : Int) ∧ i ≤ m ∧ Hid (Num st i) ∧ Hid (Good st.ps) ∧ Hid (Since Lz w wr G F st) ∧ Hid (∀ k, F k → k ≠ gx) ∧ Hid (wr.heap[gx]? = some (.cells #[.int .u8 (x0.toNat : Int), .int .u8 (x1.toNat : Int), .int .u8 (y0.toNat : Int), .int .u8 (y1.toNat : Int)] 42 (0, 0)))) (fun v8 _ => m - (intOf v8).toNat)
  case atStart => exact ⟨0, emp seed, F, rfl, Nat.zero_le _, ⟨Nat.le_refl _, Nat.le_refl _, Nat.le_refl _⟩, good_nil, Z3.out, HFX.out, B3.out⟩
  case round =>
    clear Z3 B3 HFX
    obtain ⟨i, st, F, rfl, hi, HNum, HGd, HZ, HFX, HBX⟩ := hrel
    by_cases hlt : i < m
    · have bi : (i : Int) < (m : Int) := by omega
      have hil : i < acts.length := by have := HM.out; omega
      obtain ⟨b, off, hDe, hb, hcells⟩ : ∃ b off, D = some ⟨b, off, none⟩ ∧ b < w.heap.size ∧ ∀ i (h : i < acts.length), w.cell? ⟨b, off + i * 4, none⟩ = some (.int .i64 acts[i].k) ∧ w.cell? ⟨b, off + i * 4 + 1, none⟩ = some (.int .i64 acts[i].n) ∧ w.cell? ⟨b, off + i * 4 + 2, none⟩ = some (.string ⟨acts[i].name.toArray⟩) ∧ w.cell? ⟨b, off + i * 4 + 3, none⟩ = some (.string ⟨acts[i].x.toArray⟩) := by
        rcases HD.out with e | h
        · rw [e] at hil; simp at hil
        · exact h
      obtain ⟨k0, k1, k2, k3⟩ := hcells i hil
      obtain ⟨ac, hac⟩ : ∃ ac, ac = acts[i] := ⟨_, rfl⟩
      rw [← hac] at k0 k1 k2 k3
      have hcell : ∀ j, wr.cell? ⟨b, j, none⟩ = w.cell? ⟨b, j, none⟩ := fun j => World.cell?_of_block (HZ.out.2.2.block b hb)
      rw [← hcell] at k0 k1 k2 k3
      subst hDe
      obtain ⟨ak, an, nm, ax⟩ := ac
      simp only at k0 k1 k2 k3
      clear hac hcell hcells k1 k2
      by_cases t1 : (ax.length : Int) > 50
      · have HG := Lib.hid HZ.out.2.2
        go_wp2
        go_ret
        exact ⟨rfl, HG.out⟩
      · have hx50 : ax.length ≤ 50 := by omega
        obtain ⟨cb, wb, hcvb, hcb, hbq, hgb⟩ := conv_bq wr ax
        obtain ⟨xl, hxl⟩ : ∃ xl, xl = ax.length := ⟨_, rfl⟩
        rw [← hxl] at hcvb hcb
        have HXL := Lib.hid hxl
        have hxl50 : xl ≤ 50 := by omega
        obtain ⟨gb, hgb2⟩ : ∃ gb, gb = wr.heap.size := ⟨_, rfl⟩
        have HFB := Lib.hid (show ∀ k, F k → k ≠ gb from fun k hk e => by have := K.foot wr G F st HZ.out.1 k hk; omega)
        have Rb := Lib.hid hbq.rd
        rw [← hgb2] at hcvb
        rw [← hgb2] at Rb
        have Zb := Lib.hid (HZ.out.grow K hgb)
        have Bb := Lib.hid ((hgb.block _ (lt_of_heap HBX.out)).trans HBX.out)
        clear hxl hgb2 hbq hgb HZ HBX t1
        have fin : ∀ (first : Bool) (w7 : World) (A7 : Option Addr) (n7 c7 : Nat) (F7 : Nat → Prop), Lz w7 G F7 (prOp st [112] ax first).2 → (∀ k, F7 k → F k ∨ wb.heap.size ≤ k) → Ch F wb w7 → Num (prOp st [112] ax first).2 (i + 1) ∧ Good (prOp st [112] ax first).2.ps ∧ Since Lz w w7 G F7 (prOp st [112] ax first).2 ∧ (∀ k, F7 k → k ≠ gx) ∧ w7.heap[gx]? = some (.cells #[.int .u8 (x0.toNat : Int), .int .u8 (x1.toNat : Int), .int .u8 (y0.toNat : Int), .int .u8 (y1.toNat : Int)] 42 (0, 0)) := fun first w7 A7 n7 c7 F7 hz hf hch =>
          ⟨num_pr HNum.out _ _ _, pr_good HGd.out _ _ _ (by have := HNum.out.2.1; omega), Zb.out.step hz hf hch, fun k hk e => by
            rcases hf k hk with h8 | h8
            · exact HFX.out k h8 e
            · have := lt_of_heap Bb.out; omega, (hch.block _ (lt_of_heap Bb.out) (fun hfx => HFX.out _ hfx rfl)).trans Bb.out⟩
        have FIN := Lib.hid fin
        clear fin
        go_wp2_with fail
        all_goals (first
          | (refine (K.forw wb G F st [112] (some ⟨gb, 0, none⟩) xl cb ax Zb.out.1 (HNum.out.few (by omega)) (by simp) (by omega) HXL.out.symm hcb Rb.out (fun y hy _ hf => by simp only [Option.some.injEq] at hy; subst hy; exact HFB.out _ hf rfl)).mono ?_
             rintro e w7 ⟨A7, n7, c7, F7, rfl, hl7, hc7, hr7, ha7, hz7, hf7, hch7⟩
             have FN := Lib.hid (FIN.out true w7 A7 n7 c7 F7 hz7 hf7 hch7))
          | (refine (K.back wb G F st [112] (some ⟨gb, 0, none⟩) xl cb ax Zb.out.1 (HNum.out.few (by omega)) (by simp) (by omega) HXL.out.symm hcb Rb.out (fun y hy _ hf => by simp only [Option.some.injEq] at hy; subst hy; exact HFB.out _ hf rfl)).mono ?_
             rintro e w7 ⟨A7, n7, c7, F7, rfl, hl7, hc7, hr7, ha7, hz7, hf7, hch7⟩
             have FN := Lib.hid (FIN.out false w7 A7 n7 c7 F7 hz7 hf7 hch7)))
        all_goals
          clear hl7 hc7 hr7 ha7 hz7 hf7 hch7 hcvb Zb Bb FIN
          go_wp2
          go_roundw
          case rel => exact ⟨i + 1, _, F7, by go_num, by omega, FN.out.1, FN.out.2.1, FN.out.2.2.1, FN.out.2.2.2.1, FN.out.2.2.2.2⟩
          case measure => simp [intOf]; omega
    · have bi : ¬ (i : Int) < (m : Int) := by omega
      rw [HGX.out] at HBX HFX
      have HC := Lib.hid (show ∀ v : World, v.heap[w.heap.size]? = some (.cells #[.int .u8 (x0.toNat : Int), .int .u8 (x1.toNat : Int), .int .u8 (y0.toNat : Int), .int .u8 (y1.toNat : Int)] 42 (0, 0)) → v.cell? ⟨w.heap.size, 0, none⟩ = some (.int .u8 (x0.toNat : Int)) ∧ v.cell? ⟨w.heap.size, 1, none⟩ = some (.int .u8 (x1.toNat : Int)) ∧ v.cell? ⟨w.heap.size, 2, none⟩ = some (.int .u8 (y0.toNat : Int)) ∧ v.cell? ⟨w.heap.size, 3, none⟩ = some (.int .u8 (y1.toNat : Int)) from fun v hv => ⟨cell_of_row v _ 0 _ _ (0, 0) hv, cell_of_row v _ 1 _ _ (0, 0) hv, cell_of_row v _ 2 _ _ (0, 0) hv, cell_of_row v _ 3 _ _ (0, 0) hv⟩)
      have RX := Lib.hid (show ∀ v : World, v.heap[w.heap.size]? = some (.cells #[.int .u8 (x0.toNat : Int), .int .u8 (x1.toNat : Int), .int .u8 (y0.toNat : Int), .int .u8 (y1.toNat : Int)] 42 (0, 0)) → Rd v v.heap.size (some ⟨w.heap.size, 0, none⟩) [x0, x1] from fun v hv => .inr ⟨_, 0, rfl, lt_of_heap hv, fun j hj => by
        obtain ⟨c1, c2, c3, c4⟩ := HC.out v hv
        match j, hj with
        | 0, _ => exact c1
        | 1, _ => exact c2⟩)
      have RY := Lib.hid (show ∀ v : World, v.heap[w.heap.size]? = some (.cells #[.int .u8 (x0.toNat : Int), .int .u8 (x1.toNat : Int), .int .u8 (y0.toNat : Int), .int .u8 (y1.toNat : Int)] 42 (0, 0)) → Rd v v.heap.size (some ⟨w.heap.size, 2, none⟩) [y0, y1] from fun v hv => .inr ⟨_, 2, rfl, lt_of_heap hv, fun j hj => by
        obtain ⟨c1, c2, c3, c4⟩ := HC.out v hv
        match j, hj with
        | 0, _ => exact c3
        | 1, _ => exact c4⟩)
      have hsT0 : ∀ V : World, (Instr.sliceAt 41 (.pointer (some ⟨w.heap.size, 0, none⟩)) none none none).run Try.prog V = .ok (.slice (some ⟨w.heap.size, 0, none⟩) 2 2) V := fun V => cut_two V _ 0
      have hsT2 : ∀ V : World, (Instr.sliceAt 41 (.pointer (some ⟨w.heap.size, 2, none⟩)) none none none).run Try.prog V = .ok (.slice (some ⟨w.heap.size, 2, none⟩) 2 2) V := fun V => cut_two V _ 2
      obtain ⟨la, hla⟩ : ∃ la, la = (prOp st [112] [x0, x1] true).1 := ⟨_, rfl⟩
      obtain ⟨s1, hs1⟩ : ∃ s1, s1 = (prOp st [112] [x0, x1] true).2 := ⟨_, rfl⟩
      obtain ⟨lb, hlb⟩ : ∃ lb, lb = (prOp s1 [112] [y0, y1] true).1 := ⟨_, rfl⟩
      obtain ⟨s2, hs2⟩ : ∃ s2, s2 = (prOp s1 [112] [y0, y1] true).2 := ⟨_, rfl⟩
      obtain ⟨lc, hlc⟩ : ∃ lc, lc = (prOp s2 [112] [y0, y1] false).1 := ⟨_, rfl⟩
      obtain ⟨s3, hs3⟩ : ∃ s3, s3 = (prOp s2 [112] [y0, y1] false).2 := ⟨_, rfl⟩
      have N1 := Lib.hid (show Num s1 (i + 1) by rw [hs1]; exact num_pr HNum.out _ _ _)
      have N2 := Lib.hid (show Num s2 (i + 1 + 1) by rw [hs2]; exact num_pr N1.out _ _ _)
      have N3 := Lib.hid (show Num s3 (i + 1 + 1 + 1) by rw [hs3]; exact num_pr N2.out _ _ _)
      have D1 := Lib.hid (show Good s1.ps by rw [hs1]; exact pr_good HGd.out _ _ _ (by have := HNum.out.2.1; omega))
      have D2 := Lib.hid (show Good s2.ps by rw [hs2]; exact pr_good D1.out _ _ _ (by have := N1.out.2.1; omega))
      have D3 := Lib.hid (show Good s3.ps by rw [hs3]; exact pr_good D2.out _ _ _ (by have := N2.out.2.1; omega))
      have LA := Lib.hid (show la.length = 2 by rw [hla]; exact pr_len HGd.out [112] [x0, x1] true (by have := HNum.out.2.1; omega))
      have LB := Lib.hid (show lb.length = 2 by rw [hlb]; exact pr_len D1.out [112] [y0, y1] true (by have := N1.out.2.1; omega))
      have LC := Lib.hid (show lc.length = 2 by rw [hlc]; exact pr_len D2.out [112] [y0, y1] false (by have := N2.out.2.1; omega))
      have ne2 : ∀ l : List UInt8, l.length = 2 → l ≠ [] := fun l hl e => by rw [e] at hl; cases hl
      have E1 := Lib.hid (show (prOp st [112] [x0, x1] true) = (la, s1) by rw [hla, hs1])
      have E2 := Lib.hid (show (prOp s1 [112] [y0, y1] true) = (lb, s2) by rw [hlb, hs2])
      have E3 := Lib.hid (show (prOp s2 [112] [y0, y1] false) = (lc, s3) by rw [hlc, hs3])
      have EAB := Lib.hid (show la = lb ↔ [x0, x1] = [y0, y1] by rw [hla, hlb, hs1]; exact pr_two HGd.out [112] [x0, x1] [y0, y1] (by simp) (by simp) (by have := HNum.out.2.1; omega))
      have EBK := Lib.hid (show prOp s2 [112] la false = ([x0, x1], s2) by
        have := pr_back (st := st) (st' := s2) D2.out [112] [x0, x1] true (by simp) (fun t ht => by rw [hs2]; exact pr_keeps _ _ _ _ _ (by rw [hs1]; exact ht)) (by rw [← hla]; exact ne2 _ LA.out)
        rw [← hla] at this
        exact this)
      have EFW := Lib.hid (show prOp s3 [112] lc true = ([y0, y1], s3) by
        have := pr_back (st := s2) (st' := s3) D3.out [112] [y0, y1] false (by simp) (fun t ht => by rw [hs3]; exact ht) (by rw [← hlc]; exact ne2 _ LC.out)
        rw [← hlc] at this
        exact this)
      clear hla hs1 hlb hs2 hlc hs3 ne2
      obtain ⟨eb, heb⟩ : ∃ eb, eb = decide (([x0, x1] : List UInt8) = [y0, y1]) := ⟨_, rfl⟩
      have hEQ : ∀ V : World, (Op.equalIn 10000 41 (.agg #[.int .u8 (x0.toNat : Int), .int .u8 (x1.toNat : Int)]) (.agg #[.int .u8 (y0.toNat : Int), .int .u8 (y1.toNat : Int)])).run Try.prog V = .ok eb V := fun V => by
        rw [heb]
        exact eq_two_in [x0, x1] [y0, y1] 41 2 (by kernel_rfl) rfl rfl 9998 V
      have hlab : (la == lb) = eb := by
        rw [heb, Bool.eq_iff_iff]
        simp only [beq_iff_eq, decide_eq_true_eq]
        exact EAB.out
      have hl2 : ((la.length : Int) == 2) = true := by rw [LA.out]; rfl
      have hl2b : (la.length : Int) = 2 := by rw [LA.out]; rfl
      have BX0 := Lib.hid (show ∀ v : World, v.heap[w.heap.size]? = some (.cells #[.int .u8 (x0.toNat : Int), .int .u8 (x1.toNat : Int), .int .u8 (y0.toNat : Int), .int .u8 (y1.toNat : Int)] 42 (0, 0)) → (convert 22 9 (.slice (some ⟨w.heap.size, 0, none⟩) 2 2)).run Try.prog v = .ok (.string ⟨#[x0, x1]⟩) v from fun v hv => conv (RX.out v hv) 2)
      have BY0 := Lib.hid (show ∀ v : World, v.heap[w.heap.size]? = some (.cells #[.int .u8 (x0.toNat : Int), .int .u8 (x1.toNat : Int), .int .u8 (y0.toNat : Int), .int .u8 (y1.toNat : Int)] 42 (0, 0)) → (convert 22 9 (.slice (some ⟨w.heap.size, 2, none⟩) 2 2)).run Try.prog v = .ok (.string ⟨#[y0, y1]⟩) v from fun v hv => conv (RY.out v hv) 2)
      clear heb
      go_wp2_with fail
      try simp only [Act.put, List.setIfInBounds_toArray, List.set_cons_zero, List.set_cons_succ]
      refine restS_begin (fun v : World => v.heap[w.heap.size]? = some (.cells #[.int .u8 (x0.toNat : Int), .int .u8 (x1.toNat : Int), .int .u8 (y0.toNat : Int), .int .u8 (y1.toNat : Int)] 42 (0, 0))) (by kernel_rfl) ?_
      have S4 := Lib.hid (show wr.drew.heap[w.heap.size]? = some (.cells #[.int .u8 (x0.toNat : Int), .int .u8 (x1.toNat : Int), .int .u8 (y0.toNat : Int), .int .u8 (y1.toNat : Int)] 42 (0, 0)) from HBX.out)
      have Z4 := Lib.hid (HZ.out.grow K (show Grown wr wr.drew from (Grown.refl wr).drew))
      have X4 := HFX
      clear HZ HBX HFX
      generalize wr.drew = w4 at S4 Z4 ⊢
      refine restS_take (i := 0) S4.out rfl (by kernel_rfl) (by kernel_rfl) (by kernel_rfl) (by rfl) (fun v hv => by go_simp; try with_reducible rfl) ?_
      try simp only [Act.put, List.setIfInBounds_toArray, List.set_cons_zero, List.set_cons_succ]
      refine restS_take (i := 1) S4.out rfl (by kernel_rfl) (by kernel_rfl) (by kernel_rfl) (by rfl) (fun v hv => by go_simp; try with_reducible rfl) ?_
      try simp only [Act.put, List.setIfInBounds_toArray, List.set_cons_zero, List.set_cons_succ]
      refine restS_take (i := 2) S4.out rfl (by kernel_rfl) (by kernel_rfl) (by kernel_rfl) (by rfl) (fun v hv => by go_simp; try with_reducible rfl) ?_
      try simp only [Act.put, List.setIfInBounds_toArray, List.set_cons_zero, List.set_cons_succ]
      refine restS_take (i := 5) S4.out rfl (by kernel_rfl) (by kernel_rfl) (by kernel_rfl) (by rfl) (fun v hv => by go_simp; try with_reducible rfl) ?_
      try simp only [Act.put, List.setIfInBounds_toArray, List.set_cons_zero, List.set_cons_succ]
      refine restS_take (i := 6) S4.out rfl (by kernel_rfl) (by kernel_rfl) (by kernel_rfl) (by rfl) (fun v hv => by go_simp; try with_reducible rfl) ?_
      try simp only [Act.put, List.setIfInBounds_toArray, List.set_cons_zero, List.set_cons_succ]
      refine restS_take (i := 7) S4.out rfl (by kernel_rfl) (by kernel_rfl) (by kernel_rfl) (by rfl) (fun v hv => by go_simp; try with_reducible rfl) ?_
      try simp only [Act.put, List.setIfInBounds_toArray, List.set_cons_zero, List.set_cons_succ]
      refine restS_lone (i := 3) rfl (by kernel_rfl) (by rfl) (fun K1 hK1 => ?_)
      go_simp
      refine (K.forw w4 G F st [112] (some ⟨w.heap.size, 0, none⟩) 2 2 [x0, x1] Z4.out.1 (HNum.out.few (by omega)) (by simp) (by omega) rfl (by omega) (RX.out w4 S4.out) (fun y hy _ hf => by simp only [Option.some.injEq] at hy; subst hy; exact X4.out _ hf rfl)).mono ?_
      rintro e w5 ⟨A5, n5, c5, F5, rfl, hl5, hc5, hr5, ha5, hz5, hf5, hch5⟩
      rw [E1.out] at hl5 hr5 hz5 ha5
      obtain rfl : n5 = 2 := by have h7 : la.length = n5 := hl5; rw [LA.out] at h7; exact h7.symm
      have Z5 := Lib.hid (Z4.out.step hz5 hf5 hch5)
      have X5 := Lib.hid (show ∀ k, F5 k → k ≠ w.heap.size from fun k hk e => by
        rcases hf5 k hk with h8 | h8
        · exact X4.out k h8 e
        · have := lt_of_heap S4.out; omega)
      have S5 := Lib.hid (show w5.heap[w.heap.size]? = some (.cells #[.int .u8 (x0.toNat : Int), .int .u8 (x1.toNat : Int), .int .u8 (y0.toNat : Int), .int .u8 (y1.toNat : Int)] 42 (0, 0)) from (hch5.block _ (lt_of_heap S4.out) (fun hfx => X4.out _ hfx rfl)).trans S4.out)
      have R5 := Lib.hid (show Rd w5 w5.heap.size A5 la from hr5)
      have C5 := Lib.hid hch5
      have Q5 := Lib.hid (show ∀ x, A5 = some x → ¬ F5 x.block from fun x hx => (ha5 x hx (by intro e; have e' : la = [] := e; have h7 : la.length = 2 := LA.out; rw [e'] at h7; cases h7)).2)
      refine hK1.out _ _ S5.out ?_
      clear hK1 K1 hl5 hc5 hr5 ha5 hz5 hf5 hch5
      clear Z4 S4 X4
      try simp only [Act.put, List.setIfInBounds_toArray, List.set_cons_zero, List.set_cons_succ]
      refine restS_two (i := 4) (j := 8) rfl rfl (by kernel_rfl) (by rfl) (by rfl) (fun K1 hK1 => ?_) (fun K1 hK1 => ?_)
      all_goals (first
        | (have hcv := conv R5.out c5
           rw [LA.out] at hcv
           go_simp
           refine hK1.out _ _ S5.out ?_
           clear hK1 K1 hcv
           try simp only [Act.put, List.setIfInBounds_toArray, List.set_cons_zero, List.set_cons_succ]
           refine restS_lone (i := 8) rfl (by kernel_rfl) (by rfl) (fun K1 hK1 => ?_)
           go_simp
           refine (K.forw w5 G F5 s1 [112] (some ⟨w.heap.size, 2, none⟩) 2 2 [y0, y1] Z5.out.1 (N1.out.few (by omega)) (by simp) (by omega) rfl (by omega) (RY.out w5 S5.out) (fun y hy _ hf => by simp only [Option.some.injEq] at hy; subst hy; exact X5.out _ hf rfl)).mono ?_
           rintro e w6 ⟨A6, n6, c6, F6, rfl, hl6, hc6, hr6, ha6, hz6, hf6, hch6⟩
           rw [E2.out] at hl6 hr6 hz6 ha6
           obtain rfl : n6 = 2 := by have h7 : lb.length = n6 := hl6; rw [LB.out] at h7; exact h7.symm
           have Z6 := Lib.hid (Z5.out.step hz6 hf6 hch6)
           have X6 := Lib.hid (show ∀ k, F6 k → k ≠ w.heap.size from fun k hk e => by
             rcases hf6 k hk with h8 | h8
             · exact X5.out k h8 e
             · have := lt_of_heap S5.out; omega)
           have S6 := Lib.hid (show w6.heap[w.heap.size]? = some (.cells #[.int .u8 (x0.toNat : Int), .int .u8 (x1.toNat : Int), .int .u8 (y0.toNat : Int), .int .u8 (y1.toNat : Int)] 42 (0, 0)) from (hch6.block _ (lt_of_heap S5.out) (fun hfx => X5.out _ hfx rfl)).trans S5.out)
           have R6 := Lib.hid (show Rd w6 w6.heap.size A6 lb from hr6)
           have C6 := Lib.hid hch6
           have Q6 := Lib.hid (show ∀ x, A6 = some x → ¬ F6 x.block from fun x hx => (ha6 x hx (by intro e; have e' : lb = [] := e; have h7 : lb.length = 2 := LB.out; rw [e'] at h7; cases h7)).2)
           refine hK1.out _ _ S6.out ?_
           clear hK1 K1 hl6 hc6 hr6 ha6 hz6 hf6 hch6
           try simp only [Act.put, List.setIfInBounds_toArray, List.set_cons_zero, List.set_cons_succ]
           refine restS_take (i := 10) S6.out rfl (by kernel_rfl) (by kernel_rfl) (by kernel_rfl) (by rfl) (fun v hv => by go_simp; try with_reducible rfl) ?_
           try simp only [Act.put, List.setIfInBounds_toArray, List.set_cons_zero, List.set_cons_succ]
           refine restS_lone (i := 9) rfl (by kernel_rfl) (by rfl) (fun K1 hK1 => ?_)
           have hcv := conv R6.out c6
           rw [LB.out] at hcv
           go_simp
           refine hK1.out _ _ S6.out ?_
           clear hK1 K1 hcv
           try simp only [Act.put, List.setIfInBounds_toArray, List.set_cons_zero, List.set_cons_succ])
        | (go_simp
           refine (K.forw w5 G F5 s1 [112] (some ⟨w.heap.size, 2, none⟩) 2 2 [y0, y1] Z5.out.1 (N1.out.few (by omega)) (by simp) (by omega) rfl (by omega) (RY.out w5 S5.out) (fun y hy _ hf => by simp only [Option.some.injEq] at hy; subst hy; exact X5.out _ hf rfl)).mono ?_
           rintro e w6 ⟨A6, n6, c6, F6, rfl, hl6, hc6, hr6, ha6, hz6, hf6, hch6⟩
           rw [E2.out] at hl6 hr6 hz6 ha6
           obtain rfl : n6 = 2 := by have h7 : lb.length = n6 := hl6; rw [LB.out] at h7; exact h7.symm
           have Z6 := Lib.hid (Z5.out.step hz6 hf6 hch6)
           have X6 := Lib.hid (show ∀ k, F6 k → k ≠ w.heap.size from fun k hk e => by
             rcases hf6 k hk with h8 | h8
             · exact X5.out k h8 e
             · have := lt_of_heap S5.out; omega)
           have S6 := Lib.hid (show w6.heap[w.heap.size]? = some (.cells #[.int .u8 (x0.toNat : Int), .int .u8 (x1.toNat : Int), .int .u8 (y0.toNat : Int), .int .u8 (y1.toNat : Int)] 42 (0, 0)) from (hch6.block _ (lt_of_heap S5.out) (fun hfx => X5.out _ hfx rfl)).trans S5.out)
           have R6 := Lib.hid (show Rd w6 w6.heap.size A6 lb from hr6)
           have C6 := Lib.hid hch6
           have Q6 := Lib.hid (show ∀ x, A6 = some x → ¬ F6 x.block from fun x hx => (ha6 x hx (by intro e; have e' : lb = [] := e; have h7 : lb.length = 2 := LB.out; rw [e'] at h7; cases h7)).2)
           refine hK1.out _ _ S6.out ?_
           clear hK1 K1 hl6 hc6 hr6 ha6 hz6 hf6 hch6
           try simp only [Act.put, List.setIfInBounds_toArray, List.set_cons_zero, List.set_cons_succ]
           refine restS_two (i := 4) (j := 9) rfl rfl (by kernel_rfl) (by rfl) (by rfl) (fun K1 hK1 => ?_) (fun K1 hK1 => ?_)
           all_goals (first
             | (have hcv := conv (show Rd w6 w6.heap.size A5 la by
                  rcases R5.out with e | ⟨b7, o7, e, hb7, hc7⟩
                  · exact .inl e
                  · exact .inr ⟨b7, o7, e, Nat.lt_of_lt_of_le hb7 C6.out.size, fun j hj => (World.cell?_of_block (C6.out.block b7 hb7 (Q5.out _ e))).trans (hc7 j hj)⟩) c5
                rw [LA.out] at hcv
                go_simp
                refine hK1.out _ _ S6.out ?_
                clear hK1 K1 hcv
                try simp only [Act.put, List.setIfInBounds_toArray, List.set_cons_zero, List.set_cons_succ]
                refine restS_take (i := 10) S6.out rfl (by kernel_rfl) (by kernel_rfl) (by kernel_rfl) (by rfl) (fun v hv => by go_simp; try with_reducible rfl) ?_
                try simp only [Act.put, List.setIfInBounds_toArray, List.set_cons_zero, List.set_cons_succ]
                refine restS_lone (i := 9) rfl (by kernel_rfl) (by rfl) (fun K1 hK1 => ?_)
                have hcv := conv R6.out c6
                rw [LB.out] at hcv
                go_simp
                refine hK1.out _ _ S6.out ?_
                clear hK1 K1 hcv
                try simp only [Act.put, List.setIfInBounds_toArray, List.set_cons_zero, List.set_cons_succ])
             | (have hcv := conv R6.out c6
                rw [LB.out] at hcv
                go_simp
                refine hK1.out _ _ S6.out ?_
                clear hK1 K1 hcv
                try simp only [Act.put, List.setIfInBounds_toArray, List.set_cons_zero, List.set_cons_succ]
                refine restS_lone (i := 4) rfl (by kernel_rfl) (by rfl) (fun K1 hK1 => ?_)
                have hcv := conv (show Rd w6 w6.heap.size A5 la by
                  rcases R5.out with e | ⟨b7, o7, e, hb7, hc7⟩
                  · exact .inl e
                  · exact .inr ⟨b7, o7, e, Nat.lt_of_lt_of_le hb7 C6.out.size, fun j hj => (World.cell?_of_block (C6.out.block b7 hb7 (Q5.out _ e))).trans (hc7 j hj)⟩) c5
                rw [LA.out] at hcv
                go_simp
                refine hK1.out _ _ S6.out ?_
                clear hK1 K1 hcv
                try simp only [Act.put, List.setIfInBounds_toArray, List.set_cons_zero, List.set_cons_succ]
                refine restS_take (i := 10) S6.out rfl (by kernel_rfl) (by kernel_rfl) (by kernel_rfl) (by rfl) (fun v hv => by go_simp; try with_reducible rfl) ?_
                try simp only [Act.put, List.setIfInBounds_toArray, List.set_cons_zero, List.set_cons_succ]))))
      all_goals
        refine restS_take (i := 11) S6.out rfl (by kernel_rfl) (by kernel_rfl) (by kernel_rfl) (by rfl) (fun v hv => by go_simp; try with_reducible rfl) ?_
        try simp only [Act.put, List.setIfInBounds_toArray, List.set_cons_zero, List.set_cons_succ]
        refine restS_done (by kernel_rfl) ?_
        clear R5 C5 Q5 Z5 S5 X5 R6 C6 Q6
        go_wp2_with fail
        try simp only [Act.put, List.setIfInBounds_toArray, List.set_cons_zero, List.set_cons_succ]
        refine restS_begin (fun v : World => v.heap[w.heap.size]? = some (.cells #[.int .u8 (x0.toNat : Int), .int .u8 (x1.toNat : Int), .int .u8 (y0.toNat : Int), .int .u8 (y1.toNat : Int)] 42 (0, 0))) (by kernel_rfl) ?_
        have S7 := Lib.hid (show w6.drew.heap[w.heap.size]? = some (.cells #[.int .u8 (x0.toNat : Int), .int .u8 (x1.toNat : Int), .int .u8 (y0.toNat : Int), .int .u8 (y1.toNat : Int)] 42 (0, 0)) from S6.out)
        have Z7 := Lib.hid (Z6.out.grow K (show Grown w6 w6.drew from (Grown.refl w6).drew))
        have X7 := X6
        clear S6 Z6 X6
        generalize w6.drew = w7 at S7 Z7 ⊢
        refine restS_take (i := 0) S7.out rfl (by kernel_rfl) (by kernel_rfl) (by kernel_rfl) (by rfl) (fun v hv => by obtain ⟨c1, c2, c3, c4⟩ := HC.out v hv; go_simp; try with_reducible rfl) ?_
        try simp only [Act.put, List.setIfInBounds_toArray, List.set_cons_zero, List.set_cons_succ]
        refine restS_take (i := 1) S7.out rfl (by kernel_rfl) (by kernel_rfl) (by kernel_rfl) (by rfl) (fun v hv => by obtain ⟨c1, c2, c3, c4⟩ := HC.out v hv; go_simp; try with_reducible rfl) ?_
        try simp only [Act.put, List.setIfInBounds_toArray, List.set_cons_zero, List.set_cons_succ]
        refine restS_take (i := 2) S7.out rfl (by kernel_rfl) (by kernel_rfl) (by kernel_rfl) (by rfl) (fun v hv => by obtain ⟨c1, c2, c3, c4⟩ := HC.out v hv; go_simp; try with_reducible rfl) ?_
        try simp only [Act.put, List.setIfInBounds_toArray, List.set_cons_zero, List.set_cons_succ]
        refine restS_take (i := 3) S7.out rfl (by kernel_rfl) (by kernel_rfl) (by kernel_rfl) (by rfl) (fun v hv => by obtain ⟨c1, c2, c3, c4⟩ := HC.out v hv; go_simp; try with_reducible rfl) ?_
        try simp only [Act.put, List.setIfInBounds_toArray, List.set_cons_zero, List.set_cons_succ]
        refine restS_take (i := 4) S7.out rfl (by kernel_rfl) (by kernel_rfl) (by kernel_rfl) (by rfl) (fun v hv => by obtain ⟨c1, c2, c3, c4⟩ := HC.out v hv; go_simp; try with_reducible rfl) ?_
        try simp only [Act.put, List.setIfInBounds_toArray, List.set_cons_zero, List.set_cons_succ]
        refine restS_take (i := 5) S7.out rfl (by kernel_rfl) (by kernel_rfl) (by kernel_rfl) (by rfl) (fun v hv => by obtain ⟨c1, c2, c3, c4⟩ := HC.out v hv; go_simp; try with_reducible rfl) ?_
        try simp only [Act.put, List.setIfInBounds_toArray, List.set_cons_zero, List.set_cons_succ]
        refine restS_take (i := 6) S7.out rfl (by kernel_rfl) (by kernel_rfl) (by kernel_rfl) (by rfl) (fun v hv => by obtain ⟨c1, c2, c3, c4⟩ := HC.out v hv; go_simp; try with_reducible rfl) ?_
        try simp only [Act.put, List.setIfInBounds_toArray, List.set_cons_zero, List.set_cons_succ]
        refine restS_take (i := 7) S7.out rfl (by kernel_rfl) (by kernel_rfl) (by kernel_rfl) (by rfl) (fun v hv => by go_simp; try with_reducible rfl) ?_
        try simp only [Act.put, List.setIfInBounds_toArray, List.set_cons_zero, List.set_cons_succ]
        refine restS_take (i := 8) S7.out rfl (by kernel_rfl) (by kernel_rfl) (by kernel_rfl) (by rfl) (fun v hv => by go_simp; try with_reducible rfl) ?_
        try simp only [Act.put, List.setIfInBounds_toArray, List.set_cons_zero, List.set_cons_succ]
        refine restS_take (i := 9) S7.out rfl (by kernel_rfl) (by kernel_rfl) (by kernel_rfl) (by rfl) (fun v hv => by go_simp; try with_reducible rfl) ?_
        try simp only [Act.put, List.setIfInBounds_toArray, List.set_cons_zero, List.set_cons_succ]
        refine restS_take (i := 10) S7.out rfl (by kernel_rfl) (by kernel_rfl) (by kernel_rfl) (by rfl) (fun v hv => by go_simp; try with_reducible rfl) ?_
        try simp only [Act.put, List.setIfInBounds_toArray, List.set_cons_zero, List.set_cons_succ]
        refine restS_take (i := 11) S7.out rfl (by kernel_rfl) (by kernel_rfl) (by kernel_rfl) (by rfl) (fun v hv => by go_simp; try with_reducible rfl) ?_
        try simp only [Act.put, List.setIfInBounds_toArray, List.set_cons_zero, List.set_cons_succ]
        refine restS_take (i := 12) S7.out rfl (by kernel_rfl) (by kernel_rfl) (by kernel_rfl) (by rfl) (fun v hv => by go_simp; try with_reducible rfl) ?_
        try simp only [Act.put, List.setIfInBounds_toArray, List.set_cons_zero, List.set_cons_succ]
        refine restS_take (i := 13) S7.out rfl (by kernel_rfl) (by kernel_rfl) (by kernel_rfl) (by rfl) (fun v hv => by go_simp; try with_reducible rfl) ?_
        try simp only [Act.put, List.setIfInBounds_toArray, List.set_cons_zero, List.set_cons_succ]
        refine restS_take (i := 14) S7.out rfl (by kernel_rfl) (by kernel_rfl) (by kernel_rfl) (by rfl) (fun v hv => by go_simp; try with_reducible rfl) ?_
        try simp only [Act.put, List.setIfInBounds_toArray, List.set_cons_zero, List.set_cons_succ]
        refine restS_take (i := 15) S7.out rfl (by kernel_rfl) (by kernel_rfl) (by kernel_rfl) (by rfl) (fun v hv => by go_simp; try with_reducible rfl) ?_
        try simp only [Act.put, List.setIfInBounds_toArray, List.set_cons_zero, List.set_cons_succ]
        refine restS_take (i := 16) S7.out rfl (by kernel_rfl) (by kernel_rfl) (by kernel_rfl) (by rfl) (fun v hv => by go_simp; try with_reducible rfl) ?_
        try simp only [Act.put, List.setIfInBounds_toArray, List.set_cons_zero, List.set_cons_succ]
        refine restS_take (i := 20) S7.out rfl (by kernel_rfl) (by kernel_rfl) (by kernel_rfl) (by rfl) (fun v hv => by go_simp; try with_reducible rfl) ?_
        try simp only [Act.put, List.setIfInBounds_toArray, List.set_cons_zero, List.set_cons_succ]
        refine restS_take (i := 21) S7.out rfl (by kernel_rfl) (by kernel_rfl) (by kernel_rfl) (by rfl) (fun v hv => by go_simp; try with_reducible rfl) ?_
        try simp only [Act.put, List.setIfInBounds_toArray, List.set_cons_zero, List.set_cons_succ]
        refine restS_take (i := 22) S7.out rfl (by kernel_rfl) (by kernel_rfl) (by kernel_rfl) (by rfl) (fun v hv => by have hb0 := BX0.out v hv; go_simp; try with_reducible rfl) ?_
        try simp only [Act.put, List.setIfInBounds_toArray, List.set_cons_zero, List.set_cons_succ]
        refine restS_lone (i := 17) rfl (by kernel_rfl) (by rfl) (fun K1 hK1 => ?_)
        obtain ⟨cb, w8, hcvb, hcb, hbq, hgb⟩ := conv_bq w7 la
        rw [LA.out] at hcvb hcb
        obtain ⟨gb, hgb2⟩ : ∃ gb, gb = w7.heap.size := ⟨_, rfl⟩
        have HFB := Lib.hid (show ∀ k, F6 k → k ≠ gb from fun k hk e => by have := K.foot w7 G F6 _ Z7.out.1 k hk; omega)
        have Rq := Lib.hid hbq.rd
        rw [← hgb2] at hcvb
        rw [← hgb2] at Rq
        have Z8 := Lib.hid (Z7.out.grow K hgb)
        have S8 := Lib.hid (show w8.heap[w.heap.size]? = some (.cells #[.int .u8 (x0.toNat : Int), .int .u8 (x1.toNat : Int), .int .u8 (y0.toNat : Int), .int .u8 (y1.toNat : Int)] 42 (0, 0)) from (hgb.block _ (lt_of_heap S7.out)).trans S7.out)
        have X8 := X7
        have HCB := Lib.hid hcb
        clear hgb2
        go_simp
        refine hK1.out _ _ S8.out ?_
        clear hK1 K1 hcvb hcb hbq hgb Z7 S7 X7
        try simp only [Act.put, List.setIfInBounds_toArray, List.set_cons_zero, List.set_cons_succ]
        refine restS_lone (i := 18) rfl (by kernel_rfl) (by rfl) (fun K1 hK1 => ?_)
        go_simp
        refine (K.back w8 G F6 s2 [112] (some ⟨gb, 0, none⟩) 2 cb la Z8.out.1 (N2.out.few (by omega)) (by simp) (by omega) LA.out HCB.out Rq.out (fun y hy _ hf => by simp only [Option.some.injEq] at hy; subst hy; exact HFB.out _ hf rfl)).mono ?_
        rintro e w9 ⟨A9, n9, c9, F9, rfl, hl9, hc9, hr9, ha9, hz9, hf9, hch9⟩
        rw [EBK.out] at hl9 hr9 hz9 ha9
        obtain rfl : n9 = 2 := by have h7 : ([x0, x1]).length = n9 := hl9; rw [show ([x0, x1] : List UInt8).length = 2 from rfl] at h7; exact h7.symm
        have Z9 := Lib.hid (Z8.out.step hz9 hf9 hch9)
        have X9 := Lib.hid (show ∀ k, F9 k → k ≠ w.heap.size from fun k hk e => by
          rcases hf9 k hk with h8 | h8
          · exact X8.out k h8 e
          · have := lt_of_heap S8.out; omega)
        have S9 := Lib.hid (show w9.heap[w.heap.size]? = some (.cells #[.int .u8 (x0.toNat : Int), .int .u8 (x1.toNat : Int), .int .u8 (y0.toNat : Int), .int .u8 (y1.toNat : Int)] 42 (0, 0)) from (hch9.block _ (lt_of_heap S8.out) (fun hfx => X8.out _ hfx rfl)).trans S8.out)
        have R9 := Lib.hid (show Rd w9 w9.heap.size A9 ([x0, x1]) from hr9)
        have Q9 := Lib.hid (show ∀ x, A9 = some x → ¬ F9 x.block from fun x hx => (ha9 x hx (by intro e; have e' : ([x0, x1]) = [] := e; have h7 : ([x0, x1]).length = 2 := show ([x0, x1] : List UInt8).length = 2 from rfl; rw [e'] at h7; cases h7)).2)
        have HC9 := Lib.hid (show 2 ≤ c9 from hc9)
        refine hK1.out _ _ S9.out ?_
        clear hK1 K1 hl9 hc9 hr9 ha9 hz9 hf9 hch9 Z8 S8 X8
        try simp only [Act.put, List.setIfInBounds_toArray, List.set_cons_zero, List.set_cons_succ]
        refine restS_lone (i := 19) rfl (by kernel_rfl) (by rfl) (fun K1 hK1 => ?_)
        have hcv := conv R9.out c9
        rw [show ([x0, x1] : List UInt8).length = 2 from rfl] at hcv
        go_simp
        refine hK1.out _ _ S9.out ?_
        clear hK1 K1 hcv
        try simp only [Act.put, List.setIfInBounds_toArray, List.set_cons_zero, List.set_cons_succ]
        refine restS_take (i := 23) S9.out rfl (by kernel_rfl) (by kernel_rfl) (by kernel_rfl) (by rfl) (fun v hv => by go_simp; try with_reducible rfl) ?_
        try simp only [Act.put, List.setIfInBounds_toArray, List.set_cons_zero, List.set_cons_succ]
        refine restS_take (i := 24) S9.out rfl (by kernel_rfl) (by kernel_rfl) (by kernel_rfl) (by rfl) (fun v hv => by go_simp; try with_reducible rfl) ?_
        try simp only [Act.put, List.setIfInBounds_toArray, List.set_cons_zero, List.set_cons_succ]
        refine restS_done (by kernel_rfl) ?_
        clear R9 Q9 HC9 HFB Rq
        go_wp2_with fail
        skip
        refine (K.back w9 G F9 s2 [112] (some ⟨w.heap.size, 2, none⟩) 2 2 [y0, y1] Z9.out.1 (N2.out.few (by omega)) (by simp) (by omega) rfl (by omega) (RY.out w9 S9.out) (fun y hy _ hf => by simp only [Option.some.injEq] at hy; subst hy; exact X9.out _ hf rfl)).mono ?_
        rintro e w10 ⟨A10, n10, c10, F10, rfl, hl10, hc10, hr10, ha10, hz10, hf10, hch10⟩
        rw [E3.out] at hl10 hr10 hz10 ha10
        obtain rfl : n10 = 2 := by have h7 : (lc).length = n10 := hl10; rw [LC.out] at h7; exact h7.symm
        have Z10 := Lib.hid (Z9.out.step hz10 hf10 hch10)
        have X10 := Lib.hid (show ∀ k, F10 k → k ≠ w.heap.size from fun k hk e => by
          rcases hf10 k hk with h8 | h8
          · exact X9.out k h8 e
          · have := lt_of_heap S9.out; omega)
        have S10 := Lib.hid (show w10.heap[w.heap.size]? = some (.cells #[.int .u8 (x0.toNat : Int), .int .u8 (x1.toNat : Int), .int .u8 (y0.toNat : Int), .int .u8 (y1.toNat : Int)] 42 (0, 0)) from (hch10.block _ (lt_of_heap S9.out) (fun hfx => X9.out _ hfx rfl)).trans S9.out)
        have R10 := Lib.hid (show Rd w10 w10.heap.size A10 (lc) from hr10)
        have Q10 := Lib.hid (show ∀ x, A10 = some x → ¬ F10 x.block from fun x hx => (ha10 x hx (by intro e; have e' : (lc) = [] := e; have h7 : (lc).length = 2 := LC.out; rw [e'] at h7; cases h7)).2)
        have HC10 := Lib.hid (show 2 ≤ c10 from hc10)
        clear hl10 hc10 hr10 ha10 hz10 hf10 hch10 Z9 S9 X9
        go_wp2_with fail
        refine (K.count w10 G F10 s3 Z10.out.1).mono ?_
        rintro e w11 ⟨rfl, hg⟩
        obtain ⟨kc, hkc⟩ : ∃ kc, kc = s3.cnt := ⟨_, rfl⟩
        rw [← hkc]
        have HKc := Lib.hid hkc
        have Z11 := Lib.hid (Z10.out.grow K hg)
        have S11q := Lib.hid (show w11.heap[w.heap.size]? = some (.cells #[.int .u8 (x0.toNat : Int), .int .u8 (x1.toNat : Int), .int .u8 (y0.toNat : Int), .int .u8 (y1.toNat : Int)] 42 (0, 0)) from (hg.block _ (lt_of_heap S10.out)).trans S10.out)
        have R11 := Lib.hid (R10.out.grow hg)
        have X11 := X10
        clear hg hkc Z10 S10 R10 X10
        go_wp2_with fail
        try simp only [Act.put, List.setIfInBounds_toArray, List.set_cons_zero, List.set_cons_succ]
        refine restS_begin (fun v : World => v.heap[w.heap.size]? = some (.cells #[.int .u8 (x0.toNat : Int), .int .u8 (x1.toNat : Int), .int .u8 (y0.toNat : Int), .int .u8 (y1.toNat : Int)] 42 (0, 0))) (by kernel_rfl) ?_
        have S12 := Lib.hid (show w11.drew.heap[w.heap.size]? = some (.cells #[.int .u8 (x0.toNat : Int), .int .u8 (x1.toNat : Int), .int .u8 (y0.toNat : Int), .int .u8 (y1.toNat : Int)] 42 (0, 0)) from S11q.out)
        have Z12 := Lib.hid (Z11.out.grow K (show Grown w11 w11.drew from (Grown.refl w11).drew))
        have R12 := Lib.hid (show Rd w11.drew w11.drew.heap.size A10 lc from R11.out)
        have X12 := X11
        clear S11q Z11 R11 X11
        generalize w11.drew = w12 at S12 Z12 R12 ⊢
        refine restS_take (i := 0) S12.out rfl (by kernel_rfl) (by kernel_rfl) (by kernel_rfl) (by rfl) (fun v hv => by go_simp; try with_reducible rfl) ?_
        try simp only [Act.put, List.setIfInBounds_toArray, List.set_cons_zero, List.set_cons_succ]
        refine restS_take (i := 1) S12.out rfl (by kernel_rfl) (by kernel_rfl) (by kernel_rfl) (by rfl) (fun v hv => by go_simp; try with_reducible rfl) ?_
        try simp only [Act.put, List.setIfInBounds_toArray, List.set_cons_zero, List.set_cons_succ]
        refine restS_take (i := 4) S12.out rfl (by kernel_rfl) (by kernel_rfl) (by kernel_rfl) (by rfl) (fun v hv => by go_simp; try with_reducible rfl) ?_
        try simp only [Act.put, List.setIfInBounds_toArray, List.set_cons_zero, List.set_cons_succ]
        refine restS_take (i := 5) S12.out rfl (by kernel_rfl) (by kernel_rfl) (by kernel_rfl) (by rfl) (fun v hv => by go_simp; try with_reducible rfl) ?_
        try simp only [Act.put, List.setIfInBounds_toArray, List.set_cons_zero, List.set_cons_succ]
        refine restS_take (i := 6) S12.out rfl (by kernel_rfl) (by kernel_rfl) (by kernel_rfl) (by rfl) (fun v hv => by have hb0 := BY0.out v hv; go_simp; try with_reducible rfl) ?_
        try simp only [Act.put, List.setIfInBounds_toArray, List.set_cons_zero, List.set_cons_succ]
        refine restS_lone (i := 2) rfl (by kernel_rfl) (by rfl) (fun K1 hK1 => ?_)
        go_simp
        refine (K.forw w12 G F10 s3 [112] A10 2 c10 lc Z12.out.1 (N3.out.few (by omega)) (by simp) (by omega) LC.out HC10.out R12.out (fun y hy _ hf => Q10.out y hy hf)).mono ?_
        rintro e w13 ⟨A13, n13, c13, F13, rfl, hl13, hc13, hr13, ha13, hz13, hf13, hch13⟩
        rw [EFW.out] at hl13 hr13 hz13 ha13
        obtain rfl : n13 = 2 := by have h7 : ([y0, y1]).length = n13 := hl13; rw [show ([y0, y1] : List UInt8).length = 2 from rfl] at h7; exact h7.symm
        have Z13 := Lib.hid (Z12.out.step hz13 hf13 hch13)
        have X13 := Lib.hid (show ∀ k, F13 k → k ≠ w.heap.size from fun k hk e => by
          rcases hf13 k hk with h8 | h8
          · exact X12.out k h8 e
          · have := lt_of_heap S12.out; omega)
        have S13 := Lib.hid (show w13.heap[w.heap.size]? = some (.cells #[.int .u8 (x0.toNat : Int), .int .u8 (x1.toNat : Int), .int .u8 (y0.toNat : Int), .int .u8 (y1.toNat : Int)] 42 (0, 0)) from (hch13.block _ (lt_of_heap S12.out) (fun hfx => X12.out _ hfx rfl)).trans S12.out)
        have R13 := Lib.hid (show Rd w13 w13.heap.size A13 ([y0, y1]) from hr13)
        have Q13 := Lib.hid (show ∀ x, A13 = some x → ¬ F13 x.block from fun x hx => (ha13 x hx (by intro e; have e' : ([y0, y1]) = [] := e; have h7 : ([y0, y1]).length = 2 := show ([y0, y1] : List UInt8).length = 2 from rfl; rw [e'] at h7; cases h7)).2)
        have HC13 := Lib.hid (show 2 ≤ c13 from hc13)
        refine hK1.out _ _ S13.out ?_
        clear hK1 K1 hl13 hc13 hr13 ha13 hz13 hf13 hch13 Z12 S12 X12
        try simp only [Act.put, List.setIfInBounds_toArray, List.set_cons_zero, List.set_cons_succ]
        refine restS_lone (i := 3) rfl (by kernel_rfl) (by rfl) (fun K1 hK1 => ?_)
        have hcv := conv R13.out c13
        rw [show ([y0, y1] : List UInt8).length = 2 from rfl] at hcv
        go_simp
        refine hK1.out _ _ S13.out ?_
        clear hK1 K1 hcv
        try simp only [Act.put, List.setIfInBounds_toArray, List.set_cons_zero, List.set_cons_succ]
        refine restS_take (i := 7) S13.out rfl (by kernel_rfl) (by kernel_rfl) (by kernel_rfl) (by rfl) (fun v hv => by go_simp; try with_reducible rfl) ?_
        try simp only [Act.put, List.setIfInBounds_toArray, List.set_cons_zero, List.set_cons_succ]
        refine restS_take (i := 8) S13.out rfl (by kernel_rfl) (by kernel_rfl) (by kernel_rfl) (by rfl) (fun v hv => by go_simp; try with_reducible rfl) ?_
        try simp only [Act.put, List.setIfInBounds_toArray, List.set_cons_zero, List.set_cons_succ]
        refine restS_take (i := 9) S13.out rfl (by kernel_rfl) (by kernel_rfl) (by kernel_rfl) (by rfl) (fun v hv => by go_simp; try with_reducible rfl) ?_
        try simp only [Act.put, List.setIfInBounds_toArray, List.set_cons_zero, List.set_cons_succ]
        refine restS_take (i := 11) S13.out rfl (by kernel_rfl) (by kernel_rfl) (by kernel_rfl) (by rfl) (fun v hv => by go_simp; try with_reducible rfl) ?_
        try simp only [Act.put, List.setIfInBounds_toArray, List.set_cons_zero, List.set_cons_succ]
        refine restS_lone (i := 10) rfl (by kernel_rfl) (by rfl) (fun K1 hK1 => ?_)
        go_simp
        refine (K.count w13 G F13 s3 Z13.out.1).mono ?_
        rintro e w14 ⟨rfl, hg⟩
        rw [← HKc.out]
        have S14 := Lib.hid (show w14.heap[w.heap.size]? = some (.cells #[.int .u8 (x0.toNat : Int), .int .u8 (x1.toNat : Int), .int .u8 (y0.toNat : Int), .int .u8 (y1.toNat : Int)] 42 (0, 0)) from (hg.block _ (lt_of_heap S13.out)).trans S13.out)
        have GF := Lib.hid (Grown.trans Z13.out.2.2 hg)
        refine hK1.out _ _ S14.out ?_
        clear hK1 K1 hg Z13 S13
        try simp only [Act.put, List.setIfInBounds_toArray, List.set_cons_zero, List.set_cons_succ]
        refine restS_take (i := 12) S14.out rfl (by kernel_rfl) (by kernel_rfl) (by kernel_rfl) (by rfl) (fun v hv => by go_simp; try with_reducible rfl) ?_
        try simp only [Act.put, List.setIfInBounds_toArray, List.set_cons_zero, List.set_cons_succ]
        refine restS_take (i := 13) S14.out rfl (by kernel_rfl) (by kernel_rfl) (by kernel_rfl) (by rfl) (fun v hv => by go_simp; try with_reducible rfl) ?_
        try simp only [Act.put, List.setIfInBounds_toArray, List.set_cons_zero, List.set_cons_succ]
        refine restS_take (i := 14) S14.out rfl (by kernel_rfl) (by kernel_rfl) (by kernel_rfl) (by rfl) (fun v hv => by go_simp; try with_reducible rfl) ?_
        try simp only [Act.put, List.setIfInBounds_toArray, List.set_cons_zero, List.set_cons_succ]
        refine restS_done (by kernel_rfl) ?_
        go_wp2
        go_ret
        exact ⟨rfl, GF.out⟩
end Go.Proofs.Ytanalbdbkfmifaa.S11
