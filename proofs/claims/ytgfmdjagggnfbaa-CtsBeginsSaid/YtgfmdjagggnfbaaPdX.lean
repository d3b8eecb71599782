/-
  Contract of the program's expand.
-/
import Derived.Test.YtgfmdjagggnfbaaPdL
namespace Go.Proofs.Ytgfmdjagggnfbaa.S7
open Go.RowKit
set_option linter.unusedVariables false
set_option linter.unusedSimpArgs false

theorem rd_src {w : World} {B : Nat} {A : Option Addr} {l : List UInt8} (h : Rd w B A l) (hp : 0 < (bvs l).length) : ∃ ad, A = some ad ∧ ∀ j v, (bvs l)[j]? = some v → w.cell? (ad.add j) = some v := by
  rcases h with rfl | ⟨b, off, rfl, hb, hc⟩
  · simp [bvs] at hp
  · refine ⟨_, rfl, fun j v hv => ?_⟩
    have hj : j < l.length := by
      have := (List.getElem?_eq_some_iff.1 hv).1
      simpa [bvs] using this
    have h3 := hc j hj
    simp [bvs, hj] at hv
    subst hv
    by_cases h0 : j = 0
    · subst h0; simpa [Addr.add] using h3
    · simpa [Addr.add, h0] using h3
theorem cut_key (W : World) (A : Option Addr) (m c d : Nat) (h : d ≤ m) : (Instr.slice 23 (.slice A m c) (some (.int .i64 (d : Int))) none none).run Try.prog W = .ok (.slice (if c = d then A else A.map (·.add d)) (m - d) (c - d)) W := by
  obtain ⟨i0, hi, hz0, hz1, hz2⟩ := info_parts info5
  have he : Try.prog.elem 23 = 5 := by kernel_rfl
  rw [run_slice_l W 23 A m c (by rw [he]; exact Try.underlying23) .i64 (d : Int) (by omega) (by omega), he]
  simp [sizeOf, typeInfo, hi, hz1, sliced, Result.andThen]
theorem splice_bvs (L x : List UInt8) (p : Nat) : splice (bvs L) p (bvs x) = bvs (splice L p x) := by simp [splice, bvs]
/-- Four bytes copied behind the others. -/
theorem wpList_copy_ex {w W : World} {ops : Array Oper} {rest : List Oper} {o : Oper} {a : Act} {Q : Exit → Act → World → Prop} (hgd : o.guard = none) (d s : Operand)
    (ho : o.op = .call { callee := .builtin .copy, args := #[d, s], argTypes := #[23, 23] }) {G p n c B0 : Nat} {A : Option Addr} {l y : List UInt8} (hd : a.eval d = .slice (some ⟨G, p, none⟩) 4 4) (hs : a.eval s = .slice A n c)
    (h : Ex w W G l) (hp : p = l.length) (hr : Rd W B0 A y) (hn : y.length = n) (hn4 : 4 ≤ n) (hl : l.length + 4 ≤ 240)
    (hk : ∀ W', Ex w W' G (l ++ y.take 4) → wpList Try.prog ops Q rest (a.put o.dst (goInt 4)) W') : wpList Try.prog ops Q (o :: rest) a W := by
  have hx : (y.take 4).length = 4 := by rw [List.length_take]; omega
  have hxb : (bvs (y.take 4)).length = 4 := by rw [bvs_length, hx]
  refine wpList_copy_splice hgd d s 23 23 ho 5 Try.underlying23 info8 _ _ _ _ _ _ hd hs G p (bvs (wz l)) 44 h.2 (bvs (y.take 4)) (by rw [hxb]; exact (Nat.min_eq_right (by omega)).symm) (fun hq => ⟨rfl, rd_src (hr.take 4) hq⟩) (by simp only [bvs_length, hx]; rw [wz_len l (by omega)]; omega) (bvs_one _) G w h.1 (Nat.le_refl _) ?_
  intro w' h1 h2
  rw [splice_bvs, wz_splice l _ (by omega) p hp] at h1
  rw [hxb]
  exact hk w' ⟨h2, h1.out⟩
theorem take_four (k : List UInt8) (t : Nat) : k.take (4 * t) ++ (k.drop (4 * t)).take 4 = k.take (4 * (t + 1)) := by
  rw [show 4 * (t + 1) = 4 * t + 4 by omega, List.take_add]

set_option maxHeartbeats 8000000 in
set_option maxRecDepth 100000 in
theorem expand_any (G : Nat) (A : Option Addr) (c : Nat) (k : List UInt8) (hk : k.length = 32) (hc : 32 ≤ c) (w : World) (hG : Bk w G 44 (wz [])) (hR : Rd w G A k) :
    Calls Try.prog 13 #[.pointer (some ⟨G, 0, none⟩), .slice A 32 c] w fun e w' => e = .returned (.tuple #[]) ∧ Ex w w' G (keysL k) := by
  have HK := Lib.hid hk
  have HR := Lib.hid hR
  have HE := Lib.hid (show Ex w w G (k.take (4 * 0)) from ⟨Below.refl _ _, hG⟩)
  clear hk hG hR
  go_enter Try.func13, Try.ntmps13
  go_wp2
  go_loopw [13] (fun v13 wr => ∃ t : Nat, v13 = .int .i64 (t : Int) ∧ t ≤ 8 ∧ Hid (Ex w wr G (k.take (4 * t)))) (fun v13 _ => 8 - (intOf v13).toNat)
  case atStart => exact ⟨0, rfl, by omega, HE.out⟩
  case round =>
    clear HE
    obtain ⟨t, rfl, ht, H⟩ := hrel
    by_cases hlt : t < 8
    · obtain ⟨m, hm⟩ : ∃ m, m = 4 * t := ⟨_, rfl⟩
      have e0 : 4 * (t : Int) = (m : Int) := by omega
      have e1 : IntKind.i64.wrap (m : Int) = (m : Int) := by rw [IntKind.wrap_i64]; omega
      obtain ⟨A2, hA2⟩ : ∃ A2, A2 = if c = m then A else A.map (·.add m) := ⟨_, rfl⟩
      obtain ⟨n2, hn2⟩ : ∃ n2, n2 = 32 - m := ⟨_, rfl⟩
      obtain ⟨c2, hc2⟩ : ∃ c2, c2 = c - m := ⟨_, rfl⟩
      have hsl : ∀ V : World, (Instr.slice 23 (.slice A 32 c) (some (.int .i64 (m : Int))) none none).run Try.prog V = .ok (.slice A2 n2 c2) V := fun V => by rw [hA2, hn2, hc2]; exact cut_key V A 32 c m (by omega)
      have HR2 := Lib.hid (show Rd wr G A2 (k.drop m) by rw [hA2]; exact Rd.cut (HR.out.below H.out.1) (by rw [HK.out]; exact hc))
      have Hn2 := Lib.hid (show (k.drop m).length = n2 by rw [List.length_drop, HK.out, hn2])
      have hn4 : 4 ≤ n2 := by omega
      have bt : (t : Int) < 8 := by omega
      have bt2 : (t : Int) < 60 := by omega
      have bm : (m : Int) ≤ 32 := by omega
      have Hl := Lib.hid (show t * 4 = (k.take m).length by rw [List.length_take, HK.out]; omega)
      have HM := Lib.hid hm
      rw [← hm] at H
      clear hm hA2 hn2 hc2
      go_wp2
      go_still_tail 10, (by kernel_rfl)
      change wpList _ _ _ _ _ wr.drew
      have H2 := Lib.hid H.out.drew
      have HR3 := Lib.hid (show Rd wr.drew G A2 (k.drop m) from HR2.out)
      clear H HR2
      generalize wr.drew = w4 at H2 HR3 ⊢
      go_wp2_with (first
        | (refine wpList_copy_ex rfl (.tmp 21) (.tmp 25) rfl rfl rfl H2.out Hl.out HR3.out Hn2.out hn4 (by have := Hl.out; omega) ?_
           intro w5 h5
           rw [HM.out, take_four] at h5
           have H3 := Lib.hid h5
           clear h5))
      go_roundw
      case rel => exact ⟨t + 1, by go_num, by omega, H3.out⟩
      case measure => simp [intOf]; omega
    · have HE := Lib.hid (show Ex w wr G (ks k 0) by have := H.out; rw [List.take_of_length_le (by rw [HK.out]; omega)] at this; exact this)
      have bt : ¬ (t : Int) < 8 := by omega
      clear H
      go_wp2
      go_loopw [5, 6] (fun v5 v6 wr => ∃ n i : Nat, v6 = .int .i64 (i : Int) ∧ v5 = .int .u8 ((pwAt i).toNat : Int) ∧ i ≤ 60 ∧ Hid (i = 8 + n) ∧ Hid (Ex w wr G (ks k n))) (fun _ v6 _ => 60 - (intOf v6).toNat)
      case atStart => exact ⟨0, 8, rfl, rfl, by omega, rfl, HE.out⟩
      case round =>
        clear HE
        obtain ⟨n, i, rfl, rfl, hi, Hn, H⟩ := hrel
        obtain ⟨P, hP⟩ : ∃ P, P = pwAt i := ⟨_, rfl⟩
        rw [← hP]
        have HP := Lib.hid hP
        clear hP
        by_cases hil : i < 60
        · obtain ⟨l, hl⟩ : ∃ l, l = ks k n := ⟨_, rfl⟩
          rw [← hl] at H
          have HL := Lib.hid (show l.length = 4 * i by rw [hl, ks_len k HK.out, Hn.out])
          have HKS := Lib.hid (show ks k (n + 1) = l ++ word l i by rw [hl, Hn.out]; rfl)
          clear hl
          have h8 : 8 ≤ i := by have := Hn.out; omega
          obtain ⟨j, hj⟩ : ∃ j, j = i - 1 := ⟨_, rfl⟩
          obtain ⟨q, hq⟩ : ∃ q, q = i - 8 := ⟨_, rfl⟩
          have e1 : (i : Int) - 1 = (j : Int) := by omega
          have e2 : IntKind.i64.wrap (j : Int) = (j : Int) := wrap_i64 j (by omega)
          have e3 : (i : Int) - 8 = (q : Int) := by omega
          have e4 : IntKind.i64.wrap (q : Int) = (q : Int) := wrap_i64 q (by omega)
          have bi : (i : Int) < 60 := by omega
          have bj : (j : Int) < 60 := by omega
          have bq : (q : Int) < 60 := by omega
          obtain ⟨p0, hp0⟩ : ∃ x, x = gt l (j * 4) := ⟨_, rfl⟩
          have k0 := H.out.cell (by have := HL.out; omega) (j * 4) (by have := HL.out; omega)
          rw [← hp0] at k0
          obtain ⟨o0, ho0⟩ : ∃ x, x = gt l (q * 4) := ⟨_, rfl⟩
          obtain ⟨p1, hp1⟩ : ∃ x, x = gt l (j * 4 + 1) := ⟨_, rfl⟩
          have k1 := H.out.cell (by have := HL.out; omega) (j * 4 + 1) (by have := HL.out; omega)
          rw [← hp1] at k1
          obtain ⟨o1, ho1⟩ : ∃ x, x = gt l (q * 4 + 1) := ⟨_, rfl⟩
          obtain ⟨p2, hp2⟩ : ∃ x, x = gt l (j * 4 + 2) := ⟨_, rfl⟩
          have k2 := H.out.cell (by have := HL.out; omega) (j * 4 + 2) (by have := HL.out; omega)
          rw [← hp2] at k2
          obtain ⟨o2, ho2⟩ : ∃ x, x = gt l (q * 4 + 2) := ⟨_, rfl⟩
          obtain ⟨p3, hp3⟩ : ∃ x, x = gt l (j * 4 + 3) := ⟨_, rfl⟩
          have k3 := H.out.cell (by have := HL.out; omega) (j * 4 + 3) (by have := HL.out; omega)
          rw [← hp3] at k3
          obtain ⟨o3, ho3⟩ : ∃ x, x = gt l (q * 4 + 3) := ⟨_, rfl⟩
          have HPr := Lib.hid (show [p0, p1, p2, p3] = prv l i by
            rw [hp0, hp1, hp2, hp3, show j * 4 + 1 = 4 * i - 3 by omega, show j * 4 + 2 = 4 * i - 2 by omega, show j * 4 + 3 = 4 * i - 1 by omega, show j * 4 = 4 * i - 4 by omega]; rfl)
          have HPa := Lib.hid (show [p1, p2, p3, p0] = [gt l (4 * i - 3), gt l (4 * i - 2), gt l (4 * i - 1), gt l (4 * i - 4)] by
            rw [hp0, hp1, hp2, hp3, show j * 4 + 1 = 4 * i - 3 by omega, show j * 4 + 2 = 4 * i - 2 by omega, show j * 4 + 3 = 4 * i - 1 by omega, show j * 4 = 4 * i - 4 by omega])
          have HOl := Lib.hid (show [o0, o1, o2, o3] = old l i by
            rw [ho0, ho1, ho2, ho3, show q * 4 = 4 * i - 32 by omega]; rfl)
          have HO0 := Lib.hid ho0
          have HO1 := Lib.hid ho1
          have HO2 := Lib.hid ho2
          have HO3 := Lib.hid ho3
          clear hj hq hp0 hp1 hp2 hp3 ho0 ho1 ho2 ho3
          obtain ⟨m, hm⟩ : ∃ m, m = i % 8 := ⟨_, rfl⟩
          by_cases hm0 : m = 0
          · have hm8 : i % 8 = 0 := by omega
            have em : (i : Int).tmod 8 = 0 := by rw [Int.tmod_eq_emod_of_nonneg (by omega)]; omega
            have em2 : (i : Int) % 8 = 0 := by omega
            obtain ⟨P2, hP2⟩ : ∃ P2, P2 = dbl P := ⟨_, rfl⟩
            have HP2 := Lib.hid (show P2 = pwAt (i + 1) by rw [pwAt_next i h8 hm8, hP2, HP.out])
            have HC := Lib.hid (fun W => show Calls Try.prog 23 #[.int .u8 (P.toNat : Int)] W (fun e w' => e = .returned (.int .u8 (P2.toNat : Int)) ∧ w' = W) by rw [hP2]; exact double_any P W)
            clear hm hm0 hP2
            go_wp2_with fail
            refine (HC.out _).mono ?_
            rintro e w' ⟨rfl, hw'⟩
            subst w'
            go_wp2
            obtain ⟨g, hg⟩ : ∃ g, g = wr.heap.size := ⟨_, rfl⟩
            have hGg : G < g := by have := H.out.2.lt; omega
            have HX := Lib.hid (show Ex w (wr.alloc (.cells #[Value.int .u8 p1.toNat, Value.int .u8 p2.toNat, Value.int .u8 p3.toNat, Value.int .u8 p0.toNat] 41)) G l ∧ Bk (wr.alloc (.cells #[Value.int .u8 p1.toNat, Value.int .u8 p2.toNat, Value.int .u8 p3.toNat, Value.int .u8 p0.toNat] 41)) g 41 [p1, p2, p3, p0] from ⟨H.out.alloc _, by rw [hg]; exact heap_alloc_new wr _⟩)
            rw [← hg]
            clear H k0 k1 k2 k3 hg
            generalize wr.alloc _ = w5 at HX ⊢
            have HX0 := Lib.hid (show Ex w w5 G l ∧ Bk w5 g 41 (qt (sF [p1, p2, p3, p0]) [p1, p2, p3, p0] 0) by rw [qt_zero _ _ rfl]; exact HX.out)
            clear HX
            go_loopw [58] (fun v58 wr => ∃ s : Nat, v58 = .int .i64 (s : Int) ∧ s ≤ 4 ∧ Hid (Ex w wr G l ∧ Bk wr g 41 (qt (sF [p1, p2, p3, p0]) [p1, p2, p3, p0] s))) (fun v58 _ => 4 - (intOf v58).toNat)
            case atStart => exact ⟨0, rfl, by omega, HX0.out⟩
            case round =>
              clear HX0
              obtain ⟨s, rfl, hs, HX⟩ := hrel
              by_cases hsl : s < 4
              · obtain ⟨x, hx⟩ : ∃ x, x = gt [p1, p2, p3, p0] s := ⟨_, rfl⟩
                have hix : ∀ V : World, (Instr.index 41 (.agg #[Value.int .u8 p1.toNat, Value.int .u8 p2.toNat, Value.int .u8 p3.toNat, Value.int .u8 p0.toNat]) (.int .i64 (s : Int))).run Try.prog V = .ok (.int .u8 (x.toNat : Int)) V := fun V => by rw [hx]; exact idxB (l := [p1, p2, p3, p0]) u4B rfl s hsl V
                have hxl := u8_lt x
                obtain ⟨z, hz⟩ : ∃ z, z = gt SB x.toNat := ⟨_, rfl⟩
                have hcs := HX.out.1.s (by have := HL.out; omega) x
                rw [← hz] at hcs
                have yc := HX.out.2.cell s (by rw [qt_len]; exact hsl)
                have yf := HX.out.2.free s
                have HZ := Lib.hid (show z = sF [p1, p2, p3, p0] s by rw [hz, hx]; rfl)
                have bs : (s : Int) < 4 := by omega
                clear hx hz
                go_wp2
                go_roundw
                case rel => exact ⟨s + 1, by go_num, by omega, HX.out.1.far hGg _, (by rw [← qt_set, ← HZ.out]; exact HX.out.2.put s z)⟩
                case measure => simp [intOf]; omega
              · have HY := Lib.hid (show Ex w wr G l ∧ Bk wr g 41 (mpS [p1, p2, p3, p0]) by have := HX.out; rw [show s = 4 by omega, qt_all] at this; exact this)
                have bs : ¬ (s : Int) < 4 := by omega
                clear HX
                obtain ⟨Y, hY⟩ : ∃ Y, Y = mpS [p1, p2, p3, p0] := ⟨_, rfl⟩
                rw [← hY] at HY
                have HYe := Lib.hid hY
                have HYl := Lib.hid (show Y.length = 4 by rw [hY]; rfl)
                clear hY
                obtain ⟨y, hy⟩ : ∃ y, y = gt Y 0 := ⟨_, rfl⟩
                obtain ⟨z, hz⟩ : ∃ z, z = y ^^^ P := ⟨_, rfl⟩
                have yc := HY.out.2.cell 0 (by rw [HYl.out]; omega)
                rw [← hy] at yc
                have yf := HY.out.2.free 0
                have hx : bits .xor .u8 (y.toNat : Int) (P.toNat : Int) = (z.toNat : Int) := by rw [hz]; exact xor_u8 y P
                have k0 := HY.out.1.cell (by have := HL.out; omega) (q * 4) (by have := HL.out; omega)
                rw [← HO0.out] at k0
                have k1 := HY.out.1.cell (by have := HL.out; omega) (q * 4 + 1) (by have := HL.out; omega)
                rw [← HO1.out] at k1
                have k2 := HY.out.1.cell (by have := HL.out; omega) (q * 4 + 2) (by have := HL.out; omega)
                rw [← HO2.out] at k2
                have k3 := HY.out.1.cell (by have := HL.out; omega) (q * 4 + 3) (by have := HL.out; omega)
                rw [← HO3.out] at k3
                have HZe := Lib.hid (show Y.set 0 z = nxt l i by rw [hz, hy, HYe.out]; exact by rw [show P = pw (i / 8 - 1) by rw [HP.out]; exact pwAt_now i hm8]; exact nxt_a l i hm8 _ HPa.out)
                have HZl := Lib.hid (show (Y.set 0 z).length = 4 by rw [List.length_set]; exact HYl.out)
                have HO := Lib.hid (show Ex w (wr.setCell ⟨g, 0, none⟩ (.int .u8 (z.toNat : Int))) G l ∧ Bk (wr.setCell ⟨g, 0, none⟩ (.int .u8 (z.toNat : Int))) g 41 (Y.set 0 z) from ⟨HY.out.1.far hGg _, HY.out.2.put 0 z⟩)
                clear hy hz HYe
                obtain ⟨X, hX⟩ : ∃ X, X = Y.set 0 z := ⟨_, rfl⟩
                rw [← hX] at HZe HZl HO
                clear hX
                go_wp2
                clear yc yf hx k0 k1 k2 k3
                generalize wr.setCell _ _ = w6 at HO ⊢
                obtain ⟨V, hV⟩ : ∃ V, V = [o0, o1, o2, o3] := ⟨_, rfl⟩
                have HV := Lib.hid hV
                have HW := Lib.hid (show xoL X V = word l i by rw [hV, HOl.out]; exact word_of l i X HZe.out)
                clear hV
                have HO5 := Lib.hid (show Ex w w6 G l ∧ Bk w6 g 41 (qt (xF X V) X 0) by rw [qt_zero _ _ HZl.out]; exact HO.out)
                clear HO
                go_loopw [83] (fun v83 wr => ∃ s : Nat, v83 = .int .i64 (s : Int) ∧ s ≤ 4 ∧ Hid (Ex w wr G l ∧ Bk wr g 41 (qt (xF X V) X s))) (fun v83 _ => 4 - (intOf v83).toNat)
                case atStart => exact ⟨0, rfl, by omega, HO5.out⟩
                case round =>
                  clear HO5
                  obtain ⟨s', rfl, hs', HO⟩ := hrel
                  by_cases hsl' : s' < 4
                  · obtain ⟨x, hx⟩ : ∃ x, x = gt V s' := ⟨_, rfl⟩
                    have hix : ∀ W : World, (Instr.index 41 (.agg #[Value.int .u8 o0.toNat, Value.int .u8 o1.toNat, Value.int .u8 o2.toNat, Value.int .u8 o3.toNat]) (.int .i64 (s' : Int))).run Try.prog W = .ok (.int .u8 (x.toNat : Int)) W := fun W => by rw [hx, HV.out]; exact idxB (l := [o0, o1, o2, o3]) u4B rfl s' hsl' W
                    obtain ⟨y', hy'⟩ : ∃ y, y = gt X s' := ⟨_, rfl⟩
                    obtain ⟨z', hz'⟩ : ∃ z, z = y' ^^^ x := ⟨_, rfl⟩
                    have hxr : bits .xor .u8 (y'.toNat : Int) (x.toNat : Int) = (z'.toNat : Int) := by rw [hz']; exact xor_u8 _ _
                    have yc := HO.out.2.cell s' (by rw [qt_len]; exact hsl')
                    rw [gt_qt _ _ _ _ hsl', if_neg (by omega), ← hy'] at yc
                    have yf := HO.out.2.free s'
                    have HZ := Lib.hid (show z' = xF X V s' by rw [hz', hx, hy']; rfl)
                    have bs' : (s' : Int) < 4 := by omega
                    clear hx hy' hz'
                    go_wp2
                    go_roundw
                    case rel => exact ⟨s' + 1, by go_num, by omega, HO.out.1.far hGg _, (by rw [← qt_set, ← HZ.out]; exact HO.out.2.put s' z')⟩
                    case measure => simp [intOf]; omega
                  · have HT := Lib.hid (show Ex w wr G l ∧ Bk wr g 41 (word l i) by have := HO.out; rw [show s' = 4 by omega, qt_all, show (List.range 4).map (xF X V) = word l i from HW.out] at this; exact this)
                    have bs' : ¬ (s' : Int) < 4 := by omega
                    clear HO
                    obtain ⟨R, hR⟩ : ∃ R, R = word l i := ⟨_, rfl⟩
                    rw [← hR] at HT HKS
                    have HRl := Lib.hid (show R.length = 4 by rw [hR]; exact word_len l i)
                    clear hR HW
                    obtain ⟨z0, hz0⟩ : ∃ z, z = gt R 0 := ⟨_, rfl⟩
                    obtain ⟨z1, hz1⟩ : ∃ z, z = gt R 1 := ⟨_, rfl⟩
                    obtain ⟨z2, hz2⟩ : ∃ z, z = gt R 2 := ⟨_, rfl⟩
                    obtain ⟨z3, hz3⟩ : ∃ z, z = gt R 3 := ⟨_, rfl⟩
                    have d0 := HT.out.2.cell 0 (by rw [HRl.out]; omega)
                    have d1 := HT.out.2.cell 1 (by rw [HRl.out]; omega)
                    have d2 := HT.out.2.cell 2 (by rw [HRl.out]; omega)
                    have d3 := HT.out.2.cell 3 (by rw [HRl.out]; omega)
                    rw [← hz0] at d0
                    rw [← hz1] at d1
                    rw [← hz2] at d2
                    rw [← hz3] at d3
                    have HRe := Lib.hid (show R = [z0, z1, z2, z3] by rw [hz0, hz1, hz2, hz3]; exact four R HRl.out)
                    clear hz0 hz1 hz2 hz3
                    go_wp2
                    go_still_tail 6, (by kernel_rfl)
                    change wpList _ _ _ _ _ wr.drew
                    have HT2 := Lib.hid (show Ex w wr.drew G l from HT.out.1.drew)
                    clear HT d0 d1 d2 d3
                    generalize wr.drew = w8 at HT2 ⊢
                    have Hth := Lib.hid (show w8.there G (i * 4) 4 from fun j hj => ⟨by rw [HT2.out.2.cell (i * 4 + j) (by rw [wz_len l (by have := HL.out; omega)]; omega)]; rfl, HT2.out.2.free _⟩)
                    have H9 := Lib.hid (show Ex w (w8.setCells G (i * 4) [Value.int .u8 z0.toNat, Value.int .u8 z1.toNat, Value.int .u8 z2.toNat, Value.int .u8 z3.toNat]) G (ks k (n + 1)) by
                      refine ⟨(((HT2.out.1.setCell (Nat.le_refl _) _).setCell (Nat.le_refl _) _).setCell (Nat.le_refl _) _).setCell (Nat.le_refl _) _, ?_⟩
                      rw [HKS.out, HRe.out, ← wz_four l z0 z1 z2 z3 (by have := HL.out; omega) (i * 4) (by have := HL.out; omega)]
                      exact (((HT2.out.2.put (i * 4) z0).put (i * 4 + 1) z1).put (i * 4 + 2) z2).put (i * 4 + 3) z3)
                    clear HT2
                    go_wp2_with (first
                      | (refine wpList_store_mid rfl 41 (.tmp 99) (.tmp 96) rfl G (i * 4) #[Value.int .u8 z0.toNat, Value.int .u8 z1.toNat, Value.int .u8 z2.toNat, Value.int .u8 z3.toNat] rfl rfl Hth.out i4B (all_oneCell_toArray (bvs_one [z0, z1, z2, z3])) ?_))
                    generalize w8.setCells _ _ _ = w9 at H9 ⊢
                    go_wp2
                    go_roundw
                    case rel => exact ⟨n + 1, i + 1, by go_num, by rw [← HP2.out], by omega, (by show i + 1 = 8 + (n + 1); have := Hn.out; omega), H9.out⟩
                    case measure => simp [intOf]; omega
          · by_cases hm4 : m = 4
            · have hm8 : i % 8 = 4 := by omega
              have em : (i : Int).tmod 8 = 4 := by rw [Int.tmod_eq_emod_of_nonneg (by omega)]; omega
              have em2 : (i : Int) % 8 = 4 := by omega
              have HP2 := Lib.hid (show P = pwAt (i + 1) by rw [pwAt_keep i h8 (by omega), HP.out])
              clear hm hm0 hm4
              go_wp2
              obtain ⟨g, hg⟩ : ∃ g, g = wr.heap.size := ⟨_, rfl⟩
              have hGg : G < g := by have := H.out.2.lt; omega
              have HX := Lib.hid (show Ex w (wr.alloc (.cells #[Value.int .u8 p0.toNat, Value.int .u8 p1.toNat, Value.int .u8 p2.toNat, Value.int .u8 p3.toNat] 41)) G l ∧ Bk (wr.alloc (.cells #[Value.int .u8 p0.toNat, Value.int .u8 p1.toNat, Value.int .u8 p2.toNat, Value.int .u8 p3.toNat] 41)) g 41 [p0, p1, p2, p3] from ⟨H.out.alloc _, by rw [hg]; exact heap_alloc_new wr _⟩)
              rw [← hg]
              clear H k0 k1 k2 k3 hg
              generalize wr.alloc _ = w5 at HX ⊢
              have HX0 := Lib.hid (show Ex w w5 G l ∧ Bk w5 g 41 (qt (sF [p0, p1, p2, p3]) [p0, p1, p2, p3] 0) by rw [qt_zero _ _ rfl]; exact HX.out)
              clear HX
              go_loopw [58] (fun v58 wr => ∃ s : Nat, v58 = .int .i64 (s : Int) ∧ s ≤ 4 ∧ Hid (Ex w wr G l ∧ Bk wr g 41 (qt (sF [p0, p1, p2, p3]) [p0, p1, p2, p3] s))) (fun v58 _ => 4 - (intOf v58).toNat)
              case atStart => exact ⟨0, rfl, by omega, HX0.out⟩
              case round =>
                clear HX0
                obtain ⟨s, rfl, hs, HX⟩ := hrel
                by_cases hsl : s < 4
                · obtain ⟨x, hx⟩ : ∃ x, x = gt [p0, p1, p2, p3] s := ⟨_, rfl⟩
                  have hix : ∀ V : World, (Instr.index 41 (.agg #[Value.int .u8 p0.toNat, Value.int .u8 p1.toNat, Value.int .u8 p2.toNat, Value.int .u8 p3.toNat]) (.int .i64 (s : Int))).run Try.prog V = .ok (.int .u8 (x.toNat : Int)) V := fun V => by rw [hx]; exact idxB (l := [p0, p1, p2, p3]) u4B rfl s hsl V
                  have hxl := u8_lt x
                  obtain ⟨z, hz⟩ : ∃ z, z = gt SB x.toNat := ⟨_, rfl⟩
                  have hcs := HX.out.1.s (by have := HL.out; omega) x
                  rw [← hz] at hcs
                  have yc := HX.out.2.cell s (by rw [qt_len]; exact hsl)
                  have yf := HX.out.2.free s
                  have HZ := Lib.hid (show z = sF [p0, p1, p2, p3] s by rw [hz, hx]; rfl)
                  have bs : (s : Int) < 4 := by omega
                  clear hx hz
                  go_wp2
                  go_roundw
                  case rel => exact ⟨s + 1, by go_num, by omega, HX.out.1.far hGg _, (by rw [← qt_set, ← HZ.out]; exact HX.out.2.put s z)⟩
                  case measure => simp [intOf]; omega
                · have HY := Lib.hid (show Ex w wr G l ∧ Bk wr g 41 (mpS [p0, p1, p2, p3]) by have := HX.out; rw [show s = 4 by omega, qt_all] at this; exact this)
                  have bs : ¬ (s : Int) < 4 := by omega
                  clear HX
                  obtain ⟨Y, hY⟩ : ∃ Y, Y = mpS [p0, p1, p2, p3] := ⟨_, rfl⟩
                  rw [← hY] at HY
                  have HYe := Lib.hid hY
                  have HYl := Lib.hid (show Y.length = 4 by rw [hY]; rfl)
                  clear hY
                  obtain ⟨y, hy⟩ : ∃ y, y = gt Y 0 := ⟨_, rfl⟩
                  obtain ⟨z, hz⟩ : ∃ z, z = y ^^^ 0 := ⟨_, rfl⟩
                  have yc := HY.out.2.cell 0 (by rw [HYl.out]; omega)
                  rw [← hy] at yc
                  have yf := HY.out.2.free 0
                  have hx : bits .xor .u8 (y.toNat : Int) 0 = (z.toNat : Int) := by rw [hz]; exact xor_u8 y 0
                  have k0 := HY.out.1.cell (by have := HL.out; omega) (q * 4) (by have := HL.out; omega)
                  rw [← HO0.out] at k0
                  have k1 := HY.out.1.cell (by have := HL.out; omega) (q * 4 + 1) (by have := HL.out; omega)
                  rw [← HO1.out] at k1
                  have k2 := HY.out.1.cell (by have := HL.out; omega) (q * 4 + 2) (by have := HL.out; omega)
                  rw [← HO2.out] at k2
                  have k3 := HY.out.1.cell (by have := HL.out; omega) (q * 4 + 3) (by have := HL.out; omega)
                  rw [← HO3.out] at k3
                  have HZe := Lib.hid (show Y.set 0 z = nxt l i by rw [hz, hy, HYe.out]; exact by rw [HPr.out]; exact nxt_b l i hm8)
                  have HZl := Lib.hid (show (Y.set 0 z).length = 4 by rw [List.length_set]; exact HYl.out)
                  have HO := Lib.hid (show Ex w (wr.setCell ⟨g, 0, none⟩ (.int .u8 (z.toNat : Int))) G l ∧ Bk (wr.setCell ⟨g, 0, none⟩ (.int .u8 (z.toNat : Int))) g 41 (Y.set 0 z) from ⟨HY.out.1.far hGg _, HY.out.2.put 0 z⟩)
                  clear hy hz HYe
                  obtain ⟨X, hX⟩ : ∃ X, X = Y.set 0 z := ⟨_, rfl⟩
                  rw [← hX] at HZe HZl HO
                  clear hX
                  go_wp2
                  clear yc yf hx k0 k1 k2 k3
                  generalize wr.setCell _ _ = w6 at HO ⊢
                  obtain ⟨V, hV⟩ : ∃ V, V = [o0, o1, o2, o3] := ⟨_, rfl⟩
                  have HV := Lib.hid hV
                  have HW := Lib.hid (show xoL X V = word l i by rw [hV, HOl.out]; exact word_of l i X HZe.out)
                  clear hV
                  have HO5 := Lib.hid (show Ex w w6 G l ∧ Bk w6 g 41 (qt (xF X V) X 0) by rw [qt_zero _ _ HZl.out]; exact HO.out)
                  clear HO
                  go_loopw [83] (fun v83 wr => ∃ s : Nat, v83 = .int .i64 (s : Int) ∧ s ≤ 4 ∧ Hid (Ex w wr G l ∧ Bk wr g 41 (qt (xF X V) X s))) (fun v83 _ => 4 - (intOf v83).toNat)
                  case atStart => exact ⟨0, rfl, by omega, HO5.out⟩
                  case round =>
                    clear HO5
                    obtain ⟨s', rfl, hs', HO⟩ := hrel
                    by_cases hsl' : s' < 4
                    · obtain ⟨x, hx⟩ : ∃ x, x = gt V s' := ⟨_, rfl⟩
                      have hix : ∀ W : World, (Instr.index 41 (.agg #[Value.int .u8 o0.toNat, Value.int .u8 o1.toNat, Value.int .u8 o2.toNat, Value.int .u8 o3.toNat]) (.int .i64 (s' : Int))).run Try.prog W = .ok (.int .u8 (x.toNat : Int)) W := fun W => by rw [hx, HV.out]; exact idxB (l := [o0, o1, o2, o3]) u4B rfl s' hsl' W
                      obtain ⟨y', hy'⟩ : ∃ y, y = gt X s' := ⟨_, rfl⟩
                      obtain ⟨z', hz'⟩ : ∃ z, z = y' ^^^ x := ⟨_, rfl⟩
                      have hxr : bits .xor .u8 (y'.toNat : Int) (x.toNat : Int) = (z'.toNat : Int) := by rw [hz']; exact xor_u8 _ _
                      have yc := HO.out.2.cell s' (by rw [qt_len]; exact hsl')
                      rw [gt_qt _ _ _ _ hsl', if_neg (by omega), ← hy'] at yc
                      have yf := HO.out.2.free s'
                      have HZ := Lib.hid (show z' = xF X V s' by rw [hz', hx, hy']; rfl)
                      have bs' : (s' : Int) < 4 := by omega
                      clear hx hy' hz'
                      go_wp2
                      go_roundw
                      case rel => exact ⟨s' + 1, by go_num, by omega, HO.out.1.far hGg _, (by rw [← qt_set, ← HZ.out]; exact HO.out.2.put s' z')⟩
                      case measure => simp [intOf]; omega
                    · have HT := Lib.hid (show Ex w wr G l ∧ Bk wr g 41 (word l i) by have := HO.out; rw [show s' = 4 by omega, qt_all, show (List.range 4).map (xF X V) = word l i from HW.out] at this; exact this)
                      have bs' : ¬ (s' : Int) < 4 := by omega
                      clear HO
                      obtain ⟨R, hR⟩ : ∃ R, R = word l i := ⟨_, rfl⟩
                      rw [← hR] at HT HKS
                      have HRl := Lib.hid (show R.length = 4 by rw [hR]; exact word_len l i)
                      clear hR HW
                      obtain ⟨z0, hz0⟩ : ∃ z, z = gt R 0 := ⟨_, rfl⟩
                      obtain ⟨z1, hz1⟩ : ∃ z, z = gt R 1 := ⟨_, rfl⟩
                      obtain ⟨z2, hz2⟩ : ∃ z, z = gt R 2 := ⟨_, rfl⟩
                      obtain ⟨z3, hz3⟩ : ∃ z, z = gt R 3 := ⟨_, rfl⟩
                      have d0 := HT.out.2.cell 0 (by rw [HRl.out]; omega)
                      have d1 := HT.out.2.cell 1 (by rw [HRl.out]; omega)
                      have d2 := HT.out.2.cell 2 (by rw [HRl.out]; omega)
                      have d3 := HT.out.2.cell 3 (by rw [HRl.out]; omega)
                      rw [← hz0] at d0
                      rw [← hz1] at d1
                      rw [← hz2] at d2
                      rw [← hz3] at d3
                      have HRe := Lib.hid (show R = [z0, z1, z2, z3] by rw [hz0, hz1, hz2, hz3]; exact four R HRl.out)
                      clear hz0 hz1 hz2 hz3
                      go_wp2
                      go_still_tail 6, (by kernel_rfl)
                      change wpList _ _ _ _ _ wr.drew
                      have HT2 := Lib.hid (show Ex w wr.drew G l from HT.out.1.drew)
                      clear HT d0 d1 d2 d3
                      generalize wr.drew = w8 at HT2 ⊢
                      have Hth := Lib.hid (show w8.there G (i * 4) 4 from fun j hj => ⟨by rw [HT2.out.2.cell (i * 4 + j) (by rw [wz_len l (by have := HL.out; omega)]; omega)]; rfl, HT2.out.2.free _⟩)
                      have H9 := Lib.hid (show Ex w (w8.setCells G (i * 4) [Value.int .u8 z0.toNat, Value.int .u8 z1.toNat, Value.int .u8 z2.toNat, Value.int .u8 z3.toNat]) G (ks k (n + 1)) by
                        refine ⟨(((HT2.out.1.setCell (Nat.le_refl _) _).setCell (Nat.le_refl _) _).setCell (Nat.le_refl _) _).setCell (Nat.le_refl _) _, ?_⟩
                        rw [HKS.out, HRe.out, ← wz_four l z0 z1 z2 z3 (by have := HL.out; omega) (i * 4) (by have := HL.out; omega)]
                        exact (((HT2.out.2.put (i * 4) z0).put (i * 4 + 1) z1).put (i * 4 + 2) z2).put (i * 4 + 3) z3)
                      clear HT2
                      go_wp2_with (first
                        | (refine wpList_store_mid rfl 41 (.tmp 99) (.tmp 96) rfl G (i * 4) #[Value.int .u8 z0.toNat, Value.int .u8 z1.toNat, Value.int .u8 z2.toNat, Value.int .u8 z3.toNat] rfl rfl Hth.out i4B (all_oneCell_toArray (bvs_one [z0, z1, z2, z3])) ?_))
                      generalize w8.setCells _ _ _ = w9 at H9 ⊢
                      go_wp2
                      go_roundw
                      case rel => exact ⟨n + 1, i + 1, by go_num, by rw [← HP2.out], by omega, (by show i + 1 = 8 + (n + 1); have := Hn.out; omega), H9.out⟩
                      case measure => simp [intOf]; omega
            · have em : (i : Int).tmod 8 = (m : Int) := by rw [Int.tmod_eq_emod_of_nonneg (by omega)]; omega
              have em2 : (i : Int) % 8 = (m : Int) := by omega
              have n0 : ((m : Int) == 0) = false := by simp; omega
              have n4 : ((m : Int) == 4) = false := by simp; omega
              have HP2 := Lib.hid (show P = pwAt (i + 1) by rw [pwAt_keep i h8 (by omega), HP.out])
              have HN := Lib.hid (show [p0, p1, p2, p3] = nxt l i by rw [HPr.out]; exact nxt_c l i (by omega) (by omega))
              clear hm
              have c0 := (H.out.alloc (.cells #[Value.int .u8 p0.toNat, Value.int .u8 p1.toNat, Value.int .u8 p2.toNat, Value.int .u8 p3.toNat] 41)).cell (by have := HL.out; omega) (q * 4) (by have := HL.out; omega)
              rw [← HO0.out] at c0
              have c1 := (H.out.alloc (.cells #[Value.int .u8 p0.toNat, Value.int .u8 p1.toNat, Value.int .u8 p2.toNat, Value.int .u8 p3.toNat] 41)).cell (by have := HL.out; omega) (q * 4 + 1) (by have := HL.out; omega)
              rw [← HO1.out] at c1
              have c2 := (H.out.alloc (.cells #[Value.int .u8 p0.toNat, Value.int .u8 p1.toNat, Value.int .u8 p2.toNat, Value.int .u8 p3.toNat] 41)).cell (by have := HL.out; omega) (q * 4 + 2) (by have := HL.out; omega)
              rw [← HO2.out] at c2
              have c3 := (H.out.alloc (.cells #[Value.int .u8 p0.toNat, Value.int .u8 p1.toNat, Value.int .u8 p2.toNat, Value.int .u8 p3.toNat] 41)).cell (by have := HL.out; omega) (q * 4 + 3) (by have := HL.out; omega)
              rw [← HO3.out] at c3
              go_wp2
              obtain ⟨g, hg⟩ : ∃ g, g = wr.heap.size := ⟨_, rfl⟩
              have hGg : G < g := by have := H.out.2.lt; omega
              have HX := Lib.hid (show Ex w (wr.alloc (.cells #[Value.int .u8 p0.toNat, Value.int .u8 p1.toNat, Value.int .u8 p2.toNat, Value.int .u8 p3.toNat] 41)) G l ∧ Bk (wr.alloc (.cells #[Value.int .u8 p0.toNat, Value.int .u8 p1.toNat, Value.int .u8 p2.toNat, Value.int .u8 p3.toNat] 41)) g 41 [p0, p1, p2, p3] from ⟨H.out.alloc _, by rw [hg]; exact heap_alloc_new wr _⟩)
              rw [← hg]
              clear H k0 k1 k2 k3 c0 c1 c2 c3 hg
              generalize wr.alloc _ = w5 at HX ⊢

              have HO := HX
              clear HX
              obtain ⟨X, hX⟩ : ∃ X, X = [p0, p1, p2, p3] := ⟨_, rfl⟩
              rw [← hX] at HO HN
              have HZe := HN
              have HZl := Lib.hid (show X.length = 4 by rw [hX]; rfl)
              clear hX HN
              obtain ⟨V, hV⟩ : ∃ V, V = [o0, o1, o2, o3] := ⟨_, rfl⟩
              have HV := Lib.hid hV
              have HW := Lib.hid (show xoL X V = word l i by rw [hV, HOl.out]; exact word_of l i X HZe.out)
              clear hV
              have HO5 := Lib.hid (show Ex w w5 G l ∧ Bk w5 g 41 (qt (xF X V) X 0) by rw [qt_zero _ _ HZl.out]; exact HO.out)
              clear HO
              go_loopw [83] (fun v83 wr => ∃ s : Nat, v83 = .int .i64 (s : Int) ∧ s ≤ 4 ∧ Hid (Ex w wr G l ∧ Bk wr g 41 (qt (xF X V) X s))) (fun v83 _ => 4 - (intOf v83).toNat)
              case atStart => exact ⟨0, rfl, by omega, HO5.out⟩
              case round =>
                clear HO5
                obtain ⟨s', rfl, hs', HO⟩ := hrel
                by_cases hsl' : s' < 4
                · obtain ⟨x, hx⟩ : ∃ x, x = gt V s' := ⟨_, rfl⟩
                  have hix : ∀ W : World, (Instr.index 41 (.agg #[Value.int .u8 o0.toNat, Value.int .u8 o1.toNat, Value.int .u8 o2.toNat, Value.int .u8 o3.toNat]) (.int .i64 (s' : Int))).run Try.prog W = .ok (.int .u8 (x.toNat : Int)) W := fun W => by rw [hx, HV.out]; exact idxB (l := [o0, o1, o2, o3]) u4B rfl s' hsl' W
                  obtain ⟨y', hy'⟩ : ∃ y, y = gt X s' := ⟨_, rfl⟩
                  obtain ⟨z', hz'⟩ : ∃ z, z = y' ^^^ x := ⟨_, rfl⟩
                  have hxr : bits .xor .u8 (y'.toNat : Int) (x.toNat : Int) = (z'.toNat : Int) := by rw [hz']; exact xor_u8 _ _
                  have yc := HO.out.2.cell s' (by rw [qt_len]; exact hsl')
                  rw [gt_qt _ _ _ _ hsl', if_neg (by omega), ← hy'] at yc
                  have yf := HO.out.2.free s'
                  have HZ := Lib.hid (show z' = xF X V s' by rw [hz', hx, hy']; rfl)
                  have bs' : (s' : Int) < 4 := by omega
                  clear hx hy' hz'
                  go_wp2
                  go_roundw
                  case rel => exact ⟨s' + 1, by go_num, by omega, HO.out.1.far hGg _, (by rw [← qt_set, ← HZ.out]; exact HO.out.2.put s' z')⟩
                  case measure => simp [intOf]; omega
                · have HT := Lib.hid (show Ex w wr G l ∧ Bk wr g 41 (word l i) by have := HO.out; rw [show s' = 4 by omega, qt_all, show (List.range 4).map (xF X V) = word l i from HW.out] at this; exact this)
                  have bs' : ¬ (s' : Int) < 4 := by omega
                  clear HO
                  obtain ⟨R, hR⟩ : ∃ R, R = word l i := ⟨_, rfl⟩
                  rw [← hR] at HT HKS
                  have HRl := Lib.hid (show R.length = 4 by rw [hR]; exact word_len l i)
                  clear hR HW
                  obtain ⟨z0, hz0⟩ : ∃ z, z = gt R 0 := ⟨_, rfl⟩
                  obtain ⟨z1, hz1⟩ : ∃ z, z = gt R 1 := ⟨_, rfl⟩
                  obtain ⟨z2, hz2⟩ : ∃ z, z = gt R 2 := ⟨_, rfl⟩
                  obtain ⟨z3, hz3⟩ : ∃ z, z = gt R 3 := ⟨_, rfl⟩
                  have d0 := HT.out.2.cell 0 (by rw [HRl.out]; omega)
                  have d1 := HT.out.2.cell 1 (by rw [HRl.out]; omega)
                  have d2 := HT.out.2.cell 2 (by rw [HRl.out]; omega)
                  have d3 := HT.out.2.cell 3 (by rw [HRl.out]; omega)
                  rw [← hz0] at d0
                  rw [← hz1] at d1
                  rw [← hz2] at d2
                  rw [← hz3] at d3
                  have HRe := Lib.hid (show R = [z0, z1, z2, z3] by rw [hz0, hz1, hz2, hz3]; exact four R HRl.out)
                  clear hz0 hz1 hz2 hz3
                  go_wp2
                  go_still_tail 6, (by kernel_rfl)
                  change wpList _ _ _ _ _ wr.drew
                  have HT2 := Lib.hid (show Ex w wr.drew G l from HT.out.1.drew)
                  clear HT d0 d1 d2 d3
                  generalize wr.drew = w8 at HT2 ⊢
                  have Hth := Lib.hid (show w8.there G (i * 4) 4 from fun j hj => ⟨by rw [HT2.out.2.cell (i * 4 + j) (by rw [wz_len l (by have := HL.out; omega)]; omega)]; rfl, HT2.out.2.free _⟩)
                  have H9 := Lib.hid (show Ex w (w8.setCells G (i * 4) [Value.int .u8 z0.toNat, Value.int .u8 z1.toNat, Value.int .u8 z2.toNat, Value.int .u8 z3.toNat]) G (ks k (n + 1)) by
                    refine ⟨(((HT2.out.1.setCell (Nat.le_refl _) _).setCell (Nat.le_refl _) _).setCell (Nat.le_refl _) _).setCell (Nat.le_refl _) _, ?_⟩
                    rw [HKS.out, HRe.out, ← wz_four l z0 z1 z2 z3 (by have := HL.out; omega) (i * 4) (by have := HL.out; omega)]
                    exact (((HT2.out.2.put (i * 4) z0).put (i * 4 + 1) z1).put (i * 4 + 2) z2).put (i * 4 + 3) z3)
                  clear HT2
                  go_wp2_with (first
                    | (refine wpList_store_mid rfl 41 (.tmp 99) (.tmp 96) rfl G (i * 4) #[Value.int .u8 z0.toNat, Value.int .u8 z1.toNat, Value.int .u8 z2.toNat, Value.int .u8 z3.toNat] rfl rfl Hth.out i4B (all_oneCell_toArray (bvs_one [z0, z1, z2, z3])) ?_))
                  generalize w8.setCells _ _ _ = w9 at H9 ⊢
                  go_wp2
                  go_roundw
                  case rel => exact ⟨n + 1, i + 1, by go_num, by rw [← HP2.out], by omega, (by show i + 1 = 8 + (n + 1); have := Hn.out; omega), H9.out⟩
                  case measure => simp [intOf]; omega
        · have bi : ¬ (i : Int) < 60 := by omega
          have HF := Lib.hid (show Ex w wr G (keysL k) by have := H.out; rw [show n = 52 by have := Hn.out; omega] at this; exact this)
          clear H
          go_wp2
          go_end0
          exact ⟨rfl, HF.out⟩
end Go.Proofs.Ytgfmdjagggnfbaa.S7
