/-
  Contracts of the program's lay and double (xts).
-/
import Derived.Test.YtbgbfofghhiolaaXtT
import Derived.Test.YtbgbfofghhiolaaPdC
namespace Go.Proofs.Ytbgbfofghhiolaa.S8
open Go.RowKit
open Go.Proofs.Ytbgbfofghhiolaa.S7 hiding intOf
set_option linter.unusedVariables false
set_option linter.unusedSimpArgs false

theorem num_sixteen (n : Nat) : pt (numF n) zs16 16 = numL n := pt_all _ _

theorem lay_num (n i m : Nat) (hm : m = 8 * i) (hn : n < 9223372036854775808) : (n : Int) / 2 ^ min m 64 % 256 = ((numF n i).toNat : Int) := by
  have key : n / 2 ^ min m 64 = n / 256 ^ i := by
    by_cases h : m ≤ 64
    · rw [Nat.min_eq_left h, hm, Nat.pow_mul]
    · rw [Nat.min_eq_right (by omega), Nat.div_eq_of_lt (by omega), Nat.div_eq_of_lt]
      have := Nat.pow_le_pow_right (n := 256) (by omega) (show 8 ≤ i by omega)
      omega
  unfold numF
  rw [UInt8.toNat_ofNat', ← key]
  rw [Nat.mod_eq_of_lt (Nat.mod_lt _ (by omega))]
  generalize min m 64 = k
  rw [Int.natCast_emod, Int.natCast_ediv, Int.natCast_pow]
  rfl

set_option maxHeartbeats 4000000 in
set_option maxRecDepth 20000 in
theorem lay_any (n : Nat) (hn : n < 9223372036854775808) (w : World) :
    Calls Try.prog 21 #[.int .i64 (n : Int)] w fun e w' => e = .returned (.agg (bvs (numL n)).toArray) ∧ Grown w w' := by
  have HN := Lib.hid hn
  clear hn
  go_enter Try.func21, Try.ntmps21
  go_wp2
  have H0 := Lib.hid (show TwIn w ((w.alloc (.cells (bvs zs16).toArray 37)).alloc (.cells (bvs zs16).toArray 37)) (pt (numF n) zs16 0) from by
    rw [pt_zero _ _ rfl]
    refine ⟨Grown.trans (alloc_below w _) (alloc_below _ _), (Br.new w zs16).alloc _, ?_⟩
    have := Br.new (w.alloc (.cells (bvs zs16).toArray 37)) zs16
    simpa using this)
  rw [show (bvs zs16).toArray = #[Value.int .u8 0, Value.int .u8 0, Value.int .u8 0, Value.int .u8 0, Value.int .u8 0, Value.int .u8 0, Value.int .u8 0, Value.int .u8 0, Value.int .u8 0, Value.int .u8 0, Value.int .u8 0, Value.int .u8 0, Value.int .u8 0, Value.int .u8 0, Value.int .u8 0, Value.int .u8 0] from rfl] at H0
  generalize (w.alloc _).alloc _ = w2 at H0 ⊢
  go_loopw [5] (fun v5 wr => ∃ i : Nat, v5 = .int .i64 (i : Int) ∧ i ≤ 16 ∧ Hid (TwIn w wr (pt (numF n) zs16 i))) (fun v5 _ => 16 - (intOf v5).toNat)
  case atStart => exact ⟨0, rfl, by omega, H0.out⟩
  case round =>
    clear H0
    obtain ⟨i, rfl, hi, H⟩ := hrel
    by_cases hil : i < 16
    · obtain ⟨m, hm⟩ : ∃ m, m = 8 * i := ⟨_, rfl⟩
      have em : 8 * (i : Int) = (m : Int) := by omega
      have wm : IntKind.i64.wrap (m : Int) = (m : Int) := wr64 m (by omega)
      obtain ⟨x, hx⟩ : ∃ x, x = numF n i := ⟨_, rfl⟩
      have bi : (i : Int) < 16 := by omega
      have yc := H.out.2.2.cell i (by rw [pt_len]; omega)
      have yf := H.out.2.2.free i
      have ex : (n : Int) / 2 ^ min m 64 % 256 = (x.toNat : Int) := by rw [hx]; exact lay_num n i m hm HN.out
      have HX := Lib.hid hx
      clear hm hx
      go_wp2
      go_roundw
      case rel => exact ⟨i + 1, by go_num, by omega, (by rw [← pt_set, ← HX.out]; exact H.out.put i x)⟩
      case measure => simp [intOf]; omega
    · have H1 := Lib.hid (show TwIn w wr (numL n) by have := H.out; rw [show i = 16 by omega, num_sixteen] at this; exact this)
      have bi : ¬ (i : Int) < 16 := by omega
      have HNl := Lib.hid (numL_len n)
      obtain ⟨N, hN⟩ : ∃ N, N = numL n := ⟨_, rfl⟩
      rw [← hN] at H1 HNl
      have HNe := Lib.hid hN
      clear hN H
      go_wp2_with (first
        | (refine wpList_load_br rfl (.tmp 3) rfl rfl H1.out.2.2 HNl.out ?_)
        | (refine wpList_store_br rfl (.tmp 2) (.tmp 16) rfl rfl rfl H1.out.2.1 rfl HNl.out ?_))
      exact ret_row rfl _ rfl (H1.out.2.1.row N) u16B rfl (sz16 HNl.out) ⟨by rw [HNe.out], Below.setRow' H1.out.1 (Nat.le_refl _) _⟩

set_option maxRecDepth 100000 in
theorem or_num : ∀ c : Fin 2, ∀ x : UInt8, bits .or .u8 ((x.toNat : Int) * 2 % 256) (c.val : Int) = (((2 * x.toNat + c.val) % 256 : Nat) : Int) := by
  intro c
  exact allU (by revert c; decide +kernel)
theorem fr_same {w wr : World} {L : List UInt8} {i : Nat} {y : UInt8} (h : Fr w wr L) (hi : i < L.length) (hy : y = gt L i) : Fr w (wr.setCell ⟨w.heap.size, i, none⟩ (.int .u8 (y.toNat : Int))) L := by
  have := h.put i y
  rwa [show L.set i y = L from by
    apply List.ext_getElem
    · simp
    · intro j h1 h2
      rw [List.getElem_set]
      by_cases e : i = j
      · subst e
        rw [if_pos rfl, hy]
        simp [gt, hi]
      · rw [if_neg e]] at this

set_option maxHeartbeats 4000000 in
set_option maxRecDepth 20000 in
theorem dbl_any (b : List UInt8) (hb : b.length = 16) (w : World) :
    Calls Try.prog 24 #[.agg (bvs b).toArray] w fun e w' => e = .returned (.agg (bvs (dblT b)).toArray) ∧ Grown w w' := by
  have Hb := Lib.hid hb
  have H0 := Lib.hid (Fr.start w b rfl (Z := (bvs zs16).toArray) rfl)
  rw [show (bvs zs16).toArray = #[Value.int .u8 0, Value.int .u8 0, Value.int .u8 0, Value.int .u8 0, Value.int .u8 0, Value.int .u8 0, Value.int .u8 0, Value.int .u8 0, Value.int .u8 0, Value.int .u8 0, Value.int .u8 0, Value.int .u8 0, Value.int .u8 0, Value.int .u8 0, Value.int .u8 0, Value.int .u8 0] from rfl] at H0
  clear hb
  go_enter Try.func24, Try.ntmps24
  go_wp2_with (first
    | (refine wpList_load_fr rfl (.tmp 1) rfl rfl H0.out Hb.out ?_))
  generalize (w.alloc _).alloc _ = w3 at H0 ⊢
  have H1 := Lib.hid (show Fr w w3 (pt (dbF b) b 0) by rw [pt_zero _ _ Hb.out]; exact H0.out)
  clear H0
  go_loopw [3, 7] (fun v3 v7 wr => ∃ i cc : Nat, v7 = .int .i64 (i : Int) ∧ v3 = .int .u8 (cc : Int) ∧ i ≤ 16 ∧ cc ≤ 1 ∧ Hid (cc = cr b i) ∧ Hid (Fr w wr (pt (dbF b) b i))) (fun _ v7 _ => 16 - (intOf v7).toNat)
  case atStart => exact ⟨0, 0, rfl, rfl, by omega, by omega, rfl, H1.out⟩
  case round =>
    clear H1
    obtain ⟨i, cc, rfl, rfl, hi, hcc, Hcc, H⟩ := hrel
    by_cases hil : i < 16
    · obtain ⟨p, hp⟩ : ∃ p, p = gt b i := ⟨_, rfl⟩
      have hix : ∀ W : World, (Instr.index 37 (.agg (bvs b).toArray) (.int .i64 (i : Int))).run Try.prog W = .ok (.int .u8 (p.toNat : Int)) W := fun W => by rw [hp]; exact idxB u16B Hb.out i hil W
      have bi : (i : Int) < 16 := by omega
      have yc := H.out.cell i (by rw [pt_len]; omega)
      have yf := H.out.free i
      obtain ⟨z, hz⟩ : ∃ z, z = dbF b i := ⟨_, rfl⟩
      obtain ⟨c2, hc2⟩ : ∃ c2, c2 = p.toNat / 128 := ⟨_, rfl⟩
      have hpl := u8_lt p
      have e1 : bits .or .u8 ((p.toNat : Int) * 2 % 256) (cc : Int) = (z.toNat : Int) := by
        refine (or_num ⟨cc, by omega⟩ p).trans ?_
        show (((2 * p.toNat + cc) % 256 : Nat) : Int) = _
        rw [hz]
        unfold dbF
        rw [UInt8.toNat_ofNat', ← hp, ← Hcc.out]
        omega
      have e2 : (p.toNat : Int) / 128 = (c2 : Int) := by omega
      have HC2 := Lib.hid (show c2 = cr b (i + 1) by
        show c2 = (2 * (gt b i).toNat + cr b i) / 256
        rw [← hp, ← Hcc.out]
        omega)
      have hc2l : c2 ≤ 1 := by omega
      have HZ := Lib.hid hz
      clear hp hz hc2
      go_wp2
      go_roundw
      case rel => exact ⟨i + 1, c2, by go_num, rfl, by omega, hc2l, HC2.out, (by rw [← pt_set, ← HZ.out]; exact H.out.put i z)⟩
      case measure => simp [intOf]; omega
    · have H2 := Lib.hid (show Fr w wr (mk (dbF b)) by have := H.out; rw [show i = 16 by omega, pt_all] at this; exact this)
      have HC2 := Lib.hid (show cc = cr b 16 by rw [Hcc.out, show i = 16 by omega])
      have bi : ¬ (i : Int) < 16 := by omega
      clear H Hcc
      obtain ⟨y, hy⟩ : ∃ y, y = dbF b 0 := ⟨_, rfl⟩
      have yc := H2.out.cell 0 (by rw [mk_len]; omega)
      have hy0 : y = gt (mk (dbF b)) 0 := by rw [gt_mk _ _ (by omega), hy]
      rw [← hy0] at yc
      have yf := H2.out.free 0
      obtain ⟨R, hR⟩ : ∃ R, R = dblT b := ⟨_, rfl⟩
      have HR := Lib.hid hR
      have HRl := Lib.hid (show R.length = 16 by rw [hR]; exact dblT_len b)
      by_cases hc1 : cc = 1
      · subst hc1
        obtain ⟨z, hz⟩ : ∃ z, z = y ^^^ 135 := ⟨_, rfl⟩
        have hx : bits .xor .u8 (y.toNat : Int) 135 = (z.toNat : Int) := by rw [hz]; exact x_u8 y 135
        have H3 := Lib.hid (show Fr w (wr.setCell ⟨w.heap.size, 0, none⟩ (.int .u8 (z.toNat : Int))) R by
          rw [hR]
          unfold dblT
          rw [if_pos HC2.out.symm, ← hy, ← hz]
          exact H2.out.put 0 z)
        clear hy hz H2 hR hy0
        go_wp2_with (first
          | (refine wpList_load_fr rfl (.tmp 1) rfl rfl H3.out HRl.out ?_)
          | (refine wpList_store_res rfl (.tmp 2) (.tmp 26) rfl rfl rfl H3.out HRl.out ?_
             intro w9 h9
             have H9 := Lib.hid h9
             clear h9))
        exact ret_fr rfl rfl H9.out HRl.out ⟨by rw [HR.out], H9.out.1⟩
      · have hc0 : cc = 0 := by omega
        subst hc0
        have hx : bits .xor .u8 (y.toNat : Int) 0 = (y.toNat : Int) := by
          have := x_u8 y 0
          rw [UInt8.xor_zero] at this
          exact this
        have H3 := Lib.hid (show Fr w (wr.setCell ⟨w.heap.size, 0, none⟩ (.int .u8 (y.toNat : Int))) R by
          rw [hR]
          unfold dblT
          rw [if_neg (by rw [← HC2.out]; omega)]
          exact fr_same H2.out (by rw [mk_len]; omega) hy0)
        clear hy H2 hR hy0
        go_wp2_with (first
          | (refine wpList_load_fr rfl (.tmp 1) rfl rfl H3.out HRl.out ?_)
          | (refine wpList_store_res rfl (.tmp 2) (.tmp 26) rfl rfl rfl H3.out HRl.out ?_
             intro w9 h9
             have H9 := Lib.hid h9
             clear h9))
        exact ret_fr rfl rfl H9.out HRl.out ⟨by rw [HR.out], H9.out.1⟩
end Go.Proofs.Ytbgbfofghhiolaa.S8
