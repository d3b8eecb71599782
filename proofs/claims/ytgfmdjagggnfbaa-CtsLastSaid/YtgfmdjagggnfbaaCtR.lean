/-
  Contract of the reference's Encrypt (CBC with ciphertext stealing).
-/
import Derived.Test.YtgfmdjagggnfbaaCtL
import Derived.Test.YtgfmdjagggnfbaaOwB
namespace Go.Proofs.Ytgfmdjagggnfbaa.S9
open Go.RowKit
open Go.Proofs.Ytgfmdjagggnfbaa.S7 hiding intOf
open Go.Proofs.Ytgfmdjagggnfbaa.S8 (Br sz16 on16 wp_load_br wp_store_br wpList_load_br wpList_store_br wr64 x_u8 xorL xorL_len xor_xorL z16)
set_option linter.unusedVariables false
set_option linter.unusedSimpArgs false

theorem strAdd (p q : List UInt8) (h : p.length + q.length ≤ 4294967296) (W : World) : (Op.stringOp .add { data := p.toArray } { data := q.toArray }).run Try.prog W = .ok (.string { data := (p ++ q).toArray }) W := by
  rw [run_string_add_sum _ _ _ (by show p.toArray.size + q.toArray.size ≤ _; simp; omega)]
  congr 2
theorem strCut (l : List UInt8) (n : Nat) (h : n ≤ l.length) (W : World) : (Instr.slice 9 (.string ⟨l.toArray⟩) none (some (.int .i64 (n : Int))) none).run Try.prog W = .ok (.string ⟨(l.take n).toArray⟩) W := by
  have hs : (⟨l.toArray⟩ : ByteArray).size = l.length := by show l.toArray.size = _; simp
  have hr := run_slice_string_h (P := Try.prog) W 9 ⟨l.toArray⟩ Try.underlying9 .i64 (n : Int) (by omega) (by rw [hs]; omega)
  rw [hr]
  congr 2
  apply ByteArray.ext
  apply Array.ext'
  simp [ByteArray.extract, ByteArray.copySlice]
/-- The blocks of the chain. -/
def chn (W b : List UInt8) (n : Nat) : List UInt8 := jB (fun i => cc W b (i + 1)) n
theorem chn_len (W b : List UInt8) (n : Nat) : (chn W b n).length = 16 * n := jB_len _ (fun i => cc_len W b (i + 1)) n
theorem chn_at (W b : List UInt8) (n i : Nat) (h : i < n) : ((chn W b n).drop (16 * i)).take 16 = cc W b (i + 1) := by
  have hl := chn_len W b n
  have hc := cc_len W b (i + 1)
  apply ext_gt
  · simp; omega
  · intro j hj
    have hj16 : j < 16 := by simp at hj; omega
    rw [gt_take, if_pos hj16, show gt ((chn W b n).drop (16 * i)) j = gt (chn W b n) (16 * i + j) by simp [gt, List.getD_eq_getElem?_getD, List.getElem?_drop]]
    exact gt_jB _ (fun i => cc_len W b (i + 1)) n i j h hj16
theorem chn_eB (W b : List UInt8) (n m : Nat) (h : m + 2 ≤ n ∨ m = 0) : chn W b m = jB (eB W b n) m := jB_congr _ _ m fun i hi => by
  unfold eB
  rw [if_pos (by omega)]
/-- The whole, out of the chain. -/
theorem ctsE_one (W b : List UInt8) (h1 : nb b.length = 1) (h16 : 16 ≤ b.length) : ctsE W b = cc W b 1 := by
  have hl : b.length = 16 := by unfold nb at h1; omega
  have hc := cc_len W b 1
  unfold ctsE
  rw [h1]
  show ([] ++ eB W b 1 0).take b.length = _
  rw [List.nil_append]
  unfold eB
  rw [if_neg (by omega), if_pos (Or.inr rfl), List.take_of_length_le (by omega)]
theorem ctsE_two (W b : List UInt8) (m : Nat) (h : nb b.length = m + 2) : ctsE W b = (chn W b m ++ cc W b (m + 2) ++ cc W b (m + 1)).take b.length := by
  unfold ctsE
  rw [h, chn_eB W b (m + 2) m (Or.inl (by omega))]
  show (jB (eB W b (m + 2)) m ++ eB W b (m + 2) m ++ eB W b (m + 2) (m + 1)).take _ = _
  congr 2
  · congr 1
    unfold eB
    rw [if_neg (by omega), if_pos (Or.inl rfl)]
  · unfold eB
    rw [if_neg (by omega), if_neg (by omega)]
    rfl
/-- Where the chain stands: the last block, the blocks so far. -/
def ChIn (w1 wr : World) (gl : Nat) (A : Option Addr) (c i : Nat) (W b : List UInt8) : Prop := Below gl w1 wr ∧ Br wr gl (cc W b i) ∧ OwnB wr (gl + 1) A c i (chn W b i)
theorem ChIn.grow {w1 wr w' : World} {gl : Nat} {A : Option Addr} {c i : Nat} {W b : List UInt8} (h : ChIn w1 wr gl A c i W b) (hg : Grown wr w') : ChIn w1 w' gl A c i W b := ⟨h.1.trans (hg.mono (by have := h.2.1.lt; omega)), h.2.1.grow hg, h.2.2.grow hg⟩
def cxF (W b : List UInt8) (i j : Nat) : UInt8 := gt (pb b i) j ^^^ gt (cc W b i) j

set_option maxHeartbeats 4000000 in
set_option maxRecDepth 20000 in
theorem refCts_any (A B : Option Addr) (c d bl : Nat) (k b : List UInt8) (w : World) (hk : k.length = 32) (hR : Rd w w.heap.size A k) (hb : b.length = bl) (h16 : 16 ≤ bl) (h256 : bl ≤ 100000) (hB : Rd w w.heap.size B b) :
    Calls Try.prog 10 #[.slice A 32 c, .slice B bl d] w fun e w' => e = .returned (.string ⟨(ctsE (keysL k) b).toArray⟩) ∧ Grown w w' := by
  have HK := Lib.hid hk
  have HR := Lib.hid hR
  have HB := Lib.hid hB
  have HBL := Lib.hid hb
  clear hk hR hB hb
  go_enter Try.func10, Try.ntmps10
  go_wp2_with fail
  refine (keys_any A c k _ HR.out HK.out).mono ?_
  rintro e w1 ⟨A6, c6, rfl, ho6, hg6⟩
  rw [keysL_len _ HK.out]
  obtain ⟨W, hW⟩ : ∃ W, W = keysL k := ⟨_, rfl⟩
  rw [← hW] at ho6
  have HW := Lib.hid hW
  have HWl := Lib.hid (show W.length = 240 by rw [hW]; exact keysL_len _ HK.out)
  have HR6 := Lib.hid ho6.rd
  have G6 := Lib.hid (show Grown w w1 from hg6)
  clear ho6 hg6 hW
  obtain ⟨gl, hgl⟩ : ∃ g, g = w1.heap.size := ⟨_, rfl⟩
  have H0 := Lib.hid (show ChIn w1 (w1.alloc (.cells (bvs zs16).toArray 37)) gl none 0 0 W b from ⟨by rw [hgl]; exact alloc_below w1 _, by rw [hgl]; exact Br.new w1 _, OwnB.nil _ _⟩)
  rw [show (bvs zs16).toArray = #[Value.int .u8 0, Value.int .u8 0, Value.int .u8 0, Value.int .u8 0, Value.int .u8 0, Value.int .u8 0, Value.int .u8 0, Value.int .u8 0, Value.int .u8 0, Value.int .u8 0, Value.int .u8 0, Value.int .u8 0, Value.int .u8 0, Value.int .u8 0, Value.int .u8 0, Value.int .u8 0] from rfl] at H0
  go_wp2
  rw [← hgl]
  have HGL := Lib.hid hgl
  clear hgl
  generalize w1.alloc _ = w2 at H0 ⊢
  go_loopw [6, 8] (fun v6 v8 wr => ∃ (i a c1 : Nat) (A1 : Option Addr), v6 = .slice A1 i c1 ∧ v8 = .int .i64 (a : Int) ∧ i ≤ 6251 ∧ Hid (a = 16 * i) ∧ Hid (i ≤ nb bl) ∧ Hid (ChIn w1 wr gl A1 c1 i W b)) (fun _ v8 _ => bl + 16 - (intOf v8).toNat)
  case atStart => exact ⟨0, 0, 0, none, rfl, rfl, by omega, rfl, (by show 0 ≤ nb bl; omega), H0.out⟩
  case round =>
    clear H0
    obtain ⟨i, a, c1, A1, rfl, rfl, hi, Ha, Hnb, H⟩ := hrel
    by_cases hal : a < bl
    · have ba : (a : Int) < (bl : Int) := by omega
      have hil : i < nb bl := by have := Ha.out; unfold nb; omega
      have Hil := Lib.hid hil
      clear hil Hnb
      go_wp2
      generalize wr = wo at H ⊢
      have hglr : gl < wo.heap.size := H.out.2.1.lt
      obtain ⟨gx, hgx⟩ : ∃ g, g = wo.heap.size := ⟨_, rfl⟩
      have HX := Lib.hid (show Below gx wo (wo.alloc (.cells (bvs zs16).toArray 37)) ∧ Br (wo.alloc (.cells (bvs zs16).toArray 37)) gx (pt (cxF W b i) zs16 0) from ⟨by rw [hgx]; exact alloc_below wo _, by rw [hgx, pt_zero _ _ rfl]; exact Br.new wo _⟩)
      rw [show (bvs zs16).toArray = #[Value.int .u8 0, Value.int .u8 0, Value.int .u8 0, Value.int .u8 0, Value.int .u8 0, Value.int .u8 0, Value.int .u8 0, Value.int .u8 0, Value.int .u8 0, Value.int .u8 0, Value.int .u8 0, Value.int .u8 0, Value.int .u8 0, Value.int .u8 0, Value.int .u8 0, Value.int .u8 0] from rfl] at HX
      have HGX := Lib.hid hgx
      rw [← hgx] at hglr ⊢
      clear hgx
      generalize wo.alloc _ = w3 at HX ⊢
      go_loopw [10] (fun v10 ws => ∃ j : Nat, v10 = .int .i64 (j : Int) ∧ j ≤ 16 ∧ Hid (Below gx wo ws ∧ Br ws gx (pt (cxF W b i) zs16 j))) (fun v10 _ => 16 - (intOf v10).toNat)
      case atStart => exact ⟨0, rfl, by omega, HX.out⟩
      case round =>
        clear HX
        obtain ⟨j, rfl, hj, HX⟩ := hrel
        by_cases hjl : j < 16
        · have bj : (j : Int) < 16 := by omega
          obtain ⟨q, hq⟩ : ∃ q, q = gt (cc W b i) j := ⟨_, rfl⟩
          have cq : wr.cell? ⟨gl, j, none⟩ = some (.int .u8 (q.toNat : Int)) := by
            rw [HX.out.1.cell (p := ⟨gl, j, none⟩) hglr, hq]; exact H.out.2.1.cell j (by rw [cc_len]; exact hjl)
          obtain ⟨m, hm⟩ : ∃ m, m = a + j := ⟨_, rfl⟩
          have em : (a : Int) + (j : Int) = (m : Int) := by omega
          have wm : IntKind.i64.wrap (m : Int) = (m : Int) := by rw [IntKind.wrap_i64]; omega
          have yc := HX.out.2.cell j (by rw [pt_len]; exact hjl)
          have yf := HX.out.2.free j
          have HM := Lib.hid hm
          have HQ := Lib.hid hq
          clear hm hq
          by_cases hmb : m < bl
          · have bm : (m : Int) < (bl : Int) := by omega
            obtain ⟨ad, off, rfl, hadB, hcb⟩ := HB.out.at_ (k := m) (by rw [HBL.out]; exact hmb)
            obtain ⟨p, hp⟩ : ∃ p, p = b[m]'(by rw [HBL.out]; exact hmb) := ⟨_, rfl⟩
            rw [← hp] at hcb
            have cp : wr.cell? ⟨ad, off + m, none⟩ = some (.int .u8 (p.toNat : Int)) := by
              have hw1 : ad < w1.heap.size := Nat.lt_of_lt_of_le hadB G6.out.size
              have hgl2 : ad < gl := by rw [HGL.out]; exact hw1
              rw [HX.out.1.cell (p := ⟨ad, off + m, none⟩) (by show ad < gx; omega), H.out.1.cell (p := ⟨ad, off + m, none⟩) hgl2, G6.out.cell (p := ⟨ad, off + m, none⟩) hadB]
              exact hcb
            obtain ⟨z, hz⟩ : ∃ z, z = p ^^^ q := ⟨_, rfl⟩
            have hx : bits .xor .u8 (p.toNat : Int) (q.toNat : Int) = (z.toNat : Int) := by rw [hz]; exact x_u8 p q
            have HZ := Lib.hid (show z = cxF W b i j by
              unfold cxF
              rw [hz, hp, HQ.out, gt_pb _ _ _ hjl, show 16 * i + j = m by rw [HM.out, Ha.out]]
              simp [gt, show m < b.length by rw [HBL.out]; exact hmb])
            clear hp hz hcb
            go_wp2
            go_roundw
            case rel => exact ⟨j + 1, by go_num, by omega, HX.out.1.setCell (Nat.le_refl _) _, (by rw [← pt_set, ← HZ.out]; exact HX.out.2.put j z)⟩
            case measure => simp [intOf]; omega
          · have bm : ¬ (m : Int) < (bl : Int) := by omega
            obtain ⟨z, hz⟩ : ∃ z, z = (0 : UInt8) ^^^ q := ⟨_, rfl⟩
            have hx : bits .xor .u8 0 (q.toNat : Int) = (z.toNat : Int) := by rw [hz]; exact x_u8 0 q
            have HZ := Lib.hid (show z = cxF W b i j by
              unfold cxF
              rw [hz, HQ.out, gt_pb _ _ _ hjl, show 16 * i + j = m by rw [HM.out, Ha.out], gt_over b m (by rw [HBL.out]; omega)])
            clear hz
            go_wp2
            go_roundw
            case rel => exact ⟨j + 1, by go_num, by omega, HX.out.1.setCell (Nat.le_refl _) _, (by rw [← pt_set, ← HZ.out]; exact HX.out.2.put j z)⟩
            case measure => simp [intOf]; omega
        · have bj : ¬ (j : Int) < 16 := by omega
          have HC := Lib.hid (show ChIn w1 wr gl A1 c1 i W b from H.out.grow (show Grown wo wr by have := HX.out.1; rw [HGX.out] at this; exact this))
          have HY := Lib.hid (show Br wr gx (xorL (pb b i) (cc W b i)) by have := HX.out.2; rw [show j = 16 by omega, pt_all] at this; exact this)
          clear HX H
          obtain ⟨X, hX⟩ : ∃ X, X = xorL (pb b i) (cc W b i) := ⟨_, rfl⟩
          rw [← hX] at HY
          have HXl := Lib.hid (show X.length = 16 by rw [hX]; exact xorL_len _ _)
          have HE := Lib.hid (show encL W X = cc W b (i + 1) by rw [hX]; rfl)
          clear hX
          go_wp2_with (first
            | (refine wpList_load_br rfl (.tmp 9) rfl rfl HY.out HXl.out ?_))
          refine (refEnc_any A6 c6 W X _ ((HR6.out.below (HC.out.1.mono (by rw [HGL.out]; exact Nat.le_refl _))).more HC.out.1.size) HWl.out HXl.out).mono ?_
          rintro e w6 ⟨rfl, hg6⟩
          rw [HE.out]
          have HC6 := Lib.hid (HC.out.grow hg6)
          clear hg6 HC HY
          obtain ⟨R, hR⟩ : ∃ R, R = cc W b (i + 1) := ⟨_, rfl⟩
          have HRl := Lib.hid (show R.length = 16 by rw [hR]; exact cc_len _ _ _)
          have HCl := Lib.hid (cc_len W b i)
          rw [← hR]
          have HRe := Lib.hid hR
          clear hR
          have H7 := Lib.hid (show Below gl w1 (w6.setRow gl (bvs R).toArray) ∧ Br (w6.setRow gl (bvs R).toArray) gl R ∧ OwnB (w6.setRow gl (bvs R).toArray) (gl + 1) A1 c1 i (chn W b i) from ⟨Below.setRow' HC6.out.1 (Nat.le_refl _) _, HC6.out.2.1.row R, HC6.out.2.2.row (by omega) _⟩)
          obtain ⟨w7, hw7⟩ : ∃ w7, w7 = w6.setRow gl (bvs R).toArray := ⟨_, rfl⟩
          rw [← hw7] at H7
          have H8 := Lib.hid (show OwnB (w7.alloc (.cells (bvs R).toArray 37)) (gl + 1) A1 c1 i (chn W b i) from H7.out.2.2.grow (alloc_below w7 _))
          have H9 := Lib.hid (show Br (w7.alloc (.cells (bvs R).toArray 37)) w7.heap.size R from Br.new w7 R)
          have H7' := Lib.hid (show Below gl w1 (w7.alloc (.cells (bvs R).toArray 37)) ∧ Br (w7.alloc (.cells (bvs R).toArray 37)) gl R from ⟨H7.out.1.alloc (by have := H7.out.2.1.lt; omega) _, H7.out.2.1.alloc _⟩)
          have hs7 : gl + 1 ≤ (w7.alloc (.cells (bvs R).toArray 37)).heap.size := by have := H7.out.2.1.lt; simp; omega
          have HW7 := Lib.hid hw7
          have hi6 : i ≤ 1000000 := by omega
          clear hw7
          go_wp2_with (first
            | (refine wpList_store_br rfl (.tmp 7) (.tmp 48) rfl rfl rfl HC6.out.2.1 HCl.out HRl.out ?_
               rw [← HW7.out])
            | (refine wpList_load_br rfl (.tmp 7) rfl rfl H7.out.2.1 HRl.out ?_)
            | (refine wpList_build_one rfl (.tmp 50) rfl rfl HRl.out ?_)
            | (at_builtin
               refine wpList_appB rfl (.tmp 49) (.tmp 51) rfl rfl H8.out rfl H9.out HRl.out hi6 hs7 ?_
               intro A3 c3 w8 ho8 hb8
               have Ho8 := Lib.hid ho8
               have Hb8 := Lib.hid (show Below gl w1 w8 ∧ Br w8 gl R from ⟨H7'.out.1.trans (hb8.mono (by omega)), (hb8.block gl (by omega)).trans H7'.out.2⟩)
               clear ho8 hb8))
          go_roundw
          case rel => exact ⟨i + 1, a + 16, c3, A3, rfl, by go_num, by have := Hil.out; unfold nb at this; omega, (by show a + 16 = 16 * (i + 1); have := Ha.out; omega), (by show i + 1 ≤ nb bl; exact Hil.out), ⟨Hb8.out.1, by rw [← HRe.out]; exact Hb8.out.2, by show OwnB _ _ _ _ _ (chn W b i ++ cc W b (i + 1)); rw [← HRe.out]; exact Ho8.out⟩⟩
          case measure => simp [intOf]; omega
    · have ba : ¬ (a : Int) < (bl : Int) := by omega
      have HN := Lib.hid (show i = nb bl by have := Hnb.out; have := Ha.out; unfold nb at *; omega)
      have hi1 : 1 ≤ i := by have := HN.out; unfold nb at this; omega
      have GG := Lib.hid (show Grown w wr from Grown.trans G6.out (by have := H.out.1; rw [HGL.out] at this; exact this))
      clear Hnb Ha
      by_cases h1 : i = 1
      · subst h1
        obtain ⟨g, rfl, hrd⟩ := H.out.2.2.rd 0 (by omega)
        rw [chn_at W b 1 0 (by omega)] at hrd
        obtain ⟨R, hR⟩ : ∃ R, R = cc W b 1 := ⟨_, rfl⟩
        rw [← hR] at hrd
        have HRl := Lib.hid (show R.length = 16 by rw [hR]; exact cc_len _ _ _)
        obtain ⟨S1, hS1⟩ : ∃ S1 : ByteArray, S1 = ⟨R.toArray⟩ := ⟨_, rfl⟩
        have hcv : (convert 23 9 (.slice (some ⟨g, 0, none⟩) 16 16)).run Try.prog wr = .ok (.string S1) wr := by
          have := conv hrd 16
          rw [HRl.out] at this
          rw [hS1]
          exact this
        have HS1 := Lib.hid (show S1 = ⟨(ctsE W b).toArray⟩ by rw [hS1, hR, ctsE_one W b (by rw [HBL.out]; exact HN.out.symm) (by rw [HBL.out]; exact h16)])
        clear hS1 hR hrd
        go_wp2
        go_loop [12, 14] (fun v12 v14 => v12 = .string { data := #[] } ∧ v14 = .int .i64 0) (fun _ _ => 0)
        case atStart => exact ⟨rfl, rfl⟩
        case round =>
          obtain ⟨rfl, rfl⟩ := hrel
          go_wp2
          go_ret
          exact ⟨by rw [HS1.out, HW.out]; rfl, GG.out⟩
      · obtain ⟨m, hm⟩ : ∃ m, m + 2 = i := ⟨i - 2, by omega⟩
        obtain ⟨m1, hm1⟩ : ∃ m1, m1 = m + 1 := ⟨_, rfl⟩
        have e2 : (i : Int) - 2 = (m : Int) := by omega
        have w2' : IntKind.i64.wrap (m : Int) = (m : Int) := wr64 m (by omega)
        have e1 : (i : Int) - 1 = (m1 : Int) := by omega
        have w1' : IntKind.i64.wrap (m1 : Int) = (m1 : Int) := wr64 m1 (by omega)
        have n1 : ((i : Int) == 1) = false := by simp; omega
        have n1' : ¬ (i : Int) = 1 := by omega
        have bm1 : (m1 : Int) < (i : Int) := by omega
        have bm : (m : Int) < (i : Int) := by omega
        have HM := Lib.hid hm
        have HM1 := Lib.hid hm1
        have hm6 : m ≤ 6251 := by omega
        obtain ⟨g, hA, hrd1⟩ := H.out.2.2.rd m1 (by omega)
        subst hA
        obtain ⟨g', hA, hrd2⟩ := H.out.2.2.rd m (by omega)
        simp only [Option.some.injEq, Addr.mk.injEq, and_true] at hA
        subst hA
        rw [chn_at W b i m1 (by omega), Nat.mul_comm] at hrd1
        rw [chn_at W b i m (by omega), Nat.mul_comm] at hrd2
        have R1 := Lib.hid hrd1
        have R2 := Lib.hid hrd2
        clear hm hm1 hrd1 hrd2 h1
        go_wp2
        go_loop [12, 14] (fun v12 v14 => ∃ (q : Nat) (S : ByteArray), v14 = .int .i64 (q : Int) ∧ v12 = .string S ∧ q ≤ m ∧ Hid (S = ⟨(chn W b q).toArray⟩)) (fun _ v14 => m - (intOf v14).toNat)
        case atStart => exact ⟨0, _, rfl, rfl, by omega, rfl⟩
        case round =>
          obtain ⟨q, S, rfl, rfl, hq, HS⟩ := hrel
          by_cases hqm : q < m
          · have bq : (q : Int) < (m : Int) := by omega
            have bqi : (q : Int) < (i : Int) := by omega
            obtain ⟨g', hA, hrd⟩ := H.out.2.2.rd q (by have := HM.out; omega)
            simp only [Option.some.injEq, Addr.mk.injEq, and_true] at hA
            subst hA
            rw [chn_at W b i q (by have := HM.out; omega), Nat.mul_comm] at hrd
            obtain ⟨R, hR⟩ : ∃ R, R = cc W b (q + 1) := ⟨_, rfl⟩
            rw [← hR] at hrd
            have HRl := Lib.hid (show R.length = 16 by rw [hR]; exact cc_len _ _ _)
            obtain ⟨S1, hS1⟩ : ∃ S1 : ByteArray, S1 = ⟨R.toArray⟩ := ⟨_, rfl⟩
            obtain ⟨S2, hS2⟩ : ∃ S2 : ByteArray, S2 = ⟨(chn W b (q + 1)).toArray⟩ := ⟨_, rfl⟩
            have hcv : (convert 23 9 (.slice (some ⟨g, q * 16, none⟩) 16 16)).run Try.prog wr = .ok (.string S1) wr := by
              have := conv hrd 16
              rw [HRl.out] at this
              rw [hS1]
              exact this
            have had : ∀ V : World, (Op.stringOp .add S S1).run Try.prog V = .ok (.string S2) V := fun V => by
              rw [HS.out, hS1, hS2, show chn W b (q + 1) = chn W b q ++ R by rw [hR]; rfl]
              exact strAdd _ _ (by rw [chn_len, HRl.out]; omega) V
            have HS2 := Lib.hid hS2
            clear hS1 hS2 hR hrd
            go_wp2
            go_round
            case rel => exact ⟨q + 1, S2, by go_num, rfl, by omega, HS2.out⟩
            case measure => simp [intOf]; omega
          · have bq : ¬ (q : Int) < (m : Int) := by omega
            have HS0 := Lib.hid (show S = ⟨(chn W b m).toArray⟩ by rw [HS.out, show q = m by omega])
            clear HS
            obtain ⟨P1, hP1⟩ : ∃ P, P = cc W b (m1 + 1) := ⟨_, rfl⟩
            obtain ⟨P2, hP2⟩ : ∃ P, P = cc W b (m + 1) := ⟨_, rfl⟩
            rw [← hP1] at R1
            rw [← hP2] at R2
            have L1 := Lib.hid (show P1.length = 16 by rw [hP1]; exact cc_len _ _ _)
            have L2 := Lib.hid (show P2.length = 16 by rw [hP2]; exact cc_len _ _ _)
            obtain ⟨S1, hS1⟩ : ∃ S1 : ByteArray, S1 = ⟨P1.toArray⟩ := ⟨_, rfl⟩
            obtain ⟨S2, hS2⟩ : ∃ S2 : ByteArray, S2 = ⟨P2.toArray⟩ := ⟨_, rfl⟩
            obtain ⟨S3, hS3⟩ : ∃ S3 : ByteArray, S3 = ⟨(chn W b m ++ P1).toArray⟩ := ⟨_, rfl⟩
            obtain ⟨S4, hS4⟩ : ∃ S4 : ByteArray, S4 = ⟨(chn W b m ++ P1 ++ P2).toArray⟩ := ⟨_, rfl⟩
            obtain ⟨S5, hS5⟩ : ∃ S5 : ByteArray, S5 = ⟨((chn W b m ++ P1 ++ P2).take bl).toArray⟩ := ⟨_, rfl⟩
            have ha1 : ∀ V : World, (Op.stringOp .add S S1).run Try.prog V = .ok (.string S3) V := fun V => by
              rw [HS0.out, hS1, hS3]; exact strAdd _ _ (by rw [chn_len, L1.out]; omega) V
            have ha2 : ∀ V : World, (Op.stringOp .add S3 S2).run Try.prog V = .ok (.string S4) V := fun V => by
              rw [hS3, hS2, hS4]; exact strAdd _ _ (by rw [List.length_append, chn_len, L1.out, L2.out]; omega) V
            have hct : ∀ V : World, (Instr.slice 9 (.string S4) none (some (.int .i64 (bl : Int))) none).run Try.prog V = .ok (.string S5) V := fun V => by
              rw [hS4, hS5]; exact strCut _ bl (by rw [List.length_append, List.length_append, chn_len, L1.out, L2.out]; have := HN.out; have := HM.out; unfold nb at *; omega) V
            have HS1 := Lib.hid hS1
            have HS2 := Lib.hid hS2
            have HF := Lib.hid (show S5 = ⟨(ctsE W b).toArray⟩ by
              rw [hS5, ctsE_two W b m (by rw [HBL.out, ← HN.out]; exact HM.out.symm), HBL.out, hP1, hP2, show m1 + 1 = m + 2 by have := HM1.out; omega])
            clear hS1 hS2 hS3 hS4 hS5 hP1 hP2
            go_wp2
            try simp only [Act.put]
            refine rest_start (by kernel_rfl) fun v hv => ?_
            have G9 := Lib.hid (Grown.trans GG.out hv)
            replace R1 := Lib.hid (R1.out.grow hv)
            replace R2 := Lib.hid (R2.out.grow hv)
            clear hv
            refine rest_take (i := 0) rfl (by kernel_rfl) (by kernel_rfl) (by kernel_rfl) (by rfl) (fun w' hg => by go_simp; try with_reducible rfl) ?_
            try simp only [Act.put, List.setIfInBounds_toArray, List.set_cons_zero, List.set_cons_succ]
            refine rest_take (i := 1) rfl (by kernel_rfl) (by kernel_rfl) (by kernel_rfl) (by rfl) (fun w' hg => by go_simp; try with_reducible rfl) ?_
            try simp only [Act.put, List.setIfInBounds_toArray, List.set_cons_zero, List.set_cons_succ]
            refine rest_take (i := 2) rfl (by kernel_rfl) (by kernel_rfl) (by kernel_rfl) (by rfl) (fun w' hg => by go_simp; try with_reducible rfl) ?_
            try simp only [Act.put, List.setIfInBounds_toArray, List.set_cons_zero, List.set_cons_succ]
            refine rest_take (i := 3) rfl (by kernel_rfl) (by kernel_rfl) (by kernel_rfl) (by rfl) (fun w' hg => by go_simp; try with_reducible rfl) ?_
            try simp only [Act.put, List.setIfInBounds_toArray, List.set_cons_zero, List.set_cons_succ]
            refine rest_take (i := 4) rfl (by kernel_rfl) (by kernel_rfl) (by kernel_rfl) (by rfl) (fun w' hg => by go_simp; try with_reducible rfl) ?_
            try simp only [Act.put, List.setIfInBounds_toArray, List.set_cons_zero, List.set_cons_succ]
            refine rest_take (i := 5) rfl (by kernel_rfl) (by kernel_rfl) (by kernel_rfl) (by rfl) (fun w' hg => by go_simp; try with_reducible rfl) ?_
            try simp only [Act.put, List.setIfInBounds_toArray, List.set_cons_zero, List.set_cons_succ]
            refine rest_take (i := 6) rfl (by kernel_rfl) (by kernel_rfl) (by kernel_rfl) (by rfl) (fun w' hg => by have hcv := conv_at R1.out L1.out 16 w' hg; rw [← HS1.out] at hcv; go_simp; try with_reducible rfl) ?_
            try simp only [Act.put, List.setIfInBounds_toArray, List.set_cons_zero, List.set_cons_succ]
            refine rest_take (i := 7) rfl (by kernel_rfl) (by kernel_rfl) (by kernel_rfl) (by rfl) (fun w' hg => by go_simp; try with_reducible rfl) ?_
            try simp only [Act.put, List.setIfInBounds_toArray, List.set_cons_zero, List.set_cons_succ]
            refine rest_take (i := 8) rfl (by kernel_rfl) (by kernel_rfl) (by kernel_rfl) (by rfl) (fun w' hg => by go_simp; try with_reducible rfl) ?_
            try simp only [Act.put, List.setIfInBounds_toArray, List.set_cons_zero, List.set_cons_succ]
            refine rest_take (i := 9) rfl (by kernel_rfl) (by kernel_rfl) (by kernel_rfl) (by rfl) (fun w' hg => by go_simp; try with_reducible rfl) ?_
            try simp only [Act.put, List.setIfInBounds_toArray, List.set_cons_zero, List.set_cons_succ]
            refine rest_take (i := 10) rfl (by kernel_rfl) (by kernel_rfl) (by kernel_rfl) (by rfl) (fun w' hg => by go_simp; try with_reducible rfl) ?_
            try simp only [Act.put, List.setIfInBounds_toArray, List.set_cons_zero, List.set_cons_succ]
            refine rest_take (i := 11) rfl (by kernel_rfl) (by kernel_rfl) (by kernel_rfl) (by rfl) (fun w' hg => by go_simp; try with_reducible rfl) ?_
            try simp only [Act.put, List.setIfInBounds_toArray, List.set_cons_zero, List.set_cons_succ]
            refine rest_take (i := 12) rfl (by kernel_rfl) (by kernel_rfl) (by kernel_rfl) (by rfl) (fun w' hg => by go_simp; try with_reducible rfl) ?_
            try simp only [Act.put, List.setIfInBounds_toArray, List.set_cons_zero, List.set_cons_succ]
            refine rest_take (i := 13) rfl (by kernel_rfl) (by kernel_rfl) (by kernel_rfl) (by rfl) (fun w' hg => by have hcv := conv_at R2.out L2.out 16 w' hg; rw [← HS2.out] at hcv; go_simp; try with_reducible rfl) ?_
            try simp only [Act.put, List.setIfInBounds_toArray, List.set_cons_zero, List.set_cons_succ]
            refine rest_take (i := 14) rfl (by kernel_rfl) (by kernel_rfl) (by kernel_rfl) (by rfl) (fun w' hg => by go_simp; try with_reducible rfl) ?_
            try simp only [Act.put, List.setIfInBounds_toArray, List.set_cons_zero, List.set_cons_succ]
            refine rest_take (i := 15) rfl (by kernel_rfl) (by kernel_rfl) (by kernel_rfl) (by rfl) (fun w' hg => by go_simp; try with_reducible rfl) ?_
            try simp only [Act.put, List.setIfInBounds_toArray, List.set_cons_zero, List.set_cons_succ]
            refine rest_done (by kernel_rfl) ?_
            go_wp2
            go_ret
            exact ⟨by rw [HF.out, HW.out]; rfl, G9.out⟩
end Go.Proofs.Ytgfmdjagggnfbaa.S9
