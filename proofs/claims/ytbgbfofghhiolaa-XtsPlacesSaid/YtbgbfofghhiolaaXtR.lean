/-
  Contracts of the reference's Right and Encrypt.
-/
import Derived.Test.YtbgbfofghhiolaaXtT
import Derived.Test.YtbgbfofghhiolaaSto
namespace Go.Proofs.Ytbgbfofghhiolaa.S8
open Go.RowKit
open Go.Proofs.Ytbgbfofghhiolaa.S7 hiding intOf
set_option linter.unusedVariables false
set_option linter.unusedSimpArgs false

/-- What may be encrypted. -/
def okX (kl : Nat) (n : Int) (bl : Nat) : Prop := kl = 64 ∧ 0 ≤ n ∧ 16 ≤ bl ∧ bl ≤ 1024 ∧ bl % 16 = 0
theorem right_yes (A B : Option Addr) (kl c bl d : Nat) (n : Int) (h : okX kl n bl) (w : World) : Calls Try.prog 9 #[.slice A kl c, .int .i64 n, .slice B bl d] w fun e w' => e = .returned (.bool true) ∧ w = w' := by
  obtain ⟨rfl, h2, h3, h4, h5⟩ := h
  have b2 : (16 : Int) ≤ (bl : Int) := by omega
  have b3 : (bl : Int) ≤ 1024 := by omega
  have b4 : (bl : Int) % 16 = 0 := by omega
  have b5 : (bl : Int).tmod 16 = 0 := by rw [Int.tmod_eq_emod_of_nonneg (by omega)]; omega
  clear h3 h4 h5
  go_enter Try.func9, Try.ntmps9
  go_wp2
  go_ret
  exact ⟨rfl, rfl⟩
theorem right_no (A B : Option Addr) (kl c bl d : Nat) (n : Int) (h : ¬ okX kl n bl) (hk : kl ≤ 9223372036854775807) (hb : bl ≤ 9223372036854775807) (w : World) : Calls Try.prog 9 #[.slice A kl c, .int .i64 n, .slice B bl d] w fun e w' => e = .returned (.bool false) ∧ w = w' := by
  unfold okX at h
  by_cases h1 : kl = 64
  · subst h1
    by_cases h2 : 0 ≤ n
    · by_cases h3 : 16 ≤ bl
      · by_cases h4 : bl ≤ 1024
        · have h5 : ¬ bl % 16 = 0 := fun h5 => h ⟨rfl, h2, h3, h4, h5⟩
          have b2 : (16 : Int) ≤ (bl : Int) := by omega
          have b3 : (bl : Int) ≤ 1024 := by omega
          obtain ⟨m, hm⟩ : ∃ m, m = bl % 16 := ⟨_, rfl⟩
          have b4 : (bl : Int) % 16 = (m : Int) := by omega
          have b5 : (bl : Int).tmod 16 = (m : Int) := by rw [hm]; rfl
          have b6 : ((m : Int) == 0) = false := by simp; omega
          have b7 : ¬ (m : Int) = 0 := by omega
          clear h h3 h4 h5 hm
          go_enter Try.func9, Try.ntmps9
          go_wp2
          go_ret
          exact ⟨rfl, rfl⟩
        · have b2 : (16 : Int) ≤ (bl : Int) := by omega
          have b3 : ¬ (bl : Int) ≤ 1024 := by omega
          clear h h3 h4
          go_enter Try.func9, Try.ntmps9
          go_wp2
          go_ret
          exact ⟨rfl, rfl⟩
      · have b2 : ¬ (16 : Int) ≤ (bl : Int) := by omega
        clear h h3
        go_enter Try.func9, Try.ntmps9
        go_wp2
        go_ret
        exact ⟨rfl, rfl⟩
    · clear h
      go_enter Try.func9, Try.ntmps9
      go_wp2
      go_ret
      exact ⟨rfl, rfl⟩
  · have b1 : ((kl : Int) == 64) = false := by simp; omega
    have b2 : ¬ (kl : Int) = 64 := by omega
    clear h h1
    go_enter Try.func9, Try.ntmps9
    go_wp2
    go_ret
    exact ⟨rfl, rfl⟩
theorem cut_h (W : World) (A : Option Addr) (m c d : Nat) (h : d ≤ c) : (Instr.slice 22 (.slice A m c) none (some (.int .i64 (d : Int))) none).run Try.prog W = .ok (.slice A d c) W := by
  obtain ⟨i0, hi, hz0, hz1, hz2⟩ := info_parts info5
  have he : Try.prog.elem 22 = 5 := by kernel_rfl
  rw [run_slice_h W 22 A m c (by rw [he]; exact Try.underlying22) .i64 (d : Int) (by omega) (by omega), he]
  cases A <;> simp [sizeOf, typeInfo, hi, hz1, sliced, Result.andThen, Addr.add]
theorem add_str (p q : List UInt8) (h : p.length + q.length ≤ 4294967296) (W : World) : (Op.stringOp .add { data := p.toArray } { data := q.toArray }).run Try.prog W = .ok (.string { data := (p ++ q).toArray }) W := by
  rw [run_string_add_sum _ _ _ (by show p.toArray.size + q.toArray.size ≤ _; simp; omega)]
  congr 2
theorem br_rd {w : World} {g : Nat} {l : List UInt8} (h : Br w g l) {B : Nat} (hB : g < B) : Rd w B (some ⟨g, 0, none⟩) l :=
  .inr ⟨g, 0, rfl, hB, fun j hj => by rw [Nat.zero_add, h.cell j hj]; simp [bv, gt, hj]⟩
/-- Where Encrypt stands within a round: t, x. -/
def XbIn (w wr : World) (gt' gx : Nat) (T X : List UInt8) : Prop := Grown w wr ∧ Br wr gt' T ∧ Br wr gx X
theorem XbIn.put {w wr : World} {g gx : Nat} {T X : List UInt8} (h : XbIn w wr g gx T X) (h1 : w.heap.size ≤ gx) (h2 : g ≠ gx) (i : Nat) (x : UInt8) : XbIn w (wr.setCell ⟨gx, i, none⟩ (.int .u8 (x.toNat : Int))) g gx T (X.set i x) :=
  ⟨h.1.setCell h1 _, h.2.1.far h2 _, h.2.2.put i x⟩
theorem XbIn.row {w wr : World} {g gx : Nat} {T X : List UInt8} (h : XbIn w wr g gx T X) (h1 : w.heap.size ≤ gx) (h2 : g ≠ gx) (m : List UInt8) : XbIn w (wr.setRow gx (bvs m).toArray) g gx T m :=
  ⟨Below.setRow' h.1 h1 _, h.2.1.off h2 _, h.2.2.row m⟩
theorem XbIn.grow {w wr w' : World} {g gx : Nat} {T X : List UInt8} (h : XbIn w wr g gx T X) (hg : Grown wr w') : XbIn w w' g gx T X := ⟨Grown.trans h.1 hg, h.2.1.grow hg, h.2.2.grow hg⟩
def xF (a b : List UInt8) (i : Nat) : UInt8 := gt a i ^^^ gt b i

set_option maxHeartbeats 4000000 in
set_option maxRecDepth 20000 in
theorem refXts_any (A B : Option Addr) (c d : Nat) (k b : List UInt8) (n kb bl : Nat) (w : World) (hk : k.length = 64) (hc : 64 ≤ c) (hR : Rd w w.heap.size A k) (hn : n < 9223372036854775808) (hb : b.length = bl) (hbl : bl = 16 * kb) (hkb : kb ≤ 10000) (hB : Rd w w.heap.size B b) :
    Calls Try.prog 10 #[.slice A 64 c, .int .i64 (n : Int), .slice B bl d] w fun e w' => e = .returned (.string ⟨(xtE (keysL (k.take 32)) (keysL (k.drop 32)) n b kb).toArray⟩) ∧ Grown w w' := by
  have HK := Lib.hid hk
  have HR := Lib.hid hR
  have HB := Lib.hid hB
  have HN := Lib.hid hn
  have HBL := Lib.hid hb
  have HKB := Lib.hid hbl
  have hsl : ∀ V : World, (Instr.slice 22 (.slice A 64 c) none (some (.int .i64 32)) none).run Try.prog V = .ok (.slice A 32 c) V := fun V => cut_h V A 64 c 32 (by omega)
  have HK2 := Lib.hid (show (k.take 32).length = 32 by rw [List.length_take, hk]; omega)
  clear hk hR hB hn hb hbl
  go_enter Try.func10, Try.ntmps10
  go_wp2_with fail
  refine (keys_any A c (k.take 32) _ (HR.out.take 32) HK2.out).mono ?_
  rintro e w1 ⟨A6, c6, rfl, ho6, hg6⟩
  rw [keysL_len _ HK2.out]
  obtain ⟨W1, hW1⟩ : ∃ W1, W1 = keysL (k.take 32) := ⟨_, rfl⟩
  rw [← hW1] at ho6
  have HW1 := Lib.hid hW1
  have HW1l := Lib.hid (show W1.length = 240 by rw [hW1]; exact keysL_len _ HK2.out)
  obtain ⟨W2, hW2⟩ : ∃ W2, W2 = keysL (k.drop 32) := ⟨_, rfl⟩
  have HW2 := Lib.hid hW2
  have HR6 := Lib.hid ho6.rd
  have G6 := Lib.hid (show Grown w w1 from hg6)
  clear ho6 hg6 hW1 hW2
  go_wp2
  go_loopw [8, 9] (fun v8 v9 wr => ∃ (a : Nat) (S : ByteArray), v9 = .int .i64 (a : Int) ∧ v8 = .string S ∧ a ≤ kb ∧ Hid (S = ⟨(xtE W1 W2 n b a).toArray⟩) ∧ Hid (Grown w1 wr)) (fun _ v9 _ => kb - (intOf v9).toNat)
  case atStart => exact ⟨0, _, rfl, rfl, by omega, rfl, Grown.refl _⟩
  case round =>
    obtain ⟨a, S, rfl, rfl, ha, HS, HG⟩ := hrel
    obtain ⟨m, hm⟩ : ∃ m, m = 16 * a := ⟨_, rfl⟩
    have em : 16 * (a : Int) = (m : Int) := by omega
    have wm : IntKind.i64.wrap (m : Int) = (m : Int) := by rw [IntKind.wrap_i64]; omega
    have HM := Lib.hid hm
    clear hm
    by_cases hak : a < kb
    · have bm : (m : Int) < (bl : Int) := by have := HM.out; have := HKB.out; omega
      have hml : m + 16 ≤ bl := by have := HM.out; have := HKB.out; omega
      have hmb : m ≤ 160000 := by have := HM.out; omega
      have G7 := Lib.hid (show Grown w wr from Grown.trans G6.out HG.out)
      go_wp2_with fail
      refine (refTweak_any A c k n a _ HK.out hc (HR.out.grow G7.out) HN.out (by omega)).mono ?_
      rintro e w2 ⟨rfl, hg2⟩
      rw [← HW2.out]
      have G2 := Lib.hid (show Grown wr w2 from hg2)
      clear hg2
      obtain ⟨T, hT⟩ : ∃ T, T = tw W2 n a := ⟨_, rfl⟩
      rw [← hT]
      have HTl := Lib.hid (show T.length = 16 by rw [hT]; exact tw_len _ _ _)
      have HTe := Lib.hid hT
      clear hT
      have Hi16 := Lib.hid (sz16 HTl.out)
      go_wp2_with (first
        | (refine wpList_store_last rfl 37 (.tmp 10) (.tmp 27) rfl rfl rfl Hi16.out (by simp [bvs, HTl.out]) (on16 T) ?_))
      obtain ⟨g, hg⟩ : ∃ g, g = w2.heap.size := ⟨_, rfl⟩
      have H0 := Lib.hid (show XbIn w ((w2.alloc (.cells (bvs T).toArray 37)).alloc (.cells (bvs zs16).toArray 37)) g (g + 1) T (pt (xF (bk b a) T) zs16 0) from by
        rw [pt_zero _ _ rfl]
        refine ⟨Grown.trans G7.out (Grown.trans G2.out (Grown.trans (alloc_below w2 _) (alloc_below _ _))), by rw [hg]; exact (Br.new w2 T).alloc _, ?_⟩
        have := Br.new (w2.alloc (.cells (bvs T).toArray 37)) zs16
        rw [hg]
        simpa using this)
      have HG2 := Lib.hid (show Grown w1 ((w2.alloc (.cells (bvs T).toArray 37)).alloc (.cells (bvs zs16).toArray 37)) from Grown.trans HG.out (Grown.trans G2.out (Grown.trans (alloc_below w2 _) (alloc_below _ _))))
      rw [show (bvs zs16).toArray = #[Value.int .u8 0, Value.int .u8 0, Value.int .u8 0, Value.int .u8 0, Value.int .u8 0, Value.int .u8 0, Value.int .u8 0, Value.int .u8 0, Value.int .u8 0, Value.int .u8 0, Value.int .u8 0, Value.int .u8 0, Value.int .u8 0, Value.int .u8 0, Value.int .u8 0, Value.int .u8 0] from rfl] at H0 HG2
      have hgw : w1.heap.size ≤ g := by rw [hg]; exact Nat.le_trans HG.out.size G2.out.size
      have hww : w.heap.size ≤ w1.heap.size := G6.out.size
      rw [← hg]
      clear hg HG G2 G7 Hi16
      generalize (w2.alloc _).alloc _ = w3 at H0 HG2 ⊢
      obtain ⟨gx, hgx⟩ : ∃ gx, gx = g + 1 := ⟨_, rfl⟩
      rw [← hgx] at H0 ⊢
      have hne : g ≠ gx := by omega
      have hxw : w1.heap.size ≤ gx := by omega
      have hxw2 : w.heap.size ≤ gx := by omega
      clear hgx
      have HBk := Lib.hid (show ∀ i, i < 16 → gt (bk b a) i = gt b (m + i) from fun i hi => by rw [gt_bk b a i hi, HM.out])
      have HBl := Lib.hid (show (bk b a).length = 16 from bk_len b a (by rw [HBL.out, ← HM.out]; exact hml))
      have HF1 := Lib.hid (show fE W1 W2 n a (bk b a) = xorL (encL W1 (xorL (bk b a) T)) T by rw [HTe.out]; rfl)
      obtain ⟨Y, hY⟩ : ∃ Y, Y = bk b a := ⟨_, rfl⟩
      rw [← hY] at H0 HBk HBl HF1
      have HYe := Lib.hid hY
      clear hY
      obtain ⟨ad, off, rfl, hadB, hcb⟩ : ∃ ad off, B = some ⟨ad, off, none⟩ ∧ ad < w.heap.size ∧ ∀ j, j < bl → w.cell? ⟨ad, off + j, none⟩ = some (.int .u8 ((gt b j).toNat : Int)) := by
        rcases HB.out with h | ⟨ad, off, e, hb, hc⟩
        · rw [h] at HBL; have := HBL.out; simp at this; omega
        · exact ⟨ad, off, e, hb, fun j hj => by rw [hc j (by rw [HBL.out]; exact hj)]; simp [bv, gt, show j < b.length by rw [HBL.out]; exact hj]⟩
      have HCB := Lib.hid hcb
      clear hcb
      go_loopw [12] (fun v12 wr => ∃ i : Nat, v12 = .int .i64 (i : Int) ∧ i ≤ 16 ∧ Hid (XbIn w wr g gx T (pt (xF Y T) zs16 i)) ∧ Hid (Grown w1 wr)) (fun v12 _ => 16 - (intOf v12).toNat)
      case atStart => exact ⟨0, rfl, by omega, H0.out, HG2.out⟩
      case round =>
        clear H0 HG2
        obtain ⟨i, rfl, hi, H, HG⟩ := hrel
        by_cases hil : i < 16
        · obtain ⟨j, hj⟩ : ∃ j, j = m + i := ⟨_, rfl⟩
          obtain ⟨p, hp⟩ : ∃ p, p = gt b j := ⟨_, rfl⟩
          obtain ⟨q, hq⟩ : ∃ q, q = gt T i := ⟨_, rfl⟩
          obtain ⟨z, hz⟩ : ∃ z, z = p ^^^ q := ⟨_, rfl⟩
          have ej : (m : Int) + (i : Int) = (j : Int) := by omega
          have wj : IntKind.i64.wrap (j : Int) = (j : Int) := by rw [IntKind.wrap_i64]; omega
          have bj : (j : Int) < (bl : Int) := by omega
          have bi : (i : Int) < 16 := by omega
          have hx : bits .xor .u8 (p.toNat : Int) (q.toNat : Int) = (z.toNat : Int) := by rw [hz]; exact x_u8 p q
          have cp : wr.cell? ⟨ad, off + j, none⟩ = some (.int .u8 (p.toNat : Int)) := by rw [H.out.1.cell (p := ⟨ad, off + j, none⟩) hadB, HCB.out j (by omega), hp]
          have cq : wr.cell? ⟨g, i, none⟩ = some (.int .u8 (q.toNat : Int)) := by rw [hq]; exact H.out.2.1.cell i (by rw [HTl.out]; exact hil)
          have HZ := Lib.hid (show z = xF Y T i by unfold xF; rw [hz, hp, hq, HBk.out i hil, hj])
          clear hj hp hq hz
          go_wp2
          go_still_tail 13, (by kernel_rfl)
          change wpList _ _ _ _ _ wr.drew
          clear cp cq hx ej wj bj
          have H1 := Lib.hid (show XbIn w wr.drew g gx T (pt (xF Y T) zs16 i) from ⟨H.out.1.drew, H.out.2.1, H.out.2.2⟩)
          have HG1 := Lib.hid (show Grown w1 wr.drew from HG.out.drew)
          clear H HG
          generalize wr.drew = w5 at H1 HG1 ⊢
          have yc := H1.out.2.2.cell i (by rw [pt_len]; exact hil)
          have yf := H1.out.2.2.free i
          go_wp2
          go_roundw
          case rel => exact ⟨i + 1, by go_num, by omega, (by rw [← pt_set, ← HZ.out]; exact H1.out.put hxw2 hne i z), HG1.out.setCell hxw _⟩
          case measure => simp [intOf]; omega
        · have H1 := Lib.hid (show XbIn w wr g gx T (xorL Y T) by have := H.out; rw [show i = 16 by omega, pt_all] at this; exact this)
          have bi : ¬ (i : Int) < 16 := by omega
          clear H
          obtain ⟨X, hX⟩ : ∃ X, X = xorL Y T := ⟨_, rfl⟩
          rw [← hX] at H1 HF1
          have HXl := Lib.hid (show X.length = 16 by rw [hX]; exact xorL_len _ _)
          clear hX
          go_wp2_with (first
            | (refine wpList_load_br rfl (.tmp 11) rfl rfl H1.out.2.2 HXl.out ?_))
          refine (refEnc_any A6 c6 W1 X _ (HR6.out.below HG.out |>.more HG.out.size) HW1l.out HXl.out).mono ?_
          rintro e w6 ⟨rfl, hg6⟩
          have H2 := Lib.hid (H1.out.grow hg6)
          have HG2 := Lib.hid (show Grown w1 w6 from Grown.trans HG.out hg6)
          clear hg6 H1 HG
          obtain ⟨E, hE⟩ : ∃ E, E = encL W1 X := ⟨_, rfl⟩
          rw [← hE] at HF1 ⊢
          have HEl := Lib.hid (show E.length = 16 by rw [hE]; exact encL_len _ _)
          clear hE
          go_wp2_with (first
            | (refine wpList_store_br rfl (.tmp 11) (.tmp 47) rfl rfl rfl H2.out.2.2 HXl.out HEl.out ?_))
          have H3 := Lib.hid (show XbIn w (w6.setRow gx (bvs E).toArray) g gx T (pt (xF E T) E 0) by rw [pt_zero _ _ HEl.out]; exact H2.out.row hxw2 hne E)
          have HG3 := Lib.hid (show Grown w1 (w6.setRow gx (bvs E).toArray) from Below.setRow' HG2.out hxw _)
          clear H2 HG2
          generalize w6.setRow _ _ = w7 at H3 HG3 ⊢
          go_wp2
          go_loopw [13] (fun v13 wr => ∃ i : Nat, v13 = .int .i64 (i : Int) ∧ i ≤ 16 ∧ Hid (XbIn w wr g gx T (pt (xF E T) E i)) ∧ Hid (Grown w1 wr)) (fun v13 _ => 16 - (intOf v13).toNat)
          case atStart => exact ⟨0, rfl, by omega, H3.out, HG3.out⟩
          case round =>
            clear H3 HG3
            obtain ⟨s, rfl, hs, H, HG⟩ := hrel
            by_cases hsl : s < 16
            · obtain ⟨p, hp⟩ : ∃ p, p = gt E s := ⟨_, rfl⟩
              obtain ⟨q, hq⟩ : ∃ q, q = gt T s := ⟨_, rfl⟩
              obtain ⟨z, hz⟩ : ∃ z, z = p ^^^ q := ⟨_, rfl⟩
              have bs : (s : Int) < 16 := by omega
              have hx : bits .xor .u8 (p.toNat : Int) (q.toNat : Int) = (z.toNat : Int) := by rw [hz]; exact x_u8 p q
              have cp := H.out.2.2.cell s (by rw [pt_len]; exact hsl)
              rw [gt_pt _ _ _ _ hsl, if_neg (by omega), ← hp] at cp
              have cq : wr.cell? ⟨g, s, none⟩ = some (.int .u8 (q.toNat : Int)) := by rw [hq]; exact H.out.2.1.cell s (by rw [HTl.out]; exact hsl)
              have HZ := Lib.hid (show z = xF E T s by unfold xF; rw [hz, hp, hq])
              clear hp hq hz
              go_wp2
              go_still_tail 9, (by kernel_rfl)
              change wpList _ _ _ _ _ wr.drew
              clear cp cq hx
              have H1 := Lib.hid (show XbIn w wr.drew g gx T (pt (xF E T) E s) from ⟨H.out.1.drew, H.out.2.1, H.out.2.2⟩)
              have HG1 := Lib.hid (show Grown w1 wr.drew from HG.out.drew)
              clear H HG
              generalize wr.drew = w5 at H1 HG1 ⊢
              have yc := H1.out.2.2.cell s (by rw [pt_len]; exact hsl)
              have yf := H1.out.2.2.free s
              go_wp2
              go_roundw
              case rel => exact ⟨s + 1, by go_num, by omega, (by rw [← pt_set, ← HZ.out]; exact H1.out.put hxw2 hne s z), HG1.out.setCell hxw _⟩
              case measure => simp [intOf]; omega
            · have H1 := Lib.hid (show XbIn w wr g gx T (xorL E T) by have := H.out; rw [show s = 16 by omega, pt_all] at this; exact this)
              have bs : ¬ (s : Int) < 16 := by omega
              clear H
              obtain ⟨R, hR⟩ : ∃ R, R = xorL E T := ⟨_, rfl⟩
              rw [← hR] at H1 HF1
              have HRl := Lib.hid (show R.length = 16 by rw [hR]; exact xorL_len _ _)
              clear hR
              obtain ⟨S1, hS1⟩ : ∃ S1 : ByteArray, S1 = ⟨R.toArray⟩ := ⟨_, rfl⟩
              obtain ⟨S2, hS2⟩ : ∃ S2 : ByteArray, S2 = ⟨(xtE W1 W2 n b (a + 1)).toArray⟩ := ⟨_, rfl⟩
              have hcv : (convert 22 9 (.slice (some ⟨gx, 0, none⟩) 16 16)).run Try.prog wr = .ok (.string S1) wr := by
                have := conv (br_rd H1.out.2.2 H1.out.2.2.lt) 16
                rw [HRl.out] at this
                rw [hS1]
                exact this
              have had : ∀ V : World, (Op.stringOp .add S S1).run Try.prog V = .ok (.string S2) V := fun V => by
                rw [HS.out, hS1, hS2, show xtE W1 W2 n b (a + 1) = xtE W1 W2 n b a ++ R by rw [← HF1.out, HYe.out]; rfl]
                exact add_str _ _ (by rw [xtE_len, HRl.out]; omega) V
              have HS2 := Lib.hid hS2
              clear hS1 hS2
              go_wp2
              go_roundw
              case rel => exact ⟨a + 1, S2, by go_num, rfl, by omega, HS2.out, HG.out⟩
              case measure => simp [intOf]; omega
    · have bm : ¬ (m : Int) < (bl : Int) := by have := HM.out; have := HKB.out; omega
      have HS2 := Lib.hid (show S = ⟨(xtE W1 W2 n b kb).toArray⟩ by rw [HS.out, show a = kb by omega])
      clear HS
      go_wp2
      go_ret
      exact ⟨by rw [HS2.out, HW1.out, HW2.out]; rfl, Grown.trans G6.out HG.out⟩
end Go.Proofs.Ytbgbfofghhiolaa.S8
