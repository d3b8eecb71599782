/-
  '[]byte(s)': new bytes. (As in Hmo, for seats without hmac.) The reference's Derive, whatever the oracle.
-/
import Derived.Test.YtjklgmhaebjjaaaGreatMgOidealMain4
import Derived.Test.YtjklgmhaebjjaaaGreatMgOidealMain18
namespace Go.Proofs.YtjklgmhaebjjaaaGreat
open Go.RowKit
set_option linter.unusedVariables false
set_option linter.unusedSimpArgs false

theorem conv_new (w : World) (l : List UInt8) (S : ByteArray) (hS : S = ⟨l.toArray⟩) : ∃ c w', (convert 9 22 (.string S)).run Tryz.prog w = .ok (.slice (some ⟨w.heap.size, 0, none⟩) l.length c) w' ∧ l.length ≤ c ∧ Rd w' w'.heap.size (some ⟨w.heap.size, 0, none⟩) l ∧ Grown w w' := by
  subst hS
  have hsz : (⟨l.toArray⟩ : ByteArray).size = l.length := by show l.toArray.size = _; simp
  have hr := run_bytes_of_string (P := Tryz.prog) w 9 22 5 ⟨l.toArray⟩ Tryz.underlying9 Tryz.underlying22 Tryz.underlying5
  have hge := grownCap_ge w (⟨l.toArray⟩ : ByteArray).size 0 5
  generalize grownCap w (⟨l.toArray⟩ : ByteArray).size 0 5 = cap at hr hge
  rw [hsz] at hr hge
  refine ⟨cap, _, hr, hge, .inr ⟨w.heap.size, 0, rfl, by simp, fun j hj => ?_⟩, ⟨rfl, rfl, rfl, by simp, fun k hk => heap_alloc_old w.drew _ hk⟩⟩
  have hcell := cell_of_row _ w.heap.size j _ 5 _ (heap_alloc_new w.drew (.cells (bytesRow ⟨l.toArray⟩ cap) 5 ((bytesRow ⟨l.toArray⟩ cap).size, (bytesRow ⟨l.toArray⟩ cap).size + 1)))
  rw [Nat.zero_add, hcell, bytesRow, Array.getElem?_append_left (by simpa using hj)]
  simp [hj, bv]
end Go.Proofs.YtjklgmhaebjjaaaGreat
namespace Go.Proofs.YtjklgmhaebjjaaaGreat.S12
open S11
open Go.RowKit
set_option linter.unusedVariables false
set_option linter.unusedSimpArgs false

theorem Onw.trans {M : Mod} {O : Ob M} {w w1 w2 : World} {G : Nat} {F F1 : Nat → Prop} {st2 : M.σ} (hF : ∀ k, F1 k → F k ∨ w.heap.size ≤ k) (hc : Ch F w w1) (h : Onw O w1 G F1 st2 w2) : Onw O w G F st2 w2 := by
  obtain ⟨F2, h1, h2, h3⟩ := h
  refine ⟨F2, h1, fun k hk => ?_, Ch.then hc h3 (fun k hk hf => ?_)⟩
  · rcases h2 k hk with h4 | h4
    · exact hF k h4
    · exact .inr (Nat.le_trans hc.size h4)
  · rcases hF k hf with h4 | h4
    · exact h4
    · omega
/-- Bytes that were made behind an object's footprint. -/
theorem Bes.new {M : Mod} {B : Nat} {O : Ob M} (K : Kept B O) {w w' : World} {G : Nat} {F : Nat → Prop} {st : M.σ} (h : O w G F st) {g : Nat} (hg : w.heap.size ≤ g) {n c : Nat} {l : List UInt8} (hr : Rd w' w'.heap.size (some ⟨g, 0, none⟩) l) (hl : l.length = n) (hn : n ≤ c) : Bes w' F (some ⟨g, 0, none⟩) n c l :=
  ⟨hr, hl, hn, fun x hx _ hf => by
    simp only [Option.some.injEq] at hx
    subst hx
    have := K.foot w G F st h _ hf
    simp at this
    omega⟩
theorem mk64z (V : World) : (Instr.makeSlice 22 (.int .i64 64) (.int .i64 64)).run Tryz.prog V = .ok (.slice (some ⟨V.heap.size, 0, none⟩) 64 64) (V.alloc (.cells (bvs z64).toArray 5)) := by
  have := mk22 64 (by omega) V
  exact this
theorem one_str (V : World) (x : UInt8) : (convert 22 9 (.slice (some ⟨V.heap.size, 0, none⟩) 1 1)).run Tryz.prog (V.alloc (.cells #[.int .u8 (x.toNat : Int)] 5)) = .ok (.string ⟨[x].toArray⟩) (V.alloc (.cells #[.int .u8 (x.toNat : Int)] 5)) :=
  conv ((Row.new V [x]).rd (Nat.lt_succ_self _)) 1

set_option maxRecDepth 20000 in
theorem cutN (l : List UInt8) (n : Nat) (h : n ≤ l.length) (W : World) : (Instr.slice 9 (.string ⟨l.toArray⟩) none (some (.int .i64 (n : Int))) none).run Tryz.prog W = .ok (.string ⟨(l.take n).toArray⟩) W := by
  have hs : (⟨l.toArray⟩ : ByteArray).size = l.length := by show l.toArray.size = _; simp
  have hr := run_slice_string_h (P := Tryz.prog) W 9 ⟨l.toArray⟩ Tryz.underlying9 .i64 (n : Int) (by omega) (by rw [hs]; omega)
  rw [hr]
  congr 2
  apply ByteArray.ext
  apply Array.ext'
  simp [ByteArray.extract, ByteArray.copySlice]

set_option maxHeartbeats 4000000 in
set_option maxRecDepth 20000 in
theorem refDerive_any {M : Mod} {B : Nat} {O : Ob M} (K : RefOk M B O) (w : World) (R : Nat) (F : Nat → Prop) (st : M.σ) (i : Nat) (A1 : Option Addr) (n1 c1 : Nat) (mat : List UInt8) (ctx : UInt8) (A2 : Option Addr) (n2 c2 : Nat) (info : List UInt8) (n : Nat) (hB : B ≤ w.heap.size) (h : O w R F st) (hi : M.num st i) (hi2 : i ≤ 190) (h1 : Bes w F A1 n1 c1 mat) (hl1 : n1 ≤ 2000) (h2 : Bes w F A2 n2 c2 info) (hl2 : n2 ≤ 1500) (hn : n ≤ 200) :
    Calls Tryz.prog 18 #[.pointer (some ⟨R, 0, none⟩), .slice A1 n1 c1, .int .u8 (ctx.toNat : Int), .slice A2 n2 c2, .int .i64 (n : Int)] w fun e w' => e = .returned (.string ⟨(M.derive st mat ctx info n).1.toArray⟩) ∧ Onw O w R F (M.derive st mat ctx info n).2 w' := by
  have H0 := Lib.hid h
  have HI := Lib.hid hi
  have H1 := Lib.hid h1
  have H2 := Lib.hid h2
  have HBs := Lib.hid hB
  have hmk := mk64z
  clear h hi h1 h2 hB
  go_enter Tryz.func18, Tryz.ntmps18
  go_wp2_with fail
  clear hmk
  have GA := Lib.hid (alloc_below w (.cells (bvs z64).toArray 5))
  have RA := Lib.hid ((Row.new w z64).rd (B := (w.alloc (.cells (bvs z64).toArray 5)).heap.size) (by simp))
  obtain ⟨g, hg⟩ : ∃ g, g = w.heap.size := ⟨_, rfl⟩
  have Hg := Lib.hid hg
  rw [← hg] at RA ⊢
  clear hg
  generalize w.alloc _ = v0 at GA RA ⊢
  have O0 := Lib.hid (K.grow H0.out HBs.out GA.out)
  refine (K.mac v0 R F st i (some ⟨g, 0, none⟩) 64 64 z64 A1 n1 c1 mat O0.out HI.out (by omega) (Bes.new K.toKept H0.out (by rw [Hg.out]; exact Nat.le_refl _) RA.out (by rfl) (Nat.le_refl _)) (by omega) (H1.out.grow GA.out) hl1).mono ?_
  rintro e w1 ⟨rfl, F1, hO1, hF1, hC1⟩
  obtain ⟨key, hkey⟩ : ∃ key, key = (M.mac st z64 mat).1 := ⟨_, rfl⟩
  obtain ⟨st1, hst1⟩ : ∃ st1, st1 = (M.mac st z64 mat).2 := ⟨_, rfl⟩
  rw [← hst1] at hO1
  rw [← hkey]
  have Hkl := Lib.hid (show key.length = 64 by rw [hkey]; exact M.len_mac st i _ _ HI.out)
  have Hn1 := Lib.hid (show M.num st1 (i + 1) by rw [hst1]; exact M.num_mac st i _ _ HI.out (by omega))
  have Hkey := Lib.hid hkey
  have Hst1 := Lib.hid hst1
  clear hkey hst1
  obtain ⟨S0, hS0⟩ : ∃ S : ByteArray, S = ⟨key.toArray⟩ := ⟨_, rfl⟩
  have HS0 := Lib.hid hS0
  rw [← hS0]
  clear hS0
  obtain ⟨c5, w2, hcv, hc5, hr5, hg5⟩ := conv_new w1 key S0 HS0.out
  rw [Hkl.out] at hcv hc5
  have HsB := Lib.hid (show B ≤ w1.heap.size by have := HBs.out; have := GA.out.size; have := hC1.size; omega)
  have O2 := Lib.hid (K.grow hO1 HsB.out hg5)
  have F2 := Lib.hid (show ∀ k, F1 k → F k ∨ w.heap.size ≤ k from fun k hk => by
    rcases hF1 k hk with h4 | h4
    · exact .inl h4
    · exact .inr (Nat.le_trans GA.out.size h4))
  have C2 := Lib.hid (show Ch F w w2 from Ch.trans (Ch.trans (Ch.grown GA.out) hC1) (Ch.grown hg5))
  have BK := Lib.hid (show Bes w2 F1 (some ⟨w1.heap.size, 0, none⟩) 64 c5 key from Bes.new K.toKept hO1 (Nat.le_refl _) hr5 Hkl.out hc5)
  have BI := Lib.hid (show Bes w2 F1 A2 n2 c2 info from ((H2.out.grow GA.out).on hF1 hC1).grow hg5)
  have HsB2 := Lib.hid (show B ≤ w2.heap.size by have := HsB.out; have := hg5.size; omega)
  obtain ⟨gk, hgk⟩ : ∃ gk, gk = w1.heap.size := ⟨_, rfl⟩
  rw [← hgk] at hcv BK
  clear hgk hO1 hF1 hC1 hr5 hg5 RA O0 H1
  obtain ⟨m, hm⟩ : ∃ m, m = (n + 63) / 64 := ⟨_, rfl⟩
  have hm4 : m ≤ 4 := by omega
  have Hm := Lib.hid hm
  clear hm
  go_wp2_with fail
  clear hcv
  go_loopw [12, 13, 14] (fun v12 v13 v14 wr => ∃ (j : Nat) (t s : List UInt8) (stj : M.σ) (Fj : Nat → Prop), v12 = .string ⟨s.toArray⟩ ∧ v13 = .string ⟨t.toArray⟩ ∧ v14 = .int .i64 ((j : Int) + 1) ∧ j ≤ m ∧ s.length = 64 * j ∧ t.length ≤ 64 ∧ Hid (M.drv st1 key (preD ctx info) j = (t, s, stj)) ∧ Hid (O wr R Fj stj) ∧ Hid (∀ k, Fj k → F k ∨ w.heap.size ≤ k) ∧ Hid (Ch F w wr) ∧ Hid (Bes wr Fj (some ⟨gk, 0, none⟩) 64 c5 key) ∧ Hid (Bes wr Fj A2 n2 c2 info) ∧ Hid (B ≤ wr.heap.size)) (fun _ _ v14 _ => m + 1 - (intOf v14).toNat)
  case atStart => exact ⟨0, [], [], st1, F1, rfl, rfl, rfl, Nat.zero_le _, rfl, Nat.zero_le _, rfl, O2.out, F2.out, C2.out, BK.out, BI.out, HsB2.out⟩
  case round =>
    clear O2 F2 C2 BK BI HsB2
    obtain ⟨j, t, s, stj, Fj, rfl, rfl, rfl, hj, hsl, htl, HD, HO, HF, HC, HK, HIn, HSz⟩ := hrel
    by_cases hlt : j < m
    · have hsn : (s.length : Int) < (n : Int) := by have := Hm.out; omega
      have hj3 : j ≤ 3 := by omega
      have hwx : IntKind.u8.wrap ((j : Int) + 1) = (j : Int) + 1 := by
        rcases (show j = 0 ∨ j = 1 ∨ j = 2 ∨ j = 3 by omega) with rfl | rfl | rfl | rfl <;> rfl
      have hxn : (((UInt8.ofNat (j + 1)).toNat : Nat) : Int) = (j : Int) + 1 := by
        rcases (show j = 0 ∨ j = 1 ∨ j = 2 ∨ j = 3 by omega) with rfl | rfl | rfl | rfl <;> rfl
      obtain ⟨x, hx⟩ : ∃ x, x = UInt8.ofNat (j + 1) := ⟨_, rfl⟩
      rw [← hx] at hxn
      have Hx := Lib.hid hx
      clear hx
      obtain ⟨P1, hP1⟩ : ∃ P : ByteArray, P = ⟨(t ++ lbl).toArray⟩ := ⟨_, rfl⟩
      obtain ⟨P2, hP2⟩ : ∃ P : ByteArray, P = ⟨(t ++ lbl ++ [ctx]).toArray⟩ := ⟨_, rfl⟩
      obtain ⟨P3, hP3⟩ : ∃ P : ByteArray, P = ⟨(t ++ lbl ++ [ctx] ++ info).toArray⟩ := ⟨_, rfl⟩
      obtain ⟨P4, hP4⟩ : ∃ P : ByteArray, P = ⟨(t ++ lbl ++ [ctx] ++ info ++ [x]).toArray⟩ := ⟨_, rfl⟩
      obtain ⟨TI, hTI⟩ : ∃ P : ByteArray, P = ⟨info.toArray⟩ := ⟨_, rfl⟩
      obtain ⟨TC, hTC⟩ : ∃ P : ByteArray, P = ⟨[ctx].toArray⟩ := ⟨_, rfl⟩
      obtain ⟨TX, hTX⟩ : ∃ P : ByteArray, P = ⟨[x].toArray⟩ := ⟨_, rfl⟩
      have hil : info.length = n2 := HIn.out.2.1
      have hll : lbl.length = 8 := rfl
      have ha1 : ∀ V : World, (Op.stringOp .add ⟨t.toArray⟩ ⟨#[116, 117, 114, 110, 107, 101, 121, 0]⟩).run Tryz.prog V = .ok (.string P1) V := fun V => by rw [hP1]; exact addT t lbl (by omega) V
      have ha2 : ∀ V : World, (Op.stringOp .add P1 TC).run Tryz.prog V = .ok (.string P2) V := fun V => by rw [hP1, hP2, hTC]; exact addT _ _ (by simp; omega) V
      have ha3 : ∀ V : World, (Op.stringOp .add P2 TI).run Tryz.prog V = .ok (.string P3) V := fun V => by rw [hP2, hP3, hTI]; exact addT _ _ (by simp; omega) V
      have ha4 : ∀ V : World, (Op.stringOp .add P3 TX).run Tryz.prog V = .ok (.string P4) V := fun V => by rw [hP3, hP4, hTX]; exact addT _ _ (by simp; omega) V
      have hc1 := one_str wr ctx
      rw [← hTC] at hc1
      obtain ⟨W1, hW1⟩ : ∃ W1, W1 = wr.alloc (.cells #[.int .u8 (ctx.toNat : Int)] 5) := ⟨_, rfl⟩
      have hs1 : W1.heap.size = wr.heap.size + 1 := by rw [hW1]; simp
      have G1 := Lib.hid (show Grown wr W1 by rw [hW1]; exact alloc_below _ _)
      have hbs1 : ∀ V : World, V = wr → V.alloc (.cells #[.int .u8 (ctx.toNat : Int)] 5) = W1 := fun V e => by rw [e, hW1]
      have hci : (convert 22 9 (.slice A2 n2 c2)).run Tryz.prog W1 = .ok (.string TI) W1 := by
        have := conv (HIn.out.grow G1.out).1 c2
        rw [hil] at this
        rw [hTI]; exact this
      have hc2 := one_str W1 x
      rw [hxn, ← hTX, hs1] at hc2
      obtain ⟨W2, hW2⟩ : ∃ W2, W2 = W1.alloc (.cells #[.int .u8 ((j : Int) + 1)] 5) := ⟨_, rfl⟩
      have G2 := Lib.hid (show Grown wr W2 by rw [hW2]; exact Grown.trans G1.out (alloc_below _ _))
      rw [← hW1] at hc1
      rw [← hW2] at hc2
      obtain ⟨c6, w6, hcb, hc6, hr6, hg6⟩ := conv_new W2 (t ++ lbl ++ [ctx] ++ info ++ [x]) P4 hP4
      have hpl : (t ++ lbl ++ [ctx] ++ info ++ [x]).length = t.length + n2 + 10 := by simp; omega
      rw [hpl] at hcb hc6
      have G6 := Lib.hid (Grown.trans G2.out hg6)
      have R6 := Lib.hid hr6
      obtain ⟨g6, hg6q⟩ : ∃ g6, g6 = W2.heap.size := ⟨_, rfl⟩
      rw [← hg6q] at hcb R6
      have Hg6 := Lib.hid (show wr.heap.size ≤ g6 by rw [hg6q]; exact G2.out.size)
      rw [hW1] at hci hW2
      rw [hW2] at hc2 hcb
      clear hP1 hP2 hP3 hP4 hTI hTC hTX hr6 hg6 hil hll hbs1
      have Hsl := Lib.hid hsl
      rw [hW1] at hc1
      obtain ⟨T4, hT4⟩ : ∃ T4, T4 = t ++ lbl ++ [ctx] ++ info ++ [x] := ⟨_, rfl⟩
      rw [← hT4] at R6 hpl
      have HT4 := Lib.hid (show T4 = t ++ preD ctx info ++ [UInt8.ofNat (j + 1)] by rw [hT4, Hx.out]; simp [preD])
      have Hpl := Lib.hid hpl
      have hnj : M.num stj (i + 1 + j) := by
        have := M.drv_num Hn1.out key (preD ctx info) j (by omega)
        rw [HD.out] at this
        exact this
      have Hnj := Lib.hid hnj
      have htl2 : t.length + n2 + 10 ≤ 2000 := by omega
      obtain ⟨q, hq⟩ : ∃ q, q = t.length + n2 + 10 := ⟨_, rfl⟩
      rw [← hq] at hcb hc6 Hpl htl2
      clear hsl hpl hxn hW1 hW2 hg6q hs1 hT4 hnj hq
      go_wp2_with fail
      clear ha1 ha2 ha3 ha4 hc1 hci hc2 hcb
      refine (K.mac w6 R Fj stj (i + 1 + j) (some ⟨gk, 0, none⟩) 64 c5 key (some ⟨g6, 0, none⟩) q c6 T4 (K.grow HO.out HSz.out G6.out) Hnj.out (by omega) (HK.out.grow G6.out) (by omega) (Bes.new K.toKept HO.out Hg6.out R6.out Hpl.out hc6) htl2).mono ?_
      rintro e w7 ⟨rfl, Fk, hO7, hF7, hC7⟩
      obtain ⟨t', ht'⟩ : ∃ t', t' = (M.mac stj key T4).1 := ⟨_, rfl⟩
      obtain ⟨st7, hst7⟩ : ∃ s', s' = (M.mac stj key T4).2 := ⟨_, rfl⟩
      rw [← hst7] at hO7
      rw [← ht']
      have Ht' := Lib.hid (show t'.length = 64 by rw [ht']; exact M.len_mac stj _ _ _ Hnj.out)
      have HD7 := Lib.hid (show M.drv st1 key (preD ctx info) (j + 1) = (t', s ++ t', st7) by
        show ((M.mac (M.drv st1 key (preD ctx info) j).2.2 key ((M.drv st1 key (preD ctx info) j).1 ++ preD ctx info ++ [UInt8.ofNat (j + 1)])).1, _, _) = _
        rw [HD.out]
        show ((M.mac stj key (t ++ preD ctx info ++ [UInt8.ofNat (j + 1)])).1, _, _) = _
        rw [← HT4.out, ht', hst7])
      have O7 := Lib.hid hO7
      have F7 := Lib.hid (show ∀ k, Fk k → F k ∨ w.heap.size ≤ k from fun k hk => by
        rcases hF7 k hk with h4 | h4
        · exact HF.out k h4
        · exact .inr (by have := HC.out.size; have := G6.out.size; omega))
      have C67 := Lib.hid (show Ch F w w7 from Ch.then (Ch.trans HC.out (Ch.grown G6.out)) hC7 (fun k hk hf => by
        rcases HF.out k hf with h4 | h4
        · exact h4
        · omega))
      have K7 := Lib.hid ((HK.out.grow G6.out).on hF7 hC7)
      have I7 := Lib.hid ((HIn.out.grow G6.out).on hF7 hC7)
      have Z7 := Lib.hid (show B ≤ w7.heap.size by have := HSz.out; have := G6.out.size; have := hC7.size; omega)
      have hadd : ∀ V : World, (Op.stringOp .add ⟨s.toArray⟩ ⟨t'.toArray⟩).run Tryz.prog V = .ok (.string ⟨(s ++ t').toArray⟩) V := fun V => addT s t' (by rw [Hsl.out, Ht'.out]; omega) V
      clear ht' hst7 hO7 hF7 hC7 HD HO HF HC HK HIn HSz R6 G6
      go_wp2_with fail
      clear hadd
      go_roundw
      case rel => exact ⟨j + 1, t', s ++ t', st7, Fk, rfl, rfl, by go_num, by omega, by rw [List.length_append, Hsl.out, Ht'.out]; omega, by rw [Ht'.out]; exact Nat.le_refl _, HD7.out, O7.out, F7.out, C67.out, K7.out, I7.out, Z7.out⟩
      case measure => simp [intOf]; omega
    · have hsn : ¬ (s.length : Int) < (n : Int) := by have := Hm.out; omega
      have hjm : j = m := by omega
      have hcut := fun V : World => cutN s n (by omega) V
      have HE := Lib.hid (show M.derive st mat ctx info n = (s.take n, stj) by
        unfold Mod.derive
        rw [← Hkey.out, ← Hst1.out, ← Hm.out, ← hjm, HD.out])
      clear hjm hsl
      go_wp2_with fail
      go_ret
      rw [HE.out]
      exact ⟨rfl, Fj, HO.out, HF.out, HC.out⟩
end Go.Proofs.YtjklgmhaebjjaaaGreat.S12
