/-
  Contract of the program's whiten, for either direction of the cipher.
-/
import Derived.Test.YtbgbfofghhiolaaXqB
namespace Go.Proofs.Ytbgbfofghhiolaa.S8
open Go.RowKit
open Go.Proofs.Ytbgbfofghhiolaa.S7 hiding intOf
set_option linter.unusedVariables false
set_option linter.unusedSimpArgs false

theorem zip_mk (a b : List UInt8) (ha : a.length = 16) (hb : b.length = 16) : Go.Proofs.Ytbgbfofghhiolaa.xorL a b = xorL a b := by
  apply List.ext_getElem
  · rw [Go.Proofs.Ytbgbfofghhiolaa.xorL_len, xorL_len, ha, hb]; rfl
  · intro j h1 h2
    rw [xorL_len] at h2
    rw [Go.Proofs.Ytbgbfofghhiolaa.xorL_get a b j h1 (by omega) (by omega)]
    have h3 := gt_mk (fun i => gt a i ^^^ gt b i) j h2
    simp only [gt, List.getD_eq_getElem?_getD] at h3
    rw [List.getElem?_eq_getElem (by rw [mk_len]; exact h2), List.getElem?_eq_getElem (by omega), List.getElem?_eq_getElem (by omega)] at h3
    exact h3.symm
theorem bk_drop (b : List UInt8) (i : Nat) : bk (b.drop 16) i = bk b (i + 1) := by
  unfold bk
  rw [List.drop_drop, show 16 + 16 * i = 16 * (i + 1) by omega]
theorem cutL_bk (b : List UInt8) (kb : Nat) (h : b.length = 16 * kb) : cutL 16 b = (List.range kb).map (bk b) := by
  induction kb generalizing b with
  | zero =>
    obtain rfl : b = [] := List.eq_nil_of_length_eq_zero (by omega)
    rw [cutL_nil]
    rfl
  | succ k ih =>
    rw [cutL_step 16 b (by omega) (by omega), ih (b.drop 16) (by rw [List.length_drop]; omega), List.range_succ_eq_map, List.map_cons, List.map_map]
    congr 1
    apply List.map_congr_left
    intro i _
    exact bk_drop b i
/-- What a cipher g makes of the blocks of a unit. -/
def fG (g : List UInt8 → List UInt8) (W2 : List UInt8) (n i : Nat) (x : List UInt8) : List UInt8 := xorL (g (xorL x (tw W2 n i))) (tw W2 n i)
theorem fG_len (g : List UInt8 → List UInt8) (W2 : List UInt8) (n i : Nat) (x : List UInt8) : (fG g W2 n i x).length = 16 := mk_len _
theorem grown_row (w : World) (g : Nat) (cs : Array Value) : w.grownBy (w.setRow g cs) (some g) :=
  ⟨rfl, rfl, rfl, by simp [World.setRow], fun k hk hne => setRow_other w g k cs (by simpa using hne)⟩
/-- Where whiten stands: the tweak's box, the result's row, the pieces. -/
def Wh (w wr : World) (T out : List UInt8) (bl : Nat) (Ac : Option Addr) (cc : Nat) (ls : List (List UInt8)) : Prop :=
  Grown w wr ∧ Br wr w.heap.size T ∧ Own wr (w.heap.size + 1) (some ⟨w.heap.size + 1, 0, none⟩) bl out ∧ OwnL wr (w.heap.size + 2) Ac cc ls
section
variable {w wr w' : World} {T out : List UInt8} {bl : Nat} {Ac : Option Addr} {cc : Nat} {ls : List (List UInt8)}
theorem Wh.grow (h : Wh w wr T out bl Ac cc ls) (hg : Grown wr w') : Wh w w' T out bl Ac cc ls := ⟨Grown.trans h.1 hg, h.2.1.grow hg, h.2.2.1.grow hg, h.2.2.2.grow hg⟩
theorem Wh.drew (h : Wh w wr T out bl Ac cc ls) : Wh w wr.drew T out bl Ac cc ls := ⟨h.1.drew, h.2.1, h.2.2.1, h.2.2.2⟩
theorem Wh.app {o2 : List UInt8} (h : Wh w wr T out bl Ac cc ls) (hg : wr.grownBy w' (some (w.heap.size + 1))) (ho : Own w' (w.heap.size + 1) (some ⟨w.heap.size + 1, 0, none⟩) bl o2) : Wh w w' T o2 bl Ac cc ls :=
  ⟨Below.grown h.1 hg h.1.size (fun k hk => by simp at hk; omega), (hg.block _ h.2.1.lt (by simp)).trans h.2.1, ho, OwnL.but h.2.2.2 hg (by omega)⟩
theorem Wh.row (h : Wh w wr T out bl Ac cc ls) (M : List UInt8) : Wh w (wr.setRow w.heap.size (bvs M).toArray) M out bl Ac cc ls :=
  ⟨Below.setRow' h.1 (Nat.le_refl _) _, h.2.1.row M, Own.but h.2.2.1 (grown_row wr _ _) (by omega), OwnL.but h.2.2.2 (grown_row wr _ _) (by omega)⟩
end
def slLen : Value → Nat
  | .slice _ n _ => n
  | _ => 0

set_option maxHeartbeats 4000000 in
set_option maxRecDepth 20000 in
theorem whiten_any (f : FuncId) (g : List UInt8 → List UInt8) (hgl : ∀ x, (g x).length = 16) (G : Nat) (W2 : List UInt8) (n kb bl d : Nat) (B : Option Addr) (b : List UInt8) (w : World)
    (hcf : ∀ (args : Array Value) (V : World), (callFunc f args).run Try.prog V = .ok (.enter f args) V)
    (hf : ∀ x w', x.length = 16 → Grown w w' → Calls Try.prog f #[.pointer (some ⟨G, 0, none⟩), .agg (bvs x).toArray] w' fun e w'' => e = .returned (.agg (bvs (g x)).toArray) ∧ Grown w' w'')
    (hb : b.length = bl) (hbl : bl = 16 * kb) (h1 : 1 ≤ kb) (hkb : kb ≤ 64) (hd : bl ≤ d) (hB : Rd w w.heap.size B b) :
    Calls Try.prog 14 #[.slice B bl d, .agg (bvs (tw W2 n 0)).toArray, .func (.func f) #[.pointer (some ⟨G, 0, none⟩)] #[]] w
      fun e w' => e = .returned (.slice (some ⟨w.heap.size + 1, 0, none⟩) bl bl) ∧ Rd w' w'.heap.size (some ⟨w.heap.size + 1, 0, none⟩) (mB (fG g W2 n) b kb) ∧ Grown w w' := by
  have HF := Lib.hid hf
  have Hb := Lib.hid hb
  have HKB := Lib.hid hbl
  have HB := Lib.hid hB
  have hbl2 : bl ≤ 1024 := by omega
  obtain ⟨Z, hZ⟩ : ∃ Z, Z = (bvs (List.replicate bl 0)).toArray := ⟨_, rfl⟩
  have hmk : ∀ V : World, (Instr.makeSlice 22 (.int .i64 0) (.int .i64 (bl : Int))).run Try.prog V = .ok (.slice (some ⟨V.heap.size, 0, none⟩) 0 bl) (V.alloc (.cells Z 5)) := fun V => by rw [hZ]; exact mk0 bl (by omega) V
  have HZ := Lib.hid hZ
  obtain ⟨T, hT⟩ : ∃ T, T = tw W2 n 0 := ⟨_, rfl⟩
  rw [← hT]
  have HTe := Lib.hid hT
  have HTl := Lib.hid (show T.length = 16 by rw [hT]; exact tw_len _ _ _)
  obtain ⟨ls, hls⟩ : ∃ ls, ls = cutL 16 b := ⟨_, rfl⟩
  have HLl := Lib.hid (show ls.length = kb by rw [hls, cutL_bk b kb (by omega)]; simp)
  have HLs := Lib.hid (show ls = (List.range kb).map (bk b) by rw [hls, cutL_bk b kb (by omega)])
  have HLc := Lib.hid hls
  clear hf hb hbl hB hZ hT hls
  go_enter Try.func14, Try.ntmps14
  go_wp2_with fail
  have G2 := Lib.hid (show Grown w ((w.alloc (.cells (bvs T).toArray 37)).alloc (.cells Z 5)) from two_grown w _ _)
  have T2 := Lib.hid (show Br ((w.alloc (.cells (bvs T).toArray 37)).alloc (.cells Z 5)) w.heap.size T from (Br.new w T).alloc _)
  have O2 := Lib.hid (show Own ((w.alloc (.cells (bvs T).toArray 37)).alloc (.cells Z 5)) (w.heap.size + 1) (some ⟨w.heap.size + 1, 0, none⟩) bl [] by
    rw [HZ.out]
    have := own_mk0 (w.alloc (.cells (bvs T).toArray 37)) bl (by omega) (w.heap.size + 1) (by simp)
    simpa using this)
  have S2 := Lib.hid (show ((w.alloc (.cells (bvs T).toArray 37)).alloc (.cells Z 5)).heap.size = w.heap.size + 2 by simp)
  generalize (w.alloc _).alloc _ = w2 at G2 T2 O2 S2 ⊢
  have hcut := cut_some B bl d b 16 w2 Hb.out (HB.out.grow G2.out) hd (by omega) (by omega) (by omega)
  rw [show ((16 : Nat) : Int) = 16 from rfl, ← HLc.out] at hcut
  refine hcut.mono ?_
  clear hcut hmk HZ
  rintro e w3 ⟨Ac, cc, rfl, ho3, hb3⟩
  rw [HLl.out]
  have H0 := Lib.hid (show Wh w w3 (tw W2 n 0) (mB (fG g W2 n) b 0) bl Ac cc ls from
    ⟨Grown.trans G2.out hb3, by rw [← HTe.out]; exact T2.out.grow hb3, O2.out.grow hb3, by rw [← S2.out]; exact ho3⟩)
  clear ho3 hb3 G2 T2 O2 S2 HTl
  go_wp2
  go_loopw [7, 17] (fun v7 v17 wr => ∃ a m : Nat, v7 = .slice (some ⟨w.heap.size + 1, 0, none⟩) m bl ∧ v17 = .int .i64 (a : Int) ∧ a ≤ kb ∧ Hid (m = 16 * a) ∧ Hid (Wh w wr (tw W2 n a) (mB (fG g W2 n) b a) bl Ac cc ls)) (fun _ v17 _ => kb - (intOf v17).toNat)
  case atStart => exact ⟨0, 0, rfl, rfl, by omega, rfl, H0.out⟩
  case round =>
    clear H0 HTe
    obtain ⟨a, m, rfl, rfl, ha, Hm, H⟩ := hrel
    by_cases hak : a < kb
    · have bi : (a : Int) < (kb : Int) := by omega
      obtain ⟨U, hU⟩ : ∃ U, U = tw W2 n a := ⟨_, rfl⟩
      obtain ⟨X0, hX0⟩ : ∃ X0, X0 = bk b a := ⟨_, rfl⟩
      have HU := Lib.hid hU
      have HUl := Lib.hid (show U.length = 16 by rw [hU]; exact tw_len _ _ _)
      have HX0l := Lib.hid (show X0.length = 16 by rw [hX0]; exact bk_len b a (by have := Hb.out; have := HKB.out; omega))
      have HX0 := Lib.hid hX0
      rw [← hU] at H
      clear hU
      obtain ⟨bc, oc, A9, c9, hAc, hbc, hc9, hlc, hr9⟩ := RdL.at_ (OwnL.rdL H.out.2.2.2) (k := a) (by rw [HLl.out]; exact hak)
      have hls : ls[a]'(by rw [HLl.out]; exact hak) = X0 := by
        rw [hX0]
        simp [HLs.out]
      rw [hls] at hc9 hlc hr9
      rw [HX0l.out] at hc9 hlc
      have R9 := Lib.hid hr9
      subst hAc
      have hsT : ∀ V : World, (Instr.sliceAt 37 (.pointer (some ⟨w.heap.size, 0, none⟩)) none none none).run Try.prog V = .ok (.slice (some ⟨w.heap.size, 0, none⟩) 16 16) V := fun V => cut_all V _
      clear hr9 hls hX0
      go_wp2_with fail
      refine (xor_any A9 16 c9 (some ⟨w.heap.size, 0, none⟩) 16 16 X0 U wr R9.out (br_rd H.out.2.1 H.out.2.1.lt) HX0l.out HUl.out (by omega) (by omega)).mono ?_
      rw [zip_mk _ _ HX0l.out HUl.out]
      rintro e w4 ⟨A4, c4, rfl, ho4, hb4⟩
      rw [xorL_len]
      obtain ⟨X1, hX1⟩ : ∃ X1, X1 = xorL X0 U := ⟨_, rfl⟩
      rw [← hX1] at ho4
      have HX1 := Lib.hid hX1
      have HX1l := Lib.hid (show X1.length = 16 by rw [hX1]; exact xorL_len _ _)
      have hc4 : 16 ≤ c4 := by have := ho4.le; rw [HX1l.out] at this; exact this
      obtain ⟨g4, hA4⟩ : ∃ g4, A4 = some ⟨g4, 0, none⟩ := by
        rcases ho4.form with ⟨_, e, _⟩ | ⟨g4, cur, e, _⟩
        · have := HX1l.out; rw [e] at this; cases this
        · exact ⟨g4, e⟩
      subst hA4
      have hran : w4.rangeAt g4 0 (bvs X1) := by
        rcases ho4.rd with e | ⟨b5, o5, e, hb5, hc5⟩
        · have := HX1l.out; rw [e] at this; cases this
        · simp only [Option.some.injEq, Addr.mk.injEq] at e
          obtain ⟨rfl, rfl, _⟩ := e
          intro j v hv
          have hj : j < X1.length := by have := (List.getElem?_eq_some_iff.1 hv).1; simpa [bvs] using this
          rw [hc5 j hj, ← hv]
          simp [bvs, hj]
      have Hran := Lib.hid hran
      have H4 := Lib.hid (H.out.grow hb4)
      have hat : ∀ V : World, (Instr.arrayAt 37 (.slice (some ⟨g4, 0, none⟩) 16 c4)).run Try.prog V = .ok (.pointer (some ⟨g4, 0, none⟩)) V := fun V => run_arrayAt V _ _ 16 _ _ _ u16B (by omega)
      obtain ⟨E4, hE4⟩ : ∃ E4, E4 = bvs X1 := ⟨_, rfl⟩
      rw [← hE4] at Hran
      have HE4 := Lib.hid hE4
      have Hi4 := Lib.hid (show (Try.prog.info? 37).map (·.size) = some E4.length by rw [hE4, bvs_length, HX1l.out]; exact i16B)
      clear hX1 ho4 hb4 hc9 hran H hE4
      go_wp2_with (first
        | (refine wpList_load_mid rfl 37 (.tmp 25) rfl g4 0 rfl E4 _ Hran.out u16B rfl Hi4.out ?_))
      rw [HE4.out]
      refine (HF.out X1 _ HX1l.out H4.out.1).mono ?_
      rintro e w5 ⟨rfl, hg5⟩
      have H5 := Lib.hid (H4.out.grow hg5)
      obtain ⟨Y, hY⟩ : ∃ Y, Y = g X1 := ⟨_, rfl⟩
      rw [← hY]
      have HYl := Lib.hid (show Y.length = 16 by rw [hY]; exact hgl _)
      have HY := Lib.hid hY
      clear hY hg5 H4 Hran HE4 Hi4 hat
      go_wp2_with (first
        | (refine wpList_store_last rfl 37 (.tmp 10) (.tmp 27) rfl rfl rfl (sz16 HYl.out) (by simp [bvs, HYl.out]) (on16 Y) ?_))
      have Y6 := Lib.hid (Br.new w5 Y)
      have H6 := Lib.hid (H5.out.grow (alloc_below w5 (.cells (bvs Y).toArray 37)))
      obtain ⟨g5, hg5⟩ : ∃ g5, g5 = w5.heap.size := ⟨_, rfl⟩
      rw [← hg5] at Y6 ⊢
      clear hg5 H5
      generalize w5.alloc _ = w6 at Y6 H6 ⊢
      try simp only [Act.put]
      refine restS_begin (fun _ => True) (by kernel_rfl) ?_
      have Y7 := Lib.hid (show Br w6.drew g5 Y from Y6.out)
      have H7 := Lib.hid H6.out.drew
      clear Y6 H6
      generalize w6.drew = w7 at Y7 H7 ⊢
      have hsY : ∀ V : World, (Instr.sliceAt 37 (.pointer (some ⟨g5, 0, none⟩)) none none none).run Try.prog V = .ok (.slice (some ⟨g5, 0, none⟩) 16 16) V := fun V => cut_all V _
      refine restS_take (i := 0) trivial rfl (by kernel_rfl) (by kernel_rfl) (by kernel_rfl) (by rfl) (fun w' hg => by go_simp; try with_reducible rfl) ?_
      try simp only [Act.put, List.setIfInBounds_toArray, List.set_cons_zero, List.set_cons_succ]
      refine restS_take (i := 1) trivial rfl (by kernel_rfl) (by kernel_rfl) (by kernel_rfl) (by rfl) (fun w' hg => by go_simp; try with_reducible rfl) ?_
      try simp only [Act.put, List.setIfInBounds_toArray, List.set_cons_zero, List.set_cons_succ]
      refine restS_take (i := 2) trivial rfl (by kernel_rfl) (by kernel_rfl) (by kernel_rfl) (by rfl) (fun w' hg => by go_simp; try with_reducible rfl) ?_
      try simp only [Act.put, List.setIfInBounds_toArray, List.set_cons_zero, List.set_cons_succ]
      refine restS_lone (i := 3) rfl (by kernel_rfl) (by rfl) (fun K hK => ?_)
      go_simp
      refine (xor_any (some ⟨g5, 0, none⟩) 16 16 (some ⟨w.heap.size, 0, none⟩) 16 16 Y U w7 (br_rd Y7.out Y7.out.lt) (br_rd H7.out.2.1 H7.out.2.1.lt) HYl.out HUl.out (by omega) (by omega)).mono ?_
      rw [zip_mk _ _ HYl.out HUl.out]
      rintro e w8 ⟨A8, c8, rfl, ho8, hb8⟩
      rw [xorL_len]
      obtain ⟨V, hV⟩ : ∃ V, V = xorL Y U := ⟨_, rfl⟩
      rw [← hV] at ho8
      have HV := Lib.hid hV
      have HVl := Lib.hid (show V.length = 16 by rw [hV]; exact xorL_len _ _)
      obtain ⟨p8, hp8⟩ : ∃ p8, A8 = some p8 := by
        rcases ho8.form with ⟨_, e, _⟩ | ⟨g8, cur, e, _⟩
        · have := HVl.out; rw [e] at this; cases this
        · exact ⟨_, e⟩
      subst hp8
      have R8 := Lib.hid ho8.rd
      have H8 := Lib.hid (H7.out.grow hb8)
      refine hK.out _ _ trivial ?_
      clear hK K hV ho8 hb8 H7 Y7 hsY
      try simp only [Act.put, List.setIfInBounds_toArray, List.set_cons_zero, List.set_cons_succ]
      refine restS_lone (i := 4) rfl (by kernel_rfl) (by rfl) (fun K hK => ?_)
      obtain ⟨m2, hm2⟩ : ∃ m2, m2 = m + 16 := ⟨_, rfl⟩
      have hm2b : m2 ≤ bl := by have := Hm.out; have := HKB.out; omega
      have HOl := Lib.hid (show (mB (fG g W2 n) b a).length = m by rw [mB_len _ (fG_len g W2 n)]; exact Hm.out.symm)
      refine wp_appR (.tmp 28) (.tmp 31) rfl HOl.out rfl H8.out.2.2.1 HVl.out rfl R8.out hm2 hm2b (by omega) ?_
      intro w9 ho9 hg9
      have H9 := Lib.hid (show Wh w w9 U (mB (fG g W2 n) b (a + 1)) bl (some ⟨bc, oc, none⟩) cc ls by
        have e1 : mB (fG g W2 n) b (a + 1) = mB (fG g W2 n) b a ++ V := by
          show mB (fG g W2 n) b a ++ fG g W2 n a (bk b a) = _
          unfold fG
          rw [HV.out, HY.out, HX1.out, HX0.out, HU.out]
        rw [e1]
        exact H8.out.app hg9 ho9)
      refine hK.out _ _ trivial ?_
      clear hK K ho9 hg9 H8 R8 HOl
      try simp only [Act.put, List.setIfInBounds_toArray, List.set_cons_zero, List.set_cons_succ]
      refine restS_take (i := 5) trivial rfl (by kernel_rfl) (by kernel_rfl) (by kernel_rfl) (by rfl) (fun w' hg => by go_simp; try with_reducible rfl) ?_
      try simp only [Act.put, List.setIfInBounds_toArray, List.set_cons_zero, List.set_cons_succ]
      refine restS_done (by kernel_rfl) ?_
      go_wp2_with (first
        | (refine wpList_load_br rfl (.tmp 4) rfl rfl H9.out.2.1 HUl.out ?_))
      refine (dbl_any U HUl.out _).mono ?_
      rintro e w10 ⟨rfl, hg10⟩
      have H10 := Lib.hid (H9.out.grow hg10)
      obtain ⟨U2, hU2⟩ : ∃ U2, U2 = dblT U := ⟨_, rfl⟩
      rw [← hU2]
      have HU2 := Lib.hid (show U2 = tw W2 n (a + 1) by rw [hU2, HU.out]; rfl)
      have HU2l := Lib.hid (show U2.length = 16 by rw [hU2]; exact dblT_len _)
      clear hg10 H9 hU2
      go_wp2_with (first
        | (refine wpList_store_br rfl (.tmp 4) (.tmp 34) rfl rfl rfl H10.out.2.1 HUl.out HU2l.out ?_))
      go_roundw
      case rel => exact ⟨a + 1, m + 16, rfl, by go_num, by omega, (by show m + 16 = 16 * (a + 1); have := Hm.out; omega), (by rw [← HU2.out]; exact H10.out.row U2)⟩
      case measure => simp [intOf]; omega
    · have bi : ¬ (a : Int) < (kb : Int) := by omega
      obtain ⟨hg0, _, ho0, _⟩ := H.out
      have HG := Lib.hid hg0
      have HO := Lib.hid ho0.rd
      have hak2 : a = kb := by omega
      have HMe := Lib.hid (show m = bl by rw [Hm.out, HKB.out, hak2])
      have HA := Lib.hid hak2
      clear hg0 ho0 H hak2
      go_wp2
      go_ret
      exact ⟨by rw [← HMe.out]; rfl, (by rw [← HA.out]; exact HO.out), HG.out⟩
end Go.Proofs.Ytbgbfofghhiolaa.S8
