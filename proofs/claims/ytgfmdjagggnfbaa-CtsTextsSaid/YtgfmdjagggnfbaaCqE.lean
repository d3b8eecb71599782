/-
  Contract of the program's encrypt (cts).
-/
import Derived.Test.YtgfmdjagggnfbaaCqL
import Derived.Test.YtgfmdjagggnfbaaCwC
namespace Go.Proofs.Ytgfmdjagggnfbaa.S9
open Go.RowKit
open Go.Proofs.Ytgfmdjagggnfbaa.S7 hiding intOf
open Go.Proofs.Ytgfmdjagggnfbaa.S8 (Br sz16 on16 wr64 xorL xorL_len z16 zip_mk rd_br mk0 own_mk0 wp_appR cut_all wp_store_br wp_load_br)
set_option linter.unusedVariables false
set_option linter.unusedSimpArgs false

/-- The cipher behind the interface is no nil pointer. -/
theorem na_any (name : String) (hn : name = "Encrypt" ∨ name = "Decrypt") (k G : Nat) (V : World) : (nilAhead (k + 1) 25 (.pointer (some ⟨G, 0, none⟩)) name).run Try.prog V = .ok (some false) V := by
  rcases hn with rfl | rfl
  · kernel_rfl
  · kernel_rfl
theorem mt_enc (k G : Nat) (V : World) : (method (k + 1) 25 (.pointer (some ⟨G, 0, none⟩)) "Encrypt").run Try.prog V = .ok (11, .pointer (some ⟨G, 0, none⟩)) V := by kernel_rfl
theorem mt_dec (k G : Nat) (V : World) : (method (k + 1) 25 (.pointer (some ⟨G, 0, none⟩)) "Decrypt").run Try.prog V = .ok (51, .pointer (some ⟨G, 0, none⟩)) V := by kernel_rfl
theorem own_off {w w' : World} {base g k : Nat} {c : Nat} {l : List UInt8} (h : Own w base (some ⟨g, 0, none⟩) c l) (hg : w.grownBy w' (some k)) (hne : g ≠ k) : Own w' base (some ⟨g, 0, none⟩) c l :=
  World.ownsRow.kept h hg (.inr (by simp [Value.ownBlock]; exact hne))
/-- Where encrypt stands: the result's row, the block ahead, the pieces. -/
def En (w wr : World) (T out : List UInt8) (M : Nat) (Ac : Option Addr) (cc : Nat) (ls : List (List UInt8)) : Prop :=
  Grown w wr ∧ Br wr (w.heap.size + 1) T ∧ Own wr w.heap.size (some ⟨w.heap.size, 0, none⟩) M out ∧ OwnL wr (w.heap.size + 2) Ac cc ls
section
variable {w wr w' : World} {T out : List UInt8} {M : Nat} {Ac : Option Addr} {cc : Nat} {ls : List (List UInt8)}
theorem En.grow (h : En w wr T out M Ac cc ls) (hg : Grown wr w') : En w w' T out M Ac cc ls := ⟨Grown.trans h.1 hg, h.2.1.grow hg, h.2.2.1.grow hg, h.2.2.2.grow hg⟩
theorem En.drew (h : En w wr T out M Ac cc ls) : En w wr.drew T out M Ac cc ls := ⟨h.1.drew, h.2.1, h.2.2.1, h.2.2.2⟩
theorem En.app {o2 : List UInt8} (h : En w wr T out M Ac cc ls) (hg : wr.grownBy w' (some w.heap.size)) (ho : Own w' w.heap.size (some ⟨w.heap.size, 0, none⟩) M o2) : En w w' T o2 M Ac cc ls :=
  ⟨Below.grown h.1 hg h.1.size (fun k hk => by simp at hk; omega), (hg.block _ h.2.1.lt (by simp)).trans h.2.1, ho, S8.OwnL.but h.2.2.2 hg (by omega)⟩
theorem En.row (h : En w wr T out M Ac cc ls) (U : List UInt8) : En w (wr.setRow (w.heap.size + 1) (bvs U).toArray) U out M Ac cc ls :=
  ⟨Below.setRow' h.1 (by omega) _, h.2.1.row U, own_off h.2.2.1 (S8.grown_row wr _ _) (by omega), S8.OwnL.but h.2.2.2 (S8.grown_row wr _ _) (by omega)⟩
end

set_option maxHeartbeats 4000000 in
set_option maxRecDepth 20000 in
theorem encrypt_any (G : Nat) (W : List UInt8) (B : Option Addr) (bl d : Nat) (b : List UInt8) (w : World) (hC : Ci w G W) (hb : b.length = bl) (hd : bl ≤ d) (hB : Rd w w.heap.size B b) (hlo : 16 ≤ bl) (hhi : bl ≤ 256) :
    Calls Try.prog 15 #[.iface 25 (.pointer (some ⟨G, 0, none⟩)), .slice B bl d] w fun e w' =>
      ∃ g c, e = .returned (.slice (some ⟨g, 0, none⟩) bl c) ∧ w.heap.size ≤ g ∧ bl ≤ c ∧ c ≤ maxLen ∧ Rd w' w'.heap.size (some ⟨g, 0, none⟩) (ctsE W b) ∧ Grown w w' := by
  have HC := Lib.hid hC
  have Hb := Lib.hid hb
  have HB := Lib.hid hB
  obtain ⟨M, hM⟩ : ∃ M, M = bl + 16 := ⟨_, rfl⟩
  obtain ⟨Z, hZ⟩ : ∃ Z, Z = (bvs (List.replicate M 0)).toArray := ⟨_, rfl⟩
  have hmk : ∀ V : World, (Instr.makeSlice 23 (.int .i64 0) (.int .i64 (M : Int))).run Try.prog V = .ok (.slice (some ⟨V.heap.size, 0, none⟩) 0 M) (V.alloc (.cells Z 5)) := fun V => by rw [hZ]; exact mk0 M (by omega) V
  have eM : (bl : Int) + 16 = (M : Int) := by omega
  have HM := Lib.hid hM
  have HZ := Lib.hid hZ
  obtain ⟨n, hn⟩ : ∃ n, n = nb b.length := ⟨_, rfl⟩
  have HN := Lib.hid hn
  have hn17 : n ≤ 17 := by rw [hn]; unfold nb; omega
  obtain ⟨ls, hls⟩ : ∃ ls, ls = cutL 16 b := ⟨_, rfl⟩
  have HLl := Lib.hid (show ls.length = n by rw [hls, cutL_len, hn])
  have HLs := Lib.hid hls
  clear hC hb hB hM hZ hn hls
  go_enter Try.func15, Try.ntmps15
  go_wp2_with fail
  rw [show #[Value.int .u8 0, Value.int .u8 0, Value.int .u8 0, Value.int .u8 0, Value.int .u8 0, Value.int .u8 0, Value.int .u8 0, Value.int .u8 0, Value.int .u8 0, Value.int .u8 0, Value.int .u8 0, Value.int .u8 0, Value.int .u8 0, Value.int .u8 0, Value.int .u8 0, Value.int .u8 0] = (bvs zs16).toArray from rfl]
  have G2 := Lib.hid (show Grown w ((w.alloc (.cells Z 5)).alloc (.cells (bvs zs16).toArray 37)) from two_grown w _ _)
  have T2 := Lib.hid (show Br ((w.alloc (.cells Z 5)).alloc (.cells (bvs zs16).toArray 37)) (w.heap.size + 1) zs16 from two_new w _ _)
  have O2 := Lib.hid (show Own ((w.alloc (.cells Z 5)).alloc (.cells (bvs zs16).toArray 37)) w.heap.size (some ⟨w.heap.size, 0, none⟩) M [] by
    rw [HZ.out]
    exact (own_mk0 w M (by have := HM.out; omega) w.heap.size (Nat.le_refl _)).grow (alloc_below _ _))
  have S2 := Lib.hid (show ((w.alloc (.cells Z 5)).alloc (.cells (bvs zs16).toArray 37)).heap.size = w.heap.size + 2 by simp)
  generalize (w.alloc _).alloc _ = w2 at G2 T2 O2 S2 ⊢
  have hcut := cut_some B bl d b 16 w2 Hb.out (HB.out.grow G2.out) hd (by omega) (by omega) (by omega)
  rw [show ((16 : Nat) : Int) = 16 from rfl, ← HLs.out] at hcut
  refine hcut.mono ?_
  clear hcut hmk HZ
  rintro e w3 ⟨Ac, cc, rfl, ho3, hb3⟩
  rw [HLl.out]
  have H0 := Lib.hid (show En w w3 (S9.cc W b 0) (jB (cE W b) 0) M Ac cc ls from
    ⟨Grown.trans G2.out hb3, T2.out.grow hb3, O2.out.grow hb3, by rw [← S2.out]; exact ho3⟩)
  clear ho3 hb3 G2 T2 O2 S2
  go_wp2
  go_loopw [5, 17] (fun v5 v17 wr => ∃ a m : Nat, v5 = .slice (some ⟨w.heap.size, 0, none⟩) m M ∧ v17 = .int .i64 (a : Int) ∧ a ≤ n ∧ Hid (m = 16 * a) ∧ Hid (En w wr (S9.cc W b a) (jB (cE W b) a) M Ac cc ls)) (fun _ v17 _ => n - (intOf v17).toNat)
  case atStart => exact ⟨0, 0, rfl, rfl, by omega, rfl, H0.out⟩
  case round =>
    clear H0
    obtain ⟨a, m, rfl, rfl, ha, Hm, H⟩ := hrel
    by_cases hak : a < n
    · have bi : (a : Int) < (n : Int) := by omega
      obtain ⟨U, hU⟩ : ∃ U, U = S9.cc W b a := ⟨_, rfl⟩
      obtain ⟨X0, hX0⟩ : ∃ X0, X0 = pc b a := ⟨_, rfl⟩
      obtain ⟨k, hk⟩ : ∃ k, k = X0.length := ⟨_, rfl⟩
      have HU := Lib.hid hU
      have HUl := Lib.hid (show U.length = 16 by rw [hU]; exact S9.cc_len _ _ _)
      have HK := Lib.hid hk
      have hk16 : k ≤ 16 := by rw [hk, hX0, pc_len]; omega
      have HP := Lib.hid (show fillL X0 16 = pb b a by rw [hX0]; exact fill_pc b a)
      rw [← hU] at H
      clear hU
      obtain ⟨bc, oc, A9, c9, hAc, hbc, hc9, hlc, hr9⟩ := RdL.at_ (S8.OwnL.rdL H.out.2.2.2) (k := a) (by rw [HLl.out]; exact hak)
      have hls : ls[a]'(by rw [HLl.out]; exact hak) = X0 := by
        have := cutL_get b a (by rw [← HLs.out, HLl.out]; exact hak)
        rw [hX0, ← this]
        simp only [HLs.out]
      rw [hls] at hc9 hlc hr9
      rw [← hk] at hc9 hlc
      have R9 := Lib.hid hr9
      subst hAc
      clear hr9 hls hX0 hk
      go_wp2_with fail
      refine (fill_any A9 k c9 X0 16 wr R9.out HK.out.symm (by omega) (by omega)).mono ?_
      rw [show (16 : Int).toNat = 16 from rfl, HP.out]
      rintro e w4 ⟨A4, c4, rfl, ho4, hb4⟩
      rw [pb_len]
      obtain ⟨X, hX⟩ : ∃ X, X = pb b a := ⟨_, rfl⟩
      rw [← hX] at ho4
      have HX := Lib.hid hX
      have HXl := Lib.hid (show X.length = 16 by rw [hX]; exact pb_len _ _)
      have R4 := Lib.hid ho4.rd
      have H4 := Lib.hid (H.out.grow hb4)
      clear hX ho4 hb4 H R9 hc9 hlc hk16
      have hsT : ∀ V : World, (Instr.sliceAt 37 (.pointer (some ⟨w.heap.size + 1, 0, none⟩)) none none none).run Try.prog V = .ok (.slice (some ⟨w.heap.size + 1, 0, none⟩) 16 16) V := fun V => cut_all V _
      have hmf : ∀ (fn : Fn) (first cap : Array Value) (V : World), (Instr.makeFunc fn first cap).run Try.prog V = .ok (.func fn first cap) V := fun _ _ _ _ => rfl
      have hmt : ∀ (k : Nat) (V : World), (method (k + 1) 25 (.pointer (some ⟨G, 0, none⟩)) "Encrypt").run Try.prog V = .ok (11, .pointer (some ⟨G, 0, none⟩)) V := fun k V => mt_enc k G V
      have hna : ∀ (k : Nat) (V : World), (nilAhead (k + 1) 25 (.pointer (some ⟨G, 0, none⟩)) "Encrypt").run Try.prog V = .ok (some false) V := fun k V => na_any _ (.inl rfl) k G V
      go_wp2_with fail
      try simp only [Act.put]
      refine restS_begin (fun _ => True) (by kernel_rfl) ?_
      have R5 := Lib.hid (show Rd w4.drew w4.drew.heap.size A4 X from R4.out)
      have H5 := Lib.hid H4.out.drew
      clear R4 H4
      generalize w4.drew = w5 at R5 H5 ⊢
      refine restS_take (i := 0) trivial rfl (by kernel_rfl) (by kernel_rfl) (by kernel_rfl) (by rfl) (fun w' hg => by go_simp; try with_reducible rfl) ?_
      try simp only [Act.put, List.setIfInBounds_toArray, List.set_cons_zero, List.set_cons_succ]
      refine restS_take (i := 1) trivial rfl (by kernel_rfl) (by kernel_rfl) (by kernel_rfl) (by rfl) (fun w' hg => by go_simp; try with_reducible rfl) ?_
      try simp only [Act.put, List.setIfInBounds_toArray, List.set_cons_zero, List.set_cons_succ]
      refine restS_take (i := 2) trivial rfl (by kernel_rfl) (by kernel_rfl) (by kernel_rfl) (by rfl) (fun w' hg => by go_simp; try with_reducible rfl) ?_
      try simp only [Act.put, List.setIfInBounds_toArray, List.set_cons_zero, List.set_cons_succ]
      refine restS_take (i := 6) trivial rfl (by kernel_rfl) (by kernel_rfl) (by kernel_rfl) (by rfl) (fun w' hg => by go_simp; try with_reducible rfl) ?_
      try simp only [Act.put, List.setIfInBounds_toArray, List.set_cons_zero, List.set_cons_succ]
      refine restS_take (i := 7) trivial rfl (by kernel_rfl) (by kernel_rfl) (by kernel_rfl) (by rfl) (fun w' hg => by go_simp; try with_reducible rfl) ?_
      try simp only [Act.put, List.setIfInBounds_toArray, List.set_cons_zero, List.set_cons_succ]
      refine restS_take (i := 8) trivial rfl (by kernel_rfl) (by kernel_rfl) (by kernel_rfl) (by rfl) (fun w' hg => by go_simp; try with_reducible rfl) ?_
      try simp only [Act.put, List.setIfInBounds_toArray, List.set_cons_zero, List.set_cons_succ]
      refine restS_lone (i := 3) rfl (by kernel_rfl) (by rfl) (fun K hK => ?_)
      go_simp
      refine (xor_any A4 16 c4 (some ⟨w.heap.size + 1, 0, none⟩) 16 16 X U w5 R5.out (rd_br H5.out.2.1 H5.out.2.1.lt) HXl.out HUl.out (by omega) (by omega)).mono ?_
      rw [zip_mk _ _ HXl.out HUl.out]
      rintro e w6 ⟨A6, c6, rfl, ho6, hb6⟩
      rw [S8.xorL_len]
      obtain ⟨V, hV⟩ : ∃ V, V = S8.xorL X U := ⟨_, rfl⟩
      rw [← hV] at ho6
      have HV := Lib.hid hV
      have HVl := Lib.hid (show V.length = 16 by rw [hV]; exact S8.xorL_len _ _)
      have hc6 : 16 ≤ c6 := by have := ho6.le; rw [HVl.out] at this; exact this
      obtain ⟨g6, hA6⟩ : ∃ g6, A6 = some ⟨g6, 0, none⟩ := by
        rcases ho6.form with ⟨_, e, _⟩ | ⟨g6, cur, e, _⟩
        · have := HVl.out; rw [e] at this; cases this
        · exact ⟨g6, e⟩
      subst hA6
      have hran : w6.rangeAt g6 0 (bvs V) := by
        rcases ho6.rd with e | ⟨b5, o5, e, hb5, hc5⟩
        · have := HVl.out; rw [e] at this; cases this
        · simp only [Option.some.injEq, Addr.mk.injEq] at e
          obtain ⟨rfl, rfl, _⟩ := e
          intro j v hv
          have hj : j < V.length := by have := (List.getElem?_eq_some_iff.1 hv).1; simpa [bvs] using this
          rw [hc5 j hj, ← hv]
          simp [bvs, hj]
      have Hran := Lib.hid hran
      have H6 := Lib.hid (H5.out.grow hb6)
      refine hK.out _ _ trivial ?_
      clear hK K hV ho6 hb6 H5 R5 hran hsT
      try simp only [Act.put, List.setIfInBounds_toArray, List.set_cons_zero, List.set_cons_succ]
      have hat : ∀ V : World, (Instr.arrayAt 37 (.slice (some ⟨g6, 0, none⟩) 16 c6)).run Try.prog V = .ok (.pointer (some ⟨g6, 0, none⟩)) V := fun V => run_arrayAt V _ _ 16 _ _ _ u16B (by omega)
      refine restS_take (i := 4) trivial rfl (by kernel_rfl) (by kernel_rfl) (by kernel_rfl) (by rfl) (fun w' hg => by go_simp; try with_reducible rfl) ?_
      try simp only [Act.put, List.setIfInBounds_toArray, List.set_cons_zero, List.set_cons_succ]
      obtain ⟨E6, hE6⟩ : ∃ E6, E6 = bvs V := ⟨_, rfl⟩
      rw [← hE6] at Hran
      have Hi6 : (Try.prog.info? 37).map (·.size) = some E6.length := by rw [hE6, bvs_length, HVl.out]; exact i16B
      refine restS_lone (i := 5) rfl (by kernel_rfl) (by rfl) (fun K hK => ?_)
      refine wp_load_mid 37 (.tmp 27) rfl g6 0 rfl E6 _ Hran.out u16B rfl Hi6 (hK.out _ _ trivial ?_)
      clear hK K hat
      try simp only [Act.put, List.setIfInBounds_toArray, List.set_cons_zero, List.set_cons_succ]
      rw [hE6]
      clear hE6 Hi6 Hran
      refine restS_lone (i := 9) rfl (by kernel_rfl) (by rfl) (fun K hK => ?_)
      go_simp
      refine (enc_any G W V HVl.out w6 (HC.out.grow H6.out.1)).mono ?_
      rintro e w7 ⟨rfl, hg7⟩
      have H7 := Lib.hid (H6.out.grow hg7)
      obtain ⟨Y, hY⟩ : ∃ Y, Y = encL W V := ⟨_, rfl⟩
      rw [← hY]
      have HY := Lib.hid (show Y = cE W b a by rw [hY, HV.out, HX.out, HU.out]; rfl)
      have HYl := Lib.hid (show Y.length = 16 by rw [hY]; exact encL_len _ _)
      refine hK.out _ _ trivial ?_
      clear hK K hY hg7 H6 hna hmt hmf
      try simp only [Act.put, List.setIfInBounds_toArray, List.set_cons_zero, List.set_cons_succ]
      refine restS_lone (i := 10) rfl (by kernel_rfl) (by rfl) (fun K hK => ?_)
      refine wp_store_br (.tmp 6) (.tmp 32) rfl rfl rfl H7.out.2.1 HUl.out HYl.out (hK.out _ _ trivial ?_)
      clear hK K
      try simp only [Act.put, List.setIfInBounds_toArray, List.set_cons_zero, List.set_cons_succ]
      refine restS_done (by kernel_rfl) ?_
      have H8 := Lib.hid (H7.out.row Y)
      clear H7
      generalize w7.setRow _ _ = w8 at H8 ⊢
      have HOl := Lib.hid (show (jB (cE W b) a).length = m by rw [jB_len _ (cE_len W b)]; exact Hm.out.symm)
      obtain ⟨m2, hm2⟩ : ∃ m2, m2 = m + 16 := ⟨_, rfl⟩
      have hnL : 16 * n ≤ M := by have h1 := HN.out; have h2 := Hb.out; have h3 := HM.out; unfold nb at h1; omega
      have hm2b : m2 ≤ M := by have := Hm.out; omega
      have HM2 := Lib.hid hm2
      have hsT : ∀ V : World, (Instr.sliceAt 37 (.pointer (some ⟨w.heap.size + 1, 0, none⟩)) none none none).run Try.prog V = .ok (.slice (some ⟨w.heap.size + 1, 0, none⟩) 16 16) V := fun V => cut_all V _
      clear hm2 hnL
      go_wp2_with (first
        | (at_builtin
           refine wpList_plain rfl fun K hK => wp_appR (.tmp 33) (.tmp 34) rfl HOl.out rfl H8.out.2.2.1 HYl.out rfl (rd_br H8.out.2.1 H8.out.2.1.lt) HM2.out hm2b (by have := HM.out; omega) ?_
           intro w9 ho9 hg9
           have H9 := Lib.hid (show En w w9 (S9.cc W b (a + 1)) (jB (cE W b) (a + 1)) M (some ⟨bc, oc, none⟩) cc ls by
             have e1 : jB (cE W b) (a + 1) = jB (cE W b) a ++ Y := by rw [HY.out]; rfl
             have e2 : S9.cc W b (a + 1) = Y := HY.out.symm
             rw [e1, e2]
             exact H8.out.app hg9 ho9)
           refine hK _ _ ?_
           clear hK ho9 hg9 H8 HOl))
      go_roundw
      case rel => exact ⟨a + 1, m2, rfl, by go_num, by omega, (by show m2 = 16 * (a + 1); have := Hm.out; have := HM2.out; omega), H9.out⟩
      case measure => simp [intOf]; omega
    · have bi : ¬ (a : Int) < (n : Int) := by omega
      have han : a = n := by omega
      have HOl := Lib.hid (show (jB (cE W b) n).length = m by rw [jB_len _ (cE_len W b), ← han]; exact Hm.out.symm)
      have H9 := Lib.hid (show En w wr (S9.cc W b n) (jB (cE W b) n) M Ac cc ls by rw [← han]; exact H.out)
      clear H
      have hML : m ≤ M := by have h1 := HN.out; have h2 := Hb.out; have h3 := HM.out; have := Hm.out; unfold nb at h1; omega
      have hbm : bl ≤ m := by have h1 := HN.out; have h2 := Hb.out; have := Hm.out; unfold nb at h1; omega
      have hlm : (bl : Int) ≤ (M : Int) := by omega
      go_wp2_with fail
      have fin : ∀ (w8 : World) (l8 : List UInt8), Own w8 w.heap.size (some ⟨w.heap.size, 0, none⟩) M l8 → l8.take bl = ctsE W b → Grown w w8 → ∃ g c, (Ending.returned (.slice (some ⟨w.heap.size, 0, none⟩) bl bl)) = .returned (.slice (some ⟨g, 0, none⟩) bl c) ∧ w.heap.size ≤ g ∧ bl ≤ c ∧ c ≤ maxLen ∧ Rd w8 w8.heap.size (some ⟨g, 0, none⟩) (ctsE W b) ∧ Grown w w8 := fun w8 l8 ho ht hg =>
        ⟨_, _, rfl, Nat.le_refl _, Nat.le_refl _, by unfold maxLen; omega, by rw [← ht]; exact ho.rd.take bl, hg⟩
      have FIN := Lib.hid fin
      by_cases h1 : n = 1
      · refine (exch_no (some ⟨w.heap.size, 0, none⟩) M m wr (by have := Hm.out; omega)).mono ?_
        rintro e w8 ⟨rfl, rfl⟩
        have F := Lib.hid (FIN.out w8 _ H9.out.2.2.1 (by rw [h1, ← Hb.out]; exact ctsE_lone W b (by rw [← HN.out, h1])) H9.out.1)
        clear FIN fin H9 HOl h1 han bi
        go_wp2
        go_ret
        exact F.out
      · obtain ⟨p, hp⟩ : ∃ p, n = p + 2 := ⟨n - 2, by have h1 := HN.out; have h2 := Hb.out; unfold nb at h1; omega⟩
        refine (exch_any w.heap.size M m (16 * p) w.heap.size (jB (cE W b) n) wr HOl.out (by have := Hm.out; omega) (by have := HM.out; omega) H9.out.2.2.1).mono ?_
        rintro e w8 ⟨rfl, ho8, hg8⟩
        have F := Lib.hid (FIN.out w8 _ ho8 (by rw [hp, ← Hb.out]; exact ctsE_swap W b p (by rw [← HN.out, hp])) (Below.grown H9.out.1 hg8 H9.out.1.size (fun k hk => by simp at hk; omega)))
        clear FIN fin H9 HOl h1 han bi hp ho8 hg8
        go_wp2
        go_ret
        exact F.out
end Go.Proofs.Ytgfmdjagggnfbaa.S9
