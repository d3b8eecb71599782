/-
  Contracts of the program's Encrypt and Decrypt.
-/
import Derived.Test.YtgfmdjagggnfbaaPdE
import Derived.Test.YtgfmdjagggnfbaaPdF
namespace Go.Proofs.Ytgfmdjagggnfbaa.S7
open Go.RowKit
set_option linter.unusedVariables false
set_option linter.unusedSimpArgs false

theorem repS_len (T x : List UInt8) : (repS T x).length = 16 := mk_len _
theorem rotS_len (x : List UInt8) : (rotS x).length = 16 := mk_len _
theorem rotbS_len (x : List UInt8) : (rotbS x).length = 16 := mk_len _
theorem sub_eq (x : List UInt8) : rotS (repS SB x) = subS x := mk_congr fun i hi => by unfold repS; rw [gt_mk _ _ (shf_lt i)]; rfl
theorem unsub_eq (x : List UInt8) : repS SI (rotbS x) = unsubS x := mk_congr fun i hi => by unfold rotbS; rw [gt_mk _ _ hi]; rfl
/-- A cipher: its words, S and the inverse of S. -/
def Ci (w : World) (G : Nat) (W : List UInt8) : Prop := Cw w G W ∧ Tb w G 240 SB ∧ Tb w G 496 SI
theorem Tb.grow {w w' : World} {G O : Nat} {T : List UInt8} (h : Tb w G O T) (hG : G < w.heap.size) (hg : Grown w w') : Tb w' G O T := fun j hj => (hg.cell (p := ⟨G, O + j, none⟩) hG).trans (h j hj)
theorem Ci.grow {w w' : World} {G : Nat} {W : List UInt8} (h : Ci w G W) (hg : Grown w w') : Ci w' G W := ⟨h.1.grow hg, h.2.1.grow h.1.1 hg, h.2.2.grow h.1.1 hg⟩
theorem Ci.in_ {w wr : World} {G : Nat} {W L : List UInt8} (h : Ci w G W) (hf : Fr w wr L) : Ci wr G W :=
  ⟨⟨Nat.lt_of_lt_of_le h.1.1 hf.1.size, fun j hj => (hf.1.cell (p := ⟨G, j, none⟩) h.1.1).trans (h.1.2 j hj)⟩, fun j hj => (hf.1.cell (p := ⟨G, 240 + j, none⟩) h.1.1).trans (h.2.1 j hj), fun j hj => (hf.1.cell (p := ⟨G, 496 + j, none⟩) h.1.1).trans (h.2.2 j hj)⟩
section
variable {W w : World} {op : Oper} {a : Act} {K : Act → World → Prop} {Q : Exit → Act → World → Prop}
theorem wp_load_fr (x : Operand) (ho : op.op = .load 37 x) (hx : a.eval x = .pointer (some ⟨w.heap.size, 0, none⟩)) {L : List UInt8} (h : Fr w W L) (hL : L.length = 16) (hk : K (a.put op.dst (.agg (bvs L).toArray)) W) : op.wp Try.prog a W K Q := by
  have hl := run_loadVar_row (P := Try.prog) W w.heap.size 37 37 _ _ _ h.2.1 u16B (by simp) (size16 hL)
  unfold Oper.wp execOp
  simp only [ho, hx, Instr.loadAt, Instr.sureAddr, Sem.run_bind, Sem.run_pure, Result.andThen_ok, hl]
  exact hk
theorem wp_store_fr (x y : Operand) (ho : op.op = .store 37 x y) (hx : a.eval x = .pointer (some ⟨w.heap.size, 0, none⟩)) {L M : List UInt8} (hy : a.eval y = .agg (bvs M).toArray) (h : Fr w W L) (hL : L.length = 16) (hM : M.length = 16) (hk : ∀ W', Fr w W' M → K (a.put op.dst undef) W') : op.wp Try.prog a W K Q := by
  have hr := run_storeVar_row (P := Try.prog) W w.heap.size 37 37 _ _ h.2.1 (size16 hM) (by simp [bvs, hL, hM]) (one16 M)
  unfold Oper.wp execOp
  simp only [ho, hx, hy, Instr.storeAt, Instr.sureAddr, Sem.run_bind, Sem.run_pure, Result.andThen_ok, hr]
  exact hk _ (h.row M)
end

set_option maxHeartbeats 4000000 in
set_option maxRecDepth 20000 in
theorem enc_any (G : Nat) (W b : List UInt8) (hb : b.length = 16) (w : World) (hC : Ci w G W) :
    Calls Try.prog 11 #[.pointer (some ⟨G, 0, none⟩), .agg (bvs b).toArray] w fun e w' => e = .returned (.agg (bvs (encL W b)).toArray) ∧ Grown w w' := by
  have Hb := Lib.hid hb
  have HC := Lib.hid hC
  have H0 := Lib.hid (Fr.start w b rfl (Z := (bvs zs16).toArray) rfl)
  rw [show (bvs zs16).toArray = #[Value.int .u8 0, Value.int .u8 0, Value.int .u8 0, Value.int .u8 0, Value.int .u8 0, Value.int .u8 0, Value.int .u8 0, Value.int .u8 0, Value.int .u8 0, Value.int .u8 0, Value.int .u8 0, Value.int .u8 0, Value.int .u8 0, Value.int .u8 0, Value.int .u8 0, Value.int .u8 0] from rfl] at H0
  clear hb hC
  go_enter Try.func11, Try.ntmps11
  go_wp2_with (first
    | (refine wpList_load_fr rfl (.tmp 3) rfl rfl H0.out Hb.out ?_))
  generalize (w.alloc _).alloc _ = w3 at H0 ⊢
  refine (addKey_any G W b Hb.out 0 (by omega) _ (HC.out.in_ H0.out).1).mono ?_
  rintro e w4 ⟨rfl, hg⟩
  have H1 := Lib.hid (H0.out.grow hg)
  clear hg H0
  go_wp2_with (first
    | (refine wpList_store_fr rfl (.tmp 3) (.tmp 8) rfl rfl rfl H1.out Hb.out (addK_len W 0 b) ?_
       intro w5 h5
       have H2 := Lib.hid (show Fr w w5 (encS W b 0) from h5)
       clear h5))
  clear H1
  go_loopw [5] (fun v5 wr => ∃ n r : Nat, v5 = .int .i64 (r : Int) ∧ 1 ≤ r ∧ r ≤ 14 ∧ Hid (r = n + 1) ∧ Hid (Fr w wr (encS W b n))) (fun v5 _ => 14 - (intOf v5).toNat)
  case atStart => exact ⟨0, 1, rfl, by omega, by omega, rfl, H2.out⟩
  case round =>
    clear H2
    obtain ⟨n, r, rfl, hr1, hr, Hr, H⟩ := hrel
    obtain ⟨X, hX⟩ : ∃ X, X = encS W b n := ⟨_, rfl⟩
    rw [← hX] at H
    have HXl := Lib.hid (show X.length = 16 by rw [hX]; exact encS_len _ _ _)
    have HXe := Lib.hid hX
    clear hX
    by_cases hlt : r < 14
    · go_wp2_with fail
      try simp only [Act.put]
      refine restS_begin (fun _ => True) (by kernel_rfl) ?_
      have D1 := Lib.hid H.out.drew
      clear H
      generalize World.drew _ = d1 at D1 ⊢
      refine restS_take (i := 1) trivial rfl (by kernel_rfl) (by kernel_rfl) (by kernel_rfl) (by rfl) (fun w' hg => by go_simp; try with_reducible rfl) ?_
      try simp only [Act.put, List.setIfInBounds_toArray, List.set_cons_zero, List.set_cons_succ]
      refine restS_take (i := 2) trivial rfl (by kernel_rfl) (by kernel_rfl) (by kernel_rfl) (by rfl) (fun w' hg => by go_simp; try with_reducible rfl) ?_
      try simp only [Act.put, List.setIfInBounds_toArray, List.set_cons_zero, List.set_cons_succ]
      refine restS_take (i := 3) trivial rfl (by kernel_rfl) (by kernel_rfl) (by kernel_rfl) (by rfl) (fun w' hg => by go_simp; try with_reducible rfl) ?_
      try simp only [Act.put, List.setIfInBounds_toArray, List.set_cons_zero, List.set_cons_succ]
      refine restS_lone (i := 0) rfl (by kernel_rfl) (by rfl) (fun K hK => ?_)
      refine wp_load_fr (.tmp 3) rfl rfl D1.out HXl.out (hK.out _ _ trivial ?_)
      clear hK K
      try simp only [Act.put, List.setIfInBounds_toArray, List.set_cons_zero, List.set_cons_succ]
      refine restS_lone (i := 4) rfl (by kernel_rfl) (by rfl) (fun K hK => ?_)
      go_simp
      refine (replace_any SB X HXl.out G 240 _ (HC.out.in_ D1.out).1.1 (HC.out.in_ D1.out).2.1).mono ?_
      rintro e e1 ⟨rfl, hg⟩
      have E1 := Lib.hid (D1.out.grow hg)
      clear hg D1
      refine hK.out _ _ trivial ?_
      clear hK K
      try simp only [Act.put, List.setIfInBounds_toArray, List.set_cons_zero, List.set_cons_succ]
      refine restS_lone (i := 5) rfl (by kernel_rfl) (by rfl) (fun K hK => ?_)
      go_simp
      refine (rows_any (repS SB X) (repS_len _ _) _).mono ?_
      rintro e f1 ⟨rfl, hg⟩
      have F1 := Lib.hid (E1.out.grow hg)
      clear hg E1
      refine hK.out _ _ trivial ?_
      clear hK K
      try simp only [Act.put, List.setIfInBounds_toArray, List.set_cons_zero, List.set_cons_succ]
      refine restS_lone (i := 6) rfl (by kernel_rfl) (by rfl) (fun K hK => ?_)
      refine wp_store_fr (.tmp 3) (.tmp 18) rfl rfl rfl F1.out HXl.out (rotS_len _) ?_
      intro g1 h9
      rw [sub_eq] at h9
      have H3 := Lib.hid h9
      clear h9 F1
      refine hK.out _ _ trivial ?_
      clear hK K
      try simp only [Act.put, List.setIfInBounds_toArray, List.set_cons_zero, List.set_cons_succ]
      refine restS_done (by kernel_rfl) ?_
      have HE := Lib.hid (show encS W b (n + 1) = addK W r (mixS (subS X)) by
        show rndE W (n + 1) (encS W b n) = _
        unfold rndE
        rw [← Hr.out, if_pos hlt, ← HXe.out])
      obtain ⟨Y, hY⟩ : ∃ Y, Y = subS X := ⟨_, rfl⟩
      rw [← hY] at H3 HE
      have HYl := Lib.hid (show Y.length = 16 by rw [hY]; exact subS_len X)
      clear hY
      go_wp2_with (first
        | (refine wpList_load_fr rfl (.tmp 3) rfl rfl H3.out HYl.out ?_))
      refine (mix_any Y HYl.out _).mono ?_
      rintro e w7 ⟨rfl, hg⟩
      have H4 := Lib.hid (H3.out.grow hg)
      clear hg H3
      go_wp2_with fail
      refine (addKey_any G W (mixS Y) (mixS_len Y) r (by omega) _ (HC.out.in_ H4.out).1).mono ?_
      rintro e w8 ⟨rfl, hg⟩
      have H5 := Lib.hid (H4.out.grow hg)
      clear hg H4
      go_wp2_with (first
        | (refine wpList_store_fr rfl (.tmp 3) (.tmp 23) rfl rfl rfl H5.out HYl.out (addK_len W r _) ?_
           intro w9 h9
           rw [← HE.out] at h9
           have H6 := Lib.hid h9
           clear h9))
      go_roundw
      case rel => exact ⟨n + 1, r + 1, by go_num, by omega, by omega, (by show r + 1 = n + 1 + 1; rw [Hr.out]), H6.out⟩
      case measure => simp [intOf]; omega
    · have hr14 : r = 14 := by omega
      have HE := Lib.hid (show encL W b = addK W 14 (subS X) by
        show rndE W (13 + 1) (encS W b 13) = _
        unfold rndE
        rw [if_neg (by omega), HXe.out, show n = 13 by have := Hr.out; omega])
      have bt : ¬ (r : Int) < 14 := by omega
      clear hr14
      go_wp2_with fail
      try simp only [Act.put]
      refine restS_begin (fun _ => True) (by kernel_rfl) ?_
      have D2 := Lib.hid H.out.drew
      clear H
      generalize World.drew _ = d2 at D2 ⊢
      refine restS_take (i := 1) trivial rfl (by kernel_rfl) (by kernel_rfl) (by kernel_rfl) (by rfl) (fun w' hg => by go_simp; try with_reducible rfl) ?_
      try simp only [Act.put, List.setIfInBounds_toArray, List.set_cons_zero, List.set_cons_succ]
      refine restS_take (i := 2) trivial rfl (by kernel_rfl) (by kernel_rfl) (by kernel_rfl) (by rfl) (fun w' hg => by go_simp; try with_reducible rfl) ?_
      try simp only [Act.put, List.setIfInBounds_toArray, List.set_cons_zero, List.set_cons_succ]
      refine restS_take (i := 3) trivial rfl (by kernel_rfl) (by kernel_rfl) (by kernel_rfl) (by rfl) (fun w' hg => by go_simp; try with_reducible rfl) ?_
      try simp only [Act.put, List.setIfInBounds_toArray, List.set_cons_zero, List.set_cons_succ]
      refine restS_lone (i := 0) rfl (by kernel_rfl) (by rfl) (fun K hK => ?_)
      refine wp_load_fr (.tmp 3) rfl rfl D2.out HXl.out (hK.out _ _ trivial ?_)
      clear hK K
      try simp only [Act.put, List.setIfInBounds_toArray, List.set_cons_zero, List.set_cons_succ]
      refine restS_lone (i := 4) rfl (by kernel_rfl) (by rfl) (fun K hK => ?_)
      go_simp
      refine (replace_any SB X HXl.out G 240 _ (HC.out.in_ D2.out).1.1 (HC.out.in_ D2.out).2.1).mono ?_
      rintro e e2 ⟨rfl, hg⟩
      have E2 := Lib.hid (D2.out.grow hg)
      clear hg D2
      refine hK.out _ _ trivial ?_
      clear hK K
      try simp only [Act.put, List.setIfInBounds_toArray, List.set_cons_zero, List.set_cons_succ]
      refine restS_lone (i := 5) rfl (by kernel_rfl) (by rfl) (fun K hK => ?_)
      go_simp
      refine (rows_any (repS SB X) (repS_len _ _) _).mono ?_
      rintro e f2 ⟨rfl, hg⟩
      have F2 := Lib.hid (E2.out.grow hg)
      clear hg E2
      refine hK.out _ _ trivial ?_
      clear hK K
      try simp only [Act.put, List.setIfInBounds_toArray, List.set_cons_zero, List.set_cons_succ]
      refine restS_lone (i := 6) rfl (by kernel_rfl) (by rfl) (fun K hK => ?_)
      refine wp_store_fr (.tmp 3) (.tmp 29) rfl rfl rfl F2.out HXl.out (rotS_len _) ?_
      intro g2 h9
      rw [sub_eq] at h9
      have H3 := Lib.hid h9
      clear h9 F2
      refine hK.out _ _ trivial ?_
      clear hK K
      try simp only [Act.put, List.setIfInBounds_toArray, List.set_cons_zero, List.set_cons_succ]
      refine restS_done (by kernel_rfl) ?_
      obtain ⟨Y, hY⟩ : ∃ Y, Y = subS X := ⟨_, rfl⟩
      rw [← hY] at H3 HE
      have HYl := Lib.hid (show Y.length = 16 by rw [hY]; exact subS_len X)
      clear hY
      go_wp2_with (first
        | (refine wpList_load_fr rfl (.tmp 3) rfl rfl H3.out HYl.out ?_))
      refine (addKey_any G W Y HYl.out 14 (by omega) _ (HC.out.in_ H3.out).1).mono ?_
      rintro e w7 ⟨rfl, hg⟩
      have H4 := Lib.hid (H3.out.grow hg)
      clear hg H3
      go_wp2_with (first
        | (refine wpList_store_res rfl (.tmp 4) (.tmp 32) rfl rfl rfl H4.out (addK_len W 14 Y) ?_
           intro w9 h9
           have H9 := Lib.hid h9
           clear h9))
      exact ret_fr rfl rfl H9.out (addK_len W 14 Y) ⟨by rw [HE.out], H9.out.1⟩

set_option maxHeartbeats 4000000 in
set_option maxRecDepth 20000 in
theorem dec_any (G : Nat) (W b : List UInt8) (hb : b.length = 16) (w : World) (hC : Ci w G W) :
    Calls Try.prog 51 #[.pointer (some ⟨G, 0, none⟩), .agg (bvs b).toArray] w fun e w' => e = .returned (.agg (bvs (decL W b)).toArray) ∧ Grown w w' := by
  have Hb := Lib.hid hb
  have HC := Lib.hid hC
  have H0 := Lib.hid (Fr.start w b rfl (Z := (bvs zs16).toArray) rfl)
  rw [show (bvs zs16).toArray = #[Value.int .u8 0, Value.int .u8 0, Value.int .u8 0, Value.int .u8 0, Value.int .u8 0, Value.int .u8 0, Value.int .u8 0, Value.int .u8 0, Value.int .u8 0, Value.int .u8 0, Value.int .u8 0, Value.int .u8 0, Value.int .u8 0, Value.int .u8 0, Value.int .u8 0, Value.int .u8 0] from rfl] at H0
  clear hb hC
  go_enter Try.func51, Try.ntmps51
  go_wp2_with (first
    | (refine wpList_load_fr rfl (.tmp 3) rfl rfl H0.out Hb.out ?_))
  generalize (w.alloc _).alloc _ = w3 at H0 ⊢
  refine (addKey_any G W b Hb.out 14 (by omega) _ (HC.out.in_ H0.out).1).mono ?_
  rintro e w4 ⟨rfl, hg⟩
  have H1 := Lib.hid (H0.out.grow hg)
  clear hg H0
  go_wp2_with (first
    | (refine wpList_store_fr rfl (.tmp 3) (.tmp 8) rfl rfl rfl H1.out Hb.out (addK_len W 14 b) ?_
       intro w5 h5
       have H2 := Lib.hid h5
       clear h5))
  clear H1
  obtain ⟨X, hX⟩ : ∃ X, X = addK W 14 b := ⟨_, rfl⟩
  rw [← hX] at H2
  have HXl := Lib.hid (show X.length = 16 by rw [hX]; exact addK_len _ _ _)
  have HXe := Lib.hid hX
  clear hX
  try simp only [Act.put]
  refine restS_begin (fun _ => True) (by kernel_rfl) ?_
  have D1 := Lib.hid H2.out.drew
  clear H2
  generalize World.drew _ = d1 at D1 ⊢
  refine restS_take (i := 2) trivial rfl (by kernel_rfl) (by kernel_rfl) (by kernel_rfl) (by rfl) (fun w' hg => by go_simp; try with_reducible rfl) ?_
  try simp only [Act.put, List.setIfInBounds_toArray, List.set_cons_zero, List.set_cons_succ]
  refine restS_take (i := 3) trivial rfl (by kernel_rfl) (by kernel_rfl) (by kernel_rfl) (by rfl) (fun w' hg => by go_simp; try with_reducible rfl) ?_
  try simp only [Act.put, List.setIfInBounds_toArray, List.set_cons_zero, List.set_cons_succ]
  refine restS_take (i := 4) trivial rfl (by kernel_rfl) (by kernel_rfl) (by kernel_rfl) (by rfl) (fun w' hg => by go_simp; try with_reducible rfl) ?_
  try simp only [Act.put, List.setIfInBounds_toArray, List.set_cons_zero, List.set_cons_succ]
  refine restS_lone (i := 0) rfl (by kernel_rfl) (by rfl) (fun K hK => ?_)
  refine wp_load_fr (.tmp 3) rfl rfl D1.out HXl.out (hK.out _ _ trivial ?_)
  clear hK K
  try simp only [Act.put, List.setIfInBounds_toArray, List.set_cons_zero, List.set_cons_succ]
  refine restS_lone (i := 1) rfl (by kernel_rfl) (by rfl) (fun K hK => ?_)
  go_simp
  refine (rowsBack_any X HXl.out _).mono ?_
  rintro e e1 ⟨rfl, hg⟩
  have E1 := Lib.hid (D1.out.grow hg)
  clear hg D1
  refine hK.out _ _ trivial ?_
  clear hK K
  try simp only [Act.put, List.setIfInBounds_toArray, List.set_cons_zero, List.set_cons_succ]
  refine restS_lone (i := 5) rfl (by kernel_rfl) (by rfl) (fun K hK => ?_)
  go_simp
  refine (replace_any SI (rotbS X) (rotbS_len _) G 496 _ (HC.out.in_ E1.out).1.1 (HC.out.in_ E1.out).2.2).mono ?_
  rintro e f1 ⟨rfl, hg⟩
  have F1 := Lib.hid (E1.out.grow hg)
  clear hg E1
  refine hK.out _ _ trivial ?_
  clear hK K
  try simp only [Act.put, List.setIfInBounds_toArray, List.set_cons_zero, List.set_cons_succ]
  refine restS_lone (i := 6) rfl (by kernel_rfl) (by rfl) (fun K hK => ?_)
  refine wp_store_fr (.tmp 3) (.tmp 14) rfl rfl rfl F1.out HXl.out (repS_len _ _) ?_
  intro g1 h9
  rw [unsub_eq] at h9
  have H3 := Lib.hid h9
  clear h9 F1
  refine hK.out _ _ trivial ?_
  clear hK K
  try simp only [Act.put, List.setIfInBounds_toArray, List.set_cons_zero, List.set_cons_succ]
  refine restS_done (by kernel_rfl) ?_
  have HE := Lib.hid (show decL W b = decS W 13 (unsubS X) by rw [HXe.out]; rfl)
  obtain ⟨Y, hY⟩ : ∃ Y, Y = unsubS X := ⟨_, rfl⟩
  rw [← hY] at H3 HE
  have HYl := Lib.hid (show Y.length = 16 by rw [hY]; exact unsubS_len X)
  clear hY HXe HXl
  go_wp2
  go_loopw [5] (fun v5 wr => ∃ (r : Nat) (Y : List UInt8), v5 = .int .i64 (r : Int) ∧ r ≤ 13 ∧ Hid (decL W b = decS W r Y) ∧ Hid (Y.length = 16) ∧ Hid (Fr w wr Y)) (fun v5 _ => (intOf v5).toNat)
  case atStart => exact ⟨13, Y, rfl, by omega, HE.out, HYl.out, H3.out⟩
  case round =>
    clear H3 HE HYl
    obtain ⟨r, Y, rfl, hr, HE, HYl, H⟩ := hrel
    by_cases hlt : 0 < r
    · obtain ⟨q, hq⟩ : ∃ q, r = q + 1 := ⟨r - 1, by omega⟩
      have hsub : (r : Int) - 1 = (q : Int) := by omega
      have HE2 := Lib.hid (show decL W b = decS W q (unsubS (unmixS (addK W r Y))) by
        rw [HE.out, hq]
        show decS W q (rndD W (q + 1) Y) = _
        unfold rndD
        rw [if_pos (by omega)])
      have hql : q ≤ 13 := by omega
      have HQ := Lib.hid hq
      have b0 : (0 : Int) < (r : Int) := by omega
      have wsub : IntKind.i64.wrap (q : Int) = (q : Int) := wrap_i64 q (by omega)
      clear hq HE
      go_wp2_with (first
        | (refine wpList_load_fr rfl (.tmp 3) rfl rfl H.out HYl.out ?_))
      refine (addKey_any G W Y HYl.out r (by omega) _ (HC.out.in_ H.out).1).mono ?_
      rintro e w7 ⟨rfl, hg⟩
      have H4 := Lib.hid (H.out.grow hg)
      clear hg H
      go_wp2_with fail
      refine (mixBack_any (addK W r Y) (addK_len W r Y) _).mono ?_
      rintro e w8 ⟨rfl, hg⟩
      have H5 := Lib.hid (H4.out.grow hg)
      clear hg H4
      obtain ⟨Z, hZ⟩ : ∃ Z, Z = unmixS (addK W r Y) := ⟨_, rfl⟩
      rw [← hZ] at HE2 ⊢
      have HZl := Lib.hid (show Z.length = 16 by rw [hZ]; exact unmixS_len _)
      clear hZ
      go_wp2_with (first
        | (refine wpList_store_fr rfl (.tmp 3) (.tmp 23) rfl rfl rfl H5.out HYl.out HZl.out ?_
           intro w9 h9
           have H6 := Lib.hid h9
           clear h9))
      clear H5
      try simp only [Act.put]
      refine restS_begin (fun _ => True) (by kernel_rfl) ?_
      have D2 := Lib.hid H6.out.drew
      clear H6
      generalize World.drew _ = d2 at D2 ⊢
      refine restS_take (i := 2) trivial rfl (by kernel_rfl) (by kernel_rfl) (by kernel_rfl) (by rfl) (fun w' hg => by go_simp; try with_reducible rfl) ?_
      try simp only [Act.put, List.setIfInBounds_toArray, List.set_cons_zero, List.set_cons_succ]
      refine restS_take (i := 3) trivial rfl (by kernel_rfl) (by kernel_rfl) (by kernel_rfl) (by rfl) (fun w' hg => by go_simp; try with_reducible rfl) ?_
      try simp only [Act.put, List.setIfInBounds_toArray, List.set_cons_zero, List.set_cons_succ]
      refine restS_take (i := 4) trivial rfl (by kernel_rfl) (by kernel_rfl) (by kernel_rfl) (by rfl) (fun w' hg => by go_simp; try with_reducible rfl) ?_
      try simp only [Act.put, List.setIfInBounds_toArray, List.set_cons_zero, List.set_cons_succ]
      refine restS_lone (i := 0) rfl (by kernel_rfl) (by rfl) (fun K hK => ?_)
      refine wp_load_fr (.tmp 3) rfl rfl D2.out HZl.out (hK.out _ _ trivial ?_)
      clear hK K
      try simp only [Act.put, List.setIfInBounds_toArray, List.set_cons_zero, List.set_cons_succ]
      refine restS_lone (i := 1) rfl (by kernel_rfl) (by rfl) (fun K hK => ?_)
      go_simp
      refine (rowsBack_any Z HZl.out _).mono ?_
      rintro e e2 ⟨rfl, hg⟩
      have E2 := Lib.hid (D2.out.grow hg)
      clear hg D2
      refine hK.out _ _ trivial ?_
      clear hK K
      try simp only [Act.put, List.setIfInBounds_toArray, List.set_cons_zero, List.set_cons_succ]
      refine restS_lone (i := 5) rfl (by kernel_rfl) (by rfl) (fun K hK => ?_)
      go_simp
      refine (replace_any SI (rotbS Z) (rotbS_len _) G 496 _ (HC.out.in_ E2.out).1.1 (HC.out.in_ E2.out).2.2).mono ?_
      rintro e f2 ⟨rfl, hg⟩
      have F2 := Lib.hid (E2.out.grow hg)
      clear hg E2
      refine hK.out _ _ trivial ?_
      clear hK K
      try simp only [Act.put, List.setIfInBounds_toArray, List.set_cons_zero, List.set_cons_succ]
      refine restS_lone (i := 6) rfl (by kernel_rfl) (by rfl) (fun K hK => ?_)
      refine wp_store_fr (.tmp 3) (.tmp 29) rfl rfl rfl F2.out HZl.out (repS_len _ _) ?_
      intro g2 h9
      rw [unsub_eq] at h9
      have H7 := Lib.hid h9
      clear h9 F2
      refine hK.out _ _ trivial ?_
      clear hK K
      try simp only [Act.put, List.setIfInBounds_toArray, List.set_cons_zero, List.set_cons_succ]
      refine restS_done (by kernel_rfl) ?_
      go_wp2
      go_roundw
      case rel => exact ⟨q, unsubS Z, by go_num, by omega, HE2.out, unsubS_len Z, H7.out⟩
      case measure => simp [intOf]; omega
    · have bt : ¬ (0 : Int) < (r : Int) := by omega
      have HE2 := Lib.hid (show decL W b = addK W 0 Y by rw [HE.out, show r = 0 by omega]; rfl)
      clear HE
      go_wp2_with (first
        | (refine wpList_load_fr rfl (.tmp 3) rfl rfl H.out HYl.out ?_))
      refine (addKey_any G W Y HYl.out 0 (by omega) _ (HC.out.in_ H.out).1).mono ?_
      rintro e w7 ⟨rfl, hg⟩
      have H4 := Lib.hid (H.out.grow hg)
      clear hg H
      go_wp2_with (first
        | (refine wpList_store_res rfl (.tmp 4) (.tmp 32) rfl rfl rfl H4.out (addK_len W 0 Y) ?_
           intro w9 h9
           have H9 := Lib.hid h9
           clear h9))
      exact ret_fr rfl rfl H9.out (addK_len W 0 Y) ⟨by rw [HE2.out], H9.out.1⟩
end Go.Proofs.Ytgfmdjagggnfbaa.S7
