/-
  Contract of the program's decrypt (cts).
-/
import Derived.Test.YtgfmdjagggnfbaaCqJ
namespace Go.Proofs.Ytgfmdjagggnfbaa.S9
open Go.RowKit
open Go.Proofs.Ytgfmdjagggnfbaa.S7 hiding intOf
open Go.Proofs.Ytgfmdjagggnfbaa.S8 (Br sz16 on16 wr64 z16 zip_mk rd_br cut_all wp_store_br wp_load_br)
set_option linter.unusedVariables false
set_option linter.unusedSimpArgs false

theorem cut_lo (W : World) (g k : Nat) (h : k ≤ 16) : (Instr.sliceAt 37 (.pointer (some ⟨g, 0, none⟩)) (some (.int .i64 (k : Int))) none none).run Try.prog W = .ok (.slice (some ⟨g, if 16 = k then 0 else k, none⟩) (16 - k) (16 - k)) W := by
  obtain ⟨i0, hi0, hz0, hz1, hz2⟩ := info_parts info5
  have hel : Try.prog.elem 37 = 5 := by kernel_rfl
  have hl : Try.prog.arrayLen 37 = 16 := by kernel_rfl
  rw [run_sliceAt_array_l (P := Try.prog) W 37 ⟨g, 0, none⟩ (by rw [hel, hl]; exact u16B) _ _ (by omega) (by rw [hl]; omega), hel, hl]
  simp [sizeOf, typeInfo, hi0, hz1, slicedAt, Result.andThen, Addr.add_mid]
  split <;> rfl
theorem rd_lo {w : World} {g k : Nat} {l : List UInt8} (h : Br w g l) (hl : l.length = 16) (hk : k ≤ 16) : Rd w w.heap.size (some ⟨g, if 16 = k then 0 else k, none⟩) (l.drop k) := by
  by_cases e : 16 = k
  · exact .inl (by subst e; exact List.drop_of_length_le (by omega))
  · rw [if_neg e]
    refine .inr ⟨g, k, rfl, h.lt, fun j hj => ?_⟩
    rw [List.length_drop] at hj
    rw [h.cell (k + j) (by omega)]
    simp [bv, gt, show k + j < l.length by omega]
/-- append, with what it leaves of all other blocks. -/
theorem wpList_appJ {w : World} {ops : Array Oper} {rest : List Oper} {o : Oper} {a : Act} {Q : Exit → Act → World → Prop} (hgd : o.guard = none) (s x : Operand) (ho : o.op = .call { callee := .builtin .append, args := #[s, x], argTypes := #[23, 23] })
    {base : Nat} {A : Option Addr} {n c m : Nat} {l : List UInt8} (hn : l.length = n) (hs : a.eval s = .slice A n c) (h : Own w base A c l) {B : Nat} {A2 : Option Addr} {n2 c2 : Nat} {l2 : List UInt8} (hn2 : l2.length = n2) (hx : a.eval x = .slice A2 n2 c2) (h2 : Rd w B A2 l2)
    (hl : n + n2 ≤ 4294967296) (hbase : base ≤ w.heap.size) (r : List UInt8) (hr : l ++ l2 = r) (hm : r.length = m)
    (hk : ∀ A' c' w', Own w' base A' c' r → w.grownBy w' (Value.slice A n c).ownBlock → wpList Try.prog ops Q rest (a.put o.dst (.slice A' m c')) w') : wpList Try.prog ops Q (o :: rest) a w := by
  subst hr hn hn2 hm
  refine wpList_plain hgd fun K hK => ?_
  obtain ⟨A', c', w', hrun, h3, h4, h5⟩ := run_appS h c2 h2 hl hbase o.type
  unfold Oper.wp execOp
  simp only [ho, resolve, invoke, builtin, Sem.run_bind, Sem.run_pure, Result.andThen_ok, List.map_toArray, List.map_cons, List.map_nil, hs, hx, hrun]
  exact hK _ _ (hk A' c' w' h3 h4)
def Fin9 (w : World) (bl : Nat) (l : List UInt8) (e : Ending) (w' : World) : Prop := ∃ g c, e = .returned (.slice (some ⟨g, 0, none⟩) bl c) ∧ w.heap.size ≤ g ∧ bl ≤ c ∧ c ≤ maxLen ∧ Rd w' w'.heap.size (some ⟨g, 0, none⟩) l ∧ Grown w w'
theorem fin9 {w w' : World} {bl c base : Nat} {l : List UInt8} {A : Option Addr} (h : Own w' base A c l) (hl : l.length = bl) (hp : 0 < bl) (hb : w.heap.size ≤ base) (hg : Grown w w') : Fin9 w bl l (.returned (.slice A bl c)) w' := by
  obtain ⟨g, rfl, h1, h2, h3, h4⟩ := own_some h (by omega)
  exact ⟨g, c, rfl, by omega, by omega, h4, h.rd, hg⟩

set_option maxHeartbeats 4000000 in
set_option maxRecDepth 20000 in
theorem decrypt_any (G : Nat) (W : List UInt8) (B : Option Addr) (bl d : Nat) (b : List UInt8) (w : World) (hC : Ci w G W) (hb : b.length = bl) (hd : bl ≤ d) (hB : Rd w w.heap.size B b) (hlo : 16 ≤ bl) (hhi : bl ≤ 256) :
    Calls Try.prog 16 #[.iface 25 (.pointer (some ⟨G, 0, none⟩)), .slice B bl d] w (Fin9 w bl (ctsD W b)) := by
  have HC := Lib.hid hC
  have Hb := Lib.hid hb
  have HB := Lib.hid hB
  obtain ⟨n, hn⟩ : ∃ n, n = nb b.length := ⟨_, rfl⟩
  have HN := Lib.hid hn
  have hn17 : n ≤ 17 := by rw [hn]; unfold nb; omega
  obtain ⟨ls, hls⟩ : ∃ ls, ls = cutL 16 b := ⟨_, rfl⟩
  have HLl := Lib.hid (show ls.length = n by rw [hls, cutL_len, hn])
  have HLs := Lib.hid hls
  have HLp := Lib.hid (show ls = (List.range n).map (pc b) by rw [hls, hn]; exact cutL_pc b)
  have hmf : ∀ (fn : Fn) (first cap : Array Value) (V : World), (Instr.makeFunc fn first cap).run Try.prog V = .ok (.func fn first cap) V := fun _ _ _ _ => rfl
  clear hC hb hB hn hls
  go_enter Try.func16, Try.ntmps16
  go_wp2_with fail
  have hcut := cutT_any B bl d b 16 w Hb.out HB.out hd (by omega) (by omega) (by omega)
  rw [show ((16 : Nat) : Int) = 16 from rfl, ← HLs.out] at hcut
  refine hcut.mono ?_
  clear hcut
  rintro e w1 ⟨Ac, cc, vs, rfl, hv1, ht1, hb1⟩
  rw [HLl.out]
  have V1 := Lib.hid hv1
  have T1 := Lib.hid ht1
  have G1 := Lib.hid (show Grown w w1 from hb1)
  clear hv1 ht1 hb1
  by_cases h1 : n = 1
  · have e1 : (n : Int) - 1 = 0 := by omega
    have Hbl := Lib.hid (show b.length = 16 by have := HN.out; rw [h1] at this; have := Hb.out; unfold nb at *; omega)
    have H1 := Lib.hid h1
    clear h1
    go_wp2_with fail
    refine (unchain_any G W Ac n cc ls w1 (HC.out.grow G1.out) HLl.out hn17 (by have := V1.out.2.1; exact ownV_le V1.out HLl.out) (fun i hi => by
      have e : ls[i] = pc b i := by simp only [HLp.out]; simp
      rw [e, pc_len]
      have := Hbl.out
      have := HLl.out
      have := H1.out
      omega) (S8.OwnL.rdL V1.out.ownL)).mono ?_
    rintro e w2 ⟨A2, c2, rfl, ho2, hb2⟩
    rw [H1.out, HLs.out, dec_lone W b Hbl.out] at ho2 ⊢
    have O2 := Lib.hid ho2
    have G2 := Lib.hid (Grown.trans G1.out hb2)
    have HD := Lib.hid (show (ctsD W b).length = bl by rw [ctsD_len]; exact Hb.out)
    rw [HD.out]
    clear ho2 hb2
    go_wp2_with (first
      | (at_builtin
         refine wpList_app rfl (.tmp 50) (.tmp 51) rfl (base := w1.heap.size) (l := ctsD W b) (by rw [HD.out]; rfl) O2.out (l2 := []) rfl (Rd.nil _ w1.heap.size _) (by rw [HD.out]; simp; omega) (by have := O2.out; exact own_base this (by rw [HD.out]; omega)) (ctsD W b) (by simp) ?_
         intro A3 c3 w3 ho3 hb3
         rw [HD.out]
         have O3 := Lib.hid ho3
         have G3 := Lib.hid (show Grown w w3 from Below.trans G2.out (hb3.mono G1.out.size))
         clear ho3 hb3))
    go_ret
    exact fin9 O3.out HD.out (by omega) G1.out.size G3.out
  · obtain ⟨p, hp⟩ : ∃ p, n = p + 2 := ⟨n - 2, by have h2 := HN.out; have h3 := Hb.out; unfold nb at h2; omega⟩
    obtain ⟨q, hq⟩ : ∃ q, q = p + 1 := ⟨_, rfl⟩
    have hvl : vs.length = n := by have := V1.out.1; rw [HLl.out] at this; exact this
    obtain ⟨Bt, vs0, S, As, cs, hvs, hlow, hoS, hoSb, hSe⟩ : ∃ Bt vs0 S As cs, vs = vs0 ++ [.slice As S.length cs] ∧ lowV vs0 Bt ∧ Own w1 Bt As cs S ∧ Own w1 w.heap.size As cs S ∧ S = pc b q := by
      rcases T1.out with e | ⟨Bt, vs0, v, ls0, S, hvs, hls0, hlow, As, cs, rfl, hoS⟩
      · have := HLl.out; rw [e] at this; simp at this; omega
      · have hl0 : ls0.length = q := by have := HLl.out; rw [hls0] at this; simp at this; omega
        have hv0 : vs0.length = q := by rw [hvs] at hvl; simp at hvl; omega
        have hq1 : q < ls.length := by have := HLl.out; omega
        have hq2 : q < vs.length := by omega
        have e1 : ls[q] = S := by simp only [hls0]; rw [List.getElem_append_right (by omega)]; simp [hl0]
        have e2 : ls[q] = pc b q := by simp only [HLp.out]; simp
        have e3 : vs[q] = .slice As S.length cs := by simp only [hvs]; rw [List.getElem_append_right (by omega)]; simp [hv0]
        obtain ⟨A', c', e4, ho⟩ := V1.out.2.2 q hq1 hq2
        rw [e1] at ho e4
        rw [e3] at e4
        simp only [Value.slice.injEq] at e4
        obtain ⟨rfl, _, rfl⟩ := e4
        exact ⟨Bt, vs0, S, As, cs, hvs, hlow, hoS, ho, by rw [← e1, e2]⟩
    obtain ⟨k, hk⟩ : ∃ k, k = S.length := ⟨_, rfl⟩
    have hk1 : k = bl - 16 * q := by rw [hk, hSe, pc_len]; have h2 := HN.out; have h3 := Hb.out; unfold nb at h2; omega
    have hk2 : 1 ≤ k ∧ k ≤ 16 := by have h2 := HN.out; have h3 := Hb.out; unfold nb at h2; omega
    obtain ⟨X, hXe⟩ : ∃ X, X = pc b p := ⟨_, rfl⟩
    have HXl := Lib.hid (show X.length = 16 by rw [hXe, pc_len]; have h2 := HN.out; have h3 := Hb.out; unfold nb at h2; omega)
    obtain ⟨gp, cp, ep, hoX⟩ : ∃ gp cp, vs[p]'(by omega) = .slice (some ⟨gp, 0, none⟩) 16 cp ∧ Own w1 w.heap.size (some ⟨gp, 0, none⟩) cp X := by
      obtain ⟨A', c', e4, ho⟩ := V1.out.2.2 p (by have := HLl.out; omega) (by omega)
      have e2 : ls[p]'(by have := HLl.out; omega) = X := by simp only [HLp.out]; simp [hXe]
      rw [e2] at ho e4
      obtain ⟨gp, rfl, _⟩ := own_some ho (by rw [HXl.out]; omega)
      rw [HXl.out] at e4
      exact ⟨gp, c', e4, ho⟩
    obtain ⟨gl, hAc⟩ : ∃ gl, Ac = some ⟨gl, 0, none⟩ := by
      rcases V1.out.2.1.2 with ⟨_, h5⟩ | ⟨g, cap, cur, h4, _⟩
      · have := HLl.out; omega
      · simp only [Value.slice.injEq] at h4
        exact ⟨g, h4.1⟩
    subst hAc
    obtain ⟨cur, hgl, hbgl⟩ := V1.out.block
    have hgls := lt_of_heap hgl
    have hcc := ownV_le V1.out HLl.out
    have hcq : w1.cell? ⟨gl, q, none⟩ = some (.slice As k cs) := by
      rw [V1.out.cell q (by omega), hk]
      congr 1
      have hv0 : vs0.length = q := by rw [hvs] at hvl; simp at hvl; omega
      simp only [hvs]
      rw [List.getElem_append_right (by omega)]
      simp [hv0]
    have hcp1 : w1.cell? ⟨gl, p, none⟩ = some (.slice (some ⟨gp, 0, none⟩) 16 cp) := by
      rw [V1.out.cell p (by omega), ep]
    have Hcp := Lib.hid (show ∀ v, Grown w1 v → v.cell? ⟨gl, p, none⟩ = some (.slice (some ⟨gp, 0, none⟩) 16 cp) from fun v hv => (hv.cell (p := ⟨gl, p, none⟩) hgls).trans hcp1)
    have hcp16 : 16 ≤ cp := by have := hoX.le; rw [HXl.out] at this; exact this
    obtain ⟨E8, hE8⟩ : ∃ E8, E8 = bvs X := ⟨_, rfl⟩
    have HR := Lib.hid (show ∀ v, Grown w1 v → v.rangeAt gp 0 E8 from fun v hv => by
      rw [hE8]
      rcases hoX.rd with e | ⟨b5, o5, e, hb5, hc5⟩
      · have := HXl.out; rw [e] at this; cases this
      · simp only [Option.some.injEq, Addr.mk.injEq] at e
        obtain ⟨rfl, rfl, _⟩ := e
        exact range_rd hc5 hb5 v hv)
    have Hi8 := Lib.hid (show (Try.prog.info? 37).map (·.size) = some E8.length by rw [hE8, bvs_length, HXl.out]; exact i16B)
    have HE8 := Lib.hid hE8
    have HXe := Lib.hid hXe
    have HSe := Lib.hid hSe
    have HK := Lib.hid hk
    have HVS := Lib.hid hvs
    have HLOW := Lib.hid hlow
    have HSo := Lib.hid hoS
    have HSb := Lib.hid hoSb
    have Hp := Lib.hid hp
    have Hq := Lib.hid hq
    have Hk1 := Lib.hid hk1
    have e1 : (n : Int) - 1 = (q : Int) := by omega
    have bq : (0 : Int) < (q : Int) := by omega
    have e2 : (q : Int) - 1 = (p : Int) := by omega
    have ew : IntKind.i64.wrap (p : Int) = (p : Int) := wr64 p (by omega)
    have bn : (q : Int) < (n : Int) := by omega
    have bp : (p : Int) < (n : Int) := by omega
    have bk : (k : Int) ≤ 16 := by omega
    have hk16 := hk2.2
    clear hp hq hvl hvs hlow hoS hoSb hSe hk hk1 hXe ep hoX hgl hbgl hcp1 hE8 T1 h1
    go_wp2_with fail
    have hna : ∀ (k : Nat) (V : World), (nilAhead (k + 1) 25 (.pointer (some ⟨G, 0, none⟩)) "Decrypt").run Try.prog V = .ok (some false) V := fun k V => na_any _ (.inr rfl) k G V
    have hmt : ∀ (k : Nat) (V : World), (method (k + 1) 25 (.pointer (some ⟨G, 0, none⟩)) "Decrypt").run Try.prog V = .ok (51, .pointer (some ⟨G, 0, none⟩)) V := fun k V => mt_dec k G V
    have hat : ∀ V : World, (Instr.arrayAt 37 (.slice (some ⟨gp, 0, none⟩) 16 cp)).run Try.prog V = .ok (.pointer (some ⟨gp, 0, none⟩)) V := fun V => run_arrayAt V _ _ 16 _ _ _ u16B (by omega)
    refine restS_begin (Grown w1) (by kernel_rfl) ?_
    have G4 := Lib.hid (show Grown w1 w1.drew from (Grown.refl w1).drew)
    generalize w1.drew = w4 at G4 ⊢
    refine restS_take (i := 0) G4.out rfl (by kernel_rfl) (by kernel_rfl) (by kernel_rfl) (by rfl) (fun w' hg => by go_simp; try with_reducible rfl) ?_
    try simp only [Act.put, List.setIfInBounds_toArray, List.set_cons_zero, List.set_cons_succ]
    refine restS_take (i := 1) G4.out rfl (by kernel_rfl) (by kernel_rfl) (by kernel_rfl) (by rfl) (fun w' hg => by go_simp; try with_reducible rfl) ?_
    try simp only [Act.put, List.setIfInBounds_toArray, List.set_cons_zero, List.set_cons_succ]
    refine restS_take (i := 2) G4.out rfl (by kernel_rfl) (by kernel_rfl) (by kernel_rfl) (by rfl) (fun w' hg => by go_simp; try with_reducible rfl) ?_
    try simp only [Act.put, List.setIfInBounds_toArray, List.set_cons_zero, List.set_cons_succ]
    refine restS_take (i := 3) G4.out rfl (by kernel_rfl) (by kernel_rfl) (by kernel_rfl) (by rfl) (fun w' hg => by go_simp; try with_reducible rfl) ?_
    try simp only [Act.put, List.setIfInBounds_toArray, List.set_cons_zero, List.set_cons_succ]
    refine restS_take (i := 4) G4.out rfl (by kernel_rfl) (by kernel_rfl) (by kernel_rfl) (by rfl) (fun w' hg => by go_simp; try with_reducible rfl) ?_
    try simp only [Act.put, List.setIfInBounds_toArray, List.set_cons_zero, List.set_cons_succ]
    refine restS_take (i := 5) G4.out rfl (by kernel_rfl) (by kernel_rfl) (by kernel_rfl) (by rfl) (fun w' hg => by have h5 := Hcp.out w' hg; go_simp; try with_reducible rfl) ?_
    try simp only [Act.put, List.setIfInBounds_toArray, List.set_cons_zero, List.set_cons_succ]
    refine restS_take (i := 6) G4.out rfl (by kernel_rfl) (by kernel_rfl) (by kernel_rfl) (by rfl) (fun w' hg => by go_simp; try with_reducible rfl) ?_
    try simp only [Act.put, List.setIfInBounds_toArray, List.set_cons_zero, List.set_cons_succ]
    refine restS_load (i := 7) G4.out rfl (by kernel_rfl) (by kernel_rfl) (by kernel_rfl) (by rfl) 37 (.tmp 27) rfl gp 0 rfl E8 _ HR.out u16B rfl Hi8.out ?_
    try simp only [Act.put, List.setIfInBounds_toArray, List.set_cons_zero, List.set_cons_succ]
    refine restS_take (i := 8) G4.out rfl (by kernel_rfl) (by kernel_rfl) (by kernel_rfl) (by rfl) (fun w' hg => by go_simp; try with_reducible rfl) ?_
    try simp only [Act.put, List.setIfInBounds_toArray, List.set_cons_zero, List.set_cons_succ]
    refine restS_take (i := 9) G4.out rfl (by kernel_rfl) (by kernel_rfl) (by kernel_rfl) (by rfl) (fun w' hg => by go_simp; try with_reducible rfl) ?_
    try simp only [Act.put, List.setIfInBounds_toArray, List.set_cons_zero, List.set_cons_succ]
    refine restS_take (i := 10) G4.out rfl (by kernel_rfl) (by kernel_rfl) (by kernel_rfl) (by rfl) (fun w' hg => by go_simp; try with_reducible rfl) ?_
    try simp only [Act.put, List.setIfInBounds_toArray, List.set_cons_zero, List.set_cons_succ]
    rw [HE8.out]
    clear HE8 Hi8 HR hat Hcp
    obtain ⟨Y, hY⟩ : ∃ Y, Y = decL W X := ⟨_, rfl⟩
    have HY := Lib.hid hY
    have HYl := Lib.hid (show Y.length = 16 by rw [hY]; exact decL_len _ _)
    clear hY
    refine restS_two (i := 11) (j := 12) rfl rfl (by kernel_rfl) (by rfl) (by rfl) (fun K hK => ?_) (fun K hK => ?_)
    all_goals (first
      | (go_simp
         refine (dec_any G W X HXl.out w4 (HC.out.grow (Grown.trans G1.out G4.out))).mono ?_
         rintro e w5 ⟨rfl, hg5⟩
         have G5 := Lib.hid (Grown.trans G4.out hg5)
         rw [← HY.out]
         refine hK.out _ _ G5.out ?_
         clear hK K hg5 G4
         try simp only [Act.put, List.setIfInBounds_toArray, List.set_cons_zero, List.set_cons_succ]
         refine restS_lone (i := 12) rfl (by kernel_rfl) (by rfl) (fun K hK => ?_)
         go_simp
         have G6 := Lib.hid (Grown.trans G5.out (alloc_below w5 (.cells (bvs zs16).toArray 37)))
         have B6 := Lib.hid (Br.new w5 zs16)
         obtain ⟨g, hg⟩ : ∃ g, g = w5.heap.size := ⟨_, rfl⟩
         have hgb : w1.heap.size ≤ g := by rw [hg]; exact G5.out.size
         rw [← hg] at B6 ⊢
         clear hg G5
         rw [show #[Value.int .u8 0, Value.int .u8 0, Value.int .u8 0, Value.int .u8 0, Value.int .u8 0, Value.int .u8 0, Value.int .u8 0, Value.int .u8 0, Value.int .u8 0, Value.int .u8 0, Value.int .u8 0, Value.int .u8 0, Value.int .u8 0, Value.int .u8 0, Value.int .u8 0, Value.int .u8 0] = (bvs zs16).toArray from rfl]
         generalize w5.alloc _ = w6 at G6 B6 ⊢
         refine hK.out _ _ G6.out ?_
         clear hK K)
      | (go_simp
         have G5 := Lib.hid (Grown.trans G4.out (alloc_below w4 (.cells (bvs zs16).toArray 37)))
         have B5 := Lib.hid (Br.new w4 zs16)
         obtain ⟨g, hg⟩ : ∃ g, g = w4.heap.size := ⟨_, rfl⟩
         have hgb : w1.heap.size ≤ g := by rw [hg]; exact G4.out.size
         rw [← hg] at B5 ⊢
         clear hg G4
         rw [show #[Value.int .u8 0, Value.int .u8 0, Value.int .u8 0, Value.int .u8 0, Value.int .u8 0, Value.int .u8 0, Value.int .u8 0, Value.int .u8 0, Value.int .u8 0, Value.int .u8 0, Value.int .u8 0, Value.int .u8 0, Value.int .u8 0, Value.int .u8 0, Value.int .u8 0, Value.int .u8 0] = (bvs zs16).toArray from rfl]
         generalize w4.alloc _ = w5 at G5 B5 ⊢
         refine hK.out _ _ G5.out ?_
         clear hK K
         try simp only [Act.put, List.setIfInBounds_toArray, List.set_cons_zero, List.set_cons_succ]
         refine restS_lone (i := 11) rfl (by kernel_rfl) (by rfl) (fun K hK => ?_)
         go_simp
         refine (dec_any G W X HXl.out w5 (HC.out.grow (Grown.trans G1.out G5.out))).mono ?_
         rintro e w6 ⟨rfl, hg6⟩
         have G6 := Lib.hid (Grown.trans G5.out hg6)
         have B6 := Lib.hid (B5.out.grow hg6)
         rw [← HY.out]
         refine hK.out _ _ G6.out ?_
         clear hK K hg6 G5 B5))
    all_goals
      try simp only [Act.put, List.setIfInBounds_toArray, List.set_cons_zero, List.set_cons_succ]
      refine restS_lone (i := 13) rfl (by kernel_rfl) (by rfl) (fun K hK => ?_)
      refine wp_store_br (.tmp 9) (.tmp 32) rfl rfl rfl B6.out rfl HYl.out (hK.out _ _ (Below.setRow' G6.out hgb _) ?_)
      clear hK K
      try simp only [Act.put, List.setIfInBounds_toArray, List.set_cons_zero, List.set_cons_succ]
      refine restS_done (by kernel_rfl) ?_
      have B7 := Lib.hid (B6.out.row Y)
      have G7 := Lib.hid (show Grown w1 (w6.setRow g (bvs Y).toArray) from Below.setRow' G6.out hgb _)
      clear B6 G6
      generalize w6.setRow _ _ = w7 at B7 G7 ⊢
      have hsT : ∀ V : World, (Instr.sliceAt 37 (.pointer (some ⟨g, 0, none⟩)) none none none).run Try.prog V = .ok (.slice (some ⟨g, 0, none⟩) 16 16) V := fun V => cut_all V _
      go_wp2_with fail
      refine (xor_any (some ⟨g, 0, none⟩) 16 16 As k cs Y S w7 (rd_br B7.out B7.out.lt) (HSo.out.grow G7.out).rd HYl.out HK.out.symm (by omega) (by omega)).mono ?_
      rintro e w8 ⟨At, ct, rfl, ho8, hb8⟩
      obtain ⟨T, hT⟩ : ∃ T, T = Go.Proofs.Ytgfmdjagggnfbaa.xorL Y S := ⟨_, rfl⟩
      rw [← hT] at ho8 ⊢
      have HTl := Lib.hid (show T.length = k by rw [hT, Go.Proofs.Ytgfmdjagggnfbaa.xorL_len, HYl.out, ← HK.out]; omega)
      have HT := Lib.hid hT
      rw [HTl.out]
      have T8 := Lib.hid ho8
      have B8 := Lib.hid (B7.out.grow hb8)
      have G8 := Lib.hid (Grown.trans G7.out hb8)
      have S78 := Lib.hid (show ∀ x, As = some x → x.block < w7.heap.size from fun x hx => by have := (HSo.out.lt x hx).2; have := G7.out.size; omega)
      clear hT ho8 hb8 B7 G7 hsT
      obtain ⟨j, hj⟩ : ∃ j, j = 16 - k := ⟨_, rfl⟩
      obtain ⟨oj, hoj⟩ : ∃ oj, oj = if 16 = k then 0 else k := ⟨_, rfl⟩
      have hsK : ∀ V : World, (Instr.sliceAt 37 (.pointer (some ⟨g, 0, none⟩)) (some (.int .i64 (k : Int))) none none).run Try.prog V = .ok (.slice (some ⟨g, oj, none⟩) j j) V := fun V => by rw [hj, hoj]; exact cut_lo V g k hk16
      have HRj := Lib.hid (show Rd w8 w8.heap.size (some ⟨g, oj, none⟩) (Y.drop k) by rw [hoj]; exact rd_lo B8.out HYl.out hk16)
      have HJ := Lib.hid (show (Y.drop k).length = j by rw [List.length_drop, HYl.out, hj])
      have Hj := Lib.hid hj
      have HSl := Lib.hid (show S.length = k from HK.out.symm)
      have HM := Lib.hid (show S ++ Y.drop k = mend W b p by
        unfold mend
        rw [← Hq.out, ← HSe.out, ← HXe.out, ← HY.out, ← HK.out])
      have HMl := Lib.hid (show (mend W b p).length = 16 from mend_len W b p (by rw [← HN.out, Hp.out]))
      have V8 := Lib.hid (V1.out.grow G8.out)
      have S8 := Lib.hid (HSo.out.grow G8.out)
      have S8b := Lib.hid (HSb.out.grow G8.out)
      have hcc2 : (q : Int) ≤ (cc : Int) := by omega
      clear hj hoj
      go_wp2_with (first
        | (at_builtin
           refine wpList_appJ rfl (.tmp 39) (.tmp 42) rfl (base := Bt) (n := k) (m := 16) HSl.out rfl S8.out (n2 := j) HJ.out rfl HRj.out (by have := Hj.out; omega) (own_base S8.out (by rw [HSl.out]; omega)) (mend W b p) HM.out HMl.out ?_
           intro A9 c9 w9 ho9 hg9
           have JO := joined (w8 := w9) V8.out (by rw [HLl.out]; exact Hp.out) HVS.out HLOW.out S8.out S8b.out (by rw [HSl.out]; omega) (by rw [HSl.out]; exact hg9) ho9 HMl.out (Nat.le_trans G1.out.size G8.out.size)
           obtain ⟨⟨u9, hu9⟩, hf9, hR9, hB9, hT9⟩ := JO
           have R9 := Lib.hid hR9
           have BB9 := Lib.hid hB9
           have T9 := Lib.hid (hT9 _ _ _ _ T8.out S78.out)
           clear ho9 hg9 hR9 hB9 hT9))
      clear hu9 hf9 hcq hsK
      have HLD := Lib.hid (show ls.take p ++ [mend W b p] = lsD W b p by
        rw [HLp.out, Hp.out]
        unfold lsD
        rw [← List.map_take, List.take_range, show min p (p + 2) = p by omega])
      generalize w9.setCell _ _ = w10 at R9 BB9 T9 ⊢
      have G10 := Lib.hid (show Grown w w10 from Below.trans (Below.trans G1.out (G8.out.mono G1.out.size)) BB9.out)
      have HQl := Lib.hid (show (lsD W b p).length = q by rw [lsD_len, Hq.out])
      rw [HLD.out] at R9
      refine (unchain_any G W (some ⟨gl, 0, none⟩) q cc (lsD W b p) w10 (HC.out.grow G10.out) HQl.out (by omega) (by omega) (fun i hi => by
        rw [lsD_len] at hi
        by_cases c : i < p
        · have e : (lsD W b p)[i] = pc b i := by
            have := lsD_lo W b p i c
            simpa [show i < (lsD W b p).length by rw [lsD_len]; omega] using this
          rw [e, pc_len]
          have h2 := HN.out
          have h3 := Hb.out
          have h4 := Hp.out
          unfold nb at h2
          omega
        · obtain rfl : i = p := by omega
          have e : (lsD W b i)[i] = mend W b i := by
            have := lsD_hi W b i
            simpa [show i < (lsD W b i).length by rw [lsD_len]; omega] using this
          rw [e]
          exact HMl.out) R9.out).mono ?_
      rintro e w11 ⟨A11, c11, rfl, ho11, hb11⟩
      have HJl := Lib.hid (show (jB (uB W (lsD W b p)) q).length = 16 * q from jB_len _ (uB_len W _) q)
      have HCD := Lib.hid (show jB (uB W (lsD W b p)) q ++ T = ctsD W b by
        rw [HT.out, HY.out, HXe.out, HSe.out, Hq.out]
        exact dec_more W b p (by rw [← HN.out, Hp.out]))
      have HD := Lib.hid (show (ctsD W b).length = bl by rw [ctsD_len]; exact Hb.out)
      obtain ⟨r, hr⟩ : ∃ r, r = 16 * q := ⟨_, rfl⟩
      rw [HJl.out, ← hr]
      have HJr := Lib.hid (show (jB (uB W (lsD W b p)) q).length = r by rw [hr]; exact HJl.out)
      have hr400 : r ≤ 400 := by omega
      have hr0 : 0 < r := by omega
      have O11 := Lib.hid ho11
      have G11 := Lib.hid (Grown.trans G10.out hb11)
      have T11 := Lib.hid (T9.out.grow hb11)
      clear ho11 hb11 hr R9 BB9 T9
      go_wp2_with (first
        | (at_builtin
           refine wpList_appJ rfl (.tmp 50) (.tmp 51) rfl (base := w10.heap.size) (n := r) (m := bl) HJr.out rfl O11.out (n2 := k) HTl.out rfl T11.out.rd (by omega) (own_base O11.out (by rw [HJr.out]; omega)) (ctsD W b) HCD.out HD.out ?_
           intro A12 c12 w12 ho12 hg12
           have O12 := Lib.hid ho12
           have G12 := Lib.hid (show Grown w w12 from Below.grown G11.out hg12 G11.out.size (fun x hx => by
             obtain ⟨g0, hg0, h0, _⟩ := own_some O11.out (by rw [HJr.out]; omega)
             subst hg0
             simp [Value.ownBlock] at hx
             have := G10.out.size
             omega))
           clear ho12 hg12))
      go_ret
      exact fin9 O12.out HD.out (by omega) G10.out.size G12.out
end Go.Proofs.Ytgfmdjagggnfbaa.S9
