/-
  Contract of the program's unchain (cts).
-/
import Derived.Test.YtgfmdjagggnfbaaCqE
import Derived.Deep.MidRow
namespace Go.Proofs.Ytgfmdjagggnfbaa.S9
open Go.RowKit
open Go.Proofs.Ytgfmdjagggnfbaa.S7 hiding intOf
open Go.Proofs.Ytgfmdjagggnfbaa.S8 (Br sz16 on16 wr64 z16 zip_mk rd_br cut_all wp_store_br wp_load_br)
set_option linter.unusedVariables false
set_option linter.unusedSimpArgs false

section
variable {P : Program} {ops : Array Oper} {Q : Exit → Act → World → Prop} {S : World → Prop}
/-- A load of a row, the same in every world that meets S. -/
theorem restS_load {i : Nat} {d : Option Tmp} {op : Op} {ty : TypeId} {pos : String} {after : Array Edge} {guard : Option (Nat × Bool)} {fuel : Nat} {listed : Array Bool} {a : Act} {w : World} (hSw : S w) (hi : ops[i]? = some ⟨d, op, ty, pos, after, guard⟩)
    (hs : Region.noSelect ops = true) (hf : Region.free .any ops listed i = true) (hr : (Region.ready .any ops listed).contains i = true) (hwn : Region.wanted ⟨d, op, ty, pos, after, guard⟩ (yielded ops a.tmps) = true)
    (t : TypeId) (x : Operand) (ho : op = .load t x) (b o : Nat) (hx : a.eval x = .pointer (some ⟨b, o, none⟩)) (cs : List Value) (de : TypeDesc) (hS : ∀ w, S w → w.rangeAt b o cs)
    (hu : P.underlying t = some de) (hd : de.isRow = true) (hz : (P.info? t).map (·.size) = some cs.length)
    (h : RestS P ops Q S fuel (listed.setIfInBounds i true) (a.put d (.agg cs.toArray)) w) : RestS P ops Q S (fuel + 1) listed a w :=
  wpAnyH_take hi hs hf hr (fun _ _ _ h => h) (yieldsIf_load_mid hwn t x ho b o hx cs de hS hu hd hz) hSw h
end
theorem range_rd {w : World} {b o : Nat} {l : List UInt8} (h : ∀ j (h : j < l.length), w.cell? ⟨b, o + j, none⟩ = some (bv l[j])) (hb : b < w.heap.size) (w' : World) (hg : Grown w w') : w'.rangeAt b o (bvs l) := by
  intro j v hv
  have hj : j < l.length := by have := (List.getElem?_eq_some_iff.1 hv).1; simpa [bvs] using this
  rw [hg.cell (p := ⟨b, o + j, none⟩) hb, h j hj, ← hv]
  simp [bvs, hj]
/-- What the first block is XORed with, then each block ahead. -/
def yu (ls : List (List UInt8)) : Nat → List UInt8
  | 0 => z16
  | i + 1 => ls.getD i []
def uB (W : List UInt8) (ls : List (List UInt8)) (i : Nat) : List UInt8 := S8.xorL (decL W (ls.getD i [])) (yu ls i)
theorem yu_len (ls : List (List UInt8)) (hl : ∀ i (h : i < ls.length), ls[i].length = 16) (a : Nat) (h : a ≤ ls.length) : (yu ls a).length = 16 := by
  cases a with
  | zero => show z16.length = 16; decide
  | succ i =>
    show (ls.getD i []).length = 16
    have hi : i < ls.length := by omega
    simp [hi, hl i hi]
theorem uB_len (W : List UInt8) (ls : List (List UInt8)) (i : Nat) : (uB W ls i).length = 16 := S8.xorL_len _ _

set_option maxHeartbeats 4000000 in
set_option maxRecDepth 20000 in
theorem unchain_any (G : Nat) (W : List UInt8) (A : Option Addr) (n c : Nat) (ls : List (List UInt8)) (w : World) (hC : Ci w G W) (hn : ls.length = n) (hn17 : n ≤ 17) (hc : n ≤ c) (hl : ∀ i (h : i < ls.length), ls[i].length = 16) (hR : RdL w w.heap.size A ls) :
    Calls Try.prog 30 #[.iface 25 (.pointer (some ⟨G, 0, none⟩)), .slice A n c] w (Makes w (jB (uB W ls) n)) := by
  have HC := Lib.hid hC
  have HN := Lib.hid hn
  have HL := Lib.hid hl
  have HR := Lib.hid hR
  obtain ⟨Z, hZ⟩ : ∃ Z, Z = (bvs (List.replicate 16 0)).toArray := ⟨_, rfl⟩
  have hmk : ∀ V : World, (Instr.makeSlice 23 (.int .i64 16) (.int .i64 16)).run Try.prog V = .ok (.slice (some ⟨V.heap.size, 0, none⟩) 16 16) (V.alloc (.cells Z 5)) := fun V => by rw [hZ]; exact mk22 16 (by omega) V
  have HZ := Lib.hid hZ
  have hmf : ∀ (fn : Fn) (first cap : Array Value) (V : World), (Instr.makeFunc fn first cap).run Try.prog V = .ok (.func fn first cap) V := fun _ _ _ _ => rfl
  clear hC hn hl hR hZ
  go_enter Try.func30, Try.ntmps30
  go_wp2
  have S1 := Lib.hid (show (w.alloc (.cells Z 5)).heap.size = w.heap.size + 1 by simp)
  have G1 := Lib.hid (alloc_below w (.cells Z 5))
  have P1 := Lib.hid (show Rd (w.alloc (.cells Z 5)) (w.heap.size + 1) (some ⟨w.heap.size, 0, none⟩) z16 by
    rw [HZ.out]
    exact (Row.new w (List.replicate 16 0)).rd (by omega))
  generalize w.alloc _ = w1 at S1 G1 P1 ⊢
  go_loopw [5, 6, 13] (fun v5 v6 v13 wr => ∃ (a m : Nat) (A5 A6 : Option Addr) (c5 c6 : Nat), v5 = .slice A5 m c5 ∧ v6 = .slice A6 16 c6 ∧ v13 = .int .i64 (a : Int) ∧ a ≤ n ∧ Hid (m = 16 * a) ∧ Hid (Own wr (w.heap.size + 1) A5 c5 (jB (uB W ls) a)) ∧ Hid (Rd wr (w.heap.size + 1) A6 (yu ls a)) ∧ Hid (Grown w1 wr)) (fun _ _ v13 _ => n - (intOf v13).toNat)
  case atStart => exact ⟨0, 0, none, some ⟨w.heap.size, 0, none⟩, 0, 16, rfl, rfl, rfl, by omega, rfl, Own.nil _ _, P1.out, Grown.refl _⟩
  case round =>
    clear P1
    obtain ⟨a, m, A5, A6, c5, c6, rfl, rfl, rfl, ha, Hm, HO, HP, HG⟩ := hrel
    by_cases hak : a < n
    · have bi : (a : Int) < (n : Int) := by omega
      have han : a < ls.length := by have := HN.out; omega
      obtain ⟨X, hX⟩ : ∃ X, X = ls[a] := ⟨_, rfl⟩
      have HX := Lib.hid (show ls.getD a [] = X by rw [hX]; simp [han])
      have HXl := Lib.hid (show X.length = 16 by rw [hX]; exact HL.out a han)
      have GW := Lib.hid (Grown.trans G1.out HG.out)
      have hR1 : RdL wr w.heap.size A ls := HR.out.keep GW.out
      obtain ⟨bc, oc, A8, c8, hAc, hbc, hc8, hlc, hr8⟩ := hR1.at_ (k := a) han
      rw [← hX] at hc8 hlc hr8
      rw [HXl.out] at hc8 hlc
      obtain ⟨b8, o8, hA8, hb8, hc8b⟩ : ∃ b8 o8, A8 = some ⟨b8, o8, none⟩ ∧ b8 < w.heap.size ∧ ∀ j (h : j < X.length), wr.cell? ⟨b8, o8 + j, none⟩ = some (bv X[j]) := by
        rcases hr8 with e | h
        · have := HXl.out; rw [e] at this; cases this
        · exact h
      subst hA8
      have R8 := Lib.hid (show Rd wr (w.heap.size + 1) (some ⟨b8, o8, none⟩) X from .inr ⟨b8, o8, rfl, by omega, hc8b⟩)
      have HC8 := Lib.hid hc8b
      have HB8 := Lib.hid (show b8 < wr.heap.size from Nat.lt_of_lt_of_le hb8 GW.out.size)
      subst hAc
      clear hr8 hX hR1 han hc8b hb8
      go_wp2_with fail
      have hna : ∀ (k : Nat) (V : World), (nilAhead (k + 1) 25 (.pointer (some ⟨G, 0, none⟩)) "Decrypt").run Try.prog V = .ok (some false) V := fun k V => na_any _ (.inr rfl) k G V
      have hmt : ∀ (k : Nat) (V : World), (method (k + 1) 25 (.pointer (some ⟨G, 0, none⟩)) "Decrypt").run Try.prog V = .ok (51, .pointer (some ⟨G, 0, none⟩)) V := fun k V => mt_dec k G V
      have hat : ∀ V : World, (Instr.arrayAt 37 (.slice (some ⟨b8, o8, none⟩) 16 c8)).run Try.prog V = .ok (.pointer (some ⟨b8, o8, none⟩)) V := fun V => run_arrayAt V _ _ 16 _ _ _ u16B (by omega)
      obtain ⟨E8, hE8⟩ : ∃ E8, E8 = bvs X := ⟨_, rfl⟩
      have Hi8 := Lib.hid (show (Try.prog.info? 37).map (·.size) = some E8.length by rw [hE8, bvs_length, HXl.out]; exact i16B)
      have HE8 := Lib.hid hE8
      clear hE8
      refine restS_begin (Grown wr) (by kernel_rfl) ?_
      have G4 := Lib.hid (show Grown wr wr.drew from (Grown.refl wr).drew)
      generalize wr.drew = w4 at G4 ⊢
      have HS := Lib.hid (show ∀ v, Grown wr v → v.rangeAt b8 o8 E8 from fun v hv => by rw [HE8.out]; exact range_rd HC8.out HB8.out v hv)
      refine restS_take (i := 0) (G4.out) rfl (by kernel_rfl) (by kernel_rfl) (by kernel_rfl) (by rfl) (fun w' hg => by go_simp; try with_reducible rfl) ?_
      try simp only [Act.put, List.setIfInBounds_toArray, List.set_cons_zero, List.set_cons_succ]
      refine restS_take (i := 1) (G4.out) rfl (by kernel_rfl) (by kernel_rfl) (by kernel_rfl) (by rfl) (fun w' hg => by go_simp; try with_reducible rfl) ?_
      try simp only [Act.put, List.setIfInBounds_toArray, List.set_cons_zero, List.set_cons_succ]
      refine restS_take (i := 2) (G4.out) rfl (by kernel_rfl) (by kernel_rfl) (by kernel_rfl) (by rfl) (fun w' hg => by go_simp; try with_reducible rfl) ?_
      try simp only [Act.put, List.setIfInBounds_toArray, List.set_cons_zero, List.set_cons_succ]
      refine restS_load (i := 3) G4.out rfl (by kernel_rfl) (by kernel_rfl) (by kernel_rfl) (by rfl) 37 (.tmp 19) rfl b8 o8 rfl E8 _ HS.out u16B rfl Hi8.out ?_
      try simp only [Act.put, List.setIfInBounds_toArray, List.set_cons_zero, List.set_cons_succ]
      refine restS_take (i := 4) (G4.out) rfl (by kernel_rfl) (by kernel_rfl) (by kernel_rfl) (by rfl) (fun w' hg => by go_simp; try with_reducible rfl) ?_
      try simp only [Act.put, List.setIfInBounds_toArray, List.set_cons_zero, List.set_cons_succ]
      refine restS_take (i := 5) (G4.out) rfl (by kernel_rfl) (by kernel_rfl) (by kernel_rfl) (by rfl) (fun w' hg => by go_simp; try with_reducible rfl) ?_
      try simp only [Act.put, List.setIfInBounds_toArray, List.set_cons_zero, List.set_cons_succ]
      refine restS_take (i := 6) (G4.out) rfl (by kernel_rfl) (by kernel_rfl) (by kernel_rfl) (by rfl) (fun w' hg => by go_simp; try with_reducible rfl) ?_
      try simp only [Act.put, List.setIfInBounds_toArray, List.set_cons_zero, List.set_cons_succ]
      rw [HE8.out]
      clear HE8 Hi8 HS hat
      obtain ⟨Y, hY⟩ : ∃ Y, Y = decL W X := ⟨_, rfl⟩
      have HY := Lib.hid hY
      have HYl := Lib.hid (show Y.length = 16 by rw [hY]; exact decL_len _ _)
      clear hY
      refine restS_two (i := 7) (j := 8) rfl rfl (by kernel_rfl) (by rfl) (by rfl) (fun K hK => ?_) (fun K hK => ?_)
      all_goals (first
        | (go_simp
           refine (dec_any G W X HXl.out w4 (HC.out.grow (Grown.trans GW.out G4.out))).mono ?_
           rintro e w5 ⟨rfl, hg5⟩
           have G5 := Lib.hid (Grown.trans G4.out hg5)
           rw [← HY.out]
           refine hK.out _ _ G5.out ?_
           clear hK K hg5 G4
           try simp only [Act.put, List.setIfInBounds_toArray, List.set_cons_zero, List.set_cons_succ]
           refine restS_lone (i := 8) rfl (by kernel_rfl) (by rfl) (fun K hK => ?_)
           go_simp
           have G6 := Lib.hid (Grown.trans G5.out (alloc_below w5 (.cells (bvs zs16).toArray 37)))
           have B6 := Lib.hid (Br.new w5 zs16)
           obtain ⟨g, hg⟩ : ∃ g, g = w5.heap.size := ⟨_, rfl⟩
           have hgb : wr.heap.size ≤ g := by rw [hg]; exact G5.out.size
           rw [← hg] at B6 ⊢
           clear hg G5
           rw [show #[Value.int .u8 0, Value.int .u8 0, Value.int .u8 0, Value.int .u8 0, Value.int .u8 0, Value.int .u8 0, Value.int .u8 0, Value.int .u8 0, Value.int .u8 0, Value.int .u8 0, Value.int .u8 0, Value.int .u8 0, Value.int .u8 0, Value.int .u8 0, Value.int .u8 0, Value.int .u8 0] = (bvs zs16).toArray from rfl]
           generalize w5.alloc _ = w6 at G6 B6 ⊢
           refine hK.out _ _ G6.out ?_
           clear hK K)
        | (go_simp
           have G5 := Lib.hid (Grown.trans G4.out (alloc_below w4 (.cells (bvs zs16).toArray 37)))
           have B5 := Lib.hid (Br.new w4 zs16)
           obtain ⟨g, hg⟩ : ∃ g, g = w4.heap.size := ⟨_, rfl⟩
           have hgb : wr.heap.size ≤ g := by rw [hg]; exact G4.out.size
           rw [← hg] at B5 ⊢
           clear hg G4
           rw [show #[Value.int .u8 0, Value.int .u8 0, Value.int .u8 0, Value.int .u8 0, Value.int .u8 0, Value.int .u8 0, Value.int .u8 0, Value.int .u8 0, Value.int .u8 0, Value.int .u8 0, Value.int .u8 0, Value.int .u8 0, Value.int .u8 0, Value.int .u8 0, Value.int .u8 0, Value.int .u8 0] = (bvs zs16).toArray from rfl]
           generalize w4.alloc _ = w5 at G5 B5 ⊢
           refine hK.out _ _ G5.out ?_
           clear hK K
           try simp only [Act.put, List.setIfInBounds_toArray, List.set_cons_zero, List.set_cons_succ]
           refine restS_lone (i := 7) rfl (by kernel_rfl) (by rfl) (fun K hK => ?_)
           go_simp
           refine (dec_any G W X HXl.out w5 (HC.out.grow (Grown.trans GW.out G5.out))).mono ?_
           rintro e w6 ⟨rfl, hg6⟩
           have G6 := Lib.hid (Grown.trans G5.out hg6)
           have B6 := Lib.hid (B5.out.grow hg6)
           rw [← HY.out]
           refine hK.out _ _ G6.out ?_
           clear hK K hg6 G5 B5))
      all_goals
        try simp only [Act.put, List.setIfInBounds_toArray, List.set_cons_zero, List.set_cons_succ]
        refine restS_lone (i := 9) rfl (by kernel_rfl) (by rfl) (fun K hK => ?_)
        refine wp_store_br (.tmp 9) (.tmp 24) rfl rfl rfl B6.out rfl HYl.out (hK.out _ _ (Below.setRow' G6.out hgb _) ?_)
        clear hK K
        try simp only [Act.put, List.setIfInBounds_toArray, List.set_cons_zero, List.set_cons_succ]
        refine restS_done (by kernel_rfl) ?_
        have B7 := Lib.hid (B6.out.row Y)
        have G7 := Lib.hid (show Grown wr (w6.setRow g (bvs Y).toArray) from Below.setRow' G6.out hgb _)
        clear B6 G6
        generalize w6.setRow _ _ = w7 at B7 G7 ⊢
        obtain ⟨U, hU⟩ : ∃ U, U = yu ls a := ⟨_, rfl⟩
        have HUl := Lib.hid (show U.length = 16 by rw [hU]; exact yu_len ls HL.out a (by have := HN.out; omega))
        have O7 := Lib.hid (HO.out.grow G7.out)
        have P7 := Lib.hid (show Rd w7 w7.heap.size A6 U by rw [hU]; exact (HP.out.below (G7.out.mono (by have := S1.out; have := HG.out.size; omega))).more (by have := S1.out; have := HG.out.size; have := G7.out.size; omega))
        have Q7 := Lib.hid (show Rd w7 (w.heap.size + 1) (some ⟨b8, o8, none⟩) X from R8.out.below (G7.out.mono (by have := S1.out; have := HG.out.size; omega)))
        have K7 := Lib.hid (Grown.trans HG.out G7.out)
        have HU := Lib.hid hU
        have S7 := Lib.hid (show w.heap.size + 1 ≤ w7.heap.size by have := S1.out; have := K7.out.size; omega)
        have HOl := Lib.hid (show (jB (uB W ls) a).length = m by rw [jB_len _ (uB_len W ls)]; exact Hm.out.symm)
        obtain ⟨m2, hm2⟩ : ∃ m2, m2 = m + 16 := ⟨_, rfl⟩
        have HM2 := Lib.hid hm2
        have hm400 : m ≤ 400 := by have := Hm.out; omega
        have hsT : ∀ V : World, (Instr.sliceAt 37 (.pointer (some ⟨g, 0, none⟩)) none none none).run Try.prog V = .ok (.slice (some ⟨g, 0, none⟩) 16 16) V := fun V => cut_all V _
        clear HO HP R8 HG GW G7 hU hm2 hna hmt hmf HC8 HB8 hc8
        go_wp2_with fail
        refine (xor_any (some ⟨g, 0, none⟩) 16 16 A6 16 c6 Y U w7 (rd_br B7.out B7.out.lt) P7.out HYl.out HUl.out (by omega) (by omega)).mono ?_
        rw [zip_mk _ _ HYl.out HUl.out]
        rintro e w8 ⟨A9, c9, rfl, ho9, hb9⟩
        rw [S8.xorL_len]
        obtain ⟨V, hV⟩ : ∃ V, V = S8.xorL Y U := ⟨_, rfl⟩
        rw [← hV] at ho9
        have HV := Lib.hid (show V = uB W ls a by rw [hV, HY.out, HU.out]; unfold uB; rw [HX.out])
        have HVl := Lib.hid (show V.length = 16 by rw [hV]; exact S8.xorL_len _ _)
        have R9 := Lib.hid ho9.rd
        have O8 := Lib.hid (O7.out.grow hb9)
        have Q8 := Lib.hid (Q7.out.below (Below.mono hb9 S7.out))
        have K8 := Lib.hid (Grown.trans K7.out hb9)
        have S8 := Lib.hid (Nat.le_trans S7.out hb9.size)
        clear hV ho9 hb9 O7 Q7 K7 S7 P7 B7 hsT
        go_wp2_with (first
          | (at_builtin
             refine wpList_app rfl (.tmp 25) (.tmp 28) rfl (base := w.heap.size + 1) (l := jB (uB W ls) a) (by rw [HOl.out]; rfl) O8.out (l2 := V) (by rw [HVl.out]; rfl) R9.out (by rw [HOl.out, HVl.out]; omega) S8.out (jB (uB W ls) (a + 1)) (by rw [HV.out]; rfl) ?_
             intro A10 c10 w10 ho10 hb10
             rw [show (jB (uB W ls) (a + 1)).length = m2 by rw [jB_len _ (uB_len W ls), HM2.out, Hm.out]; omega]
             have O10 := Lib.hid ho10
             have Q10 := Lib.hid (Q8.out.below hb10)
             have K10 := Lib.hid (show Grown w1 w10 from Below.trans K8.out (by rw [S1.out]; exact hb10))
             clear ho10 hb10 O8 Q8 K8))
        go_roundw
        case rel => exact ⟨a + 1, m2, A10, some ⟨b8, o8, none⟩, c10, c8, rfl, rfl, by go_num, by omega, (by show m2 = 16 * (a + 1); have := Hm.out; have := HM2.out; omega), O10.out, (by show Rd w10 _ _ (ls.getD a []); rw [HX.out]; exact Q10.out), K10.out⟩
        case measure => simp [intOf]; omega
    · have bi : ¬ (a : Int) < (n : Int) := by omega
      have han : a = n := by omega
      have HOl := Lib.hid (show (jB (uB W ls) n).length = m by rw [jB_len _ (uB_len W ls), ← han]; exact Hm.out.symm)
      have O9 := Lib.hid (show Own wr w.heap.size A5 c5 (jB (uB W ls) n) by rw [← han]; exact HO.out.less (by omega))
      have G9 := Lib.hid (Grown.trans G1.out HG.out)
      clear HO HP HG
      go_wp2
      go_ret
      exact ⟨A5, c5, by rw [HOl.out]; rfl, O9.out, G9.out⟩
end Go.Proofs.Ytgfmdjagggnfbaa.S9
