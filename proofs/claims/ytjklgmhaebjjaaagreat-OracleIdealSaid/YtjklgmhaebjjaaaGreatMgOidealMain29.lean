/-
  The ideal source in memory: a pointer to the tables; what a step of it leaves. The ideal source's tag and nonce.
-/
import Derived.Test.YtjklgmhaebjjaaaGreatMgOidealMain17
import Derived.Test.YtjklgmhaebjjaaaGreatMgOidealMain19
import Derived.Test.YtjklgmhaebjjaaaGreatMgOidealMain26
import Derived.Test.YtjklgmhaebjjaaaGreatMgOidealMain28
import Derived.Test.YtjklgmhaebjjaaaGreatMgOidealMain16
import Derived.Deep.MidRow
import Derived.Deep.WholeRow
namespace Go.Proofs.YtjklgmhaebjjaaaGreat.S12
open S11
open Go.RowKit
set_option linter.unusedVariables false
set_option linter.unusedSimpArgs false

section
variable {P : Program} {W : World}
theorem retRow {fn : Func} {p : Tmp} {t : TypeId} (hr : fn.results = #[.cell p t]) {R : Ending → World → Prop} {tm : Array Value} {g : Nat} {cs : Array Value} {t' : TypeId} {fr : Nat × Nat} (d : TypeDesc) (hp : tm.getD p undef = .pointer (some ⟨g, 0, none⟩)) (hg : W.heap[g]? = some (.cells cs t' fr))
    (hu : P.underlying t = some d) (hd : d.isRow = true) (hi : (P.info? t).map (·.size) = some cs.size) (h : R (.returned (.agg cs)) W) : bodyPost P fn R .ret { tmps := tm, defers := [] } W :=
  bodyPost_ret (v := .agg cs) (results_cell_row hr tm W g t' cs fr d hp hg hu (by cases d <;> simp_all) hi) rfl h
end
theorem restS_rng {P : Program} {ops : Array Oper} {Q : Exit → Act → World → Prop} {S : World → Prop} {i : Nat} {d : Option Tmp} {op : Op} {ty : TypeId} {pos : String} {after : Array Edge} {guard : Option (Nat × Bool)} {fuel : Nat} {listed : Array Bool} {a : Act} {w : World} (hSw : S w) (hi : ops[i]? = some ⟨d, op, ty, pos, after, guard⟩)
    (hs : Region.noSelect ops = true) (hf : Region.free .any ops listed i = true) (hr : (Region.ready .any ops listed).contains i = true) (hwn : Region.wanted ⟨d, op, ty, pos, after, guard⟩ (yielded ops a.tmps) = true)
    (t : TypeId) (x : Operand) (ho : op = .load t x) (b o : Nat) (hx : a.eval x = .pointer (some ⟨b, o, none⟩)) (cs : List Value) (de : TypeDesc) (hS : ∀ w, S w → w.rangeAt b o cs)
    (hu : P.underlying t = some de) (hd : de.isRow = true) (hz : (P.info? t).map (·.size) = some cs.length)
    (h : RestS P ops Q S fuel (listed.setIfInBounds i true) (a.put d (.agg cs.toArray)) w) : RestS P ops Q S (fuel + 1) listed a w :=
  wpAnyH_take hi hs hf hr (fun _ _ _ h => h) (yieldsIf_load_mid hwn t x ho b o hx cs de hS hu hd hz) hSw h
theorem restS_more {P : Program} {ops : Array Oper} {Q : Exit → Act → World → Prop} {S S' : World → Prop} (hS : ∀ w, S' w → S w) {fuel : Nat} {listed : Array Bool} {a : Act} {w : World} (h : RestS P ops Q S' fuel listed a w) : RestS P ops Q S fuel listed a w :=
  held_mono hS _ _ _ _ h
theorem zq64 (V : World) : (zeroValue 43).run Tryz.prog V = .ok (.agg (bvs z64).toArray) V := by kernel_rfl
/-- A slice as a pointer to an array. -/
theorem run_arr (V : World) (t e : TypeId) (n : Nat) (A : Option Addr) (m c : Nat) (hu : Tryz.prog.underlying t = some (.array n e)) (h : n ≤ m) : (Instr.arrayAt t (.slice A m c)).run Tryz.prog V = .ok (.pointer A) V := by
  simp [Instr.arrayAt, run_underlying hu, show ¬ m < n by omega]
theorem u64a : Tryz.prog.underlying 43 = some (.array 64 5) := by kernel_rfl
theorem u32a : Tryz.prog.underlying 51 = some (.array 32 5) := by kernel_rfl
theorem u16c : Tryz.prog.underlying 62 = some (.array 16 5) := by kernel_rfl
theorem i64c : (Tryz.prog.info? 43).map (·.size) = some 64 := by kernel_rfl
theorem i32c : (Tryz.prog.info? 51).map (·.size) = some 32 := by kernel_rfl
theorem i16c : (Tryz.prog.info? 62).map (·.size) = some 16 := by kernel_rfl
theorem range_of_rd {w : World} {B : Nat} {A : Option Addr} {l : List UInt8} (h : Rd w B A l) (hl : l ≠ []) : ∃ b o, A = some ⟨b, o, none⟩ ∧ b < B ∧ w.rangeAt b o (bvs l) := by
  rcases h with e | ⟨b, o, e, hb, hc⟩
  · exact absurd e hl
  · refine ⟨b, o, e, hb, fun j v hv => ?_⟩
    have hj : j < l.length := by
      have := (List.getElem?_eq_some_iff.1 hv).1
      simpa [bvs] using this
    have h3 := hc j hj
    simp [bvs, hj] at hv
    subst hv
    exact h3

theorem setRow_rest (w : World) (g : Nat) (cs : Array Value) : (w.setRow g cs).os = w.os ∧ (w.setRow g cs).tape = w.tape ∧ (w.setRow g cs).output = w.output := ⟨rfl, rfl, rfl⟩
/-- The source, which points to tables in the state st. -/
def Src : Ob idealM := fun w H F st => ∃ Z FZ, H = Z + 1 ∧ w.heap[H]? = some (.cells #[.pointer (some ⟨Z, 0, none⟩)] 78 (0, 0)) ∧ Lz w Z FZ st ∧ ¬ FZ H ∧ ∀ k, F k ↔ k = H ∨ FZ k
theorem few_nm {st : St} {i : Nat} (h : Nm st i) (hi : i ≤ 200) : Few st := ⟨by have := h.2.1.1; omega, by have := h.2.1.2.1; omega, by have := h.2.1.2.2; omega⟩
/-- Behind a step of the tables, and a store into a block that the call has made. -/
theorem src_fin {w w1 w2 w3 : World} {H Z : Nat} {F FZ F' : Nat → Prop} {st' : St} (hZ1 : H = Z + 1) (hH : w.heap[H]? = some (.cells #[.pointer (some ⟨Z, 0, none⟩)] 78 (0, 0))) (hnF : ¬ FZ H) (hF : ∀ k, F k ↔ k = H ∨ FZ k) (hZ : ∀ k, FZ k → k < w.heap.size)
    (hg : Grown w w1) (hL : Lz w2 Z F' st') (hF' : ∀ k, F' k → FZ k ∨ w1.heap.size ≤ k) (hC : Ch FZ w1 w2) (r : Nat) (hr : w.heap.size ≤ r) (hr1 : r < w1.heap.size) (h3 : ∀ k, k ≠ r → w3.heap[k]? = w2.heap[k]?) (hs3 : w3.heap.size = w2.heap.size) (ho3 : w3.os = w2.os ∧ w3.tape = w2.tape ∧ w3.output = w2.output) : Onw Src w H F st' w3 := by
  have hlt : H < w.heap.size := lt_of_heap hH
  have hs1 := hg.size
  have hs2 := hC.size
  refine ⟨fun k => k = H ∨ F' k, ⟨Z, F', hZ1, ?_, lz_keep w2 w3 Z F' st' hL (fun k hk => h3 k ?_) (by omega), ?_, fun k => Iff.rfl⟩, ?_, ?_⟩
  · rw [h3 H (by omega), hC.block H (by omega) hnF, hg.block H hlt]
    exact hH
  · rcases hF' k hk with h | h
    · have := hZ k h
      omega
    · omega
  · intro h
    rcases hF' H h with h | h
    · exact hnF h
    · omega
  · rintro k (rfl | h)
    · exact .inl ((hF _).2 (.inl rfl))
    · rcases hF' k h with h | h
      · exact .inl ((hF _).2 (.inr h))
      · exact .inr (by omega)
  · refine ⟨ho3.1.trans (hC.os.trans hg.os), ho3.2.1.trans (hC.tape.trans hg.tape), ho3.2.2.trans (hC.output.trans hg.output), by omega, fun k hk hf => ?_⟩
    rw [h3 k (by omega), hC.block k (by omega) (fun h => hf ((hF _).2 (.inr h))), hg.block k hk]
set_option maxHeartbeats 4000000 in
set_option maxRecDepth 20000 in
theorem seal_src {w : World} {H : Nat} {F : Nat → Prop} {st : St} {i : Nat} {A1 A2 : Option Addr} {n1 c1 n2 c2 : Nat} {key : List UInt8} {ls : List (List UInt8)} (hS : Src w H F st) (hN : Nm st i) (hi : i ≤ 200) (h1 : Bes w F A1 n1 c1 key) (h2 : n1 ≤ 2000) (h3 : BesL w F A2 n2 c2 ls) (h4 : n2 ≤ 10) (h5 : ls.flatten.length ≤ 2500) :
    Calls Tryz.prog 69 #[.pointer (some ⟨H, 0, none⟩), .slice A1 n1 c1, .slice A2 n2 c2] w fun e w' => e = .returned (.agg (bvs (idealM.mac st key ls.flatten).1).toArray) ∧ Onw Src w H F (idealM.mac st key ls.flatten).2 w' := by
  obtain ⟨Z, FZ, hZ1, hH, hZ, hnF, hF⟩ := hS
  have HZ1 := Lib.hid hZ1
  clear hZ1
  have HH := Lib.hid hH
  have HZ := Lib.hid hZ
  have HnF := Lib.hid hnF
  have HF := Lib.hid hF
  have HFew := Lib.hid (few_nm hN hi)
  have HK := Lib.hid h1.1
  have HKn := Lib.hid h1.2.1
  have HL := Lib.hid h3.1
  have HLn := Lib.hid h3.2.1
  have HFl := Lib.hid h5
  have HD := Lib.hid (show (idealM.mac st key ls.flatten).1.length = 64 from idealM.len_mac st i key ls.flatten hN)
  have HE := Lib.hid (show fnOp st sealN (sealQ key ls.flatten) 64 = idealM.mac st key ls.flatten from rfl)
  have HQ := Lib.hid (show (sealQ key ls.flatten).length ≤ 5000 by unfold sealQ; rw [List.length_append, List.length_append, layL_len]; have := HKn.out; omega)
  clear hH hZ hnF hF hN h1 h3 h5
  obtain ⟨R, hR⟩ : ∃ R, R = idealM.mac st key ls.flatten := ⟨_, rfl⟩
  rw [← hR] at HD HE ⊢
  clear hR
  have hz : ∀ V : World, (zeroValue 43).run Tryz.prog V = .ok (.agg (bvs z64).toArray) V := fun V => zq64 V
  go_enter Tryz.func69, Tryz.ntmps69
  go_wp2_with fail
  have GA := Lib.hid (alloc_below w (.cells (bvs z64).toArray 43))
  have BA := Lib.hid (Ba.new w 43 z64)
  obtain ⟨r, hr⟩ : ∃ r, r = w.heap.size := ⟨_, rfl⟩
  have HR := Lib.hid hr
  rw [← hr] at BA ⊢
  clear hr hz
  generalize w.alloc _ = wa at GA BA ⊢
  have GD := Lib.hid (show Below w.heap.size w wa.drew from Below.drew GA.out)
  have BD := Lib.hid (show Ba wa.drew r 43 z64 from BA.out)
  have S0 := Lib.hid (show wa.drew.cell? ⟨H, 0, none⟩ = some (.pointer (some ⟨Z, 0, none⟩)) from cell_of_row wa.drew H 0 _ _ (0, 0) ((GD.out.block H (lt_of_heap HH.out)).trans HH.out))
  refine restS_begin (fun v : World => v.cell? ⟨H, 0, none⟩ = some (.pointer (some ⟨Z, 0, none⟩))) (by kernel_rfl) ?_
  generalize wa.drew = wd at GD BD S0 ⊢
  clear GA BA
  refine restS_take (i := 0) S0.out rfl (by kernel_rfl) (by kernel_rfl) (by kernel_rfl) (by rfl) (fun v hv => by obtain v1 := hv; go_simp; try with_reducible rfl) ?_
  try simp only [Act.put, List.setIfInBounds_toArray, List.set_cons_zero, List.set_cons_succ]
  refine restS_take (i := 1) S0.out rfl (by kernel_rfl) (by kernel_rfl) (by kernel_rfl) (by rfl) (fun v hv => by obtain v1 := hv; go_simp; try with_reducible rfl) ?_
  try simp only [Act.put, List.setIfInBounds_toArray, List.set_cons_zero, List.set_cons_succ]
  refine restS_take (i := 2) S0.out rfl (by kernel_rfl) (by kernel_rfl) (by kernel_rfl) (by rfl) (fun v hv => by obtain v1 := hv; go_simp; try with_reducible rfl) ?_
  try simp only [Act.put, List.setIfInBounds_toArray, List.set_cons_zero, List.set_cons_succ]
  refine restS_take (i := 3) S0.out rfl (by kernel_rfl) (by kernel_rfl) (by kernel_rfl) (by rfl) (fun v hv => by obtain v1 := hv; go_simp; try with_reducible rfl) ?_
  try simp only [Act.put, List.setIfInBounds_toArray, List.set_cons_zero, List.set_cons_succ]
  refine restS_take (i := 4) S0.out rfl (by kernel_rfl) (by kernel_rfl) (by kernel_rfl) (by rfl) (fun v hv => by obtain v1 := hv; go_simp; try with_reducible rfl) ?_
  try simp only [Act.put, List.setIfInBounds_toArray, List.set_cons_zero, List.set_cons_succ]
  refine restS_take (i := 5) S0.out rfl (by kernel_rfl) (by kernel_rfl) (by kernel_rfl) (by rfl) (fun v hv => by obtain v1 := hv; go_simp; try with_reducible rfl) ?_
  try simp only [Act.put, List.setIfInBounds_toArray, List.set_cons_zero, List.set_cons_succ]
  refine restS_lone (i := 6) rfl (by kernel_rfl) (by rfl) (fun K hK => ?_)
  go_simp
  refine (query_any (c1 := c1) (c2 := c2) ((HK.out.below GD.out).more GD.out.size) HKn.out h2 ((HL.out.keep GD.out).more GD.out.size) HLn.out h4 HFl.out).mono ?_
  rintro e w1 ⟨rfl, hg1⟩
  have G1 := Lib.hid (show Grown w w1 from Below.trans GD.out (Below.mono hg1 GD.out.size))
  have B1 := Lib.hid (BD.out.grow hg1)
  have S1 := Lib.hid (show w1.cell? ⟨H, 0, none⟩ = some (.pointer (some ⟨Z, 0, none⟩)) from cell_of_row w1 H 0 _ _ (0, 0) ((G1.out.block H (lt_of_heap HH.out)).trans HH.out))
  clear hg1 GD BD S0
  refine hK.out _ _ S1.out ?_
  clear hK K
  try simp only [Act.put, List.setIfInBounds_toArray, List.set_cons_zero, List.set_cons_succ]
  refine restS_lone (i := 7) rfl (by kernel_rfl) (by rfl) (fun K hK => ?_)
  go_simp
  refine (tapeOk.func w1 Z FZ st sealN (sealQ key ls.flatten) 64 (tapeOk.grow HZ.out G1.out) HFew.out (by decide) HQ.out (by omega)).mono ?_
  intro e w2 hO
  rw [HE.out] at hO
  obtain ⟨A3, n3, c3, F', rfl, hl3, hc3, hr3, hoff, hL2, hF2, hC2⟩ := hO
  obtain rfl : n3 = 64 := by rw [← hl3]; exact HD.out
  obtain ⟨b3, o3, rfl, hb3, hrg⟩ := range_of_rd hr3 (by intro e0; rw [e0] at hl3; simp at hl3)
  have hlt1 : r < w1.heap.size := B1.out.lt
  have hFr : ¬ FZ r := fun h => by have := lz_foot w Z FZ st HZ.out r h; have := HR.out; omega
  have B2 := Lib.hid (B1.out.ch hC2 hFr)
  have S2 := Lib.hid (show w2.cell? ⟨H, 0, none⟩ = some (.pointer (some ⟨Z, 0, none⟩)) ∧ w2.rangeAt b3 o3 (bvs R.1) from ⟨(World.cell?_of_block (a := ⟨H, 0, none⟩) (hC2.block H (Nat.lt_of_lt_of_le (lt_of_heap HH.out) G1.out.size) HnF.out)).trans S1.out, hrg⟩)
  have L2 := Lib.hid hL2
  have F2 := Lib.hid hF2
  have C2 := Lib.hid hC2
  have HL1 := Lib.hid hlt1
  have HB3 := Lib.hid (show w1.heap.size ≤ b3 from (hoff _ rfl (by intro e0; rw [e0] at hl3; simp at hl3)).1)
  clear hl3 hc3 hr3 hoff hL2 hF2 hC2 hb3 hrg hlt1 hFr S1 B1
  refine hK.out _ _ S2.out.1 ?_
  clear hK K
  try simp only [Act.put, List.setIfInBounds_toArray, List.set_cons_zero, List.set_cons_succ]
  refine restS_more (S' := fun v : World => v.cell? ⟨H, 0, none⟩ = some (.pointer (some ⟨Z, 0, none⟩)) ∧ v.rangeAt b3 o3 (bvs R.1)) (fun _ h => h.1) ?_
  have harr := fun V : World => run_arr V 43 5 64 (some ⟨b3, o3, none⟩) 64 c3 u64a (Nat.le_refl _)
  refine restS_take (i := 8) S2.out rfl (by kernel_rfl) (by kernel_rfl) (by kernel_rfl) (by rfl) (fun v hv => by obtain ⟨v1, v2⟩ := hv; go_simp; try with_reducible rfl) ?_
  try simp only [Act.put, List.setIfInBounds_toArray, List.set_cons_zero, List.set_cons_succ]
  refine restS_rng (i := 9) S2.out rfl (by kernel_rfl) (by kernel_rfl) (by kernel_rfl) (by rfl) 43 (.tmp 15) rfl b3 o3 rfl (bvs R.1) _ (fun v hv => hv.2) u64a rfl (by rw [bvs_length, HD.out]; exact i64c) ?_
  try simp only [Act.put, List.setIfInBounds_toArray, List.set_cons_zero, List.set_cons_succ]
  refine restS_lone (i := 10) rfl (by kernel_rfl) (by rfl) (fun K hK => ?_)
  refine wp_store_ba i64c (.tmp 6) (.tmp 16) rfl rfl (by rfl) B2.out rfl HD.out ?_
  have O3 := fun k (hk : k ≠ r) => setRow_other (w := w2) (g := r) (cs := (bvs R.1).toArray) hk
  have HrH : H ≠ r := by have := lt_of_heap HH.out; have := HR.out; omega
  have S3 : (w2.setRow r (bvs R.1).toArray).cell? ⟨H, 0, none⟩ = some (.pointer (some ⟨Z, 0, none⟩)) ∧ (w2.setRow r (bvs R.1).toArray).rangeAt b3 o3 (bvs R.1) :=
    ⟨(World.cell?_of_block (a := ⟨H, 0, none⟩) (O3 H HrH)).trans S2.out.1, fun j v hv => (World.cell?_of_block (a := ⟨b3, o3 + j, none⟩) (O3 b3 (by have := HB3.out; have := HL1.out; omega))).trans (S2.out.2 j v hv)⟩
  refine hK.out _ _ S3 ?_
  clear hK K S3
  try simp only [Act.put, List.setIfInBounds_toArray, List.set_cons_zero, List.set_cons_succ]
  refine restS_done (by kernel_rfl) ?_
  have B3 := Lib.hid (B2.out.row R.1)
  have ON := Lib.hid (src_fin (w1 := w1) (w2 := w2) (w3 := w2.setRow r (bvs R.1).toArray) HZ1.out HH.out HnF.out HF.out (lz_foot w Z FZ st HZ.out) G1.out L2.out F2.out C2.out r (by have := HR.out; omega) HL1.out O3 (Go.setRow_size _ _ _) (setRow_rest _ _ _))
  generalize w2.setRow r _ = w3 at B3 ON ⊢
  clear O3 HrH S2 B2 L2 F2 C2
  go_wp2_with fail
  refine retRow rfl _ rfl B3.out u64a rfl (by rw [i64c]; simp [bvs_length, HD.out]) ⟨rfl, ON.out⟩
end Go.Proofs.YtjklgmhaebjjaaaGreat.S12
namespace Go.Proofs.YtjklgmhaebjjaaaGreat.S12
open S11
open Go.RowKit
set_option linter.unusedVariables false
set_option linter.unusedSimpArgs false

def zz32 : List UInt8 := List.replicate 32 0
theorem zq32 (V : World) : (zeroValue 51).run Tryz.prog V = .ok (.agg (bvs zz32).toArray) V := by kernel_rfl
set_option maxHeartbeats 4000000 in
set_option maxRecDepth 20000 in
theorem tag_src {w : World} {H : Nat} {F : Nat → Prop} {st : St} {i : Nat} {A1 A2 : Option Addr} {n1 c1 n2 c2 : Nat} {key : List UInt8} {ls : List (List UInt8)} (hS : Src w H F st) (hN : Nm st i) (hi : i ≤ 200) (h1 : Bes w F A1 n1 c1 key) (h2 : n1 ≤ 2000) (h3 : BesL w F A2 n2 c2 ls) (h4 : n2 ≤ 10) (h5 : ls.flatten.length ≤ 2500) :
    Calls Tryz.prog 70 #[.pointer (some ⟨H, 0, none⟩), .slice A1 n1 c1, .slice A2 n2 c2] w fun e w' => e = .returned (.agg (bvs (idealM.tag st key ls.flatten).1).toArray) ∧ Onw Src w H F (idealM.tag st key ls.flatten).2 w' := by
  obtain ⟨Z, FZ, hZ1, hH, hZ, hnF, hF⟩ := hS
  have HZ1 := Lib.hid hZ1
  clear hZ1
  have HH := Lib.hid hH
  have HZ := Lib.hid hZ
  have HnF := Lib.hid hnF
  have HF := Lib.hid hF
  have HFew := Lib.hid (few_nm hN hi)
  have HK := Lib.hid h1.1
  have HKn := Lib.hid h1.2.1
  have HL := Lib.hid h3.1
  have HLn := Lib.hid h3.2.1
  have HFl := Lib.hid h5
  have HD := Lib.hid (show (idealM.tag st key ls.flatten).1.length = 32 from idealM.len_tag st i key ls.flatten hN)
  have HE := Lib.hid (show fnOp st tagN (sealQ key ls.flatten) 32 = idealM.tag st key ls.flatten from rfl)
  have HQ := Lib.hid (show (sealQ key ls.flatten).length ≤ 5000 by unfold sealQ; rw [List.length_append, List.length_append, layL_len]; have := HKn.out; omega)
  clear hH hZ hnF hF hN h1 h3 h5
  obtain ⟨R, hR⟩ : ∃ R, R = idealM.tag st key ls.flatten := ⟨_, rfl⟩
  rw [← hR] at HD HE ⊢
  clear hR
  have hz : ∀ V : World, (zeroValue 51).run Tryz.prog V = .ok (.agg (bvs zz32).toArray) V := fun V => zq32 V
  go_enter Tryz.func70, Tryz.ntmps70
  go_wp2_with fail
  have GA := Lib.hid (alloc_below w (.cells (bvs zz32).toArray 51))
  have BA := Lib.hid (Ba.new w 51 zz32)
  obtain ⟨r, hr⟩ : ∃ r, r = w.heap.size := ⟨_, rfl⟩
  have HR := Lib.hid hr
  rw [← hr] at BA ⊢
  clear hr hz
  generalize w.alloc _ = wa at GA BA ⊢
  have GD := Lib.hid (show Below w.heap.size w wa.drew from Below.drew GA.out)
  have BD := Lib.hid (show Ba wa.drew r 51 zz32 from BA.out)
  have S0 := Lib.hid (show wa.drew.cell? ⟨H, 0, none⟩ = some (.pointer (some ⟨Z, 0, none⟩)) from cell_of_row wa.drew H 0 _ _ (0, 0) ((GD.out.block H (lt_of_heap HH.out)).trans HH.out))
  refine restS_begin (fun v : World => v.cell? ⟨H, 0, none⟩ = some (.pointer (some ⟨Z, 0, none⟩))) (by kernel_rfl) ?_
  generalize wa.drew = wd at GD BD S0 ⊢
  clear GA BA
  refine restS_take (i := 0) S0.out rfl (by kernel_rfl) (by kernel_rfl) (by kernel_rfl) (by rfl) (fun v hv => by obtain v1 := hv; go_simp; try with_reducible rfl) ?_
  try simp only [Act.put, List.setIfInBounds_toArray, List.set_cons_zero, List.set_cons_succ]
  refine restS_take (i := 1) S0.out rfl (by kernel_rfl) (by kernel_rfl) (by kernel_rfl) (by rfl) (fun v hv => by obtain v1 := hv; go_simp; try with_reducible rfl) ?_
  try simp only [Act.put, List.setIfInBounds_toArray, List.set_cons_zero, List.set_cons_succ]
  refine restS_take (i := 2) S0.out rfl (by kernel_rfl) (by kernel_rfl) (by kernel_rfl) (by rfl) (fun v hv => by obtain v1 := hv; go_simp; try with_reducible rfl) ?_
  try simp only [Act.put, List.setIfInBounds_toArray, List.set_cons_zero, List.set_cons_succ]
  refine restS_take (i := 3) S0.out rfl (by kernel_rfl) (by kernel_rfl) (by kernel_rfl) (by rfl) (fun v hv => by obtain v1 := hv; go_simp; try with_reducible rfl) ?_
  try simp only [Act.put, List.setIfInBounds_toArray, List.set_cons_zero, List.set_cons_succ]
  refine restS_take (i := 4) S0.out rfl (by kernel_rfl) (by kernel_rfl) (by kernel_rfl) (by rfl) (fun v hv => by obtain v1 := hv; go_simp; try with_reducible rfl) ?_
  try simp only [Act.put, List.setIfInBounds_toArray, List.set_cons_zero, List.set_cons_succ]
  refine restS_take (i := 5) S0.out rfl (by kernel_rfl) (by kernel_rfl) (by kernel_rfl) (by rfl) (fun v hv => by obtain v1 := hv; go_simp; try with_reducible rfl) ?_
  try simp only [Act.put, List.setIfInBounds_toArray, List.set_cons_zero, List.set_cons_succ]
  refine restS_lone (i := 6) rfl (by kernel_rfl) (by rfl) (fun K hK => ?_)
  go_simp
  refine (query_any (c1 := c1) (c2 := c2) ((HK.out.below GD.out).more GD.out.size) HKn.out h2 ((HL.out.keep GD.out).more GD.out.size) HLn.out h4 HFl.out).mono ?_
  rintro e w1 ⟨rfl, hg1⟩
  have G1 := Lib.hid (show Grown w w1 from Below.trans GD.out (Below.mono hg1 GD.out.size))
  have B1 := Lib.hid (BD.out.grow hg1)
  have S1 := Lib.hid (show w1.cell? ⟨H, 0, none⟩ = some (.pointer (some ⟨Z, 0, none⟩)) from cell_of_row w1 H 0 _ _ (0, 0) ((G1.out.block H (lt_of_heap HH.out)).trans HH.out))
  clear hg1 GD BD S0
  refine hK.out _ _ S1.out ?_
  clear hK K
  try simp only [Act.put, List.setIfInBounds_toArray, List.set_cons_zero, List.set_cons_succ]
  refine restS_lone (i := 7) rfl (by kernel_rfl) (by rfl) (fun K hK => ?_)
  go_simp
  refine (tapeOk.func w1 Z FZ st tagN (sealQ key ls.flatten) 32 (tapeOk.grow HZ.out G1.out) HFew.out (by decide) HQ.out (by omega)).mono ?_
  intro e w2 hO
  rw [HE.out] at hO
  obtain ⟨A3, n3, c3, F', rfl, hl3, hc3, hr3, hoff, hL2, hF2, hC2⟩ := hO
  obtain rfl : n3 = 32 := by rw [← hl3]; exact HD.out
  obtain ⟨b3, o3, rfl, hb3, hrg⟩ := range_of_rd hr3 (by intro e0; rw [e0] at hl3; simp at hl3)
  have hlt1 : r < w1.heap.size := B1.out.lt
  have hFr : ¬ FZ r := fun h => by have := lz_foot w Z FZ st HZ.out r h; have := HR.out; omega
  have B2 := Lib.hid (B1.out.ch hC2 hFr)
  have S2 := Lib.hid (show w2.cell? ⟨H, 0, none⟩ = some (.pointer (some ⟨Z, 0, none⟩)) ∧ w2.rangeAt b3 o3 (bvs R.1) from ⟨(World.cell?_of_block (a := ⟨H, 0, none⟩) (hC2.block H (Nat.lt_of_lt_of_le (lt_of_heap HH.out) G1.out.size) HnF.out)).trans S1.out, hrg⟩)
  have L2 := Lib.hid hL2
  have F2 := Lib.hid hF2
  have C2 := Lib.hid hC2
  have HL1 := Lib.hid hlt1
  have HB3 := Lib.hid (show w1.heap.size ≤ b3 from (hoff _ rfl (by intro e0; rw [e0] at hl3; simp at hl3)).1)
  clear hl3 hc3 hr3 hoff hL2 hF2 hC2 hb3 hrg hlt1 hFr S1 B1
  refine hK.out _ _ S2.out.1 ?_
  clear hK K
  try simp only [Act.put, List.setIfInBounds_toArray, List.set_cons_zero, List.set_cons_succ]
  refine restS_more (S' := fun v : World => v.cell? ⟨H, 0, none⟩ = some (.pointer (some ⟨Z, 0, none⟩)) ∧ v.rangeAt b3 o3 (bvs R.1)) (fun _ h => h.1) ?_
  have harr := fun V : World => run_arr V 51 5 32 (some ⟨b3, o3, none⟩) 32 c3 u32a (Nat.le_refl _)
  refine restS_take (i := 8) S2.out rfl (by kernel_rfl) (by kernel_rfl) (by kernel_rfl) (by rfl) (fun v hv => by obtain ⟨v1, v2⟩ := hv; go_simp; try with_reducible rfl) ?_
  try simp only [Act.put, List.setIfInBounds_toArray, List.set_cons_zero, List.set_cons_succ]
  refine restS_rng (i := 9) S2.out rfl (by kernel_rfl) (by kernel_rfl) (by kernel_rfl) (by rfl) 51 (.tmp 15) rfl b3 o3 rfl (bvs R.1) _ (fun v hv => hv.2) u32a rfl (by rw [bvs_length, HD.out]; exact i32c) ?_
  try simp only [Act.put, List.setIfInBounds_toArray, List.set_cons_zero, List.set_cons_succ]
  refine restS_lone (i := 10) rfl (by kernel_rfl) (by rfl) (fun K hK => ?_)
  refine wp_store_ba i32c (.tmp 6) (.tmp 16) rfl rfl (by rfl) B2.out rfl HD.out ?_
  have O3 := fun k (hk : k ≠ r) => setRow_other (w := w2) (g := r) (cs := (bvs R.1).toArray) hk
  have HrH : H ≠ r := by have := lt_of_heap HH.out; have := HR.out; omega
  have S3 : (w2.setRow r (bvs R.1).toArray).cell? ⟨H, 0, none⟩ = some (.pointer (some ⟨Z, 0, none⟩)) ∧ (w2.setRow r (bvs R.1).toArray).rangeAt b3 o3 (bvs R.1) :=
    ⟨(World.cell?_of_block (a := ⟨H, 0, none⟩) (O3 H HrH)).trans S2.out.1, fun j v hv => (World.cell?_of_block (a := ⟨b3, o3 + j, none⟩) (O3 b3 (by have := HB3.out; have := HL1.out; omega))).trans (S2.out.2 j v hv)⟩
  refine hK.out _ _ S3 ?_
  clear hK K S3
  try simp only [Act.put, List.setIfInBounds_toArray, List.set_cons_zero, List.set_cons_succ]
  refine restS_done (by kernel_rfl) ?_
  have B3 := Lib.hid (B2.out.row R.1)
  have ON := Lib.hid (src_fin (w1 := w1) (w2 := w2) (w3 := w2.setRow r (bvs R.1).toArray) HZ1.out HH.out HnF.out HF.out (lz_foot w Z FZ st HZ.out) G1.out L2.out F2.out C2.out r (by have := HR.out; omega) HL1.out O3 (Go.setRow_size _ _ _) (setRow_rest _ _ _))
  generalize w2.setRow r _ = w3 at B3 ON ⊢
  clear O3 HrH S2 B2 L2 F2 C2
  go_wp2_with fail
  refine retRow rfl _ rfl B3.out u32a rfl (by rw [i32c]; simp [bvs_length, HD.out]) ⟨rfl, ON.out⟩

def zz16 : List UInt8 := List.replicate 16 0
theorem zq16 (V : World) : (zeroValue 62).run Tryz.prog V = .ok (.agg (bvs zz16).toArray) V := by kernel_rfl
set_option maxHeartbeats 4000000 in
set_option maxRecDepth 20000 in
theorem nonce_src {w : World} {H : Nat} {F : Nat → Prop} {st : St} {i : Nat} (hS : Src w H F st) (hN : Nm st i) (hi : i ≤ 200) :
    Calls Tryz.prog 67 #[.pointer (some ⟨H, 0, none⟩)] w fun e w' => e = .returned (.agg (bvs (idealM.nonce st).1).toArray) ∧ Onw Src w H F (idealM.nonce st).2 w' := by
  obtain ⟨Z, FZ, hZ1, hH, hZ, hnF, hF⟩ := hS
  have HZ1 := Lib.hid hZ1
  clear hZ1
  have HH := Lib.hid hH
  have HZ := Lib.hid hZ
  have HnF := Lib.hid hnF
  have HF := Lib.hid hF
  have HFew := Lib.hid (few_nm hN hi)
  have HD := Lib.hid (show (idealM.nonce st).1.length = 16 from idealM.len_nonce st i hN)
  have HE := Lib.hid (show drOp st 16 = idealM.nonce st from rfl)
  clear hH hZ hnF hF hN
  obtain ⟨R, hR⟩ : ∃ R, R = idealM.nonce st := ⟨_, rfl⟩
  rw [← hR] at HD HE ⊢
  clear hR
  have hz : ∀ V : World, (zeroValue 62).run Tryz.prog V = .ok (.agg (bvs zz16).toArray) V := fun V => zq16 V
  go_enter Tryz.func67, Tryz.ntmps67
  have s0 : ∀ o, (w.alloc o).cell? ⟨H, 0, none⟩ = some (.pointer (some ⟨Z, 0, none⟩)) := fun o => cell_of_row _ H 0 _ _ (0, 0) (((alloc_below w o).block H (lt_of_heap HH.out)).trans HH.out)
  go_wp2_with fail
  have GA := Lib.hid (alloc_below w (.cells (bvs zz16).toArray 62))
  have BA := Lib.hid (Ba.new w 62 zz16)
  obtain ⟨r, hr⟩ : ∃ r, r = w.heap.size := ⟨_, rfl⟩
  have HR := Lib.hid hr
  rw [← hr] at BA ⊢
  clear hr hz s0
  generalize w.alloc _ = w1 at GA BA ⊢
  have HL1 := Lib.hid BA.out.lt
  refine (tapeOk.draw w1 Z FZ st 16 (tapeOk.grow HZ.out GA.out) HFew.out (by omega)).mono ?_
  intro e w2 hO
  rw [HE.out] at hO
  obtain ⟨A3, n3, c3, F', rfl, hl3, hc3, hr3, hoff, hL2, hF2, hC2⟩ := hO
  obtain rfl : n3 = 16 := by rw [← hl3]; exact HD.out
  obtain ⟨b3, o3, rfl, hb3, hrg⟩ := range_of_rd hr3 (by intro e0; rw [e0] at hl3; simp at hl3)
  have hFr : ¬ FZ r := fun h => by have := lz_foot w Z FZ st HZ.out r h; have := HR.out; omega
  have B2 := Lib.hid (BA.out.ch hC2 hFr)
  have RG := Lib.hid hrg
  have harr := fun V : World => run_arr V 62 5 16 (some ⟨b3, o3, none⟩) 16 c3 u16c (Nat.le_refl _)
  have L2 := Lib.hid hL2
  have F2 := Lib.hid hF2
  have C2 := Lib.hid hC2
  clear hl3 hc3 hr3 hoff hL2 hF2 hC2 hb3 hrg hFr
  go_wp2_with (first
    | (refine wpList_plain rfl fun K hK => wp_load_mid 62 (.tmp 8) rfl b3 o3 rfl (bvs R.1) _ RG.out u16c rfl (by rw [bvs_length, HD.out]; exact i16c) ?_
       refine hK _ _ ?_
       clear hK K)
    | (refine wpList_store_ba rfl i16c (.tmp 2) (.tmp 9) rfl rfl (by rfl) B2.out rfl HD.out ?_
       have O3 := fun k (hk : k ≠ r) => setRow_other (w := w2) (g := r) (cs := (bvs R.1).toArray) hk
       have B3 := Lib.hid (B2.out.row R.1)
       have ON := Lib.hid (src_fin (w1 := w1) (w2 := w2) (w3 := w2.setRow r (bvs R.1).toArray) HZ1.out HH.out HnF.out HF.out (lz_foot w Z FZ st HZ.out) GA.out L2.out F2.out C2.out r (by have := HR.out; omega) HL1.out O3 (Go.setRow_size _ _ _) (setRow_rest _ _ _))
       generalize w2.setRow r _ = w3 at B3 ON ⊢))
  exact retRow rfl _ rfl B3.out u16c rfl (by rw [i16c]; simp [bvs_length, HD.out]) ⟨rfl, ON.out⟩
end Go.Proofs.YtjklgmhaebjjaaaGreat.S12
