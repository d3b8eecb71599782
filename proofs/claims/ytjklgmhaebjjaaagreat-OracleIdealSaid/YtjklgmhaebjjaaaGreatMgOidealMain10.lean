/-
  The program's strings.Builder: copyCheck, Write. Contract of the reference's Draw (tape).
-/
import Derived.Test.YtjklgmhaebjjaaaGreatMgOidealMain1
import Derived.Test.YtjklgmhaebjjaaaGreatMgOidealMain5
import Derived.Test.YtjklgmhaebjjaaaGreatMgOidealMain6
import Derived.Test.YtjklgmhaebjjaaaGreatMgOidealMain8
import Derived.Test.YtjklgmhaebjjaaaGreatMgOidealMain9
import Derived.Shelf.Strings.Builder1
namespace Go.Proofs.YtjklgmhaebjjaaaGreat.S12
open S11
open Go.RowKit
set_option linter.unusedVariables false
set_option linter.unusedSimpArgs false

abbrev Bl (w : World) (B b : Nat) (l : List UInt8) : Prop := Lib.IsBuilder 141 5 B b (bvs l) w
theorem szB : (Tryz.prog.info? 141).map (·.size) = some 2 := by kernel_rfl
theorem liesB : liesAt Tryz.prog Tryz.prog.depth 141 (2 / Tryz.prog.cellsOf 141) 0 141 1 = true := by kernel_rfl
set_option maxHeartbeats 1000000 in
set_option maxRecDepth 100000 in
theorem cc_used (b : Nat) (w : World) (h0 : w.cell? ⟨b, 0, none⟩ = some (.pointer (some ⟨b, 0, none⟩))) :
    Calls Tryz.prog 87 #[.pointer (some ⟨b, 0, none⟩)] w fun e w' => e = .returned (.tuple #[]) ∧ w' = w := by
  obtain ⟨j, hj, _⟩ := Option.map_eq_some_iff.1 szB
  go_enter Tryz.func87, Tryz.ntmps87
  go_wp2
  rw [Lib.run_neq_ptr_same w _ Tryz.underlying139 hj]
  go_wp2
  go_end0
  exact ⟨rfl, rfl⟩
set_option maxHeartbeats 1000000 in
set_option maxRecDepth 100000 in
theorem cc_fresh (b : Nat) (w : World) (h0 : w.cell? ⟨b, 0, none⟩ = some (.pointer none)) (hsh : w.shape? b = some (141, 2)) (hfz : w.frozen? ⟨b, 0, none⟩ = false) :
    Calls Tryz.prog 87 #[.pointer (some ⟨b, 0, none⟩)] w fun e w' => e = .returned (.tuple #[]) ∧ w' = w.setCell ⟨b, 0, none⟩ (.pointer (some ⟨b, 0, none⟩)) := by
  obtain ⟨j, hj, hjs⟩ := Option.map_eq_some_iff.1 szB
  go_enter Tryz.func87, Tryz.ntmps87
  go_wp2
  rw [Lib.run_to_unsafe w ⟨b, 0, none⟩ Tryz.underlying139 Tryz.underlying151 hj (by rw [hjs]; decide) hsh (Nat.zero_lt_succ 1)]
  simp only [Result.andThen]
  rw [Oper.upon_value]
  go_wp2
  rw [run_callFunc_extern Tryz.func89 (by kernel_rfl) (by kernel_rfl) (by kernel_rfl) (e := Extern.AbiNoEscape.same) (by kernel_rfl)]
  rw [Lib.run_noEscape]
  simp only [Result.andThen]
  rw [Oper.upon_value]
  go_wp2
  rw [Lib.run_from_unsafe w ⟨b, 0, none⟩ Tryz.underlying151 Tryz.underlying139 hj hsh liesB]
  simp only [Result.andThen]
  rw [Oper.upon_value]
  go_wp2
  go_end0
  exact ⟨rfl, rfl⟩
/-- Behind copyCheck it is used; nothing else has turned. -/
theorem cc_any {w : World} {B b : Nat} {l : List UInt8} (h : Bl w B b l) : Calls Tryz.prog 87 #[.pointer (some ⟨b, 0, none⟩)] w fun e w' =>
    e = .returned (.tuple #[]) ∧ Lib.BuilderAt 141 5 B b (.pointer (some ⟨b, 0, none⟩)) (bvs l) w' ∧ Below B w w' ∧ (∀ k, k ≠ b → w'.heap[k]? = w.heap[k]?) ∧ w'.heap.size = w.heap.size := by
  rcases h with h | h
  · refine (cc_fresh b w h.cell0 h.shape h.frozen0).mono ?_
    rintro e w' ⟨rfl, rfl⟩
    exact ⟨rfl, h.used _, (Below.refl B w).setCell (p := ⟨b, 0, none⟩) h.1 _, fun k hk => heap_setCell_other w ⟨b, 0, none⟩ k _ (fun e => hk e), by simp⟩
  · refine (cc_used b w h.cell0).mono ?_
    rintro e w' ⟨rfl, rfl⟩
    exact ⟨rfl, h, Below.refl B _, fun _ _ => rfl, rfl⟩
theorem wpList_appG {w : World} {ops : Array Oper} {rest : List Oper} {o : Oper} {a : Act} {Q : Exit → Act → World → Prop} (hgd : o.guard = none) (s x : Operand) (ho : o.op = .call { callee := .builtin .append, args := #[s, x], argTypes := #[22, 22] })
    {base : Nat} {A : Option Addr} {n c : Nat} {l : List UInt8} (hs : a.eval s = .slice A n c) (hn : l.length = n) (h : Own w base A c l) {B2 : Nat} {A2 : Option Addr} {n2 c2 : Nat} {l2 : List UInt8} (hx : a.eval x = .slice A2 n2 c2) (hn2 : l2.length = n2) (h2 : Rd w B2 A2 l2)
    (hl : n + n2 ≤ 4294967296) (hbase : base ≤ w.heap.size)
    (hk : ∀ A' c' w', Own w' base A' c' (l ++ l2) → w.grownBy w' (Value.slice A n c).ownBlock → Moved w A A' → wpList Tryz.prog ops Q rest (a.put o.dst (.slice A' (n + n2) c')) w') : wpList Tryz.prog ops Q (o :: rest) a w := by
  refine wpList_plain hgd fun _ hK => ?_
  subst hn hn2
  obtain ⟨A', c', w', hrun, h3, h4, h5⟩ := run_appS h c2 h2 hl hbase o.type
  unfold Oper.wp execOp
  simp only [ho, resolve, invoke, builtin, Sem.run_bind, Sem.run_pure, Result.andThen_ok, List.map_toArray, List.map_cons, List.map_nil, hs, hx, hrun]
  have := hk A' c' w' h3 h4 h5
  rw [← List.length_append] at this
  exact hK _ _ this
theorem ownKeep {w w' : World} {base : Nat} {A : Option Addr} {c : Nat} {l : List UInt8} (h : Own w base A c l) (hk : ∀ x, A = some x → w'.heap[x.block]? = w.heap[x.block]?) : Own w' base A c l := by
  refine ⟨h.1, ?_⟩
  rcases h.2 with h1 | ⟨g, cap, cur, h1, h2, h3, r⟩
  · exact .inl h1
  · simp only [Value.slice.injEq] at h1
    obtain ⟨rfl, _, rfl⟩ := h1
    exact .inr ⟨g, _, cur, by simp, h2, (hk _ rfl).trans h3, r⟩
set_option maxHeartbeats 4000000 in
/-- Write: the bytes of a slice that lies elsewhere. -/
theorem write_any {w : World} {B b : Nat} {l m : List UInt8} {A : Option Addr} {n c : Nat} (h : Bl w B b l) (hr : Rd w w.heap.size A m) (hn : m.length = n) (hA : ∀ x, A = some x → m ≠ [] → x.block ≠ b) (hl : l.length + n ≤ 100000) (hB : B ≤ w.heap.size) :
    Calls Tryz.prog 83 #[.pointer (some ⟨b, 0, none⟩), .slice A n c] w fun e w' => e = .returned (.tuple #[.int .i64 (n : Int), .nilIface]) ∧ Bl w' B b (l ++ m) ∧ Below B w w' := by
  have H0 := Lib.hid h
  have HL := Lib.hid hl
  have HN := Lib.hid hn
  clear h hl hn
  go_enter Tryz.func83, Tryz.ntmps83
  go_wp2_with fail
  refine (cc_any H0.out).mono ?_
  rintro e w1 ⟨rfl, ⟨hb0, v, hv1, hv2, hv3⟩, hbel, hsame, hsz⟩
  obtain ⟨A0, c0, rfl, ho⟩ : ∃ A0 c0, v = .slice A0 l.length c0 ∧ Own w1 B A0 c0 l := by
    rw [bvs_length] at hv2
    have hv2' := hv2
    rcases hv2'.2 with ⟨h1, h2⟩ | ⟨g, cap, cur, h1, _⟩
    · exact ⟨none, 0, by rw [h1, h2], by rw [h1] at hv2; unfold Own; rw [h2]; rw [h2] at hv2; exact hv2⟩
    · exact ⟨some ⟨g, 0, none⟩, cap, h1, by rw [h1] at hv2; exact hv2⟩
  have c1 : w1.cell? ⟨b, 1, none⟩ = some (.slice A0 l.length c0) := cell_of_row w1 b 1 _ _ (0, 0) hv1
  have hr1 : Rd w1 w1.heap.size A m := by
    by_cases hm : m = []
    · exact .inl hm
    rcases hr with e | ⟨g, off, rfl, hg, hc⟩
    · exact .inl e
    · exact .inr ⟨g, off, rfl, by omega, fun j hj => (World.cell?_of_block (a := ⟨g, off + j, none⟩) (hsame g (hA _ rfl hm))).trans (hc j hj)⟩
  have HO := Lib.hid ho
  have HR := Lib.hid hr1
  have HB1 := Lib.hid hbel
  have HV := Lib.hid hv1
  have HV3 := Lib.hid hv3
  have HSz := Lib.hid (show B ≤ w1.heap.size by omega)
  clear hr hA hsame hv1 hv2 hv3 ho hr1 hbel H0 hsz hB
  go_wp2_with (first
    | (at_builtin
       refine wpList_appG rfl (.tmp 12) (.tmp 13) rfl rfl rfl HO.out rfl HN.out HR.out (by have := HL.out; omega) HSz.out ?_
       intro A9 cc9 w9 ho9 hg9 hm9
       have hblt : b < w1.heap.size := lt_of_heap HV.out
       have hb9 : w9.heap[b]? = some (.cells #[.pointer (some ⟨b, 0, none⟩), .slice A0 l.length c0] 141 (0, 0)) := (hg9.block b hblt (fun e => HV3.out e.symm)).trans HV.out
       have c9 : w9.cell? ⟨b, 1, none⟩ = some (.slice A0 l.length c0) := cell_of_row w9 b 1 _ _ (0, 0) hb9
       have f9 : w9.frozen? ⟨b, 1, none⟩ = false := frozen_of_row w9 b 1 _ _ hb9
       have O9 := Lib.hid ho9
       have G9 := Lib.hid hg9
       have M9 := Lib.hid hm9
       have V9 := Lib.hid hb9
       clear ho9 hg9 hm9 hb9))
  go_ret2
  have hbn : ∀ x, A9 = some x → x.block ≠ b := by
    intro x hx e
    rcases M9.out with e2 | ⟨y, hy, hy2⟩
    · rw [e2] at hx
      subst hx
      exact HV3.out (by simp [Value.ownBlock, e])
    · rw [hy] at hx
      simp only [Option.some.injEq] at hx
      subst hx
      omega
  have hown : Own (w9.setCell ⟨b, 1, none⟩ (.slice A9 (l.length + n) cc9)) B A9 cc9 (l ++ m) := ownKeep O9.out fun x hx => heap_setCell_other w9 ⟨b, 1, none⟩ x.block _ (fun e => hbn x hx (by simpa using e))
  refine ⟨rfl, .inr ⟨hb0, .slice A9 (l.length + n) cc9, ?_, ?_, ?_⟩, ?_⟩
  · rw [heap_setCell_same w9 b 1 _ _ _ V9.out]; rfl
  · have := hown
    unfold Own at this
    rw [List.length_append, HN.out] at this
    rw [bvs_length, List.length_append, HN.out]
    exact this
  · cases A9 with
    | none => simp [Value.ownBlock]
    | some x => simpa [Value.ownBlock] using hbn x rfl
  · refine (Below.trans HB1.out ?_).setCell (p := ⟨b, 1, none⟩) hb0 _
    refine ⟨G9.out.os, G9.out.tape, G9.out.output, G9.out.size, fun k hk => G9.out.block k (by have := HSz.out; omega) fun e => ?_⟩
    cases A0 with
    | none => simp [Value.ownBlock] at e
    | some x =>
      have := (HO.out.lt x rfl).1
      simp [Value.ownBlock] at e
      omega
end Go.Proofs.YtjklgmhaebjjaaaGreat.S12
namespace Go.Proofs.YtjklgmhaebjjaaaGreat.S11
open Go.RowKit
set_option linter.unusedVariables false
set_option linter.unusedSimpArgs false

theorem cut_one (W : World) (A : Option Addr) (m c : Nat) (h : 1 ≤ m) : (Instr.slice 22 (.slice A m c) (some (.int .i64 1)) none none).run Tryz.prog W = .ok (.slice (if c = 1 then A else A.map (·.add 1)) (m - 1) (c - 1)) W := by
  obtain ⟨i0, hi, hz0, hz1, hz2⟩ := info_parts info5
  have he : Tryz.prog.elem 22 = 5 := by kernel_rfl
  rw [run_slice_l W 22 A m c (by rw [he]; exact Tryz.underlying22) .i64 1 (by omega) (by omega), he]
  simp [sizeOf, typeInfo, hi, hz1, sliced, Result.andThen]
section
variable {w : World} {B base R : Nat} {Af Ap : Option Addr} {st : St}
theorem OwnR.offR {cf : Nat} {ts : List T3} {cs : Array Value} {A : Option Addr} (h : OwnR w base A cf ts) (hR : w.heap[R]? = some (.cells cs 31 (0, 0))) (j : Nat) (u : Value) : OwnR (w.setCell ⟨R, j, none⟩ u) base A cf ts := by
  refine h.keep fun x hx => heap_setCell_other w _ _ _ fun e => ?_
  rcases h.form with ⟨e1, _⟩ | ⟨g, cur, e1, _, hh, _⟩
  · rw [e1] at hx; cases hx
  · rw [e1] at hx
    simp only [Option.some.injEq] at hx
    subst hx
    simp only at e
    rw [e, hR] at hh
    injection hh with hh
    injection hh with _ ht
    exact absurd ht (by decide)
theorem Rz.setSeed (h : Rz w B base R Af Ap st) (hB : B ≤ base) {A2 : Option Addr} {n2 c2 : Nat} {s2 : List UInt8} (hn : s2.length = n2) (hc : n2 ≤ c2) (hr : Rd w B A2 s2) : Rz (w.setCell ⟨R, 0, none⟩ (.slice A2 n2 c2)) B base R Af Ap { st with seed := s2 } := by
  obtain ⟨hb, hap, A, n, c, cf, cp, hR, h1, h2, h3, h4, h5⟩ := h
  have hr2 : Rd (w.setCell ⟨R, 0, none⟩ (.slice A2 n2 c2)) B A2 s2 := hr.keep fun p hp => World.cell?_of_block (heap_setCell_other w ⟨R, 0, none⟩ p.block _ (fun e => by simp only at e; omega))
  refine ⟨hb, hap, A2, n2, c2, cf, cp, ?_, hn, hc, hr2, h4.offR hR 0 _, h5.offR hR 0 _⟩
  rw [heap_setCell_same w R 0 _ _ _ hR]
  rfl
theorem Rz.setBad (h : Rz w B base R Af Ap st) (hB : B ≤ base) (b : Bool) : Rz (w.setCell ⟨R, 3, none⟩ (.bool b)) B base R Af Ap { st with bad := b } := by
  obtain ⟨hb, hap, A, n, c, cf, cp, hR, h1, h2, h3, h4, h5⟩ := h
  refine ⟨hb, hap, A, n, c, cf, cp, ?_, h1, h2, h3.keep fun p hp => World.cell?_of_block (heap_setCell_other w ⟨R, 3, none⟩ p.block _ (fun e => by simp only at e; omega)), h4.offR hR 3 _, h5.offR hR 3 _⟩
  rw [heap_setCell_same w R 3 _ _ _ hR]
  rfl
theorem Rz.setCnt (h : Rz w B base R Af Ap st) (hB : B ≤ base) (k : Nat) : Rz (w.setCell ⟨R, 4, none⟩ (.int .i64 (k : Int))) B base R Af Ap { st with cnt := k } := by
  obtain ⟨hb, hap, A, n, c, cf, cp, hR, h1, h2, h3, h4, h5⟩ := h
  refine ⟨hb, hap, A, n, c, cf, cp, ?_, h1, h2, h3.keep fun p hp => World.cell?_of_block (heap_setCell_other w ⟨R, 4, none⟩ p.block _ (fun e => by simp only at e; omega)), h4.offR hR 4 _, h5.offR hR 4 _⟩
  rw [heap_setCell_same w R 4 _ _ _ hR]
  rfl
theorem OwnR.notR {cf : Nat} {ts : List T3} {cs : Array Value} {A : Option Addr} (h : OwnR w base A cf ts) (hR : w.heap[R]? = some (.cells cs 31 (0, 0))) : ∀ x, A = some x → x.block ≠ R := by
  intro x hx e
  rcases h.form with ⟨e1, _⟩ | ⟨g, cur, e1, _, hh, _⟩
  · rw [e1] at hx; cases hx
  · rw [e1] at hx
    simp only [Option.some.injEq] at hx
    subst hx
    simp only at e
    rw [e, hR] at hh
    injection hh with hh
    injection hh with _ ht
    exact absurd ht (by decide)
theorem own_blk {A : Option Addr} {n c k : Nat} (h : some k = (Value.slice A n c).ownBlock) : ∃ x, A = some x ∧ x.block = k := by
  cases A with
  | none => simp [Value.ownBlock] at h
  | some x => simp [Value.ownBlock] at h; exact ⟨x, rfl, h.symm⟩
/-- One more is told of functions. -/
theorem Rz.putFs {w' : World} {Af' : Option Addr} {cf cf' nf : Nat} {t : T3} (h : Rz w B base R Af Ap st) (hB : B ≤ base) (hc1 : w.cell? ⟨R, 1, none⟩ = some (.slice Af nf cf)) (hnf : st.fs.length = nf) (hg : w.grownBy w' (Value.slice Af nf cf).ownBlock) (ho : OwnR w' base Af' cf' (st.fs ++ [t])) (hm : Moved w Af Af') :
    Rz (w'.setCell ⟨R, 1, none⟩ (.slice Af' (nf + 1) cf')) B base R Af' Ap { st with fs := st.fs ++ [t] } ∧ Ch (RF R Af Ap) w (w'.setCell ⟨R, 1, none⟩ (.slice Af' (nf + 1) cf')) ∧ (∃ u, w'.cell? ⟨R, 1, none⟩ = some u) ∧ w'.frozen? ⟨R, 1, none⟩ = false := by
  obtain ⟨hb, hap, A, n, c, cf0, cp, hR, h1, h2, h3, h4, h5⟩ := h
  have hR' : w'.heap[R]? = some (.cells (LzC A n c Af st.fs.length cf0 Ap st.ps.length cp st.bad (st.cnt : Int)) 31 (0, 0)) :=
    (hg.block R (lt_of_heap hR) (fun e => by obtain ⟨x, hx, e2⟩ := own_blk e; exact h4.notR hR x hx e2)).trans hR
  have hch : Ch (RF R Af Ap) w w' := ⟨hg.os, hg.tape, hg.output, hg.size, fun k hk hf => hg.block k hk (fun e => by obtain ⟨x, hx, e2⟩ := own_blk e; exact hf (.inr (.inl ⟨x, hx, e2⟩)))⟩
  have hrd : Rd w' B A st.seed := h3.keep fun p hp => World.cell?_of_block (hg.block p.block (by have := lt_of_heap hR; omega) (fun e => by
    obtain ⟨x, hx, e2⟩ := own_blk e
    have := (h4.lt x hx).1
    omega))
  have h5' : OwnR w' base Ap cp st.ps := h5.keep fun x hx => hg.block x.block (h5.lt x hx).2 (fun e => by
    obtain ⟨y, hy, e2⟩ := own_blk e
    exact hap y x hy hx e2)
  refine ⟨⟨hb, ?_, A, n, c, cf', cp, ?_, h1, h2, hrd.keep fun p hp => World.cell?_of_block (heap_setCell_other w' ⟨R, 1, none⟩ p.block _ (fun e => by simp only at e; omega)), ho.offR hR' 1 _, h5'.offR hR' 1 _⟩, Ch.setCell hch (p := ⟨R, 1, none⟩) (.inl (.inl rfl)) _, ⟨_, cell_of_row w' R 1 _ _ (0, 0) hR'⟩, frozen_of_row w' R 1 _ _ hR'⟩
  · intro x y hx hy e
    rcases hm with rfl | ⟨z, hz, hz2⟩
    · exact hap x y hx hy e
    · rw [hz] at hx
      simp only [Option.some.injEq] at hx
      subst hx
      have := (h5.lt y hy).2
      omega
  · rw [heap_setCell_same w' R 1 _ _ _ hR']
    simp only [LzC, List.length_append, List.length_cons, List.length_nil, hnf]
    rfl
/-- One more is told of permutations. -/
theorem Rz.putPs {w' : World} {Ap' : Option Addr} {cp cp' np : Nat} {t : T3} (h : Rz w B base R Af Ap st) (hB : B ≤ base) (hc1 : w.cell? ⟨R, 2, none⟩ = some (.slice Ap np cp)) (hnp : st.ps.length = np) (hg : w.grownBy w' (Value.slice Ap np cp).ownBlock) (ho : OwnR w' base Ap' cp' (st.ps ++ [t])) (hm : Moved w Ap Ap') :
    Rz (w'.setCell ⟨R, 2, none⟩ (.slice Ap' (np + 1) cp')) B base R Af Ap' { st with ps := st.ps ++ [t] } ∧ Ch (RF R Af Ap) w (w'.setCell ⟨R, 2, none⟩ (.slice Ap' (np + 1) cp')) ∧ (∃ u, w'.cell? ⟨R, 2, none⟩ = some u) ∧ w'.frozen? ⟨R, 2, none⟩ = false := by
  obtain ⟨hb, hap, A, n, c, cf, cp0, hR, h1, h2, h3, h4, h5⟩ := h
  have hR' : w'.heap[R]? = some (.cells (LzC A n c Af st.fs.length cf Ap st.ps.length cp0 st.bad (st.cnt : Int)) 31 (0, 0)) :=
    (hg.block R (lt_of_heap hR) (fun e => by obtain ⟨x, hx, e2⟩ := own_blk e; exact h5.notR hR x hx e2)).trans hR
  have hch : Ch (RF R Af Ap) w w' := ⟨hg.os, hg.tape, hg.output, hg.size, fun k hk hf => hg.block k hk (fun e => by obtain ⟨x, hx, e2⟩ := own_blk e; exact hf (.inr (.inr ⟨x, hx, e2⟩)))⟩
  have hrd : Rd w' B A st.seed := h3.keep fun p hp => World.cell?_of_block (hg.block p.block (by have := lt_of_heap hR; omega) (fun e => by
    obtain ⟨x, hx, e2⟩ := own_blk e
    have := (h5.lt x hx).1
    omega))
  have h4' : OwnR w' base Af cf st.fs := h4.keep fun x hx => hg.block x.block (h4.lt x hx).2 (fun e => by
    obtain ⟨y, hy, e2⟩ := own_blk e
    exact hap x y hx hy e2.symm)
  refine ⟨⟨hb, ?_, A, n, c, cf, cp', ?_, h1, h2, hrd.keep fun p hp => World.cell?_of_block (heap_setCell_other w' ⟨R, 2, none⟩ p.block _ (fun e => by simp only at e; omega)), h4'.offR hR' 2 _, ho.offR hR' 2 _⟩, Ch.setCell hch (p := ⟨R, 2, none⟩) (.inl (.inl rfl)) _, ⟨_, cell_of_row w' R 2 _ _ (0, 0) hR'⟩, frozen_of_row w' R 2 _ _ hR'⟩
  · intro x y hx hy e
    rcases hm with rfl | ⟨z, hz, hz2⟩
    · exact hap x y hx hy e
    · rw [hz] at hy
      simp only [Option.some.injEq] at hy
      subst hy
      have := (h4.lt x hx).2
      omega
  · rw [heap_setCell_same w' R 2 _ _ _ hR']
    simp only [LzC, List.length_append, List.length_cons, List.length_nil, hnp]
    rfl
end
set_option maxHeartbeats 4000000 in
theorem refDraw_any (B base R : Nat) (Af Ap : Option Addr) (st : St) (n : Int) (w : World) (hB : B ≤ base) (hn : n ≤ 1000) (h : Rz w B base R Af Ap st) :
    Calls Tryz.prog 36 #[.pointer (some ⟨R, 0, none⟩), .int .i64 n] w fun e w' => e = .returned (.string ⟨(drOp st n).1.toArray⟩) ∧ Rz w' B base R Af Ap (drOp st n).2 ∧ Ch (fun k => k = R) w w' := by
  have H0 := Lib.hid h
  have HLT := Lib.hid (show ∀ k, RF R Af Ap k → k < w.heap.size from fun k hk => (h.lt k hk).2)
  have HB := Lib.hid (show B ≤ w.heap.size by have := h.lt R (.inl rfl); omega)
  clear h
  go_enter Tryz.func36, Tryz.ntmps36
  go_wp2
  go_loopw [5, 6] (fun v5 v6 wr => ∃ (i : Nat) (A5 : Option Addr) (c5 : Nat), v5 = .slice A5 i c5 ∧ v6 = .int .i64 (i : Int) ∧ i ≤ n.toNat ∧ Hid (Own wr w.heap.size A5 c5 (drawO st.seed i)) ∧ Hid (Rz wr B base R Af Ap (dropS st i)) ∧ Hid (Ch (fun k => k = R) w wr)) (fun _ v6 _ => n.toNat - (intOf v6).toNat)
  case atStart => exact ⟨0, none, 0, rfl, rfl, Nat.zero_le _, Own.nil _ _, H0.out, Ch.refl _ _⟩
  case round =>
    clear H0
    obtain ⟨i, A5, c5, rfl, rfl, hi, HO, HZ, HC⟩ := hrel
    obtain ⟨hb, hap, A, n0, c, cf, cp, hR, hn0, hn0c, hrd, _, _⟩ := HZ.out
    have HR := Lib.hid hR
    have Hrd := Lib.hid hrd
    have Hn0 := Lib.hid hn0
    have Hap := Lib.hid hap
    by_cases hlt : (i : Int) < n
    · have hc0 : wr.cell? ⟨R, 0, none⟩ = some (.slice A n0 c) := cell_of_row wr R 0 _ _ (0, 0) hR
      have hf0 : wr.frozen? ⟨R, 0, none⟩ = false := frozen_of_row wr R 0 _ _ hR
      clear hR hrd hn0 hap
      have HOl := Lib.hid (show (drawO st.seed i).length = i from drawO_len _ _)
      have Hsz := Lib.hid (show w.heap.size ≤ wr.heap.size from HC.out.size)
      by_cases h0 : n0 = 0
      · subst h0
        have HX := Lib.hid (show drawO st.seed i ++ [0] = drawO st.seed (i + 1) by
          rw [drawO_succ]
          congr 2
          have := Hn0.out
          simp only [dropS, List.length_drop] at this
          simp [gz, List.getD_eq_getElem?_getD, List.getElem?_eq_none (show st.seed.length ≤ i by omega)])
        have HE := Lib.hid (show dropS st (i + 1) = dropS st i by
          have := Hn0.out
          simp only [dropS, List.length_drop] at this
          simp only [dropS]
          rw [List.drop_of_length_le (show st.seed.length ≤ i by omega), List.drop_of_length_le (show st.seed.length ≤ i + 1 by omega)])
        go_wp2_with (first
          | (at_builtin
             refine wpList_app rfl (.tmp 33) (.tmp 35) rfl (base := w.heap.size) (l := drawO st.seed i) (by rw [HOl.out]; rfl) (HO.out.grow (alloc_below wr _)) (l2 := [0]) rfl ((Row.new wr [0]).rd (Nat.lt_succ_self _)) (by rw [HOl.out]; simp; omega) (by have := Hsz.out; simp; omega) (drawO st.seed (i + 1)) HX.out ?_
             intro A9 c9 w9 ho9 hb9
             rw [show (drawO st.seed (i + 1)).length = i + 1 from drawO_len _ _]
             have O9 := Lib.hid ho9
             have B9 := Lib.hid (show Below w.heap.size wr w9 from ((Below.refl _ _).alloc Hsz.out _).trans hb9)
             clear ho9 hb9))
        go_roundw
        case rel =>
          refine ⟨i + 1, A9, c9, rfl, by go_num, by omega, O9.out, ?_, ?_⟩
          · show Rz w9 B base R Af Ap (dropS st (i + 1))
            rw [HE.out]
            exact HZ.out.keep (fun k hk => B9.out.block k (by have := HB.out; omega)) (fun k hk => B9.out.block k (HLT.out k hk))
          · exact Ch.then HC.out (Ch.below B9.out) (fun k hk hk2 => by omega)
        case measure => simp [intOf]; omega
      · obtain ⟨x, hx⟩ : ∃ x, x = gz st.seed i := ⟨_, rfl⟩
        have hil : i < st.seed.length := by have := Hn0.out; simp only [dropS, List.length_drop] at this; omega
        obtain ⟨b, o, hA, hbB, hcx⟩ := Hrd.out.at_ (k := 0) (by simp only [dropS, List.length_drop]; omega)
        have hcx2 : wr.cell? ⟨b, o, none⟩ = some (.int .u8 (x.toNat : Int)) := by
          rw [Nat.add_zero] at hcx
          rw [hcx, hx]
          simp [dropS, gz, hil]
        have HX := Lib.hid (show drawO st.seed i ++ [x] = drawO st.seed (i + 1) by rw [drawO_succ, hx])
        obtain ⟨A2, hA2⟩ : ∃ A2, A2 = if c = 1 then A else A.map (·.add 1) := ⟨_, rfl⟩
        obtain ⟨n2, hn2⟩ : ∃ n2, n2 = n0 - 1 := ⟨_, rfl⟩
        obtain ⟨c2, hc2⟩ : ∃ c2, c2 = c - 1 := ⟨_, rfl⟩
        have hsl : ∀ V : World, (Instr.slice 22 (.slice A n0 c) (some (.int .i64 1)) none none).run Tryz.prog V = .ok (.slice A2 n2 c2) V := fun V => by rw [hA2, hn2, hc2]; exact cut_one V A n0 c (by omega)
        have HZ2 := Lib.hid (show Rz (wr.setCell ⟨R, 0, none⟩ (.slice A2 n2 c2)) B base R Af Ap (dropS st (i + 1)) by
          have h1 := HZ.out.setSeed hB (A2 := A2) (n2 := n2) (c2 := c2) (s2 := (dropS st i).seed.drop 1) (by rw [List.length_drop, Hn0.out, hn2]) (by omega) (by
            have := Hrd.out.cut (k := 1) (cap := c) (by rw [Hn0.out]; exact hn0c)
            rw [hA2]
            exact this)
          have e : dropS st (i + 1) = { dropS st i with seed := (dropS st i).seed.drop 1 } := by simp only [dropS, List.drop_drop]
          rw [e]
          exact h1)
        have hn0p : (0 : Int) < (n0 : Int) := by omega
        have hgt : (n0 : Int) > 0 := hn0p
        subst hA
        have HC2 := Lib.hid (show Ch (fun k => k = R) w (wr.setCell ⟨R, 0, none⟩ (.slice A2 n2 c2)) from Ch.setCell HC.out (p := ⟨R, 0, none⟩) (.inl rfl) _)
        have HO2 := Lib.hid (show Own (wr.setCell ⟨R, 0, none⟩ (.slice A2 n2 c2)) w.heap.size A5 c5 (drawO st.seed i) from by
          refine World.ownsRow.kept HO.out (row := some R) ⟨rfl, rfl, rfl, by simp, fun k _ hne => heap_setCell_other wr ⟨R, 0, none⟩ k _ (fun e => hne (by simp [e]))⟩ ?_
          rcases HO.out.form with ⟨e, _⟩ | ⟨g, cur, e, hg, _⟩
          · left; rw [e]; rfl
          · right; rw [e]; simp [Value.ownBlock]; have := HLT.out R (.inl rfl); omega)
        have Hsz2 := Lib.hid (show w.heap.size ≤ (wr.setCell ⟨R, 0, none⟩ (.slice A2 n2 c2)).heap.size by have := Hsz.out; simpa using this)
        have HSz := Lib.hid (show (wr.setCell ⟨R, 0, none⟩ (.slice A2 n2 c2)).heap.size = wr.heap.size by simp)
        clear hx hcx hA2 hn2 hc2 HZ HC HO Hrd HR Hn0 h0
        go_wp2_with (first
          | (at_builtin
             refine wpList_app rfl (.tmp 33) (.tmp 35) rfl (base := w.heap.size) (l := drawO st.seed i) (by rw [HOl.out]; rfl) (HO2.out.grow (alloc_below _ _)) (l2 := [x]) rfl (by have h7 := (Row.new (wr.setCell ⟨R, 0, none⟩ (.slice A2 n2 c2)) [x]).rd (Nat.lt_succ_self _); rw [HSz.out] at h7; exact h7) (by rw [HOl.out]; simp; omega) (by have := Hsz2.out; simp at *; omega) (drawO st.seed (i + 1)) HX.out ?_
             intro A9 c9 w9 ho9 hb9
             rw [show (drawO st.seed (i + 1)).length = i + 1 from drawO_len _ _]
             have O9 := Lib.hid ho9
             have B9 := Lib.hid (show Below w.heap.size (wr.setCell ⟨R, 0, none⟩ (.slice A2 n2 c2)) w9 from ((Below.refl _ _).alloc Hsz2.out _).trans hb9)
             clear ho9 hb9))
        go_roundw
        case rel =>
          refine ⟨i + 1, A9, c9, rfl, by go_num, by omega, O9.out, ?_, ?_⟩
          · exact HZ2.out.keep (fun k hk => B9.out.block k (by have := HB.out; omega)) (fun k hk => B9.out.block k (HLT.out k hk))
          · exact Ch.then HC2.out (Ch.below B9.out) (fun k hk hk2 => by omega)
        case measure => simp [intOf]; omega
    · clear hR hrd hn0 hap
      have hin : i = n.toNat := by omega
      have HOf := Lib.hid (show Own wr w.heap.size A5 c5 (drawO st.seed i) from HO.out)
      have HOl := Lib.hid (show (drawO st.seed i).length = i from drawO_len _ _)
      have hcv := conv HO.out.rd c5
      rw [HOl.out] at hcv
      have HF := Lib.hid (show Rz wr B base R Af Ap (drOp st n).2 ∧ Ch (fun k => k = R) w wr from ⟨by rw [hin] at HZ; exact HZ.out, HC.out⟩)
      have HS := Lib.hid (show drawO st.seed i = (drOp st n).1 by rw [hin]; rfl)
      clear HZ HC HO HOf hin
      go_wp2
      go_ret
      exact ⟨by rw [← HS.out]; rfl, HF.out⟩
end Go.Proofs.YtjklgmhaebjjaaaGreat.S11
