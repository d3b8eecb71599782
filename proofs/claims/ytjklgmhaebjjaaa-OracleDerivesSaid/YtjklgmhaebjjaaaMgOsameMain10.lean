/-
  The program's strings.Builder: copyCheck, Write. Contract of the reference's Draw (tape).
-/
import Derived.Test.YtjklgmhaebjjaaaMgOsameMain1
import Derived.Test.YtjklgmhaebjjaaaMgOsameMain5
import Derived.Test.YtjklgmhaebjjaaaMgOsameMain6
import Derived.Test.YtjklgmhaebjjaaaMgOsameMain8
import Derived.Test.YtjklgmhaebjjaaaMgOsameMain9
import Derived.Shelf.Strings.Builder1
namespace Go.Proofs.Ytjklgmhaebjjaaa.S12
open S11
open Go.RowKit
set_option linter.unusedVariables false
set_option linter.unusedSimpArgs false

abbrev Bl (w : World) (B b : Nat) (l : List UInt8) : Prop := Lib.IsBuilder 103 5 B b (bvs l) w
theorem szB : (Try.prog.info? 103).map (·.size) = some 2 := by kernel_rfl
theorem liesB : liesAt Try.prog Try.prog.depth 103 (2 / Try.prog.cellsOf 103) 0 103 1 = true := by kernel_rfl
set_option maxHeartbeats 1000000 in
set_option maxRecDepth 100000 in
theorem cc_used (b : Nat) (w : World) (h0 : w.cell? ⟨b, 0, none⟩ = some (.pointer (some ⟨b, 0, none⟩))) :
    Calls Try.prog 54 #[.pointer (some ⟨b, 0, none⟩)] w fun e w' => e = .returned (.tuple #[]) ∧ w' = w := by
  obtain ⟨j, hj, _⟩ := Option.map_eq_some_iff.1 szB
  go_enter Try.func54, Try.ntmps54
  go_wp2
  rw [Lib.run_neq_ptr_same w _ Try.underlying101 hj]
  go_wp2
  go_end0
  exact ⟨rfl, rfl⟩
set_option maxHeartbeats 1000000 in
set_option maxRecDepth 100000 in
theorem cc_fresh (b : Nat) (w : World) (h0 : w.cell? ⟨b, 0, none⟩ = some (.pointer none)) (hsh : w.shape? b = some (103, 2)) (hfz : w.frozen? ⟨b, 0, none⟩ = false) :
    Calls Try.prog 54 #[.pointer (some ⟨b, 0, none⟩)] w fun e w' => e = .returned (.tuple #[]) ∧ w' = w.setCell ⟨b, 0, none⟩ (.pointer (some ⟨b, 0, none⟩)) := by
  obtain ⟨j, hj, hjs⟩ := Option.map_eq_some_iff.1 szB
  go_enter Try.func54, Try.ntmps54
  go_wp2
  rw [Lib.run_to_unsafe w ⟨b, 0, none⟩ Try.underlying101 Try.underlying113 hj (by rw [hjs]; decide) hsh (Nat.zero_lt_succ 1)]
  simp only [Result.andThen]
  rw [Oper.upon_value]
  go_wp2
  rw [run_callFunc_extern Try.func56 (by kernel_rfl) (by kernel_rfl) (by kernel_rfl) (e := Extern.AbiNoEscape.same) (by kernel_rfl)]
  rw [Lib.run_noEscape]
  simp only [Result.andThen]
  rw [Oper.upon_value]
  go_wp2
  rw [Lib.run_from_unsafe w ⟨b, 0, none⟩ Try.underlying113 Try.underlying101 hj hsh liesB]
  simp only [Result.andThen]
  rw [Oper.upon_value]
  go_wp2
  go_end0
  exact ⟨rfl, rfl⟩
/-- Behind copyCheck it is used; nothing else has turned. -/
theorem cc_any {w : World} {B b : Nat} {l : List UInt8} (h : Bl w B b l) : Calls Try.prog 54 #[.pointer (some ⟨b, 0, none⟩)] w fun e w' =>
    e = .returned (.tuple #[]) ∧ Lib.BuilderAt 103 5 B b (.pointer (some ⟨b, 0, none⟩)) (bvs l) w' ∧ Below B w w' ∧ (∀ k, k ≠ b → w'.heap[k]? = w.heap[k]?) ∧ w'.heap.size = w.heap.size := by
  rcases h with h | h
  · refine (cc_fresh b w h.cell0 h.shape h.frozen0).mono ?_
    rintro e w' ⟨rfl, rfl⟩
    exact ⟨rfl, h.used _, (Below.refl B w).setCell (p := ⟨b, 0, none⟩) h.1 _, fun k hk => heap_setCell_other w ⟨b, 0, none⟩ k _ (fun e => hk e), by simp⟩
  · refine (cc_used b w h.cell0).mono ?_
    rintro e w' ⟨rfl, rfl⟩
    exact ⟨rfl, h, Below.refl B _, fun _ _ => rfl, rfl⟩
theorem wpList_appG {w : World} {ops : Array Oper} {rest : List Oper} {o : Oper} {a : Act} {Q : Exit → Act → World → Prop} (hgd : o.guard = none) (s x : Operand) (ho : o.op = .call { callee := .builtin .append, args := #[s, x], argTypes := #[22, 22] })
    {base : Nat} {A : Option Addr} {n c : Nat} {l : List UInt8} (hs : a.eval s = .slice A n c) (hn : l.length = n) (h : Own w base A c l) {B2 : Nat} {A2 : Option Addr} {n2 c2 : Nat} {l2 : List UInt8} (hx : a.eval x = .slice A2 n2 c2) (hn2 : l2.length = n2) (h2 : Rd w B2 A2 l2)
    (hl : n + n2 ≤ 4294967296) (hbase : base ≤ w.heap.size)
    (hk : ∀ A' c' w', Own w' base A' c' (l ++ l2) → w.grownBy w' (Value.slice A n c).ownBlock → Moved w A A' → wpList Try.prog ops Q rest (a.put o.dst (.slice A' (n + n2) c')) w') : wpList Try.prog ops Q (o :: rest) a w := by
  refine wpList_plain hgd fun _ hK => ?_
  subst hn hn2
  obtain ⟨A', c', w', hrun, h3, h4, h5⟩ := run_appS h c2 h2 hl hbase o.type
  unfold Oper.wp execOp
  simp only [ho, resolve, invoke, builtin, Sem.run_bind, Sem.run_pure, Result.andThen_ok, List.map_toArray, List.map_cons, List.map_nil, hs, hx, hrun]
  have := hk A' c' w' h3 h4 h5
  rw [← List.length_append] at this
  exact hK _ _ this
theorem ownKeep {w w' : World} {base : Nat} {A : Option Addr} {c : Nat} {l : List UInt8} (h : Own w base A c l) (hk : ∀ x, A = some x → w'.heap[x.block]? = w.heap[x.block]?) : Own w' base A c l := by
  refine ⟨h.1, ?_⟩
  rcases h.2 with h1 | ⟨g, cap, cur, h1, h2, h3, r⟩
  · exact .inl h1
  · simp only [Value.slice.injEq] at h1
    obtain ⟨rfl, _, rfl⟩ := h1
    exact .inr ⟨g, _, cur, by simp, h2, (hk _ rfl).trans h3, r⟩
set_option maxHeartbeats 4000000 in
/-- Write: the bytes of a slice that lies elsewhere. -/
theorem write_any {w : World} {B b : Nat} {l m : List UInt8} {A : Option Addr} {n c : Nat} (h : Bl w B b l) (hr : Rd w w.heap.size A m) (hn : m.length = n) (hA : ∀ x, A = some x → m ≠ [] → x.block ≠ b) (hl : l.length + n ≤ 100000) (hB : B ≤ w.heap.size) :
    Calls Try.prog 50 #[.pointer (some ⟨b, 0, none⟩), .slice A n c] w fun e w' => e = .returned (.tuple #[.int .i64 (n : Int), .nilIface]) ∧ Bl w' B b (l ++ m) ∧ Below B w w' := by
  have H0 := Lib.hid h
  have HL := Lib.hid hl
  have HN := Lib.hid hn
  clear h hl hn
  go_enter Try.func50, Try.ntmps50
  go_wp2_with fail
  refine (cc_any H0.out).mono ?_
  rintro e w1 ⟨rfl, ⟨hb0, v, hv1, hv2, hv3⟩, hbel, hsame, hsz⟩
  obtain ⟨A0, c0, rfl, ho⟩ : ∃ A0 c0, v = .slice A0 l.length c0 ∧ Own w1 B A0 c0 l := by
    rw [bvs_length] at hv2
    have hv2' := hv2
    rcases hv2'.2 with ⟨h1, h2⟩ | ⟨g, cap, cur, h1, _⟩
    · exact ⟨none, 0, by rw [h1, h2], by rw [h1] at hv2; unfold Own; rw [h2]; rw [h2] at hv2; exact hv2⟩
    · exact ⟨some ⟨g, 0, none⟩, cap, h1, by rw [h1] at hv2; exact hv2⟩
  have c1 : w1.cell? ⟨b, 1, none⟩ = some (.slice A0 l.length c0) := cell_of_row w1 b 1 _ _ (0, 0) hv1
  have hr1 : Rd w1 w1.heap.size A m := by
    by_cases hm : m = []
    · exact .inl hm
    rcases hr with e | ⟨g, off, rfl, hg, hc⟩
    · exact .inl e
    · exact .inr ⟨g, off, rfl, by omega, fun j hj => (World.cell?_of_block (a := ⟨g, off + j, none⟩) (hsame g (hA _ rfl hm))).trans (hc j hj)⟩
  have HO := Lib.hid ho
  have HR := Lib.hid hr1
  have HB1 := Lib.hid hbel
  have HV := Lib.hid hv1
  have HV3 := Lib.hid hv3
  have HSz := Lib.hid (show B ≤ w1.heap.size by omega)
  clear hr hA hsame hv1 hv2 hv3 ho hr1 hbel H0 hsz hB
  go_wp2_with (first
    | (at_builtin
       refine wpList_appG rfl (.tmp 12) (.tmp 13) rfl rfl rfl HO.out rfl HN.out HR.out (by have := HL.out; omega) HSz.out ?_
       intro A9 cc9 w9 ho9 hg9 hm9
       have hblt : b < w1.heap.size := lt_of_heap HV.out
       have hb9 : w9.heap[b]? = some (.cells #[.pointer (some ⟨b, 0, none⟩), .slice A0 l.length c0] 103 (0, 0)) := (hg9.block b hblt (fun e => HV3.out e.symm)).trans HV.out
       have c9 : w9.cell? ⟨b, 1, none⟩ = some (.slice A0 l.length c0) := cell_of_row w9 b 1 _ _ (0, 0) hb9
       have f9 : w9.frozen? ⟨b, 1, none⟩ = false := frozen_of_row w9 b 1 _ _ hb9
       have O9 := Lib.hid ho9
       have G9 := Lib.hid hg9
       have M9 := Lib.hid hm9
       have V9 := Lib.hid hb9
       clear ho9 hg9 hm9 hb9))
  go_ret2
  have hbn : ∀ x, A9 = some x → x.block ≠ b := by
    intro x hx e
    rcases M9.out with e2 | ⟨y, hy, hy2⟩
    · rw [e2] at hx
      subst hx
      exact HV3.out (by simp [Value.ownBlock, e])
    · rw [hy] at hx
      simp only [Option.some.injEq] at hx
      subst hx
      omega
  have hown : Own (w9.setCell ⟨b, 1, none⟩ (.slice A9 (l.length + n) cc9)) B A9 cc9 (l ++ m) := ownKeep O9.out fun x hx => heap_setCell_other w9 ⟨b, 1, none⟩ x.block _ (fun e => hbn x hx (by simpa using e))
  refine ⟨rfl, .inr ⟨hb0, .slice A9 (l.length + n) cc9, ?_, ?_, ?_⟩, ?_⟩
  · rw [heap_setCell_same w9 b 1 _ _ _ V9.out]; rfl
  · have := hown
    unfold Own at this
    rw [List.length_append, HN.out] at this
    rw [bvs_length, List.length_append, HN.out]
    exact this
  · cases A9 with
    | none => simp [Value.ownBlock]
    | some x => simpa [Value.ownBlock] using hbn x rfl
  · refine (Below.trans HB1.out ?_).setCell (p := ⟨b, 1, none⟩) hb0 _
    refine ⟨G9.out.os, G9.out.tape, G9.out.output, G9.out.size, fun k hk => G9.out.block k (by have := HSz.out; omega) fun e => ?_⟩
    cases A0 with
    | none => simp [Value.ownBlock] at e
    | some x =>
      have := (HO.out.lt x rfl).1
      simp [Value.ownBlock] at e
      omega
end Go.Proofs.Ytjklgmhaebjjaaa.S12
namespace Go.Proofs.Ytjklgmhaebjjaaa.S11
open Go.RowKit
set_option linter.unusedVariables false
set_option linter.unusedSimpArgs false

theorem cut_one (W : World) (A : Option Addr) (m c : Nat) (h : 1 ≤ m) : (Instr.slice 22 (.slice A m c) (some (.int .i64 1)) none none).run Try.prog W = .ok (.slice (if c = 1 then A else A.map (·.add 1)) (m - 1) (c - 1)) W := by
  obtain ⟨i0, hi, hz0, hz1, hz2⟩ := info_parts info5
  have he : Try.prog.elem 22 = 5 := by kernel_rfl
  rw [run_slice_l W 22 A m c (by rw [he]; exact Try.underlying22) .i64 1 (by omega) (by omega), he]
  simp [sizeOf, typeInfo, hi, hz1, sliced, Result.andThen]
section
variable {w : World} {B base R : Nat} {Af Ap : Option Addr} {st : St}
theorem own_blk {A : Option Addr} {n c k : Nat} (h : some k = (Value.slice A n c).ownBlock) : ∃ x, A = some x ∧ x.block = k := by
  cases A with
  | none => simp [Value.ownBlock] at h
  | some x => simp [Value.ownBlock] at h; exact ⟨x, rfl, h.symm⟩
end
end Go.Proofs.Ytjklgmhaebjjaaa.S11
