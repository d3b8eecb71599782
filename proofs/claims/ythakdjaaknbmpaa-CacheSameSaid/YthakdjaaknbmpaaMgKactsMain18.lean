/-
  Contracts of the program's cache: emptyRing, leave, lead, Dev. Contracts of the program's cache: leave and lead of a ring; discard.
-/
import Derived.Test.YthakdjaaknbmpaaMgKactsMain17
namespace Go.Proofs.Ythakdjaaknbmpaa.S14
open S13
open Cf
open Go.RowKit
set_option linter.unusedVariables false
set_option linter.unusedSimpArgs false
/-- The same heap. -/
def Hp (v w : World) : Prop := v.heap = w.heap
theorem Hp.refl (w : World) : Hp w w := rfl
theorem Hp.at_ {v w : World} (h : Hp v w) (k : Nat) : v.heap[k]? = w.heap[k]? := by rw [show v.heap = w.heap from h]
theorem Hp.size {v w : World} (h : Hp v w) : v.heap.size = w.heap.size := by rw [show v.heap = w.heap from h]
theorem Hp.set {v w : World} (h : Hp v w) (p : Addr) (u : Value) : Hp (v.setCell p u) (w.setCell p u) := by
  unfold Hp World.setCell
  rw [show v.heap = w.heap from h]
theorem ring_any (w : World) : Calls Try.prog 33 #[] w fun e w' => e = .returned (.pointer (some ⟨w.heap.size, 0, none⟩)) ∧ Nd w' w.heap.size (.int .i64 0) (.slice none 0 0) w.heap.size w.heap.size ∧ Grown w w' := by
  go_enter Try.func33, Try.ntmps33
  go_wp2
  go_ret
  exact ⟨rfl, heap_alloc_new w _, alloc_below w _⟩
set_option maxRecDepth 20000 in
theorem leave_any {w : World} {b p q : Nat} {x y : Value} (he : Nd w b x y p q) (hp : ∃ x y n o, Nd w p x y n o) (hq : ∃ x y n o, Nd w q x y n o) (bp : b ≠ p) (bq : b ≠ q) :
    Calls Try.prog 38 #[.pointer (some ⟨b, 0, none⟩)] w fun e w' => e = .returned (.tuple #[]) ∧ Hp w' ((w.setCell ⟨p, 3, none⟩ (pv q)).setCell ⟨q, 2, none⟩ (pv p)) ∧ Ch (fun k => k = p ∨ k = q) w w' := by
  obtain ⟨xp, yp, np, op, hp⟩ := hp
  obtain ⟨xq, yq, nq, oq, hq⟩ := hq
  have HE := Lib.hid he
  have HP := Lib.hid hp
  have HQ := Lib.hid hq
  clear he hp hq
  go_enter Try.func38, Try.ntmps38
  go_wp2_with fail
  refine restS_begin (fun v : World => v.cell? ⟨b, 2, none⟩ = some (.pointer (some ⟨p, 0, none⟩)) ∧ v.cell? ⟨b, 3, none⟩ = some (.pointer (some ⟨q, 0, none⟩))) (by kernel_rfl) ?_
  have HV := Lib.hid (show Hp w.drew w from rfl)
  have GV := Lib.hid (show Ch (fun k => k = p ∨ k = q) w w.drew from (Ch.refl _ w).drew)
  generalize w.drew = v0 at HV GV ⊢
  have SV := Lib.hid (show v0.cell? ⟨b, 2, none⟩ = some (.pointer (some ⟨p, 0, none⟩)) ∧ v0.cell? ⟨b, 3, none⟩ = some (.pointer (some ⟨q, 0, none⟩)) from ⟨(HE.out.keep (HV.out.at_ _)).cells.2.2.1, (HE.out.keep (HV.out.at_ _)).cells.2.2.2⟩)
  have n1 : ∀ (v : World) (u : Value), v.cell? ⟨b, 2, none⟩ = some (.pointer (some ⟨p, 0, none⟩)) ∧ v.cell? ⟨b, 3, none⟩ = some (.pointer (some ⟨q, 0, none⟩)) → (v.setCell ⟨p, 3, none⟩ u).cell? ⟨b, 2, none⟩ = some (.pointer (some ⟨p, 0, none⟩)) ∧ (v.setCell ⟨p, 3, none⟩ u).cell? ⟨b, 3, none⟩ = some (.pointer (some ⟨q, 0, none⟩)) := fun v u hv =>
    ⟨(World.cell?_of_block (a := ⟨b, 2, none⟩) (heap_setCell_other v _ _ _ bp)).trans hv.1, (World.cell?_of_block (a := ⟨b, 3, none⟩) (heap_setCell_other v _ _ _ bp)).trans hv.2⟩
  have n2 : ∀ (v : World) (u : Value), v.cell? ⟨b, 2, none⟩ = some (.pointer (some ⟨p, 0, none⟩)) ∧ v.cell? ⟨b, 3, none⟩ = some (.pointer (some ⟨q, 0, none⟩)) → (v.setCell ⟨q, 2, none⟩ u).cell? ⟨b, 2, none⟩ = some (.pointer (some ⟨p, 0, none⟩)) ∧ (v.setCell ⟨q, 2, none⟩ u).cell? ⟨b, 3, none⟩ = some (.pointer (some ⟨q, 0, none⟩)) := fun v u hv =>
    ⟨(World.cell?_of_block (a := ⟨b, 2, none⟩) (heap_setCell_other v _ _ _ bq)).trans hv.1, (World.cell?_of_block (a := ⟨b, 3, none⟩) (heap_setCell_other v _ _ _ bq)).trans hv.2⟩
  have N1 := Lib.hid n1
  have N2 := Lib.hid n2
  have HP0 := Lib.hid (HP.out.keep (HV.out.at_ _))
  have HQ0 := Lib.hid (HQ.out.keep (HV.out.at_ _))
  clear n1 n2
  refine restS_take (i := 0) SV.out rfl (by kernel_rfl) (by kernel_rfl) (by kernel_rfl) (by rfl) (fun v hv => by obtain ⟨v1, v2⟩ := hv; go_simp; try with_reducible rfl) ?_
  try simp only [Act.put, List.setIfInBounds_toArray, List.set_cons_zero, List.set_cons_succ]
  refine restS_take (i := 1) SV.out rfl (by kernel_rfl) (by kernel_rfl) (by kernel_rfl) (by rfl) (fun v hv => by obtain ⟨v1, v2⟩ := hv; go_simp; try with_reducible rfl) ?_
  try simp only [Act.put, List.setIfInBounds_toArray, List.set_cons_zero, List.set_cons_succ]
  refine restS_take (i := 2) SV.out rfl (by kernel_rfl) (by kernel_rfl) (by kernel_rfl) (by rfl) (fun v hv => by obtain ⟨v1, v2⟩ := hv; go_simp; try with_reducible rfl) ?_
  try simp only [Act.put, List.setIfInBounds_toArray, List.set_cons_zero, List.set_cons_succ]
  refine restS_take (i := 3) SV.out rfl (by kernel_rfl) (by kernel_rfl) (by kernel_rfl) (by rfl) (fun v hv => by obtain ⟨v1, v2⟩ := hv; go_simp; try with_reducible rfl) ?_
  try simp only [Act.put, List.setIfInBounds_toArray, List.set_cons_zero, List.set_cons_succ]
  refine restS_take (i := 4) SV.out rfl (by kernel_rfl) (by kernel_rfl) (by kernel_rfl) (by rfl) (fun v hv => by obtain ⟨v1, v2⟩ := hv; go_simp; try with_reducible rfl) ?_
  try simp only [Act.put, List.setIfInBounds_toArray, List.set_cons_zero, List.set_cons_succ]
  refine restS_take (i := 5) SV.out rfl (by kernel_rfl) (by kernel_rfl) (by kernel_rfl) (by rfl) (fun v hv => by obtain ⟨v1, v2⟩ := hv; go_simp; try with_reducible rfl) ?_
  try simp only [Act.put, List.setIfInBounds_toArray, List.set_cons_zero, List.set_cons_succ]
  refine restS_take (i := 6) SV.out rfl (by kernel_rfl) (by kernel_rfl) (by kernel_rfl) (by rfl) (fun v hv => by obtain ⟨v1, v2⟩ := hv; go_simp; try with_reducible rfl) ?_
  try simp only [Act.put, List.setIfInBounds_toArray, List.set_cons_zero, List.set_cons_succ]
  refine restS_take (i := 7) SV.out rfl (by kernel_rfl) (by kernel_rfl) (by kernel_rfl) (by rfl) (fun v hv => by obtain ⟨v1, v2⟩ := hv; go_simp; try with_reducible rfl) ?_
  try simp only [Act.put, List.setIfInBounds_toArray, List.set_cons_zero, List.set_cons_succ]
  refine restS_take (i := 8) SV.out rfl (by kernel_rfl) (by kernel_rfl) (by kernel_rfl) (by rfl) (fun v hv => by obtain ⟨v1, v2⟩ := hv; go_simp; try with_reducible rfl) ?_
  try simp only [Act.put, List.setIfInBounds_toArray, List.set_cons_zero, List.set_cons_succ]
  refine restS_take (i := 9) SV.out rfl (by kernel_rfl) (by kernel_rfl) (by kernel_rfl) (by rfl) (fun v hv => by obtain ⟨v1, v2⟩ := hv; go_simp; try with_reducible rfl) ?_
  try simp only [Act.put, List.setIfInBounds_toArray, List.set_cons_zero, List.set_cons_succ]
  refine restS_take (i := 10) SV.out rfl (by kernel_rfl) (by kernel_rfl) (by kernel_rfl) (by rfl) (fun v hv => by obtain ⟨v1, v2⟩ := hv; go_simp; try with_reducible rfl) ?_
  try simp only [Act.put, List.setIfInBounds_toArray, List.set_cons_zero, List.set_cons_succ]
  refine restS_take (i := 11) SV.out rfl (by kernel_rfl) (by kernel_rfl) (by kernel_rfl) (by rfl) (fun v hv => by obtain ⟨v1, v2⟩ := hv; go_simp; try with_reducible rfl) ?_
  try simp only [Act.put, List.setIfInBounds_toArray, List.set_cons_zero, List.set_cons_succ]
  refine restS_take (i := 12) SV.out rfl (by kernel_rfl) (by kernel_rfl) (by kernel_rfl) (by rfl) (fun v hv => by obtain ⟨v1, v2⟩ := hv; go_simp; try with_reducible rfl) ?_
  try simp only [Act.put, List.setIfInBounds_toArray, List.set_cons_zero, List.set_cons_succ]
  refine restS_take (i := 13) SV.out rfl (by kernel_rfl) (by kernel_rfl) (by kernel_rfl) (by rfl) (fun v hv => by obtain ⟨v1, v2⟩ := hv; go_simp; try with_reducible rfl) ?_
  try simp only [Act.put, List.setIfInBounds_toArray, List.set_cons_zero, List.set_cons_succ]
  refine restS_take (i := 14) SV.out rfl (by kernel_rfl) (by kernel_rfl) (by kernel_rfl) (by rfl) (fun v hv => by obtain ⟨v1, v2⟩ := hv; go_simp; try with_reducible rfl) ?_
  try simp only [Act.put, List.setIfInBounds_toArray, List.set_cons_zero, List.set_cons_succ]
  refine restS_take (i := 15) SV.out rfl (by kernel_rfl) (by kernel_rfl) (by kernel_rfl) (by rfl) (fun v hv => by obtain ⟨v1, v2⟩ := hv; go_simp; try with_reducible rfl) ?_
  try simp only [Act.put, List.setIfInBounds_toArray, List.set_cons_zero, List.set_cons_succ]
  refine restS_take (i := 16) SV.out rfl (by kernel_rfl) (by kernel_rfl) (by kernel_rfl) (by rfl) (fun v hv => by obtain ⟨v1, v2⟩ := hv; go_simp; try with_reducible rfl) ?_
  try simp only [Act.put, List.setIfInBounds_toArray, List.set_cons_zero, List.set_cons_succ]
  refine restS_take (i := 17) SV.out rfl (by kernel_rfl) (by kernel_rfl) (by kernel_rfl) (by rfl) (fun v hv => by obtain ⟨v1, v2⟩ := hv; go_simp; try with_reducible rfl) ?_
  try simp only [Act.put, List.setIfInBounds_toArray, List.set_cons_zero, List.set_cons_succ]
  have p1 : v0.cell? ⟨p, 3, none⟩ = some (.pointer (some ⟨op, 0, none⟩)) := HP0.out.cells.2.2.2
  have p2 : v0.frozen? ⟨p, 3, none⟩ = false := HP0.out.frozen 3
  refine restS_lone (i := 18) rfl (by kernel_rfl) (by rfl) (fun K hK => ?_)
  go_simp
  refine hK.out _ _ (N1.out _ _ SV.out) ?_
  clear hK K p1 p2
  try simp only [Act.put, List.setIfInBounds_toArray, List.set_cons_zero, List.set_cons_succ]
  have SV1 := Lib.hid (N1.out v0 (.pointer (some ⟨q, 0, none⟩)) SV.out)
  have HQ1 := Lib.hid (HQ0.out.setOd p q)
  refine restS_take (i := 19) SV1.out rfl (by kernel_rfl) (by kernel_rfl) (by kernel_rfl) (by rfl) (fun v hv => by obtain ⟨v1, v2⟩ := hv; go_simp; try with_reducible rfl) ?_
  try simp only [Act.put, List.setIfInBounds_toArray, List.set_cons_zero, List.set_cons_succ]
  refine restS_take (i := 20) SV1.out rfl (by kernel_rfl) (by kernel_rfl) (by kernel_rfl) (by rfl) (fun v hv => by obtain ⟨v1, v2⟩ := hv; go_simp; try with_reducible rfl) ?_
  try simp only [Act.put, List.setIfInBounds_toArray, List.set_cons_zero, List.set_cons_succ]
  have q1 : (v0.setCell ⟨p, 3, none⟩ (.pointer (some ⟨q, 0, none⟩))).cell? ⟨q, 2, none⟩ = some (.pointer (some ⟨nq, 0, none⟩)) := HQ1.out.cells.2.2.1
  have q2 : (v0.setCell ⟨p, 3, none⟩ (.pointer (some ⟨q, 0, none⟩))).frozen? ⟨q, 2, none⟩ = false := HQ1.out.frozen 2
  refine restS_lone (i := 21) rfl (by kernel_rfl) (by rfl) (fun K hK => ?_)
  go_simp
  refine hK.out _ _ (N2.out _ _ SV1.out) ?_
  clear hK K q1 q2
  try simp only [Act.put, List.setIfInBounds_toArray, List.set_cons_zero, List.set_cons_succ]
  refine restS_done (by kernel_rfl) ?_
  refine bodyPost_end (results_none rfl _ _ _) rfl ⟨rfl, (HV.out.set _ _).set _ _, (GV.out.setCell (p := ⟨p, 3, none⟩) (.inl (.inl rfl)) _).setCell (p := ⟨q, 2, none⟩) (.inl (.inr rfl)) _⟩
set_option maxRecDepth 20000 in
theorem lead_any {w : World} {b R q nR nq oq : Nat} {x y xR yR xq yq : Value} (he : Nx w b x y) (hp : Nd w R xR yR nR q) (hq : Nd w q xq yq nq oq) (bp : b ≠ R) (bq : b ≠ q) :
    Calls Try.prog 39 #[.pointer (some ⟨b, 0, none⟩), .pointer (some ⟨R, 0, none⟩)] w fun e w' => e = .returned (.tuple #[]) ∧ Hp w' ((((w.setCell ⟨b, 2, none⟩ (pv R)).setCell ⟨b, 3, none⟩ (pv q)).setCell ⟨R, 3, none⟩ (pv b)).setCell ⟨q, 2, none⟩ (pv b)) ∧ Ch (fun k => k = b ∨ k = R ∨ k = q) w w' := by
  have HE := Lib.hid he
  have HP := Lib.hid hp
  have HQ := Lib.hid hq
  obtain ⟨u0, v0, _, _, e2, e3, e3', f2, f3'⟩ := he.cells
  obtain ⟨_, _, _, r3⟩ := hp.cells
  replace e3' := e3' (.pointer (some ⟨R, 0, none⟩))
  replace f3' := f3' (.pointer (some ⟨R, 0, none⟩))
  clear he hp hq e3
  go_enter Try.func39, Try.ntmps39
  go_wp2_with fail
  refine restS_begin (fun v : World => v.cell? ⟨b, 2, none⟩ = some (.pointer (some ⟨R, 0, none⟩)) ∧ v.cell? ⟨b, 3, none⟩ = some (.pointer (some ⟨q, 0, none⟩))) (by kernel_rfl) ?_
  have HV := Lib.hid (show Hp ((w.setCell ⟨b, 2, none⟩ (pv R)).setCell ⟨b, 3, none⟩ (pv q)).drew ((w.setCell ⟨b, 2, none⟩ (pv R)).setCell ⟨b, 3, none⟩ (pv q)) from rfl)
  have GV := Lib.hid (show Ch (fun k => k = b ∨ k = R ∨ k = q) w ((w.setCell ⟨b, 2, none⟩ (pv R)).setCell ⟨b, 3, none⟩ (pv q)).drew from (((Ch.refl _ w).setCell (p := ⟨b, 2, none⟩) (.inl (.inl rfl)) _).setCell (p := ⟨b, 3, none⟩) (.inl (.inl rfl)) _).drew)
  have EE := Lib.hid (HE.out.both R q)
  have EP := Lib.hid ((HP.out.setNw b R).setOd b q)
  have EQ := Lib.hid ((HQ.out.setNw b R).setOd b q)
  clear e2 f2 r3 e3' f3'
  change RestS _ _ _ _ _ _ _ ((w.setCell ⟨b, 2, none⟩ (pv R)).setCell ⟨b, 3, none⟩ (pv q)).drew
  generalize ((w.setCell ⟨b, 2, none⟩ (pv R)).setCell ⟨b, 3, none⟩ (pv q)).drew = v0 at HV GV ⊢
  have E0 := Lib.hid (EE.out.keep (HV.out.at_ _))
  have P0 := Lib.hid (EP.out.keep (HV.out.at_ _))
  have Q0 := Lib.hid (EQ.out.keep (HV.out.at_ _))
  have SV := Lib.hid (show v0.cell? ⟨b, 2, none⟩ = some (.pointer (some ⟨R, 0, none⟩)) ∧ v0.cell? ⟨b, 3, none⟩ = some (.pointer (some ⟨q, 0, none⟩)) from ⟨E0.out.cells.2.2.1, E0.out.cells.2.2.2⟩)
  have n1 : ∀ (v : World) (u : Value), v.cell? ⟨b, 2, none⟩ = some (.pointer (some ⟨R, 0, none⟩)) ∧ v.cell? ⟨b, 3, none⟩ = some (.pointer (some ⟨q, 0, none⟩)) → (v.setCell ⟨R, 3, none⟩ u).cell? ⟨b, 2, none⟩ = some (.pointer (some ⟨R, 0, none⟩)) ∧ (v.setCell ⟨R, 3, none⟩ u).cell? ⟨b, 3, none⟩ = some (.pointer (some ⟨q, 0, none⟩)) := fun v u hv =>
    ⟨(World.cell?_of_block (a := ⟨b, 2, none⟩) (heap_setCell_other v _ _ _ bp)).trans hv.1, (World.cell?_of_block (a := ⟨b, 3, none⟩) (heap_setCell_other v _ _ _ bp)).trans hv.2⟩
  have n2 : ∀ (v : World) (u : Value), v.cell? ⟨b, 2, none⟩ = some (.pointer (some ⟨R, 0, none⟩)) ∧ v.cell? ⟨b, 3, none⟩ = some (.pointer (some ⟨q, 0, none⟩)) → (v.setCell ⟨q, 2, none⟩ u).cell? ⟨b, 2, none⟩ = some (.pointer (some ⟨R, 0, none⟩)) ∧ (v.setCell ⟨q, 2, none⟩ u).cell? ⟨b, 3, none⟩ = some (.pointer (some ⟨q, 0, none⟩)) := fun v u hv =>
    ⟨(World.cell?_of_block (a := ⟨b, 2, none⟩) (heap_setCell_other v _ _ _ bq)).trans hv.1, (World.cell?_of_block (a := ⟨b, 3, none⟩) (heap_setCell_other v _ _ _ bq)).trans hv.2⟩
  have N1 := Lib.hid n1
  have N2 := Lib.hid n2
  clear n1 n2
  refine restS_take (i := 0) SV.out rfl (by kernel_rfl) (by kernel_rfl) (by kernel_rfl) (by rfl) (fun v hv => by obtain ⟨v1, v2⟩ := hv; go_simp; try with_reducible rfl) ?_
  try simp only [Act.put, List.setIfInBounds_toArray, List.set_cons_zero, List.set_cons_succ]
  refine restS_take (i := 1) SV.out rfl (by kernel_rfl) (by kernel_rfl) (by kernel_rfl) (by rfl) (fun v hv => by obtain ⟨v1, v2⟩ := hv; go_simp; try with_reducible rfl) ?_
  try simp only [Act.put, List.setIfInBounds_toArray, List.set_cons_zero, List.set_cons_succ]
  refine restS_take (i := 2) SV.out rfl (by kernel_rfl) (by kernel_rfl) (by kernel_rfl) (by rfl) (fun v hv => by obtain ⟨v1, v2⟩ := hv; go_simp; try with_reducible rfl) ?_
  try simp only [Act.put, List.setIfInBounds_toArray, List.set_cons_zero, List.set_cons_succ]
  refine restS_take (i := 3) SV.out rfl (by kernel_rfl) (by kernel_rfl) (by kernel_rfl) (by rfl) (fun v hv => by obtain ⟨v1, v2⟩ := hv; go_simp; try with_reducible rfl) ?_
  try simp only [Act.put, List.setIfInBounds_toArray, List.set_cons_zero, List.set_cons_succ]
  refine restS_take (i := 4) SV.out rfl (by kernel_rfl) (by kernel_rfl) (by kernel_rfl) (by rfl) (fun v hv => by obtain ⟨v1, v2⟩ := hv; go_simp; try with_reducible rfl) ?_
  try simp only [Act.put, List.setIfInBounds_toArray, List.set_cons_zero, List.set_cons_succ]
  refine restS_take (i := 5) SV.out rfl (by kernel_rfl) (by kernel_rfl) (by kernel_rfl) (by rfl) (fun v hv => by obtain ⟨v1, v2⟩ := hv; go_simp; try with_reducible rfl) ?_
  try simp only [Act.put, List.setIfInBounds_toArray, List.set_cons_zero, List.set_cons_succ]
  refine restS_take (i := 6) SV.out rfl (by kernel_rfl) (by kernel_rfl) (by kernel_rfl) (by rfl) (fun v hv => by obtain ⟨v1, v2⟩ := hv; go_simp; try with_reducible rfl) ?_
  try simp only [Act.put, List.setIfInBounds_toArray, List.set_cons_zero, List.set_cons_succ]
  refine restS_take (i := 7) SV.out rfl (by kernel_rfl) (by kernel_rfl) (by kernel_rfl) (by rfl) (fun v hv => by obtain ⟨v1, v2⟩ := hv; go_simp; try with_reducible rfl) ?_
  try simp only [Act.put, List.setIfInBounds_toArray, List.set_cons_zero, List.set_cons_succ]
  refine restS_take (i := 8) SV.out rfl (by kernel_rfl) (by kernel_rfl) (by kernel_rfl) (by rfl) (fun v hv => by obtain ⟨v1, v2⟩ := hv; go_simp; try with_reducible rfl) ?_
  try simp only [Act.put, List.setIfInBounds_toArray, List.set_cons_zero, List.set_cons_succ]
  refine restS_take (i := 9) SV.out rfl (by kernel_rfl) (by kernel_rfl) (by kernel_rfl) (by rfl) (fun v hv => by obtain ⟨v1, v2⟩ := hv; go_simp; try with_reducible rfl) ?_
  try simp only [Act.put, List.setIfInBounds_toArray, List.set_cons_zero, List.set_cons_succ]
  refine restS_take (i := 10) SV.out rfl (by kernel_rfl) (by kernel_rfl) (by kernel_rfl) (by rfl) (fun v hv => by obtain ⟨v1, v2⟩ := hv; go_simp; try with_reducible rfl) ?_
  try simp only [Act.put, List.setIfInBounds_toArray, List.set_cons_zero, List.set_cons_succ]
  refine restS_take (i := 11) SV.out rfl (by kernel_rfl) (by kernel_rfl) (by kernel_rfl) (by rfl) (fun v hv => by obtain ⟨v1, v2⟩ := hv; go_simp; try with_reducible rfl) ?_
  try simp only [Act.put, List.setIfInBounds_toArray, List.set_cons_zero, List.set_cons_succ]
  obtain ⟨_, _, _, p1⟩ := P0.out.cells
  have p2 : v0.frozen? ⟨R, 3, none⟩ = false := P0.out.frozen 3
  refine restS_lone (i := 12) rfl (by kernel_rfl) (by rfl) (fun K hK => ?_)
  go_simp
  refine hK.out _ _ (N1.out _ _ SV.out) ?_
  clear hK K p1 p2
  try simp only [Act.put, List.setIfInBounds_toArray, List.set_cons_zero, List.set_cons_succ]
  have SV1 := Lib.hid (N1.out v0 (.pointer (some ⟨b, 0, none⟩)) SV.out)
  have Q1 := Lib.hid (Q0.out.setOd R b)
  refine restS_take (i := 13) SV1.out rfl (by kernel_rfl) (by kernel_rfl) (by kernel_rfl) (by rfl) (fun v hv => by obtain ⟨v1, v2⟩ := hv; go_simp; try with_reducible rfl) ?_
  try simp only [Act.put, List.setIfInBounds_toArray, List.set_cons_zero, List.set_cons_succ]
  refine restS_take (i := 14) SV1.out rfl (by kernel_rfl) (by kernel_rfl) (by kernel_rfl) (by rfl) (fun v hv => by obtain ⟨v1, v2⟩ := hv; go_simp; try with_reducible rfl) ?_
  try simp only [Act.put, List.setIfInBounds_toArray, List.set_cons_zero, List.set_cons_succ]
  obtain ⟨_, _, q1, _⟩ := Q1.out.cells
  have q2 : (v0.setCell ⟨R, 3, none⟩ (.pointer (some ⟨b, 0, none⟩))).frozen? ⟨q, 2, none⟩ = false := Q1.out.frozen 2
  have q1' : (v0.setCell ⟨R, 3, none⟩ (.pointer (some ⟨b, 0, none⟩))).cell? ⟨q, 2, none⟩ = _ := q1
  clear q1
  refine restS_lone (i := 15) rfl (by kernel_rfl) (by rfl) (fun K hK => ?_)
  go_simp
  refine hK.out _ _ (N2.out _ _ SV1.out) ?_
  clear hK K q1' q2
  try simp only [Act.put, List.setIfInBounds_toArray, List.set_cons_zero, List.set_cons_succ]
  refine restS_done (by kernel_rfl) ?_
  refine bodyPost_end (results_none rfl _ _ _) rfl ⟨rfl, (HV.out.set _ _).set _ _, (GV.out.setCell (p := ⟨R, 3, none⟩) (.inl (.inr (.inl rfl))) _).setCell (p := ⟨q, 2, none⟩) (.inl (.inr (.inr rfl))) _⟩
theorem dev_any {w : World} {G H R M room : Nat} {nw od : Nat → Nat} {es : List En} {ms : List (Int × Nat)} (h : Kz w G H R M room nw od es ms) : Calls Try.prog 32 #[.pointer (some ⟨G, 0, none⟩)] w fun e w' => e = .returned (.pointer (some ⟨H, 0, none⟩)) ∧ Grown w w' := by
  obtain ⟨c0, _⟩ := h.cells
  clear h
  go_enter Try.func32, Try.ntmps32
  go_wp2
  go_ret
  exact ⟨rfl, Grown.refl w⟩
end Go.Proofs.Ythakdjaaknbmpaa.S14
namespace Go.Proofs.Ythakdjaaknbmpaa.S14
open S13
open Cf
open Go.RowKit
set_option linter.unusedVariables false
set_option linter.unusedSimpArgs false
theorem Hp.rn {w w' : World} {R : Nat} {nw od : Nat → Nat} {es : List En} (h : Hp w' w) (hr : Rn w R nw od es) : Rn w' R nw od es := hr.keep fun k _ => h.at_ k
theorem ring_leave {w : World} {R : Nat} {nw od : Nat → Nat} {a b : List En} {e : En} (h : Rn w R nw od (a ++ e :: b)) :
    Calls Try.prog 38 #[.pointer (some ⟨e.b, 0, none⟩)] w fun r w' => r = .returned (.tuple #[]) ∧ ∃ nw' od' n o, Rn w' R nw' od' (a ++ b) ∧ Nd w' e.b (.int .i64 (e.k : Int)) (bvl e) n o ∧ e.s.length = 512 ∧ Own w' 0 (some ⟨e.A, 0, none⟩) e.c e.s ∧ e.b ∉ R :: bs (a ++ b) ∧ Ch (RF R (a ++ e :: b)) w w' := by
  obtain ⟨h1, h2, h3, h4, h5, h6, h7⟩ := h.out1
  obtain ⟨xp, yp, hp⟩ := h.at_ h6
  obtain ⟨xq, yq, hq⟩ := h.at_ h7
  have hem : e ∈ a ++ e :: b := List.mem_append_right _ List.mem_cons_self
  have hne : ∀ k, RF R (a ++ e :: b) k → k ≠ e.b → RF R (a ++ b) k := by
    rintro k (hk | hk) hn
    · exact .inl hk
    · refine .inr ?_
      obtain ⟨x, hx, rfl⟩ := of_bs hk
      rcases List.mem_append.1 hx with hx | hx
      · exact mem_bs (List.mem_append_left _ hx)
      · rcases List.mem_cons.1 hx with rfl | hx
        · exact absurd rfl hn
        · exact mem_bs (List.mem_append_right _ hx)
  -- e is neither its own neighbour
  have bp : e.b ≠ nw e.b := by
    have hbs : bs (a ++ e :: b) = bs a ++ e.b :: bs b := by simp [bs]
    have hp := h.p
    rw [hbs] at hp
    obtain ⟨q1, q2⟩ := (pth_split (bs a) R e.b R (bs b)).1 hp
    rw [pth_last _ _ _ q1]
    intro h8
    refine h5 ?_
    rw [h8, show bs (a ++ b) = bs a ++ bs b by simp [bs]]
    rcases List.mem_cons.1 (lst_mem (bs a) R) with h9 | h9
    · rw [h9]; exact List.mem_cons_self
    · exact List.mem_cons_of_mem _ (List.mem_append_left _ h9)
  have bq : e.b ≠ od e.b := by
    have hbs : bs (a ++ e :: b) = bs a ++ e.b :: bs b := by simp [bs]
    have hp := h.p
    rw [hbs] at hp
    obtain ⟨q1, q2⟩ := (pth_split (bs a) R e.b R (bs b)).1 hp
    rw [pth_first _ _ _ q2]
    intro h8
    refine h5 ?_
    rw [h8, show bs (a ++ b) = bs a ++ bs b by simp [bs]]
    rcases fst1_mem R (bs b) with h9 | h9
    · rw [h9]; exact List.mem_cons_self
    · exact List.mem_cons_of_mem _ (List.mem_append_right _ h9)
  refine (leave_any (h.n e hem) ⟨xp, yp, _, _, hp⟩ ⟨xq, yq, _, _, hq⟩ bp bq).mono ?_
  rintro r w' ⟨rfl, hh, hc⟩
  refine ⟨rfl, _, _, _, _, hh.rn h1, h2.keep (hh.at_ _), h3, own_keep h4 (hh.at_ _), h5, ⟨hc.os, hc.tape, hc.output, hc.size, fun k hk hf => hc.block k hk ?_⟩⟩
  rintro (rfl | rfl)
  · exact hf h6
  · exact hf h7
theorem ring_lead {w : World} {R : Nat} {nw od : Nat → Nat} {es : List En} {e : En} (h : Rn w R nw od es) (he : Nx w e.b (.int .i64 (e.k : Int)) (bvl e)) (hl : e.s.length = 512) (ho : Own w 0 (some ⟨e.A, 0, none⟩) e.c e.s) (hb : e.b ∉ R :: bs es) :
    Calls Try.prog 39 #[.pointer (some ⟨e.b, 0, none⟩), .pointer (some ⟨R, 0, none⟩)] w fun r w' => r = .returned (.tuple #[]) ∧ ∃ nw' od', Rn w' R nw' od' (e :: es) ∧ Ch (RF R (e :: es)) w w' := by
  obtain ⟨h1, h2⟩ := h.in1 rfl he hl ho hb
  obtain ⟨xq, yq, hq⟩ := h.at_ h2
  have hbR : e.b ≠ R := fun e2 => hb (by rw [e2]; exact List.mem_cons_self)
  have hbq : e.b ≠ od R := fun e2 => hb (by
    rw [e2]
    rcases h2 with h3 | h3
    · rw [h3]; exact List.mem_cons_self
    · exact List.mem_cons_of_mem _ h3)
  refine (lead_any he h.r hq hbR hbq).mono ?_
  rintro r w' ⟨rfl, hh, hc⟩
  refine ⟨rfl, _, _, hh.rn h1, ⟨hc.os, hc.tape, hc.output, hc.size, fun k hk hf => hc.block k hk ?_⟩⟩
  rintro (rfl | rfl | rfl)
  · exact hf (.inr List.mem_cons_self)
  · exact hf (.inl rfl)
  · rcases h2 with h3 | h3
    · exact hf (.inl h3)
    · exact hf (.inr (List.mem_cons_of_mem _ h3))
/-- 'delete(m, k)' at the operation. -/
theorem wp_delete {P : Program} {kt t e : TypeId} {K V : Type} [DecidableEq K] {kv : K → Value} {enc : V → Value} {w : World} {b : Nat} {ms : List (K × V)} {o : Oper} {a : Act} {KK : Act → World → Prop} {Q : Exit → Act → World → Prop} (m x : Operand) (ho : o.op = Op.call { callee := Callee.builtin Builtin.delete, args := #[m, x], argTypes := #[t, kt] }) (hK : Mp.Keys P kt kv) (ht : P.underlying t = some (.map kt e)) (h : Mp.Mq kv enc w b ms) (k : K)
    (hm : a.eval m = .map (some b)) (hx : a.eval x = kv k)
    (hk : ∀ w', Mp.Mq kv enc w' b (Mp.del ms k) → w.grownBy w' (some b) → w'.heap.size = w.heap.size → KK (a.put o.dst (.tuple #[])) w') : o.wp P a w KK Q := by
  obtain ⟨w', hrun, h1, h2, h3⟩ := h.del hK ht k o.type
  unfold Oper.wp
  simp [execOp, ho, resolve, invoke, builtin, hm, hx, hrun, Result.andThen]
  exact hk w' h1 h2 h3
theorem chBy {F : Nat → Prop} {w w' : World} {b : Nat} (h : w.grownBy w' (some b)) (hb : F b) : Ch F w w' := ⟨h.os, h.tape, h.output, h.size, fun k hk hf => h.block k hk (fun e => hf (by injection e with e; rw [e]; exact hb))⟩
theorem mid_mem {α : Type} {a b : List α} {e x : α} (hx : x ∈ a ++ b) : x ∈ a ++ e :: b := by
  rcases List.mem_append.1 hx with hx | hx
  · exact List.mem_append_left _ hx
  · exact List.mem_append_right _ (List.mem_cons_of_mem _ hx)
theorem rb_mid {R k : Nat} {a b : List En} {e : En} (h : RB R (a ++ b) k) : RB R (a ++ e :: b) k := by
  rcases h with (h | h) | ⟨x, hx, h⟩
  · exact .inl (.inl h)
  · obtain ⟨x, hx, rfl⟩ := of_bs h
    exact .inl (.inr (mem_bs (mid_mem hx)))
  · exact .inr ⟨x, mid_mem hx, h⟩
set_option maxRecDepth 20000 in
theorem discard_any {w : World} {G H R M room : Nat} {nw od : Nat → Nat} {a b : List En} {e : En} {ms : List (Int × Nat)} (h : Kz w G H R M room nw od (a ++ e :: b) ms) :
    Calls Try.prog 42 #[.pointer (some ⟨G, 0, none⟩), .pointer (some ⟨e.b, 0, none⟩)] w fun r w' => r = .returned (.tuple #[]) ∧ ∃ nw' od' ms', Kz w' G H R M room nw' od' (a ++ b) ms' ∧ Ch (KL G R M (a ++ e :: b)) w w' := by
  have HZ := Lib.hid h
  have hL := ring_leave h.r
  have hem : e ∈ a ++ e :: b := List.mem_append_right _ List.mem_cons_self
  have HMe := Lib.hid (h.mr (.inl (.inr (mem_bs hem))))
  have HMG := Lib.hid h.gm
  obtain ⟨eb, heb⟩ : ∃ x, x = e.b := ⟨_, rfl⟩
  obtain ⟨ek, hek⟩ : ∃ x, x = e.k := ⟨_, rfl⟩
  have HEb := Lib.hid heb
  have HEk := Lib.hid hek
  rw [← heb] at hL ⊢
  have HL := Lib.hid hL
  clear h hem heb hek hL
  go_enter Try.func42, Try.ntmps42
  go_wp2_with fail
  refine HL.out.mono ?_
  rintro r w1 ⟨rfl, nw', od', n', o', h1, h2, h3, h4, h5, hc⟩
  have H1 := Lib.hid h1
  have HC := Lib.hid hc
  have hg1 : w1.heap[G]? = _ := (hc.block G (HZ.out.lt G (.inl rfl)) (fun hf => HZ.out.gr (.inl hf) rfl)).trans HZ.out.g
  have HG1 := Lib.hid hg1
  have HM1 := Lib.hid (HZ.out.m.keep (hc.block M HZ.out.m.lt (fun hf => HZ.out.mr (.inl hf) rfl)))
  have HN := Lib.hid (show w1.cell? ⟨eb, 0, none⟩ = some (.int .i64 (ek : Int)) by rw [HEk.out]; exact h2.cells.1)
  clear h1 h2 h3 h4 h5 hc hg1 HL
  go_wp2_with fail
  refine restS_begin (fun v : World => v.cell? ⟨G, 2, none⟩ = some (.map (some M)) ∧ v.cell? ⟨eb, 0, none⟩ = some (.int .i64 (ek : Int))) (by kernel_rfl) ?_
  have HV := Lib.hid (show Hp w1.drew w1 from rfl)
  have GV := Lib.hid (show Ch (RF R (a ++ e :: b)) w w1.drew from HC.out.drew)
  generalize w1.drew = v0 at HV GV ⊢
  have HM0 := Lib.hid (HM1.out.keep (HV.out.at_ M))
  have SV := Lib.hid (show v0.cell? ⟨G, 2, none⟩ = some (.map (some M)) ∧ v0.cell? ⟨eb, 0, none⟩ = some (.int .i64 (ek : Int)) from ⟨cell_of_row v0 G 2 _ _ (0, 0) ((HV.out.at_ G).trans HG1.out), (World.cell?_of_block (a := ⟨eb, 0, none⟩) (HV.out.at_ eb)).trans HN.out⟩)
  refine restS_take (i := 0) SV.out rfl (by kernel_rfl) (by kernel_rfl) (by kernel_rfl) (by rfl) (fun v hv => by obtain ⟨v1, v2⟩ := hv; go_simp; try with_reducible rfl) ?_
  try simp only [Act.put, List.setIfInBounds_toArray, List.set_cons_zero, List.set_cons_succ]
  refine restS_take (i := 1) SV.out rfl (by kernel_rfl) (by kernel_rfl) (by kernel_rfl) (by rfl) (fun v hv => by obtain ⟨v1, v2⟩ := hv; go_simp; try with_reducible rfl) ?_
  try simp only [Act.put, List.setIfInBounds_toArray, List.set_cons_zero, List.set_cons_succ]
  refine restS_take (i := 2) SV.out rfl (by kernel_rfl) (by kernel_rfl) (by kernel_rfl) (by rfl) (fun v hv => by obtain ⟨v1, v2⟩ := hv; go_simp; try with_reducible rfl) ?_
  try simp only [Act.put, List.setIfInBounds_toArray, List.set_cons_zero, List.set_cons_succ]
  refine restS_take (i := 3) SV.out rfl (by kernel_rfl) (by kernel_rfl) (by kernel_rfl) (by rfl) (fun v hv => by obtain ⟨v1, v2⟩ := hv; go_simp; try with_reducible rfl) ?_
  try simp only [Act.put, List.setIfInBounds_toArray, List.set_cons_zero, List.set_cons_succ]
  refine restS_take (i := 4) SV.out rfl (by kernel_rfl) (by kernel_rfl) (by kernel_rfl) (by rfl) (fun v hv => by obtain ⟨v1, v2⟩ := hv; go_simp; try with_reducible rfl) ?_
  try simp only [Act.put, List.setIfInBounds_toArray, List.set_cons_zero, List.set_cons_succ]
  refine restS_take (i := 5) SV.out rfl (by kernel_rfl) (by kernel_rfl) (by kernel_rfl) (by rfl) (fun v hv => by obtain ⟨v1, v2⟩ := hv; go_simp; try with_reducible rfl) ?_
  try simp only [Act.put, List.setIfInBounds_toArray, List.set_cons_zero, List.set_cons_succ]
  refine restS_take (i := 6) SV.out rfl (by kernel_rfl) (by kernel_rfl) (by kernel_rfl) (by rfl) (fun v hv => by obtain ⟨v1, v2⟩ := hv; go_simp; try with_reducible rfl) ?_
  try simp only [Act.put, List.setIfInBounds_toArray, List.set_cons_zero, List.set_cons_succ]
  refine restS_take (i := 7) SV.out rfl (by kernel_rfl) (by kernel_rfl) (by kernel_rfl) (by rfl) (fun v hv => by obtain ⟨v1, v2⟩ := hv; go_simp; try with_reducible rfl) ?_
  try simp only [Act.put, List.setIfInBounds_toArray, List.set_cons_zero, List.set_cons_succ]
  refine restS_lone (i := 8) rfl (by kernel_rfl) (by rfl) (fun K hK => ?_)
  refine wp_delete (.tmp 9) (.tmp 13) rfl keys_int Try.underlying66 HM0.out.m (ek : Int) rfl rfl ?_
  intro w2 hm2 hb2 hs2
  have nG : w2.heap[G]? = v0.heap[G]? := hb2.block G (by rw [HV.out.size]; exact lt_of_heap HG1.out) (fun e => HMG.out (by injection e with e; exact e.symm))
  have ne : w2.heap[eb]? = v0.heap[eb]? := hb2.block eb (World.block_lt_of_cell? v0 _ SV.out.2) (fun e => HMe.out (by injection e with e; rw [← HEb.out]; exact e.symm))
  refine hK.out _ _ ⟨(World.cell?_of_block (a := ⟨G, 2, none⟩) nG).trans SV.out.1, (World.cell?_of_block (a := ⟨eb, 0, none⟩) ne).trans SV.out.2⟩ ?_
  rw [HEk.out] at hm2
  have HR2 := Lib.hid (H1.out.keep (w' := w2) (fun k hk => (hb2.block k (by rw [HV.out.size]; exact H1.out.lt hk) (fun e2 => by injection e2 with e2; exact HZ.out.mr (rb_mid hk) e2.symm)).trans (HV.out.at_ k)))
  have HZ2 := Lib.hid (show Kz w2 G H R M room nw' od' (a ++ b) (Mp.del ms (e.k : Int)) from { g := nG.trans ((HV.out.at_ G).trans HG1.out), r := HR2.out, m := HM0.out.del hm2 })
  have HC2 := Lib.hid (show Ch (KL G R M (a ++ e :: b)) w w2 from Ch.then (Ch.then (Ch.refl _ w) GV.out (fun k _ hk => .inr (.inr hk))) (chBy (F := fun k => k = M) hb2 rfl) (fun k _ hk => .inr (.inl hk)))
  clear hK K hm2 hb2 hs2 nG ne
  try simp only [Act.put, List.setIfInBounds_toArray, List.set_cons_zero, List.set_cons_succ]
  refine restS_done (by kernel_rfl) ?_
  refine bodyPost_end (results_none rfl _ _ _) rfl ⟨rfl, _, _, _, HZ2.out, HC2.out⟩
end Go.Proofs.Ythakdjaaknbmpaa.S14
