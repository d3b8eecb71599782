/-
  May it be a unit? The reference. Acts of the law: MACs.
-/
import Derived.Test.YtjklgmhaebjjaaaMgOsameMain28
namespace Go.Proofs.Ytjklgmhaebjjaaa.S12
open S11
open Go.RowKit
set_option linter.unusedVariables false
set_option linter.unusedSimpArgs false

theorem ne_of16 {b : List UInt8} {n : Nat} (h : b.length = n) (hn : 16 ≤ n) : b ≠ [] := by
  intro e
  rw [e] at h
  simp at h
  omega
/-- May it be a unit? -/
def rightB (nk : Nat) (number : Int) (nx : Nat) : Bool := decide (nk = 64 ∧ 0 ≤ number ∧ 16 ≤ nx ∧ nx ≤ 1024 ∧ nx % 16 = 0)
end Go.Proofs.Ytjklgmhaebjjaaa.S12
namespace Go.Proofs.Ytjklgmhaebjjaaa.S12
open S11
open Go.RowKit
set_option linter.unusedVariables false
set_option linter.unusedSimpArgs false

theorem BesL.grow {w w' : World} {F : Nat → Prop} {A : Option Addr} {n c : Nat} {ls : List (List UInt8)} (h : BesL w F A n c ls) (hg : Grown w w') : BesL w' F A n c ls := by
  obtain ⟨h1, h2, h3, h4⟩ := h
  refine ⟨(h1.keep hg).more hg.size, h2, h3, fun hne => ?_⟩
  obtain ⟨b, off, e, hb, hc⟩ := h4 hne
  refine ⟨b, off, e, hb, fun j hj => ?_⟩
  obtain ⟨A', c', hcl, ho⟩ := hc j hj
  have hlt : b < w.heap.size := by
    rcases h1 with h0 | ⟨b2, o2, e2, hb2, _⟩
    · exact absurd h0 hne
    · rw [e] at e2
      simp only [Option.some.injEq, Addr.mk.injEq] at e2
      rw [e2.1]; exact hb2
  exact ⟨A', c', (hg.cell (p := ⟨b, off + j, none⟩) hlt).trans hcl, ho⟩
theorem besL_two {M : Mod} {B : Nat} {O : Ob M} (K : Kept B O) {w : World} {G : Nat} {F : Nat → Prop} {st : M.σ} (h : O w G F st) {A1 A2 : Option Addr} {n1 c1 n2 c2 : Nat} {p q : List UInt8} (h1 : Bes w F A1 n1 c1 p) (h2 : Bes w F A2 n2 c2 q) :
    BesL (w.alloc (.cells #[.slice A1 n1 c1, .slice A2 n2 c2] 22)) F (some ⟨w.heap.size, 0, none⟩) 2 2 [p, q] := by
  have hnew := heap_alloc_new w (.cells #[.slice A1 n1 c1, .slice A2 n2 c2] 22)
  have hc := fun j => cell_of_row _ w.heap.size j _ 22 (0, 0) hnew
  have g := alloc_below w (.cells #[.slice A1 n1 c1, .slice A2 n2 c2] 22)
  obtain ⟨r1, rfl, k1, o1⟩ := h1
  obtain ⟨r2, rfl, k2, o2⟩ := h2
  refine ⟨.inr ⟨w.heap.size, 0, rfl, by simp, fun j hj => ?_⟩, rfl, Nat.le_refl _, fun _ => ⟨w.heap.size, 0, rfl, fun hf => by have := K.foot w G F st h _ hf; omega, fun j hj => ?_⟩⟩
  · rcases (show j = 0 ∨ j = 1 by simp at hj; omega) with rfl | rfl
    · exact ⟨A1, c1, by rw [hc]; rfl, k1, r1.grow g⟩
    · exact ⟨A2, c2, by rw [hc]; rfl, k2, r2.grow g⟩
  · rcases (show j = 0 ∨ j = 1 by simp at hj; omega) with rfl | rfl
    · exact ⟨A1, c1, by rw [hc]; rfl, o1⟩
    · exact ⟨A2, c2, by rw [hc]; rfl, o2⟩
theorem besL_one {M : Mod} {B : Nat} {O : Ob M} (K : Kept B O) {w : World} {G : Nat} {F : Nat → Prop} {st : M.σ} (h : O w G F st) {A1 : Option Addr} {n1 c1 : Nat} {p : List UInt8} (h1 : Bes w F A1 n1 c1 p) :
    BesL (w.alloc (.cells #[.slice A1 n1 c1] 22)) F (some ⟨w.heap.size, 0, none⟩) 1 1 [p] := by
  have hnew := heap_alloc_new w (.cells #[.slice A1 n1 c1] 22)
  have hc := fun j => cell_of_row _ w.heap.size j _ 22 (0, 0) hnew
  have g := alloc_below w (.cells #[.slice A1 n1 c1] 22)
  obtain ⟨r1, rfl, k1, o1⟩ := h1
  refine ⟨.inr ⟨w.heap.size, 0, rfl, by simp, fun j hj => ?_⟩, rfl, Nat.le_refl _, fun _ => ⟨w.heap.size, 0, rfl, fun hf => by have := K.foot w G F st h _ hf; omega, fun j hj => ?_⟩⟩
  · obtain rfl : j = 0 := by simp at hj; omega
    exact ⟨A1, c1, by rw [hc]; rfl, k1, r1.grow g⟩
  · obtain rfl : j = 0 := by simp at hj; omega
    exact ⟨A1, c1, by rw [hc]; rfl, o1⟩
theorem cutT (W : World) (A : Option Addr) (m c d : Nat) (h : d ≤ c) : (Instr.slice 22 (.slice A m c) none (some (.int .i64 (d : Int))) none).run Try.prog W = .ok (.slice A d c) W := by
  have hle : ((d : Int)).toNat ≤ c := by simpa using h
  go_simp
theorem cutF (W : World) (A : Option Addr) (m c d : Nat) (h : d ≤ m) : (Instr.slice 22 (.slice A m c) (some (.int .i64 (d : Int))) none none).run Try.prog W = .ok (.slice (if c = d then A else A.map (·.add d)) (m - d) (c - d)) W := by
  obtain ⟨i0, hi, hz0, hz1, hz2⟩ := info_parts info5
  have he : Try.prog.elem 22 = 5 := by kernel_rfl
  rw [run_slice_l W 22 A m c (by rw [he]; exact Try.underlying22) .i64 (d : Int) (by omega) (by omega), he]
  simp [sizeOf, typeInfo, hi, hz1, sliced, Result.andThen]
def z32 : List UInt8 := List.replicate 32 0
theorem i64a : (Try.prog.info? 34).map (·.size) = some 64 := by kernel_rfl
theorem i32a : (Try.prog.info? 165).map (·.size) = some 32 := by kernel_rfl
theorem zv64 (V : World) : (zeroValue 34).run Try.prog V = .ok (.agg (bvs z64).toArray) V := by kernel_rfl
theorem zv32 (V : World) : (zeroValue 165).run Try.prog V = .ok (.agg (bvs z32).toArray) V := by kernel_rfl
theorem cut64 (W : World) (g : Nat) : (Instr.sliceAt 34 (.pointer (some ⟨g, 0, none⟩)) none none none).run Try.prog W = .ok (.slice (some ⟨g, 0, none⟩) 64 64) W := by
  obtain ⟨i0, hi0, hz0, hz1, hz2⟩ := info_parts info5
  have hel : Try.prog.elem 34 = 5 := by kernel_rfl
  have hl : Try.prog.arrayLen 34 = 64 := by kernel_rfl
  rw [run_sliceAt_array_all (P := Try.prog) W 34 ⟨g, 0, none⟩ (by rw [hel, hl]; kernel_rfl), hel, hl]
  simp [sizeOf, typeInfo, hi0, hz1, slicedAt, Result.andThen, Addr.add_mid]
theorem cut32 (W : World) (g : Nat) : (Instr.sliceAt 165 (.pointer (some ⟨g, 0, none⟩)) none none none).run Try.prog W = .ok (.slice (some ⟨g, 0, none⟩) 32 32) W := by
  obtain ⟨i0, hi0, hz0, hz1, hz2⟩ := info_parts info5
  have hel : Try.prog.elem 165 = 5 := by kernel_rfl
  have hl : Try.prog.arrayLen 165 = 32 := by kernel_rfl
  rw [run_sliceAt_array_all (P := Try.prog) W 165 ⟨g, 0, none⟩ (by rw [hel, hl]; kernel_rfl), hel, hl]
  simp [sizeOf, typeInfo, hi0, hz1, slicedAt, Result.andThen, Addr.add_mid]
end Go.Proofs.Ytjklgmhaebjjaaa.S12
