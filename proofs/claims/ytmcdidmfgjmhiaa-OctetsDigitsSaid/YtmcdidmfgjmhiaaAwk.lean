/-
  Contract of awake: it returns true, and leaves older memory as it was.
-/
import Derived.Test.YtmcdidmfgjmhiaaHex
import Derived.Lib.SlBytesConst
namespace Go.Proofs.Ytmcdidmfgjmhiaa
open Go.RowKit
set_option linter.unusedVariables false

theorem lay_ex (w : World) : Calls Try.prog 9 #[.int .i64 258, .int .i64 3] w (Makes w [0, 1, 2]) := by
  have := lay_any 258 3 3 w (by omega) (.inr (.inl rfl))
  rwa [show layL 258 3 = [0, 1, 2] by decide] at this
theorem cutL_ex : cutL 2 [97, 98, 99, 100, 101] = [[97, 98], [99, 100], [101]] := by
  rw [cutL_step _ _ (by decide) (by decide)]
  show _ :: cutL 2 [99, 100, 101] = _
  rw [cutL_step _ _ (by decide) (by decide)]
  show _ :: _ :: cutL 2 [101] = _
  rw [cutL_step _ _ (by decide) (by decide)]
  show _ :: _ :: _ :: cutL 2 [] = _
  rw [cutL_nil]
  rfl

theorem rd_block {w : World} {g B : Nat} {l : List UInt8} {fr : Nat × Nat} (h : w.heap[g]? = some (.cells (bvs l).toArray 5 fr)) (hB : g < B) : Rd w B (some ⟨g, 0, none⟩) l :=
  .inr ⟨g, 0, rfl, hB, fun j hj => by rw [Nat.zero_add, cell_of_row w g j _ 5 fr h]; simp [bvs, hj]⟩

/-- Three pieces laid out as a literal. -/
theorem rdL_three (w : World) (p q r : List UInt8) (fp fq fr : Nat × Nat) :
    RdL ((((w.alloc (.cells (bvs p).toArray 5 fp)).alloc (.cells (bvs q).toArray 5 fq)).alloc (.cells (bvs r).toArray 5 fr)).alloc (.cells #[.slice (some ⟨w.heap.size, 0, none⟩) p.length p.length, .slice (some ⟨w.heap.size + 1, 0, none⟩) q.length q.length, .slice (some ⟨w.heap.size + 2, 0, none⟩) r.length r.length] 22))
      (w.heap.size + 4) (some ⟨w.heap.size + 3, 0, none⟩) [p, q, r] := by
  have s1 : (w.alloc (.cells (bvs p).toArray 5 fp)).heap.size = w.heap.size + 1 := by simp
  have s2 : ((w.alloc (.cells (bvs p).toArray 5 fp)).alloc (.cells (bvs q).toArray 5 fq)).heap.size = w.heap.size + 2 := by simp
  have s3 : (((w.alloc (.cells (bvs p).toArray 5 fp)).alloc (.cells (bvs q).toArray 5 fq)).alloc (.cells (bvs r).toArray 5 fr)).heap.size = w.heap.size + 3 := by simp
  have hl : ∀ (W : World) (o : Obj), W.heap.size = w.heap.size + 3 → (W.alloc o).heap[w.heap.size + 3]? = some o := fun W o e => by rw [← e]; exact heap_alloc_new W o
  refine .inr ⟨w.heap.size + 3, 0, rfl, by omega, fun j hj => ?_⟩
  have hcell : ∀ j, ((((w.alloc (.cells (bvs p).toArray 5 fp)).alloc (.cells (bvs q).toArray 5 fq)).alloc (.cells (bvs r).toArray 5 fr)).alloc (.cells #[.slice (some ⟨w.heap.size, 0, none⟩) p.length p.length, .slice (some ⟨w.heap.size + 1, 0, none⟩) q.length q.length, .slice (some ⟨w.heap.size + 2, 0, none⟩) r.length r.length] 22)).cell? ⟨w.heap.size + 3, 0 + j, none⟩
      = (#[Value.slice (some ⟨w.heap.size, 0, none⟩) p.length p.length, .slice (some ⟨w.heap.size + 1, 0, none⟩) q.length q.length, .slice (some ⟨w.heap.size + 2, 0, none⟩) r.length r.length] : Array Value)[j]? := fun j => by
    rw [Nat.zero_add, cell_of_row _ _ j _ 22 (0, 0) (hl _ _ s3)]
  match j, hj with
  | 0, _ => exact ⟨_, _, hcell 0, Nat.le_refl _, rd_block (fr := fp) (by rw [Below.heap_alloc _ _ _ (by omega), Below.heap_alloc _ _ _ (by omega), Below.heap_alloc _ _ _ (by omega)]; exact heap_alloc_new _ _) (by omega)⟩
  | 1, _ => exact ⟨_, _, hcell 1, Nat.le_refl _, rd_block (fr := fq) (by rw [Below.heap_alloc _ _ _ (by omega), Below.heap_alloc _ _ _ (by omega), ← s1]; exact heap_alloc_new _ _) (by omega)⟩
  | 2, _ => exact ⟨_, _, hcell 2, Nat.le_refl _, rd_block (fr := fr) (by rw [Below.heap_alloc _ _ _ (by omega), ← s2]; exact heap_alloc_new _ _) (by omega)⟩

theorem below4 (w : World) (a b c d : Obj) : Below w.heap.size w ((((w.alloc a).alloc b).alloc c).alloc d) :=
  ((((Below.refl _ _).alloc (Nat.le_refl _) _).alloc (by simp) _).alloc (by simp; omega) _).alloc (by simp; omega) _

set_option maxHeartbeats 1000000 in
theorem awake_any (w : World) : Calls Try.prog 8 #[] w (Says w true) := by
  have kc := fun (W : World) (C : Array Value) (n c : Nat) => Lib.run_convert_bytes_const (P := Try.prog) W 22 5 C n c Try.underlying22 Try.underlying5
  have kc1 : ∀ (W : World) (o : Obj) (C : Array Value) (n c : Nat), (convert 22 22 (.slice (some ⟨W.heap.size + 1, 0, none⟩) n c)).run Try.prog ((W.alloc o).alloc (.cells C 5)) = .ok (.slice (some ⟨W.heap.size + 1, 0, none⟩) n c) ((W.alloc o).alloc (.cells C 5 (C.size, C.size + 1))) := fun W o C n c => by
    have := kc (W.alloc o) C n c
    rwa [show (W.alloc o).heap.size = W.heap.size + 1 by simp] at this
  have kc2 : ∀ (W : World) (o o' : Obj) (C : Array Value) (n c : Nat), (convert 22 22 (.slice (some ⟨W.heap.size + 2, 0, none⟩) n c)).run Try.prog (((W.alloc o).alloc o').alloc (.cells C 5)) = .ok (.slice (some ⟨W.heap.size + 2, 0, none⟩) n c) (((W.alloc o).alloc o').alloc (.cells C 5 (C.size, C.size + 1))) := fun W o o' C n c => by
    have := kc ((W.alloc o).alloc o') C n c
    rwa [show ((W.alloc o).alloc o').heap.size = W.heap.size + 2 by simp] at this
  go_enter Try.func8, Try.ntmps8
  go_wp2_with fail
  refine (lay_ex _).mono ?_
  rintro e w1 ⟨A1, c1, rfl, ho1, hb1⟩
  have hcv : (convert 22 9 (.slice A1 3 c1)).run Try.prog w1 = .ok (.string ⟨#[0, 1, 2]⟩) w1 := conv ho1.rd c1
  have Hb1 := Lib.hid hb1
  clear ho1 hb1
  go_wp2_with fail
  refine (cut_some _ 5 5 [97, 98, 99, 100, 101] 2 _ rfl (rd_block (fr := (5, 6)) (heap_alloc_new _ _) (by simp)) (by omega) (by omega) (by omega) (by omega)).mono ?_
  rw [cutL_ex]
  rintro e w2 ⟨A2, c2, rfl, ho2, hb2⟩
  have Hb2 := Lib.hid hb2
  have Ho2 := Lib.hid ho2
  clear ho2 hb2 hcv
  go_wp2_with fail
  refine (pieces_same A2 _ 3 c2 3 3 [[97, 98], [99, 100], [101]] _ ((Ho2.out.rd.keep (below4 w2 _ _ _ _)).more (below4 w2 _ _ _ _).size) ((rdL_three w2 [97, 98] [99, 100] [101] (2, 3) (2, 3) (1, 2)).more (by simp)) rfl rfl (by simp)).mono ?_
  rintro e w3 ⟨rfl, hb3⟩
  have Hb3 := Lib.hid ((below4 w2 _ _ _ _).trans (hb3.mono (below4 w2 _ _ _ _).size))
  clear hb3
  go_wp2_with fail
  refine (hex_any _ 2 2 [0, 255] _ rfl (rd_block (fr := (0, 0)) (heap_alloc_new _ _) (by simp)) (by omega)).mono ?_
  rintro e w4 ⟨rfl, hb4⟩
  have Hb4 := Lib.hid ((alloc_below w3 _).trans (hb4.mono (alloc_below w3 _).size))
  clear hb4
  have hx : ((⟨(hexL [0, 255]).toArray⟩ : ByteArray)) = ⟨#[48, 48, 102, 102]⟩ := rfl
  rw [hx]
  go_wp2
  go_ret
  refine ⟨rfl, ?_⟩
  have b1 := Hb1.out
  have b2 := (alloc_below w1 _).trans (Hb2.out.mono (alloc_below w1 _).size)
  have c2 := b1.trans (b2.mono b1.size)
  have c3 := c2.trans (Hb3.out.mono c2.size)
  exact c3.trans (Hb4.out.mono c3.size)

end Go.Proofs.Ytmcdidmfgjmhiaa
