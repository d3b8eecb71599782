/-
  What a byte slice reads as (a list of bytes below a block's number), and the laws by which that reading is kept while memory grows.
-/
import Derived.Test.YtdeojgdjjckoeaaRows
import Derived.WalkKit
import Derived.WalkSpells
import Derived.WalkLawsBesides
import Derived.Deep.QuietTactic
import Derived.BigQuiet
import Derived.Lib.Hide
import Derived.Deep.Draws
import Derived.Laws.IdiomStrings
namespace Go.Proofs.Ytdeojgdjjckoeaa
open Go.RowKit

/-- A byte, as a cell holds it. -/
def bv (x : UInt8) : Value := .int .u8 (x.toNat : Int)
def bvs (l : List UInt8) : List Value := l.map bv
theorem bvs_length (l : List UInt8) : (bvs l).length = l.length := by simp [bvs]
theorem bvs_one (l : List UInt8) : ∀ u ∈ bvs l, u.oneCell' = true := by
  intro u hu
  simp only [bvs, List.mem_map] at hu
  obtain ⟨x, _, rfl⟩ := hu
  rfl

/-- The slice at A reads as the bytes l, and lies below block B. -/
def Rd (w : World) (B : Nat) (A : Option Addr) (l : List UInt8) : Prop :=
  l = [] ∨ ∃ b off, A = some ⟨b, off, none⟩ ∧ b < B ∧ ∀ j (h : j < l.length), w.cell? ⟨b, off + j, none⟩ = some (bv l[j])

section
variable {w w' : World} {B B' : Nat} {A : Option Addr} {l : List UInt8}
theorem Rd.nil (w : World) (B : Nat) (A : Option Addr) : Rd w B A [] := .inl rfl
theorem Rd.keep (h : Rd w B A l) (hk : ∀ p : Addr, p.block < B → w'.cell? p = w.cell? p) : Rd w' B A l := by
  rcases h with h | ⟨b, off, e, hb, hc⟩
  · exact .inl h
  · exact .inr ⟨b, off, e, hb, fun j hj => (hk _ hb).trans (hc j hj)⟩
theorem Rd.more (h : Rd w B A l) (hB : B ≤ B') : Rd w B' A l := by
  rcases h with h | ⟨b, off, e, hb, hc⟩
  · exact .inl h
  · exact .inr ⟨b, off, e, by omega, hc⟩
theorem Rd.below (h : Rd w B A l) (hb : Below B w w') : Rd w' B A l := h.keep fun _ hp => hb.cell hp
/-- Carried into a grown world, at that world's own size. -/
theorem Rd.grow (h : Rd w w.heap.size A l) (hb : Below w.heap.size w w') : Rd w' w'.heap.size A l := (h.below hb).more hb.size
theorem Rd.at_ (h : Rd w B A l) {k : Nat} (hk : k < l.length) : ∃ b off, A = some ⟨b, off, none⟩ ∧ b < B ∧ w.cell? ⟨b, off + k, none⟩ = some (.int .u8 (l[k].toNat : Int)) := by
  rcases h with rfl | ⟨b, off, e, hb, hc⟩
  · simp at hk
  · exact ⟨b, off, e, hb, hc k hk⟩
theorem Rd.take (h : Rd w B A l) (k : Nat) : Rd w B A (l.take k) := by
  rcases h with rfl | ⟨b, off, e, hb, hc⟩
  · exact .inl (by simp)
  · exact .inr ⟨b, off, e, hb, fun j hj => by simp at hj; rw [hc j (by omega)]; simp⟩
theorem Rd.cut (h : Rd w B A l) {k cap : Nat} (hc : l.length ≤ cap) : Rd w B (if cap = k then A else A.map (·.add k)) (l.drop k) := by
  by_cases hk : l.length ≤ k
  · exact .inl (by simpa using hk)
  · rw [if_neg (by omega)]
    rcases h with rfl | ⟨b, off, rfl, hb, hc⟩
    · exact .inl (by simp)
    · refine .inr ⟨b, off + k, ?_, hb, fun j hj => ?_⟩
      · by_cases h0 : k = 0 <;> simp [Addr.add, h0]
      · simp at hj
        have := hc (k + j) (by omega)
        rw [show off + k + j = off + (k + j) by omega, this]
        simp
end

theorem u8_lt (x : UInt8) : x.toNat < 256 := x.toNat_lt

/-- 'string(b)' of a slice that reads as l. -/
theorem conv {w : World} {B : Nat} {A : Option Addr} {l : List UInt8} (h : Rd w B A l) (c : Nat) :
    (convert 47 9 (.slice A l.length c)).run Try.prog w = .ok (.string ⟨l.toArray⟩) w := by
  rcases h with rfl | ⟨b, off, rfl, hb, hc⟩
  · rw [run_convert_bytes_string w 47 9 5 A _ c Try.underlying47 Try.underlying5 Try.underlying9]
    cases A <;> simp [Conv.bytesToString, loadCells, Sem.run_pure] <;> rfl
  · refine run_convert_bytes_back w 47 9 5 _ c l Try.underlying47 Try.underlying5 Try.underlying9 ?_
    intro j hj
    have := hc j hj
    by_cases h0 : j = 0
    · subst h0; simpa [Addr.add, bv] using this
    · simpa [Addr.add, h0, bv] using this

theorem info5 : (Try.prog.info? 5).map (fun i => (i.zero, i.size, i.bytes)) = some (some (.int .u8 0), 1, 1) := by kernel_rfl

/-- Block g is just the bytes l, none frozen. -/
def Row (w : World) (g : Nat) (l : List UInt8) : Prop := w.heap[g]? = some (.cells (bvs l).toArray 5 (0, 0))
section
variable {w w' : World} {g : Nat} {l : List UInt8}
theorem Row.lt (h : Row w g l) : g < w.heap.size := by
  unfold Row at h
  rcases Nat.lt_or_ge g w.heap.size with h1 | h1
  · exact h1
  · rw [Array.getElem?_eq_none h1] at h; cases h
theorem Row.cell (h : Row w g l) (i : Nat) (hi : i < l.length) : w.cell? ⟨g, i, none⟩ = some (bv l[i]) := by
  rw [cell_of_row w g i _ 5 (0, 0) h]; simp [bvs, hi]
theorem Row.free (h : Row w g l) (i : Nat) : w.frozen? ⟨g, i, none⟩ = false := frozen_of_row w g i _ 5 h
theorem Row.below {B : Nat} (h : Row w g l) (hb : Below B w w') (hg : g < B) : Row w' g l := (hb.block g hg).trans h
theorem Row.grow (h : Row w g l) (hb : Below w.heap.size w w') : Row w' g l := h.below hb h.lt
theorem Row.alloc (h : Row w g l) (o : Obj) : Row (w.alloc o) g l := (Below.heap_alloc w o g h.lt).trans h
theorem Row.drew (h : Row w g l) : Row w.drew g l := h
theorem Row.far (h : Row w g l) {p : Addr} (hp : g ≠ p.block) (u : Value) : Row (w.setCell p u) g l := (Below.heap_setCell w p u g hp).trans h
theorem Row.put (h : Row w g l) (i : Nat) (x : UInt8) : Row (w.setCell ⟨g, i, none⟩ (bv x)) g (l.set i x) := by
  unfold Row at *
  rw [heap_setCell_same w g i _ 5 _ h]
  simp [bvs, List.map_set]
theorem Row.rd (h : Row w g l) {B : Nat} (hB : g < B) : Rd w B (some ⟨g, 0, none⟩) l :=
  .inr ⟨g, 0, rfl, hB, fun j hj => by rw [Nat.zero_add]; exact h.cell j hj⟩
theorem Row.new (w : World) (l : List UInt8) : Row (w.alloc (.cells (bvs l).toArray 5)) w.heap.size l := heap_alloc_new w _
end

/-- 'make([]byte, k)'. -/
theorem mk22 (k : Nat) (hk : k ≤ 4294967296) (w : World) :
    (Instr.makeSlice 47 (.int .i64 (k : Int)) (.int .i64 (k : Int))).run Try.prog w = .ok (.slice (some ⟨w.heap.size, 0, none⟩) k k) (w.alloc (.cells (bvs (List.replicate k 0)).toArray 5)) := by
  obtain ⟨i0, hi, hz0, hz1, hz2⟩ := info_parts info5
  have hr := run_make (P := Try.prog) w 47 5 i0 _ Try.underlying47 hi hz0 .i64 .i64 (k : Int) (k : Int) (by omega) (by omega) (by rw [hz2]; omega) (by omega)
  simp only [Int.toNat_natCast, hz1, Nat.mul_one] at hr
  rw [hr]
  have : madeCells (Value.int IntKind.u8 0).cells k = (bvs (List.replicate k 0)).toArray := by
    apply Array.toList_inj.1
    show (madeCells #[_] k).toList = _
    rw [toList_madeCells_one]
    simp [bvs, bv]
  rw [this]

end Go.Proofs.Ytdeojgdjjckoeaa
