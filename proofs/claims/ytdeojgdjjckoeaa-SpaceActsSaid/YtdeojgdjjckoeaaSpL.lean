/-
  A space on lists: the used sectors in order, the released ones; without the program.
-/
import Derived.Test.YtdeojgdjjckoeaaChf
namespace Go.Proofs.Ytdeojgdjjckoeaa.S15
open Cf
open Go.RowKit
set_option linter.unusedVariables false
set_option linter.unusedSimpArgs false

structure Sp where
  first : Int
  last : Int
  used : List Int
  going : List Int
def wo (l : List Int) (n : Int) : List Int := l.filter fun x => decide (x ≠ n)
def lo (l : List Int) (n : Int) : List Int := l.takeWhile fun x => decide (x < n)
def ins (l : List Int) (n : Int) : List Int := lo l n ++ n :: l.drop (lo l n).length
def isFree (s : Sp) (n : Int) : Bool := decide (s.first ≤ n) && decide (n < s.last) && !s.used.contains n && !s.going.contains n
/-- Is one told twice, among the first k? -/
def tw (l : List Int) : Nat → Bool
  | 0 => false
  | k + 1 => tw l k || (l.take k).contains (l.getD k 0)
def twice (l : List Int) : Bool := tw l l.length
def spFree (s : Sp) : Int := s.last - s.first - s.used.length - s.going.length
/-- The least free one from first + i on, among k. -/
def least (s : Sp) : Nat → Nat → Option Int
  | _, 0 => none
  | i, k + 1 => if isFree s (s.first + i) then some (s.first + i) else least s (i + 1) k
def spTake (s : Sp) : Int × Int × Sp :=
  match least s 0 (s.last - s.first).toNat with
  | some n => (n, 0, { s with used := ins s.used n })
  | none => (0, 12, s)
def spUse (s : Sp) (l : List Int) : Int × Sp :=
  if l.all (isFree s) && !twice l then (0, { s with used := l.foldl ins s.used }) else (2, s)
def spGive (s : Sp) (l : List Int) : Int × Sp :=
  if l.all (s.used.contains ·) && !twice l then (0, { s with used := l.foldl wo s.used, going := s.going ++ l }) else (2, s)
def spBack (s : Sp) (l : List Int) : Int × Sp :=
  if l.all (s.used.contains ·) && !twice l then (0, { s with used := l.foldl wo s.used }) else (2, s)
def spSettle (s : Sp) : Sp := { s with going := [] }
def spUndo (s : Sp) (l : List Int) : Sp := { s with used := s.going.foldl ins (l.foldl wo s.used), going := [] }
theorem wo_len (l : List Int) (n : Int) : (wo l n).length ≤ l.length := List.length_filter_le _ _
theorem lo_len (l : List Int) (n : Int) : (lo l n).length ≤ l.length := (List.takeWhile_sublist _).length_le
theorem ins_len (l : List Int) (n : Int) : (ins l n).length = l.length + 1 := by
  have := lo_len l n
  unfold ins
  simp
  omega
theorem wo_app (a b : List Int) (n : Int) : wo (a ++ b) n = wo a n ++ wo b n := by simp [wo]
/-- A row of numbers: it may be read. -/
def zv (n : Int) : Value := .int .i64 n
def RdZ (w : World) (B : Nat) (A : Option Addr) (l : List Int) : Prop := l = [] ∨ ∃ b off, A = some ⟨b, off, none⟩ ∧ b < B ∧ ∀ j (h : j < l.length), w.cell? ⟨b, off + j, none⟩ = some (.int .i64 l[j])
/-- .. it is owned. -/
def OwZ (w : World) (base : Nat) (A : Option Addr) (c : Nat) (l : List Int) : Prop := Ow w base 3 A c (l.map zv)
section
variable {w w' : World} {base B c : Nat} {A : Option Addr} {l : List Int}
theorem RdZ.keep (h : RdZ w B A l) (hk : ∀ p : Addr, p.block < B → w'.cell? p = w.cell? p) : RdZ w' B A l := by
  rcases h with h | ⟨b, off, e, hb, hc⟩
  · exact .inl h
  · exact .inr ⟨b, off, e, hb, fun j hj => (hk _ hb).trans (hc j hj)⟩
theorem RdZ.grow (h : RdZ w w.heap.size A l) (hg : Grown w w') : RdZ w' w'.heap.size A l := by
  rcases h with h | ⟨b, off, e, hb, hc⟩
  · exact .inl h
  · exact .inr ⟨b, off, e, Nat.lt_of_lt_of_le hb hg.size, fun j hj => (hg.cell (p := ⟨b, off + j, none⟩) hb).trans (hc j hj)⟩
theorem RdZ.take (h : RdZ w B A l) (k : Nat) : RdZ w B A (l.take k) := by
  rcases h with rfl | ⟨b, off, e, hb, hc⟩
  · exact .inl (by simp)
  · exact .inr ⟨b, off, e, hb, fun j hj => by simp at hj; rw [hc j (by omega)]; simp⟩
theorem RdZ.at_ (h : RdZ w B A l) {k : Nat} (hk : k < l.length) : ∃ b off, A = some ⟨b, off, none⟩ ∧ b < B ∧ w.cell? ⟨b, off + k, none⟩ = some (.int .i64 l[k]) := by
  rcases h with rfl | ⟨b, off, e, hb, hc⟩
  · simp at hk
  · exact ⟨b, off, e, hb, hc k hk⟩
theorem OwZ.nil (w : World) (base : Nat) : OwZ w base none 0 [] := Ow.nil _ _ _
theorem OwZ.rd (h : OwZ w base A c l) : RdZ w w.heap.size A l := by
  by_cases hl : l = []
  · exact .inl hl
  · have hp : 0 < (l.map zv).length := by rw [List.length_map]; exact List.length_pos_iff.2 hl
    obtain ⟨g, hg, _, hgl, _⟩ := Ow.at_ h 0 hp
    refine .inr ⟨g, 0, hg, hgl, fun j hj => ?_⟩
    obtain ⟨g', hg', _, _, hc, _⟩ := Ow.at_ h j (by rw [List.length_map]; exact hj)
    rw [hg] at hg'
    simp only [Option.some.injEq, Addr.mk.injEq] at hg'
    rw [← hg'.1] at hc
    rw [Nat.zero_add, hc]
    simp [zv]
theorem OwZ.le (h : OwZ w base A c l) : l.length ≤ c := by have := Ow.le h; rwa [List.length_map] at this
theorem OwZ.grow (h : OwZ w base A c l) (hg : Grown w w') : OwZ w' base A c l := Ow.keep h fun x hx => hg.block x.block (Ow.lt h x hx).2
end
theorem infoZ : (Try.prog.info? 3).map (fun i => (i.zero, i.size, i.bytes)) = some (some (.int .i64 0), 1, 8) := by kernel_rfl
end Go.Proofs.Ytdeojgdjjckoeaa.S15
