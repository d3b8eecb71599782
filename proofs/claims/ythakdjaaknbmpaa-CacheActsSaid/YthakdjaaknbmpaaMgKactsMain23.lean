/-
  What the laws of cache ask of the program's caches; law14's awake out of it.
-/
import Derived.Test.YthakdjaaknbmpaaMgKactsMain21
import Derived.Test.YthakdjaaknbmpaaMgKactsMain22
namespace Go.Proofs.Ythakdjaaknbmpaa.S14
open S13
open Cf
open Go.RowKit
set_option linter.unusedVariables false
set_option linter.unusedSimpArgs false

def keys (l : Ka) : List Int := l.map fun p => ((p.1 : Nat) : Int)
structure CacheOk (D : DTab) (C : CTab) : Prop where
  kept : CKept C
  new : ∀ w H FD dv (room : Nat), D w H FD dv → room < 9223372036854775808 → Calls Try.prog 9 #[.pointer (some ⟨H, 0, none⟩), .int .i64 (room : Int)] w fun e w' =>
    ∃ G F, e = .returned (.tuple #[.pointer (some ⟨G, 0, none⟩), .int .i64 0]) ∧ C w' G F H room [] ∧ (∀ k, F k → w.heap.size ≤ k) ∧ Grown w w'
  newNil : ∀ w (n : Int), -9223372036854775808 ≤ n → n < 9223372036854775808 → Calls Try.prog 9 #[.pointer none, .int .i64 n] w fun e w' => e = .returned (.tuple #[.pointer none, .int .i64 1]) ∧ Grown w w'
  newBad : ∀ w H (n : Int), -9223372036854775808 ≤ n → n < 0 → Calls Try.prog 9 #[.pointer (some ⟨H, 0, none⟩), .int .i64 n] w fun e w' => e = .returned (.tuple #[.pointer none, .int .i64 2]) ∧ Grown w w'
  read : ∀ w G H F room l dv i (n : Int), Cd D C w G H F room l dv → KOk room dv.kept.length l → Ok dv i → i ≤ 1000 → dv.kept.length ≤ 100 → room < 9223372036854775808 →
    Calls Try.prog 13 #[.pointer (some ⟨G, 0, none⟩), .int .i64 n] w fun e w' =>
      ∃ A m c, e = .returned (.tuple #[.slice A m c, .int .i64 (kaRead room l dv n).2.1]) ∧ (kaRead room l dv n).1.length = m ∧ m ≤ c ∧ OwA w' w.heap.size A c (kaRead room l dv n).1 ∧
        ∃ F', Cd D C w' G H F' room (kaRead room l dv n).2.2.1 (kaRead room l dv n).2.2.2 ∧ (∀ k, F' k → F k ∨ w.heap.size ≤ k) ∧ Ch F w w' ∧ ∀ x, A = some x → ¬ F' x.block
  write : ∀ w G H F room l dv i (n : Int) A m c b, Cd D C w G H F room l dv → KOk room dv.kept.length l → Ok dv i → i ≤ 1000 → dv.kept.length ≤ 100 → room < 9223372036854775808 →
    Rd w w.heap.size A b → b.length = m → m ≤ c → m ≤ 1000 → (∀ x, A = some x → b ≠ [] → ¬ F x.block) →
    Calls Try.prog 11 #[.pointer (some ⟨G, 0, none⟩), .int .i64 n, .slice A m c] w fun e w' => e = .returned (.int .i64 (kaWrite room l dv n b).1) ∧ CdOn D C w G H F room (kaWrite room l dv n b).2.1 (kaWrite room l dv n b).2.2 w'
  drop : ∀ w G H F room l dv (n : Int) A c, Cd D C w G H F room l dv → KOk room dv.kept.length l → dv.kept.length ≤ 100 → RdN w w.heap.size A [n] → 1 ≤ c → (∀ x, A = some x → ¬ F x.block) →
    Calls Try.prog 15 #[.pointer (some ⟨G, 0, none⟩), .slice A 1 c] w fun e w' => e = .returned (.tuple #[]) ∧ CdOn D C w G H F room (kaDrop l n) dv w'
  clear : ∀ w G H F room l dv, Cd D C w G H F room l dv → KOk room dv.kept.length l → dv.kept.length ≤ 100 →
    Calls Try.prog 17 #[.pointer (some ⟨G, 0, none⟩)] w fun e w' => e = .returned (.tuple #[]) ∧ CdOn D C w G H F room [] dv w'
  keeps : ∀ w G H F room l dv, Cd D C w G H F room l dv → KOk room dv.kept.length l → dv.kept.length ≤ 100 →
    Calls Try.prog 27 #[.pointer (some ⟨G, 0, none⟩)] w fun e w' => ∃ A m c, e = .returned (.slice A m c) ∧ l.length = m ∧ m ≤ c ∧ RdN w' w'.heap.size A (keys l) ∧ Grown w w'
  dev : ∀ w G H F room l dv, Cd D C w G H F room l dv →
    Calls Try.prog 32 #[.pointer (some ⟨G, 0, none⟩)] w fun e w' => e = .returned (.pointer (some ⟨H, 0, none⟩)) ∧ Grown w w'
theorem devKp {D : DTab} (K : DevOk D) : DKept D := ⟨K.foot, K.keep⟩
section
variable {D : DTab} {C : CTab}
/-- A cache and its device were made behind w0. -/
def CSince (D : DTab) (C : CTab) (w0 w : World) (G H : Nat) (F : Nat → Prop) (room : Nat) (l : Ka) (dv : Dv) : Prop := Cd D C w G H F room l dv ∧ (∀ k, F k → w0.heap.size ≤ k) ∧ Grown w0 w
theorem CSince.grow (KC : CKept C) (KD : DKept D) {w0 w w' : World} {G H room : Nat} {F : Nat → Prop} {l : Ka} {dv : Dv} (h : CSince D C w0 w G H F room l dv) (hg : Grown w w') : CSince D C w0 w' G H F room l dv :=
  ⟨h.1.grow KC KD hg, h.2.1, Grown.trans h.2.2 hg⟩
theorem CSince.step {w0 w w' : World} {G H room : Nat} {F : Nat → Prop} {l l' : Ka} {dv dv' : Dv} (h : CSince D C w0 w G H F room l dv) (h1 : CdOn D C w G H F room l' dv' w') : ∃ F', CSince D C w0 w' G H F' room l' dv' := by
  obtain ⟨F', ha, hb, hc⟩ := h1
  refine ⟨F', ha, fun k hk => ?_, chSince h.2.2 hc h.2.1⟩
  rcases hb k hk with h4 | h4
  · exact h.2.1 k h4
  · exact Nat.le_trans h.2.2.size h4
/-- A new cache over a device that was made behind w0. -/
theorem CSince.make (KC : CKept C) (KD : DKept D) {w0 w w' : World} {G H room : Nat} {F FD : Nat → Prop} {dv : Dv} (hd : DSince D w0 w H FD dv) (hc : C w' G F H room []) (hF : ∀ k, F k → w.heap.size ≤ k) (hg : Grown w w') : CSince D C w0 w' G H (fun k => F k ∨ FD k) room [] dv := by
  refine ⟨⟨F, FD, hc, KD.keep _ _ _ _ _ hd.1 (fun k hk => hg.block k (KD.foot _ _ _ _ hd.1 k hk)) hg.size, fun k hk hk2 => ?_, fun k => Iff.rfl⟩, ?_, Grown.trans hd.2.2 hg⟩
  · have := hF k hk; have := KD.foot _ _ _ _ hd.1 k hk2; omega
  · rintro k (hk | hk)
    · exact Nat.le_trans hd.2.2.size (hF k hk)
    · exact hd.2.1 k hk
theorem keptLen_read (room : Nat) (l : Ka) (dv : Dv) (n : Int) : (kaRead room l dv n).2.2.2.kept.length = dv.kept.length := by
  unfold kaRead
  split
  · rfl
  · split <;> exact len_read dv n
theorem keptLen_write (room : Nat) (l : Ka) (dv : Dv) (n : Int) (b : List UInt8) : (kaWrite room l dv n b).2.2.kept.length = dv.kept.length := by
  unfold kaWrite
  split <;> exact len_write dv n b
theorem okRead (room : Nat) (l : Ka) {dv : Dv} {i : Nat} (h : Ok dv i) (n : Int) : Ok (kaRead room l dv n).2.2.2 i := by
  unfold kaRead
  split
  · exact h
  · split <;> exact ok_read h n
theorem okWrite (room : Nat) (l : Ka) {dv : Dv} {i : Nat} (h : Ok dv i) (n : Int) (b : List UInt8) : Ok (kaWrite room l dv n b).2.2 (i + 1) := by
  unfold kaWrite
  split <;> exact ok_write h n b
/-- All that is known of it behind i acts. -/
structure KNum (k room : Nat) (l : Ka) (dv : Dv) (i : Nat) : Prop where
  ko : KOk room k l
  ok : Ok dv i
  len : dv.kept.length = k
theorem KNum.read {k room : Nat} {l : Ka} {dv : Dv} {i : Nat} (h : KNum k room l dv i) (n : Int) : KNum k room (kaRead room l dv n).2.2.1 (kaRead room l dv n).2.2.2 i := by
  obtain ⟨h1, h2, rfl⟩ := h
  exact ⟨kok_read h1 h2 n, okRead room l h2 n, keptLen_read room l dv n⟩
theorem KNum.write {k room : Nat} {l : Ka} {dv : Dv} {i : Nat} (h : KNum k room l dv i) (n : Int) (b : List UInt8) : KNum k room (kaWrite room l dv n b).2.1 (kaWrite room l dv n b).2.2 (i + 1) := by
  obtain ⟨h1, h2, rfl⟩ := h
  exact ⟨kok_write h1 n b, okWrite room l h2 n b, keptLen_write room l dv n b⟩
theorem knum_new (n room : Nat) : KNum n room [] (dvNew n) 0 := ⟨kok_nil room n, ok_new n, List.length_replicate⟩
end
end Go.Proofs.Ythakdjaaknbmpaa.S14
