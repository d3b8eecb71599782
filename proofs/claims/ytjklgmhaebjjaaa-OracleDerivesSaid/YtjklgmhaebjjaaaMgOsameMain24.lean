/-
  '[]byte(s)': new bytes. (As in Hmo, for seats without hmac.) The reference's Derive, whatever the oracle.
-/
import Derived.Test.YtjklgmhaebjjaaaMgOsameMain4
import Derived.Test.YtjklgmhaebjjaaaMgOsameMain15
namespace Go.Proofs.Ytjklgmhaebjjaaa
open Go.RowKit
set_option linter.unusedVariables false
set_option linter.unusedSimpArgs false

theorem conv_new (w : World) (l : List UInt8) (S : ByteArray) (hS : S = ⟨l.toArray⟩) : ∃ c w', (convert 9 22 (.string S)).run Try.prog w = .ok (.slice (some ⟨w.heap.size, 0, none⟩) l.length c) w' ∧ l.length ≤ c ∧ Rd w' w'.heap.size (some ⟨w.heap.size, 0, none⟩) l ∧ Grown w w' := by
  subst hS
  have hsz : (⟨l.toArray⟩ : ByteArray).size = l.length := by show l.toArray.size = _; simp
  have hr := run_bytes_of_string (P := Try.prog) w 9 22 5 ⟨l.toArray⟩ Try.underlying9 Try.underlying22 Try.underlying5
  have hge := grownCap_ge w (⟨l.toArray⟩ : ByteArray).size 0 5
  generalize grownCap w (⟨l.toArray⟩ : ByteArray).size 0 5 = cap at hr hge
  rw [hsz] at hr hge
  refine ⟨cap, _, hr, hge, .inr ⟨w.heap.size, 0, rfl, by simp, fun j hj => ?_⟩, ⟨rfl, rfl, rfl, by simp, fun k hk => heap_alloc_old w.drew _ hk⟩⟩
  have hcell := cell_of_row _ w.heap.size j _ 5 _ (heap_alloc_new w.drew (.cells (bytesRow ⟨l.toArray⟩ cap) 5 ((bytesRow ⟨l.toArray⟩ cap).size, (bytesRow ⟨l.toArray⟩ cap).size + 1)))
  rw [Nat.zero_add, hcell, bytesRow, Array.getElem?_append_left (by simpa using hj)]
  simp [hj, bv]
end Go.Proofs.Ytjklgmhaebjjaaa
namespace Go.Proofs.Ytjklgmhaebjjaaa.S12
open S11
open Go.RowKit
set_option linter.unusedVariables false
set_option linter.unusedSimpArgs false

theorem Onw.trans {M : Mod} {O : Ob M} {w w1 w2 : World} {G : Nat} {F F1 : Nat → Prop} {st2 : M.σ} (hF : ∀ k, F1 k → F k ∨ w.heap.size ≤ k) (hc : Ch F w w1) (h : Onw O w1 G F1 st2 w2) : Onw O w G F st2 w2 := by
  obtain ⟨F2, h1, h2, h3⟩ := h
  refine ⟨F2, h1, fun k hk => ?_, Ch.then hc h3 (fun k hk hf => ?_)⟩
  · rcases h2 k hk with h4 | h4
    · exact hF k h4
    · exact .inr (Nat.le_trans hc.size h4)
  · rcases hF k hf with h4 | h4
    · exact h4
    · omega
/-- Bytes that were made behind an object's footprint. -/
theorem Bes.new {M : Mod} {B : Nat} {O : Ob M} (K : Kept B O) {w w' : World} {G : Nat} {F : Nat → Prop} {st : M.σ} (h : O w G F st) {g : Nat} (hg : w.heap.size ≤ g) {n c : Nat} {l : List UInt8} (hr : Rd w' w'.heap.size (some ⟨g, 0, none⟩) l) (hl : l.length = n) (hn : n ≤ c) : Bes w' F (some ⟨g, 0, none⟩) n c l :=
  ⟨hr, hl, hn, fun x hx _ hf => by
    simp only [Option.some.injEq] at hx
    subst hx
    have := K.foot w G F st h _ hf
    simp at this
    omega⟩
theorem mk64z (V : World) : (Instr.makeSlice 22 (.int .i64 64) (.int .i64 64)).run Try.prog V = .ok (.slice (some ⟨V.heap.size, 0, none⟩) 64 64) (V.alloc (.cells (bvs z64).toArray 5)) := by
  have := mk22 64 (by omega) V
  exact this
theorem one_str (V : World) (x : UInt8) : (convert 22 9 (.slice (some ⟨V.heap.size, 0, none⟩) 1 1)).run Try.prog (V.alloc (.cells #[.int .u8 (x.toNat : Int)] 5)) = .ok (.string ⟨[x].toArray⟩) (V.alloc (.cells #[.int .u8 (x.toNat : Int)] 5)) :=
  conv ((Row.new V [x]).rd (Nat.lt_succ_self _)) 1

set_option maxRecDepth 20000 in
theorem cutN (l : List UInt8) (n : Nat) (h : n ≤ l.length) (W : World) : (Instr.slice 9 (.string ⟨l.toArray⟩) none (some (.int .i64 (n : Int))) none).run Try.prog W = .ok (.string ⟨(l.take n).toArray⟩) W := by
  have hs : (⟨l.toArray⟩ : ByteArray).size = l.length := by show l.toArray.size = _; simp
  have hr := run_slice_string_h (P := Try.prog) W 9 ⟨l.toArray⟩ Try.underlying9 .i64 (n : Int) (by omega) (by rw [hs]; omega)
  rw [hr]
  congr 2
  apply ByteArray.ext
  apply Array.ext'
  simp [ByteArray.extract, ByteArray.copySlice]

end Go.Proofs.Ytjklgmhaebjjaaa.S12
