/-
  '[]byte(s)': new bytes. (As in Hmo, for seats without hmac.)
-/
import Derived.Test.YtpfhpopfakfjhaaDoorGrow
namespace Go.Proofs.YtpfhpopfakfjhaaDoor
open Go.RowKit
set_option linter.unusedVariables false
set_option linter.unusedSimpArgs false

theorem conv_new (w : World) (l : List UInt8) (S : ByteArray) (hS : S = ⟨l.toArray⟩) : ∃ c w', (convert 9 23 (.string S)).run Tryd.prog w = .ok (.slice (some ⟨w.heap.size, 0, none⟩) l.length c) w' ∧ l.length ≤ c ∧ Rd w' w'.heap.size (some ⟨w.heap.size, 0, none⟩) l ∧ Grown w w' := by
  subst hS
  have hsz : (⟨l.toArray⟩ : ByteArray).size = l.length := by show l.toArray.size = _; simp
  have hr := run_bytes_of_string (P := Tryd.prog) w 9 23 5 ⟨l.toArray⟩ Tryd.underlying9 Tryd.underlying23 Tryd.underlying5
  have hge := grownCap_ge w (⟨l.toArray⟩ : ByteArray).size 0 5
  generalize grownCap w (⟨l.toArray⟩ : ByteArray).size 0 5 = cap at hr hge
  rw [hsz] at hr hge
  refine ⟨cap, _, hr, hge, .inr ⟨w.heap.size, 0, rfl, by simp, fun j hj => ?_⟩, ⟨rfl, rfl, rfl, by simp, fun k hk => heap_alloc_old w.drew _ hk⟩⟩
  have hcell := cell_of_row _ w.heap.size j _ 5 _ (heap_alloc_new w.drew (.cells (bytesRow ⟨l.toArray⟩ cap) 5 ((bytesRow ⟨l.toArray⟩ cap).size, (bytesRow ⟨l.toArray⟩ cap).size + 1)))
  rw [Nat.zero_add, hcell, bytesRow, Array.getElem?_append_left (by simpa using hj)]
  simp [hj, bv]
end Go.Proofs.YtpfhpopfakfjhaaDoor
