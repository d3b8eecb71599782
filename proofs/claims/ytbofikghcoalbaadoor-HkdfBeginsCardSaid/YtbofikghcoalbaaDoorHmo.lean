/-
  hmac.Sum of one piece; what a key's zeros do; '[]byte(s)'.
-/
import Derived.Test.YtbofikghcoalbaaDoorHsm
namespace Go.Proofs.YtbofikghcoalbaaDoor.S5
open Go.RowKit
open S4 (Kt digest sumV arr arr_size arr_one digest_len infoA rdL_one rd_block)
set_option linter.unusedVariables false
set_option linter.unusedSimpArgs false

/-- hmac.Sum(key, text): one piece. -/
theorem mac_one {w : World} {A : Option Addr} {k : List UInt8} {n c : Nat} {B : Option Addr} {p : List UInt8} {m d : Nat} (hk : Kt w) (h : Rd w w.heap.size A k) (hn : k.length = n) (hc : n ≤ c) (hl : n ≤ 40000) (h2 : Rd w w.heap.size B p) (hm : p.length = m) (hd : m ≤ d) (hl2 : m ≤ 40000) (fr : Nat × Nat) :
    Calls Tryd.prog 15 #[.slice A n c, .slice (some ⟨w.heap.size, 0, none⟩) 1 1] (w.alloc (.cells #[.slice B m d] 22 fr)) fun e w' => e = .returned (.agg (arr (macL k p))) ∧ Grown w w' := by
  have hf : [p].flatten = p := by simp
  refine (mac_any A n c k (some ⟨w.heap.size, 0, none⟩) 1 1 [p] _ (hk.grow (alloc_below w _)) (h.grow (alloc_below w _)) hn hc hl (rdL_one h2 hm hd fr) rfl (by omega) (by rw [hf, hm]; omega)).mono ?_
  rintro e w' ⟨rfl, hb⟩
  exact ⟨by rw [hf], Grown.trans (alloc_below w _) hb⟩

/-- '[]byte(s)': new bytes. -/
theorem conv_bytes (w : World) (l : List UInt8) (S : ByteArray) (hS : S = ⟨l.toArray⟩) : ∃ c w', (convert 9 22 (.string S)).run Tryd.prog w = .ok (.slice (some ⟨w.heap.size, 0, none⟩) l.length c) w' ∧ l.length ≤ c ∧ Rd w' w'.heap.size (some ⟨w.heap.size, 0, none⟩) l ∧ Grown w w' := by
  subst hS
  have hsz : (⟨l.toArray⟩ : ByteArray).size = l.length := by show l.toArray.size = _; simp
  have hr := run_bytes_of_string (P := Tryd.prog) w 9 22 5 ⟨l.toArray⟩ Tryd.underlying9 Tryd.underlying22 Tryd.underlying5
  have hge := grownCap_ge w (⟨l.toArray⟩ : ByteArray).size 0 5
  generalize grownCap w (⟨l.toArray⟩ : ByteArray).size 0 5 = cap at hr hge
  rw [hsz] at hr hge
  refine ⟨cap, _, hr, hge, .inr ⟨w.heap.size, 0, rfl, by simp, fun j hj => ?_⟩, ⟨rfl, rfl, rfl, by simp, fun k hk => heap_alloc_old w.drew _ hk⟩⟩
  have hcell := cell_of_row _ w.heap.size j _ 5 _ (heap_alloc_new w.drew (.cells (bytesRow ⟨l.toArray⟩ cap) 5 ((bytesRow ⟨l.toArray⟩ cap).size, (bytesRow ⟨l.toArray⟩ cap).size + 1)))
  rw [Nat.zero_add, hcell, bytesRow, Array.getElem?_append_left (by simpa using hj)]
  simp [hj, bv]

theorem mac_noughts (k T : List UInt8) (z : Nat) (h : k.length + z ≤ 128) : macL (k ++ List.replicate z 0) T = macL k T := by
  have e : blkL (k ++ List.replicate z 0) = blkL k := by
    unfold blkL keyL
    rw [if_neg (by simp; omega), if_neg (by omega)]
    unfold fillL
    rw [List.append_assoc, List.length_append, List.length_replicate, List.replicate_append_replicate]
    congr 2
    omega
  unfold macL inL
  rw [e]
end Go.Proofs.YtbofikghcoalbaaDoor.S5
