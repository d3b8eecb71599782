/-
  Contract of the reference's Pair (tape). The reference's tables inside the reference's oracle, which is ideal.
-/
import Derived.Test.YtjklgmhaebjjaaaMgOsameMain10
namespace Go.Proofs.Ytjklgmhaebjjaaa.S11
open Go.RowKit
set_option linter.unusedVariables false
set_option linter.unusedSimpArgs false

/-- Bytes of a block that may be written. -/
def Bq (w : World) (g : Nat) (l : List UInt8) : Prop := g < w.heap.size ∧ (∀ j, j < l.length → w.cell? ⟨g, j, none⟩ = some (.int .u8 ((gz l j).toNat : Int))) ∧ ∀ j, j < l.length → w.frozen? ⟨g, j, none⟩ = false
section
variable {w w' : World} {g : Nat} {l : List UInt8}
theorem Bq.rd (h : Bq w g l) : Rd w w.heap.size (some ⟨g, 0, none⟩) l := .inr ⟨g, 0, rfl, h.1, fun j hj => by rw [Nat.zero_add, h.2.1 j hj]; simp [bv, gz, hj]⟩
theorem Bq.put (h : Bq w g l) (i : Nat) (x : UInt8) (l2 : List UInt8) (hl : l2.length = l.length) (hx : gz l2 i = x) (ho : ∀ j, j < l.length → j ≠ i → gz l2 j = gz l j) (hi : i < l.length) : Bq (w.setCell ⟨g, i, none⟩ (.int .u8 (x.toNat : Int))) g l2 := by
  refine ⟨by simpa using h.1, fun j hj => ?_, fun j hj => ?_⟩
  · by_cases e : j = i
    · subst e
      rw [hx]
      exact World.cell?_setCell_same _ _ _ (h.2.1 j hi)
    · rw [World.cell?_setCell_other _ _ _ _ (by simp <;> exact e), h.2.1 j (by omega), ho j (by omega) e]
  · rw [World.frozen?_setCell]
    exact h.2.2 j (by omega)
end
/-- '[]byte(s)': new bytes, which may be written. -/
theorem conv_bq (w : World) (l : List UInt8) : ∃ c w', (convert 9 22 (.string ⟨l.toArray⟩)).run Try.prog w = .ok (.slice (some ⟨w.heap.size, 0, none⟩) l.length c) w' ∧ l.length ≤ c ∧ Bq w' w.heap.size l ∧ Grown w w' := by
  have hsz : (⟨l.toArray⟩ : ByteArray).size = l.length := by show l.toArray.size = _; simp
  have hr := run_bytes_of_string (P := Try.prog) w 9 22 5 ⟨l.toArray⟩ Try.underlying9 Try.underlying22 Try.underlying5
  have hge := grownCap_ge w (⟨l.toArray⟩ : ByteArray).size 0 5
  generalize grownCap w (⟨l.toArray⟩ : ByteArray).size 0 5 = cap at hr hge
  rw [hsz] at hr hge
  have hnew := heap_alloc_new w.drew (.cells (bytesRow ⟨l.toArray⟩ cap) 5 ((bytesRow ⟨l.toArray⟩ cap).size, (bytesRow ⟨l.toArray⟩ cap).size + 1))
  refine ⟨cap, _, hr, hge, ⟨by simp, fun j hj => ?_, fun j hj => ?_⟩, ⟨rfl, rfl, rfl, by simp, fun k hk => heap_alloc_old w.drew _ hk⟩⟩
  · have hcell := cell_of_row _ w.heap.size j _ 5 _ hnew
    rw [hcell, bytesRow, Array.getElem?_append_left (by simpa using hj)]
    simp [hj, gz]
  · have hz : l.length ≤ (bytesRow ⟨l.toArray⟩ cap).size := by simp [bytesRow]
    unfold World.frozen?
    have h2 : (w.drew.alloc (.cells (bytesRow ⟨l.toArray⟩ cap) 5 ((bytesRow ⟨l.toArray⟩ cap).size, (bytesRow ⟨l.toArray⟩ cap).size + 1))).heap[w.heap.size]? = _ := hnew
    simp only [h2]
    simp
    omega
/-- The bytes from k on turned. -/
def mid (l : List UInt8) (k : Nat) : List UInt8 := (List.range l.length).map fun p => if k ≤ p then dg l p else gz l p
theorem mid_len (l : List UInt8) (k : Nat) : (mid l k).length = l.length := by simp [mid]
theorem gz_mid (l : List UInt8) (k p : Nat) (hp : p < l.length) : gz (mid l k) p = if k ≤ p then dg l p else gz l p := by
  simp only [gz, mid, List.getD_eq_getElem?_getD]
  rw [List.getElem?_eq_getElem (by simp; exact hp)]
  simp [gz, List.getD_eq_getElem?_getD]
theorem mid_all (l : List UInt8) : mid l l.length = l := by
  apply List.ext_getElem
  · exact mid_len _ _
  · intro p h1 h2
    have := gz_mid l l.length p h2
    rw [if_neg (by omega)] at this
    simpa [gz, h1, h2] using this
theorem mid_zero (l : List UInt8) : mid l 0 = nxt l := by
  unfold mid nxt
  apply List.map_congr_left
  intro p _
  rw [if_pos (Nat.zero_le _)]
/-- The last byte of a text in a slot. -/
def lastB : Value → Nat
  | .string b => (gz b.data.toList (b.data.toList.length - 1)).toNat
  | _ => 0
theorem lastB_lt (y : List UInt8) : lastB (.string ⟨y.toArray⟩) < 256 := by
  show (gz _ _).toNat < 256
  exact UInt8.toNat_lt _
theorem lastB_itn (y : List UInt8) (h : 0 < y.length) (a : Nat) : lastB (.string ⟨(itn a y).toArray⟩) = (lastB (.string ⟨y.toArray⟩) + a) % 256 := by
  show (gz (itn a y) ((itn a y).length - 1)).toNat = ((gz y (y.length - 1)).toNat + a) % 256
  rw [itn_len]
  exact itn_last y h a
end Go.Proofs.Ytjklgmhaebjjaaa.S11
namespace Go.Proofs.Ytjklgmhaebjjaaa.S12
open S11
open Go.RowKit
set_option linter.unusedVariables false
set_option linter.unusedSimpArgs false

/-- The struct: ideal or real, the tables' five cells, the nonces. -/
def OzC (A : Option Addr) (n c : Nat) (Af : Option Addr) (nf cf : Nat) (Ap : Option Addr) (np cp : Nat) (bad : Bool) (cnt : Int) : Array Value := #[.bool true, .slice A n c, .slice Af nf cf, .slice Ap np cp, .bool bad, .int .i64 cnt, .int .i64 0]
section
variable {w : World} {B base R : Nat} {Af Ap : Option Addr} {st : St}
end
end Go.Proofs.Ytjklgmhaebjjaaa.S12
