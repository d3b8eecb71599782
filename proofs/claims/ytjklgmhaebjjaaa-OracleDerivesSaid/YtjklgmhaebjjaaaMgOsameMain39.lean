/-
  Is an act small? The row of acts. From what the rows tell of a byte slice to a list of bytes.
-/
import Derived.Test.YtjklgmhaebjjaaaMgOsameMain35
import Derived.Test.YtjklgmhaebjjaaaMgOsameMain2
import Derived.ProofKit
import Derived.OpenShut
import Derived.ShutString
import Derived.ChangeOld
import Derived.Below
namespace Go.Proofs.Ytjklgmhaebjjaaa.S12
open S11
open Go.RowKit
set_option linter.unusedVariables false
set_option linter.unusedSimpArgs false

theorem restS_mono {P : Program} {ops : Array Oper} {Q : Exit → Act → World → Prop} {S S' : World → Prop} (hS : ∀ w, S' w → S w) {fuel : Nat} {listed : Array Bool} {a : Act} {w : World} (h : RestS P ops Q S' fuel listed a w) : RestS P ops Q S fuel listed a w :=
  held_mono hS _ _ _ _ h

/-- An act, as plain data. -/
structure Ac where
  k : Int
  n : Int
  number : Int
  key : List UInt8
  x : List UInt8
def inI (n : Int) : Prop := -9223372036854775808 ≤ n ∧ n < 9223372036854775808
/-- The cells of one act. -/
structure RdC (w : World) (B b o : Nat) (ac : Ac) (Ak : Option Addr) (nk ck : Nat) (Ax1 : Option Addr) (nx cx : Nat) : Prop where
  c0 : w.cell? ⟨b, o, none⟩ = some (.int .i64 ac.k)
  c1 : w.cell? ⟨b, o + 1, none⟩ = some (.int .i64 ac.n)
  c2 : w.cell? ⟨b, o + 2, none⟩ = some (.int .i64 ac.number)
  c3 : w.cell? ⟨b, o + 3, none⟩ = some (.slice Ak nk ck)
  c4 : w.cell? ⟨b, o + 4, none⟩ = some (.slice Ax1 nx cx)
  rk : Rd w B Ak ac.key
  lk : ac.key.length = nk
  qk : nk ≤ ck
  rx : Rd w B Ax1 ac.x
  lx : ac.x.length = nx
  qx : nx ≤ cx
  i1 : inI ac.n
  i2 : inI ac.number
/-- The row of acts, at D, below B. -/
def RdAct (w : World) (B : Nat) (D : Option Addr) (acts : List Ac) : Prop :=
  acts = [] ∨ ∃ b off, D = some ⟨b, off, none⟩ ∧ b < B ∧ ∀ i (h : i < acts.length), ∃ Ak nk ck Ax1 nx cx, RdC w B b (off + i * 5) acts[i] Ak nk ck Ax1 nx cx
theorem RdC.below {w w' : World} {B b o : Nat} {ac : Ac} {Ak : Option Addr} {nk ck : Nat} {Ax1 : Option Addr} {nx cx : Nat} (h : RdC w B b o ac Ak nk ck Ax1 nx cx) (hb : b < B) (hg : Below B w w') : RdC w' B b o ac Ak nk ck Ax1 nx cx :=
  { h with
    c0 := (World.cell?_of_block (a := ⟨b, o, none⟩) (hg.block b hb)).trans h.c0
    c1 := (World.cell?_of_block (a := ⟨b, o + 1, none⟩) (hg.block b hb)).trans h.c1
    c2 := (World.cell?_of_block (a := ⟨b, o + 2, none⟩) (hg.block b hb)).trans h.c2
    c3 := (World.cell?_of_block (a := ⟨b, o + 3, none⟩) (hg.block b hb)).trans h.c3
    c4 := (World.cell?_of_block (a := ⟨b, o + 4, none⟩) (hg.block b hb)).trans h.c4
    rk := h.rk.below hg
    rx := h.rx.below hg }
end Go.Proofs.Ytjklgmhaebjjaaa.S12
namespace Go.Proofs.Ytjklgmhaebjjaaa
open Go.ChangeShapes Go.WideShapes Go.ChangeAt Go.RowKit
open Go.ChangeMaps (open_string shut_string)
set_option linter.unusedVariables false

theorem own : ownKnob Try.prog.godebug = none := by kernel_rfl
theorem laidOut : laidOutB Try.prog = true := by kernel_rfl

/-- A slice of integers that came in: nil, or a row of 'cap' numbers of its kind. -/
def IsRow (k : IntKind) (w : World) (a : Option Addr) (len cap : Nat) (zs : List Int) : Prop :=
  (a = none ∧ len = 0 ∧ cap = 0 ∧ zs = []) ∨
  ∃ x, a = some x ∧ len ≤ cap ∧ cap ≤ maxLen ∧ zs.length = cap ∧ (∀ i, i < zs.length → w.cell? (x.add i) = some (.int k (zs.getD i 0))) ∧ ∀ n ∈ zs, (Lit.int k n).wf = true

theorem rd_of_row {w : World} {a : Option Addr} {len cap : Nat} {zs : List Int} (h : IsRow .u8 w a len cap zs) : ∃ l : List UInt8, l.length = len ∧ Rd w w.heap.size a l ∧ len ≤ cap ∧ cap ≤ maxLen := by
  rcases h with ⟨rfl, rfl, rfl, rfl⟩ | ⟨x, rfl, h1, h2, h3, h4, h5⟩
  · exact ⟨[], rfl, .inl rfl, Nat.le_refl _, by unfold maxLen; omega⟩
  · refine ⟨(zs.take len).map fun n => UInt8.ofNat n.toNat, by simp; omega, ?_, h1, h2⟩
    by_cases h0 : len = 0
    · subst h0; exact .inl (by simp)
    · have hc0 := h4 0 (by omega)
      obtain ⟨b, off, spot⟩ := x
      have hspot : spot = none := by simpa [Addr.add] using World.cell?_spot hc0
      subst hspot
      have hlt : b < w.heap.size := by
        have := World.block_lt_of_cell? w _ hc0
        simpa [Addr.add] using this
      refine .inr ⟨b, off, rfl, hlt, fun j hj => ?_⟩
      simp at hj
      have hcj := h4 j (by omega)
      have eg : zs.getD j 0 = zs[j] := by simp [show j < zs.length by omega]
      have hw := h5 (zs.getD j 0) (by rw [eg]; exact List.getElem_mem _)
      have hb := bounds_u8 hw
      have e : (⟨b, off, none⟩ : Addr).add j = ⟨b, off + j, none⟩ := by
        by_cases hj0 : j = 0
        · subst hj0; simp [Addr.add]
        · simp [Addr.add, hj0]
      rw [e] at hcj
      rw [hcj]
      congr 1
      unfold bv
      simp only [List.getElem_map, List.getElem_take]
      rw [eg] at hb ⊢
      congr 1
      rw [UInt8.toNat_ofNat']
      omega
end Go.Proofs.Ytjklgmhaebjjaaa
