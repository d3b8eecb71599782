/-
  An act of the law: a nonce. Acts of the law: Derive.
-/
import Derived.Test.YtjklgmhaebjjaaaMgOsameMain25
import Derived.Test.YtjklgmhaebjjaaaMgOsameMain12
import Derived.Test.YtjklgmhaebjjaaaMgOsameMain13
namespace Go.Proofs.Ytjklgmhaebjjaaa.S12
open S11
open Go.RowKit
set_option linter.unusedVariables false
set_option linter.unusedSimpArgs false

theorem ch_below {F : Nat → Prop} {B : Nat} {w w' : World} (h : Ch F w w') (hF : ∀ k, F k → B ≤ k) (hB : B ≤ w.heap.size) : Below B w w' :=
  ⟨h.os, h.tape, h.output, h.size, fun k hk => h.block k (by omega) (fun hf => by have := hF k hf; omega)⟩
/-- What an act of the law leaves. -/
def Does (M : Mod) (O Q : Ob M) (B P G R : Nat) (w : World) (st' : M.σ) (e : Ending) (w' : World) : Prop :=
  e = .returned (.bool true) ∧ ∃ F F2, Two M O Q B P G R w' F F2 st' st' ∧ Below B w w'

def z16b : List UInt8 := List.replicate 16 0
theorem i16a : (Try.prog.info? 25).map (·.size) = some 16 := by kernel_rfl

end Go.Proofs.Ytjklgmhaebjjaaa.S12
namespace Go.Proofs.Ytjklgmhaebjjaaa.S12
open S11
open Go.RowKit
set_option linter.unusedVariables false
set_option linter.unusedSimpArgs false

/-- What an act of the law reads: the pair of oracles, the act. -/
def Fx (P G R ba : Nat) (n number : Int) (Vk Vx : Value) (v : World) : Prop :=
  v.cell? ⟨P, 0, none⟩ = some (.pointer (some ⟨G, 0, none⟩)) ∧ v.cell? ⟨P, 1, none⟩ = some (.pointer (some ⟨R, 0, none⟩)) ∧ v.cell? ⟨ba, 1, none⟩ = some (.int .i64 n) ∧ v.cell? ⟨ba, 2, none⟩ = some (.int .i64 number) ∧ v.cell? ⟨ba, 3, none⟩ = some Vk ∧ v.cell? ⟨ba, 4, none⟩ = some Vx
/-- The act lies at block ba, which is our own. -/
structure Ax (B : Nat) (F F2 : Nat → Prop) (ba : Nat) (n number : Int) (Vk Vx : Value) (v : World) : Prop where
  c1 : v.cell? ⟨ba, 1, none⟩ = some (.int .i64 n)
  c2 : v.cell? ⟨ba, 2, none⟩ = some (.int .i64 number)
  c3 : v.cell? ⟨ba, 3, none⟩ = some Vk
  c4 : v.cell? ⟨ba, 4, none⟩ = some Vx
  loc : Loc v B F F2 ba
section
variable {M : Mod} {O Q : Ob M} {B P G R ba : Nat} {w w' : World} {F F2 F' : Nat → Prop} {st st2 : M.σ} {n number : Int} {Vk Vx : Value}
theorem byte_of (n : Int) : ∃ c : UInt8, IntKind.u8.wrap n = (c.toNat : Int) := by
  refine ⟨UInt8.ofNat (n % 256).toNat, ?_⟩
  have h1 : 0 ≤ n % 256 := by omega
  have h2 : n % 256 < 256 := by omega
  have e : IntKind.u8.wrap n = n % 256 := by unfold IntKind.wrap; simp [IntKind.bits, IntKind.signed]
  rw [e, UInt8.toNat_ofNat']
  omega
theorem Ax.same {F2' : Nat → Prop} (h : Ax B F F2 ba n number Vk Vx w) (hb : w'.heap[ba]? = w.heap[ba]?) (hl : Loc w' B F' F2' ba) : Ax B F' F2' ba n number Vk Vx w' :=
  ⟨(World.cell?_of_block (a := ⟨ba, 1, none⟩) hb).trans h.c1, (World.cell?_of_block (a := ⟨ba, 2, none⟩) hb).trans h.c2, (World.cell?_of_block (a := ⟨ba, 3, none⟩) hb).trans h.c3, (World.cell?_of_block (a := ⟨ba, 4, none⟩) hb).trans h.c4, hl⟩
theorem Ax.grow (h : Ax B F F2 ba n number Vk Vx w) (hg : Grown w w') : Ax B F F2 ba n number Vk Vx w' := h.same (hg.block ba h.loc.1) (h.loc.grow hg.size)
theorem Ax.stepP (h : Ax B F F2 ba n number Vk Vx w) (h2 : ∀ k, F' k → F k ∨ w.heap.size ≤ k) (hc : Ch F w w') : Ax B F' F2 ba n number Vk Vx w' := h.same (hc.block ba h.loc.1 h.loc.2.1) (h.loc.stepP h2 hc.size)
theorem Ax.stepR (h : Ax B F F2 ba n number Vk Vx w) (h2 : ∀ k, F' k → F2 k ∨ w.heap.size ≤ k) (hc : Ch F2 w w') : Ax B F F' ba n number Vk Vx w' := h.same (hc.block ba h.loc.1 h.loc.2.2.1) (h.loc.stepR h2 hc.size)
theorem Ax.row (h : Ax B F F2 ba n number Vk Vx w) {g : Nat} (hg : ba ≠ g) (cs : Array Value) : Ax B F F2 ba n number Vk Vx (w.setRow g cs) := h.same (setRow_other hg) (h.loc.grow (by simp [World.setRow]))
theorem Two.fx (h : Two M O Q B P G R w F F2 st st2) (ha : Ax B F F2 ba n number Vk Vx w) : Fx P G R ba n number Vk Vx w := ⟨h.cP, h.cR, ha.c1, ha.c2, ha.c3, ha.c4⟩
end

end Go.Proofs.Ytjklgmhaebjjaaa.S12
