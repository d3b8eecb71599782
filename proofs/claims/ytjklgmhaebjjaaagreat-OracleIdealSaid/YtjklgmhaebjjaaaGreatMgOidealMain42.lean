/-
  Is an act small? The row of acts.
-/
import Derived.Test.YtjklgmhaebjjaaaGreatMgOidealMain41
namespace Go.Proofs.YtjklgmhaebjjaaaGreat.S12
open S11
open Go.RowKit
set_option linter.unusedVariables false
set_option linter.unusedSimpArgs false

theorem restS_mono {P : Program} {ops : Array Oper} {Q : Exit → Act → World → Prop} {S S' : World → Prop} (hS : ∀ w, S' w → S w) {fuel : Nat} {listed : Array Bool} {a : Act} {w : World} (h : RestS P ops Q S' fuel listed a w) : RestS P ops Q S fuel listed a w :=
  held_mono hS _ _ _ _ h

set_option maxHeartbeats 2000000 in
theorem small_any (k n number : Int) (Ak : Option Addr) (nk ck : Nat) (Ax1 : Option Addr) (nx cx : Nat) (w : World) :
    Calls Tryz.prog 7 #[.agg #[.int .i64 k, .int .i64 n, .int .i64 number, .slice Ak nk ck, .slice Ax1 nx cx]] w fun e w' => e = .returned (.bool (smallB nk nx n)) ∧ Grown w w' := by
  have HG := Lib.hid (alloc_below w (.cells #[.int .i64 k, .int .i64 n, .int .i64 number, .slice Ak nk ck, .slice Ax1 nx cx] 38))
  by_cases h1 : (nk : Int) ≤ 100
  · by_cases h2 : (nx : Int) ≤ 64
    · by_cases h5 : n ≤ 200
      · have HE := Lib.hid (show smallB nk nx n = true from decide_eq_true (by omega))
        go_enter Tryz.func7, Tryz.ntmps7
        go_wp2
        go_ret
        rw [HE.out]
        exact ⟨by simp, HG.out⟩
      · by_cases h6 : n > 16320
        · have HE := Lib.hid (show smallB nk nx n = true from decide_eq_true (by omega))
          go_enter Tryz.func7, Tryz.ntmps7
          go_wp2
          go_ret
          rw [HE.out]
          exact ⟨by simp, HG.out⟩
        · have HE := Lib.hid (show smallB nk nx n = false from decide_eq_false (by omega))
          go_enter Tryz.func7, Tryz.ntmps7
          go_wp2
          go_ret
          rw [HE.out]
          exact ⟨by simp, HG.out⟩
    · by_cases h3 : (nx : Int) > 1024
      · by_cases h4 : (nx : Int) < 1100
        · by_cases h5 : n ≤ 200
          · have HE := Lib.hid (show smallB nk nx n = true from decide_eq_true (by omega))
            go_enter Tryz.func7, Tryz.ntmps7
            go_wp2
            go_ret
            rw [HE.out]
            exact ⟨by simp, HG.out⟩
          · by_cases h6 : n > 16320
            · have HE := Lib.hid (show smallB nk nx n = true from decide_eq_true (by omega))
              go_enter Tryz.func7, Tryz.ntmps7
              go_wp2
              go_ret
              rw [HE.out]
              exact ⟨by simp, HG.out⟩
            · have HE := Lib.hid (show smallB nk nx n = false from decide_eq_false (by omega))
              go_enter Tryz.func7, Tryz.ntmps7
              go_wp2
              go_ret
              rw [HE.out]
              exact ⟨by simp, HG.out⟩
        · have HE := Lib.hid (show smallB nk nx n = false from decide_eq_false (by omega))
          go_enter Tryz.func7, Tryz.ntmps7
          go_wp2
          go_ret
          rw [HE.out]
          exact ⟨by simp, HG.out⟩
      · have HE := Lib.hid (show smallB nk nx n = false from decide_eq_false (by omega))
        go_enter Tryz.func7, Tryz.ntmps7
        go_wp2
        go_ret
        rw [HE.out]
        exact ⟨by simp, HG.out⟩
  · have HE := Lib.hid (show smallB nk nx n = false from decide_eq_false (by omega))
    go_enter Tryz.func7, Tryz.ntmps7
    go_wp2
    go_ret
    rw [HE.out]
    exact ⟨by simp, HG.out⟩

/-- An act, as plain data. -/
structure Ac where
  k : Int
  n : Int
  number : Int
  key : List UInt8
  x : List UInt8
def inI (n : Int) : Prop := -9223372036854775808 ≤ n ∧ n < 9223372036854775808
/-- The cells of one act. -/
structure RdC (w : World) (B b o : Nat) (ac : Ac) (Ak : Option Addr) (nk ck : Nat) (Ax1 : Option Addr) (nx cx : Nat) : Prop where
  c0 : w.cell? ⟨b, o, none⟩ = some (.int .i64 ac.k)
  c1 : w.cell? ⟨b, o + 1, none⟩ = some (.int .i64 ac.n)
  c2 : w.cell? ⟨b, o + 2, none⟩ = some (.int .i64 ac.number)
  c3 : w.cell? ⟨b, o + 3, none⟩ = some (.slice Ak nk ck)
  c4 : w.cell? ⟨b, o + 4, none⟩ = some (.slice Ax1 nx cx)
  rk : Rd w B Ak ac.key
  lk : ac.key.length = nk
  qk : nk ≤ ck
  rx : Rd w B Ax1 ac.x
  lx : ac.x.length = nx
  qx : nx ≤ cx
  i1 : inI ac.n
  i2 : inI ac.number
/-- The row of acts, at D, below B. -/
def RdAct (w : World) (B : Nat) (D : Option Addr) (acts : List Ac) : Prop :=
  acts = [] ∨ ∃ b off, D = some ⟨b, off, none⟩ ∧ b < B ∧ ∀ i (h : i < acts.length), ∃ Ak nk ck Ax1 nx cx, RdC w B b (off + i * 5) acts[i] Ak nk ck Ax1 nx cx
theorem RdC.below {w w' : World} {B b o : Nat} {ac : Ac} {Ak : Option Addr} {nk ck : Nat} {Ax1 : Option Addr} {nx cx : Nat} (h : RdC w B b o ac Ak nk ck Ax1 nx cx) (hb : b < B) (hg : Below B w w') : RdC w' B b o ac Ak nk ck Ax1 nx cx :=
  { h with
    c0 := (World.cell?_of_block (a := ⟨b, o, none⟩) (hg.block b hb)).trans h.c0
    c1 := (World.cell?_of_block (a := ⟨b, o + 1, none⟩) (hg.block b hb)).trans h.c1
    c2 := (World.cell?_of_block (a := ⟨b, o + 2, none⟩) (hg.block b hb)).trans h.c2
    c3 := (World.cell?_of_block (a := ⟨b, o + 3, none⟩) (hg.block b hb)).trans h.c3
    c4 := (World.cell?_of_block (a := ⟨b, o + 4, none⟩) (hg.block b hb)).trans h.c4
    rk := h.rk.below hg
    rx := h.rx.below hg }
end Go.Proofs.YtjklgmhaebjjaaaGreat.S12
