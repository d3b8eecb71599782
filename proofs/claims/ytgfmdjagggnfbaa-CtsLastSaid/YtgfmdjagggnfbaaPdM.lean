/-
  What New makes, on lists; contract of New for a wrong key.
-/
import Derived.Test.YtgfmdjagggnfbaaPdL
namespace Go.Proofs.Ytgfmdjagggnfbaa.S7
open Go.RowKit
set_option linter.unusedVariables false
set_option linter.unusedSimpArgs false

theorem new_no (A : Option Addr) (n c : Nat) (hn : n ≠ 32) (hl : n ≤ 9223372036854775807) (w : World) :
    Calls Try.prog 7 #[.slice A n c] w fun e w' => e = .returned (.tuple #[.pointer none, .int .i64 2]) ∧ w = w' := by
  have hb : ((n : Int) == 32) = false := by simp; omega
  have hb2 : ((n : Int) != 32) = true := by simp; omega
  have hb3 : ¬ (n : Int) = 32 := by omega
  go_enter Try.func7, Try.ntmps7
  go_wp2
  go_ret2
  exact ⟨rfl, rfl⟩
def zs240 : List UInt8 := List.replicate 240 0
theorem zs240_len : zs240.length = 240 := by decide +kernel
/-- The inverse of S, as far as New has come. -/
def inT (t : Nat) : List UInt8 := pk 256 (gt SI) fun j => decide ((gt SI j).toNat < t)
theorem inT_len (t : Nat) : (inT t).length = 256 := pk_len _ _ _
theorem inT_zero : inT 0 = List.replicate 256 0 := by rw [← pk_none 256 (gt SI)]; unfold inT; congr 1
set_option maxRecDepth 100000 in
theorem si_sb : ∀ t : Fin 256, gt SI (gt SB t.val).toNat = UInt8.ofNat t.val := by decide +kernel
set_option maxRecDepth 100000 in
theorem sb_si : ∀ j : Fin 256, (gt SB (gt SI j.val).toNat).toNat = j.val := by decide +kernel
theorem inT_next (t : Nat) (ht : t < 256) : (inT t).set (gt SB t).toNat (UInt8.ofNat t) = inT (t + 1) := pk_set _ _ _ _ _ _ (si_sb ⟨t, ht⟩).symm fun j hj => by
  have h2 : (UInt8.ofNat t).toNat = t := by rw [UInt8.toNat_ofNat']; omega
  by_cases h : j = (gt SB t).toNat
  · rw [h, si_sb ⟨t, ht⟩]; simp [h2]
  · have h1 : (gt SI j).toNat ≠ t := fun e => h (by have := sb_si ⟨j, hj⟩; rw [← e]; exact this.symm)
    simp [h]; omega
theorem inT_top : inT 256 = SI := pk_all _ _ _ _ SI_len fun j hj => ⟨by simp; exact u8_lt _, rfl⟩
def nw (L : List UInt8) : List UInt8 := zs240 ++ (SB ++ L)
theorem nw_top : nw SI = wz [] := by unfold nw wz TT zs240; rw [List.nil_append, List.length_nil, Nat.sub_zero]
theorem nw_len (L : List UInt8) (h : L.length = 256) : (nw L).length = 752 := by simp [nw, zs240_len, SB_len, h]
theorem nw_set (L : List UInt8) (x : Nat) (v : UInt8) : (nw L).set (496 + x) v = nw (L.set x v) := by
  unfold nw
  rw [List.set_append_right _ _ (by rw [zs240_len]; omega), zs240_len, List.set_append_right _ _ (by rw [SB_len]; omega), SB_len, show 496 + x - 240 - 256 = x by omega]
theorem gt_nw (L : List UInt8) (j : Nat) (h : j < 256) : gt (nw L) (240 + j) = gt SB j := by
  unfold nw gt
  simp only [List.getD_eq_getElem?_getD]
  rw [List.getElem?_append_right (by rw [zs240_len]; omega), zs240_len, Nat.add_sub_cancel_left, List.getElem?_append_left (by rw [SB_len]; exact h)]
theorem iC : (Try.prog.info? 44).map (·.size) = some 752 := by kernel_rfl
theorem build_ci (W : World) : (Instr.build 44 #[(1, .agg (bvs SB).toArray)]).run Try.prog W = .ok (.agg (bvs (nw (List.replicate 256 0))).toArray) W := by kernel_rfl
theorem wpList_build1 {P : Program} {W : World} {ops : Array Oper} {rest : List Oper} {o : Oper} {a : Act} {Q : Exit → Act → World → Prop} (hgd : o.guard = none) (t : TypeId) (x : Operand) (ho : o.op = .build t #[(1, x)]) {u v : Value} (hx : a.eval x = u)
    (hr : (Instr.build t #[(1, u)]).run P W = .ok v W) (h : wpList P ops Q rest (a.put o.dst v) W) : wpList P ops Q (o :: rest) a W := by
  refine wpList_plain hgd fun K hK => ?_
  unfold Oper.wp execOp
  simp only [ho, hx, Sem.run_bind, Sem.run_pure, Result.andThen_ok, List.map_toArray, List.map_cons, List.map_nil, hr]
  exact hK _ _ h
end Go.Proofs.Ytgfmdjagggnfbaa.S7
