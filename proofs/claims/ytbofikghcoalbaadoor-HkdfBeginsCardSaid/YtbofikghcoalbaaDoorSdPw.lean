/-
  Contract of the program's putWord: eight bytes of a block become those of a word.
-/
import Derived.Test.YtbofikghcoalbaaDoorSdDg
namespace Go.Proofs.YtbofikghcoalbaaDoor.S4
open Go.RowKit
set_option linter.unusedVariables false
set_option linter.unusedSimpArgs false

/-- k of the eight bytes of N are laid at off. -/
def pout (l : List UInt8) (off N k : Nat) : List UInt8 := l.take off ++ ((be N).take k ++ l.drop (off + k))
theorem be_len (N : Nat) : (be N).length = 8 := by simp [be]
theorem be_get (N j : Nat) (hj : j < 8) : (be N)[j]'(by rw [be_len]; exact hj) = UInt8.ofNat (N / 256 ^ (7 - j) % 256) := by simp [be]
theorem pout_len (l : List UInt8) (off N k : Nat) (h : off + 8 ≤ l.length) (hk : k ≤ 8) : (pout l off N k).length = l.length := by
  simp [pout, be_len]; omega
theorem pout_zero (l : List UInt8) (off N : Nat) : pout l off N 0 = l := by simp [pout]
theorem pout_next (l : List UInt8) (off N k : Nat) (h : off + 8 ≤ l.length) (hk : k < 8) : (pout l off N k).set (off + k) (UInt8.ofNat (N / 256 ^ (7 - k) % 256)) = pout l off N (k + 1) := by
  have h1 : (l.take off).length = off := by rw [List.length_take]; omega
  have h2 : ((be N).take k).length = k := by rw [List.length_take, be_len]; omega
  rw [pout, pout, List.set_append_right _ _ (by omega), h1, Nat.add_sub_cancel_left, List.set_append_right _ _ (by omega), h2, Nat.sub_self, ← be_take N k hk,
    List.drop_eq_getElem_cons (show off + k < l.length by omega), List.set_cons_zero, List.append_assoc, List.singleton_append, Nat.add_assoc]
theorem pout_top (l : List UInt8) (off N : Nat) : pout l off N 8 = l.take off ++ (be N ++ l.drop (off + 8)) := by
  have e : (be N).take 8 = be N := List.take_of_length_le (by rw [be_len]; omega)
  rw [pout, e]
theorem pbyte (N k m : Nat) (hm : m = 56 - 8 * k) (hk : k < 8) : ((N : Int) / 2 ^ min m 64 % 256) = ((UInt8.ofNat (N / 256 ^ (7 - k) % 256)).toNat : Int) := by
  rw [UInt8.toNat_ofNat', show (256 : Nat) ^ (7 - k) = 2 ^ (8 * (7 - k)) by rw [Nat.pow_mul], show 8 * (7 - k) = m by omega, Nat.min_eq_left (by omega)]
  have : (N : Int) / 2 ^ m = ((N / 2 ^ m : Nat) : Int) := by norm_cast
  rw [this]
  omega
/-- A block of bytes, of type t. -/
def Blk (w : World) (g : Nat) (t : TypeId) (l : List UInt8) : Prop := w.heap[g]? = some (.cells (bvs l).toArray t (0, 0))
section
variable {w : World} {g : Nat} {t : TypeId} {l : List UInt8}
theorem Blk.cell (h : Blk w g t l) (i : Nat) (hi : i < l.length) : w.cell? ⟨g, i, none⟩ = some (.int .u8 (l[i].toNat : Int)) := by
  rw [cell_of_row w _ i _ _ _ h]; simp [bvs, bv, hi]
theorem Blk.free (h : Blk w g t l) (i : Nat) : w.frozen? ⟨g, i, none⟩ = false := frozen_of_row w _ i _ _ h
theorem Blk.put (h : Blk w g t l) (i : Nat) (x : UInt8) : Blk (w.setCell ⟨g, i, none⟩ (.int .u8 (x.toNat : Int))) g t (l.set i x) := by
  unfold Blk
  rw [heap_setCell_same w g i _ _ (.int .u8 (x.toNat : Int)) h]
  congr 2
  simp only [List.setIfInBounds_toArray, bvs]
  congr 1
  rw [show Value.int .u8 (x.toNat : Int) = bv x from rfl, ← List.map_set]
end

set_option maxHeartbeats 1000000 in
theorem putWord_any (g off n c N : Nat) (t : TypeId) (l : List UInt8) (w : World) (h : Blk w g t l) (hn : 8 ≤ n) (ho : off + 8 ≤ l.length) :
    Calls Tryd.prog 35 #[.slice (some ⟨g, off, none⟩) n c, .int .u64 (N : Int)] w fun e w' => e = .returned (.tuple #[]) ∧ Blk w' g t (l.take off ++ (be N ++ l.drop (off + 8))) ∧ Chg g w w' := by
  have H := Lib.hid h
  have Ho := Lib.hid ho
  clear h ho
  go_enter Tryd.func35, Tryd.ntmps35
  go_wp2
  go_loopw [5] (fun i wr => ∃ k : Nat, k ≤ 8 ∧ i = .int .i64 (k : Int) ∧ Hid (Blk wr g t (pout l off N k)) ∧ Hid (Chg g w wr)) (fun i _ => 8 - (intOf i).toNat)
  case atStart => exact ⟨0, by omega, rfl, by show Blk _ _ _ _; rw [pout_zero]; exact H.out, Chg.refl g w⟩
  case round =>
    obtain ⟨k, hk, rfl, HI, Hc⟩ := hrel
    by_cases hlt : k < 8
    · obtain ⟨m0, hm0⟩ : ∃ m0, m0 = 8 * k := ⟨_, rfl⟩
      obtain ⟨m, hm⟩ : ∃ m, m = 56 - 8 * k := ⟨_, rfl⟩
      have e0 : IntKind.i64.wrap (8 * (k : Int)) = (m0 : Int) := by rw [IntKind.wrap_i64]; omega
      have em : IntKind.i64.wrap (56 - (m0 : Int)) = (m : Int) := by rw [IntKind.wrap_i64]; omega
      obtain ⟨b, hb⟩ : ∃ b, b = UInt8.ofNat (N / 256 ^ (7 - k) % 256) := ⟨_, rfl⟩
      have Heb := Lib.hid (show ((N : Int) / 2 ^ min m 64 % 256) = (b.toNat : Int) by rw [hb]; exact pbyte N k m hm hlt)
      have Hn := Lib.hid (show (pout l off N k).set (off + k) b = pout l off N (k + 1) by rw [hb]; exact pout_next l off N k Ho.out hlt)
      have hpl : off + k < (pout l off N k).length := by rw [pout_len l off N k Ho.out hk]; have := Ho.out; omega
      have hc := HI.out.cell (off + k) hpl
      have hf := HI.out.free (off + k)
      generalize (pout l off N k)[off + k]'hpl = u at hc
      have hkn : (k : Int) < (n : Int) := by omega
      clear hm hm0 hb hpl
      go_wp2
      go_roundw
      case rel =>
        refine ⟨k + 1, by omega, by go_num, ?_, ?_⟩
        · show Blk _ _ _ _
          rw [Heb.out, ← Hn.out]
          exact HI.out.put (off + k) b
        · show Chg _ _ _
          exact Hc.out.trans (Chg.setCell g _ _ _)
      case measure => simp [intOf]; omega
    · obtain rfl : k = 8 := by omega
      rw [show ((8 : Nat) : Int) = 8 from rfl]
      go_wp2
      go_end0
      refine ⟨rfl, ?_, Hc.out⟩
      rw [← pout_top]
      exact HI.out
end Go.Proofs.YtbofikghcoalbaaDoor.S4
