/-
  Contract of the reference's Hex.
-/
import Derived.Test.YtbgbfofghhiolaaApp
import Derived.Test.YtbgbfofghhiolaaHxd
namespace Go.Proofs.Ytbgbfofghhiolaa
open Go.RowKit
set_option linter.unusedVariables false

theorem sl16 (i : Nat) (hi : i < 16) (W : World) : (Instr.slice 9 (.string { data := #[48, 49, 50, 51, 52, 53, 54, 55, 56, 57, 97, 98, 99, 100, 101, 102] }) (some (.int .i64 (i : Int))) (some (.int .i64 ((i : Int) + 1))) none).run Try.prog W = .ok (.string { data := #[hd i] }) W := by
  rcases i with _ | _ | _ | _ | _ | _ | _ | _ | _ | _ | _ | _ | _ | _ | _ | _ | i
  all_goals first | rfl | (exfalso; omega)
theorem addS (p : List UInt8) (x : UInt8) (hp : p.length ≤ 4294967296) (W : World) : (Op.stringOp .add { data := p.toArray } { data := #[x] }).run Try.prog W = .ok (.string { data := (p ++ [x]).toArray }) W := by
  rw [run_string_add_sum _ _ _ (by show p.toArray.size + 1 ≤ _; simp; omega)]
  congr 2

set_option maxHeartbeats 1000000 in
theorem refHex_any (A : Option Addr) (n c : Nat) (l : List UInt8) (w : World) (hn : l.length = n) (h : Rd w w.heap.size A l) (hl : n ≤ 1000000) :
    Calls Try.prog 11 #[.slice A n c] w fun e w' => e = .returned (.string ⟨(hexL l).toArray⟩) ∧ Below w.heap.size w w' := by
  have Hn := Lib.hid hn
  clear hn
  go_enter Try.func11, Try.ntmps11
  go_wp2
  go_loopw [3, 5] (fun v i wr => ∃ (k : Nat) (S : ByteArray), k ≤ n ∧ i = .int .i64 k ∧ v = .string S ∧ Hid (S = ⟨(hexL (l.take k)).toArray⟩) ∧ Hid (Below w.heap.size w wr)) (fun _ i _ => n - (intOf i).toNat)
  case atStart => exact ⟨0, _, by omega, rfl, rfl, rfl, Below.refl _ _⟩
  case round =>
    obtain ⟨k, S, hk, rfl, rfl, HS, Hb⟩ := hrel
    by_cases hlt : k < n
    · have hkl : k < l.length := by have := Hn.out; omega
      obtain ⟨b, off, rfl, hbb, hc⟩ := (h.below Hb.out).at_ hkl
      obtain ⟨x, hx⟩ : ∃ x, l[k] = x := ⟨_, rfl⟩
      have Hx := Lib.hid hx
      rw [hx] at hc
      have hxl := u8_lt x
      have hpl : (hexL (l.take k)).length ≤ 3000000 := by rw [hexL_len]; simp; omega
      obtain ⟨D1, hD1⟩ : ∃ D : ByteArray, D = { data := #[hd (x.toNat / 16)] } := ⟨_, rfl⟩
      obtain ⟨D2, hD2⟩ : ∃ D : ByteArray, D = { data := #[hd (x.toNat % 16)] } := ⟨_, rfl⟩
      obtain ⟨S1, hS1⟩ : ∃ D : ByteArray, D = { data := (hexL (l.take k) ++ [hd (x.toNat / 16)]).toArray } := ⟨_, rfl⟩
      obtain ⟨S2, hS2⟩ : ∃ D : ByteArray, D = { data := (hexL (l.take k) ++ [hd (x.toNat / 16)] ++ [hd (x.toNat % 16)]).toArray } := ⟨_, rfl⟩
      have hs1 : ∀ W : World, (Instr.slice 9 (.string { data := #[48, 49, 50, 51, 52, 53, 54, 55, 56, 57, 97, 98, 99, 100, 101, 102] }) (some (.int .i64 ((x.toNat : Int) / 16))) (some (.int .i64 ((x.toNat : Int) / 16 + 1))) none).run Try.prog W = .ok (.string D1) W := fun W => by
        rw [hD1]; exact sl16 (x.toNat / 16) (by omega) W
      have hs2 : ∀ W : World, (Instr.slice 9 (.string { data := #[48, 49, 50, 51, 52, 53, 54, 55, 56, 57, 97, 98, 99, 100, 101, 102] }) (some (.int .i64 ((x.toNat : Int) % 16))) (some (.int .i64 ((x.toNat : Int) % 16 + 1))) none).run Try.prog W = .ok (.string D2) W := fun W => by
        rw [hD2]; exact sl16 (x.toNat % 16) (by omega) W
      have ha1 : ∀ W : World, (Op.stringOp .add S D1).run Try.prog W = .ok (.string S1) W := fun W => by
        rw [HS.out, hD1, hS1]; exact addS _ _ (by omega) W
      have ha2 : ∀ W : World, (Op.stringOp .add S1 D2).run Try.prog W = .ok (.string S2) W := fun W => by
        rw [hD2, hS1, hS2]; exact addS _ _ (by simp; omega) W
      have HS2 := Lib.hid hS2
      clear hx h hD1 hD2 hS1 hS2
      go_wp2
      go_quiet (fail)
      clear hc
      go_wp2
      go_quiet (fail)
      clear hs1 hs2 ha1 ha2
      go_wp2
      go_roundw
      case rel =>
        refine ⟨k + 1, S2, by omega, by go_num, rfl, ?_, below_drewN Hb.out _⟩
        show S2 = _
        rw [HS2.out, ← Hx.out, List.append_assoc, List.singleton_append, hexL_take l k hkl]
      case measure => simp [intOf]; omega
    · go_wp2
      go_ret
      have hS := HS.out
      rw [List.take_of_length_le (by have := Hn.out; omega)] at hS
      refine ⟨?_, Hb.out⟩
      show Ending.returned (.string S) = _
      rw [hS]
end Go.Proofs.Ytbgbfofghhiolaa
