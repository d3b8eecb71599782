/-
  Plain arithmetic on 64-bit words and bytes, without the program.
-/
import Derived.WalkKit
namespace Go.Proofs.Ythakdjaaknbmpaa
open Go.RowKit
set_option linter.unusedVariables false

def numN (l : List UInt8) : Nat := l.foldl (fun n x => n * 256 + x.toNat) 0
theorem numN_snoc (l : List UInt8) (x : UInt8) : numN (l ++ [x]) = numN l * 256 + x.toNat := by simp [numN]
theorem take_snoc (l : List UInt8) (k : Nat) (h : k < l.length) : l.take (k + 1) = l.take k ++ [l[k]] := by
  rw [List.take_succ_eq_append_getElem h]
theorem numN_take (l : List UInt8) (k : Nat) (h : k < l.length) : numN (l.take (k + 1)) = numN (l.take k) * 256 + l[k].toNat := by
  rw [take_snoc l k h, numN_snoc]
theorem int_eq {k : IntKind} {a b : Int} (h : a = b) : Value.int k a = .int k b := by rw [h]
theorem ret_int {k : IntKind} {a b : Int} (h : a = b) : Ending.returned (.int k a) = .returned (.int k b) := by rw [h]

theorem toNat_ofInt64 (a : Int) : (BitVec.ofInt 64 a).toNat = (a % 18446744073709551616).toNat := by
  rw [BitVec.toNat_ofInt]; rfl

theorem or_step (N : Nat) (x : Nat) (hx : x < 256) :
    bits BinOp.or IntKind.i64 (wrap64 (wrap64 (N : Int) * 256)) (wrap64 (x : Int)) = wrap64 ((N * 256 + x : Nat) : Int) := by
  show IntKind.i64.wrap ((BitVec.ofInt 64 (wrap64 (wrap64 (N : Int) * 256)) ||| BitVec.ofInt 64 (wrap64 (x : Int))).toNat : Int) = _
  rw [BitVec.toNat_or, toNat_ofInt64, toNat_ofInt64, IntKind.wrap_i64]
  have e1 : (wrap64 (wrap64 (N : Int) * 256) % 18446744073709551616).toNat = (N % 72057594037927936) * 256 := by unfold wrap64; omega
  have e2 : (wrap64 (x : Int) % 18446744073709551616).toNat = x := by unfold wrap64; omega
  rw [e1, e2, nat_join 8 _ _ (by omega) (by omega)]
  unfold wrap64; omega

theorem u64_step (N x : Nat) (hx : x < 256) :
    IntKind.u64.wrap (IntKind.u64.wrap (IntKind.u64.wrap (N : Int) * 256) + IntKind.u64.wrap (x : Int)) = IntKind.u64.wrap ((N * 256 + x : Nat) : Int) := by
  simp only [IntKind.wrap_u64]; omega

theorem i64_of_u64 (N : Nat) : wrap64 (IntKind.u64.wrap (N : Int)) = wrap64 (N : Int) := by
  simp only [IntKind.wrap_u64]; unfold wrap64; omega

theorem bits_or_i64 (a b : Nat) (ha : a < 9223372036854775808) (hb : b < 9223372036854775808) : bits .or .i64 (a : Int) (b : Int) = ((a ||| b : Nat) : Int) := by
  have hx : a ||| b < 2 ^ 63 := Nat.or_lt_two_pow (by omega) (by omega)
  show IntKind.i64.wrap ((BitVec.ofInt 64 (a : Int) ||| BitVec.ofInt 64 (b : Int)).toNat : Int) = _
  rw [BitVec.toNat_or, toNat_ofInt64, toNat_ofInt64, IntKind.wrap_i64]
  rw [show ((a : Int) % 18446744073709551616).toNat = a by omega, show ((b : Int) % 18446744073709551616).toNat = b by omega]
  omega
theorem bits_xor_i64 (a b : Nat) (ha : a < 9223372036854775808) (hb : b < 9223372036854775808) : bits .xor .i64 (a : Int) (b : Int) = ((a ^^^ b : Nat) : Int) := by
  have hx : a ^^^ b < 2 ^ 63 := Nat.xor_lt_two_pow (by omega) (by omega)
  show IntKind.i64.wrap ((BitVec.ofInt 64 (a : Int) ^^^ BitVec.ofInt 64 (b : Int)).toNat : Int) = _
  rw [BitVec.toNat_xor, toNat_ofInt64, toNat_ofInt64, IntKind.wrap_i64]
  rw [show ((a : Int) % 18446744073709551616).toNat = a by omega, show ((b : Int) % 18446744073709551616).toNat = b by omega]
  omega

end Go.Proofs.Ythakdjaaknbmpaa
