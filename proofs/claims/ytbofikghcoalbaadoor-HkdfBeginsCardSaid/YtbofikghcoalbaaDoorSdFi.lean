/-
  Contract of the program's Fill: the padding of a text.
-/
import Derived.Test.YtbofikghcoalbaaDoorSdPw
namespace Go.Proofs.YtbofikghcoalbaaDoor.S4
open Go.RowKit
set_option linter.unusedVariables false
set_option linter.unusedSimpArgs false

/-- The padding before its length is laid. -/
def fnull (n : Nat) : List UInt8 := 128 :: List.replicate (zs n + 16) 0
theorem fnull_len (n : Nat) : (fnull n).length = 1 + zs n + 16 := by simp [fnull]; omega
theorem fnull_zero (n : Nat) : (List.replicate (1 + zs n + 16) 0).set 0 128 = fnull n := by
  rw [fnull, show 1 + zs n + 16 = zs n + 16 + 1 by omega, List.replicate_succ, List.set_cons_zero]
theorem fill_size (n : Nat) : (111 < n % 128 ∧ 1 + zs n + 16 = 256 - n % 128) ∨ (n % 128 ≤ 111 ∧ 1 + zs n + 16 = 128 - n % 128) := by
  unfold zs
  omega
theorem fill_laid (n s : Nat) (hs : s = 1 + zs n + 16) (N M : Nat) (m : List UInt8) (hm : m = (fnull n).take (s - 16) ++ (be N ++ (fnull n).drop (s - 16 + 8))) :
    m.take (s - 8) ++ (be M ++ m.drop (s - 8 + 8)) = 128 :: List.replicate (zs n) 0 ++ be N ++ be M := by
  subst hm
  have h0 : (fnull n).take (s - 16) = 128 :: List.replicate (zs n) 0 := by
    rw [fnull, show s - 16 = zs n + 1 by omega, List.take_succ_cons, List.take_replicate, Nat.min_eq_left (by omega)]
  have h1 : (128 :: List.replicate (zs n) (0 : UInt8)).length = s - 16 := by simp; omega
  have h2 : ((fnull n).drop (s - 16 + 8)).length = 8 := by rw [List.length_drop, fnull_len]; omega
  rw [h0, ← List.append_assoc (128 :: List.replicate (zs n) 0)]
  have h3 : (128 :: List.replicate (zs n) 0 ++ be N).length = s - 8 := by rw [List.length_append, h1, be_len]; omega
  rw [List.take_append_of_le_length (by omega), List.take_of_length_le (by omega), List.drop_of_length_le (by rw [List.length_append, h3, h2]; omega), List.append_nil]

set_option maxHeartbeats 4000000 in
set_option maxRecDepth 100000 in
theorem dfill_any (n : Nat) (w : World) (hn : n ≤ 1000000) :
    Calls Tryd.prog 27 #[.int .i64 (n : Int)] w (Makes w (fillL n)) := by
  obtain ⟨s, hs⟩ : ∃ s, s = 1 + zs n + 16 := ⟨_, rfl⟩
  obtain ⟨r, hr⟩ : ∃ r, r = n % 128 := ⟨_, rfl⟩
  obtain ⟨t, ht⟩ : ∃ t, t = 128 - r := ⟨_, rfl⟩
  have hz : zs n < 128 := Nat.mod_lt _ (by omega)
  have hs64 : s ≤ 144 := by omega
  have hs9 : 17 ≤ s := by omega
  have hmk := fun W => mk22 s (by omega) W
  have hsz := fill_size n
  rw [← hs, ← hr] at hsz
  have Hs := Lib.hid hs
  have er : (n : Int) % 128 = (r : Int) := by omega
  have e1 : IntKind.i64.wrap (128 - (r : Int)) = (t : Int) := by rw [IntKind.wrap_i64]; omega
  have e2 : IntKind.i64.wrap ((s : Int) - 16) = ((s - 16 : Nat) : Int) := by rw [IntKind.wrap_i64]; omega
  have e3 : IntKind.i64.wrap ((s : Int) - 8) = ((s - 8 : Nat) : Int) := by rw [IntKind.wrap_i64]; omega
  have eu : IntKind.u64.wrap (n : Int) = (n : Int) := by rw [IntKind.wrap_u64]; omega
  have hc0 : (w.alloc (.cells (bvs (List.replicate s 0)).toArray 5)).cell? ⟨w.heap.size, 0, none⟩ = some (.int .u8 0) := by
    have := (Row.new w (List.replicate s 0)).cell 0 (by simp; omega)
    simpa [bv] using this
  have hf0 := (Row.new w (List.replicate s 0)).free 0
  have Hst := Lib.hid (show Blk (w.alloc (.cells ((bvs (List.replicate s 0)).set 0 (.int .u8 128)).toArray 5)) w.heap.size 5 (fnull n) by
    rw [← fnull_zero, ← hs]
    have := Row.new w ((List.replicate s 0).set 0 128)
    rw [show bvs ((List.replicate s 0).set 0 128) = (bvs (List.replicate s 0)).set 0 (.int .u8 128) by simp [bvs, bv]] at this
    exact this)
  have hmx : ∀ (ts : Array TypeId) (ty : TypeId) (W : World), (Builtin.max_ ts ty #[.int .i64 (n : Int), .int .i64 0]).run Tryd.prog W = .ok (.int .i64 (n : Int)) W := fun ts ty W => by rw [run_max_int2, if_neg (by omega)]
  have hcase : ((t : Int) < 17 ∧ IntKind.i64.wrap ((t : Int) + 128) = (s : Int)) ∨ (¬ (t : Int) < 17 ∧ t = s) := by
    rw [IntKind.wrap_i64]
    omega
  clear hs hr ht hsz hz
  rcases hcase with ⟨h1, h2⟩ | ⟨h1, rfl⟩
  · go_enter Tryd.func27, Tryd.ntmps27
    go_wp2_with fail
    rw [show ((n : Int) / 2305843009213693952) = ((n / 2305843009213693952 : Nat) : Int) by omega]
    refine (putWord_any w.heap.size (s - 16) _ _ (n / 2305843009213693952) 5 (fnull n) _ Hst.out (by omega) (by rw [fnull_len, ← Hs.out]; omega)).mono ?_
    rintro e w2 ⟨rfl, hb2, hc2⟩
    obtain ⟨m, hm⟩ : ∃ m, m = (fnull n).take (s - 16) ++ (be (n / 2305843009213693952) ++ (fnull n).drop (s - 16 + 8)) := ⟨_, rfl⟩
    rw [← hm] at hb2
    have Hml := Lib.hid (show m.length = s by rw [hm]; simp [fnull_len, be_len]; have := Hs.out; omega)
    have Hfin := Lib.hid (fill_laid n s Hs.out (n / 2305843009213693952) (n * 8) m hm)
    have Hb2 := Lib.hid hb2
    have Hbl := Lib.hid (hc2.below (alloc_below w _) (Nat.le_refl _) (Nat.le_refl _))
    clear hb2 hc2 hm hmx hmk hc0 hf0 Hst
    have eL : IntKind.u64.wrap ((n : Int) * 8) = ((n * 8 : Nat) : Int) := by rw [IntKind.wrap_u64]; omega
    go_wp2_with fail
    rw [show ((n : Int) * 8) = ((n * 8 : Nat) : Int) by omega]
    refine (putWord_any w.heap.size (s - 8) _ _ (n * 8) 5 m _ Hb2.out (by omega) (by rw [Hml.out]; omega)).mono ?_
    rintro e w3 ⟨rfl, hb3, hc3⟩
    rw [Hfin.out] at hb3
    have Hb3 := Lib.hid (show Row w3 w.heap.size (fillL n) from hb3)
    have Hbl3 := Lib.hid (hc3.below Hbl.out (Nat.le_refl _) (Nat.le_refl _))
    clear hb3 hc3
    go_wp2
    go_ret
    have hlen : (fillL n).length = s := by rw [fillL_len, ← Hs.out]
    have := Own.row Hb3.out (Nat.le_refl _) (by rw [hlen]; omega)
    rw [hlen] at this
    exact ⟨_, _, by rw [hlen]; rfl, this, Hbl3.out⟩
  · go_enter Tryd.func27, Tryd.ntmps27
    go_wp2_with fail
    rw [show ((n : Int) / 2305843009213693952) = ((n / 2305843009213693952 : Nat) : Int) by omega]
    refine (putWord_any w.heap.size (t - 16) _ _ (n / 2305843009213693952) 5 (fnull n) _ Hst.out (by omega) (by rw [fnull_len, ← Hs.out]; omega)).mono ?_
    rintro e w2 ⟨rfl, hb2, hc2⟩
    obtain ⟨m, hm⟩ : ∃ m, m = (fnull n).take (t - 16) ++ (be (n / 2305843009213693952) ++ (fnull n).drop (t - 16 + 8)) := ⟨_, rfl⟩
    rw [← hm] at hb2
    have Hml := Lib.hid (show m.length = t by rw [hm]; simp [fnull_len, be_len]; have := Hs.out; omega)
    have Hfin := Lib.hid (fill_laid n t Hs.out (n / 2305843009213693952) (n * 8) m hm)
    have Hb2 := Lib.hid hb2
    have Hbl := Lib.hid (hc2.below (alloc_below w _) (Nat.le_refl _) (Nat.le_refl _))
    clear hb2 hc2 hm hmx hmk hc0 hf0 Hst
    have eL : IntKind.u64.wrap ((n : Int) * 8) = ((n * 8 : Nat) : Int) := by rw [IntKind.wrap_u64]; omega
    go_wp2_with fail
    rw [show ((n : Int) * 8) = ((n * 8 : Nat) : Int) by omega]
    refine (putWord_any w.heap.size (t - 8) _ _ (n * 8) 5 m _ Hb2.out (by omega) (by rw [Hml.out]; omega)).mono ?_
    rintro e w3 ⟨rfl, hb3, hc3⟩
    rw [Hfin.out] at hb3
    have Hb3 := Lib.hid (show Row w3 w.heap.size (fillL n) from hb3)
    have Hbl3 := Lib.hid (hc3.below Hbl.out (Nat.le_refl _) (Nat.le_refl _))
    clear hb3 hc3
    go_wp2
    go_ret
    have hlen : (fillL n).length = t := by rw [fillL_len, ← Hs.out]
    have := Own.row Hb3.out (Nat.le_refl _) (by rw [hlen]; omega)
    rw [hlen] at this
    exact ⟨_, _, by rw [hlen]; rfl, this, Hbl3.out⟩
end Go.Proofs.YtbofikghcoalbaaDoor.S4
