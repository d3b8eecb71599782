/-
  Contracts of the program's byteAt and Same.
-/
import Derived.Test.YtbjfjncpnnlklaaDoorApp
import Derived.Test.YtbjfjncpnnlklaaDoorMath
import Derived.Test.YtbjfjncpnnlklaaDoorOxr
namespace Go.Proofs.YtbjfjncpnnlklaaDoor
open Go.RowKit
set_option linter.unusedVariables false

theorem byteAt_in (A : Option Addr) (c : Nat) (l : List UInt8) (k : Nat) (w : World) (B : Nat) (h : Rd w B A l) (hl : l.length ≤ 1000000) (hk : k < l.length) :
    Calls Tryd.prog 29 #[.slice A l.length c, .int .i64 k] w fun e w' => e = .returned (.int .u8 (l[k].toNat : Int)) ∧ w = w' := by
  obtain ⟨b, off, rfl, hb, hc⟩ := h.at_ hk
  clear h
  go_enter Tryd.func29, Tryd.ntmps29
  go_wp2
  go_ret
  exact ⟨rfl, rfl⟩

theorem byteAt_out (A : Option Addr) (c : Nat) (l : List UInt8) (k : Nat) (w : World) (hl : l.length ≤ 1000000) (hk : l.length ≤ k) (hk2 : k ≤ 1000000) :
    Calls Tryd.prog 29 #[.slice A l.length c, .int .i64 k] w fun e w' => e = .returned (.int .u8 0) ∧ w = w' := by
  go_enter Tryd.func29, Tryd.ntmps29
  go_wp2
  go_ret
  exact ⟨rfl, rfl⟩

theorem byteAt_any (A : Option Addr) (n c : Nat) (l : List UInt8) (k : Nat) (w : World) (B : Nat) (h : Rd w B A l) (hn : l.length = n) (hl : n ≤ 1000000) (hk : k ≤ 1000000) (x : UInt8) (hx : l.getD k 0 = x) :
    Calls Tryd.prog 29 #[.slice A n c, .int .i64 k] w fun e w' => e = .returned (.int .u8 (x.toNat : Int)) ∧ w = w' := by
  subst hn hx
  by_cases hlt : k < l.length
  · have := byteAt_in A c l k w B h hl hlt
    simpa [hlt] using this
  · have := byteAt_out A c l k w hl (by omega) hk
    simpa [hlt] using this

/-- What Same gathers. -/
def dif (a b : List UInt8) : Nat → Nat
  | 0 => a.length ^^^ b.length
  | k + 1 => dif a b k ||| (a.getD k 0 ^^^ b.getD k 0).toNat
theorem dif_lt (a b : List UInt8) (ha : a.length ≤ 1000000) (hb : b.length ≤ 1000000) (k : Nat) : dif a b k < 2 ^ 20 := by
  induction k with
  | zero => exact Nat.xor_lt_two_pow (by omega) (by omega)
  | succ k ih => exact Nat.or_lt_two_pow ih (Nat.lt_trans (u8_lt _) (by decide))
theorem or_eq_zero (x y : Nat) : x ||| y = 0 ↔ x = 0 ∧ y = 0 := Nat.or_eq_zero_iff
theorem xor_zero (x y : Nat) : x ^^^ y = 0 ↔ x = y := by
  constructor
  · intro h
    have : x ^^^ y ^^^ y = 0 ^^^ y := by rw [h]
    rwa [Nat.xor_assoc, Nat.xor_self, Nat.xor_zero, Nat.zero_xor] at this
  · rintro rfl; exact Nat.xor_self x
theorem dif_zero (a b : List UInt8) (k : Nat) : dif a b k = 0 ↔ a.length = b.length ∧ ∀ j, j < k → a.getD j 0 = b.getD j 0 := by
  induction k with
  | zero => rw [dif, xor_zero]; simp
  | succ k ih =>
    rw [dif, or_eq_zero, ih]
    constructor
    · rintro ⟨⟨h1, h2⟩, h3⟩
      refine ⟨h1, fun j hj => ?_⟩
      by_cases e : j = k
      · subst e
        have : a.getD j 0 ^^^ b.getD j 0 = 0 := UInt8.toNat_inj.1 (by simpa using h3)
        exact UInt8.xor_eq_zero_iff.1 this
      · exact h2 j (by omega)
    · rintro ⟨h1, h2⟩
      refine ⟨⟨h1, fun j hj => h2 j (by omega)⟩, ?_⟩
      rw [h2 k (by omega)]
      simp
theorem dif_same (a b : List UInt8) : (dif a b (max a.length b.length) == 0) = decide (a = b) := by
  rw [Bool.eq_iff_iff, beq_iff_eq, decide_eq_true_iff, dif_zero]
  constructor
  · rintro ⟨h1, h2⟩
    apply List.ext_getElem h1
    intro j h3 h4
    have := h2 j (by omega)
    simpa [h3, h4] using this
  · rintro rfl
    exact ⟨rfl, fun _ _ => rfl⟩

set_option maxHeartbeats 1000000 in
theorem same_any (A1 : Option Addr) (n1 c1 : Nat) (A2 : Option Addr) (n2 c2 : Nat) (a b : List UInt8) (w : World) (h1 : Rd w w.heap.size A1 a) (h2 : Rd w w.heap.size A2 b) (hn1 : a.length = n1) (hn2 : b.length = n2) (hl1 : n1 ≤ 1000000) (hl2 : n2 ≤ 1000000) :
    Calls Tryd.prog 19 #[.slice A1 n1 c1, .slice A2 n2 c2] w fun e w' => e = .returned (.bool (decide (a = b))) ∧ w = w' := by
  have hx := bits_xor_i64 n1 n2 (by omega) (by omega)
  have Hn1 := Lib.hid hn1
  have Hn2 := Lib.hid hn2
  clear hn1 hn2
  have go : ∀ m : Nat, ((n1 < n2 ∧ m = n2) ∨ (n2 < n1 ∧ m = n1) ∨ (m = n1 ∧ m = n2)) → Calls Tryd.prog 19 #[.slice A1 n1 c1, .slice A2 n2 c2] w fun e w' => e = .returned (.bool (decide (a = b))) ∧ w = w' := by
    rintro m (⟨hle, rfl⟩ | ⟨hle, rfl⟩ | ⟨rfl, rfl⟩)
    all_goals
      go_enter Tryd.func19, Tryd.ntmps19
      go_wp2
      go_loop [5, 17] (fun d i => ∃ t : Nat, t ≤ m ∧ i = .int .i64 t ∧ d = .int .i64 (dif a b t : Nat)) (fun _ i => m - (intOf i).toNat)
      case atStart => exact ⟨0, by omega, rfl, int_eq (by rw [dif, Hn1.out, Hn2.out] <;> simp)⟩
      case round =>
        obtain ⟨t, ht, rfl, rfl⟩ := hrel
        have hd := dif_lt a b (by rw [Hn1.out]; omega) (by rw [Hn2.out]; omega) t
        have hs := dif_same a b
        obtain ⟨d, ed⟩ : ∃ d, d = dif a b t := ⟨_, rfl⟩
        by_cases hlt : t < m
        · obtain ⟨x, ex⟩ : ∃ x, x = a.getD t 0 := ⟨_, rfl⟩
          obtain ⟨y, ey⟩ : ∃ y, y = b.getD t 0 := ⟨_, rfl⟩
          obtain ⟨z, ez⟩ : ∃ z, z = x ^^^ y := ⟨_, rfl⟩
          have hz := u8_lt z
          have hor := bits_or_i64 d z.toNat (by omega) (by omega)
          have hxx : bits .xor .u8 (x.toNat : Int) (y.toNat : Int) = (z.toNat : Int) := by rw [xor_u8, ez]
          have E : Hid (dif a b (t + 1) = d ||| z.toNat) := by show dif a b (t + 1) = _; rw [dif, ed, ez, ex, ey]
          have Ex := Lib.hid ex.symm
          have Ey := Lib.hid ey.symm
          rw [← ed]
          clear ex ey ez ed hd hs hx
          go_wp2_with fail
          refine (byteAt_any _ _ _ a _ _ _ h1 Hn1.out hl1 (by omega) x Ex.out).mono ?_
          rintro e w' ⟨rfl, rfl⟩
          go_wp2_with fail
          refine (byteAt_any _ _ _ b _ _ _ h2 Hn2.out hl2 (by omega) y Ey.out).mono ?_
          rintro e w' ⟨rfl, rfl⟩
          go_wp2
          go_round
          case rel => exact ⟨t + 1, by omega, by go_num, int_eq (by rw [E.out])⟩
          case measure => simp [intOf]; omega
        · obtain rfl : t = m := by omega
          have hs' : ((dif a b t : Int) == 0) = decide (a = b) := by
            rw [← hs, show max a.length b.length = t by rw [Hn1.out, Hn2.out]; omega]
            rw [Bool.eq_iff_iff]; simp
          have Hs := Lib.hid hs'
          clear hs hx hs' ed
          go_wp2
          go_ret
          exact ⟨congrArg (fun q => Ending.returned (.bool q)) Hs.out, rfl⟩
  exact go (max n1 n2) (by omega)

end Go.Proofs.YtbjfjncpnnlklaaDoor
