/-
  strings.IndexRune of the two octets that no name has, at a rune that is no ASCII: none.
-/
import Derived.Test.YtpfhpopfakfjhaaDoorShelf
import Derived.Test.YtpfhpopfakfjhaaDoorPaL
import Derived.Test.YtpfhpopfakfjhaaDoorGrow
import Derived.Laws.RangeAny
import Derived.Laws.Runes
import Derived.WalkMore
namespace Go.Proofs.YtpfhpopfakfjhaaDoor.S10
open Go.RowKit
set_option linter.unusedVariables false
set_option linter.unusedSimpArgs false

def ch : ByteArray := { data := #[0, 47] }
theorem ch_list : ch.data.toList = [0, 47] := rfl
theorem iter_below (w : World) (s : ByteArray) (p : Nat) : Grown w (w.iter s p) := (Below.refl _ w).alloc (Nat.le_refl _) _

set_option maxHeartbeats 4000000 in
set_option maxRecDepth 1000000 in
/-- The rune for what is no text. -/
theorem rune_bad (w : World) : Calls Tryd.prog 27 #[.string { data := #[0, 47] }, .int .i32 65533] w fun e w' => e = .returned (.int .i64 (-1)) ∧ Grown w w' := by
  go_enter Tryd.func27, Tryd.ntmps27
  go_wp2_with fail
  go_loopw [] (fun wr => ∃ p : Nat, p ≤ 2 ∧ wr = w.iter ch p) (fun wr => 2 - wr.iterPos w.heap.size)
  case atStart => exact ⟨0, by omega, rfl⟩
  case round =>
    obtain ⟨p, hp, rfl⟩ := hrel
    have hnx0 := fun ty => run_next_ascii (P := Tryd.prog) w ch 0 ty (by decide) (by decide)
    have hnx1 := fun ty => run_next_ascii (P := Tryd.prog) w ch 1 ty (by decide) (by decide)
    have hnx2 := fun ty => run_next_end (P := Tryd.prog) w ch 2 ty (by decide)
    simp only [show (ch[0]'(by decide)) = 0 from rfl, show (ch[1]'(by decide)) = 47 from rfl] at hnx0 hnx1
    rcases (show p = 0 ∨ p = 1 ∨ p = 2 by omega) with rfl | rfl | rfl
    · go_wp2
      go_roundw
      case rel => exact ⟨1, by omega, rfl⟩
      case measure => simp
    · go_wp2
      go_roundw
      case rel => exact ⟨2, by omega, rfl⟩
      case measure => simp
    · go_wp2
      go_ret
      exact ⟨rfl, iter_below w ch 2⟩

set_option maxHeartbeats 8000000 in
set_option maxRecDepth 1000000 in
/-- Any other rune that is no ASCII. -/
theorem rune_high (r : Int) (w : World) (h1 : 128 ≤ r) (h2 : r ≤ 2147483647) (h3 : r ≠ 65533) : Calls Tryd.prog 27 #[.string { data := #[0, 47] }, .int .i32 r] w fun e w' => e = .returned (.int .i64 (-1)) ∧ Grown w w' := by
  have h0 : (0 : Int) ≤ r := by omega
  have hb : (r == 65533) = false := beq_eq_false_iff_ne.2 h3
  have h128 : decide (r < 128) = false := decide_eq_false (by omega)
  cases hv : Lib.validRune r with
  | false =>
    go_enter Tryd.func27, Tryd.ntmps27
    go_wp2_with fail
    refine (Sh.Tryd.utf8_ValidRune r w).mono ?_
    rintro e w1 ⟨rfl, rfl⟩
    rw [hv]
    go_wp2
    go_ret
    exact ⟨rfl, Grown.refl _⟩
  | true =>
    obtain ⟨hs2, hs4, hlast⟩ := encode_facts r (by rw [validRune_eq]; exact hv) h1
    obtain ⟨rs, hrs⟩ : ∃ rs, Utf8.encode r = rs := ⟨_, rfl⟩
    rw [hrs] at hs2 hs4 hlast
    obtain ⟨n, hn⟩ : ∃ n, rs.size = n := ⟨_, rfl⟩
    have hcv : ∀ V : World, (convert 21 9 (.int .i32 r)).run Tryd.prog V = .ok (.string rs) V := fun V => by rw [← hrs]; exact run_convert_int_string V 21 9 .i32 r (by kernel_rfl) Tryd.underlying9
    have hL := Lib.hid hlast
    clear hlast hrs
    rcases (show n = 2 ∨ 3 ≤ n by omega) with h2n | h3n
    · subst h2n
      have hls : (rs[1]'(by omega)).toNat ≥ 128 := by
        have := hL.out (by omega)
        simp only [hn] at this
        exact this
      obtain ⟨x, hx⟩ : ∃ x, rs[1]'(by omega) = x := ⟨_, rfl⟩
      rw [hx] at hls
      have hxl : x.toNat < 256 := x.toNat_lt
      have hi1 : ∀ V : World, (Instr.index 9 (.string { data := #[0, 47] }) (.int .i64 1)).run Tryd.prog V = .ok (.int .u8 47) V := fun V => by
        go_simp
        rfl
      have hi2 : ∀ V : World, (Instr.index 9 (.string rs) (.int .i64 1)).run Tryd.prog V = .ok (.int .u8 (x.toNat : Int)) V := fun V => by
        go_simp
      have hsl : ∀ V : World, (Instr.slice 9 (.string { data := #[0, 47] }) (some (.int .i64 2)) none none).run Tryd.prog V = .ok (.string ByteArray.empty) V := fun V => by go_simp
      have HIB : ∀ V : World, Calls Tryd.prog 34 #[.string ByteArray.empty, .int .u8 (x.toNat : Int)] V fun e w' => e = .returned (.int .i64 (-1)) ∧ w' = V := fun V => Sh.Tryd.strings_IndexByte ByteArray.empty (x.toNat : Int) V
      have hw2 : IntKind.i64.wrap 2 = 2 := by decide
      have hne : ((47 : Int) == (x.toNat : Int)) = false := beq_eq_false_iff_ne.2 (by omega)
      go_enter Tryd.func27, Tryd.ntmps27
      go_wp2_with fail
      refine (Sh.Tryd.utf8_ValidRune r w).mono ?_
      rintro e w1 ⟨rfl, rfl⟩
      rw [hv]
      go_wp2_with fail
      go_step3
      go_wp2_with fail
      go_loopw [9] (fun i wr => wr = w1 ∧ i = .int .i64 1) (fun _ _ => 0)
      case atStart => exact ⟨rfl, rfl⟩
      case round =>
        obtain ⟨rfl, rfl⟩ := hrel
        go_wp2_with fail
        go_step3
        go_wp2_with fail
        go_quiet (fail)
        go_wp2_with fail
        have hg5 : Grown wr (wr.drewN nq) := ⟨rfl, rfl, rfl, Nat.le_refl _, fun _ _ => rfl⟩
        generalize wr.drewN nq = w5 at hg5 ⊢
        go_quiet (with_reducible exact Calls.quiet_of_same (HIB _))
        go_wp2_with fail
        rw [Exit.noGoto_ret]
        show bodyPost Tryd.prog Tryd.f27 (fun e w' => e = .returned (.int .i64 (-1)) ∧ Grown wr w') Exit.ret _ _
        go_ret
        exact ⟨rfl, hg5.trans ⟨rfl, rfl, rfl, Nat.le_refl _, fun _ _ => rfl⟩⟩
    · go_enter Tryd.func27, Tryd.ntmps27
      go_wp2_with fail
      refine (Sh.Tryd.utf8_ValidRune r w).mono ?_
      rintro e w1 ⟨rfl, rfl⟩
      rw [hv]
      go_wp2_with fail
      go_step3
      go_wp2_with fail
      have hnlt : ¬ ((n : Int) - 1 < 2) := by omega
      go_loopw [9] (fun i wr => wr = w1 ∧ i = .int .i64 (n - 1)) (fun _ _ => 0)
      case atStart => exact ⟨rfl, rfl⟩
      case round =>
        obtain ⟨rfl, rfl⟩ := hrel
        go_wp2_with fail
        go_ret
        exact ⟨rfl, Grown.refl _⟩
end Go.Proofs.YtpfhpopfakfjhaaDoor.S10
