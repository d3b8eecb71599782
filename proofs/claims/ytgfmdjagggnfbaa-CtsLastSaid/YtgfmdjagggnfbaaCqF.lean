/-
  Contracts of the program's Encrypt and Decrypt (cts).
-/
import Derived.Test.YtgfmdjagggnfbaaCqA
import Derived.Test.YtgfmdjagggnfbaaCqD
namespace Go.Proofs.Ytgfmdjagggnfbaa.S9
open Go.RowKit
open Go.Proofs.Ytgfmdjagggnfbaa.S7 hiding intOf
set_option linter.unusedVariables false
set_option linter.unusedSimpArgs false

theorem enc_enter (args : Array Value) (V : World) : (callFunc 15 args).run Try.prog V = .ok (.enter 15 args) V := by
  go_simp
theorem dec_enter (args : Array Value) (V : World) : (callFunc 16 args).run Try.prog V = .ok (.enter 16 args) V := by
  go_simp
theorem noC {w w' : World} {n : Int} {e : Ending} (h : ∃ A c, e = .returned (.tuple #[.slice A 0 c, .int .i64 n]) ∧ Grown w w') : NoC w n e w' := h
set_option maxHeartbeats 4000000 in
theorem encNil : EncNil := by
  intro B bl d b w hb hd hdm hB
  go_enter Try.func8, Try.ntmps8
  go_wp2_with fail
  refine (apply_nil 15 B bl d w).mono ?_
  rintro e w1 ⟨A, c, rfl, hg⟩
  go_wp2
  go_ret2
  exact ⟨A, c, rfl, hg⟩
set_option maxHeartbeats 4000000 in
theorem encBad : EncBad := by
  intro G W B bl d b w hC hb hd hdm hB hno
  go_enter Try.func8, Try.ntmps8
  go_wp2_with fail
  refine (apply_bad 15 G B bl d w hno).mono ?_
  rintro e w1 ⟨A, c, rfl, hg⟩
  go_wp2
  go_ret2
  exact ⟨A, c, rfl, hg⟩
set_option maxHeartbeats 4000000 in
theorem decBad : DecBad := by
  intro G W B bl d b w hC hb hd hdm hB hno
  go_enter Try.func9, Try.ntmps9
  go_wp2_with fail
  refine (apply_bad 16 G B bl d w hno).mono ?_
  rintro e w1 ⟨A, c, rfl, hg⟩
  go_wp2
  go_ret2
  exact ⟨A, c, rfl, hg⟩
set_option maxHeartbeats 4000000 in
theorem encFit : EncFit := by
  intro G W B bl d b w hC hb hd hdm hB hlo hhi
  go_enter Try.func8, Try.ntmps8
  go_wp2_with fail
  refine (apply_ok 15 G B bl d (ctsE W b) w hlo hhi (by rw [ctsE_len]; exact hb) enc_enter (fun w' hg => encrypt_any G W B bl d b w' (hC.grow hg) hb hd (hB.grow hg) hlo hhi)).mono ?_
  rintro e w1 ⟨A, c, rfl, h1, h2, h3, hg⟩
  go_wp2
  go_ret2
  exact ⟨A, c, rfl, by rw [ctsE_len]; exact hb, h1, h2, h3, hg⟩
set_option maxHeartbeats 4000000 in
theorem decFit : DecFit := by
  intro G W B bl d b w hC hb hd hdm hB hlo hhi
  go_enter Try.func9, Try.ntmps9
  go_wp2_with fail
  refine (apply_ok 16 G B bl d (ctsD W b) w hlo hhi (by rw [ctsD_len]; exact hb) dec_enter (fun w' hg => decrypt_any G W B bl d b w' (hC.grow hg) hb hd (hB.grow hg) hlo hhi)).mono ?_
  rintro e w1 ⟨A, c, rfl, h1, h2, h3, hg⟩
  go_wp2
  go_ret2
  exact ⟨A, c, rfl, by rw [ctsD_len]; exact hb, h1, h2, h3, hg⟩
end Go.Proofs.Ytgfmdjagggnfbaa.S9
