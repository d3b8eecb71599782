/-
  Contract of Hex.
-/
import Derived.Test.YtmcdidmfgjmhiaaPcs
import Derived.StillTailTactics
namespace Go.Proofs.Ytmcdidmfgjmhiaa
open Go.RowKit
set_option linter.unusedVariables false

def digs : List UInt8 := [48, 49, 50, 51, 52, 53, 54, 55, 56, 57, 97, 98, 99, 100, 101, 102]
def hd (i : Nat) : UInt8 := digs.getD i 0
def hexL (l : List UInt8) : List UInt8 := l.flatMap fun x => [hd (x.toNat / 16), hd (x.toNat % 16)]

theorem mkCap (k : Nat) (hk : k ≤ 4294967296) (w : World) :
    ∃ w', (Instr.makeSlice 22 (.int .i64 0) (.int .i64 (k : Int))).run Try.prog w = .ok (.slice (some ⟨w.heap.size, 0, none⟩) 0 k) w' ∧ Own w' w.heap.size (some ⟨w.heap.size, 0, none⟩) k [] ∧ Below w.heap.size w w' := by
  obtain ⟨i0, hi, hz0, hz1, hz2⟩ := info_parts info5
  have hr := run_make (P := Try.prog) w 22 5 i0 _ Try.underlying22 hi hz0 .i64 .i64 0 (k : Int) (by omega) (by omega) (by rw [hz2]; omega) (by omega)
  refine ⟨_, hr, ?_, (Below.refl _ _).alloc (Nat.le_refl _) _⟩
  exact World.ownsRow_made w _ k (Nat.le_refl _) (by unfold maxLen; omega) (by rw [size_madeCells, hz1, Int.toNat_natCast])

theorem ix (i : Nat) (hi : i < 16) (W : World) :
    (Instr.index 9 (.string { data := #[48, 49, 50, 51, 52, 53, 54, 55, 56, 57, 97, 98, 99, 100, 101, 102] }) (.int .u8 (i : Int))).run Try.prog W = .ok (.int .u8 ((hd i).toNat : Int)) W := by
  rcases i with _ | _ | _ | _ | _ | _ | _ | _ | _ | _ | _ | _ | _ | _ | _ | _ | i
  all_goals first | rfl | (exfalso; omega)

theorem Rd.drew {w : World} {B : Nat} {A : Option Addr} {l : List UInt8} (h : Rd w B A l) : Rd w.drew B A l := h
theorem Own.drew {w : World} {B c : Nat} {A : Option Addr} {l : List UInt8} (h : Own w B A c l) : Own w.drew B A c l := h
theorem hexL_take (l : List UInt8) (k : Nat) (h : k < l.length) : hexL (l.take k) ++ [hd (l[k].toNat / 16), hd (l[k].toNat % 16)] = hexL (l.take (k + 1)) := by
  rw [take_snoc l k h]; simp only [hexL, List.flatMap_append, List.flatMap_cons, List.flatMap_nil, List.append_nil]
theorem hexL_len (l : List UInt8) : (hexL l).length = 2 * l.length := by
  induction l with
  | nil => rfl
  | cons x l ih => simp only [hexL, List.flatMap_cons, List.length_append, List.length_cons, List.length_nil] at *; omega
theorem alloc_below (w : World) (o : Obj) : Below w.heap.size w (w.alloc o) := (Below.refl _ _).alloc (Nat.le_refl _) _

set_option maxHeartbeats 1000000 in
theorem hex_any (A : Option Addr) (n c : Nat) (l : List UInt8) (w : World) (hn : l.length = n) (h : Rd w w.heap.size A l) (hl : n ≤ 1000000) :
    Calls Try.prog 24 #[.slice A n c] w fun e w' => e = .returned (.string ⟨(hexL l).toArray⟩) ∧ Below w.heap.size w w' := by
  subst hn
  obtain ⟨w0, hmk, ho0, hb0⟩ := mkCap (2 * l.length) (by omega) w
  have Ho0 := Lib.hid ho0
  have Hb0 := Lib.hid hb0
  clear ho0 hb0
  have hmk' : (Instr.makeSlice 22 (.int .i64 0) (.int .i64 (2 * (l.length : Int)))).run Try.prog w = .ok (.slice (some ⟨w.heap.size, 0, none⟩) 0 (2 * l.length)) w0 := by
    rw [← hmk]; simp
  clear hmk
  go_enter Try.func24, Try.ntmps24
  go_wp2
  clear hmk'
  go_loopw [3, 12] (fun v i wr => ∃ k A1 c1, k ≤ l.length ∧ i = .int .i64 k ∧ v = .slice A1 (hexL (l.take k)).length c1 ∧ Own wr w.heap.size A1 c1 (hexL (l.take k)) ∧ Below w.heap.size w wr) (fun _ i _ => l.length - (intOf i).toNat)
  case atStart => exact ⟨0, _, _, by omega, rfl, rfl, Ho0.out, Hb0.out⟩
  case round =>
    obtain ⟨k, A1, c1, hk, rfl, rfl, ho, hb⟩ := hrel
    have Hb := Lib.hid hb
    have Ho := Lib.hid ho
    clear hb ho
    by_cases hlt : k < l.length
    · obtain ⟨b, off, rfl, hbb, hc⟩ := (h.below Hb.out).at_ hlt
      have hx := u8_lt l[k]
      go_wp2
      have hand : bits .and .u8 (l[k].toNat : Int) 15 = (l[k].toNat : Int) % 16 := by
        have := u8_and_nat l[k].toNat 15 hx (by omega)
        rw [nat_mask4] at this
        exact this
      have hix1 : ∀ W : World, (Instr.index 9 (.string { data := #[48, 49, 50, 51, 52, 53, 54, 55, 56, 57, 97, 98, 99, 100, 101, 102] }) (.int .u8 ((l[k].toNat : Int) / 16))).run Try.prog W = .ok (.int .u8 ((hd (l[k].toNat / 16)).toNat : Int)) W := fun W => ix (l[k].toNat / 16) (by omega) W
      have hix2 : ∀ W : World, (Instr.index 9 (.string { data := #[48, 49, 50, 51, 52, 53, 54, 55, 56, 57, 97, 98, 99, 100, 101, 102] }) (.int .u8 ((l[k].toNat : Int) % 16))).run Try.prog W = .ok (.int .u8 ((hd (l[k].toNat % 16)).toNat : Int)) W := fun W => ix (l[k].toNat % 16) (by omega) W
      have hlen : (hexL (l.take k)).length + 2 ≤ 4294967296 := by rw [hexL_len]; simp; omega
      have hB := Hb.out.size
      go_region_held3 (fun _ => True) (trivial) (first
        | (refine step_app rfl (.tmp 16) (.tmp 23) rfl (base := w.heap.size) rfl (Ho.out.grow (alloc_below wr _)).drew (l2 := [hd (l[k].toNat / 16), hd (l[k].toNat % 16)]) rfl ((Row.new wr [hd (l[k].toNat / 16), hd (l[k].toNat % 16)]).rd (Nat.lt_succ_self _)).drew hlen (by simp; omega) _ (hexL_take l k hlt) ?_
           intro A2 c2 w2 ho2 hb2
           have Ho2 := Lib.hid ho2
           have Hb2 := Lib.hid hb2
           clear ho2 hb2))
      all_goals
        clear hix1 hix2
        go_wp2
        go_roundw
        case rel => exact ⟨k + 1, _, _, by omega, by go_num, rfl, Ho2.out, (((Hb.out.alloc hB _)).drew).trans Hb2.out⟩
        case measure => simp [intOf]; omega
    · obtain rfl : k = l.length := by omega
      have ho := Ho.out
      rw [List.take_of_length_le (Nat.le_refl _)] at ho
      have hcv := conv ho.rd c1
      have e : l.take l.length = l := List.take_of_length_le (Nat.le_refl _)
      rw [e]
      go_wp2
      go_ret
      exact ⟨rfl, Hb.out⟩
end Go.Proofs.Ytmcdidmfgjmhiaa
