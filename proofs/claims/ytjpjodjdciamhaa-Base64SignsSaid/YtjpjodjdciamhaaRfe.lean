/-
  Contract of the reference's base64 Encode: the signs of the bits, six at a time.
-/
import Derived.Test.YtjpjodjdciamhaaRfb
namespace Go.Proofs.Ytjpjodjdciamhaa
open Go.RowKit
set_option linter.unusedVariables false
set_option linter.unusedSimpArgs false

def byteBits (x : UInt8) : List Int := (List.range 8).map fun j => ((x.toNat / (128 / 2 ^ j) % 2 : Nat) : Int)
def bitsL (l : List UInt8) : List Int := l.flatMap byteBits
def nK (bs : List Int) (i : Nat) : Nat → Int
  | 0 => 0
  | j + 1 => nK bs i j * 2 + bs.getD (i + j) 0
def encL (l : List UInt8) : List UInt8 := (List.range ((8 * l.length + 5) / 6)).map fun q => sg (nK (bitsL l) (6 * q) 6).toNat
def IsBits (bs : List Int) : Prop := ∀ k, 0 ≤ bs.getD k 0 ∧ bs.getD k 0 ≤ 1
theorem d_pos : ∀ j : Fin 8, 1 ≤ 128 / 2 ^ j.1 := by decide
theorem byteBits_len (x : UInt8) : (byteBits x).length = 8 := by simp [byteBits]
theorem bitsL_len (l : List UInt8) : (bitsL l).length = 8 * l.length := by
  induction l with
  | nil => rfl
  | cons x l ih => simp only [bitsL, List.flatMap_cons, List.length_append, byteBits_len, List.length_cons] at *; omega
theorem bitsL_take (l : List UInt8) (k : Nat) (h : k < l.length) : bitsL (l.take k) ++ byteBits l[k] = bitsL (l.take (k + 1)) := by
  rw [take_snoc l k h]; simp only [bitsL, List.flatMap_append, List.flatMap_cons, List.flatMap_nil, List.append_nil]
theorem mem_getD (bs : List Int) (k : Nat) : bs.getD k 0 ∈ bs ∨ bs.getD k 0 = 0 := by
  by_cases h : k < bs.length
  · left; simp [h]
  · right; simp [h]
theorem bitsL_bits (l : List UInt8) : IsBits (bitsL l) := by
  intro k
  have key : ∀ b ∈ bitsL l, 0 ≤ b ∧ b ≤ 1 := by
    intro b hb
    simp only [bitsL, byteBits, List.mem_flatMap, List.mem_map] at hb
    obtain ⟨x, _, j, _, rfl⟩ := hb
    omega
  rcases mem_getD (bitsL l) k with h | h
  · exact key _ h
  · omega
theorem nK_bd (bs : List Int) (h : IsBits bs) (i j : Nat) (hj : j ≤ 8) : 0 ≤ nK bs i j ∧ nK bs i j < 2 ^ j := by
  induction j with
  | zero => simp [nK]
  | succ j ih =>
    have h1 := ih (by omega)
    have h2 := h (i + j)
    rw [nK, Int.pow_succ]
    omega
theorem add1 (p : List UInt8) (x : UInt8) (hp : p.length ≤ 4294967296) (W : World) : (Op.stringOp .add { data := p.toArray } { data := #[x] }).run Try.prog W = .ok (.string { data := (p ++ [x]).toArray }) W := by
  rw [run_string_add_sum _ _ _ (by show p.toArray.size + 1 ≤ _; simp; omega)]
  congr 2

set_option maxHeartbeats 2000000 in
theorem encode_any (A : Option Addr) (n c : Nat) (l : List UInt8) (w : World) (h : Rd w w.heap.size A l) (hn : l.length = n) (hl : n ≤ 100000) :
    Calls Try.prog 11 #[.slice A n c] w fun e w' => e = .returned (.string { data := (encL l).toArray }) ∧ Below w.heap.size w w' := by
  have Hn := Lib.hid hn
  clear hn
  go_enter Try.func11, Try.ntmps11
  go_wp2
  go_loopw [3, 4] (fun v i wr => ∃ (k : Nat) (A1 : Option Addr) (c1 : Nat), k ≤ n ∧ i = .int .i64 k ∧ v = .slice A1 (8 * k) c1 ∧ Hid (OwnI wr w.heap.size A1 c1 (bitsL (l.take k))) ∧ Hid (Below w.heap.size w wr)) (fun _ i _ => n - (intOf i).toNat)
  case atStart => exact ⟨0, none, 0, by omega, rfl, rfl, OwnI.nil _ _, Below.refl _ _⟩
  case round =>
    obtain ⟨k, A1, c1, hk, rfl, rfl, Ho, Hb⟩ := hrel
    by_cases hlt : k < n
    · have hkl : k < l.length := by have := Hn.out; omega
      obtain ⟨b, off, rfl, hbb, hc⟩ := (h.below Hb.out).at_ hkl
      obtain ⟨x, hx⟩ : ∃ x, l[k] = x := ⟨_, rfl⟩
      have Hbt := Lib.hid (show bitsL (l.take k) ++ byteBits x = bitsL (l.take (k + 1)) by rw [← hx]; exact bitsL_take l k hkl)
      have Hpl := Lib.hid (show (bitsL (l.take k)).length = 8 * k by rw [bitsL_len]; simp; omega)
      rw [hx] at hc
      have hxl := u8_lt x
      clear hx h
      obtain ⟨wo, hwo⟩ : ∃ wo : World, wo = wr := ⟨_, rfl⟩
      subst hwo
      go_wp2
      clear hc
      go_loopw [3, 6] (fun v d wr => ∃ (j dj : Nat) (A2 : Option Addr) (c2 : Nat), j ≤ 8 ∧ Hid (dj = 128 / 2 ^ j) ∧ d = .int .i64 dj ∧ v = .slice A2 (8 * k + j) c2 ∧ Hid (OwnI wr w.heap.size A2 c2 (bitsL (l.take k) ++ (byteBits x).take j)) ∧ Hid (Below w.heap.size w wr)) (fun _ d _ => (intOf d).toNat)
      case atStart => exact ⟨0, 128, A1, c1, by omega, rfl, rfl, rfl, (by show OwnI _ _ _ _ _; simpa using Ho.out), Hb.out⟩
      case round =>
        clear Ho Hb
        obtain ⟨j, dj, A2, c2, hj, Hd, rfl, rfl, Ho, Hb⟩ := hrel
        have hB := Hb.out.size
        by_cases hj8 : j < 8
        · have hd1 : 1 ≤ dj := by rw [Hd.out]; exact d_pos ⟨j, hj8⟩
          have hd2 : dj ≤ 128 := by rw [Hd.out]; exact Nat.div_le_self _ _
          have Hd2 := Lib.hid (show dj / 2 = 128 / 2 ^ (j + 1) by rw [Hd.out, Nat.div_div_eq_div_mul, Nat.pow_succ])
          have hjb : j < (byteBits x).length := by rw [byteBits_len]; exact hj8
          obtain ⟨u, hu⟩ : ∃ u : Nat, u = x.toNat / dj := ⟨_, rfl⟩
          have hqv : (x.toNat : Int) / (dj : Int) = (u : Int) := by rw [hu]; exact (Int.natCast_ediv _ _).symm
          have hul : u ≤ 255 := by rw [hu]; exact Nat.le_trans (Nat.div_le_self _ _) (by omega)
          have Hv := Lib.hid (show (u : Int) % 2 = (byteBits x)[j] by
            simp only [byteBits, List.getElem_map, List.getElem_range]
            rw [hu, Hd.out]
            omega)
          clear hu
          have Hst := Lib.hid (show (bitsL (l.take k) ++ (byteBits x).take j) ++ [(byteBits x)[j]] = bitsL (l.take k) ++ (byteBits x).take (j + 1) by
            rw [List.take_succ_eq_append_getElem hjb, List.append_assoc])
          have Hlen := Lib.hid (show (bitsL (l.take k) ++ (byteBits x).take j).length = 8 * k + j by rw [List.length_append, Hpl.out, List.length_take, byteBits_len]; omega)
          go_wp2_with (first
            | (at_builtin
               refine wpList_appI rfl (.tmp 26) (.tmp 31) rfl (base := w.heap.size) rfl Hlen.out (Ho.out.grow (alloc_below wr _)) rfl (y := (u : Int) % 2) (by simp) (by omega) (by simp; omega) ?_
               intro A3 c3 w3 ho3 hb3
               have Ho3 := Lib.hid ho3
               have Hb3 := Lib.hid hb3
               clear ho3 hb3))
          go_roundw
          case rel =>
            refine ⟨j + 1, dj / 2, A3, c3, by omega, Hd2.out, ?_, rfl, ?_, (Hb.out.alloc hB _).trans Hb3.out⟩
            · apply int_eq; omega
            · show OwnI _ _ _ _ _
              have := Ho3.out
              rw [Hv.out, Hst.out] at this
              exact this
          case measure => simp [intOf]; omega
        · obtain rfl : j = 8 := by omega
          have hd0 : dj = 0 := by rw [Hd.out]
          subst hd0
          go_wp2
          go_roundw
          case rel =>
            refine ⟨k + 1, A2, c2, by omega, by go_num, ?_, ?_, Hb.out⟩
            · rw [show 8 * (k + 1) = 8 * k + 8 by omega]
            · show OwnI _ _ _ _ _
              have := Ho.out
              rw [show (byteBits x).take 8 = byteBits x from List.take_of_length_le (by rw [byteBits_len]; omega), Hbt.out] at this
              exact this
          case measure => simp [intOf]; omega
    · obtain rfl : k = n := by omega
      have ho := Ho.out
      rw [List.take_of_length_le (by have := Hn.out; omega)] at ho
      have Hz := Lib.hid (show (bitsL l).length = 8 * k by rw [bitsL_len, Hn.out])
      replace Ho := Lib.hid ho
      have Hbits := Lib.hid (bitsL_bits l)
      clear ho h
      obtain ⟨wo, hwo⟩ : ∃ wo : World, wo = wr := ⟨_, rfl⟩
      subst hwo
      have Hpos := Lib.hid (show ∀ T, 8 * k ≤ 6 * T → 6 * T < 8 * k + 6 → T = (8 * l.length + 5) / 6 by intro T h1 h2; rw [Hn.out]; omega)
      go_wp2
      go_loopw [7, 8] (fun v i wr => ∃ (q : Nat) (S : ByteArray), 6 * q < 8 * k + 6 ∧ i = .int .i64 (6 * (q : Int)) ∧ v = .string S ∧ Hid (S = { data := ((List.range q).map fun q => sg (nK (bitsL l) (6 * q) 6).toNat).toArray }) ∧ Hid (Below wo.heap.size wo wr)) (fun _ i _ => 8 * k + 6 - (intOf i).toNat)
      case atStart => exact ⟨0, _, by omega, rfl, rfl, rfl, Below.refl _ _⟩
      case round =>
        obtain ⟨q, S, hq, rfl, rfl, HS, Hw⟩ := hrel
        by_cases hq2 : 6 * q < 8 * k
        · obtain ⟨wp, hwp⟩ : ∃ wp : World, wp = wr := ⟨_, rfl⟩
          subst hwp
          have Hcell := Lib.hid (fun (t : Nat) (ht : t < (bitsL l).length) => (Ho.out.grow Hw.out).at_ ht)
          go_wp2
          go_loop [9, 10] (fun n i => ∃ (j : Nat) (N : Int), j ≤ 6 ∧ i = .int .i64 (6 * (q : Int) + j) ∧ n = .int .i64 N ∧ Hid (N = nK (bitsL l) (6 * q) j)) (fun _ i => 6 * q + 6 - (intOf i).toNat)
          case atStart => exact ⟨0, 0, by omega, by go_num, rfl, rfl⟩
          case round =>
            obtain ⟨j, N, hj, rfl, rfl, HN⟩ := hrel
            have hNb := nK_bd (bitsL l) Hbits.out (6 * q) j (by omega)
            rw [← HN.out] at hNb
            by_cases hj6 : j < 6
            · have hN2 : 0 ≤ N ∧ N < 64 := by
                refine ⟨hNb.1, ?_⟩
                have h2 : (2 : Int) ^ j ≤ 2 ^ 6 := by
                  have : (2 : Nat) ^ j ≤ 2 ^ 6 := Nat.pow_le_pow_right (by omega) (by omega)
                  exact_mod_cast this
                omega
              clear hNb
              by_cases hin : 6 * q + j < 8 * k
              · obtain ⟨g, rfl, _, _, hc⟩ := Hcell.out (6 * q + j) (by rw [Hz.out]; exact hin)
                obtain ⟨y, hy⟩ : ∃ y, (bitsL l)[6 * q + j]'(by rw [Hz.out]; exact hin) = y := ⟨_, rfl⟩
                rw [hy] at hc
                have hyb : 0 ≤ y ∧ y ≤ 1 := by
                  have := Hbits.out (6 * q + j)
                  rw [show (bitsL l).getD (6 * q + j) 0 = y by rw [← hy]; simp [show 6 * q + j < (bitsL l).length by rw [Hz.out]; exact hin]] at this
                  exact this
                have HN2 := Lib.hid (show N * 2 + y = nK (bitsL l) (6 * q) (j + 1) by
                  rw [nK, HN.out, ← hy]; simp [show 6 * q + j < (bitsL l).length by rw [Hz.out]; exact hin])
                clear hy
                go_wp2
                go_round
                case rel => exact ⟨j + 1, N * 2 + y, by omega, by go_num, rfl, HN2.out⟩
                case measure => simp [intOf]; omega
              · have HN2 := Lib.hid (show N * 2 = nK (bitsL l) (6 * q) (j + 1) by
                  rw [nK, HN.out, show (bitsL l).getD (6 * q + j) 0 = 0 by simp [show ¬ 6 * q + j < (bitsL l).length by rw [Hz.out]; exact hin]]
                  omega)
                go_wp2
                go_round
                case rel => exact ⟨j + 1, N * 2, by omega, by go_num, rfl, HN2.out⟩
                case measure => simp [intOf]; omega
            · obtain rfl : j = 6 := by omega
              obtain ⟨m, rfl⟩ : ∃ m : Nat, N = (m : Int) := ⟨N.toNat, by omega⟩
              have hm : m < 64 := by omega
              obtain ⟨S2, hS2⟩ : ∃ S2 : ByteArray, S2 = { data := ((List.range (q + 1)).map fun q => sg (nK (bitsL l) (6 * q) 6).toNat).toArray } := ⟨_, rfl⟩
              have hadd : ∀ W : World, (Op.stringOp .add S { data := #[sg m] }).run Try.prog W = .ok (.string S2) W := fun W => by
                rw [HS.out, add1 _ _ (by simp; omega) W, hS2, List.range_succ, List.map_append]
                simp only [List.map_cons, List.map_nil]
                rw [← HN.out, Int.toNat_natCast]
              have HS2 := Lib.hid hS2
              clear hS2 hNb
              go_wp2_with fail
              refine (sign_any m _ hm).mono ?_
              rintro e w5 ⟨rfl, hb5⟩
              have Hw5 := Lib.hid (Below.trans Hw.out (hb5.mono Hw.out.size))
              clear hb5
              go_wp2
              go_roundw
              case rel => exact ⟨q + 1, S2, by omega, by apply int_eq; omega, rfl, HS2.out, Hw5.out⟩
              case measure => simp [intOf]; omega
        · go_wp2
          go_ret
          refine ⟨?_, Below.trans Hb.out (Hw.out.mono Hb.out.size)⟩
          show Ending.returned (.string S) = _
          rw [HS.out, Hpos.out q (by omega) hq]
          rfl
end Go.Proofs.Ytjpjodjdciamhaa
