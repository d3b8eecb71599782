/-
  Contracts of digit, IndexByte at the sixteen digits, Unhex and the reference's Unhex.
-/
import Derived.Test.YtmcdidmfgjmhiaaXor
namespace Go.Proofs.Ytmcdidmfgjmhiaa
open Go.RowKit
set_option linter.unusedVariables false

/-- What a digit says; 16: nothing. -/
def dg (c : UInt8) : Nat := if 48 ≤ c.toNat ∧ c.toNat ≤ 57 then c.toNat - 48 else if 97 ≤ c.toNat ∧ c.toNat ≤ 102 then c.toNat - 87 else 16

theorem digit_any (c : UInt8) (w : World) : Calls Try.prog 29 #[.int .u8 (c.toNat : Int)] w fun e w' => e = .returned (.int .i64 (dg c : Nat)) ∧ w = w' := by
  have hc := u8_lt c
  obtain ⟨d, hd⟩ : ∃ d, dg c = d := ⟨_, rfl⟩
  rw [hd]
  unfold dg at hd
  by_cases h1 : 48 ≤ c.toNat
  · by_cases h2 : c.toNat ≤ 57
    · rw [if_pos ⟨h1, h2⟩] at hd
      have Hd := Lib.hid hd
      clear hd
      go_enter Try.func29, Try.ntmps29
      go_wp2
      go_ret
      exact ⟨ret_int (by have := Hd.out; omega), rfl⟩
    · rw [if_neg (by omega)] at hd
      by_cases h3 : 97 ≤ c.toNat
      · by_cases h4 : c.toNat ≤ 102
        · rw [if_pos ⟨h3, h4⟩] at hd
          have Hd := Lib.hid hd
          clear hd
          go_enter Try.func29, Try.ntmps29
          go_wp2
          go_ret
          exact ⟨ret_int (by have := Hd.out; omega), rfl⟩
        · rw [if_neg (by omega)] at hd
          subst hd
          go_enter Try.func29, Try.ntmps29
          go_wp2
          go_ret
          exact ⟨rfl, rfl⟩
      · rw [if_neg (by omega)] at hd
        subst hd
        go_enter Try.func29, Try.ntmps29
        go_wp2
        go_ret
        exact ⟨rfl, rfl⟩
  · rw [if_neg (by omega), if_neg (by omega)] at hd
    subst hd
    go_enter Try.func29, Try.ntmps29
    go_wp2
    go_ret
    exact ⟨rfl, rfl⟩

def ixd (c : UInt8) : Int := if dg c < 16 then dg c else -1

def digB : ByteArray := { data := #[48, 49, 50, 51, 52, 53, 54, 55, 56, 57, 97, 98, 99, 100, 101, 102] }
theorem first_all : ∀ n : Fin 256, firstIdx digB (UInt8.ofNat n.1) = ixd (UInt8.ofNat n.1) := by decide +kernel
theorem first_ixd (c : UInt8) : firstIdx digB c = ixd c := by
  have := first_all ⟨c.toNat, u8_lt c⟩
  simpa using this
theorem ext31 (c : UInt8) (W : World) : (callFunc 31 #[.string { data := #[48, 49, 50, 51, 52, 53, 54, 55, 56, 57, 97, 98, 99, 100, 101, 102] }, .int .u8 (c.toNat : Int)]).run Try.prog W = .ok (.value (.int .i64 (ixd c))) W := by
  rw [run_callFunc_extern (fn := Try.f31) (e := Extern.BytealgIndexByte.indexByte) Try.func31 (by kernel_rfl) (by kernel_rfl) (by kernel_rfl) (by kernel_rfl), run_indexByte_string]
  have h1 : firstIdx { data := #[48, 49, 50, 51, 52, 53, 54, 55, 56, 57, 97, 98, 99, 100, 101, 102] } (((c.toNat : Int)).toNat.toUInt8) = ixd c := by
    rw [← first_ixd]
    simp [digB]
  rw [h1]
  rfl

set_option maxHeartbeats 400000 in
theorem index_any (c : UInt8) (w : World) : Calls Try.prog 28 #[.string { data := #[48, 49, 50, 51, 52, 53, 54, 55, 56, 57, 97, 98, 99, 100, 101, 102] }, .int .u8 (c.toNat : Int)] w fun e w' => e = .returned (.int .i64 (ixd c)) ∧ w = w' := by
  have hx := fun W => ext31 c W
  go_enter Try.func28, Try.ntmps28
  go_wp2
  go_ret
  exact ⟨rfl, rfl⟩

/-- Byte k of what s says; whether it says one. -/
def val (s : List UInt8) (k : Nat) : UInt8 := UInt8.ofNat (16 * dg (s.getD (2 * k) 0) + dg (s.getD (2 * k + 1) 0))
def good (s : List UInt8) (k : Nat) : Prop := dg (s.getD (2 * k) 0) < 16 ∧ dg (s.getD (2 * k + 1) 0) < 16
def fullL (s : List UInt8) : List UInt8 := (List.range (s.length / 2)).map (val s)
def Good (s : List UInt8) : Prop := s.length % 2 = 0 ∧ ∀ k, k < s.length / 2 → good s k
theorem fullL_len (s : List UInt8) : (fullL s).length = s.length / 2 := by simp [fullL]
theorem dg_le (c : UInt8) : dg c ≤ 16 := by unfold dg; split <;> (try split) <;> omega

/-- What both say: the bytes and true, or none and false. -/
def Two (w : World) (s : List UInt8) (e : Ending) (w' : World) : Prop :=
  (Good s ∧ ∃ A c, e = .returned (.tuple #[.slice A (fullL s).length c, .bool true]) ∧ Own w' w.heap.size A c (fullL s) ∧ Below w.heap.size w w') ∨
  (¬ Good s ∧ e = .returned (.tuple #[.slice none 0 0, .bool false]) ∧ Below w.heap.size w w')

/-- The two digits joined, as the program joins them. -/
theorem join_digits (x y : Nat) (hx : x < 16) (hy : y < 16) : bits .or .i64 ((x : Int) * 16) (y : Int) = ((16 * x + y : Nat) : Int) := by
  have h := bits_or_i64 (x * 16) y (by omega) (by omega)
  rw [nat_join 4 _ _ (by omega) (by omega)] at h
  rw [show ((x : Int) * 16) = ((x * 16 : Nat) : Int) by simp, h]
  congr 1
  omega

theorem ixs (s : List UInt8) (i : Nat) (hi : i < s.length) (W : World) : (Instr.index 9 (.string { data := s.toArray }) (.int .i64 (i : Int))).run Try.prog W = .ok (.int .u8 ((s.getD i 0).toNat : Int)) W := by
  rw [run_index_string W 9 _ .i64 (i : Int) Try.underlying9]
  have h1 : 0 ≤ (i : Int) ∧ (i : Int) < ((⟨s.toArray⟩ : ByteArray).size : Int) := ⟨by omega, by show (i : Int) < ((s.toArray).size : Int); simp; omega⟩
  rw [dif_pos h1]
  have e : s.getD i 0 = s[i] := by simp [hi]
  rw [e]
  rfl
theorem index_good (c : UInt8) (d : Nat) (h : dg c = d) (hd : d < 16) (w : World) : Calls Try.prog 28 #[.string { data := #[48, 49, 50, 51, 52, 53, 54, 55, 56, 57, 97, 98, 99, 100, 101, 102] }, .int .u8 (c.toNat : Int)] w fun e w' => e = .returned (.int .i64 (d : Nat)) ∧ w = w' := by
  have := index_any c w
  rwa [show ixd c = (d : Int) by unfold ixd; rw [h, if_pos hd]] at this
theorem index_bad (c : UInt8) (h : ¬ dg c < 16) (w : World) : Calls Try.prog 28 #[.string { data := #[48, 49, 50, 51, 52, 53, 54, 55, 56, 57, 97, 98, 99, 100, 101, 102] }, .int .u8 (c.toNat : Int)] w fun e w' => e = .returned (.int .i64 (-1)) ∧ w = w' := by
  have := index_any c w
  rwa [show ixd c = (-1 : Int) by unfold ixd; rw [if_neg h]] at this

set_option maxHeartbeats 2000000 in
theorem unhex_any (s : List UInt8) (n : Nat) (w : World) (hn : s.length = n) (hl : n ≤ 1000000) :
    Calls Try.prog 22 #[.string { data := s.toArray }] w (Two w s) := by
  have Hn := Lib.hid hn
  by_cases h2 : n % 2 = 0
  · obtain ⟨m, rfl⟩ : ∃ m, n = 2 * m := ⟨n / 2, by omega⟩
    have hmk := fun W => mk22 m (by omega) W
    have hq : ((2 * m : Nat) : Int) / 2 = (m : Int) := by omega
    have hr : ((2 * m : Nat) : Int) % 2 = 0 := by omega
    have Hf := Lib.hid (show (fullL s).length = m by rw [fullL_len, Hn.out]; omega)
    go_enter Try.func22, Try.ntmps22
    go_wp2
    clear hmk hq hr h2 hn
    go_loopw [18] (fun i wr => ∃ k : Nat, k ≤ m ∧ i = .int .i64 k ∧ Hid (∀ j, j < k → good s j) ∧ Hid (Row wr w.heap.size (fillP (fullL s) k)) ∧ Hid (Below w.heap.size w wr)) (fun i _ => m - (intOf i).toNat)
    case atStart => exact ⟨0, by omega, rfl, (fun j hj => by omega), (by show Row _ _ _; rw [fillP_zero, Hf.out]; exact Row.new w _), alloc_below _ _⟩
    case round =>
      obtain ⟨k, hk, rfl, Hg, Hr, Hb⟩ := hrel
      by_cases hlt : k < m
      · obtain ⟨x, hx⟩ : ∃ x, s.getD (2 * k) 0 = x := ⟨_, rfl⟩
        obtain ⟨y, hy⟩ : ∃ y, s.getD (2 * k + 1) 0 = y := ⟨_, rfl⟩
        have hix1 : ∀ W : World, (Instr.index 9 (.string { data := s.toArray }) (.int .i64 (2 * (k : Int)))).run Try.prog W = .ok (.int .u8 (x.toNat : Int)) W := fun W => by
          have := ixs s (2 * k) (by rw [Hn.out]; omega) W
          rw [hx] at this
          exact this
        have hix2 : ∀ W : World, (Instr.index 9 (.string { data := s.toArray }) (.int .i64 (2 * (k : Int) + 1))).run Try.prog W = .ok (.int .u8 (y.toNat : Int)) W := fun W => by
          have := ixs s (2 * k + 1) (by rw [Hn.out]; omega) W
          rw [hy] at this
          exact this
        obtain ⟨d1, hd1⟩ : ∃ d, dg x = d := ⟨_, rfl⟩
        obtain ⟨d2, hd2⟩ : ∃ d, dg y = d := ⟨_, rfl⟩
        have Hd1 := Lib.hid hd1
        have Hd2 := Lib.hid hd2
        have Hx := Lib.hid hx
        have Hy := Lib.hid hy
        clear hd1 hd2 hx hy
        by_cases g1 : d1 < 16
        · by_cases g2 : d2 < 16
          · have hkf : k < (fullL s).length := by rw [Hf.out]; exact hlt
            obtain ⟨v, hv⟩ : ∃ v, (fullL s)[k] = v := ⟨_, rfl⟩
            have hvn : v.toNat = 16 * d1 + d2 := by
              rw [← hv]
              simp only [fullL, List.getElem_map, List.getElem_range, val]
              rw [Hx.out, Hy.out, Hd1.out, Hd2.out, UInt8.toNat_ofNat']
              omega
            have hjoin : bits .or .i64 ((d1 : Int) * 16) (d2 : Int) = (v.toNat : Int) := by rw [join_digits d1 d2 g1 g2, hvn]
            have hc := Hr.out.cell k (by rw [fillP_len]; exact hkf)
            have hf := Hr.out.free k
            have hvl := u8_lt v
            have Hgk := Lib.hid (show good s k from ⟨by rw [Hx.out, Hd1.out]; exact g1, by rw [Hy.out, Hd2.out]; exact g2⟩)
            have Hst := Lib.hid (show (fillP (fullL s) k).set k v = fillP (fullL s) (k + 1) by rw [← hv]; exact fillP_set (fullL s) k hkf)
            clear hv hvn
            go_wp2_with fail
            refine (index_good x d1 Hd1.out g1 _).mono ?_
            rintro e w' ⟨rfl, rfl⟩
            go_wp2_with fail
            refine (index_good y d2 Hd2.out g2 _).mono ?_
            rintro e w' ⟨rfl, rfl⟩
            go_wp2
            go_roundw
            case rel =>
              refine ⟨k + 1, by omega, by go_num, (fun j hj => ?_), (by show Row _ _ _; rw [← Hst.out]; exact Hr.out.put k v), Hb.out.setCell (p := ⟨w.heap.size, k, none⟩) (Nat.le_refl _) _⟩
              by_cases e : j = k
              · subst e; exact Hgk.out
              · exact Hg.out j (by omega)
            case measure => simp [intOf]; omega
          · go_wp2_with fail
            refine (index_good x d1 Hd1.out g1 _).mono ?_
            rintro e w' ⟨rfl, rfl⟩
            go_wp2_with fail
            refine (index_bad y (by rw [Hd2.out]; exact g2) _).mono ?_
            rintro e w' ⟨rfl, rfl⟩
            go_wp2
            go_ret2
            refine .inr ⟨fun hG => ?_, rfl, Hb.out⟩
            have := (hG.2 k (by rw [Hn.out]; omega)).2
            rw [Hy.out, Hd2.out] at this
            exact g2 this
        · go_wp2_with fail
          refine (index_bad x (by rw [Hd1.out]; exact g1) _).mono ?_
          rintro e w' ⟨rfl, rfl⟩
          go_wp2_with fail
          refine (index_any y _).mono ?_
          rintro e w' ⟨rfl, rfl⟩
          go_wp2
          go_ret2
          refine .inr ⟨fun hG => ?_, rfl, Hb.out⟩
          have := (hG.2 k (by rw [Hn.out]; omega)).1
          rw [Hx.out, Hd1.out] at this
          exact g1 this
      · obtain rfl : k = m := by omega
        go_wp2
        go_ret2
        refine .inl ⟨⟨by rw [Hn.out]; omega, fun j hj => Hg.out j (by rw [Hn.out] at hj; omega)⟩, some ⟨w.heap.size, 0, none⟩, k, by rw [Hf.out]; rfl, ?_, Hb.out⟩
        have hr := Hr.out
        have e : fillP (fullL s) k = fullL s := by
          have := fillP_all (fullL s)
          rwa [Hf.out] at this
        rw [e] at hr
        have := Own.row hr (Nat.le_refl _) (by rw [Hf.out]; omega)
        rwa [Hf.out] at this
  · have hr : ((n : Int) % 2) = 1 := by omega
    go_enter Try.func22, Try.ntmps22
    go_wp2
    go_ret2
    exact .inr ⟨fun hG => h2 (by rw [← Hn.out]; exact hG.1), rfl, Below.refl _ _⟩
end Go.Proofs.Ytmcdidmfgjmhiaa
