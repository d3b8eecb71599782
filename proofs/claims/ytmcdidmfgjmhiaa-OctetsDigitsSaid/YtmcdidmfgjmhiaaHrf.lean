/-
  Contracts of the reference's Hex and Unhex.
-/
import Derived.Test.YtmcdidmfgjmhiaaUnh
import Derived.Test.YtmcdidmfgjmhiaaGrow
namespace Go.Proofs.Ytmcdidmfgjmhiaa
open Go.RowKit
set_option linter.unusedVariables false
set_option linter.unusedSimpArgs false

theorem sl16 (i : Nat) (hi : i < 16) (W : World) : (Instr.slice 9 (.string { data := #[48, 49, 50, 51, 52, 53, 54, 55, 56, 57, 97, 98, 99, 100, 101, 102] }) (some (.int .i64 (i : Int))) (some (.int .i64 ((i : Int) + 1))) none).run Try.prog W = .ok (.string { data := #[hd i] }) W := by
  rcases i with _ | _ | _ | _ | _ | _ | _ | _ | _ | _ | _ | _ | _ | _ | _ | _ | i
  all_goals first | rfl | (exfalso; omega)
theorem addS (p : List UInt8) (x : UInt8) (hp : p.length ≤ 4294967296) (W : World) : (Op.stringOp .add { data := p.toArray } { data := #[x] }).run Try.prog W = .ok (.string { data := (p ++ [x]).toArray }) W := by
  rw [run_string_add_sum _ _ _ (by show p.toArray.size + 1 ≤ _; simp; omega)]
  congr 2

set_option maxHeartbeats 1000000 in
theorem refHex_any (A : Option Addr) (n c : Nat) (l : List UInt8) (w : World) (hn : l.length = n) (h : Rd w w.heap.size A l) (hl : n ≤ 1000000) :
    Calls Try.prog 25 #[.slice A n c] w fun e w' => e = .returned (.string ⟨(hexL l).toArray⟩) ∧ Below w.heap.size w w' := by
  have Hn := Lib.hid hn
  clear hn
  go_enter Try.func25, Try.ntmps25
  go_wp2
  go_loopw [3, 5] (fun v i wr => ∃ (k : Nat) (S : ByteArray), k ≤ n ∧ i = .int .i64 k ∧ v = .string S ∧ Hid (S = ⟨(hexL (l.take k)).toArray⟩) ∧ Hid (Below w.heap.size w wr)) (fun _ i _ => n - (intOf i).toNat)
  case atStart => exact ⟨0, _, by omega, rfl, rfl, rfl, Below.refl _ _⟩
  case round =>
    obtain ⟨k, S, hk, rfl, rfl, HS, Hb⟩ := hrel
    by_cases hlt : k < n
    · have hkl : k < l.length := by have := Hn.out; omega
      obtain ⟨b, off, rfl, hbb, hc⟩ := (h.below Hb.out).at_ hkl
      obtain ⟨x, hx⟩ : ∃ x, l[k] = x := ⟨_, rfl⟩
      have Hx := Lib.hid hx
      rw [hx] at hc
      have hxl := u8_lt x
      have hpl : (hexL (l.take k)).length ≤ 3000000 := by rw [hexL_len]; simp; omega
      obtain ⟨D1, hD1⟩ : ∃ D : ByteArray, D = { data := #[hd (x.toNat / 16)] } := ⟨_, rfl⟩
      obtain ⟨D2, hD2⟩ : ∃ D : ByteArray, D = { data := #[hd (x.toNat % 16)] } := ⟨_, rfl⟩
      obtain ⟨S1, hS1⟩ : ∃ D : ByteArray, D = { data := (hexL (l.take k) ++ [hd (x.toNat / 16)]).toArray } := ⟨_, rfl⟩
      obtain ⟨S2, hS2⟩ : ∃ D : ByteArray, D = { data := (hexL (l.take k) ++ [hd (x.toNat / 16)] ++ [hd (x.toNat % 16)]).toArray } := ⟨_, rfl⟩
      have hs1 : ∀ W : World, (Instr.slice 9 (.string { data := #[48, 49, 50, 51, 52, 53, 54, 55, 56, 57, 97, 98, 99, 100, 101, 102] }) (some (.int .i64 ((x.toNat : Int) / 16))) (some (.int .i64 ((x.toNat : Int) / 16 + 1))) none).run Try.prog W = .ok (.string D1) W := fun W => by
        rw [hD1]; exact sl16 (x.toNat / 16) (by omega) W
      have hs2 : ∀ W : World, (Instr.slice 9 (.string { data := #[48, 49, 50, 51, 52, 53, 54, 55, 56, 57, 97, 98, 99, 100, 101, 102] }) (some (.int .i64 ((x.toNat : Int) % 16))) (some (.int .i64 ((x.toNat : Int) % 16 + 1))) none).run Try.prog W = .ok (.string D2) W := fun W => by
        rw [hD2]; exact sl16 (x.toNat % 16) (by omega) W
      have ha1 : ∀ W : World, (Op.stringOp .add S D1).run Try.prog W = .ok (.string S1) W := fun W => by
        rw [HS.out, hD1, hS1]; exact addS _ _ (by omega) W
      have ha2 : ∀ W : World, (Op.stringOp .add S1 D2).run Try.prog W = .ok (.string S2) W := fun W => by
        rw [hD2, hS1, hS2]; exact addS _ _ (by simp; omega) W
      have HS2 := Lib.hid hS2
      clear hx h hD1 hD2 hS1 hS2
      go_wp2
      go_quiet (fail)
      clear hc
      go_wp2
      go_quiet (fail)
      clear hs1 hs2 ha1 ha2
      go_wp2
      go_roundw
      case rel =>
        refine ⟨k + 1, S2, by omega, by go_num, rfl, ?_, below_drewN Hb.out _⟩
        show S2 = _
        rw [HS2.out, ← Hx.out, List.append_assoc, List.singleton_append, hexL_take l k hkl]
      case measure => simp [intOf]; omega
    · go_wp2
      go_ret
      have hS := HS.out
      rw [List.take_of_length_le (by have := Hn.out; omega)] at hS
      refine ⟨?_, Hb.out⟩
      show Ending.returned (.string S) = _
      rw [hS]
theorem digit_at (c : UInt8) (d : Nat) (h : dg c = d) (w : World) : Calls Try.prog 29 #[.int .u8 (c.toNat : Int)] w fun e w' => e = .returned (.int .i64 (d : Nat)) ∧ w = w' := by
  subst h; exact digit_any c w

set_option maxHeartbeats 2000000 in
theorem refUnhex_any (s : List UInt8) (n : Nat) (w : World) (hn : s.length = n) (hl : n ≤ 1000000) :
    Calls Try.prog 23 #[.string { data := s.toArray }] w (Two w s) := by
  have Hn := Lib.hid hn
  have Hf := Lib.hid (show (fullL s).length = n / 2 by rw [fullL_len, Hn.out])
  go_enter Try.func23, Try.ntmps23
  go_wp2
  go_loopw [4, 5] (fun v i wr => ∃ (k : Nat) (A : Option Addr) (c : Nat), 2 * k ≤ n ∧ i = .int .i64 (2 * (k : Int)) ∧ v = .slice A k c ∧ Hid (∀ j, j < k → good s j) ∧ Hid (Own wr w.heap.size A c ((fullL s).take k)) ∧ Hid (Below w.heap.size w wr)) (fun _ i _ => n - (intOf i).toNat)
  case atStart => exact ⟨0, none, 0, by omega, rfl, rfl, (fun j hj => by omega), Own.nil _ _, Below.refl _ _⟩
  case round =>
    obtain ⟨k, A, c, hk, rfl, rfl, Hg, Ho, Hb⟩ := hrel
    by_cases hlt : 2 * k + 1 < n
    · obtain ⟨x, hx⟩ : ∃ x, s.getD (2 * k) 0 = x := ⟨_, rfl⟩
      obtain ⟨y, hy⟩ : ∃ y, s.getD (2 * k + 1) 0 = y := ⟨_, rfl⟩
      have hix1 : ∀ W : World, (Instr.index 9 (.string { data := s.toArray }) (.int .i64 (2 * (k : Int)))).run Try.prog W = .ok (.int .u8 (x.toNat : Int)) W := fun W => by
        have := ixs s (2 * k) (by rw [Hn.out]; omega) W
        rw [hx] at this
        exact this
      have hix2 : ∀ W : World, (Instr.index 9 (.string { data := s.toArray }) (.int .i64 (2 * (k : Int) + 1))).run Try.prog W = .ok (.int .u8 (y.toNat : Int)) W := fun W => by
        have := ixs s (2 * k + 1) (by rw [Hn.out]; omega) W
        rw [hy] at this
        exact this
      obtain ⟨d1, hd1⟩ : ∃ d, dg x = d := ⟨_, rfl⟩
      obtain ⟨d2, hd2⟩ : ∃ d, dg y = d := ⟨_, rfl⟩
      have b1 : d1 ≤ 16 := by rw [← hd1]; exact dg_le x
      have b2 : d2 ≤ 16 := by rw [← hd2]; exact dg_le y
      have Hd1 := Lib.hid hd1
      have Hd2 := Lib.hid hd2
      have Hx := Lib.hid hx
      have Hy := Lib.hid hy
      clear hd1 hd2 hx hy
      have hw12 : IntKind.i64.wrap (2 * (k : Int) + 1) = 2 * (k : Int) + 1 := IntWalk.i64_in _ (by omega)
      go_wp2
      refine rest_start (by kernel_rfl) fun v2 hv2 => ?_
      replace Ho := Lib.hid (Ho.out.grow hv2)
      replace Hb := Lib.hid (Below.trans Hb.out (hv2.mono Hb.out.size))
      clear hv2
      refine rest_take (i := 0) rfl (by kernel_rfl) (by kernel_rfl) (by kernel_rfl) (by rfl) (fun w' hg => by go_simp; try with_reducible rfl) ?_
      try simp only [Act.put, List.setIfInBounds_toArray, List.set_cons_zero, List.set_cons_succ]
      refine rest_take (i := 1) rfl (by kernel_rfl) (by kernel_rfl) (by kernel_rfl) (by rfl) (fun w' hg => by go_simp; try with_reducible rfl) ?_
      try simp only [Act.put, List.setIfInBounds_toArray, List.set_cons_zero, List.set_cons_succ]
      refine rest_take (i := 2) rfl (by kernel_rfl) (by kernel_rfl) (by kernel_rfl) (by rfl) (fun w' hg => by go_simp; try with_reducible rfl) ?_
      try simp only [Act.put, List.setIfInBounds_toArray, List.set_cons_zero, List.set_cons_succ]
      refine rest_take (i := 4) rfl (by kernel_rfl) (by kernel_rfl) (by kernel_rfl) (by rfl) (fun w' hg => by go_simp; try with_reducible rfl) ?_
      try simp only [Act.put, List.setIfInBounds_toArray, List.set_cons_zero, List.set_cons_succ]
      refine rest_take (i := 5) rfl (by kernel_rfl) (by kernel_rfl) (by kernel_rfl) (by rfl) (fun w' hg => by go_simp; try with_reducible rfl) ?_
      try simp only [Act.put, List.setIfInBounds_toArray, List.set_cons_zero, List.set_cons_succ]
      refine rest_take (i := 6) rfl (by kernel_rfl) (by kernel_rfl) (by kernel_rfl) (by rfl) (fun w' hg => by go_simp; try with_reducible rfl) ?_
      try simp only [Act.put, List.setIfInBounds_toArray, List.set_cons_zero, List.set_cons_succ]
      refine rest_take (i := 7) rfl (by kernel_rfl) (by kernel_rfl) (by kernel_rfl) (by rfl) (fun w' hg => by go_simp; try with_reducible rfl) ?_
      try simp only [Act.put, List.setIfInBounds_toArray, List.set_cons_zero, List.set_cons_succ]
      refine rest_lone (i := 3) rfl (by kernel_rfl) (by rfl) (fun K hK => ?_)
      go_simp
      refine (digit_at x d1 Hd1.out _).mono ?_
      rintro e v3 ⟨rfl, rfl⟩
      refine hK.out _ _ (Grown.refl _) ?_
      clear hK K
      try simp only [Act.put, List.setIfInBounds_toArray, List.set_cons_zero, List.set_cons_succ]
      refine rest_lone (i := 8) rfl (by kernel_rfl) (by rfl) (fun K hK => ?_)
      go_simp
      refine (digit_at y d2 Hd2.out _).mono ?_
      rintro e v4 ⟨rfl, rfl⟩
      refine hK.out _ _ (Grown.refl _) ?_
      clear hK K
      try simp only [Act.put, List.setIfInBounds_toArray, List.set_cons_zero, List.set_cons_succ]
      refine rest_take (i := 9) rfl (by kernel_rfl) (by kernel_rfl) (by kernel_rfl) (by rfl) (fun w' hg => by go_simp; try with_reducible rfl) ?_
      try simp only [Act.put, List.setIfInBounds_toArray, List.set_cons_zero, List.set_cons_succ]
      refine rest_take (i := 10) rfl (by kernel_rfl) (by kernel_rfl) (by kernel_rfl) (by rfl) (fun w' hg => by go_simp; try with_reducible rfl) ?_
      try simp only [Act.put, List.setIfInBounds_toArray, List.set_cons_zero, List.set_cons_succ]
      refine rest_done (by kernel_rfl) ?_
      clear hix1 hix2 hw12
      by_cases g1 : d1 < 16
      · by_cases g2 : d2 < 16
        · have hkf : k < (fullL s).length := by rw [Hf.out]; omega
          obtain ⟨v, hv⟩ : ∃ v, (fullL s)[k] = v := ⟨_, rfl⟩
          have hvn : v.toNat = 16 * d1 + d2 := by
            rw [← hv]
            simp only [fullL, List.getElem_map, List.getElem_range, val]
            rw [Hx.out, Hy.out, Hd1.out, Hd2.out, UInt8.toNat_ofNat']
            omega
          have hvi : 16 * (d1 : Int) + (d2 : Int) = (v.toNat : Int) := by rw [hvn]; omega
          have hvl := u8_lt v
          have Hgk := Lib.hid (show good s k from ⟨by rw [Hx.out, Hd1.out]; exact g1, by rw [Hy.out, Hd2.out]; exact g2⟩)
          have Hst := Lib.hid (show (fullL s).take k ++ [v] = (fullL s).take (k + 1) by rw [← hv]; exact (take_snoc (fullL s) k hkf).symm)
          have Htk := Lib.hid (show ((fullL s).take k).length = k by simp; omega)
          have Htk1 := Lib.hid (show ((fullL s).take (k + 1)).length = k + 1 by simp; omega)
          have hB := Hb.out.size
          have Hkf := Lib.hid hkf
          clear hv hvn hkf
          have e1 : ((d1 : Int) == 16) = false := by rw [beq_eq_false_iff_ne]; omega
          have e2 : ((d2 : Int) == 16) = false := by rw [beq_eq_false_iff_ne]; omega
          go_wp2_with (first
            | (at_builtin
               refine wpList_app rfl (.tmp 30) (.tmp 36) rfl (base := w.heap.size) (l := (fullL s).take k) (by rw [Htk.out]; rfl) (Ho.out.grow (alloc_below v2 _)) (l2 := [v]) rfl ((Row.new v2 [v]).rd (Nat.lt_succ_self _)) (by rw [Htk.out]; simp; omega) (by simp; omega) ((fullL s).take (k + 1)) Hst.out ?_
               intro A3 c3 w3 ho3 hb3
               rw [Htk1.out]
               have Ho3 := Lib.hid ho3
               have Hb3 := Lib.hid hb3
               clear ho3 hb3))
          go_roundw
          case rel =>
            refine ⟨k + 1, A3, c3, by omega, ?_, rfl, (fun j hj => ?_), Ho3.out, (Hb.out.alloc hB _).trans Hb3.out⟩
            · apply int_eq; omega
            · by_cases e : j = k
              · subst e; exact Hgk.out
              · exact Hg.out j (by omega)
          case measure => simp [intOf]; omega
        · obtain rfl : d2 = 16 := by omega
          go_wp2
          go_ret2
          refine .inr ⟨fun hG => ?_, rfl, Hb.out⟩
          have := (hG.2 k (by rw [Hn.out]; omega)).2
          rw [Hy.out, Hd2.out] at this
          exact g2 this
      · obtain rfl : d1 = 16 := by omega
        go_wp2
        go_ret2
        refine .inr ⟨fun hG => ?_, rfl, Hb.out⟩
        have := (hG.2 k (by rw [Hn.out]; omega)).1
        rw [Hx.out, Hd1.out] at this
        exact g1 this
    · by_cases h2 : n = 2 * k
      · have hr : ((n : Int) % 2) = 0 := by omega
        have H2 := Lib.hid h2
        clear h2
        go_wp2
        go_ret2
        refine .inl ⟨⟨by rw [Hn.out, H2.out]; omega, fun j hj => Hg.out j (by rw [Hn.out] at hj; have := H2.out; omega)⟩, A, c, ?_, ?_, Hb.out⟩
        · rw [Hf.out, show n / 2 = k by have := H2.out; omega]; rfl
        · have ho := Ho.out
          rwa [List.take_of_length_le (by rw [Hf.out]; have := H2.out; omega)] at ho
      · have hr : ((n : Int) % 2) = 1 := by omega
        go_wp2
        go_ret2
        exact .inr ⟨fun hG => by have h3 := hG.1; rw [Hn.out] at h3; omega, rfl, Hb.out⟩
end Go.Proofs.Ytmcdidmfgjmhiaa
