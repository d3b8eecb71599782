/-
  Contract of base64's Encode.
-/
import Derived.Test.YtjpjodjdciamhaaBec
namespace Go.Proofs.Ytjpjodjdciamhaa
open Go.RowKit
set_option linter.unusedVariables false
set_option linter.unusedSimpArgs false

def sliceLen : Value → Nat
  | .slice _ n _ => n
  | _ => 0
/-- Where Encode stands after the bytes p: q groups written, hh bytes held. -/
structure EncSt (w wr : World) (g : Nat) (p : List UInt8) (q hh : Nat) (A1 : Option Addr) (c1 : Nat) (x y z : UInt8) : Prop where
  len : p.length = 3 * q + hh
  grp : [x, y, z] = p.drop (3 * q) ++ List.replicate (3 - hh) 0
  own : Own wr w.heap.size A1 c1 (encL (p.take (3 * q)))
  row : wr.heap[g]? = some (.cells (g3 x y z) 35 (0, 0))
  below : Below w.heap.size w wr
  base : w.heap.size ≤ g
theorem mk0 (k : Nat) (hk : k ≤ 4294967296) (w : World) :
    (Instr.makeSlice 24 (.int .i64 0) (.int .i64 (k : Int))).run Try.prog w = .ok (.slice (some ⟨w.heap.size, 0, none⟩) 0 k) (w.alloc (.cells (bvs (List.replicate k 0)).toArray 5)) := by
  obtain ⟨i0, hi, hz0, hz1, hz2⟩ := info_parts info5
  have hr := run_make (P := Try.prog) w 24 5 i0 _ Try.underlying24 hi hz0 .i64 .i64 0 (k : Int) (by omega) (by omega) (by rw [hz2]; omega) (by omega)
  simp only [Int.toNat_natCast, hz1, Nat.mul_one] at hr
  rw [hr]
  have : madeCells (Value.int IntKind.u8 0).cells k = (bvs (List.replicate k 0)).toArray := by
    apply Array.toList_inj.1
    show (madeCells #[_] k).toList = _
    rw [toList_madeCells_one]
    simp [bvs, bv]
  rw [this]
  rfl
theorem lenI_nat (m : Nat) (h : m ≤ 100000) : ∃ L : Nat, lenI (m : Int) = (L : Int) ∧ L ≤ 200000 := by
  refine ⟨(lenI (m : Int)).toNat, ?_, ?_⟩ <;> unfold lenI <;> split <;> (try split) <;> omega

theorem cut_from (W : World) (A : Option Addr) (m c d : Nat) (h : d ≤ m) : (Instr.slice 24 (.slice A m c) (some (.int .i64 (d : Int))) none none).run Try.prog W = .ok (.slice (if c = d then A else A.map (·.add d)) (m - d) (c - d)) W := by
  obtain ⟨i0, hi, hz0, hz1, hz2⟩ := info_parts info5
  have he : Try.prog.elem 24 = 5 := by kernel_rfl
  rw [run_slice_l W 24 A m c (by rw [he]; exact Try.underlying24) .i64 (d : Int) (by omega) (by omega), he]
  simp [sizeOf, typeInfo, hi, hz1, sliced, Result.andThen]
theorem enc_start (w : World) (L : Nat) (hL : L ≤ 4294967296) {ob : Obj} (hob : ob = Obj.cells (bvs (List.replicate L 0)).toArray 5) :
    EncSt w ((w.alloc ob).alloc (.cells #[.int .u8 0, .int .u8 0, .int .u8 0] 35)) (w.heap.size + 1) [] 0 0 (some ⟨w.heap.size, 0, none⟩) L 0 0 0 := by
  subst hob
  have hB : Below w.heap.size w ((w.alloc (Obj.cells (bvs (List.replicate L 0)).toArray 5)).alloc (.cells #[.int .u8 0, .int .u8 0, .int .u8 0] 35)) := ((Below.refl _ _).alloc (Nat.le_refl _) _).alloc (by simp) _
  refine ⟨rfl, rfl, ?_, ?_, hB, by omega⟩
  · have hr : Row (w.alloc (Obj.cells (bvs (List.replicate L 0)).toArray 5)) w.heap.size (List.replicate L 0) := Row.new w _
    have hr2 := hr.alloc (.cells #[.int .u8 0, .int .u8 0, .int .u8 0] 35)
    refine ⟨by simp [enc_nil, bvs], .inr ⟨w.heap.size, L, _, rfl, Nat.le_refl _, hr2, by simp [enc_nil], by unfold maxLen; omega, by simp [bvs], by simp [enc_nil, bvs]⟩⟩
  · have := heap_alloc_new (w.alloc (Obj.cells (bvs (List.replicate L 0)).toArray 5)) (.cells #[.int .u8 0, .int .u8 0, .int .u8 0] 35)
    simpa [g3] using this
theorem EncSt.elen {w wr : World} {g : Nat} {p : List UInt8} {q hh : Nat} {A1 : Option Addr} {c1 : Nat} {x y z : UInt8} (h : EncSt w wr g p q hh A1 c1 x y z) : (encL (p.take (3 * q))).length = 4 * q := by
  rw [encL_len, List.length_take, h.len]; omega
theorem EncSt.cut {w wr : World} {g : Nat} {p : List UInt8} {q hh : Nat} {A1 : Option Addr} {c1 : Nat} {x y z : UInt8} (h : EncSt w wr g p q hh A1 c1 x y z) : encL p = encL (p.take (3 * q)) ++ encL (p.drop (3 * q)) := by
  rw [← enc_app q _ _ (by rw [List.length_take, h.len]; omega), List.take_append_drop]
theorem EncSt.fin0 {w wr : World} {g : Nat} {p : List UInt8} {q : Nat} {A1 : Option Addr} {c1 : Nat} {x y z : UInt8} (h : EncSt w wr g p q 0 A1 c1 x y z) : encL (p.take (3 * q)) ++ [] = encL p := by
  have : p.drop (3 * q) = [] := List.eq_nil_of_length_eq_zero (by rw [List.length_drop, h.len]; omega)
  rw [h.cut, this, enc_nil]
theorem EncSt.fin1 {w wr : World} {g : Nat} {p : List UInt8} {q : Nat} {A1 : Option Addr} {c1 : Nat} {x y z : UInt8} (h : EncSt w wr g p q 1 A1 c1 x y z) : encL (p.take (3 * q)) ++ [sg (x.toNat / 4), sg (x.toNat % 4 * 16 + y.toNat / 16)] = encL p := by
  have hl : (p.drop (3 * q)).length = 1 := by rw [List.length_drop, h.len]; omega
  obtain ⟨u, hu⟩ := List.length_eq_one_iff.1 hl
  have hg := h.grp
  rw [hu] at hg
  simp only [List.cons_append, List.nil_append, show List.replicate (3 - 1) (0 : UInt8) = [0, 0] from rfl, List.cons.injEq, and_true] at hg
  obtain ⟨rfl, rfl, rfl⟩ := hg
  rw [h.cut, hu, enc_one]
  simp
theorem EncSt.fin2 {w wr : World} {g : Nat} {p : List UInt8} {q : Nat} {A1 : Option Addr} {c1 : Nat} {x y z : UInt8} (h : EncSt w wr g p q 2 A1 c1 x y z) : encL (p.take (3 * q)) ++ [sg (x.toNat / 4), sg (x.toNat % 4 * 16 + y.toNat / 16), sg (y.toNat % 16 * 4 + z.toNat / 64)] = encL p := by
  have hl : (p.drop (3 * q)).length = 2 := by rw [List.length_drop, h.len]; omega
  obtain ⟨u, v, hu⟩ : ∃ u v, p.drop (3 * q) = [u, v] := by
    match p.drop (3 * q), hl with
    | [u, v], _ => exact ⟨u, v, rfl⟩
  have hg := h.grp
  rw [hu] at hg
  simp only [List.cons_append, List.nil_append, show List.replicate (3 - 2) (0 : UInt8) = [0] from rfl, List.cons.injEq, and_true] at hg
  obtain ⟨rfl, rfl, rfl⟩ := hg
  rw [h.cut, hu, enc_two]
  simp
/-- Where Encode stands inside a piece. -/
def EncIn (w wr : World) (T : List UInt8) (o hd b : Value) : Prop :=
  ∃ (p lb : List UInt8) (q hh : Nat) (A1 : Option Addr) (c1 : Nat) (x y z : UInt8) (A2 : Option Addr) (m c2 : Nat) (hI : Int), hd = .int .i64 hI ∧ hI = (hh : Int) ∧ hh < 3 ∧ q ≤ 20000 ∧ o = .slice A1 (4 * q) c1 ∧ b = .slice A2 m c2 ∧ m ≤ c2 ∧ Hid (lb.length = m) ∧ Hid (Rd wr w.heap.size A2 lb) ∧ Hid (p ++ lb = T) ∧ Hid (EncSt w wr (w.heap.size + 1) p q hh A1 c1 x y z)
theorem enc_full {w wr w3 w5 : World} {T p lb : List UInt8} {q hh : Nat} {A1 A2 A3 A5 : Option Addr} {c1 c2 c5 m d : Nat} {x y z x' y' z' : UInt8} (hst : EncSt w wr (w.heap.size + 1) p q hh A1 c1 x y z)
    (hlb : lb.length = m) (hrd : Rd wr w.heap.size A2 lb) (hp : p ++ lb = T) (hmc : m ≤ c2) (he : [x', y', z'] = [x, y, z].take hh ++ (lb.take d ++ [x, y, z].drop (hh + d))) (hbut : But (w.heap.size + 1) wr w3)
    (hA3 : A3 = (if c2 = d then A2 else A2.map (·.add d))) (hd : hh + d = 3) (hdm : d ≤ m) (hq : q < 20000)
    (ho5 : Own w5 w.heap.size A5 c5 (encL (p.take (3 * q)) ++ [sg (x'.toNat / 4), sg (x'.toNat % 4 * 16 + y'.toNat / 16), sg (y'.toNat % 16 * 4 + z'.toNat / 64), sg (z'.toNat % 64)])) (hb5 : Below w.heap.size w3 w5)
    (hg5 : w5.heap[w.heap.size + 1]? = some (.cells (g3 x' y' z') 35 (0, 0))) :
    EncIn w (((w5.setCell ⟨w.heap.size + 1, 0, none⟩ (.int .u8 0)).setCell ⟨w.heap.size + 1, 1, none⟩ (.int .u8 0)).setCell ⟨w.heap.size + 1, 2, none⟩ (.int .u8 0)) T (.slice A5 (4 * q + 4) c5) (.int .i64 0) (.slice A3 (m - d) (c2 - d)) := by
  have hbut5 : But (w.heap.size + 1) w5 (((w5.setCell ⟨w.heap.size + 1, 0, none⟩ (.int .u8 0)).setCell ⟨w.heap.size + 1, 1, none⟩ (.int .u8 0)).setCell ⟨w.heap.size + 1, 2, none⟩ (.int .u8 0)) :=
    ((But.setCell w5 _ 0 _).trans (But.setCell _ _ 1 _)).trans (But.setCell _ _ 2 _)
  have hbel : Below w.heap.size w (((w5.setCell ⟨w.heap.size + 1, 0, none⟩ (.int .u8 0)).setCell ⟨w.heap.size + 1, 1, none⟩ (.int .u8 0)).setCell ⟨w.heap.size + 1, 2, none⟩ (.int .u8 0)) :=
    ((hst.below.trans (hbut.below (by omega))).trans hb5).trans (hbut5.below (by omega))
  have hlp : (p ++ lb.take d).length = 3 * (q + 1) := by rw [List.length_append, hst.len, List.length_take]; omega
  refine ⟨p ++ lb.take d, lb.drop d, q + 1, 0, A5, c5, 0, 0, 0, A3, m - d, c2 - d, 0, rfl, rfl, by omega, by omega, ?_, rfl, by omega, ?_, ?_, ?_, ?_⟩
  · rw [show 4 * (q + 1) = 4 * q + 4 by omega]
  · show _ = _; rw [List.length_drop, hlb]
  · show Rd _ _ _ _
    have h1 := hrd.below (((hbut.below (by omega)).trans hb5).trans (hbut5.below (by omega)))
    have h2 := h1.cut (k := d) (cap := c2) (by omega)
    rw [hA3]
    exact h2
  · show _ = _; rw [List.append_assoc, List.take_append_drop, hp]
  · show EncSt _ _ _ _ _ _ _ _ _ _ _
    refine ⟨by omega, ?_, ?_, ?_, hbel, by omega⟩
    · rw [List.drop_of_length_le (by omega)]; rfl
    · rw [List.take_of_length_le (by omega)]
      have e : encL (p ++ lb.take d) = encL (p.take (3 * q)) ++ [sg (x'.toNat / 4), sg (x'.toNat % 4 * 16 + y'.toNat / 16), sg (y'.toNat % 16 * 4 + z'.toNat / 64), sg (z'.toNat % 64)] := by
        have e1 : p ++ lb.take d = p.take (3 * q) ++ [x', y', z'] := by
          have hdl : (p.drop (3 * q)).length = hh := by rw [List.length_drop, hst.len]; omega
          have e2 : [x, y, z].take hh = p.drop (3 * q) := by rw [hst.grp, ← hdl, List.take_left]
          have e3 : [x, y, z].drop (hh + d) = [] := by rw [hd]; rfl
          rw [he, e2, e3, List.append_nil, ← List.append_assoc, List.take_append_drop]
        rw [e1, enc_app q _ _ (by rw [List.length_take, hst.len]; omega), enc_three, enc_nil]
      rw [e]
      exact hbut5.own hg5 (by decide) ho5
    · have r1 := heap_setCell_same w5 (w.heap.size + 1) 0 _ _ (.int .u8 0) hg5
      have r2 := heap_setCell_same _ (w.heap.size + 1) 1 _ _ (.int .u8 0) r1
      have r3 := heap_setCell_same _ (w.heap.size + 1) 2 _ _ (.int .u8 0) r2
      exact r3
theorem enc_part {w wr w3 : World} {T p lb : List UInt8} {q hh : Nat} {A1 A3 : Option Addr} {c1 c3 m : Nat} {x y z x' y' z' : UInt8} (hst : EncSt w wr (w.heap.size + 1) p q hh A1 c1 x y z)
    (hlb : lb.length = m) (hp : p ++ lb = T) (he : [x', y', z'] = [x, y, z].take hh ++ (lb.take m ++ [x, y, z].drop (hh + m))) (hbut : But (w.heap.size + 1) wr w3)
    (hg3 : w3.heap[w.heap.size + 1]? = some (.cells (g3 x' y' z') 35 (0, 0))) {h2 : Int} (hh2 : ((hh + m : Nat) : Int) = h2) (h3 : hh + m < 3) (hq : q ≤ 20000) {n0 : Nat} (hn0 : n0 = 0) :
    EncIn w w3 T (.slice A1 (4 * q) c1) (.int .i64 h2) (.slice A3 n0 c3) := by
  subst hn0
  have hlp : (p ++ lb).length = 3 * q + (hh + m) := by rw [List.length_append, hst.len, hlb]; omega
  refine ⟨p ++ lb, [], q, hh + m, A1, c1, x', y', z', A3, 0, c3, h2, rfl, hh2.symm, h3, hq, rfl, rfl, by omega, rfl, Rd.nil _ _ _, ?_, ?_⟩
  · show _ = _; rw [List.append_nil, hp]
  · show EncSt _ _ _ _ _ _ _ _ _ _ _
    have hdl : (p.drop (3 * q)).length = hh := by rw [List.length_drop, hst.len]; omega
    have ht : (p ++ lb).take (3 * q) = p.take (3 * q) := by rw [List.take_append_of_le_length (by rw [hst.len]; omega)]
    have hdp : (p ++ lb).drop (3 * q) = p.drop (3 * q) ++ lb := by rw [List.drop_append_of_le_length (by rw [hst.len]; omega)]
    refine ⟨hlp, ?_, ?_, hg3, hst.below.trans (hbut.below (by omega)), by omega⟩
    · have e2 : [x, y, z].take hh = p.drop (3 * q) := by rw [hst.grp, ← hdl, List.take_left]
      have e3 : [x, y, z].drop (hh + m) = List.replicate (3 - (hh + m)) 0 := by
        rw [hst.grp, List.drop_append, List.drop_of_length_le (by omega), hdl, List.nil_append, List.drop_replicate]
        congr 1
        omega
      rw [he, hdp, e2, e3, List.take_of_length_le (by omega), List.append_assoc]
    · rw [ht]
      exact hbut.own hst.row (by decide) hst.own

set_option maxHeartbeats 4000000 in
theorem encode_dev (A : Option Addr) (n c : Nat) (ls : List (List UInt8)) (w : World) (h : RdL w w.heap.size A ls) (hn : ls.length = n) (hl : n ≤ 100000) (hf : ls.flatten.length ≤ 50000) :
    Calls Try.prog 9 #[.slice A n c] w fun e w' => e = .returned (.string { data := (encL ls.flatten).toArray }) ∧ Below w.heap.size w w' := by
  have Hn := Lib.hid hn
  have Hf := Lib.hid hf
  clear hn hf
  go_enter Try.func9, Try.ntmps9
  go_wp2
  go_loop [3, 14] (fun t i => ∃ k m : Nat, k ≤ n ∧ i = .int .i64 (k : Int) ∧ t = .int .i64 (m : Int) ∧ m ≤ 50000 ∧ Hid (m = (ls.take k).flatten.length)) (fun _ i => n - (intOf i).toNat)
  case atStart => exact ⟨0, 0, by omega, rfl, rfl, by omega, rfl⟩
  case round =>
    obtain ⟨k, m, hk, rfl, rfl, hm, Hm⟩ := hrel
    by_cases hlt : k < n
    · have hkl : k < ls.length := by have := Hn.out; omega
      obtain ⟨b1, o1, B1, d1, rfl, hb1, hc1, hd1, hr1⟩ := h.at_ hkl
      obtain ⟨j, hj⟩ : ∃ j, j = ls[k].length := ⟨_, rfl⟩
      rw [← hj] at hc1
      have Hm2 := Lib.hid (show m + j = (ls.take (k + 1)).flatten.length by rw [← flat_take ls k hkl, List.length_append, ← Hm.out, hj])
      have hm2 : m + j ≤ 50000 := by rw [Hm2.out]; exact Nat.le_trans (flat_le ls (k + 1)) Hf.out
      clear hr1 hd1 hj h
      go_wp2
      go_round
      case rel => exact ⟨k + 1, m + j, by omega, by go_num, by go_num, hm2, Hm2.out⟩
      case measure => simp [intOf]; omega
    · obtain rfl : n = k := by omega
      obtain ⟨L, hL, hL2⟩ := lenI_nat m (by omega)
      have HL := Lib.hid hL
      have Hmk := fun W => mk0 L (by omega) W
      obtain ⟨ob, hob⟩ : ∃ ob, ob = Obj.cells (bvs (List.replicate L 0)).toArray 5 := ⟨_, rfl⟩
      rw [← hob] at Hmk
      have Hob := Lib.hid hob
      clear hob hL
      go_wp2_with fail
      refine (len_any (m : Int) _ (by omega) (by omega)).mono ?_
      rintro e w5 ⟨rfl, rfl⟩
      rw [HL.out]
      go_wp2
      go_loopw [6, 8, 28] (fun o hd i wr => ∃ (k q hh : Nat) (A1 : Option Addr) (c1 : Nat) (x y z : UInt8) (hI : Int), k ≤ n ∧ i = .int .i64 (k : Int) ∧ hd = .int .i64 hI ∧ hI = (hh : Int) ∧ hh < 3 ∧ q ≤ 20000 ∧ o = .slice A1 (4 * q) c1 ∧ Hid (EncSt w wr (w.heap.size + 1) (ls.take k).flatten q hh A1 c1 x y z)) (fun _ _ i _ => n - (intOf i).toNat)
      case atStart => exact ⟨0, 0, 0, _, L, 0, 0, 0, 0, by omega, rfl, rfl, rfl, by omega, by omega, rfl, enc_start w L (by omega) Hob.out⟩
      case round =>
        obtain ⟨k, q, hh, A1, c1, x, y, z, hI, hk, rfl, rfl, hhI, hh3, hq, rfl, Hst⟩ := hrel
        by_cases hlt : k < n
        · have hkl : k < ls.length := by have := Hn.out; omega
          obtain ⟨b1, o1, B1, d1, rfl, hb1, hc1, hd1, hr1⟩ := (h.keep Hst.out.below).at_ hkl
          obtain ⟨j, hj⟩ : ∃ j, j = ls[k].length := ⟨_, rfl⟩
          rw [← hj] at hc1 hd1
          have Hr1 := Lib.hid hr1
          have Hj := Lib.hid hj.symm
          have Hfl := Lib.hid (flat_take ls k hkl)
          clear h hj hr1
          go_wp2
          clear hc1
          go_loopw [6, 8, 10] (fun o hd b wr => EncIn w wr (ls.take (k + 1)).flatten o hd b) (fun _ _ b _ => sliceLen b)
          case atStart => exact ⟨_, _, q, hh, A1, c1, x, y, z, B1, j, d1, hI, rfl, hhI, hh3, hq, rfl, rfl, hd1, Hj.out, Hr1.out, Hfl.out, Hst.out⟩
          case round =>
            clear Hst Hr1 Hj Hfl hd1 hb1 Hmk Hob HL Hm hh3 hq hhI
            obtain ⟨p, lb, q, hh, A1, c1, x, y, z, A2, m, c2, hI, rfl, hhI, hh3, hq, rfl, rfl, hmc, Hlb, Hrd, Hp, Hst⟩ := hrel
            by_cases hm0 : 0 < m
            · have hq2 : q < 20000 := by
                have h1 := flat_le ls (k + 1)
                have h2 := Hst.out.len
                have h3 := Hf.out
                have h4 := congrArg List.length Hp.out
                rw [List.length_append] at h4
                omega
              have hcase : (hh = 0 ∧ 3 ≤ m) ∨ (hh = 1 ∧ 2 ≤ m) ∨ (hh = 2 ∧ 1 ≤ m) ∨ (hh = 0 ∧ m = 1) ∨ (hh = 0 ∧ m = 2) ∨ (hh = 1 ∧ m = 1) := by omega
              clear hh3
              rcases hcase with ⟨rfl, hmd⟩ | ⟨rfl, hmd⟩ | ⟨rfl, hmd⟩ | ⟨rfl, rfl⟩ | ⟨rfl, rfl⟩ | ⟨rfl, rfl⟩
              · -- hh = 0, 3 bytes fill the group
                obtain rfl : hI = 0 := by omega
                clear hhI
                obtain ⟨A3, hA3⟩ : ∃ A3, A3 = (if c2 = 3 then A2 else A2.map (·.add 3)) := ⟨_, rfl⟩
                have hsl : ∀ W : World, (Instr.slice 24 (.slice A2 m c2) (some (.int .i64 3)) none none).run Try.prog W = .ok (.slice A3 (m - 3) (c2 - 3)) W := fun W => by rw [hA3]; exact cut_from W A2 m c2 3 (by omega)
                have HA3 := Lib.hid hA3
                clear hA3
                go_wp2_with (first
                  | (refine wpList_copyG rfl (.tmp 36) (.tmp 37) rfl (hh := 0) rfl rfl Hst.out.row Hrd.out Hlb.out hm0 rfl 3 (by omega) ?_
                     intro w3 x' y' z' he hg3 hbut
                     have Hg3 := Lib.hid hg3
                     have He := Lib.hid he
                     have Hbut := Lib.hid hbut
                     have hc0 : w3.cell? ⟨w.heap.size + 1, 0, none⟩ = some (.int .u8 (x'.toNat : Int)) := cell_of_row w3 _ 0 _ _ _ hg3
                     have hc1 : w3.cell? ⟨w.heap.size + 1, 1, none⟩ = some (.int .u8 (y'.toNat : Int)) := cell_of_row w3 _ 1 _ _ _ hg3
                     have hc2 : w3.cell? ⟨w.heap.size + 1, 2, none⟩ = some (.int .u8 (z'.toNat : Int)) := cell_of_row w3 _ 2 _ _ _ hg3
                     clear hg3 he hbut))
                clear hc0 hc1 hc2
                refine (ag3 x' y' z' A1 (4 * q) c1 w.heap.size (encL (p.take (3 * q))) w3 Hst.out.elen (Hbut.out.own Hst.out.row (by decide) Hst.out.own) (by have := Hbut.out.size; have := Hst.out.below.size; omega) (by omega)).mono ?_
                rintro e w5 ⟨A5, c5, rfl, ho5, hb5, hk5⟩
                have hg5 := hk5 _ _ _ _ (by decide) Hg3.out
                have hc0 : w5.cell? ⟨w.heap.size + 1, 0, none⟩ = some (.int .u8 (x'.toNat : Int)) := cell_of_row w5 _ 0 _ _ _ hg5
                have hc1 : w5.cell? ⟨w.heap.size + 1, 1, none⟩ = some (.int .u8 (y'.toNat : Int)) := cell_of_row w5 _ 1 _ _ _ hg5
                have hc2 : w5.cell? ⟨w.heap.size + 1, 2, none⟩ = some (.int .u8 (z'.toNat : Int)) := cell_of_row w5 _ 2 _ _ _ hg5
                have hf0 : w5.frozen? ⟨w.heap.size + 1, 0, none⟩ = false := frozen_of_row w5 _ 0 _ _ hg5
                have hf1 : w5.frozen? ⟨w.heap.size + 1, 1, none⟩ = false := frozen_of_row w5 _ 1 _ _ hg5
                have hf2 : w5.frozen? ⟨w.heap.size + 1, 2, none⟩ = false := frozen_of_row w5 _ 2 _ _ hg5
                have Hg5 := Lib.hid hg5
                have Ho5 := Lib.hid ho5
                have Hb5 := Lib.hid hb5
                clear ho5 hb5 hk5 hg5
                go_wp2
                go_roundw
                case rel => exact enc_full Hst.out Hlb.out Hrd.out Hp.out hmc He.out Hbut.out HA3.out rfl (by omega) hq2 Ho5.out Hb5.out Hg5.out
                case measure => simp [sliceLen]; omega
              · -- hh = 1, 2 bytes fill the group
                obtain rfl : hI = 1 := by omega
                clear hhI
                obtain ⟨A3, hA3⟩ : ∃ A3, A3 = (if c2 = 2 then A2 else A2.map (·.add 2)) := ⟨_, rfl⟩
                have hsl : ∀ W : World, (Instr.slice 24 (.slice A2 m c2) (some (.int .i64 2)) none none).run Try.prog W = .ok (.slice A3 (m - 2) (c2 - 2)) W := fun W => by rw [hA3]; exact cut_from W A2 m c2 2 (by omega)
                have HA3 := Lib.hid hA3
                clear hA3
                go_wp2_with (first
                  | (refine wpList_copyG rfl (.tmp 36) (.tmp 37) rfl (hh := 1) rfl rfl Hst.out.row Hrd.out Hlb.out hm0 rfl 2 (by omega) ?_
                     intro w3 x' y' z' he hg3 hbut
                     have Hg3 := Lib.hid hg3
                     have He := Lib.hid he
                     have Hbut := Lib.hid hbut
                     have hc0 : w3.cell? ⟨w.heap.size + 1, 0, none⟩ = some (.int .u8 (x'.toNat : Int)) := cell_of_row w3 _ 0 _ _ _ hg3
                     have hc1 : w3.cell? ⟨w.heap.size + 1, 1, none⟩ = some (.int .u8 (y'.toNat : Int)) := cell_of_row w3 _ 1 _ _ _ hg3
                     have hc2 : w3.cell? ⟨w.heap.size + 1, 2, none⟩ = some (.int .u8 (z'.toNat : Int)) := cell_of_row w3 _ 2 _ _ _ hg3
                     clear hg3 he hbut))
                clear hc0 hc1 hc2
                refine (ag3 x' y' z' A1 (4 * q) c1 w.heap.size (encL (p.take (3 * q))) w3 Hst.out.elen (Hbut.out.own Hst.out.row (by decide) Hst.out.own) (by have := Hbut.out.size; have := Hst.out.below.size; omega) (by omega)).mono ?_
                rintro e w5 ⟨A5, c5, rfl, ho5, hb5, hk5⟩
                have hg5 := hk5 _ _ _ _ (by decide) Hg3.out
                have hc0 : w5.cell? ⟨w.heap.size + 1, 0, none⟩ = some (.int .u8 (x'.toNat : Int)) := cell_of_row w5 _ 0 _ _ _ hg5
                have hc1 : w5.cell? ⟨w.heap.size + 1, 1, none⟩ = some (.int .u8 (y'.toNat : Int)) := cell_of_row w5 _ 1 _ _ _ hg5
                have hc2 : w5.cell? ⟨w.heap.size + 1, 2, none⟩ = some (.int .u8 (z'.toNat : Int)) := cell_of_row w5 _ 2 _ _ _ hg5
                have hf0 : w5.frozen? ⟨w.heap.size + 1, 0, none⟩ = false := frozen_of_row w5 _ 0 _ _ hg5
                have hf1 : w5.frozen? ⟨w.heap.size + 1, 1, none⟩ = false := frozen_of_row w5 _ 1 _ _ hg5
                have hf2 : w5.frozen? ⟨w.heap.size + 1, 2, none⟩ = false := frozen_of_row w5 _ 2 _ _ hg5
                have Hg5 := Lib.hid hg5
                have Ho5 := Lib.hid ho5
                have Hb5 := Lib.hid hb5
                clear ho5 hb5 hk5 hg5
                go_wp2
                go_roundw
                case rel => exact enc_full Hst.out Hlb.out Hrd.out Hp.out hmc He.out Hbut.out HA3.out rfl (by omega) hq2 Ho5.out Hb5.out Hg5.out
                case measure => simp [sliceLen]; omega
              · -- hh = 2, 1 bytes fill the group
                obtain rfl : hI = 2 := by omega
                clear hhI
                obtain ⟨A3, hA3⟩ : ∃ A3, A3 = (if c2 = 1 then A2 else A2.map (·.add 1)) := ⟨_, rfl⟩
                have hsl : ∀ W : World, (Instr.slice 24 (.slice A2 m c2) (some (.int .i64 1)) none none).run Try.prog W = .ok (.slice A3 (m - 1) (c2 - 1)) W := fun W => by rw [hA3]; exact cut_from W A2 m c2 1 (by omega)
                have HA3 := Lib.hid hA3
                clear hA3
                go_wp2_with (first
                  | (refine wpList_copyG rfl (.tmp 36) (.tmp 37) rfl (hh := 2) rfl rfl Hst.out.row Hrd.out Hlb.out hm0 rfl 1 (by omega) ?_
                     intro w3 x' y' z' he hg3 hbut
                     have Hg3 := Lib.hid hg3
                     have He := Lib.hid he
                     have Hbut := Lib.hid hbut
                     have hc0 : w3.cell? ⟨w.heap.size + 1, 0, none⟩ = some (.int .u8 (x'.toNat : Int)) := cell_of_row w3 _ 0 _ _ _ hg3
                     have hc1 : w3.cell? ⟨w.heap.size + 1, 1, none⟩ = some (.int .u8 (y'.toNat : Int)) := cell_of_row w3 _ 1 _ _ _ hg3
                     have hc2 : w3.cell? ⟨w.heap.size + 1, 2, none⟩ = some (.int .u8 (z'.toNat : Int)) := cell_of_row w3 _ 2 _ _ _ hg3
                     clear hg3 he hbut))
                clear hc0 hc1 hc2
                refine (ag3 x' y' z' A1 (4 * q) c1 w.heap.size (encL (p.take (3 * q))) w3 Hst.out.elen (Hbut.out.own Hst.out.row (by decide) Hst.out.own) (by have := Hbut.out.size; have := Hst.out.below.size; omega) (by omega)).mono ?_
                rintro e w5 ⟨A5, c5, rfl, ho5, hb5, hk5⟩
                have hg5 := hk5 _ _ _ _ (by decide) Hg3.out
                have hc0 : w5.cell? ⟨w.heap.size + 1, 0, none⟩ = some (.int .u8 (x'.toNat : Int)) := cell_of_row w5 _ 0 _ _ _ hg5
                have hc1 : w5.cell? ⟨w.heap.size + 1, 1, none⟩ = some (.int .u8 (y'.toNat : Int)) := cell_of_row w5 _ 1 _ _ _ hg5
                have hc2 : w5.cell? ⟨w.heap.size + 1, 2, none⟩ = some (.int .u8 (z'.toNat : Int)) := cell_of_row w5 _ 2 _ _ _ hg5
                have hf0 : w5.frozen? ⟨w.heap.size + 1, 0, none⟩ = false := frozen_of_row w5 _ 0 _ _ hg5
                have hf1 : w5.frozen? ⟨w.heap.size + 1, 1, none⟩ = false := frozen_of_row w5 _ 1 _ _ hg5
                have hf2 : w5.frozen? ⟨w.heap.size + 1, 2, none⟩ = false := frozen_of_row w5 _ 2 _ _ hg5
                have Hg5 := Lib.hid hg5
                have Ho5 := Lib.hid ho5
                have Hb5 := Lib.hid hb5
                clear ho5 hb5 hk5 hg5
                go_wp2
                go_roundw
                case rel => exact enc_full Hst.out Hlb.out Hrd.out Hp.out hmc He.out Hbut.out HA3.out rfl (by omega) hq2 Ho5.out Hb5.out Hg5.out
                case measure => simp [sliceLen]; omega
              · -- hh = 0, the last 1 of the piece
                obtain rfl : hI = 0 := by omega
                clear hhI
                obtain ⟨A3, hA3⟩ : ∃ A3, A3 = (if c2 = 1 then A2 else A2.map (·.add 1)) := ⟨_, rfl⟩
                have hsl : ∀ W : World, (Instr.slice 24 (.slice A2 1 c2) (some (.int .i64 1)) none none).run Try.prog W = .ok (.slice A3 0 (c2 - 1)) W := fun W => by rw [hA3]; exact cut_from W A2 1 c2 1 (by omega)
                have HA3 := Lib.hid hA3
                clear hA3
                go_wp2_with (first
                  | (refine wpList_copyG rfl (.tmp 36) (.tmp 37) rfl (hh := 0) rfl rfl Hst.out.row Hrd.out Hlb.out (by omega) rfl 1 (by omega) ?_
                     intro w3 x' y' z' he hg3 hbut
                     have Hg3 := Lib.hid hg3
                     have He := Lib.hid he
                     have Hbut := Lib.hid hbut
                     clear hg3 he hbut))
                go_roundw
                case rel => exact enc_part Hst.out Hlb.out Hp.out He.out Hbut.out Hg3.out rfl (by omega) hq rfl
                case measure => simp [sliceLen]
              · -- hh = 0, the last 2 of the piece
                obtain rfl : hI = 0 := by omega
                clear hhI
                obtain ⟨A3, hA3⟩ : ∃ A3, A3 = (if c2 = 2 then A2 else A2.map (·.add 2)) := ⟨_, rfl⟩
                have hsl : ∀ W : World, (Instr.slice 24 (.slice A2 2 c2) (some (.int .i64 2)) none none).run Try.prog W = .ok (.slice A3 0 (c2 - 2)) W := fun W => by rw [hA3]; exact cut_from W A2 2 c2 2 (by omega)
                have HA3 := Lib.hid hA3
                clear hA3
                go_wp2_with (first
                  | (refine wpList_copyG rfl (.tmp 36) (.tmp 37) rfl (hh := 0) rfl rfl Hst.out.row Hrd.out Hlb.out (by omega) rfl 2 (by omega) ?_
                     intro w3 x' y' z' he hg3 hbut
                     have Hg3 := Lib.hid hg3
                     have He := Lib.hid he
                     have Hbut := Lib.hid hbut
                     clear hg3 he hbut))
                go_roundw
                case rel => exact enc_part Hst.out Hlb.out Hp.out He.out Hbut.out Hg3.out rfl (by omega) hq rfl
                case measure => simp [sliceLen]
              · -- hh = 1, the last 1 of the piece
                obtain rfl : hI = 1 := by omega
                clear hhI
                obtain ⟨A3, hA3⟩ : ∃ A3, A3 = (if c2 = 1 then A2 else A2.map (·.add 1)) := ⟨_, rfl⟩
                have hsl : ∀ W : World, (Instr.slice 24 (.slice A2 1 c2) (some (.int .i64 1)) none none).run Try.prog W = .ok (.slice A3 0 (c2 - 1)) W := fun W => by rw [hA3]; exact cut_from W A2 1 c2 1 (by omega)
                have HA3 := Lib.hid hA3
                clear hA3
                go_wp2_with (first
                  | (refine wpList_copyG rfl (.tmp 36) (.tmp 37) rfl (hh := 1) rfl rfl Hst.out.row Hrd.out Hlb.out (by omega) rfl 1 (by omega) ?_
                     intro w3 x' y' z' he hg3 hbut
                     have Hg3 := Lib.hid hg3
                     have He := Lib.hid he
                     have Hbut := Lib.hid hbut
                     clear hg3 he hbut))
                go_roundw
                case rel => exact enc_part Hst.out Hlb.out Hp.out He.out Hbut.out Hg3.out rfl (by omega) hq rfl
                case measure => simp [sliceLen]
            · obtain rfl : m = 0 := by omega
              have hlb : lb = [] := List.eq_nil_of_length_eq_zero Hlb.out
              have Hst2 := Lib.hid (show EncSt w _ (w.heap.size + 1) (ls.take (k + 1)).flatten q hh A1 c1 x y z by rw [← Hp.out, hlb, List.append_nil]; exact Hst.out)
              clear hlb
              go_wp2
              go_roundw
              case rel => exact ⟨k + 1, q, hh, A1, c1, x, y, z, hI, by omega, by go_num, rfl, hhI, hh3, hq, rfl, Hst2.out⟩
              case measure => simp [intOf]; omega
        · obtain rfl : n = k := by omega
          have hT : (ls.take n).flatten = ls.flatten := by rw [List.take_of_length_le (by have := Hn.out; omega)]
          rw [hT] at Hst
          have hc0 := cell_of_row wr _ 0 _ _ _ Hst.out.row
          have hc1 := cell_of_row wr _ 1 _ _ _ Hst.out.row
          have hc2 := cell_of_row wr _ 2 _ _ _ Hst.out.row
          have hsz : w.heap.size ≤ wr.heap.size := Hst.out.below.size
          replace hc0 : wr.cell? ⟨w.heap.size + 1, 0, none⟩ = some (.int .u8 (x.toNat : Int)) := hc0
          replace hc1 : wr.cell? ⟨w.heap.size + 1, 1, none⟩ = some (.int .u8 (y.toNat : Int)) := hc1
          replace hc2 : wr.cell? ⟨w.heap.size + 1, 2, none⟩ = some (.int .u8 (z.toNat : Int)) := hc2
          clear hT h
          have hcase : hh = 0 ∨ hh = 1 ∨ hh = 2 := by omega
          rcases hcase with rfl | rfl | rfl
          · obtain rfl : hI = 0 := by omega
            clear hhI hh3
            go_wp2_with fail
            refine (ag0 x y z A1 (4 * q) c1 w.heap.size (encL (ls.flatten.take (3 * q))) _ Hst.out.elen Hst.out.own hsz (by omega)).mono ?_
            rintro e w5 ⟨A5, c5, rfl, ho5, hb5, hk5⟩
            rw [Hst.out.fin0] at ho5
            rw [Nat.add_zero]
            have hlen : (encL ls.flatten).length = 4 * q := by rw [encL_len, Hst.out.len]; omega
            have hcv := conv ho5.rd c5
            rw [hlen] at hcv
            have Hb5 := Lib.hid (Hst.out.below.trans hb5)
            obtain ⟨S, hS⟩ : ∃ S : ByteArray, S = ⟨(encL ls.flatten).toArray⟩ := ⟨_, rfl⟩
            rw [← hS] at hcv
            have HS := Lib.hid hS
            clear ho5 hb5 hk5 hS hlen hc0 hc1 hc2
            go_wp2
            go_ret
            exact ⟨by rw [← HS.out]; rfl, Hb5.out⟩
          · obtain rfl : hI = 1 := by omega
            clear hhI hh3
            go_wp2_with fail
            refine (ag1 x y z A1 (4 * q) c1 w.heap.size (encL (ls.flatten.take (3 * q))) _ Hst.out.elen Hst.out.own hsz (by omega)).mono ?_
            rintro e w5 ⟨A5, c5, rfl, ho5, hb5, hk5⟩
            rw [Hst.out.fin1] at ho5
            have hlen : (encL ls.flatten).length = 4 * q + 2 := by rw [encL_len, Hst.out.len]; omega
            have hcv := conv ho5.rd c5
            rw [hlen] at hcv
            have Hb5 := Lib.hid (Hst.out.below.trans hb5)
            obtain ⟨S, hS⟩ : ∃ S : ByteArray, S = ⟨(encL ls.flatten).toArray⟩ := ⟨_, rfl⟩
            rw [← hS] at hcv
            have HS := Lib.hid hS
            clear ho5 hb5 hk5 hS hlen hc0 hc1 hc2
            go_wp2
            go_ret
            exact ⟨by rw [← HS.out]; rfl, Hb5.out⟩
          · obtain rfl : hI = 2 := by omega
            clear hhI hh3
            go_wp2_with fail
            refine (ag2 x y z A1 (4 * q) c1 w.heap.size (encL (ls.flatten.take (3 * q))) _ Hst.out.elen Hst.out.own hsz (by omega)).mono ?_
            rintro e w5 ⟨A5, c5, rfl, ho5, hb5, hk5⟩
            rw [Hst.out.fin2] at ho5
            have hlen : (encL ls.flatten).length = 4 * q + 3 := by rw [encL_len, Hst.out.len]; omega
            have hcv := conv ho5.rd c5
            rw [hlen] at hcv
            have Hb5 := Lib.hid (Hst.out.below.trans hb5)
            obtain ⟨S, hS⟩ : ∃ S : ByteArray, S = ⟨(encL ls.flatten).toArray⟩ := ⟨_, rfl⟩
            rw [← hS] at hcv
            have HS := Lib.hid hS
            clear ho5 hb5 hk5 hS hlen hc0 hc1 hc2
            go_wp2
            go_ret
            exact ⟨by rw [← HS.out]; rfl, Hb5.out⟩
end Go.Proofs.Ytjpjodjdciamhaa
