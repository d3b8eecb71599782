/-
  Contract of the reference's HMAC (Sum).
-/
import Derived.Test.YtbofikghcoalbaaDoorHsm
import Derived.Test.YtbofikghcoalbaaDoorAps
import Derived.Test.YtbofikghcoalbaaDoorSbSu
import Derived.Lib.AppendStr
namespace Go.Proofs.YtbofikghcoalbaaDoor.S5
open Go.RowKit
open S4 (Kt sum_any digest sumV arr digest_len rd_block)
set_option linter.unusedVariables false
set_option linter.unusedSimpArgs false

theorem blk_get (k : List UInt8) (t : Nat) (ht : t < (blkL k).length) : (blkL k)[t] = (keyL k).getD t 0 := by
  unfold blkL fillL at ht ⊢
  by_cases h : t < (keyL k).length
  · rw [List.getElem_append_left h]; simp [h]
  · rw [List.getElem_append_right (by omega), List.getElem_replicate]; simp [h]
theorem mask_next (k : List UInt8) (x : UInt8) (t : Nat) (ht : t < 128) : (maskL (blkL k) x).take t ++ [(keyL k).getD t 0 ^^^ x] = (maskL (blkL k) x).take (t + 1) := by
  have h1 : t < (maskL (blkL k) x).length := by rw [maskL_len _ _ (blkL_len k)]; exact ht
  rw [take_snoc _ t h1]
  congr 2
  unfold maskL at h1 ⊢
  rw [xorL_get _ _ t h1 (by rw [blkL_len]; exact ht) (by simpa using ht), blk_get, List.getElem_replicate]

/-- append(b, s...), b owned, s a string. -/
theorem wpList_appStr {w : World} {ops : Array Oper} {rest : List Oper} {o : Oper} {a : Act} {Q : Exit → Act → World → Prop} (hgd : o.guard = none) (s x : Operand) (ho : o.op = .call { callee := .builtin .append, args := #[s, x], argTypes := #[22, 9] })
    {base : Nat} {A : Option Addr} {n c : Nat} {l l2 : List UInt8} (hs : a.eval s = .slice A n c) (hn : l.length = n) (h : Own w base A c l) {S : ByteArray} (hx : a.eval x = .string S) (hS : S = ⟨l2.toArray⟩)
    (hl : n + l2.length ≤ 4294967296) (hbase : base ≤ w.heap.size) (m : Nat) (hm : n + l2.length = m)
    (hk : ∀ A' c' w', Own w' base A' c' (l ++ l2) → Below base w w' → wpList Tryd.prog ops Q rest (a.put o.dst (.slice A' m c')) w') : wpList Tryd.prog ops Q (o :: rest) a w := by
  subst hn hS hm
  obtain ⟨i0, hi, hz0, hz1, hz2⟩ := info_parts info5
  have hsz : (⟨l2.toArray⟩ : ByteArray).size = l2.length := by show l2.toArray.size = _; simp
  have hcs : Lib.strCells ⟨l2.toArray⟩ = bvs l2 := by simp [Lib.strCells, bvs, bv]
  refine Lib.wpList_append_own_string w hgd s x 22 9 ho base 5 i0 Tryd.underlying22 Tryd.underlying9 hi hz0 hz1 hz2 _ l.length (bvs l) hs h _ hx (by rw [hsz]; unfold maxLen; omega) (by rw [hsz]; omega) hbase ?_
  intro v' w' h2 h3 _
  rw [hsz, hcs] at h2
  have hv : ∃ A' c', v' = .slice A' (l.length + l2.length) c' := by
    rcases h2.2 with ⟨h1, h3⟩ | ⟨g, cap, cur, h1, _⟩
    · exact ⟨none, 0, by rw [h1, h3]⟩
    · exact ⟨some ⟨g, 0, none⟩, cap, by rw [h1]⟩
  obtain ⟨A', c', rfl⟩ := hv
  refine hk A' c' w' ?_ ?_
  · unfold Own
    rw [show bvs (l ++ l2) = bvs l ++ bvs l2 by simp [bvs], List.length_append]
    exact h2
  · refine (Below.refl _ _).grown h3 hbase fun k hk => ?_
    rcases h.form with ⟨rfl, _⟩ | ⟨g, cur, rfl, hgb, _⟩
    · simp [Value.ownBlock] at hk
    · simp [Value.ownBlock] at hk; omega
theorem idx_str (l : List UInt8) (t : Nat) (ht : t < l.length) (W : World) : (Instr.index 9 (.string ⟨l.toArray⟩) (.int .i64 (t : Int))).run Tryd.prog W = .ok (.int .u8 ((l.getD t 0).toNat : Int)) W := by
  have : t < (⟨l.toArray⟩ : ByteArray).size := by show t < l.toArray.size; simpa using ht
  simp [Instr.index, asIntOf, run_underlying Tryd.underlying9, this, ht]
  rfl

/-- Where the reference's loop stands. -/
def Lp (w wr : World) (k : List UInt8) (t : Nat) (A1 : Option Addr) (c1 : Nat) (B1 : Option Addr) (d1 : Nat) : Prop :=
  Own wr w.heap.size A1 c1 ((maskL (blkL k) 54).take t) ∧ Own wr w.heap.size B1 d1 ((maskL (blkL k) 92).take t) ∧ Apart A1 B1 ∧ Below w.heap.size w wr
theorem take_len (k : List UInt8) (x : UInt8) (t : Nat) (h : t ≤ 128) : ((maskL (blkL k) x).take t).length = t := by rw [List.length_take, maskL_len _ _ (blkL_len k)]; omega
theorem Own.alloc' {w : World} {base : Nat} {A : Option Addr} {c : Nat} {l : List UInt8} (h : Own w base A c l) (o : Obj) : Own (w.alloc o) base A c l := h.grow (alloc_below w o)

set_option maxHeartbeats 8000000 in
set_option maxRecDepth 20000 in
theorem refMac_any (A : Option Addr) (n c : Nat) (k : List UInt8) (A2 : Option Addr) (n2 c2 : Nat) (T : List UInt8) (w : World) (h : Rd w w.heap.size A k) (hn : k.length = n) (hl : n ≤ 40000)
    (h2 : Rd w w.heap.size A2 T) (hn2 : T.length = n2) (hl2 : n2 ≤ 40000) :
    Calls Tryd.prog 14 #[.slice A n c, .slice A2 n2 c2] w fun e w' => e = .returned (.string ⟨(macL k T).toArray⟩) ∧ Grown w w' := by
  have H := Lib.hid h
  have Hn := Lib.hid hn
  have H2 := Lib.hid h2
  have Hn2 := Lib.hid hn2
  have hcv : (convert 22 9 (.slice A n c)).run Tryd.prog w = .ok (.string ⟨k.toArray⟩) w := by rw [← hn]; exact conv h c
  by_cases hlong : 128 < n
  · obtain ⟨S, hS⟩ : ∃ S : ByteArray, S = ⟨k.toArray⟩ := ⟨_, rfl⟩
    rw [← hS] at hcv
    have hkl : keyL k = digest (sumV k) := by unfold keyL; rw [if_pos (by omega)]
    obtain ⟨KS, hKS⟩ : ∃ KS : ByteArray, KS = { data := (digest (sumV k)).toArray } := ⟨_, rfl⟩
    have HKS := Lib.hid (show KS = ⟨(keyL k).toArray⟩ by rw [hkl]; exact hKS)
    have HKS2 := Lib.hid hKS
    clear hn hkl h h2 hn2 hS hKS
    go_enter Tryd.func14, Tryd.ntmps14
    go_wp2_with fail
    refine (sum_any A n c k _ H.out Hn.out (by omega)).mono ?_
    rintro e w1 ⟨rfl, hb1⟩
    rw [← HKS2.out]
    have Hst := Lib.hid hb1
    clear hb1 hcv HKS2
    go_wp2
    -- LOOP
    go_loopw [6, 7, 8] (fun v6 v7 v8 wr => ∃ (t : Nat) (A1 : Option Addr) (c1 : Nat) (B1 : Option Addr) (d1 : Nat), t ≤ 128 ∧ v8 = .int .i64 (t : Int) ∧ v6 = .slice A1 t c1 ∧ v7 = .slice B1 t d1 ∧ Hid (Lp w wr k t A1 c1 B1 d1)) (fun _ _ v8 _ => 128 - (intOf v8).toNat)
    case atStart => exact ⟨0, none, 0, none, 0, by omega, rfl, rfl, rfl, Own.nil _ _, Own.nil _ _, (fun x y h => by cases h), Hst.out⟩
    case round =>
      obtain ⟨t, A1, c1, B1, d1, ht, rfl, rfl, rfl, HL⟩ := hrel
      by_cases hlt : t < 128
      · obtain ⟨hL1, hL2, hL3, hL4⟩ := HL.out
        have L1 := Lib.hid hL1
        have L2 := Lib.hid hL2
        have L3 := Lib.hid hL3
        have L4 := Lib.hid hL4
        have hsz := hL4.size
        clear hL1 hL2 hL3 hL4 HL
        have fin : ∀ (x : UInt8), (keyL k).getD t 0 = x → Hid ((maskL (blkL k) 54).take t ++ [x ^^^ 54] = (maskL (blkL k) 54).take (t + 1)) ∧ Hid ((maskL (blkL k) 92).take t ++ [x ^^^ 92] = (maskL (blkL k) 92).take (t + 1)) := fun x hx => by
          rw [← hx]; exact ⟨mask_next k 54 t hlt, mask_next k 92 t hlt⟩
        have T1 := Lib.hid (take_len k 54 t ht)
        have T2 := Lib.hid (take_len k 92 t ht)
        have T3 := Lib.hid (take_len k 54 (t + 1) (by omega))
        have T4 := Lib.hid (take_len k 92 (t + 1) (by omega))
        by_cases hin : t < (keyL k).length
        · obtain ⟨x, hx⟩ : ∃ x, (keyL k).getD t 0 = x := ⟨_, rfl⟩
          obtain ⟨F1, F2⟩ := fin x hx
          have hix : ∀ W : World, (Instr.index 9 (.string KS) (.int .i64 (t : Int))).run Tryd.prog W = .ok (.int .u8 (x.toNat : Int)) W := fun W => by rw [HKS.out, ← hx]; exact idx_str _ t hin W
          have hxl := u8_lt x
          have hcmp : (t : Int) < (KS.size : Int) := by rw [HKS.out]; show (t : Int) < (((keyL k).toArray.size : Nat) : Int); simp; omega
          have x1 : bits .xor .u8 (x.toNat : Int) 54 = ((x ^^^ 54).toNat : Int) := xor_u8 x 54
          have x2 : bits .xor .u8 (x.toNat : Int) 92 = ((x ^^^ 92).toNat : Int) := xor_u8 x 92
          clear fin hx hin
          go_wp2_with (first
            | (at_builtin
               refine wpList_app2 rfl (.tmp 29) (.tmp 32) rfl (base := w.heap.size) rfl T1.out (L1.out.grow (alloc_below wr _)) (L2.out.grow (alloc_below wr _)) L3.out (l2 := [x ^^^ 54]) rfl rfl ((Row.new wr [x ^^^ 54]).rd (Nat.lt_succ_self _)) (by omega) (by simp; omega) _ F1.out ?_
               intro A3 c3 w3 ho3 ho4 hap hb3
               rw [T3.out]
               have Ho3 := Lib.hid ho3
               have Ho4 := Lib.hid ho4
               have Hap := Lib.hid hap.symm
               have Hb3 := Lib.hid ((L4.out.alloc hsz _).trans hb3)
               have hsz3 := Hb3.out.size
               clear ho3 ho4 hap hb3)
            | (at_builtin
               refine wpList_app2 rfl (.tmp 34) (.tmp 37) rfl (base := w.heap.size) rfl T2.out (Ho4.out.grow (alloc_below w3 _)) (Ho3.out.grow (alloc_below w3 _)) Hap.out (l2 := [x ^^^ 92]) rfl rfl ((Row.new w3 [x ^^^ 92]).rd (Nat.lt_succ_self _)) (by omega) (by simp; omega) _ F2.out ?_
               intro A5 c5 w5 ho5 ho6 hap5 hb5
               rw [T4.out]
               have Ho5 := Lib.hid ho5
               have Ho6 := Lib.hid ho6
               have Hap5 := Lib.hid hap5.symm
               have Hb5 := Lib.hid ((Hb3.out.alloc hsz3 _).trans hb5)
               clear ho5 ho6 hap5 hb5))
          go_roundw
          case rel => exact ⟨t + 1, A3, c3, A5, c5, by omega, by go_num, rfl, rfl, Ho6.out, Ho5.out, Hap5.out, Hb5.out⟩
          case measure => simp [intOf]; omega
        · obtain ⟨F1, F2⟩ := fin 0 (by simp [List.getD, show (keyL k).length ≤ t by omega])
          have hcmp : ¬ ((t : Int) < (KS.size : Int)) := by rw [HKS.out]; show ¬ ((t : Int) < (((keyL k).toArray.size : Nat) : Int)); simp; omega
          clear fin hin
          go_wp2_with (first
            | (at_builtin
               refine wpList_app2 rfl (.tmp 29) (.tmp 32) rfl (base := w.heap.size) rfl T1.out (L1.out.grow (alloc_below wr _)) (L2.out.grow (alloc_below wr _)) L3.out (l2 := [0 ^^^ 54]) rfl rfl ((Row.new wr [0 ^^^ 54]).rd (Nat.lt_succ_self _)) (by omega) (by simp; omega) _ F1.out ?_
               intro A3 c3 w3 ho3 ho4 hap hb3
               rw [T3.out]
               have Ho3 := Lib.hid ho3
               have Ho4 := Lib.hid ho4
               have Hap := Lib.hid hap.symm
               have Hb3 := Lib.hid ((L4.out.alloc hsz _).trans hb3)
               have hsz3 := Hb3.out.size
               clear ho3 ho4 hap hb3)
            | (at_builtin
               refine wpList_app2 rfl (.tmp 34) (.tmp 37) rfl (base := w.heap.size) rfl T2.out (Ho4.out.grow (alloc_below w3 _)) (Ho3.out.grow (alloc_below w3 _)) Hap.out (l2 := [0 ^^^ 92]) rfl rfl ((Row.new w3 [0 ^^^ 92]).rd (Nat.lt_succ_self _)) (by omega) (by simp; omega) _ F2.out ?_
               intro A5 c5 w5 ho5 ho6 hap5 hb5
               rw [T4.out]
               have Ho5 := Lib.hid ho5
               have Ho6 := Lib.hid ho6
               have Hap5 := Lib.hid hap5.symm
               have Hb5 := Lib.hid ((Hb3.out.alloc hsz3 _).trans hb5)
               clear ho5 ho6 hap5 hb5))
          go_roundw
          case rel => exact ⟨t + 1, A3, c3, A5, c5, by omega, by go_num, rfl, rfl, Ho6.out, Ho5.out, Hap5.out, Hb5.out⟩
          case measure => simp [intOf]; omega
      · obtain rfl : t = 128 := by omega
        obtain ⟨hL1, hL2, hL3, hL4⟩ := HL.out
        rw [List.take_of_length_le (by rw [maskL_len _ _ (blkL_len k)]; omega)] at hL1 hL2
        have L1 := Lib.hid hL1
        have L2 := Lib.hid hL2
        have L3 := Lib.hid hL3
        have L4 := Lib.hid hL4
        have hsz := hL4.size
        have M1 := Lib.hid (maskL_len _ 54 (blkL_len k))
        have M2 := Lib.hid (maskL_len _ 92 (blkL_len k))
        have Hlen := Lib.hid (show (maskL (blkL k) 54 ++ T).length = 128 + n2 by rw [List.length_append, M1.out, Hn2.out])
        clear hL1 hL2 hL3 hL4 HL
        go_wp2_with (first
          | (at_builtin
             refine wpList_app2 rfl (.tmp 39) (.tmp 40) rfl (base := w.heap.size) rfl M1.out L1.out L2.out L3.out (l2 := T) rfl Hn2.out (H2.out.below L4.out) (by omega) hsz _ rfl ?_
             intro A3 c3 w3 ho3 ho4 hap hb3
             rw [Hlen.out]
             have Ho3 := Lib.hid ho3
             have Ho4 := Lib.hid ho4
             have Hb3 := Lib.hid (L4.out.trans hb3)
             have hsz3 := Hb3.out.size
             clear ho3 ho4 hap hb3))
        refine (sum_any A3 (128 + n2) c3 (maskL (blkL k) 54 ++ T) _ Ho3.out.rd Hlen.out (by omega)).mono ?_
        rintro e w4 ⟨rfl, hb4⟩
        obtain ⟨DS, hDS⟩ : ∃ DS : ByteArray, DS = { data := (digest (sumV (maskL (blkL k) 54 ++ T))).toArray } := ⟨_, rfl⟩
        rw [← hDS]
        have HDS := Lib.hid (show DS = ⟨(inL k T).toArray⟩ from hDS)
        have O4 := Lib.hid (Ho4.out.grow hb4)
        have Hb4 := Lib.hid (Hb3.out.trans (hb4.mono hsz3))
        have hsz4 := Hb4.out.size
        clear hDS hb4
        go_wp2_with (first
          | (at_builtin
             refine wpList_appStr rfl (.tmp 43) (.tmp 44) rfl (base := w.heap.size) (l2 := inL k T) rfl M2.out O4.out rfl HDS.out (by rw [inL, digest_len]; omega) hsz4 192 (by rw [inL, digest_len]) ?_
             intro A5 c5 w5 ho5 hb5
             have Ho5 := Lib.hid ho5
             have Hb5 := Lib.hid (Hb4.out.trans hb5)
             clear ho5 hb5))
        refine (sum_any A5 192 c5 (maskL (blkL k) 92 ++ inL k T) _ Ho5.out.rd (by rw [List.length_append, M2.out, inL, digest_len]) (by omega)).mono ?_
        rintro e w6 ⟨rfl, hb6⟩
        rw [show digest (sumV (maskL (blkL k) 92 ++ inL k T)) = macL k T from rfl]
        have Hb6 := Lib.hid (Hb5.out.trans (hb6.mono Hb5.out.size))
        clear hb6
        go_wp2
        go_ret
        exact ⟨rfl, Hb6.out⟩
  · obtain ⟨KS, hKS⟩ : ∃ KS : ByteArray, KS = ⟨k.toArray⟩ := ⟨_, rfl⟩
    rw [← hKS] at hcv
    have hkl : keyL k = k := by unfold keyL; rw [if_neg (by omega)]
    have HKS := Lib.hid (show KS = ⟨(keyL k).toArray⟩ by rw [hkl]; exact hKS)
    have Hst := Lib.hid (Below.refl w.heap.size w)
    clear hn hkl h h2 hn2 hKS
    go_enter Tryd.func14, Tryd.ntmps14
    go_wp2
    clear hcv
    -- LOOP
    go_loopw [6, 7, 8] (fun v6 v7 v8 wr => ∃ (t : Nat) (A1 : Option Addr) (c1 : Nat) (B1 : Option Addr) (d1 : Nat), t ≤ 128 ∧ v8 = .int .i64 (t : Int) ∧ v6 = .slice A1 t c1 ∧ v7 = .slice B1 t d1 ∧ Hid (Lp w wr k t A1 c1 B1 d1)) (fun _ _ v8 _ => 128 - (intOf v8).toNat)
    case atStart => exact ⟨0, none, 0, none, 0, by omega, rfl, rfl, rfl, Own.nil _ _, Own.nil _ _, (fun x y h => by cases h), Hst.out⟩
    case round =>
      obtain ⟨t, A1, c1, B1, d1, ht, rfl, rfl, rfl, HL⟩ := hrel
      by_cases hlt : t < 128
      · obtain ⟨hL1, hL2, hL3, hL4⟩ := HL.out
        have L1 := Lib.hid hL1
        have L2 := Lib.hid hL2
        have L3 := Lib.hid hL3
        have L4 := Lib.hid hL4
        have hsz := hL4.size
        clear hL1 hL2 hL3 hL4 HL
        have fin : ∀ (x : UInt8), (keyL k).getD t 0 = x → Hid ((maskL (blkL k) 54).take t ++ [x ^^^ 54] = (maskL (blkL k) 54).take (t + 1)) ∧ Hid ((maskL (blkL k) 92).take t ++ [x ^^^ 92] = (maskL (blkL k) 92).take (t + 1)) := fun x hx => by
          rw [← hx]; exact ⟨mask_next k 54 t hlt, mask_next k 92 t hlt⟩
        have T1 := Lib.hid (take_len k 54 t ht)
        have T2 := Lib.hid (take_len k 92 t ht)
        have T3 := Lib.hid (take_len k 54 (t + 1) (by omega))
        have T4 := Lib.hid (take_len k 92 (t + 1) (by omega))
        by_cases hin : t < (keyL k).length
        · obtain ⟨x, hx⟩ : ∃ x, (keyL k).getD t 0 = x := ⟨_, rfl⟩
          obtain ⟨F1, F2⟩ := fin x hx
          have hix : ∀ W : World, (Instr.index 9 (.string KS) (.int .i64 (t : Int))).run Tryd.prog W = .ok (.int .u8 (x.toNat : Int)) W := fun W => by rw [HKS.out, ← hx]; exact idx_str _ t hin W
          have hxl := u8_lt x
          have hcmp : (t : Int) < (KS.size : Int) := by rw [HKS.out]; show (t : Int) < (((keyL k).toArray.size : Nat) : Int); simp; omega
          have x1 : bits .xor .u8 (x.toNat : Int) 54 = ((x ^^^ 54).toNat : Int) := xor_u8 x 54
          have x2 : bits .xor .u8 (x.toNat : Int) 92 = ((x ^^^ 92).toNat : Int) := xor_u8 x 92
          clear fin hx hin
          go_wp2_with (first
            | (at_builtin
               refine wpList_app2 rfl (.tmp 29) (.tmp 32) rfl (base := w.heap.size) rfl T1.out (L1.out.grow (alloc_below wr _)) (L2.out.grow (alloc_below wr _)) L3.out (l2 := [x ^^^ 54]) rfl rfl ((Row.new wr [x ^^^ 54]).rd (Nat.lt_succ_self _)) (by omega) (by simp; omega) _ F1.out ?_
               intro A3 c3 w3 ho3 ho4 hap hb3
               rw [T3.out]
               have Ho3 := Lib.hid ho3
               have Ho4 := Lib.hid ho4
               have Hap := Lib.hid hap.symm
               have Hb3 := Lib.hid ((L4.out.alloc hsz _).trans hb3)
               have hsz3 := Hb3.out.size
               clear ho3 ho4 hap hb3)
            | (at_builtin
               refine wpList_app2 rfl (.tmp 34) (.tmp 37) rfl (base := w.heap.size) rfl T2.out (Ho4.out.grow (alloc_below w3 _)) (Ho3.out.grow (alloc_below w3 _)) Hap.out (l2 := [x ^^^ 92]) rfl rfl ((Row.new w3 [x ^^^ 92]).rd (Nat.lt_succ_self _)) (by omega) (by simp; omega) _ F2.out ?_
               intro A5 c5 w5 ho5 ho6 hap5 hb5
               rw [T4.out]
               have Ho5 := Lib.hid ho5
               have Ho6 := Lib.hid ho6
               have Hap5 := Lib.hid hap5.symm
               have Hb5 := Lib.hid ((Hb3.out.alloc hsz3 _).trans hb5)
               clear ho5 ho6 hap5 hb5))
          go_roundw
          case rel => exact ⟨t + 1, A3, c3, A5, c5, by omega, by go_num, rfl, rfl, Ho6.out, Ho5.out, Hap5.out, Hb5.out⟩
          case measure => simp [intOf]; omega
        · obtain ⟨F1, F2⟩ := fin 0 (by simp [List.getD, show (keyL k).length ≤ t by omega])
          have hcmp : ¬ ((t : Int) < (KS.size : Int)) := by rw [HKS.out]; show ¬ ((t : Int) < (((keyL k).toArray.size : Nat) : Int)); simp; omega
          clear fin hin
          go_wp2_with (first
            | (at_builtin
               refine wpList_app2 rfl (.tmp 29) (.tmp 32) rfl (base := w.heap.size) rfl T1.out (L1.out.grow (alloc_below wr _)) (L2.out.grow (alloc_below wr _)) L3.out (l2 := [0 ^^^ 54]) rfl rfl ((Row.new wr [0 ^^^ 54]).rd (Nat.lt_succ_self _)) (by omega) (by simp; omega) _ F1.out ?_
               intro A3 c3 w3 ho3 ho4 hap hb3
               rw [T3.out]
               have Ho3 := Lib.hid ho3
               have Ho4 := Lib.hid ho4
               have Hap := Lib.hid hap.symm
               have Hb3 := Lib.hid ((L4.out.alloc hsz _).trans hb3)
               have hsz3 := Hb3.out.size
               clear ho3 ho4 hap hb3)
            | (at_builtin
               refine wpList_app2 rfl (.tmp 34) (.tmp 37) rfl (base := w.heap.size) rfl T2.out (Ho4.out.grow (alloc_below w3 _)) (Ho3.out.grow (alloc_below w3 _)) Hap.out (l2 := [0 ^^^ 92]) rfl rfl ((Row.new w3 [0 ^^^ 92]).rd (Nat.lt_succ_self _)) (by omega) (by simp; omega) _ F2.out ?_
               intro A5 c5 w5 ho5 ho6 hap5 hb5
               rw [T4.out]
               have Ho5 := Lib.hid ho5
               have Ho6 := Lib.hid ho6
               have Hap5 := Lib.hid hap5.symm
               have Hb5 := Lib.hid ((Hb3.out.alloc hsz3 _).trans hb5)
               clear ho5 ho6 hap5 hb5))
          go_roundw
          case rel => exact ⟨t + 1, A3, c3, A5, c5, by omega, by go_num, rfl, rfl, Ho6.out, Ho5.out, Hap5.out, Hb5.out⟩
          case measure => simp [intOf]; omega
      · obtain rfl : t = 128 := by omega
        obtain ⟨hL1, hL2, hL3, hL4⟩ := HL.out
        rw [List.take_of_length_le (by rw [maskL_len _ _ (blkL_len k)]; omega)] at hL1 hL2
        have L1 := Lib.hid hL1
        have L2 := Lib.hid hL2
        have L3 := Lib.hid hL3
        have L4 := Lib.hid hL4
        have hsz := hL4.size
        have M1 := Lib.hid (maskL_len _ 54 (blkL_len k))
        have M2 := Lib.hid (maskL_len _ 92 (blkL_len k))
        have Hlen := Lib.hid (show (maskL (blkL k) 54 ++ T).length = 128 + n2 by rw [List.length_append, M1.out, Hn2.out])
        clear hL1 hL2 hL3 hL4 HL
        go_wp2_with (first
          | (at_builtin
             refine wpList_app2 rfl (.tmp 39) (.tmp 40) rfl (base := w.heap.size) rfl M1.out L1.out L2.out L3.out (l2 := T) rfl Hn2.out (H2.out.below L4.out) (by omega) hsz _ rfl ?_
             intro A3 c3 w3 ho3 ho4 hap hb3
             rw [Hlen.out]
             have Ho3 := Lib.hid ho3
             have Ho4 := Lib.hid ho4
             have Hb3 := Lib.hid (L4.out.trans hb3)
             have hsz3 := Hb3.out.size
             clear ho3 ho4 hap hb3))
        refine (sum_any A3 (128 + n2) c3 (maskL (blkL k) 54 ++ T) _ Ho3.out.rd Hlen.out (by omega)).mono ?_
        rintro e w4 ⟨rfl, hb4⟩
        obtain ⟨DS, hDS⟩ : ∃ DS : ByteArray, DS = { data := (digest (sumV (maskL (blkL k) 54 ++ T))).toArray } := ⟨_, rfl⟩
        rw [← hDS]
        have HDS := Lib.hid (show DS = ⟨(inL k T).toArray⟩ from hDS)
        have O4 := Lib.hid (Ho4.out.grow hb4)
        have Hb4 := Lib.hid (Hb3.out.trans (hb4.mono hsz3))
        have hsz4 := Hb4.out.size
        clear hDS hb4
        go_wp2_with (first
          | (at_builtin
             refine wpList_appStr rfl (.tmp 43) (.tmp 44) rfl (base := w.heap.size) (l2 := inL k T) rfl M2.out O4.out rfl HDS.out (by rw [inL, digest_len]; omega) hsz4 192 (by rw [inL, digest_len]) ?_
             intro A5 c5 w5 ho5 hb5
             have Ho5 := Lib.hid ho5
             have Hb5 := Lib.hid (Hb4.out.trans hb5)
             clear ho5 hb5))
        refine (sum_any A5 192 c5 (maskL (blkL k) 92 ++ inL k T) _ Ho5.out.rd (by rw [List.length_append, M2.out, inL, digest_len]) (by omega)).mono ?_
        rintro e w6 ⟨rfl, hb6⟩
        rw [show digest (sumV (maskL (blkL k) 92 ++ inL k T)) = macL k T from rfl]
        have Hb6 := Lib.hid (Hb5.out.trans (hb6.mono Hb5.out.size))
        clear hb6
        go_wp2
        go_ret
        exact ⟨rfl, Hb6.out⟩
end Go.Proofs.YtbofikghcoalbaaDoor.S5
