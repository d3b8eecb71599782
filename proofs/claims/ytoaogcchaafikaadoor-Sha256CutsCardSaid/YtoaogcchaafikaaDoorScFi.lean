/-
  Contract of the program's Fill: the padding of a text.
-/
import Derived.Test.YtoaogcchaafikaaDoorSaSu
namespace Go.Proofs.YtoaogcchaafikaaDoor.S3
open Go.RowKit
set_option linter.unusedVariables false
set_option linter.unusedSimpArgs false

/-- The padding, of the last eight bytes of which k stand there already. -/
def fout (n k : Nat) : List UInt8 := 128 :: List.replicate (zs n) 0 ++ (List.replicate (8 - k) 0 ++ (be (n * 8)).drop (8 - k))
theorem be_len (N : Nat) : (be N).length = 8 := by simp [be]
theorem fout_len (n k : Nat) (hk : k ≤ 8) : (fout n k).length = 1 + zs n + 8 := by simp [fout, be_len]; omega
theorem fout_top (n : Nat) : fout n 8 = fillL n := by simp [fout, fillL]
theorem fout_zero (n : Nat) : (List.replicate (1 + zs n + 8) 0).set 0 128 = fout n 0 := by
  have h : (be (n * 8)).drop 8 = [] := List.drop_of_length_le (by rw [be_len]; omega)
  rw [fout, h, show 1 + zs n + 8 = zs n + 8 + 1 by omega, List.replicate_succ, List.set_cons_zero, List.append_nil, ← List.replicate_append_replicate]
  rfl
theorem be_get (N j : Nat) (hj : j < 8) : (be N)[j]'(by rw [be_len]; exact hj) = UInt8.ofNat (N / 256 ^ (7 - j) % 256) := by simp [be]
theorem fout_next (n k : Nat) (hk : k < 8) : (fout n k).set (zs n + 8 - k) (UInt8.ofNat (n * 8 / 256 ^ k % 256)) = fout n (k + 1) := by
  have h0 : (128 :: List.replicate (zs n) (0 : UInt8)).length = 1 + zs n := by simp; omega
  have e : (be (n * 8)).drop (8 - (k + 1)) = UInt8.ofNat (n * 8 / 256 ^ k % 256) :: (be (n * 8)).drop (8 - k) := by
    rw [List.drop_eq_getElem_cons (by rw [be_len]; omega), be_get _ _ (by omega), show 7 - (8 - (k + 1)) = k by omega, show 8 - (k + 1) + 1 = 8 - k by omega]
  rw [fout, fout, e, List.set_append_right _ _ (by omega), h0, List.set_append_left _ _ (by simp; omega)]
  congr 1
  rw [show zs n + 8 - k - (1 + zs n) = 8 - (k + 1) by omega, show 8 - k = (8 - (k + 1)) + 1 by omega, ← List.replicate_append_replicate, List.set_append_right _ _ (by simp)]
  simp
theorem fill_size (n : Nat) : (55 < n % 64 ∧ 1 + zs n + 8 = 128 - n % 64) ∨ (n % 64 ≤ 55 ∧ 1 + zs n + 8 = 64 - n % 64) := by
  unfold zs
  omega

theorem shr64 {P : Program} (L m Q : Nat) (h : m < 64) (hQ : Q = L / 2 ^ m) (W : World) : (Op.shift .shr .u64 (L : Int) .i64 (m : Int)).run P W = .ok (.int .u64 (Q : Int)) W := by
  have e : min ((m : Int)).toNat (IntKind.bits .u64) = m := by
    show min m 64 = m
    omega
  unfold Op.shift
  rw [if_neg (by omega), e, hQ]
  simp only [Sem.run_pure]
  congr 2
  rw [Int.fdiv_eq_ediv_of_nonneg _ (by exact Int.pow_nonneg (by omega))]
  norm_cast
theorem fbyte (n k Q : Nat) (hQ : Q = n * 8 / 2 ^ (8 * k)) : IntKind.u8.wrap (Q : Int) = ((UInt8.ofNat (n * 8 / 256 ^ k % 256)).toNat : Int) := by
  rw [IntKind.wrap_u8, UInt8.toNat_ofNat', hQ, show (256 : Nat) ^ k = 2 ^ (8 * k) by rw [Nat.pow_mul]]
  omega

set_option maxHeartbeats 4000000 in
set_option maxRecDepth 100000 in
theorem dfill_any (n : Nat) (w : World) (hn : n ≤ 1000000) :
    Calls Tryd.prog 9 #[.int .i64 (n : Int)] w (Makes w (fillL n)) := by
  obtain ⟨s, hs⟩ : ∃ s, s = 1 + zs n + 8 := ⟨_, rfl⟩
  obtain ⟨r, hr⟩ : ∃ r, r = n % 64 := ⟨_, rfl⟩
  obtain ⟨t, ht⟩ : ∃ t, t = 64 - r := ⟨_, rfl⟩
  have hz : zs n < 64 := Nat.mod_lt _ (by omega)
  have hs64 : s ≤ 72 := by omega
  have hs9 : 9 ≤ s := by omega
  have hmk := fun W => mk22 s (by omega) W
  have hsz := fill_size n
  rw [← hs, ← hr] at hsz
  have Hs := Lib.hid hs
  have er : (n : Int) % 64 = (r : Int) := by omega
  have e1 : IntKind.i64.wrap (64 - (r : Int)) = (t : Int) := by rw [IntKind.wrap_i64]; omega
  have e2 : IntKind.i64.wrap ((s : Int) - 1) = ((s - 1 : Nat) : Int) := by rw [IntKind.wrap_i64]; omega
  obtain ⟨L, hL⟩ : ∃ L, L = n * 8 := ⟨_, rfl⟩
  have eL : IntKind.u64.wrap ((n : Int) * 8) = (L : Int) := by rw [IntKind.wrap_u64]; omega
  have eu : IntKind.u64.wrap (n : Int) = (n : Int) := by rw [IntKind.wrap_u64]; omega
  have hc0 : (w.alloc (.cells (bvs (List.replicate s 0)).toArray 5)).cell? ⟨w.heap.size, 0, none⟩ = some (.int .u8 0) := by
    have := (Row.new w (List.replicate s 0)).cell 0 (by simp; omega)
    simpa [bv] using this
  have hf0 := (Row.new w (List.replicate s 0)).free 0
  have Hst := Lib.hid (show Row (w.alloc (.cells ((bvs (List.replicate s 0)).set 0 (.int .u8 128)).toArray 5)) w.heap.size (fout n 0) by
    rw [← fout_zero, ← hs]
    have := Row.new w ((List.replicate s 0).set 0 128)
    rw [show bvs ((List.replicate s 0).set 0 128) = (bvs (List.replicate s 0)).set 0 (.int .u8 128) by simp [bvs, bv]] at this
    exact this)
  have HL := Lib.hid hL
  have hmx : ∀ (ts : Array TypeId) (ty : TypeId) (W : World), (Builtin.max_ ts ty #[.int .i64 (n : Int), .int .i64 0]).run Tryd.prog W = .ok (.int .i64 (n : Int)) W := fun ts ty W => by rw [run_max_int2, if_neg (by omega)]
  have hcase : ((t : Int) < 9 ∧ IntKind.i64.wrap ((t : Int) + 64) = (s : Int)) ∨ (¬ (t : Int) < 9 ∧ t = s) := by
    rw [IntKind.wrap_i64]
    omega
  obtain ⟨s1, hs1⟩ : ∃ s1, s1 = s - 1 := ⟨_, rfl⟩
  rw [← hs1] at e2
  have Hs1 := Lib.hid (show s1 = zs n + 8 by omega)
  have hs1b : s1 < s := by omega
  have hs1c : 8 ≤ s1 := by omega
  clear hs hr ht hsz hL hz hs1
  rcases hcase with ⟨h1, h2⟩ | ⟨h1, rfl⟩
  · go_enter Tryd.func9, Tryd.ntmps9
    go_wp2
    clear hmx hmk hc0 hf0
    go_loopw [23] (fun i wr => ∃ k : Nat, k ≤ 8 ∧ i = .int .i64 (k : Int) ∧ Hid (Row wr w.heap.size (fout n k)) ∧ Hid (Below w.heap.size w wr)) (fun i _ => 8 - (intOf i).toNat)
    case atStart => exact ⟨0, by omega, rfl, Hst.out, alloc_below w _⟩
    case round =>
      clear Hst
      obtain ⟨k, hk, rfl, HI, Hb⟩ := hrel
      by_cases hlt : k < 8
      · obtain ⟨m, hm⟩ : ∃ m, m = 8 * k := ⟨_, rfl⟩
        obtain ⟨Q, hQ⟩ : ∃ Q, Q = L / 2 ^ m := ⟨_, rfl⟩
        obtain ⟨j, hj⟩ : ∃ j, j = s1 - k := ⟨_, rfl⟩
        have em : IntKind.i64.wrap (8 * (k : Int)) = (m : Int) := by rw [IntKind.wrap_i64]; omega
        have ej : IntKind.i64.wrap ((s1 : Int) - (k : Int)) = (j : Int) := by rw [IntKind.wrap_i64]; omega
        obtain ⟨b, hb⟩ : ∃ b, b = UInt8.ofNat (n * 8 / 256 ^ k % 256) := ⟨_, rfl⟩
        have Heb := Lib.hid (show ((L : Int) / 2 ^ min m 64 % 256) = (b.toNat : Int) by
          have h3 := fbyte n k Q (by rw [hQ, HL.out, hm])
          rw [IntKind.wrap_u8, hQ] at h3
          rw [hb, ← h3, Nat.min_eq_left (by omega)]
          norm_cast)
        have Hn := Lib.hid (show (fout n k).set j b = fout n (k + 1) by rw [hj, hb, Hs1.out]; exact fout_next n k hlt)
        have hc := HI.out.cell j (by rw [fout_len n k hk]; have := Hs1.out; omega)
        have hf := HI.out.free j
        have hjs : j < s1 + 1 := by omega
        generalize (fout n k)[j]'(by rw [fout_len n k hk]; have := Hs1.out; omega) = u at hc
        clear hm hQ hj hb
        go_wp2
        go_roundw
        case rel =>
          refine ⟨k + 1, by omega, by go_num, ?_, ?_⟩
          · show Row _ _ _
            rw [Heb.out, ← Hn.out]
            exact HI.out.put j b
          · show Below _ _ _
            exact Hb.out.setCell (Nat.le_refl _) _
        case measure => simp [intOf]; omega
      · obtain rfl : k = 8 := by omega
        rw [show ((8 : Nat) : Int) = 8 from rfl]
        go_wp2
        go_ret
        have hr := HI.out
        rw [fout_top] at hr
        have hlen : (fillL n).length = s := by rw [fillL_len, ← Hs.out]
        have := Own.row hr (Nat.le_refl _) (by rw [hlen]; omega)
        rw [hlen] at this
        exact ⟨_, _, by rw [hlen]; rfl, this, Hb.out⟩
  · go_enter Tryd.func9, Tryd.ntmps9
    go_wp2
    clear hmx hmk hc0 hf0
    go_loopw [23] (fun i wr => ∃ k : Nat, k ≤ 8 ∧ i = .int .i64 (k : Int) ∧ Hid (Row wr w.heap.size (fout n k)) ∧ Hid (Below w.heap.size w wr)) (fun i _ => 8 - (intOf i).toNat)
    case atStart => exact ⟨0, by omega, rfl, Hst.out, alloc_below w _⟩
    case round =>
      clear Hst
      obtain ⟨k, hk, rfl, HI, Hb⟩ := hrel
      by_cases hlt : k < 8
      · obtain ⟨m, hm⟩ : ∃ m, m = 8 * k := ⟨_, rfl⟩
        obtain ⟨Q, hQ⟩ : ∃ Q, Q = L / 2 ^ m := ⟨_, rfl⟩
        obtain ⟨j, hj⟩ : ∃ j, j = s1 - k := ⟨_, rfl⟩
        have em : IntKind.i64.wrap (8 * (k : Int)) = (m : Int) := by rw [IntKind.wrap_i64]; omega
        have ej : IntKind.i64.wrap ((s1 : Int) - (k : Int)) = (j : Int) := by rw [IntKind.wrap_i64]; omega
        obtain ⟨b, hb⟩ : ∃ b, b = UInt8.ofNat (n * 8 / 256 ^ k % 256) := ⟨_, rfl⟩
        have Heb := Lib.hid (show ((L : Int) / 2 ^ min m 64 % 256) = (b.toNat : Int) by
          have h3 := fbyte n k Q (by rw [hQ, HL.out, hm])
          rw [IntKind.wrap_u8, hQ] at h3
          rw [hb, ← h3, Nat.min_eq_left (by omega)]
          norm_cast)
        have Hn := Lib.hid (show (fout n k).set j b = fout n (k + 1) by rw [hj, hb, Hs1.out]; exact fout_next n k hlt)
        have hc := HI.out.cell j (by rw [fout_len n k hk]; have := Hs1.out; omega)
        have hf := HI.out.free j
        have hjs : j < s1 + 1 := by omega
        generalize (fout n k)[j]'(by rw [fout_len n k hk]; have := Hs1.out; omega) = u at hc
        clear hm hQ hj hb
        go_wp2
        go_roundw
        case rel =>
          refine ⟨k + 1, by omega, by go_num, ?_, ?_⟩
          · show Row _ _ _
            rw [Heb.out, ← Hn.out]
            exact HI.out.put j b
          · show Below _ _ _
            exact Hb.out.setCell (Nat.le_refl _) _
        case measure => simp [intOf]; omega
      · obtain rfl : k = 8 := by omega
        rw [show ((8 : Nat) : Int) = 8 from rfl]
        go_wp2
        go_ret
        have hr := HI.out
        rw [fout_top] at hr
        have hlen : (fillL n).length = t := by rw [fillL_len, ← Hs.out]
        have := Own.row hr (Nat.le_refl _) (by rw [hlen]; omega)
        rw [hlen] at this
        exact ⟨_, _, by rw [hlen]; rfl, this, Hb.out⟩
end Go.Proofs.YtoaogcchaafikaaDoor.S3
