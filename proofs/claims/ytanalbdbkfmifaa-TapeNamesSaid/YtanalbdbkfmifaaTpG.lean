/-
  TapeGood out of the program's contracts.
-/
import Derived.Test.YtanalbdbkfmifaaTpA
namespace Go.Proofs.Ytanalbdbkfmifaa.S11
open Go.RowKit
set_option linter.unusedVariables false
set_option linter.unusedSimpArgs false

def bG (s : UInt8) (i : Nat) : UInt8 := s + UInt8.ofNat i
theorem bG_nat (s : UInt8) (i : Nat) : (bG s i).toNat = (s.toNat + i) % 256 := by
  unfold bG
  rw [UInt8.toNat_add, UInt8.toNat_ofNat']
  omega
theorem bG_inj (s : UInt8) (i j : Nat) (hi : i < 256) (hj : j < 256) (e : bG s i = bG s j) : i = j := by
  have h1 := bG_nat s i
  have h2 := bG_nat s j
  have := s.toNat_lt
  rw [e] at h1
  omega
/-- A tape whose bytes are all unlike. -/
def seedG (s : UInt8) (m : Nat) : List UInt8 := (List.range m).map (bG s)
theorem seedG_len (s : UInt8) (m : Nat) : (seedG s m).length = m := by simp [seedG]
theorem seedG_succ (s : UInt8) (m : Nat) : seedG s m ++ [bG s m] = seedG s (m + 1) := by simp [seedG, List.range_succ]
/-- k of the bytes are drawn. -/
structure GoodF (s : UInt8) (k : Nat) (st : St) : Prop where
  seed : st.seed = (seedG s 60).drop k
  fs : ∀ t ∈ st.fs, ∃ j, j < k ∧ t.y = [bG s j]
  len : st.fs.length = k
  ps : st.ps = []
  bad : st.bad = false
  cnt : st.cnt = k
theorem goodF_start (s : UInt8) : GoodF s 0 (emp (seedG s 60)) := ⟨rfl, fun t ht => absurd ht (by simp [emp]), rfl, rfl, rfl, rfl⟩
theorem goodF_step (s : UInt8) (k : Nat) (st : St) (q : List UInt8) (h : GoodF s k st) (hk : k < 60) : ∃ k', k' ≤ k + 1 ∧ GoodF s k' (fnOp st [102] q 1).2 := by
  unfold fnOp
  split
  · exact ⟨k, by omega, h⟩
  · have hy : drawO st.seed (1 : Int).toNat = [bG s k] := by
      show drawO st.seed 1 = _
      have e : gz st.seed 0 = bG s k := by
        rw [h.seed, gz_drop]
        simp [gz, seedG, hk]
      show [gz st.seed 0] = _
      rw [e]
    refine ⟨k + 1, Nat.le_refl _, ?_⟩
    rw [hy]
    refine ⟨?_, fun t ht => ?_, ?_, h.ps, ?_, ?_⟩
    · show st.seed.drop 1 = _
      rw [h.seed, List.drop_drop]
    · rcases List.mem_append.1 ht with h1 | h1
      · obtain ⟨j, hj, e⟩ := h.fs t h1
        exact ⟨j, by omega, e⟩
      · simp only [List.mem_singleton] at h1
        subst h1
        exact ⟨k, by omega, rfl⟩
    · show (st.fs ++ _).length = _
      simp [h.len]
    · show (st.bad || st.fs.any (badF [102] [bG s k])) = false
      rw [h.bad, Bool.false_or, List.any_eq_false]
      intro t ht
      obtain ⟨j, hj, e⟩ := h.fs t ht
      have hne : ¬ bG s j = bG s k := fun e2 => by
        have := bG_inj s j k (by omega) (by omega) e2
        omega
      simp [badF, e, hne]
    · show st.cnt + 1 = _
      rw [h.cnt]
/-- The slice at A reads as the texts. -/
def RdS (w : World) (B : Nat) (A : Option Addr) (qs : List (List UInt8)) : Prop :=
  qs = [] ∨ ∃ b off, A = some ⟨b, off, none⟩ ∧ b < B ∧ ∀ i (h : i < qs.length), w.cell? ⟨b, off + i, none⟩ = some (.string ⟨qs[i].toArray⟩)

set_option maxHeartbeats 8000000 in
set_option maxRecDepth 20000 in
theorem good_walk {Lz : Tab} (K : TapeOk Lz) (s : UInt8) (D : Option Addr) (m d : Nat) (qs : List (List UInt8)) (w : World) (hD : RdS w w.heap.size D qs) (hm : qs.length = m) (hd : m ≤ d) :
    Calls Try.prog 5 #[.int .u8 (s.toNat : Int), .slice D m d] w fun e w' => e = .returned (.bool true) ∧ Below w.heap.size w w' := by
  have HD := Lib.hid hD
  have HM := Lib.hid hm
  clear hD hm
  by_cases h2 : (m : Int) > 40
  · go_enter Try.func5, Try.ntmps5
    go_wp2_with fail
    refine (awakeT K w).mono ?_
    rintro e w1 ⟨rfl, hg1⟩
    go_wp2_with fail
    refine (awakeT K w1).mono ?_
    rintro e w2 ⟨rfl, hg2⟩
    have HG := Lib.hid (Grown.trans hg1 hg2)
    go_wp2
    go_ret
    exact ⟨rfl, HG.out⟩
  go_enter Try.func5, Try.ntmps5
  go_wp2_with fail
  refine (awakeT K w).mono ?_
  rintro e w1 ⟨rfl, hg1⟩
  have G1 := Lib.hid hg1
  have hm4 : m ≤ 40 := by omega
  clear hg1
  go_wp2_with fail
  go_loopw [5, 6] (fun v5 v6 wr => ∃ (i : Nat) (A5 : Option Addr) (c5 : Nat), v5 = .slice A5 i c5 ∧ v6 = .int .i64 (i : Int) ∧ i ≤ 60 ∧ Hid (Own wr w.heap.size A5 c5 (seedG s i)) ∧ Hid (Grown w wr)) (fun _ v6 _ => 60 - (intOf v6).toNat)
  case atStart => exact ⟨0, none, 0, rfl, rfl, by omega, Own.nil _ _, G1.out⟩
  case round =>
    clear G1
    obtain ⟨i, A5, c5, rfl, rfl, hi, HO, HG⟩ := hrel
    by_cases hlt : i < 60
    · have bi : (i : Int) < 60 := by omega
      obtain ⟨x, hx⟩ : ∃ x, x = bG s i := ⟨_, rfl⟩
      have hsl := s.toNat_lt
      have HX := Lib.hid (show seedG s i ++ [x] = seedG s (i + 1) by rw [hx]; exact seedG_succ s i)
      have HOl := Lib.hid (seedG_len s i)
      have hxs : ((s.toNat : Int) + (i : Int)) % 256 = (x.toNat : Int) := by rw [hx, bG_nat]; omega
      have Hsz := Lib.hid (show w.heap.size ≤ wr.heap.size from HG.out.size)
      clear hx
      go_wp2_with (first
        | (at_builtin
           refine wpList_app rfl (.tmp 21) (.tmp 26) rfl (base := w.heap.size) (l := seedG s i) (by rw [HOl.out]; rfl) (HO.out.grow (alloc_below wr _)) (l2 := [x]) rfl ((Row.new wr [x]).rd (Nat.lt_succ_self _)) (by rw [HOl.out]; simp; omega) (by have := Hsz.out; simp; omega) (seedG s (i + 1)) HX.out ?_
           intro A9 c9 w9 ho9 hb9
           rw [show (seedG s (i + 1)).length = i + 1 from seedG_len _ _]
           have O9 := Lib.hid ho9
           have B9 := Lib.hid (show Grown w w9 from Below.trans HG.out (((Below.refl _ _).alloc Hsz.out _).trans hb9))
           clear ho9 hb9))
      go_roundw
      case rel => exact ⟨i + 1, A9, c9, rfl, by go_num, by omega, O9.out, B9.out⟩
      case measure => simp [intOf]; omega
    · have bi : ¬ (i : Int) < 60 := by omega
      obtain rfl : i = 60 := by omega
      go_wp2_with fail
      refine (K.new A5 60 c5 (seedG s 60) wr HO.out.rd (seedG_len _ _) (by have := HO.out.le; rw [seedG_len] at this; exact this) (by omega)).mono ?_
      rintro e w3 ⟨G, F, rfl, hl, hF, hg⟩
      have Z3 := Lib.hid (show Since Lz w w3 G F (emp (seedG s 60)) from ⟨hl, fun k hk => Nat.le_trans HG.out.size (hF k hk), Grown.trans HG.out hg⟩)
      clear hl hF hg HO HG
      go_wp2_with fail
      go_loopw [8] (fun v8 wr => ∃ (i k : Nat) (st : St) (F : Nat → Prop), v8 = .int .i64 (i : Int) ∧ i ≤ m ∧ k ≤ i ∧ Hid (GoodF s k st) ∧ Hid (Since Lz w wr G F st)) (fun v8 _ => m - (intOf v8).toNat)
      case atStart => exact ⟨0, 0, emp (seedG s 60), F, rfl, Nat.zero_le _, Nat.le_refl _, goodF_start s, Z3.out⟩
      case round =>
        clear Z3
        obtain ⟨i, k, st, F, rfl, hi, hk, HS, HZ⟩ := hrel
        have HFew := Lib.hid (show Few st from ⟨by have := HS.out.len; omega, by rw [HS.out.ps]; simp, by have := HS.out.cnt; omega⟩)
        by_cases hlt : i < m
        · have bi : (i : Int) < (m : Int) := by omega
          have hil : i < qs.length := by have := HM.out; omega
          obtain ⟨b, off, hDe, hb, hcells⟩ : ∃ b off, D = some ⟨b, off, none⟩ ∧ b < w.heap.size ∧ ∀ i (h : i < qs.length), w.cell? ⟨b, off + i, none⟩ = some (.string ⟨qs[i].toArray⟩) := by
            rcases HD.out with e | h
            · rw [e] at hil; simp at hil
            · exact h
          have k0 := hcells i hil
          obtain ⟨q, hq⟩ : ∃ q, q = qs[i] := ⟨_, rfl⟩
          rw [← hq] at k0
          have hcell : ∀ j, wr.cell? ⟨b, j, none⟩ = w.cell? ⟨b, j, none⟩ := fun j => World.cell?_of_block (HZ.out.2.2.block b hb)
          rw [← hcell] at k0
          subst hDe
          clear hq hcell hcells
          by_cases t1 : (q.length : Int) > 50
          · have HG := Lib.hid HZ.out.2.2
            go_wp2
            go_ret
            exact ⟨rfl, HG.out⟩
          · have hq50 : q.length ≤ 50 := by omega
            go_wp2_with fail
            refine (K.func wr G F st [102] q 1 HZ.out.1 HFew.out (by simp) (by omega) (by omega)).mono ?_
            rintro e w7 ⟨A7, n7, c7, F7, rfl, hl7, hc7, hr7, ha7, hz7, hf7, hch7⟩
            have Z7 := Lib.hid (HZ.out.step hz7 hf7 hch7)
            obtain ⟨k', hk', hg'⟩ := goodF_step s k st q HS.out (by omega)
            have HG7 := Lib.hid hg'
            clear hl7 hc7 hr7 ha7 hz7 hf7 hch7 hg'
            go_wp2
            go_roundw
            case rel => exact ⟨i + 1, k', _, F7, by go_num, by omega, by omega, HG7.out, Z7.out⟩
            case measure => simp [intOf]; omega
        · have bi : ¬ (i : Int) < (m : Int) := by omega
          have hkm : (k : Int) ≤ (m : Int) := by omega
          have HG := Lib.hid HZ.out.2.2
          go_wp2_with fail
          refine (K.bad wr G F st HZ.out.1).mono ?_
          rintro e w8 ⟨rfl, hg8⟩
          rw [HS.out.bad]
          have Z8 := Lib.hid (HZ.out.grow K hg8)
          clear hg8 HZ HG
          go_wp2_with fail
          refine (K.count w8 G F st Z8.out.1).mono ?_
          rintro e w9 ⟨rfl, hg9⟩
          rw [HS.out.cnt]
          have G9 := Lib.hid (Grown.trans Z8.out.2.2 hg9)
          clear hg9 Z8
          go_wp2
          go_ret
          exact ⟨rfl, G9.out⟩
end Go.Proofs.Ytanalbdbkfmifaa.S11
