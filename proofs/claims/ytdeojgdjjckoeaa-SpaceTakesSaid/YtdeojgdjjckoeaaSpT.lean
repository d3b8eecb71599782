/-
  SpaceTakes' walk.
-/
import Derived.Test.YtdeojgdjjckoeaaSpS
namespace Go.Proofs.Ytdeojgdjjckoeaa.S15
open Cf
open Go.RowKit
set_option linter.unusedVariables false
set_option linter.unusedSimpArgs false
/-- The first i of k are used, from 2 on. -/
def tk (k i : Nat) : Sp := ⟨2, 2 + (k : Int), (List.range i).map fun (j : Nat) => 2 + (j : Int), []⟩
theorem lo_all (l : List Int) (n : Int) (h : ∀ x ∈ l, x < n) : lo l n = l := by
  unfold lo
  induction l with
  | nil => rfl
  | cons a l ih =>
    rw [List.takeWhile_cons, if_pos (by simpa using h a (by simp)), ih (fun x hx => h x (by simp [hx]))]
theorem tk_ins (k i : Nat) : ins (tk k i).used (2 + (i : Int)) = (tk k (i + 1)).used := by
  unfold ins
  rw [lo_all _ _ (fun x hx => by
    obtain ⟨j, hj, rfl⟩ := List.mem_map.1 hx
    have := List.mem_range.1 hj
    omega)]
  show _ = (List.range (i + 1)).map _
  rw [List.range_succ, List.map_append]
  simp [tk]
theorem tk_least (k i : Nat) (hi : i < k) : ∀ j, j ≤ i → least (tk k i) 0 k = least (tk k i) j (k - j)
  | 0, _ => rfl
  | j + 1, hj => by
    rw [tk_least k i hi j (by omega), show k - j = (k - (j + 1)) + 1 by omega]
    refine least_step (tk k i) j (k - (j + 1)) ?_
    cases hf : isFree (tk k i) ((tk k i).first + (j : Int)) with
    | false => rfl
    | true => exact absurd (List.mem_map.2 ⟨j, List.mem_range.2 (by omega), rfl⟩) (isFree_iff.1 hf).2.1
theorem tk_take (k i : Nat) (hi : i < k) : spTake (tk k i) = (2 + (i : Int), 0, tk k (i + 1)) := by
  have h : least (tk k i) 0 ((tk k i).last - (tk k i).first).toNat = some (2 + (i : Int)) := by
    rw [show ((tk k i).last - (tk k i).first).toNat = k by show (2 + (k : Int) - 2).toNat = k; omega, tk_least k i hi i (Nat.le_refl _), show k - i = (k - i - 1) + 1 by omega]
    refine least_hit (tk k i) i _ (isFree_iff.2 ⟨⟨by show (2 : Int) ≤ 2 + _; omega, by show 2 + (i : Int) < 2 + (k : Int); omega⟩, fun hm => ?_, by simp [tk]⟩)
    obtain ⟨j, hj, e⟩ := List.mem_map.1 hm
    have := List.mem_range.1 hj
    have e' : (2 : Int) + (j : Int) = 2 + (i : Int) := e
    omega
  unfold spTake
  rw [h]
  show (_, _, Sp.mk _ _ _ _) = _
  rw [tk_ins]
  rfl
theorem tk_ok (k i : Nat) (hk : 1 ≤ k) (hk2 : k ≤ 1000) (hi : i ≤ k) : SpOk (tk k i) where
  ord := by
    show ((List.range i).map _).Pairwise (· < ·)
    rw [List.pairwise_map]
    exact List.pairwise_lt_range.imp (fun h => by omega)
  ur x hx := by
    obtain ⟨j, hj, rfl⟩ := List.mem_map.1 hx
    have := List.mem_range.1 hj
    show (2 : Int) ≤ 2 + _ ∧ 2 + (j : Int) < 2 + (k : Int)
    omega
  gn := List.Pairwise.nil
  gr x hx := by simp [tk] at hx
  dis x hx := by simp [tk] at hx
  f0 := by show (0 : Int) ≤ 2; omega
  fl := by show (2 : Int) < 2 + (k : Int); omega
  l1 := by show 2 + (k : Int) ≤ 65536; omega
theorem tk_free (k : Nat) : spFree (tk k k) = 0 := by
  unfold spFree tk
  simp
  omega
section
variable {D : STab}
set_option maxHeartbeats 8000000 in
theorem takes_walk (K : SpaceOk D) (n : Int) (hn0 : -9223372036854775808 ≤ n) (hn1 : n < 9223372036854775808) (A : Option Addr) (m c : Nat) (acts : List UInt8) (w : World) (hA : Rd w w.heap.size A acts) (hm : acts.length = m) :
    Calls Try.prog 4 #[.int .i64 n, .slice A m c] w fun e w' => e = .returned (.bool true) ∧ Below w.heap.size w w' := by
  have KK := Lib.hid K
  have HA := Lib.hid hA
  have HM := Lib.hid hm
  clear K hA hm
  obtain ⟨j, hj, hj30⟩ := mod_num n 50 (by omega) (by omega)
  have hj' : (wrap64 (n.tmod 50 + 50)).tmod 50 = (j : Int) := hj.symm
  clear hj
  go_enter Try.func4, Try.ntmps4
  go_wp2_with fail
  refine (awakeSp KK.out w).mono ?_
  rintro e w0 ⟨rfl, hg0⟩
  have G0 := Lib.hid hg0
  clear hg0
  by_cases h1 : 60 < m
  · have b1 : (m : Int) > 60 := by omega
    go_wp2_with fail
    refine (awakeSp KK.out w0).mono ?_
    rintro e wz ⟨rfl, hgz⟩
    have GZ := Lib.hid (Grown.trans G0.out hgz)
    clear hgz
    go_wp2
    go_ret
    exact ⟨rfl, GZ.out⟩
  have b1 : ¬ (m : Int) > 60 := by omega
  have hm60 : m ≤ 60 := by omega
  clear h1
  go_wp2_with fail
  obtain ⟨k, hk⟩ : ∃ k, k = j + 1 := ⟨_, rfl⟩
  rw [show (1 : Int) + (j : Int) = (k : Int) by omega]
  have hk1 : 1 ≤ k := by omega
  have hk50 : k ≤ 50 := by omega
  clear hk
  refine (KK.out.new w0 2 (2 + (k : Int)) (by omega) (by omega) (by omega)).mono ?_
  rintro e w1 ⟨G, F, rfl, hd, hF, hg⟩
  have Z1 := Lib.hid (show SSince D w w1 G F (tk k 0) from ⟨hd, fun k hk => Nat.le_trans G0.out.size (hF k hk), Grown.trans G0.out hg⟩)
  clear hd hF hg G0
  go_wp2_with fail
  go_loopw [8] (fun v8 wr => ∃ (i : Nat) (F : Nat → Prop), v8 = .int .i64 (i : Int) ∧ i ≤ k ∧ Hid (SSince D w wr G F (tk k i))) (fun v8 _ => k - (intOf v8).toNat)
  case atStart => exact ⟨0, F, rfl, Nat.zero_le _, Z1.out⟩
  case round =>
    clear Z1 F
    obtain ⟨i, F, rfl, hi, HZ⟩ := hrel
    by_cases hlt : i < k
    · have bi : (i : Int) < (k : Int) := by omega
      have HT := Lib.hid (tk_take k i hlt)
      go_wp2_with fail
      refine (KK.out.take wr G F _ HZ.out.1 (tk_ok k i hk1 (by omega) hi)).mono ?_
      rw [HT.out]
      rintro e w5 ⟨rfl, h1⟩
      obtain ⟨F5, hz, _⟩ := HZ.out.step h1
      have ZZ := Lib.hid hz
      clear h1 hz HZ HT
      go_wp2
      exact ⟨⟨i + 1, F5, by simp, by omega, ZZ.out⟩, by simp [intOf]; omega⟩
    · have bi : ¬ (i : Int) < (k : Int) := by omega
      obtain rfl : i = k := by omega
      have O1 := Lib.hid (tk_ok i i hk1 (by omega) (Nat.le_refl _))
      have Z2 := Lib.hid HZ.out
      have F0 := Lib.hid (tk_free i)
      clear HZ hi hlt
      go_wp2_with fail
      go_loopw [11, 12] (fun v11 v12 wr => ∃ (j : Nat) (s : Sp) (F : Nat → Prop), v11 = .int .i64 (s.going.length : Int) ∧ v12 = .int .i64 (j : Int) ∧ j ≤ m ∧ Hid (SpOk s) ∧ Hid (s.first = 2 ∧ s.last = 2 + (i : Int)) ∧ Hid (spFree s = 0) ∧ Hid (SSince D w wr G F s)) (fun _ v12 _ => m - (intOf v12).toNat)
      case atStart => exact ⟨0, _, F, rfl, rfl, Nat.zero_le _, O1.out, ⟨rfl, rfl⟩, F0.out, Z2.out⟩
      case round =>
        clear Z2 O1 F0 F
        obtain ⟨j, s, F, rfl, rfl, hj, HO, HB, HF0, HZ⟩ := hrel
        by_cases hlt : j < m
        · have bj : (j : Int) < (m : Int) := by omega
          have hia : j < acts.length := by rw [HM.out]; exact hlt
          obtain ⟨x, hx⟩ : ∃ x, x = acts[j] := ⟨_, rfl⟩
          obtain ⟨b5, o5, rfl, hb5, hcw⟩ := HA.out.at_ hia
          have hcx : wr.cell? ⟨b5, o5 + j, none⟩ = some (.int .u8 (x.toNat : Int)) := by rw [HZ.out.2.2.cell (p := ⟨b5, o5 + j, none⟩) hb5, hx]; exact hcw
          have hx256 := u8_lt x
          obtain ⟨q, hq⟩ : ∃ q, q = x.toNat := ⟨_, rfl⟩
          rw [← hq] at hcx hx256
          obtain ⟨a, ha⟩ : ∃ a, a = q % i := ⟨_, rfl⟩
          have hat : ((q : Int).tmod (i : Int)) = (a : Int) := by rw [Int.tmod_eq_emod_of_nonneg (by omega), ha]; omega
          have hak : a < i := by rw [ha]; exact Nat.mod_lt _ (by omega)
          have hk0 : (i : Int) ≠ 0 := by omega
          clear hx hcw hia ha hq
          go_wp2_with fail
          refine (give1 KK.out HZ.out HO.out (2 + (a : Int)) (by unfold Ir; omega) _).mono ?_
          rintro e w5 ⟨rfl, F5, hz, _⟩
          have hgo := give_going s (2 + (a : Int))
          have OO := Lib.hid (ok_give HO.out [2 + (a : Int)])
          have ZZ := Lib.hid hz
          have FF := Lib.hid (show spFree (spGive s [2 + (a : Int)]).2 = 0 by rw [free_give HO.out]; exact HF0.out)
          obtain ⟨v2, hv2⟩ : ∃ v, v = (spGive s [2 + (a : Int)]).1 := ⟨_, rfl⟩
          obtain ⟨s1, hs1⟩ : ∃ s1, s1 = (spGive s [2 + (a : Int)]).2 := ⟨_, rfl⟩
          rw [← hs1, ← hv2] at hgo
          rw [← hv2]
          rw [← hs1] at OO ZZ FF
          have LL := Lib.hid (show s1.first = 2 ∧ s1.last = 2 + (i : Int) by rw [hgo.2.1, hgo.2.2]; exact HB.out)
          obtain ⟨gl0, hgl0⟩ : ∃ gl, gl = s.going.length := ⟨_, rfl⟩
          rw [← hgl0]
          rw [← hgl0] at hgo
          have hgle : s.going.length = gl0 := hgl0.symm
          have hgb : gl0 ≤ 100 := by
            have h1 := free_eq s
            have h2 := free_nonneg HO.out
            rw [HB.out.1, HB.out.2] at h1
            omega
          clear hs1 hv2 hgl0 hz HZ HO HB HF0 hcx
          rcases hgo.1 with ⟨rfl, hg⟩ | ⟨rfl, hg⟩
          · obtain ⟨gl, hgl⟩ : ∃ gl, gl = gl0 + 1 := ⟨_, rfl⟩
            have HGl := Lib.hid (show gl = s1.going.length by rw [hgl, hg])
            have hgi : ((gl0 : Int) + 1) = (gl : Int) := by omega
            clear hg hgo hgl
            go_wp2_with fail
            clear hgi
            exact ⟨⟨j + 1, s1, F5, by rw [HGl.out], by simp, by omega, OO.out, LL.out, FF.out, ZZ.out⟩, by simp [intOf]; omega⟩
          · have HGl := Lib.hid (show gl0 = s1.going.length by rw [hg, hgle])
            clear hg hgo hgle
            go_wp2_with fail
            exact ⟨⟨j + 1, s1, F5, by rw [HGl.out], by simp, by omega, OO.out, LL.out, FF.out, ZZ.out⟩, by simp [intOf]; omega⟩
        · have bj : ¬ (j : Int) < (m : Int) := by omega
          obtain ⟨gl, hgl⟩ : ∃ gl, gl = s.going.length := ⟨_, rfl⟩
          rw [← hgl]
          have hgb : gl ≤ 100 := by
            have h1 := free_eq s
            have h2 := free_nonneg HO.out
            rw [HB.out.1, HB.out.2] at h1
            omega
          have HGl := Lib.hid hgl
          have HT := Lib.hid (take_full HO.out HF0.out)
          clear hgl hlt hj HA HM
          go_wp2_with fail
          refine (KK.out.take wr G F s HZ.out.1 HO.out).mono ?_
          rw [HT.out]
          rintro e w5 ⟨rfl, h1⟩
          obtain ⟨F5, hz, _⟩ := HZ.out.step h1
          have ZZ := Lib.hid hz
          clear h1 hz HZ HT
          go_wp2_with fail
          refine (KK.out.free w5 G F5 s ZZ.out.1 HO.out).mono ?_
          rintro e wf ⟨rfl, hgf⟩
          rw [HF0.out]
          have ZF := Lib.hid (ZZ.out.grow KK.out hgf)
          clear hgf ZZ
          go_wp2_with fail
          refine (KK.out.settle wf G F5 s ZF.out.1 HO.out).mono ?_
          rintro e w6 ⟨rfl, h1⟩
          obtain ⟨F6, hz, _⟩ := ZF.out.step h1
          have O2 := Lib.hid (ok_settle HO.out)
          have Z2 := Lib.hid hz
          have LL := Lib.hid (show (spSettle s).first = 2 ∧ (spSettle s).last = 2 + (i : Int) from HB.out)
          have HF2 := Lib.hid (show spFree (spSettle s) = (gl : Int) by rw [HGl.out]; have h0 := HF0.out; unfold spFree at h0; unfold spFree; show s.last - s.first - (s.used.length : Int) - ((0 : Nat) : Int) = _; omega)
          have HG2 := Lib.hid (show (spSettle s).going = [] from rfl)
          obtain ⟨s1, hs1⟩ : ∃ s1, s1 = spSettle s := ⟨_, rfl⟩
          rw [← hs1] at O2 Z2 LL HF2 HG2
          clear h1 hz hs1 ZF HO HB HGl HF0
          go_wp2_with fail
          go_loopw [15] (fun v15 wr => ∃ (j : Nat) (s : Sp) (F : Nat → Prop), v15 = .int .i64 (j : Int) ∧ j ≤ gl ∧ Hid (SpOk s) ∧ Hid (s.first = 2 ∧ s.last = 2 + (i : Int)) ∧ Hid (s.going = []) ∧ Hid (spFree s = (gl : Int) - (j : Int)) ∧ Hid (SSince D w wr G F s)) (fun v15 _ => gl - (intOf v15).toNat)
          case atStart => exact ⟨0, s1, F6, rfl, Nat.zero_le _, O2.out, LL.out, HG2.out, Lib.hid (by rw [HF2.out]; simp), Z2.out⟩
          case round =>
            clear Z2 O2 LL HG2 HF2
            obtain ⟨j, s, F, rfl, hj, HO, HB, HG, HF, HZ⟩ := hrel
            by_cases hlt : j < gl
            · have bj : (j : Int) < (gl : Int) := by omega
              have HT := Lib.hid (take_free HO.out (by rw [HF.out]; omega))
              go_wp2_with fail
              refine (KK.out.take wr G F s HZ.out.1 HO.out).mono ?_
              rintro e w5 ⟨rfl, h1⟩
              obtain ⟨ht0, x, ht1, ht2, ht3⟩ := HT.out
              rw [ht0, ht1]
              obtain ⟨F5, hz, _⟩ := HZ.out.step h1
              have O5 := Lib.hid (ok_take HO.out)
              rw [ht3] at hz O5
              have ZZ := Lib.hid hz
              have HF5 := Lib.hid (show spFree { s with used := ins s.used x } = (gl : Int) - ((j + 1 : Nat) : Int) by rw [free_ins, HF.out]; omega)
              have HB5 := Lib.hid (show ({ s with used := ins s.used x } : Sp).first = 2 ∧ ({ s with used := ins s.used x } : Sp).last = 2 + (i : Int) from HB.out)
              have HG5 := Lib.hid (show ({ s with used := ins s.used x } : Sp).going = [] from HG.out)
              clear h1 hz ht0 ht1 ht2 ht3 HT HZ HO HB HG HF
              go_wp2
              exact ⟨⟨j + 1, _, F5, by simp, by omega, O5.out, HB5.out, HG5.out, HF5.out, ZZ.out⟩, by simp [intOf]; omega⟩
            · have bj : ¬ (j : Int) < (gl : Int) := by omega
              have HT := Lib.hid (take_full HO.out (by rw [HF.out]; omega))
              have hfr0 : spFree s = 0 := by rw [HF.out]; omega
              have hul : s.used.length = i := by
                have h1 := free_eq s
                rw [HB.out.1, HB.out.2, HG.out, hfr0] at h1
                simp at h1
                omega
              have HU := Lib.hid hul
              clear hul hfr0 HF hlt hj
              go_wp2_with fail
              refine (KK.out.take wr G F s HZ.out.1 HO.out).mono ?_
              rw [HT.out]
              rintro e w5 ⟨rfl, h1⟩
              obtain ⟨F5, hz, _⟩ := HZ.out.step h1
              have ZZ := Lib.hid hz
              clear h1 hz HZ HT
              go_wp2_with fail
              refine (KK.out.used w5 G F5 s ZZ.out.1 HO.out).mono ?_
              rintro e wu ⟨Au, mu, cu, rfl, hmu, hcu, _, hgu, _⟩
              obtain rfl : i = mu := by rw [← HU.out]; exact hmu
              have ZU := Lib.hid (ZZ.out.grow KK.out hgu)
              clear hgu ZZ HU hmu hcu
              go_wp2
              go_ret
              exact ⟨rfl, ZU.out.2.2⟩
end
end Go.Proofs.Ytdeojgdjjckoeaa.S15
