/-
  SpaceSums' walk.
-/
import Derived.Test.YtdeojgdjjckoeaaSpP
namespace Go.Proofs.Ytdeojgdjjckoeaa.S15
open Cf
open Go.RowKit
set_option linter.unusedVariables false
set_option linter.unusedSimpArgs false
section
variable {D : STab}
theorem mod_num (n : Int) (q : Nat) (hq : 0 < q) (hq2 : q ≤ 1000) : ∃ k : Nat, (k : Int) = (wrap64 (n.tmod (q : Int) + (q : Int))).tmod (q : Int) ∧ k < q := by
  have a1 := Int.tmod_lt_of_pos n (b := (q : Int)) (by omega)
  have a2 := Int.lt_tmod_of_pos n (b := (q : Int)) (by omega)
  generalize n.tmod (q : Int) = x at a1 a2
  have e : wrap64 (x + (q : Int)) = x + (q : Int) := by
    unfold wrap64
    omega
  rw [e, Int.tmod_eq_emod_of_nonneg (by omega)]
  have h0 := Int.emod_nonneg (x + (q : Int)) (b := (q : Int)) (by omega)
  have h1 := Int.emod_lt_of_pos (x + (q : Int)) (b := (q : Int)) (by omega)
  exact ⟨((x + (q : Int)) % (q : Int)).toNat, by omega, by omega⟩
theorem free_eq (s : Sp) : spFree s + (s.used.length : Int) + (s.going.length : Int) = s.last - s.first := by unfold spFree; omega
theorem give_going (s : Sp) (n : Int) : ((spGive s [n]).1 = 0 ∧ (spGive s [n]).2.going.length = s.going.length + 1 ∨ (spGive s [n]).1 = 2 ∧ (spGive s [n]).2 = s) ∧ (spGive s [n]).2.first = s.first ∧ (spGive s [n]).2.last = s.last := by
  unfold spGive
  split
  · exact ⟨.inl ⟨rfl, by simp⟩, rfl, rfl⟩
  · exact ⟨.inr ⟨rfl, rfl⟩, rfl, rfl⟩
theorem back_going (s : Sp) (n : Int) : (spBack s [n]).2.going = s.going ∧ (spBack s [n]).2.first = s.first ∧ (spBack s [n]).2.last = s.last := by
  unfold spBack
  split <;> exact ⟨rfl, rfl, rfl⟩
theorem take_going (s : Sp) : (spTake s).2.2.going = s.going ∧ (spTake s).2.2.first = s.first ∧ (spTake s).2.2.last = s.last := by
  unfold spTake
  split <;> exact ⟨rfl, rfl, rfl⟩
set_option maxHeartbeats 8000000 in
theorem sums_walk (K : SpaceOk D) (n : Int) (hn0 : -9223372036854775808 ≤ n) (hn1 : n < 9223372036854775808) (A : Option Addr) (m c : Nat) (acts : List UInt8) (w : World) (hA : Rd w w.heap.size A acts) (hm : acts.length = m) :
    Calls Try.prog 6 #[.int .i64 n, .slice A m c] w fun e w' => e = .returned (.bool true) ∧ Below w.heap.size w w' := by
  have KK := Lib.hid K
  have HA := Lib.hid hA
  have HM := Lib.hid hm
  clear K hA hm
  obtain ⟨j, hj, hj30⟩ := mod_num n 30 (by omega) (by omega)
  have hj' : (wrap64 (n.tmod 30 + 30)).tmod 30 = (j : Int) := hj.symm
  clear hj
  go_enter Try.func6, Try.ntmps6
  go_wp2_with fail
  refine (awakeSp KK.out w).mono ?_
  rintro e w0 ⟨rfl, hg0⟩
  have G0 := Lib.hid hg0
  clear hg0
  by_cases h1 : 60 < m
  · have b1 : (m : Int) > 60 := by omega
    go_wp2_with fail
    refine (awakeSp KK.out w0).mono ?_
    rintro e wz ⟨rfl, hgz⟩
    have GZ := Lib.hid (Grown.trans G0.out hgz)
    clear hgz
    go_wp2
    go_ret
    exact ⟨rfl, GZ.out⟩
  have b1 : ¬ (m : Int) > 60 := by omega
  have hm60 : m ≤ 60 := by omega
  clear h1
  go_wp2_with fail
  obtain ⟨k, hk⟩ : ∃ k, k = j + 1 := ⟨_, rfl⟩
  rw [show (1 : Int) + (j : Int) = (k : Int) by omega]
  have hk1 : 1 ≤ k := by omega
  have hk30 : k ≤ 30 := by omega
  clear hk
  refine (KK.out.new w0 3 (3 + (k : Int)) (by omega) (by omega) (by omega)).mono ?_
  rintro e w1 ⟨G, F, rfl, hd, hF, hg⟩
  have Z1 := Lib.hid (show SSince D w w1 G F (spNew 3 (3 + (k : Int))) from ⟨hd, fun k hk => Nat.le_trans G0.out.size (hF k hk), Grown.trans G0.out hg⟩)
  have O1 := Lib.hid (spOk_new 3 (3 + (k : Int)) (by omega) (by omega) (by omega))
  clear hd hF hg G0
  go_wp2_with fail
  go_loopw [8, 9] (fun v8 v9 wr => ∃ (i : Nat) (s : Sp) (F : Nat → Prop), v8 = .int .i64 (s.going.length : Int) ∧ v9 = .int .i64 (i : Int) ∧ i ≤ m ∧ Hid (SpOk s) ∧ Hid (s.first = 3 ∧ s.last = 3 + (k : Int)) ∧ Hid (SSince D w wr G F s)) (fun _ v9 _ => m - (intOf v9).toNat)
  case atStart => exact ⟨0, _, F, rfl, rfl, Nat.zero_le _, O1.out, ⟨rfl, rfl⟩, Z1.out⟩
  case round =>
    clear Z1 O1 F
    obtain ⟨i, s, F, rfl, rfl, hi, HO, HB, HZ⟩ := hrel
    by_cases hlt : i < m
    · have bi : (i : Int) < (m : Int) := by omega
      have hia : i < acts.length := by rw [HM.out]; exact hlt
      obtain ⟨x, hx⟩ : ∃ x, x = acts[i] := ⟨_, rfl⟩
      obtain ⟨b5, o5, rfl, hb5, hcw⟩ := HA.out.at_ hia
      have hcx : wr.cell? ⟨b5, o5 + i, none⟩ = some (.int .u8 (x.toNat : Int)) := by rw [HZ.out.2.2.cell (p := ⟨b5, o5 + i, none⟩) hb5, hx]; exact hcw
      have hx256 := u8_lt x
      obtain ⟨q, hq⟩ : ∃ q, q = x.toNat / 4 := ⟨_, rfl⟩
      obtain ⟨r, hr⟩ : ∃ r, r = x.toNat % 4 := ⟨_, rfl⟩
      obtain ⟨a, ha⟩ : ∃ a, a = q % k := ⟨_, rfl⟩
      have hqt : ((x.toNat : Int).tdiv 4) = (q : Int) := by rw [Int.tdiv_eq_ediv_of_nonneg (by omega)]; omega
      have hrt : ((x.toNat : Int).tmod 4) = (r : Int) := by rw [Int.tmod_eq_emod_of_nonneg (by omega)]; omega
      have hat : ((q : Int) % 256 % (k : Int)) = (a : Int) := by rw [ha, show (q : Int) % 256 = (q : Int) by omega]; omega
      have hak : a < k := by rw [ha]; exact Nat.mod_lt _ (by omega)
      have hr4 : r < 4 := by omega
      have hk0 : (k : Int) ≠ 0 := by omega
      clear hx hcw hia ha hq hr
      obtain rfl | rfl | rfl | rfl : r = 0 ∨ r = 1 ∨ r = 2 ∨ r = 3 := by omega
      · have hrt' : ((x.toNat : Int).tmod 4) = 0 := hrt
        clear hrt
        go_wp2_with fail
        refine (KK.out.take wr G F s HZ.out.1 HO.out).mono ?_
        rintro e w5 ⟨rfl, h1⟩
        obtain ⟨F5, hz, _⟩ := HZ.out.step h1
        have hgo := take_going s
        have OO := Lib.hid (ok_take HO.out)
        have ZZ := Lib.hid hz
        obtain ⟨v1, hv1⟩ : ∃ v, v = (spTake s).1 := ⟨_, rfl⟩
        obtain ⟨v2, hv2⟩ : ∃ v, v = (spTake s).2.1 := ⟨_, rfl⟩
        rw [← hv1, ← hv2]
        obtain ⟨s1, hs1⟩ : ∃ s1, s1 = (spTake s).2.2 := ⟨_, rfl⟩
        rw [← hs1] at OO ZZ hgo
        obtain ⟨gl, hgl⟩ : ∃ gl, gl = s.going.length := ⟨_, rfl⟩
        rw [← hgl]
        have HGl := Lib.hid (show gl = s1.going.length by rw [hgl, hgo.1])
        have LL := Lib.hid (show s1.first = 3 ∧ s1.last = 3 + (k : Int) by rw [hgo.2.1, hgo.2.2]; exact HB.out)
        clear h1 hz hgo hs1 hgl hv1 hv2 HZ HO HB hcx
        have NF := Lib.hid (free_nonneg OO.out)
        obtain ⟨fr, hfr⟩ : ∃ fr, fr = spFree s1 := ⟨_, rfl⟩
        obtain ⟨ul, hul⟩ : ∃ ul, ul = s1.used.length := ⟨_, rfl⟩
        have hsum : fr + (ul : Int) + (gl : Int) = (k : Int) := by
          have h1 := free_eq s1
          rw [LL.out.1, LL.out.2] at h1
          have h2 := HGl.out
          omega
        have hnf : 0 ≤ fr := by rw [hfr]; exact NF.out
        obtain ⟨t1, ht1⟩ : ∃ t1, t1 = fr + (ul : Int) := ⟨_, rfl⟩
        have hwa : wrap64 (fr + (ul : Int)) = t1 := by unfold wrap64; omega
        have hwb : wrap64 (t1 + (gl : Int)) = (k : Int) := by unfold wrap64; omega
        have HUl := Lib.hid hul
        have HFr := Lib.hid hfr
        clear hsum ht1 hul hfr
        go_wp2_with fail
        refine (KK.out.free w5 G F5 s1 ZZ.out.1 OO.out).mono ?_
        rintro e wf ⟨rfl, hgf⟩
        rw [← HFr.out]
        have ZF := Lib.hid (ZZ.out.grow KK.out hgf)
        clear hgf ZZ HFr
        go_wp2_with fail
        refine (KK.out.used wf G F5 s1 ZF.out.1 OO.out).mono ?_
        rintro e wu ⟨Au, mu, cu, rfl, hmu, hcu, _, hgu, _⟩
        obtain rfl : mu = ul := by rw [HUl.out]; exact hmu.symm
        have ZU := Lib.hid (ZF.out.grow KK.out hgu)
        clear hgu ZF HUl hmu hcu
        go_wp2
        exact ⟨⟨i + 1, s1, F5, by rw [HGl.out], by simp, by omega, OO.out, LL.out, ZU.out⟩, by simp [intOf]; omega⟩
      · have hrt' : ((x.toNat : Int).tmod 4) = 1 := hrt
        clear hrt
        go_wp2_with fail
        refine (give1 KK.out HZ.out HO.out (3 + (a : Int)) (by unfold Ir; omega) _).mono ?_
        rintro e w5 ⟨rfl, F5, hz, _⟩
        have hgo := give_going s (3 + (a : Int))
        have OO := Lib.hid (ok_give HO.out [3 + (a : Int)])
        have ZZ := Lib.hid hz
        obtain ⟨v2, hv2⟩ : ∃ v, v = (spGive s [3 + (a : Int)]).1 := ⟨_, rfl⟩
        obtain ⟨s1, hs1⟩ : ∃ s1, s1 = (spGive s [3 + (a : Int)]).2 := ⟨_, rfl⟩
        rw [← hs1, ← hv2] at hgo
        rw [← hv2]
        rw [← hs1] at OO ZZ
        have LL := Lib.hid (show s1.first = 3 ∧ s1.last = 3 + (k : Int) by rw [hgo.2.1, hgo.2.2]; exact HB.out)
        obtain ⟨gl0, hgl0⟩ : ∃ gl, gl = s.going.length := ⟨_, rfl⟩
        rw [← hgl0]
        rw [← hgl0] at hgo
        have hgle : s.going.length = gl0 := hgl0.symm
        have hgb : gl0 ≤ 100 := by
          have h1 := free_eq s
          have h2 := free_nonneg HO.out
          rw [HB.out.1, HB.out.2] at h1
          omega
        clear hs1 hv2 hgl0 hz HZ HO HB hcx
        rcases hgo.1 with ⟨rfl, hg⟩ | ⟨rfl, hg⟩
        · obtain ⟨gl, hgl⟩ : ∃ gl, gl = gl0 + 1 := ⟨_, rfl⟩
          have HGl := Lib.hid (show gl = s1.going.length by rw [hgl, hg])
          have hgi : ((gl0 : Int) + 1) = (gl : Int) := by omega
          clear hg hgo hgl
          go_wp2_with fail
          clear hgi
          have NF := Lib.hid (free_nonneg OO.out)
          obtain ⟨fr, hfr⟩ : ∃ fr, fr = spFree s1 := ⟨_, rfl⟩
          obtain ⟨ul, hul⟩ : ∃ ul, ul = s1.used.length := ⟨_, rfl⟩
          have hsum : fr + (ul : Int) + (gl : Int) = (k : Int) := by
            have h1 := free_eq s1
            rw [LL.out.1, LL.out.2] at h1
            have h2 := HGl.out
            omega
          have hnf : 0 ≤ fr := by rw [hfr]; exact NF.out
          obtain ⟨t1, ht1⟩ : ∃ t1, t1 = fr + (ul : Int) := ⟨_, rfl⟩
          have hwa : wrap64 (fr + (ul : Int)) = t1 := by unfold wrap64; omega
          have hwb : wrap64 (t1 + (gl : Int)) = (k : Int) := by unfold wrap64; omega
          have HUl := Lib.hid hul
          have HFr := Lib.hid hfr
          clear hsum ht1 hul hfr
          refine (KK.out.free w5 G F5 s1 ZZ.out.1 OO.out).mono ?_
          rintro e wf ⟨rfl, hgf⟩
          rw [← HFr.out]
          have ZF := Lib.hid (ZZ.out.grow KK.out hgf)
          clear hgf ZZ HFr
          go_wp2_with fail
          refine (KK.out.used wf G F5 s1 ZF.out.1 OO.out).mono ?_
          rintro e wu ⟨Au, mu, cu, rfl, hmu, hcu, _, hgu, _⟩
          obtain rfl : mu = ul := by rw [HUl.out]; exact hmu.symm
          have ZU := Lib.hid (ZF.out.grow KK.out hgu)
          clear hgu ZF HUl hmu hcu
          go_wp2
          exact ⟨⟨i + 1, s1, F5, by rw [HGl.out], by simp, by omega, OO.out, LL.out, ZU.out⟩, by simp [intOf]; omega⟩
        · obtain ⟨gl, hgl⟩ : ∃ gl, gl = gl0 := ⟨_, rfl⟩
          have HGl := Lib.hid (show gl = s1.going.length by rw [hgl, hg, hgle])
          subst hgl
          clear hg hgo hgle
          have NF := Lib.hid (free_nonneg OO.out)
          obtain ⟨fr, hfr⟩ : ∃ fr, fr = spFree s1 := ⟨_, rfl⟩
          obtain ⟨ul, hul⟩ : ∃ ul, ul = s1.used.length := ⟨_, rfl⟩
          have hsum : fr + (ul : Int) + (gl : Int) = (k : Int) := by
            have h1 := free_eq s1
            rw [LL.out.1, LL.out.2] at h1
            have h2 := HGl.out
            omega
          have hnf : 0 ≤ fr := by rw [hfr]; exact NF.out
          obtain ⟨t1, ht1⟩ : ∃ t1, t1 = fr + (ul : Int) := ⟨_, rfl⟩
          have hwa : wrap64 (fr + (ul : Int)) = t1 := by unfold wrap64; omega
          have hwb : wrap64 (t1 + (gl : Int)) = (k : Int) := by unfold wrap64; omega
          have HUl := Lib.hid hul
          have HFr := Lib.hid hfr
          clear hsum ht1 hul hfr
          go_wp2_with fail
          refine (KK.out.free w5 G F5 s1 ZZ.out.1 OO.out).mono ?_
          rintro e wf ⟨rfl, hgf⟩
          rw [← HFr.out]
          have ZF := Lib.hid (ZZ.out.grow KK.out hgf)
          clear hgf ZZ HFr
          go_wp2_with fail
          refine (KK.out.used wf G F5 s1 ZF.out.1 OO.out).mono ?_
          rintro e wu ⟨Au, mu, cu, rfl, hmu, hcu, _, hgu, _⟩
          obtain rfl : mu = ul := by rw [HUl.out]; exact hmu.symm
          have ZU := Lib.hid (ZF.out.grow KK.out hgu)
          clear hgu ZF HUl hmu hcu
          go_wp2
          exact ⟨⟨i + 1, s1, F5, by rw [HGl.out], by simp, by omega, OO.out, LL.out, ZU.out⟩, by simp [intOf]; omega⟩
      · have hrt' : ((x.toNat : Int).tmod 4) = 2 := hrt
        clear hrt
        go_wp2_with fail
        refine (back1 KK.out HZ.out HO.out (3 + (a : Int)) (by unfold Ir; omega) _).mono ?_
        rintro e w5 ⟨rfl, F5, hz⟩
        have hgo := back_going s (3 + (a : Int))
        have OO := Lib.hid (ok_back HO.out [3 + (a : Int)])
        have ZZ := Lib.hid hz
        obtain ⟨v2, hv2⟩ : ∃ v, v = (spBack s [3 + (a : Int)]).1 := ⟨_, rfl⟩
        rw [← hv2]
        obtain ⟨s1, hs1⟩ : ∃ s1, s1 = (spBack s [3 + (a : Int)]).2 := ⟨_, rfl⟩
        rw [← hs1] at OO ZZ hgo
        obtain ⟨gl, hgl⟩ : ∃ gl, gl = s.going.length := ⟨_, rfl⟩
        rw [← hgl]
        have HGl := Lib.hid (show gl = s1.going.length by rw [hgl, hgo.1])
        have LL := Lib.hid (show s1.first = 3 ∧ s1.last = 3 + (k : Int) by rw [hgo.2.1, hgo.2.2]; exact HB.out)
        clear hz hgo hs1 hgl hv2 HZ HO HB hcx
        have NF := Lib.hid (free_nonneg OO.out)
        obtain ⟨fr, hfr⟩ : ∃ fr, fr = spFree s1 := ⟨_, rfl⟩
        obtain ⟨ul, hul⟩ : ∃ ul, ul = s1.used.length := ⟨_, rfl⟩
        have hsum : fr + (ul : Int) + (gl : Int) = (k : Int) := by
          have h1 := free_eq s1
          rw [LL.out.1, LL.out.2] at h1
          have h2 := HGl.out
          omega
        have hnf : 0 ≤ fr := by rw [hfr]; exact NF.out
        obtain ⟨t1, ht1⟩ : ∃ t1, t1 = fr + (ul : Int) := ⟨_, rfl⟩
        have hwa : wrap64 (fr + (ul : Int)) = t1 := by unfold wrap64; omega
        have hwb : wrap64 (t1 + (gl : Int)) = (k : Int) := by unfold wrap64; omega
        have HUl := Lib.hid hul
        have HFr := Lib.hid hfr
        clear hsum ht1 hul hfr
        go_wp2_with fail
        refine (KK.out.free w5 G F5 s1 ZZ.out.1 OO.out).mono ?_
        rintro e wf ⟨rfl, hgf⟩
        rw [← HFr.out]
        have ZF := Lib.hid (ZZ.out.grow KK.out hgf)
        clear hgf ZZ HFr
        go_wp2_with fail
        refine (KK.out.used wf G F5 s1 ZF.out.1 OO.out).mono ?_
        rintro e wu ⟨Au, mu, cu, rfl, hmu, hcu, _, hgu, _⟩
        obtain rfl : mu = ul := by rw [HUl.out]; exact hmu.symm
        have ZU := Lib.hid (ZF.out.grow KK.out hgu)
        clear hgu ZF HUl hmu hcu
        go_wp2
        exact ⟨⟨i + 1, s1, F5, by rw [HGl.out], by simp, by omega, OO.out, LL.out, ZU.out⟩, by simp [intOf]; omega⟩
      · have hrt' : ((x.toNat : Int).tmod 4) = 3 := hrt
        clear hrt
        go_wp2_with fail
        refine (KK.out.settle wr G F s HZ.out.1 HO.out).mono ?_
        rintro e w5 ⟨rfl, h1⟩
        obtain ⟨F5, hz, _⟩ := HZ.out.step h1
        have OO := Lib.hid (ok_settle HO.out)
        have ZZ := Lib.hid hz
        have LL := Lib.hid (show (spSettle s).first = 3 ∧ (spSettle s).last = 3 + (k : Int) from HB.out)
        have HGl := Lib.hid (show 0 = (spSettle s).going.length from rfl)
        obtain ⟨s1, hs1⟩ : ∃ s1, s1 = spSettle s := ⟨_, rfl⟩
        rw [← hs1] at OO ZZ LL HGl
        clear h1 hz hs1 HZ HO HB hcx
        have NF := Lib.hid (free_nonneg OO.out)
        obtain ⟨fr, hfr⟩ : ∃ fr, fr = spFree s1 := ⟨_, rfl⟩
        obtain ⟨ul, hul⟩ : ∃ ul, ul = s1.used.length := ⟨_, rfl⟩
        have hsum : fr + (ul : Int) + ((0 : Nat) : Int) = (k : Int) := by
          have h1 := free_eq s1
          rw [LL.out.1, LL.out.2] at h1
          have h2 := HGl.out
          omega
        have hnf : 0 ≤ fr := by rw [hfr]; exact NF.out
        have hwa : wrap64 (fr + (ul : Int)) = (k : Int) := by unfold wrap64; omega
        have HUl := Lib.hid hul
        have HFr := Lib.hid hfr
        clear hsum hul hfr
        go_wp2_with fail
        refine (KK.out.free w5 G F5 s1 ZZ.out.1 OO.out).mono ?_
        rintro e wf ⟨rfl, hgf⟩
        rw [← HFr.out]
        have ZF := Lib.hid (ZZ.out.grow KK.out hgf)
        clear hgf ZZ HFr
        go_wp2_with fail
        refine (KK.out.used wf G F5 s1 ZF.out.1 OO.out).mono ?_
        rintro e wu ⟨Au, mu, cu, rfl, hmu, hcu, _, hgu, _⟩
        obtain rfl : mu = ul := by rw [HUl.out]; exact hmu.symm
        have ZU := Lib.hid (ZF.out.grow KK.out hgu)
        clear hgu ZF HUl hmu hcu
        go_wp2
        exact ⟨⟨i + 1, s1, F5, by rw [← HGl.out]; rfl, by simp, by omega, OO.out, LL.out, ZU.out⟩, by simp [intOf]; omega⟩
    · have bi : ¬ (i : Int) < (m : Int) := by omega
      go_wp2
      go_ret
      exact ⟨rfl, HZ.out.2.2⟩
end
end Go.Proofs.Ytdeojgdjjckoeaa.S15
