/-
  CacheLast's walk, out of what is asked of the program.
-/
import Derived.Test.YthakdjaaknbmpaaMgKactsMain37
namespace Go.Proofs.Ythakdjaaknbmpaa.S14
open S13
open Cf
open Go.RowKit
set_option linter.unusedVariables false
set_option linter.unusedSimpArgs false

theorem keep_take (want : List Int) (k : Nat) (j : Nat) (hj : j < want.length) : (want.take (j + 1)).filter (fun p => decide (p ≠ (k : Int))) = (want.take j).filter (fun p => decide (p ≠ (k : Int))) ++ (if want[j] = (k : Int) then [] else [want[j]]) := by
  rw [List.take_add_one, List.getElem?_eq_getElem hj, List.filter_append]
  congr 1
  by_cases e : want[j] = (k : Int) <;> simp [e]
theorem litZ (w : World) (n : Int) : S15.OwZ (w.alloc (.cells #[.int .i64 n] 3)) w.heap.size (some ⟨w.heap.size, 0, none⟩) 1 [n] :=
  ⟨rfl, .inr ⟨w.heap.size, 1, #[.int .i64 n], rfl, Nat.le_refl _, heap_alloc_new w _, Nat.le_refl _, by unfold maxLen; omega, rfl, rfl⟩⟩
section
variable {D : DTab} {C : CTab}
set_option maxRecDepth 20000 in
set_option maxHeartbeats 8000000 in
theorem last_walk (K : DevOk D) (KC : CacheOk D C) (r : Int) (hr0 : -9223372036854775808 ≤ r) (hr1 : r < 9223372036854775808) (A1 : Option Addr) (n1 c1 : Nat) (xs : List UInt8) (w : World) (hr : Rd w w.heap.size A1 xs) (hn : xs.length = n1) (hc : n1 ≤ c1) :
    Calls Try.prog 5 #[.int .i64 r, .slice A1 n1 c1] w fun e w' => e = .returned (.bool true) ∧ Below w.heap.size w w' := by
  have KK := Lib.hid K
  have KKC := Lib.hid KC
  have HR := Lib.hid hr
  have HN := Lib.hid hn
  clear K KC hr hn
  go_enter Try.func5, Try.ntmps5
  go_wp2_with fail
  refine (awakeC KK.out KKC.out w).mono ?_
  rintro e w0 ⟨rfl, hg0⟩
  have G0 := Lib.hid hg0
  clear hg0
  by_cases hbad : 30 < n1 ∨ r < 0
  · have hb : ((n1 : Int) > 30 ∨ r < 0) := by omega
    by_cases h1 : 30 < n1
    · have b1 : (n1 : Int) > 30 := by omega
      clear hb hbad
      go_wp2_with fail
      refine (awakeC KK.out KKC.out w0).mono ?_
      rintro e wz ⟨rfl, hgz⟩
      have GZ := Lib.hid (Grown.trans G0.out hgz)
      clear hgz
      go_wp2
      go_ret
      exact ⟨rfl, GZ.out⟩
    · have b1 : ¬ (n1 : Int) > 30 := by omega
      have b2 : r < 0 := by omega
      clear hb hbad
      go_wp2_with fail
      refine (awakeC KK.out KKC.out w0).mono ?_
      rintro e wz ⟨rfl, hgz⟩
      have GZ := Lib.hid (Grown.trans G0.out hgz)
      clear hgz
      go_wp2
      go_ret
      exact ⟨rfl, GZ.out⟩
  have b1 : ¬ (n1 : Int) > 30 := by omega
  have b2 : ¬ r < 0 := by omega
  have hn30 : n1 ≤ 30 := by omega
  obtain ⟨room, rfl⟩ : ∃ room : Nat, r = (room : Int) := ⟨r.toNat, by omega⟩
  have hroom : room < 9223372036854775808 := by omega
  clear hbad hr0 hr1
  go_wp2_with fail
  refine (KK.out.new w0 6 (by omega) (by omega)).mono ?_
  rintro e w1 ⟨H, FD, rfl, hd, hF, hg⟩
  have Z1 := Lib.hid (show DSince D w0 w1 H FD (dvNew 6) from ⟨hd, hF, hg⟩)
  clear hd hF hg
  go_wp2_with fail
  refine (KKC.out.new w1 H FD (dvNew 6) room Z1.out.1 hroom).mono ?_
  rintro e w2 ⟨G, F, rfl, hcc, hF, hg⟩
  have Z2 := Lib.hid (CSince.make KKC.out.kept (devKp KK.out) Z1.out hcc hF hg)
  clear hcc hF hg Z1
  go_wp2_with fail
  go_loopw [9, 10] (fun v9 v10 wr => ∃ (i nw c9 : Nat) (A9 : Option Addr) (F : Nat → Prop) (l : Ka) (dv : Dv), v9 = .slice A9 nw c9 ∧ v10 = .int .i64 (i : Int) ∧ i ≤ n1 ∧ nw ≤ 6 ∧ Hid ((keys l).length = nw) ∧ Hid (BesZ wr F A9 (keys l)) ∧ Hid (CSince D C w0 wr G H F room l dv) ∧ Hid (KNum 6 room l dv i) ∧ Hid (dv.calls = -1)) (fun _ v10 _ => n1 - (intOf v10).toNat)
  case atStart => exact ⟨0, 0, 0, none, _, [], dvNew 6, rfl, rfl, Nat.zero_le _, Nat.zero_le _, rfl, ⟨.inl rfl, fun x hx => by cases hx⟩, Z2.out, knum_new 6 room, rfl⟩
  case round =>
    clear Z2
    obtain ⟨i, nw, c9, A9, F, l, dv, rfl, rfl, hi, hnw, HNw, HB, HZ, HNm, HCl⟩ := hrel
    by_cases hlt : i < n1
    · have bi : (i : Int) < (n1 : Int) := by omega
      have hix : i < xs.length := by rw [HN.out]; exact hlt
      obtain ⟨b, off, hA, hb, hcl⟩ : ∃ b off, A1 = some ⟨b, off, none⟩ ∧ b < w.heap.size ∧ w.cell? ⟨b, off + i, none⟩ = some (bv xs[i]) := by
        rcases HR.out with e | ⟨b, off, e, hb, h3⟩
        · rw [e] at hix; simp at hix
        · exact ⟨b, off, e, hb, h3 i hix⟩
      obtain ⟨x, hx⟩ : ∃ x, x = xs[i] := ⟨_, rfl⟩
      have hcw : wr.cell? ⟨b, off + i, none⟩ = some (.int .u8 (x.toNat : Int)) := by
        rw [(Grown.trans G0.out HZ.out.2.2).cell (p := ⟨b, off + i, none⟩) hb, hcl, hx]
        rfl
      obtain ⟨k, hk⟩ : ∃ k : Nat, k = x.toNat % 6 := ⟨_, rfl⟩
      have hk6 : k < 6 := by omega
      have hkm : (x.toNat : Int) % 6 = (k : Int) := by omega
      clear hcl hx hk
      subst hA
      by_cases hs : x.toNat < 128
      · have bs : (x.toNat : Int) < 128 := by omega
        go_wp2_with fail
        refine (rd2 KK.out KKC.out HZ.out HNm.out (by omega) (by omega) hroom (k : Int) (by omega) (by omega)).mono ?_
        rintro e w3 ⟨A3, m3, c3, rfl, y1, y2, y3, F3, hz, hF3, hch, y4⟩
        have hke := keys_read (room := room) (l := l) HCl.out (show k < dv.kept.length by rw [HNm.out.len]; exact hk6)
        have B3 := Lib.hid (HB.out.on hF3 hch)
        have N3' := HNm.out.read (k : Int)
        obtain ⟨E3, hE3⟩ : ∃ E, E = (kaRead room l dv (k : Int)).2.1 := ⟨_, rfl⟩
        rw [← hE3]
        obtain ⟨l2, hl2⟩ : ∃ l2, l2 = (kaRead room l dv (k : Int)).2.2.1 := ⟨_, rfl⟩
        obtain ⟨d2, hd2⟩ : ∃ d2, d2 = (kaRead room l dv (k : Int)).2.2.2 := ⟨_, rfl⟩
        rw [← hl2, ← hd2] at hz N3'
        rw [← hl2, ← hd2] at hke
        have K3 := Lib.hid hke.1
        have C3 := Lib.hid hke.2
        have Z3 := Lib.hid hz
        have N3 := Lib.hid (show KNum 6 room l2 d2 (i + 1) from ⟨N3'.ko, N3'.ok.up (by omega), N3'.len⟩)
        clear hz hF3 hch hke N3' hE3 hl2 hd2 HB HZ HNm HCl hcw y1 y2 y3 y4
        clear wr
        go_wp2_with fail
        obtain ⟨B2, hB2⟩ : ∃ B, B = w3.heap.size := ⟨_, rfl⟩
        have HB2 := Lib.hid hB2
        have O4 := Lib.hid (litZ w3 (k : Int))
        have E4 := Lib.hid (show Below B2 w3 (w3.alloc (.cells #[.int .i64 (k : Int)] 3)) by rw [hB2]; exact alloc_below w3 _)
        rw [← hB2] at O4 ⊢
        clear hB2
        generalize w3.alloc _ = w4 at O4 E4 ⊢
        go_loopw [12, 13] (fun v12 v13 wr => ∃ (j q c12 : Nat) (A12 : Option Addr), v12 = .slice A12 q c12 ∧ v13 = .int .i64 (j : Int) ∧ j ≤ nw ∧ q ≤ j + 1 ∧ Hid (((k : Int) :: ((keys l).take j).filter (fun p => decide (p ≠ (k : Int)))).length = q) ∧ Hid (S15.OwZ wr B2 A12 c12 ((k : Int) :: ((keys l).take j).filter (fun p => decide (p ≠ (k : Int))))) ∧ Hid (Below B2 w3 wr)) (fun _ v13 _ => nw - (intOf v13).toNat)
        case atStart => exact ⟨0, 1, 1, _, rfl, rfl, Nat.zero_le _, Nat.le_refl _, rfl, O4.out, E4.out⟩
        case round =>
          clear O4 E4
          obtain ⟨j, q, c12, A12, rfl, rfl, hj, hq, HQ, HO, HE⟩ := hrel
          by_cases hlj : j < nw
          · have bj : (j : Int) < (nw : Int) := by omega
            have hjl : j < (keys l).length := by rw [HNw.out]; exact hlj
            obtain ⟨b9, o9, hA9, hb9, hc9⟩ := B3.out.1.at_ hjl
            obtain ⟨y, hy⟩ : ∃ y, y = (keys l)[j] := ⟨_, rfl⟩
            have hcy : wr.cell? ⟨b9, o9 + j, none⟩ = some (.int .i64 y) := by
              rw [HE.out.cell (p := ⟨b9, o9 + j, none⟩) (by rw [HB2.out]; exact hb9), hc9, hy]
            have HK := Lib.hid (keep_take (keys l) k j hjl)
            rw [← hy] at HK
            clear hc9 hy
            subst hA9
            by_cases hyk : y = (k : Int)
            · have hbe : (y != (k : Int)) = false := by simp [hyk]
              have HK2 := Lib.hid HK.out
              clear HK
              rw [if_pos hyk, List.append_nil] at HK2
              clear hyk
              go_wp2
              go_roundw
              case rel => exact ⟨j + 1, q, c12, A12, rfl, by simp, by omega, by omega, by rw [HK2.out]; exact HQ.out, by rw [HK2.out]; exact HO.out, HE.out⟩
              case measure => simp [intOf]; omega
            · have hbe : (y != (k : Int)) = true := by rw [bne_iff_ne]; exact hyk
              have HK2 := Lib.hid HK.out
              clear HK
              rw [if_neg hyk] at HK2
              clear hyk
              have hz3 := HE.out.size
              rw [← HB2.out] at hz3
              go_wp2_with (first
                | (at_builtin
                   refine S15.wpList_appZ rfl (.tmp 80) (.tmp 85) rfl (base := B2) (x := y) HQ.out rfl (HO.out.grow (alloc_below wr _)) rfl (heap_alloc_new wr _) (by omega) (by simp; omega) ?_
                   intro A8 c8 w8 ho8 hb8
                   have O8 := Lib.hid ho8
                   have E8 := Lib.hid (show Below B2 w3 w8 from Below.trans HE.out (((Below.refl _ wr).alloc hz3 _).trans hb8))
                   clear ho8 hb8))
              go_roundw
              case rel => exact ⟨j + 1, q + 1, c8, A8, rfl, by simp, by omega, by omega, by rw [HK2.out, ← List.cons_append, List.length_append, HQ.out]; rfl, by rw [HK2.out, ← List.cons_append]; exact O8.out, E8.out⟩
              case measure => simp [intOf]; omega
          · have bj : ¬ (j : Int) < (nw : Int) := by omega
            obtain rfl : j = nw := by omega
            have HT := Lib.hid (show (keys l).take j = keys l from List.take_of_length_le (by rw [HNw.out]; exact Nat.le_refl _))
            rw [HT.out] at HQ HO
            obtain ⟨MM, hMM⟩ : ∃ MM, MM = min q room := ⟨_, rfl⟩
            have hmn : ∀ (ts : Array TypeId) (ty : TypeId) (W : World), (Builtin.min_ ts ty #[.int .i64 (q : Int), .int .i64 (room : Int)]).run Try.prog W = .ok (.int .i64 (MM : Int)) W := fun ts ty W => by
              rw [run_min_int2]
              split <;> (congr 2; omega)
            have hMq : MM ≤ q := by omega
            have hqc : q ≤ c12 := by rw [← HQ.out]; exact HO.out.le
            have hcut : ∀ V : World, (Instr.slice 34 (.slice A12 q c12) none (some (.int .i64 (MM : Int))) none).run Try.prog V = .ok (.slice A12 MM c12) V := fun V => S15.cutZh V A12 q c12 MM (by omega)
            have HMM := Lib.hid hMM
            have HKl := Lib.hid (show (keys l2).length = MM by rw [K3.out, hMM]; unfold wantN; rw [List.length_take, HQ.out, Nat.min_comm])
            have HM6 := Lib.hid (show MM ≤ 6 by rw [← HKl.out, keys_len]; exact N3.out.ko.few)
            clear hMM
            go_wp2
            go_roundw
            case rel =>
              refine ⟨i + 1, MM, c12, A12, F3, l2, d2, rfl, by simp, by omega, HM6.out, HKl.out, ⟨?_, fun x hx _ hf => ?_⟩, Z3.out.grow KKC.out.kept (devKp KK.out) (by have := HE.out; rwa [HB2.out] at this), N3.out, C3.out⟩
              · rw [K3.out]
                exact S15.RdZ.take HO.out.rd room
              · have h1 := (Ow.lt HO.out x hx).1
                have h2 := Z3.out.1.foot KKC.out.kept (devKp KK.out) _ hf
                have h3 := HB2.out
                omega
            case measure => simp [intOf]; omega
      · have bs : ¬ (x.toNat : Int) < 128 := by omega
        go_wp2_with fail
        refine (wr2 KK.out KKC.out HZ.out HNm.out (by omega) (by omega) hroom (k : Int) (by omega) (by omega) (alloc_below wr _) (m := 1) (b := [x]) ((Row.new wr [x]).rd (by simp)) (Nat.le_refl _) rfl (by omega)).mono ?_
        rintro e w3 ⟨rfl, F3, hz, hF3, hch⟩
        have hke := keys_write (room := room) (l := l) (b := [x]) HCl.out (show k < dv.kept.length by rw [HNm.out.len]; exact hk6) (by simp)
        have B3 := Lib.hid (HB.out.on hF3 hch)
        have N3' := HNm.out.write (k : Int) [x]
        obtain ⟨E3, hE3⟩ : ∃ E, E = (kaWrite room l dv (k : Int) [x]).1 := ⟨_, rfl⟩
        rw [← hE3]
        obtain ⟨l2, hl2⟩ : ∃ l2, l2 = (kaWrite room l dv (k : Int) [x]).2.1 := ⟨_, rfl⟩
        obtain ⟨d2, hd2⟩ : ∃ d2, d2 = (kaWrite room l dv (k : Int) [x]).2.2 := ⟨_, rfl⟩
        rw [← hl2, ← hd2] at hz N3'
        rw [← hl2, ← hd2] at hke
        have K3 := Lib.hid hke.1
        have C3 := Lib.hid hke.2
        have Z3 := Lib.hid hz
        have N3 := Lib.hid (show KNum 6 room l2 d2 (i + 1) from N3')
        obtain ⟨gw, hgw⟩ : ∃ g, g = wr.heap.size := ⟨_, rfl⟩
        rw [← hgw]
        clear hz hF3 hch hke N3' hE3 hl2 hd2 HB HZ HNm HCl hcw hgw
        clear wr
        go_wp2_with fail
        obtain ⟨B2, hB2⟩ : ∃ B, B = w3.heap.size := ⟨_, rfl⟩
        have HB2 := Lib.hid hB2
        have O4 := Lib.hid (litZ w3 (k : Int))
        have E4 := Lib.hid (show Below B2 w3 (w3.alloc (.cells #[.int .i64 (k : Int)] 3)) by rw [hB2]; exact alloc_below w3 _)
        rw [← hB2] at O4 ⊢
        clear hB2
        generalize w3.alloc _ = w4 at O4 E4 ⊢
        go_loopw [12, 13] (fun v12 v13 wr => ∃ (j q c12 : Nat) (A12 : Option Addr), v12 = .slice A12 q c12 ∧ v13 = .int .i64 (j : Int) ∧ j ≤ nw ∧ q ≤ j + 1 ∧ Hid (((k : Int) :: ((keys l).take j).filter (fun p => decide (p ≠ (k : Int)))).length = q) ∧ Hid (S15.OwZ wr B2 A12 c12 ((k : Int) :: ((keys l).take j).filter (fun p => decide (p ≠ (k : Int))))) ∧ Hid (Below B2 w3 wr)) (fun _ v13 _ => nw - (intOf v13).toNat)
        case atStart => exact ⟨0, 1, 1, _, rfl, rfl, Nat.zero_le _, Nat.le_refl _, rfl, O4.out, E4.out⟩
        case round =>
          clear O4 E4
          obtain ⟨j, q, c12, A12, rfl, rfl, hj, hq, HQ, HO, HE⟩ := hrel
          by_cases hlj : j < nw
          · have bj : (j : Int) < (nw : Int) := by omega
            have hjl : j < (keys l).length := by rw [HNw.out]; exact hlj
            obtain ⟨b9, o9, hA9, hb9, hc9⟩ := B3.out.1.at_ hjl
            obtain ⟨y, hy⟩ : ∃ y, y = (keys l)[j] := ⟨_, rfl⟩
            have hcy : wr.cell? ⟨b9, o9 + j, none⟩ = some (.int .i64 y) := by
              rw [HE.out.cell (p := ⟨b9, o9 + j, none⟩) (by rw [HB2.out]; exact hb9), hc9, hy]
            have HK := Lib.hid (keep_take (keys l) k j hjl)
            rw [← hy] at HK
            clear hc9 hy
            subst hA9
            by_cases hyk : y = (k : Int)
            · have hbe : (y != (k : Int)) = false := by simp [hyk]
              have HK2 := Lib.hid HK.out
              clear HK
              rw [if_pos hyk, List.append_nil] at HK2
              clear hyk
              go_wp2
              go_roundw
              case rel => exact ⟨j + 1, q, c12, A12, rfl, by simp, by omega, by omega, by rw [HK2.out]; exact HQ.out, by rw [HK2.out]; exact HO.out, HE.out⟩
              case measure => simp [intOf]; omega
            · have hbe : (y != (k : Int)) = true := by rw [bne_iff_ne]; exact hyk
              have HK2 := Lib.hid HK.out
              clear HK
              rw [if_neg hyk] at HK2
              clear hyk
              have hz3 := HE.out.size
              rw [← HB2.out] at hz3
              go_wp2_with (first
                | (at_builtin
                   refine S15.wpList_appZ rfl (.tmp 80) (.tmp 85) rfl (base := B2) (x := y) HQ.out rfl (HO.out.grow (alloc_below wr _)) rfl (heap_alloc_new wr _) (by omega) (by simp; omega) ?_
                   intro A8 c8 w8 ho8 hb8
                   have O8 := Lib.hid ho8
                   have E8 := Lib.hid (show Below B2 w3 w8 from Below.trans HE.out (((Below.refl _ wr).alloc hz3 _).trans hb8))
                   clear ho8 hb8))
              go_roundw
              case rel => exact ⟨j + 1, q + 1, c8, A8, rfl, by simp, by omega, by omega, by rw [HK2.out, ← List.cons_append, List.length_append, HQ.out]; rfl, by rw [HK2.out, ← List.cons_append]; exact O8.out, E8.out⟩
              case measure => simp [intOf]; omega
          · have bj : ¬ (j : Int) < (nw : Int) := by omega
            obtain rfl : j = nw := by omega
            have HT := Lib.hid (show (keys l).take j = keys l from List.take_of_length_le (by rw [HNw.out]; exact Nat.le_refl _))
            rw [HT.out] at HQ HO
            obtain ⟨MM, hMM⟩ : ∃ MM, MM = min q room := ⟨_, rfl⟩
            have hmn : ∀ (ts : Array TypeId) (ty : TypeId) (W : World), (Builtin.min_ ts ty #[.int .i64 (q : Int), .int .i64 (room : Int)]).run Try.prog W = .ok (.int .i64 (MM : Int)) W := fun ts ty W => by
              rw [run_min_int2]
              split <;> (congr 2; omega)
            have hMq : MM ≤ q := by omega
            have hqc : q ≤ c12 := by rw [← HQ.out]; exact HO.out.le
            have hcut : ∀ V : World, (Instr.slice 34 (.slice A12 q c12) none (some (.int .i64 (MM : Int))) none).run Try.prog V = .ok (.slice A12 MM c12) V := fun V => S15.cutZh V A12 q c12 MM (by omega)
            have HMM := Lib.hid hMM
            have HKl := Lib.hid (show (keys l2).length = MM by rw [K3.out, hMM]; unfold wantN; rw [List.length_take, HQ.out, Nat.min_comm])
            have HM6 := Lib.hid (show MM ≤ 6 by rw [← HKl.out, keys_len]; exact N3.out.ko.few)
            clear hMM
            go_wp2
            go_roundw
            case rel =>
              refine ⟨i + 1, MM, c12, A12, F3, l2, d2, rfl, by simp, by omega, HM6.out, HKl.out, ⟨?_, fun x hx _ hf => ?_⟩, Z3.out.grow KKC.out.kept (devKp KK.out) (by have := HE.out; rwa [HB2.out] at this), N3.out, C3.out⟩
              · rw [K3.out]
                exact S15.RdZ.take HO.out.rd room
              · have h1 := (Ow.lt HO.out x hx).1
                have h2 := Z3.out.1.foot KKC.out.kept (devKp KK.out) _ hf
                have h3 := HB2.out
                omega
            case measure => simp [intOf]; omega
    · have bi : ¬ (i : Int) < (n1 : Int) := by omega
      go_wp2_with fail
      refine (KKC.out.keeps wr G H F room l dv HZ.out.1 (by rw [HNm.out.len]; exact HNm.out.ko) (by rw [HNm.out.len]; omega)).mono ?_
      rintro e w5 ⟨A5, m5, c5, rfl, hm5, hc5, hr5, hg5⟩
      have G5 := Lib.hid (show Grown w w5 from Grown.trans G0.out (Grown.trans HZ.out.2.2 hg5))
      have B5 := Lib.hid ((HB.out.grow hg5).1)
      have R5 := Lib.hid hr5
      have L5 := Lib.hid (show (keys l).length = m5 by rw [keys_len]; exact hm5)
      have M5 := Lib.hid (show m5 ≤ 6 by rw [← hm5]; have := HNm.out.ko.few; omega)
      clear hm5 hr5 hg5
      go_wp2_with fail
      refine (S15.refInts_any (l := keys l) (l2 := keys l) (c := c5) (c2 := c9) (n := m5) (n2 := nw) (show S15.RdZ _ _ A5 (keys l) from R5.out) L5.out (by have := M5.out; omega) B5.out HNw.out (by omega)).mono ?_
      rintro e w6 ⟨rfl, hg6⟩
      have G6 := Lib.hid (Grown.trans G5.out hg6)
      have HT := Lib.hid (show decide (keys l = keys l) = true from decide_eq_true rfl)
      rw [HT.out]
      clear hg6 HT
      go_wp2
      go_ret
      exact ⟨rfl, G6.out⟩
end
end Go.Proofs.Ythakdjaaknbmpaa.S14
