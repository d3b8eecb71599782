/-
  Contracts of the program's space: Take, Free, Used, New.
-/
import Derived.Test.YtdeojgdjjckoeaaQsA
namespace Go.Proofs.Ytdeojgdjjckoeaa.S15
open Cf
open Go.RowKit
set_option linter.unusedVariables false
set_option linter.unusedSimpArgs false
section
variable {w w' : World} {G b n : Nat} {a : Int} {f g : Int → Int} {A : Option Addr} {m c : Nat} {l : List Int} {s : Sp} {F : Nat → Prop}
set_option maxRecDepth 20000 in
set_option maxHeartbeats 4000000 in
theorem take_any (h : Qz w G F s) (hs : SpOk s) : Calls Try.prog 10 #[.pointer (some ⟨G, 0, none⟩)] w fun e w' => e = .returned (.tuple #[.int .i64 (spTake s).1, .int .i64 (spTake s).2.1]) ∧ SOn Qz w G F (spTake s).2.2 w' := by
  obtain ⟨b, hq, hF⟩ := h
  have HI := Lib.hid (index_any hq 0 (Nat.zero_le _) ⟨b, 0, none⟩ (fun _ => rfl) (wid s) 0 (by omega) (by omega))
  have HF := Lib.hid hF
  have HS := Lib.hid hs
  have q0 := hq.c0
  have q1 := hq.c1
  have H := Lib.hid hq
  obtain ⟨n, hn⟩ : ∃ n, n = wid s := ⟨_, rfl⟩
  obtain ⟨a, ha⟩ : ∃ a, a = s.first := ⟨_, rfl⟩
  have b0 := hq.a0
  have b1 := hq.a1
  rw [← hn] at q1 HI H b1
  rw [← ha] at q0 HI H b0 b1
  have HNA := Lib.hid (And.intro hn ha)
  rw [Nat.sub_zero] at HI
  clear hq hF hs hn ha
  go_enter Try.func10, Try.ntmps10
  go_wp2_with fail
  refine HI.out.mono ?_
  rintro e w1 ⟨rfl, v, rfl, ⟨rfl, hno⟩ | ⟨J, rfl, hJ, hf, hno⟩⟩
  · have HE := Lib.hid (show spTake s = (0, 12, s) from take_no HS.out fun j hj => by have := hno j (Nat.zero_le _) (by rw [HNA.out.1]; exact hj); rwa [HNA.out.2] at this)
    clear hno
    go_wp2
    go_ret2
    refine ⟨by rw [HE.out]; rfl, ?_⟩
    rw [HE.out]
    have := H.out
    rw [HNA.out.1, HNA.out.2] at this
    exact son_of HF.out this (Ch.refl _ _)
  · rw [Nat.zero_add] at hJ hf
    have HE := Lib.hid (show spTake s = (a + (J : Int), 0, { s with used := ins s.used (a + (J : Int)) }) by
      have h1 := HNA.out.1
      have h2 := HNA.out.2
      subst h1 h2
      exact take_yes HS.out hJ hf fun j hj => hno j (Nat.zero_le _) (by omega))
    have HSt := Lib.hid (set_any H.out (a + (J : Int)) 1 (by omega) (by omega) (by omega) (by omega))
    clear hno hf
    go_wp2_with fail
    refine HSt.out.mono ?_
    rintro e w2 ⟨rfl, hq, hc⟩
    have E := Lib.hid (And.intro hq hc)
    clear hq hc q0 q1
    go_wp2
    go_ret2
    refine ⟨by rw [HE.out]; rfl, ?_⟩
    rw [HE.out]
    have hq := E.out.1
    have h1 := HNA.out.1
    have h2 := HNA.out.2
    subst h1 h2
    exact son_of HF.out (hq.congr fun i hi => sta_take _ _) E.out.2
theorem count_zero (f : Int → Int) (a : Int) (n : Nat) (hv : ∀ i : Nat, i < n → 0 ≤ f (a + (i : Int)) ∧ f (a + (i : Int)) ≤ 2) : Lib.countByte (Lib.bytesOf ((secs a n).map f)) ((0 : Int).toNat.toUInt8) = ((secs a n).filter fun y => decide (f y = 0)).length := by
  unfold Lib.countByte Lib.bytesOf List.count
  rw [List.countP_map, List.countP_map, List.countP_eq_length_filter]
  congr 1
  refine List.filter_congr fun x hx => ?_
  obtain ⟨h1, h2⟩ := mem_secs.1 hx
  have := hv (x - a).toNat (by omega)
  rw [show a + ((x - a).toNat : Int) = x by omega] at this
  have e := byte_eq (u := f x) (v := 0) this.1 this.2 (by omega) (by omega)
  simp only [Function.comp]
  by_cases h0 : f x = 0
  · have := e.2 h0; simp [h0]
  · have h3 : ¬ (UInt8.ofNat (f x).toNat = (0 : Int).toNat.toUInt8) := fun q => h0 (e.1 q)
    simp only [h0, decide_false, beq_eq_false_iff_ne]
    exact h3
set_option maxRecDepth 20000 in
set_option maxHeartbeats 4000000 in
theorem free_any (h : Qz w G F s) (hs : SpOk s) : Calls Try.prog 9 #[.pointer (some ⟨G, 0, none⟩)] w fun e w' => e = .returned (.int .i64 (spFree s)) ∧ Grown w w' := by
  obtain ⟨b, hq, hF⟩ := h
  have hlt := hq.lt
  obtain ⟨n, hn⟩ : ∃ n, n = wid s := ⟨_, rfl⟩
  have HC := Lib.hid (show ∀ v : World, Grown w v → ∀ b2 d, v.cell? ⟨b2, 0, none⟩ = some (.int .u8 0) → Calls Try.prog 25 #[.slice (some ⟨b, 0, none⟩) n n, .slice (some ⟨b2, 0, none⟩) 1 d] v fun e w' => e = .returned (.int .i64 (spFree s)) ∧ w' = v from fun v hv b2 d hc => by
    have e := Sh.Try.bytes_Count_one b 0 n n b2 0 d ((secs s.first (wid s)).map (sta s)) 0 v (by rw [hn]; unfold secs; simp) (fun i hi => by
      rw [hn] at hi
      have hil : i < ((secs s.first (wid s)).map (sta s)).length := by unfold secs; simpa using hi
      rw [Nat.zero_add, (hq.grow hv).row hi, List.getD_eq_getElem?_getD, List.getElem?_eq_getElem hil]
      unfold secs
      simp) hc
    rw [count_zero _ _ _ hq.fv, free_count hs] at e
    exact e)
  have q1 := hq.c1
  rw [← hn] at q1
  clear hq hF hs hn
  generalize spFree s = R at HC ⊢
  go_enter Try.func9, Try.ntmps9
  go_wp2_with fail
  refine (HC.out _ (alloc_below w _) w.heap.size 1 (cell_of_row _ w.heap.size 0 _ _ (0, 0) (heap_alloc_new w _))).mono ?_
  rintro e w1 ⟨rfl, rfl⟩
  have GW := Lib.hid (alloc_below w (.cells #[.int .u8 0] 5))
  generalize w.alloc _ = w1 at GW ⊢
  go_wp2
  go_ret
  exact ⟨rfl, GW.out⟩
set_option maxRecDepth 20000 in
set_option maxHeartbeats 4000000 in
theorem used_any (h : Qz w G F s) (hs : SpOk s) : Calls Try.prog 23 #[.pointer (some ⟨G, 0, none⟩)] w fun e w' =>
    ∃ A m c, e = .returned (.slice A m c) ∧ s.used.length = m ∧ m ≤ c ∧ RdZ w' w'.heap.size A s.used ∧ Grown w w' ∧ ∀ x, A = some x → s.used ≠ [] → w.heap.size ≤ x.block := by
  obtain ⟨b, hq, hF⟩ := h
  have HU := Lib.hid (usd_all hs)
  have hlt := hq.lt
  obtain ⟨n, hn⟩ : ∃ n, n = wid s := ⟨_, rfl⟩
  obtain ⟨a, ha⟩ : ∃ a, a = s.first := ⟨_, rfl⟩
  obtain ⟨f, hf⟩ : ∃ f, f = sta s := ⟨_, rfl⟩
  obtain ⟨U, hU⟩ : ∃ U, U = s.used := ⟨_, rfl⟩
  rw [← hn, ← ha, ← hf] at hq HU
  rw [← hU] at HU ⊢
  have b0 := hq.a0
  have b1 := hq.a1
  have q1 := hq.c1
  have H := Lib.hid hq
  clear hq hF hs hn ha hf hU hlt
  go_enter Try.func23, Try.ntmps23
  go_wp2
  go_loopw [3, 11] (fun v3 v11 wr => ∃ (i q : Nat) (A3 : Option Addr) (c3 : Nat), v3 = .slice A3 q c3 ∧ v11 = .int .i64 (i : Int) ∧ i ≤ n ∧ q ≤ i ∧ Hid ((usd f a i).length = q) ∧ Hid (OwZ wr w.heap.size A3 c3 (usd f a i)) ∧ Hid (Grown w wr)) (fun _ v11 _ => n - (intOf v11).toNat)
  case atStart => exact ⟨0, 0, none, 0, rfl, rfl, Nat.zero_le _, Nat.le_refl _, rfl, OwZ.nil _ _, Grown.refl _⟩
  case round =>
    obtain ⟨i, q, A3, c3, rfl, rfl, hi, hqi, HQ, HO, HG⟩ := hrel
    by_cases hlt : i < n
    · have bi : (i : Int) < (n : Int) := by omega
      have hr := (H.out.grow HG.out).row hlt
      have q0 := (H.out.grow HG.out).c0
      obtain ⟨y, hy⟩ : ∃ y, y = f (a + (i : Int)) := ⟨_, rfl⟩
      rw [← hy] at hr
      have HT := Lib.hid (usd_succ f a i)
      rw [← hy] at HT
      clear hy
      by_cases hy1 : y = 1
      · have HC := Lib.hid (show usd f a (i + 1) = usd f a i ++ [a + (i : Int)] by rw [HT.out, if_pos hy1])
        subst hy1
        go_wp2_with (first
          | (at_builtin
             refine wpList_appZ rfl (.tmp 18) (.tmp 25) rfl (base := w.heap.size) (l := usd f a i) (x := a + (i : Int)) HQ.out rfl (HO.out.grow (alloc_below wr _)) rfl (heap_alloc_new wr _) (by omega) (by have := HG.out.size; simp; omega) ?_
             intro A9 c9 w9 ho9 hb9
             have O9 := Lib.hid ho9
             have G9 := Lib.hid (show Grown w w9 from Below.trans HG.out (((Below.refl _ wr).alloc HG.out.size _).trans hb9))
             clear ho9 hb9))
        exact ⟨⟨i + 1, q + 1, A9, c9, rfl, by simp, by omega, by omega, by show _ = _; rw [HC.out, List.length_append, HQ.out]; rfl, by show OwZ _ _ _ _ _; rw [HC.out]; exact O9.out, G9.out⟩, by simp [intOf]; omega⟩
      · have HC := Lib.hid (show usd f a (i + 1) = usd f a i by rw [HT.out, if_neg hy1])
        go_wp2
        exact ⟨⟨i + 1, q, A3, c3, rfl, by simp, by omega, by omega, by show _ = _; rw [HC.out]; exact HQ.out, by show OwZ _ _ _ _ _; rw [HC.out]; exact HO.out, HG.out⟩, by simp [intOf]; omega⟩
    · have bi : ¬ ((i : Int) < (n : Int)) := by omega
      have HE := Lib.hid (show usd f a i = U by rw [show i = n by omega]; exact HU.out)
      have hO := HO.out
      have hQ := HQ.out
      rw [HE.out] at hO hQ
      have HO2 := Lib.hid hO
      have HQ2 := Lib.hid hQ
      clear hO hQ
      go_wp2
      go_ret
      exact ⟨A3, q, c3, rfl, HQ2.out, by rw [← HQ2.out]; exact HO2.out.le, HO2.out.rd, HG.out, fun x hx _ => (HO2.out.lt x hx).1⟩
theorem new_ok (w : World) (f0 l0 : Int) (h0 : 0 ≤ f0) (h1 : f0 < l0) (h2 : l0 ≤ 65536) : Calls Try.prog 8 #[.int .i64 f0, .int .i64 l0] w fun e w' =>
    ∃ G F, e = .returned (.tuple #[.pointer (some ⟨G, 0, none⟩), .int .i64 0]) ∧ Qz w' G F (spNew f0 l0) ∧ (∀ k, F k → w.heap.size ≤ k) ∧ Grown w w' := by
  obtain ⟨k, hk⟩ : ∃ k : Nat, l0 - f0 = (k : Int) := ⟨(l0 - f0).toNat, by omega⟩
  have c1 : ¬ f0 < 0 := by omega
  have c2 : ¬ l0 ≤ f0 := by omega
  have c3 : ¬ 65536 < l0 := by omega
  have c4 : ¬ l0 > 65536 := by omega
  have hk2 : k ≤ 65536 := by omega
  obtain ⟨Z, hZ⟩ : ∃ Z, Z = (bvs (List.replicate k 0)).toArray := ⟨_, rfl⟩
  have HM : ∀ V : World, (Instr.makeSlice 47 (.int .i64 (k : Int)) (.int .i64 (k : Int))).run Try.prog V = .ok (.slice (some ⟨V.heap.size, 0, none⟩) k k) (V.alloc (.cells Z 5)) := fun V => by rw [hZ]; exact mk22 k (by omega) V
  have HZ := Lib.hid hZ
  clear hZ
  go_enter Try.func8, Try.ntmps8
  go_wp2
  go_ret2
  refine ⟨w.heap.size + 1, rfl, fun k => k = w.heap.size + 1 ∨ k = w.heap.size, ⟨w.heap.size, ?_, rfl⟩, fun k hk => by rcases hk with rfl | rfl <;> omega, ((alloc_below w _).alloc (by simp) _)⟩
  have hw : wid (spNew f0 l0) = k := by unfold wid spNew; simp only; omega
  rw [hw]
  have e1 := heap_alloc_new w (.cells Z 5)
  have g1 := alloc_below (w.alloc (.cells Z 5)) (.cells #[.int .i64 f0, .slice (some ⟨w.heap.size, 0, none⟩) k k] 52)
  have e2 := heap_alloc_new (w.alloc (.cells Z 5)) (.cells #[.int .i64 f0, .slice (some ⟨w.heap.size, 0, none⟩) k k] 52)
  have hsz := World.size_alloc w (.cells Z 5)
  rw [hsz] at e2
  have hst : ∀ y, sta (spNew f0 l0) y = 0 := fun y => by unfold sta spNew; simp
  refine { gb := by omega, a0 := h0, n0 := by omega, a1 := by show f0 + (k : Int) ≤ 65536; omega, hG := e2, hb := ⟨Z, ?_, by rw [HZ.out]; simp [bvs], fun i hi => ?_⟩, fv := fun i hi => by rw [hst]; omega }
  · rw [g1.block _ (by rw [hsz]; omega)]; exact e1
  · rw [hst, HZ.out]
    simp [bvs, bv, hi]
theorem new_no (w : World) (f0 l0 : Int) (hf : Ir f0) (hl : Ir l0) (hn : ¬ (0 ≤ f0 ∧ f0 < l0 ∧ l0 ≤ 65536)) : Calls Try.prog 8 #[.int .i64 f0, .int .i64 l0] w fun e w' => e = .returned (.tuple #[.pointer none, .int .i64 2]) ∧ Grown w w' := by
  by_cases c1 : f0 < 0
  · go_enter Try.func8, Try.ntmps8
    go_wp2
    go_ret2
    exact ⟨rfl, Grown.refl _⟩
  · by_cases c2 : l0 ≤ f0
    · go_enter Try.func8, Try.ntmps8
      go_wp2
      go_ret2
      exact ⟨rfl, Grown.refl _⟩
    · have c3 : 65536 < l0 := by omega
      have c4 : l0 > 65536 := by omega
      go_enter Try.func8, Try.ntmps8
      go_wp2
      go_ret2
      exact ⟨rfl, Grown.refl _⟩
end
end Go.Proofs.Ytdeojgdjjckoeaa.S15
