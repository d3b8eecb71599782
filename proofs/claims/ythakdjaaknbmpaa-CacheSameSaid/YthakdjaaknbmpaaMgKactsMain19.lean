/-
  Contracts of the program's cache: Drop of one, Clear, New. Contract of the program's cache: store.
-/
import Derived.Test.YthakdjaaknbmpaaMgKactsMain18
namespace Go.Proofs.Ythakdjaaknbmpaa.S14
open S13
open Cf
open Go.RowKit
set_option linter.unusedVariables false
set_option linter.unusedSimpArgs false
theorem infoEn : (Try.prog.info? 67).map (fun i => (i.zero, i.size, i.bytes)) = some (some (.pointer none), 1, 8) := by kernel_rfl
theorem zeroEn (w : World) : (zeroValue 67).run Try.prog w = .ok (.pointer none) w := by
  obtain ⟨i0, hi, hz0, hz1, hz2⟩ := info_parts infoEn
  simp [zeroValue, typeInfo, hi, hz0]
/-- 'c.stored[n]'. -/
theorem look_none_ {w : World} {M : Nat} {es : List En} {ms : List (Int × Nat)} (h : Mz w M es ms) {n : Int} (hn : Mp.look ms n = none) : (Instr.lookup 66 (.map (some M)) (.int .i64 n) false).run Try.prog w = .ok (.pointer none) w := by
  have := Mp.run_look h.m.mp keys_int Try.underlying66 (zeroEn w) false n
  rw [hn] at this
  exact this
theorem look_some_ {w : World} {M b : Nat} {es : List En} {ms : List (Int × Nat)} (h : Mz w M es ms) {n : Int} (hn : Mp.look ms n = some b) : (Instr.lookup 66 (.map (some M)) (.int .i64 n) false).run Try.prog w = .ok (.pointer (some ⟨b, 0, none⟩)) w := by
  have := Mp.run_look h.m.mp keys_int Try.underlying66 (zeroEn w) false n
  rw [hn] at this
  exact this
theorem drop_keep {es : List En} {n : Int} (h : ∀ e ∈ es, (e.k : Int) ≠ n) : kaDrop (es.map prj) n = es.map prj := by
  unfold kaDrop
  rw [List.filter_eq_self]
  intro p hp
  obtain ⟨e, he, rfl⟩ := List.mem_map.1 hp
  exact decide_eq_true (h e he)
theorem drop_mid {a b : List En} {e : En} (h : ((a ++ e :: b).map (·.k)).Nodup) : kaDrop ((a ++ e :: b).map prj) (e.k : Int) = (a ++ b).map prj := by
  have h1 : ∀ x ∈ a ++ b, (x.k : Int) ≠ (e.k : Int) := fun x hx => by have := key_inj h hx; omega
  have ha := drop_keep (es := a) (n := (e.k : Int)) (fun x hx => h1 x (List.mem_append_left _ hx))
  have hb := drop_keep (es := b) (n := (e.k : Int)) (fun x hx => h1 x (List.mem_append_right _ hx))
  unfold kaDrop at ha hb ⊢
  rw [List.map_append, List.map_append, List.map_cons, List.filter_append, ha, List.filter_cons, hb]
  simp [prj]
/-- Behind a Drop of n. -/
def Dropped (w : World) (G H R M room : Nat) (es : List En) (n : Int) (w' : World) : Prop := ∃ nw' od' es' ms', Kz w' G H R M room nw' od' es' ms' ∧ es'.map prj = kaDrop (es.map prj) n ∧ (∀ x ∈ es', x ∈ es) ∧ Ch (KL G R M es) w w'
set_option maxRecDepth 20000 in
set_option maxHeartbeats 1000000 in
theorem drop_any {w : World} {G H R M room : Nat} {nw od : Nat → Nat} {es : List En} {ms : List (Int × Nat)} (h : Kz w G H R M room nw od es ms) (n : Int) (A : Option Addr) (c : Nat) (hr : RdN w w.heap.size A [n]) (h1c : 1 ≤ c) :
    Calls Try.prog 15 #[.pointer (some ⟨G, 0, none⟩), .slice A 1 c] w fun r w' => r = .returned (.tuple #[]) ∧ Dropped w G H R M room es n w' := by
  rcases hr with hr | ⟨ab, ao, rfl, hab, hcell⟩
  · cases hr
  have hc0 : w.cell? ⟨ab, ao, none⟩ = some (.int .i64 n) := hcell 0 (by simp)
  obtain ⟨_, _, c2, _⟩ := h.cells
  have HZ := Lib.hid h
  clear h hcell hab
  cases hl : Mp.look ms n with
  | none =>
    have hlk := look_none_ HZ.out.m hl
    have HD := Lib.hid (show Dropped w G H R M room es n w from ⟨nw, od, es, ms, HZ.out, (drop_keep (fun e he e2 => by
      have := HZ.out.m.some_ he
      rw [e2, hl] at this
      cases this)).symm, fun x hx => hx, Ch.refl _ _⟩)
    clear hl
    go_enter Try.func15, Try.ntmps15
    go_wp2_with fail
    go_loopw [9] (fun v9 wr => (v9 = .int .i64 0 ∨ v9 = .int .i64 1) ∧ wr = w) (fun v9 _ => 1 - (intOf v9).toNat)
    case atStart => exact ⟨.inl rfl, rfl⟩
    case round =>
      obtain ⟨rfl | rfl, rfl⟩ := hrel
      · go_wp2
        go_roundw
        case rel => exact ⟨.inr rfl, trivial⟩
        case measure => simp [intOf]
      · go_wp2
        refine bodyPost_end (results_none rfl _ _ _) rfl ⟨rfl, HD.out⟩
  | some eb =>
    have hlk := look_some_ HZ.out.m hl
    obtain ⟨e, he, rfl, rfl⟩ := (HZ.out.m.k n eb).1 hl
    obtain ⟨a, b, rfl⟩ := List.append_of_mem he
    have HX := Lib.hid (discard_any HZ.out)
    have HE := Lib.hid (drop_mid HZ.out.m.nd)
    obtain ⟨eb, heb⟩ : ∃ x, x = e.b := ⟨_, rfl⟩
    obtain ⟨ek, hek⟩ : ∃ x, x = (e.k : Int) := ⟨_, rfl⟩
    have hX := HX.out
    rw [← heb] at hlk hX
    rw [← hek] at hlk hc0 HE ⊢
    replace HX := Lib.hid hX
    clear hl he heb hek hX
    go_enter Try.func15, Try.ntmps15
    go_wp2_with fail
    go_loopw [9] (fun v9 wr => (v9 = .int .i64 0 ∧ wr = w) ∨ (v9 = .int .i64 1 ∧ Hid (Dropped w G H R M room (a ++ e :: b) ek wr))) (fun v9 _ => 1 - (intOf v9).toNat)
    case atStart => exact .inl ⟨rfl, rfl⟩
    case round =>
      obtain ⟨rfl, rfl⟩ | ⟨rfl, HD⟩ := hrel
      · go_wp2_with fail
        refine HX.out.mono ?_
        rintro r w1 ⟨rfl, nw', od', ms', hz, hc⟩
        have HD := Lib.hid (show Dropped wr G H R M room (a ++ e :: b) ek w1 from ⟨nw', od', a ++ b, ms', hz, HE.out.symm, fun x hx => mid_mem hx, hc⟩)
        clear hz hc
        go_wp2
        go_roundw
        case rel => exact .inr ⟨rfl, HD.out⟩
        case measure => simp [intOf]
      · clear c2 hc0 hlk
        go_wp2
        refine bodyPost_end (results_none rfl _ _ _) rfl ⟨rfl, HD.out⟩
/-- 'clear(m)' as an arm. -/
theorem Kz.cleared {w w' : World} {G H R R' M room : Nat} {nw od nw' od' : Nat → Nat} {es : List En} {ms : List (Int × Nat)} (h : Kz w G H R M room nw od es ms) (hg : w'.heap[G]? = some (.cells #[.pointer (some ⟨H, 0, none⟩), .int .i64 (room : Int), .map (some M), pv R'] 70 (0, 0))) (hr : Nd w' R' (.int .i64 0) (.slice none 0 0) R' R') (hm : Mp.Mq ik pv w' M []) :
    Kz w' G H R' M room (fun _ => R') (fun _ => R') [] [] where
  g := hg
  r := { r := hr, n := fun e he => absurd he (by simp), o := fun e he => absurd he (by simp), nd := List.nodup_cons.2 ⟨by simp [bs], List.nodup_nil⟩, p := ⟨rfl, rfl⟩ }
  m := { m := hm, k := fun n b => by simp [Mp.look], l := rfl, nd := List.nodup_nil }
theorem grown_ch {F : Nat → Prop} {w w1 w2 : World} (h : Ch F w w1) (h2 : Grown w1 w2) : Ch F w w2 := Ch.then h (Ch.grown (F := F) h2) (fun _ _ hk => hk)
set_option maxRecDepth 20000 in
theorem clear_any {w : World} {G H R M room : Nat} {nw od : Nat → Nat} {es : List En} {ms : List (Int × Nat)} (h : Kz w G H R M room nw od es ms) :
    Calls Try.prog 17 #[.pointer (some ⟨G, 0, none⟩)] w fun r w' => r = .returned (.tuple #[]) ∧ ∃ R' nw' od', w.heap.size ≤ R' ∧ Kz w' G H R' M room nw' od' [] [] ∧ Ch (KF G R M es) w w' := by
  obtain ⟨_, _, c2, c3⟩ := h.cells
  have HZ := Lib.hid h
  clear h
  go_enter Try.func17, Try.ntmps17
  go_wp2_with (first
    | (refine Mp.wpList_clear rfl (.tmp 5) rfl Try.underlying66 HZ.out.m.m rfl ?_
       intro w1 hm1 hb1 hs1
       have HM1 := Lib.hid hm1
       have HB1 := Lib.hid hb1
       have HS1 := Lib.hid hs1
       clear hm1 hb1 hs1 c2 c3))
  refine (ring_any w1).mono ?_
  rintro r w2 ⟨rfl, hn, hg⟩
  have HN := Lib.hid hn
  have HG := Lib.hid hg
  obtain ⟨R', hR⟩ : ∃ x, x = w1.heap.size := ⟨_, rfl⟩
  rw [← hR] at HN ⊢
  have HR := Lib.hid hR
  have nG : w1.heap[G]? = w.heap[G]? := HB1.out.block G (lt_of_heap HZ.out.g) (fun e => HZ.out.gm (by injection e with e; exact e.symm))
  have hg2 : w2.heap[G]? = _ := (hg.block G (by rw [HS1.out]; exact lt_of_heap HZ.out.g)).trans (nG.trans HZ.out.g)
  have HG2 := Lib.hid hg2
  have c3' : w2.cell? ⟨G, 3, none⟩ = some (.pointer (some ⟨R, 0, none⟩)) := cell_of_row w2 G 3 _ _ (0, 0) hg2
  have f3' : w2.frozen? ⟨G, 3, none⟩ = false := frozen_of_row w2 G 3 _ _ hg2
  have HRG := Lib.hid (show R' ≠ G by rw [hR, HS1.out]; have := lt_of_heap HZ.out.g; omega)
  have HMG := Lib.hid HZ.out.gm
  have HMq := Lib.hid (HM1.out.keep (hg.block M (by rw [HS1.out]; exact HZ.out.m.lt)))
  clear hn hg hR nG hg2
  go_wp2
  refine bodyPost_end (results_none rfl _ _ _) rfl ⟨rfl, R', _, _, ?_, HZ.out.cleared (nw' := fun _ => R') (od' := fun _ => R') (heap_setCell_same w2 G 3 _ _ _ HG2.out) (HN.out.keep (heap_setCell_other w2 _ _ _ HRG.out)) (HMq.out.keep (heap_setCell_other w2 _ _ _ HMG.out)), ?_⟩
  · rw [HR.out, HS1.out]; exact Nat.le_refl _
  · exact Ch.setCell (grown_ch (chBy HB1.out (.inr (.inl rfl))) HG.out) (p := ⟨G, 3, none⟩) (.inl (.inl rfl)) _
theorem new_any (w : World) (H : Nat) (room : Nat) (hr : room < 9223372036854775808) : Calls Try.prog 9 #[.pointer (some ⟨H, 0, none⟩), .int .i64 (room : Int)] w fun e w' =>
    ∃ G F, e = .returned (.tuple #[.pointer (some ⟨G, 0, none⟩), .int .i64 0]) ∧ Cz w' G F H room [] ∧ (∀ k, F k → w.heap.size ≤ k) ∧ Grown w w' := by
  have b1 : ¬ (room : Int) < 0 := by omega
  have hmm := @run_makeMap Try.prog
  go_enter Try.func9, Try.ntmps9
  go_wp2_with fail
  have G1 := Lib.hid (alloc_below w (.map #[] 0))
  have N1 := Lib.hid (heap_alloc_new w (.map #[] 0))
  have S1 := Lib.hid (World.size_alloc w (.map #[] 0))
  generalize w.alloc _ = w1 at G1 N1 S1 ⊢
  refine (ring_any w1).mono ?_
  rintro r w2 ⟨rfl, hn, hg⟩
  have HN := Lib.hid hn
  have HG := Lib.hid hg
  clear hn hg
  go_wp2
  go_ret2
  have s1 := S1.out
  have s2 := HG.out.size
  have N9 := heap_alloc_new w2 (.cells #[.pointer (some ⟨H, 0, none⟩), .int .i64 (room : Int), .map (some w.heap.size), .pointer (some ⟨w1.heap.size, 0, none⟩)] 70)
  have G9 := alloc_below w2 (.cells #[.pointer (some ⟨H, 0, none⟩), .int .i64 (room : Int), .map (some w.heap.size), .pointer (some ⟨w1.heap.size, 0, none⟩)] 70)
  have M9 := (G9.block w.heap.size (by omega)).trans ((HG.out.block w.heap.size (by omega)).trans N1.out)
  have R9 := HN.out.keep (G9.block w1.heap.size HN.out.lt)
  refine ⟨w2.heap.size, _, rfl, ⟨w1.heap.size, w.heap.size, fun _ => w1.heap.size, fun _ => w1.heap.size, [], [], rfl, rfl, ⟨N9, ⟨R9, fun e he => absurd he (by simp), fun e he => absurd he (by simp), List.nodup_cons.2 ⟨by simp [bs], List.nodup_nil⟩, ⟨rfl, rfl⟩⟩, ⟨Mp.Mq.new ik pv M9, fun n b => by simp [Mp.look], rfl, List.nodup_nil⟩⟩⟩, ?_, Grown.trans G1.out (Grown.trans HG.out G9)⟩
  rintro k (rfl | rfl | (rfl | hk) | ⟨e, he, _⟩)
  · omega
  · exact Nat.le_refl _
  · omega
  · exact absurd hk (by simp [bs])
  · exact absurd he (by simp)
theorem newNil_any (w : World) (n : Int) : Calls Try.prog 9 #[.pointer none, .int .i64 n] w fun e w' => e = .returned (.tuple #[.pointer none, .int .i64 1]) ∧ Grown w w' := by
  go_enter Try.func9, Try.ntmps9
  go_wp2
  go_ret2
  exact ⟨rfl, Grown.refl w⟩
theorem newBad_any (w : World) (H : Nat) (n : Int) (hn : n < 0) : Calls Try.prog 9 #[.pointer (some ⟨H, 0, none⟩), .int .i64 n] w fun e w' => e = .returned (.tuple #[.pointer none, .int .i64 2]) ∧ Grown w w' := by
  go_enter Try.func9, Try.ntmps9
  go_wp2
  go_ret2
  exact ⟨rfl, Grown.refl w⟩
end Go.Proofs.Ythakdjaaknbmpaa.S14
namespace Go.Proofs.Ythakdjaaknbmpaa.S14
open S13
open Cf
open Go.RowKit
set_option linter.unusedVariables false
set_option linter.unusedSimpArgs false
/-- Behind a store of s at t, whose bytes lie at g. -/
def Stored (w : World) (G H R M room g : Nat) (es : List En) (t : Nat) (s : List UInt8) (w' : World) : Prop := ∃ nw' od' es' ms', Kz w' G H R M room nw' od' es' ms' ∧ es'.map prj = kaUse room (es.map prj) t s ∧ (∀ k, RB R es' k → RB R es k ∨ k = g ∨ w.heap.size ≤ k) ∧ Ch (KL G R M es) w w'
theorem use_mid {room t : Nat} {l : Ka} {es2 : List En} {s : List UInt8} (h : es2.map prj = (t, s) :: kaDrop l (t : Int)) (hl : l.length ≤ room) :
    (es2.length ≤ room → es2.map prj = kaUse room l t s) ∧ (¬ es2.length ≤ room → ∃ a z, es2 = a ++ [z] ∧ a.map prj = kaUse room l t s) := by
  have hle : (kaDrop l (t : Int)).length ≤ l.length := List.length_filter_le _ _
  have h2 := congrArg List.length h
  simp only [List.length_map, List.length_cons] at h2
  unfold kaUse
  rw [← h]
  refine ⟨fun h3 => (List.take_of_length_le (by simpa using h3)).symm, fun h3 => ?_⟩
  have hne : es2 ≠ [] := fun e => by rw [e] at h3; simp at h3
  refine ⟨es2.dropLast, es2.getLast hne, (List.dropLast_concat_getLast hne).symm, ?_⟩
  rw [List.dropLast_eq_take, List.map_take]
  congr 1
  omega
set_option maxRecDepth 20000 in
set_option maxHeartbeats 2000000 in
theorem store_any {w : World} {G H R M room : Nat} {nw od : Nat → Nat} {es : List En} {ms : List (Int × Nat)} (h : Kz w G H R M room nw od es ms) (hlen : es.length ≤ room) (hl : es.length ≤ 1000) (hr : room < 9223372036854775808) (t g c : Nat) (ht : t ≤ 100000) (s : List UInt8) (hs : s.length = 512) (ho : Own w 0 (some ⟨g, 0, none⟩) c s) (hgF : ¬ KF G R M es g) :
    Calls Try.prog 34 #[.pointer (some ⟨G, 0, none⟩), .int .i64 (t : Int), .slice (some ⟨g, 0, none⟩) 512 c] w fun r w' => r = .returned (.tuple #[]) ∧ Stored w G H R M room g es t s w' := by
  have HZ := Lib.hid h
  have HLen := Lib.hid hlen
  have HL := Lib.hid hl
  have HS := Lib.hid hs
  have HO := Lib.hid ho
  obtain ⟨HOc, hoc⟩ := own_heap ho
  have HOC := Lib.hid hoc
  have HGF := Lib.hid hgF
  clear h hlen hl hs ho hoc hgF
  go_enter Try.func34, Try.ntmps34
  go_wp2_with fail
  have G1 := Lib.hid (alloc_below w (.cells #[.int .i64 (t : Int)] 3))
  have N1 := Lib.hid (heap_alloc_new w (.cells #[.int .i64 (t : Int)] 3))
  have S1 := Lib.hid (World.size_alloc w (.cells #[.int .i64 (t : Int)] 3))
  generalize w.alloc _ = w1 at G1 N1 S1 ⊢
  have HZ1 := Lib.hid (HZ.out.grow G1.out)
  refine (drop_any HZ1.out (t : Int) (some ⟨w.heap.size, 0, none⟩) 1 (.inr ⟨w.heap.size, 0, rfl, by rw [S1.out]; omega, fun j hj => by
    have : j = 0 := by simp at hj; exact hj
    subst this
    exact cell_of_row w1 w.heap.size 0 _ _ (0, 0) N1.out⟩) (Nat.le_refl _)).mono ?_
  rintro r w2 ⟨rfl, nw2, od2, es1, ms1, hz2, hp2, hm2, hc2⟩
  have HZ2 := Lib.hid hz2
  have HP2 := Lib.hid hp2
  have HM2 := Lib.hid hm2
  have HC2 := Lib.hid (show Ch (KL G R M es) w w2 from Ch.then (Ch.grown G1.out) hc2 (fun _ _ hk => hk))
  clear hz2 hp2 hm2 hc2
  have hz3 := HZ2.out.grow (alloc_below w2 (.cells #[.int .i64 (t : Int), .slice (some ⟨g, 0, none⟩) 512 c, .pointer none, .pointer none] 77))
  obtain ⟨_, _, _, c3⟩ := hz3.cells
  have HZ3 := Lib.hid hz3
  have N3 := Lib.hid (heap_alloc_new w2 (.cells #[.int .i64 (t : Int), .slice (some ⟨g, 0, none⟩) 512 c, .pointer none, .pointer none] 77))
  have G3 := Lib.hid (alloc_below w2 (.cells #[.int .i64 (t : Int), .slice (some ⟨g, 0, none⟩) 512 c, .pointer none, .pointer none] 77))
  have S3 := Lib.hid (World.size_alloc w2 (.cells #[.int .i64 (t : Int), .slice (some ⟨g, 0, none⟩) 512 c, .pointer none, .pointer none] 77))
  obtain ⟨E, hE⟩ : ∃ x, x = w2.heap.size := ⟨_, rfl⟩
  have HE := Lib.hid hE
  clear hz3
  go_wp2_with fail
  clear c3
  rw [← hE]
  generalize w2.alloc _ = w3 at HZ3 N3 G3 S3 ⊢
  clear hE
  have HEn := Lib.hid (show E ∉ R :: bs es1 from fun hm => by
    have h1 : RB R es1 E := .inl (List.mem_cons.1 hm)
    have := HZ2.out.lt E (.inr (.inr h1))
    have := HE.out
    omega)
  have HO3 := Lib.hid (own_keep HO.out ((G3.out.block g (by have := lt_of_heap HOC.out; have := HC2.out.size; omega)).trans (HC2.out.block g (lt_of_heap HOC.out) (fun hk => HGF.out hk.kf))))
  rw [← HE.out] at N3
  refine (ring_lead (e := ⟨E, t, g, c, s⟩) HZ3.out.r ⟨_, _, N3.out⟩ HS.out HO3.out HEn.out).mono ?_
  rintro r w4 ⟨rfl, nw4, od4, h4, hc4⟩
  have H4 := Lib.hid h4
  have hEl : E = w2.heap.size := HE.out
  have hoff : ∀ k, KF G R M es1 k → ¬ RB R es1 k → w4.heap[k]? = w3.heap[k]? := fun k hk hn => hc4.block k (HZ3.out.lt k hk) (by
    rintro (rfl | hk2)
    · exact hn (.inl (.inl rfl))
    · rcases List.mem_cons.1 hk2 with e | hk2
      · have := HZ2.out.lt k hk
        have : k = E := e
        omega
      · exact hn (.inl (.inr hk2)))
  have hg4 : w4.heap[G]? = _ := (hoff G (.inl rfl) (fun hk => HZ3.out.gr hk rfl)).trans HZ3.out.g
  have HG4 := Lib.hid hg4
  have HM4 := Lib.hid (HZ3.out.m.keep (hoff M (.inr (.inl rfl)) (fun hk => HZ3.out.mr hk rfl)))
  have HC4 := Lib.hid (show Ch (KL G R M es) w w4 from Ch.then (grown_ch HC2.out G3.out) hc4 (fun k hk hf => by
    rcases hf with rfl | hf
    · exact .inr (.inr (.inl rfl))
    · rcases List.mem_cons.1 hf with e | hf
      · have : k = E := e
        have := HC2.out.size
        omega
      · obtain ⟨x, hx, rfl⟩ := of_bs hf
        exact .inr (.inr (.inr (mem_bs (HM2.out x hx))))))
  have HKE := Lib.hid (show ∀ x ∈ es1, x.k ≠ t from fun x hx e => by
    have h1 : prj x ∈ kaDrop (es.map prj) (t : Int) := by rw [← HP2.out]; exact List.mem_map_of_mem hx
    exact (drop_sub _ _ _ h1).2 (by show ((x.k : Nat) : Int) = t; rw [e]))
  have c2 : w4.cell? ⟨G, 2, none⟩ = some (.map (some M)) := cell_of_row w4 G 2 _ _ (0, 0) hg4
  clear h4 hc4 hoff hg4 hEl
  go_wp2_with (first
    | (at_mapUpdate
       refine Mp.wpList_store rfl (.tmp 24) (.tmp 25) (.tmp 26) rfl keys_int Try.underlying66 HM4.out.m (t : Int) E rfl rfl rfl ?_
       intro w5 hm5 hb5 hs5
       have HM5 := Lib.hid (HM4.out.add (e := ⟨E, t, g, c, s⟩) (HKE.out) hm5)
       have HB5 := Lib.hid hb5
       have HS5 := Lib.hid hs5
       clear c2 hm5 hb5 hs5))
  have HR5 := Lib.hid (H4.out.keep (w' := w5) (fun k hk => HB5.out.block k (H4.out.lt hk) (fun e => by
    injection e with e
    subst e
    rcases hk with (rfl | hk) | ⟨x, hx, hxa⟩
    · exact HZ3.out.mr (.inl (.inl rfl)) rfl
    · rcases List.mem_cons.1 hk with e2 | hk
      · have := HZ2.out.m.lt
        have := HE.out
        have : k = E := e2
        omega
      · exact HZ3.out.mr (.inl (.inr hk)) rfl
    · rcases List.mem_cons.1 hx with rfl | hx
      · exact HGF.out (.inr (.inl hxa))
      · exact HZ3.out.mr (.inr ⟨x, hx, hxa⟩) rfl)))
  have hg5 : w5.heap[G]? = _ := (HB5.out.block G (lt_of_heap HG4.out) (fun e => HZ.out.gm (by injection e with e; exact e.symm))).trans HG4.out
  have HZ5 := Lib.hid (show Kz w5 G H R M room nw4 od4 (⟨E, t, g, c, s⟩ :: es1) (Mp.upd ms1 (t : Int) E) from { g := hg5, r := HR5.out, m := HM5.out })
  have HC5 := Lib.hid (show Ch (KL G R M es) w w5 from Ch.then HC4.out (chBy (F := fun k => k = M) HB5.out rfl) (fun _ _ hk => .inr (.inl hk)))
  obtain ⟨es2, hes2⟩ : ∃ x, x = (⟨E, t, g, c, s⟩ : En) :: es1 := ⟨_, rfl⟩
  rw [← hes2] at HZ5
  have HU := Lib.hid (use_mid (room := room) (t := t) (l := es.map prj) (es2 := es2) (s := s) (by rw [hes2, List.map_cons, HP2.out]; rfl) (by rw [List.length_map]; exact HLen.out))
  have HSubF := Lib.hid (show ∀ k, RF R es2 k → RF R es k ∨ w.heap.size ≤ k from fun k hk => by
    rw [hes2] at hk
    have := HC2.out.size
    have := HE.out
    rcases hk with rfl | hk
    · exact .inl (.inl rfl)
    · rcases List.mem_cons.1 hk with e2 | hk
      · have : k = E := e2
        exact .inr (by omega)
      · obtain ⟨x, hx, rfl⟩ := of_bs hk
        exact .inl (.inr (mem_bs (HM2.out x hx))))
  have HSub := Lib.hid (show ∀ k, RB R es2 k → RB R es k ∨ k = g ∨ w.heap.size ≤ k from fun k hk => by
    rw [hes2] at hk
    have := HC2.out.size
    have := HE.out
    rcases hk with (rfl | hk) | ⟨x, hx, hxa⟩
    · exact .inl (.inl (.inl rfl))
    · rcases List.mem_cons.1 hk with e2 | hk
      · have : k = E := e2
        exact .inr (.inr (by omega))
      · obtain ⟨x, hx, rfl⟩ := of_bs hk
        exact .inl (.inl (.inr (mem_bs (HM2.out x hx))))
    · rcases List.mem_cons.1 hx with rfl | hx
      · exact .inr (.inl hxa.symm)
      · exact .inl (.inr ⟨x, HM2.out x hx, hxa⟩))
  have hl2 : es2.length ≤ 1001 := by
    have h1 := congrArg List.length HP2.out
    have h2 : (kaDrop (es.map prj) (t : Int)).length ≤ (es.map prj).length := List.length_filter_le _ _
    rw [List.length_map] at h1 h2
    rw [hes2, List.length_cons]
    have := HL.out
    omega
  obtain ⟨n2, hn2⟩ : ∃ x, x = es2.length := ⟨_, rfl⟩
  have HN2 := Lib.hid hn2
  rw [← hn2] at hl2
  clear hg5 hes2 hn2
  go_wp2_with fail
  refine restS_begin (fun v : World => v.cell? ⟨G, 2, none⟩ = some (.map (some M)) ∧ v.cell? ⟨G, 1, none⟩ = some (.int .i64 (room : Int)) ∧ (Builtin.len_ #[66] 3 #[.map (some M)]).run Try.prog v = .ok (.int .i64 (n2 : Int)) v) (by kernel_rfl) ?_
  have HV := Lib.hid (show Hp w5.drew w5 from rfl)
  have GV := Lib.hid (show Ch (KL G R M es) w w5.drew from HC5.out.drew)
  generalize w5.drew = v0 at HV GV ⊢
  have HZ6 := Lib.hid (HZ5.out.keep (w' := v0) (fun k _ => HV.out.at_ k))
  have SV := Lib.hid (show v0.cell? ⟨G, 2, none⟩ = some (.map (some M)) ∧ v0.cell? ⟨G, 1, none⟩ = some (.int .i64 (room : Int)) ∧ (Builtin.len_ #[66] 3 #[.map (some M)]).run Try.prog v0 = .ok (.int .i64 (n2 : Int)) v0 from ⟨HZ6.out.cells.2.2.1, HZ6.out.cells.2.1, by rw [HN2.out, ← HZ6.out.m.l]; exact HZ6.out.m.m.len Try.underlying66 _⟩)
  refine restS_take (i := 0) SV.out rfl (by kernel_rfl) (by kernel_rfl) (by kernel_rfl) (by rfl) (fun v hv => by obtain ⟨v1, v2, v3⟩ := hv; go_simp; try with_reducible rfl) ?_
  try simp only [Act.put, List.setIfInBounds_toArray, List.set_cons_zero, List.set_cons_succ]
  refine restS_take (i := 1) SV.out rfl (by kernel_rfl) (by kernel_rfl) (by kernel_rfl) (by rfl) (fun v hv => by obtain ⟨v1, v2, v3⟩ := hv; go_simp; try with_reducible rfl) ?_
  try simp only [Act.put, List.setIfInBounds_toArray, List.set_cons_zero, List.set_cons_succ]
  refine restS_take (i := 2) SV.out rfl (by kernel_rfl) (by kernel_rfl) (by kernel_rfl) (by rfl) (fun v hv => by obtain ⟨v1, v2, v3⟩ := hv; go_simp; try with_reducible rfl) ?_
  try simp only [Act.put, List.setIfInBounds_toArray, List.set_cons_zero, List.set_cons_succ]
  refine restS_take (i := 3) SV.out rfl (by kernel_rfl) (by kernel_rfl) (by kernel_rfl) (by rfl) (fun v hv => by obtain ⟨v1, v2, v3⟩ := hv; go_simp; try with_reducible rfl) ?_
  try simp only [Act.put, List.setIfInBounds_toArray, List.set_cons_zero, List.set_cons_succ]
  refine restS_take (i := 4) SV.out rfl (by kernel_rfl) (by kernel_rfl) (by kernel_rfl) (by rfl) (fun v hv => by obtain ⟨v1, v2, v3⟩ := hv; go_simp; try with_reducible rfl) ?_
  try simp only [Act.put, List.setIfInBounds_toArray, List.set_cons_zero, List.set_cons_succ]
  refine restS_take (i := 5) SV.out rfl (by kernel_rfl) (by kernel_rfl) (by kernel_rfl) (by rfl) (fun v hv => by obtain ⟨v1, v2, v3⟩ := hv; go_simp; try with_reducible rfl) ?_
  try simp only [Act.put, List.setIfInBounds_toArray, List.set_cons_zero, List.set_cons_succ]
  refine restS_take (i := 6) SV.out rfl (by kernel_rfl) (by kernel_rfl) (by kernel_rfl) (by rfl) (fun v hv => by obtain ⟨v1, v2, v3⟩ := hv; go_simp; try with_reducible rfl) ?_
  try simp only [Act.put, List.setIfInBounds_toArray, List.set_cons_zero, List.set_cons_succ]
  refine restS_take (i := 7) SV.out rfl (by kernel_rfl) (by kernel_rfl) (by kernel_rfl) (by rfl) (fun v hv => by obtain ⟨v1, v2, v3⟩ := hv; go_simp; try with_reducible rfl) ?_
  try simp only [Act.put, List.setIfInBounds_toArray, List.set_cons_zero, List.set_cons_succ]
  refine restS_take (i := 8) SV.out rfl (by kernel_rfl) (by kernel_rfl) (by kernel_rfl) (by rfl) (fun v hv => by obtain ⟨v1, v2, v3⟩ := hv; go_simp; try with_reducible rfl) ?_
  try simp only [Act.put, List.setIfInBounds_toArray, List.set_cons_zero, List.set_cons_succ]
  refine restS_take (i := 9) SV.out rfl (by kernel_rfl) (by kernel_rfl) (by kernel_rfl) (by rfl) (fun v hv => by obtain ⟨v1, v2, v3⟩ := hv; go_simp; try with_reducible rfl) ?_
  try simp only [Act.put, List.setIfInBounds_toArray, List.set_cons_zero, List.set_cons_succ]
  refine restS_done (by kernel_rfl) ?_
  clear SV
  by_cases hle : n2 ≤ room
  · rw [show decide (room < n2) = false from decide_eq_false (by omega)]
    have HRes := Lib.hid (HU.out.1 (by rw [← HN2.out]; exact hle))
    go_wp2
    refine bodyPost_end (results_none rfl _ _ _) rfl ⟨rfl, _, _, es2, _, HZ6.out, HRes.out, HSub.out, GV.out⟩
  · rw [show decide (room < n2) = true from decide_eq_true (by omega)]
    obtain ⟨a, z, haz, hres⟩ := HU.out.2 (by rw [← HN2.out]; exact hle)
    have HRes := Lib.hid hres
    have HAz := Lib.hid haz
    rw [haz] at HZ6
    obtain ⟨zb, hzb⟩ : ∃ x, x = z.b := ⟨_, rfl⟩
    have hq : nw4 R = zb := by
      have := HZ6.out.r.p
      rw [pth_last _ _ _ this, show bs (a ++ [z]) = bs a ++ [z.b] by simp [bs], lst_snoc, hzb]
    obtain ⟨_, _, r2, _⟩ := HZ6.out.r.r.cells
    rw [hq] at r2
    obtain ⟨_, _, _, c3⟩ := HZ6.out.cells
    have hX := discard_any (b := []) HZ6.out
    rw [← hzb] at hX
    have HX := Lib.hid hX
    clear hX hq hzb hres haz
    go_wp2_with fail
    refine HX.out.mono ?_
    rintro r w7 ⟨rfl, nw7, od7, ms7, hz7, hc7⟩
    rw [List.append_nil] at hz7
    have HZ7 := Lib.hid hz7
    have HC7 := Lib.hid (show Ch (KL G R M es) w w7 from Ch.then GV.out hc7 (fun k hk hf => by
      rcases hf with rfl | rfl | hf
      · exact .inl rfl
      · exact .inr (.inl rfl)
      · rcases HSubF.out k (by rw [HAz.out]; exact hf) with h1 | h1
        · exact .inr (.inr h1)
        · omega))
    clear hz7 hc7
    go_wp2
    refine bodyPost_end (results_none rfl _ _ _) rfl ⟨rfl, _, _, a, _, HZ7.out, HRes.out, fun k hk => HSub.out k (by
      rw [HAz.out]
      have := rb_mid (R := R) (k := k) (a := a) (b := []) (e := z) (by rw [List.append_nil]; exact hk)
      exact this), HC7.out⟩
end Go.Proofs.Ythakdjaaknbmpaa.S14
