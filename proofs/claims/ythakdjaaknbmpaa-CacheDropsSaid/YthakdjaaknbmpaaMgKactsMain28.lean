/-
  Contracts of the program's cache: Read, Write. Contracts of the program's device: has, takes, call, Size, Count, Waiting, Wear, Limit, Raise.
-/
import Derived.Test.YthakdjaaknbmpaaMgKactsMain20
import Derived.Test.YthakdjaaknbmpaaMgKactsMain23
import Derived.Test.YthakdjaaknbmpaaMgKactsMain25
import Derived.Test.YthakdjaaknbmpaaMgKactsMain27
import Derived.Test.YthakdjaaknbmpaaMgKactsMain17
namespace Go.Proofs.Ythakdjaaknbmpaa.S14
open S13
open Cf
open Go.RowKit
set_option linter.unusedVariables false
set_option linter.unusedSimpArgs false
theorem find_map {es : List En} {n : Int} {s : List UInt8} (h : kaFind (es.map prj) n = some s) : ∃ a e b, es = a ++ e :: b ∧ (e.k : Int) = n ∧ e.s = s := by
  obtain ⟨p, hp, h1, h2⟩ := find_some h
  obtain ⟨e, he, rfl⟩ := List.mem_map.1 hp
  obtain ⟨a, b, rfl⟩ := List.append_of_mem he
  exact ⟨a, e, b, rfl, h1, h2⟩
theorem find_none {es : List En} {n : Int} (h : kaFind (es.map prj) n = none) : ∀ e ∈ es, (e.k : Int) ≠ n := by
  intro e he hn
  unfold kaFind at h
  rw [Option.map_eq_none_iff, List.find?_eq_none] at h
  exact h (prj e) (List.mem_map_of_mem he) (decide_eq_true hn)
theorem cz_len {w : World} {G H R M room k : Nat} {nw od : Nat → Nat} {es : List En} {ms : List (Int × Nat)} (h : Kz w G H R M room nw od es ms) (hk : KOk room k (es.map prj)) (hl : k ≤ 100) : es.length ≤ room ∧ es.length ≤ 1000 := by
  have h1 := hk.room
  have h2 := hk.few
  rw [List.length_map] at h1 h2
  exact ⟨h1, by omega⟩
/-- The cache went on, by what the store's footprint allows. -/
theorem kzOn {D : DTab} {w w' : World} {G H R M room : Nat} {F Fd : Nat → Prop} {nw od : Nat → Nat} {es es' : List En} {l' : Ka} {dv : Dv} {ms : List (Int × Nat)} (K : DevOk D) (hd : D w H Fd dv) (ha : ∀ k, KF G R M es k → ¬ Fd k) (hF : ∀ k, F k ↔ KF G R M es k ∨ Fd k)
    (hz : Kz w' G H R M room nw od es' ms) (hl : es'.map prj = l') (hs : ∀ k, RB R es' k → RB R es k ∨ w.heap.size ≤ k) (hc : Ch (KL G R M es) w w') : CdOn D Cz w G H F room l' dv w' :=
  cd_cac (devKp K) hd ha hF ⟨KF G R M es', ⟨R, M, nw, od, es', ms, rfl, hl.symm, hz⟩, fun k hk => by
    rcases hk with rfl | rfl | hk
    · exact .inl (.inl rfl)
    · exact .inl (.inr (.inl rfl))
    · exact (hs k hk).imp (fun h => .inr (.inr h)) id, ⟨hc.os, hc.tape, hc.output, hc.size, fun k hk hf => hc.block k hk (fun h => hf h.kf)⟩⟩
theorem own_cell {w : World} {base : Nat} {A : Option Addr} {c : Nat} {s : List UInt8} (h : Own w base A c s) (hs : s.length = 512) : ∃ g, A = some ⟨g, 0, none⟩ ∧ base ≤ g := by
  rcases h.form with ⟨_, rfl, _⟩ | ⟨g, cur, rfl, hb, _⟩
  · simp at hs
  · exact ⟨g, rfl, hb⟩
set_option maxRecDepth 20000 in
set_option maxHeartbeats 4000000 in
theorem read_hit {D : DTab} (K : DevOk D) {w : World} {G H R M room i : Nat} {F Fd : Nat → Prop} {nw od : Nat → Nat} {a b : List En} {e : En} {dv : Dv} {ms : List (Int × Nat)} (h : Kz w G H R M room nw od (a ++ e :: b) ms) (hd : D w H Fd dv) (ha : ∀ k, KF G R M (a ++ e :: b) k → ¬ Fd k) (hF : ∀ k, F k ↔ KF G R M (a ++ e :: b) k ∨ Fd k) (hlen : (a ++ e :: b).length ≤ room) :
    Calls Try.prog 13 #[.pointer (some ⟨G, 0, none⟩), .int .i64 (e.k : Int)] w fun r w' =>
      ∃ A c, r = .returned (.tuple #[.slice A 512 c, .int .i64 0]) ∧ 512 ≤ c ∧ Own w' w.heap.size A c e.s ∧ ∃ F', Cd D Cz w' G H F' room (kaUse room ((a ++ e :: b).map prj) e.k e.s) dv ∧ (∀ k, F' k → F k ∨ w.heap.size ≤ k) ∧ Ch F w w' ∧ ∀ x, A = some x → ¬ F' x.block := by
  have HZ := Lib.hid h
  have HD := Lib.hid hd
  have HA := Lib.hid ha
  have HFF := Lib.hid hF
  have hem : e ∈ a ++ e :: b := List.mem_append_right _ List.mem_cons_self
  have HS := Lib.hid (h.r.o e hem).1
  have HUse := Lib.hid (show (e :: (a ++ b)).map prj = kaUse room ((a ++ e :: b).map prj) e.k e.s by
    unfold kaUse
    rw [drop_mid h.m.nd, List.take_of_length_le (by simp only [List.length_cons, List.length_map, List.length_append] at hlen ⊢; omega)]
    rfl)
  have hlk := look_some_ h.m (h.m.some_ hem)
  have HL := ring_leave h.r
  obtain ⟨_, _, c2, _⟩ := h.cells
  obtain ⟨eb, heb⟩ : ∃ x, x = e.b := ⟨_, rfl⟩
  obtain ⟨ek, hek⟩ : ∃ x, x = (e.k : Int) := ⟨_, rfl⟩
  have HEb := Lib.hid heb
  have HEk := Lib.hid hek
  rw [← heb] at hlk HL
  rw [← hek] at hlk ⊢
  replace HL := Lib.hid HL
  clear h hd ha hF hem heb hek hlen
  go_enter Try.func13, Try.ntmps13
  go_wp2_with fail
  refine HL.out.mono ?_
  rintro r w1 ⟨rfl, nw1, od1, n1, o1, h1, h2, h3, h4, h5, hc1⟩
  have H1 := Lib.hid h1
  have H2 := Lib.hid (show Nx w1 e.b (.int .i64 (e.k : Int)) (bvl e) by rw [← HEb.out]; exact h2.nx)
  have H4 := Lib.hid h4
  have H5 := Lib.hid (show e.b ∉ R :: bs (a ++ b) by rw [← HEb.out]; exact h5)
  have hem : e ∈ a ++ e :: b := List.mem_append_right _ List.mem_cons_self
  have hg1 : w1.heap[G]? = _ := (hc1.block G (HZ.out.lt G (.inl rfl)) (fun hf => HZ.out.gr (.inl hf) rfl)).trans HZ.out.g
  have HG1 := Lib.hid hg1
  have HM1 := Lib.hid (HZ.out.m.keep (hc1.block M HZ.out.m.lt (fun hf => HZ.out.mr (.inl hf) rfl)))
  have HC1 := Lib.hid hc1
  have c3 : w1.cell? ⟨G, 3, none⟩ = some (.pointer (some ⟨R, 0, none⟩)) := cell_of_row w1 G 3 _ _ (0, 0) hg1
  clear h1 h2 h3 h4 h5 hem hg1 hc1 hlk c2 HL
  go_wp2_with fail
  clear c3
  rw [HEb.out]
  refine (ring_lead H1.out H2.out HS.out H4.out H5.out).mono ?_
  rintro r w2 ⟨rfl, nw2, od2, h1, hc2⟩
  have H6 := Lib.hid h1
  have hsub : ∀ k, RF R (e :: (a ++ b)) k → RF R (a ++ e :: b) k := fun k hk => hk.imp id (fun hk => by
    obtain ⟨x, hx, rfl⟩ := of_bs hk
    rcases List.mem_cons.1 hx with rfl | hx
    · exact mem_bs (List.mem_append_right _ List.mem_cons_self)
    · exact mem_bs (mid_mem hx))
  have HC2 := Lib.hid (Ch.then HC1.out hc2 (fun k _ hk => hsub k hk))
  have hg2 : w2.heap[G]? = _ := (HC2.out.block G (HZ.out.lt G (.inl rfl)) (fun hf => HZ.out.gr (.inl hf) rfl)).trans HZ.out.g
  have HM2 := Lib.hid ((HZ.out.m.keep (HC2.out.block M HZ.out.m.lt (fun hf => HZ.out.mr (.inl hf) rfl))).perm (List.perm_middle))
  have HZ2 := Lib.hid (show Kz w2 G H R M room nw2 od2 (e :: (a ++ b)) ms from { g := hg2, r := H6.out, m := HM2.out })
  have hn := H6.out.n e List.mem_cons_self
  have hc1' : w2.cell? ⟨eb, 1, none⟩ = some (.slice (some ⟨e.A, 0, none⟩) 512 e.c) := by rw [HEb.out]; exact hn.cells.2.1
  rw [← HEb.out]
  obtain ⟨g, hg⟩ : ∃ x, x = e.A := ⟨_, rfl⟩
  obtain ⟨c, hc⟩ : ∃ x, x = e.c := ⟨_, rfl⟩
  rw [← hg, ← hc] at hc1'
  have HO := Lib.hid (show Rd w2 w2.heap.size (some ⟨g, 0, none⟩) e.s by rw [hg]; exact (H6.out.o e List.mem_cons_self).2.rd)
  clear h1 hc2 hsub hg2 hn hg hc
  go_wp2_with fail
  refine (bclone_any _ 512 c e.s w2 HS.out (by omega) HO.out).mono ?_
  rintro r w3 ⟨A3, c3, rfl, ho, hg⟩
  have HO3 := Lib.hid (show Own w3 w.heap.size A3 c3 e.s from ho.less HC2.out.size)
  have HG3 := Lib.hid hg
  obtain ⟨g3, hg3, hb3⟩ := own_cell ho HS.out
  have HA3 := Lib.hid hg3
  clear ho hg hc1' hg3
  go_wp2
  go_ret2
  have hle := HO3.out.le
  obtain ⟨F', q1, q2, q3⟩ := kzOn (F := F) K HD.out HA.out HFF.out HZ2.out HUse.out (fun k hk => .inl (by
    rcases hk with (rfl | hk) | ⟨x, hx, hxa⟩
    · exact .inl (.inl rfl)
    · obtain ⟨x, hx, rfl⟩ := of_bs hk
      refine .inl (.inr ?_)
      rcases List.mem_cons.1 hx with rfl | hx
      · exact mem_bs (List.mem_append_right _ List.mem_cons_self)
      · exact mem_bs (mid_mem hx)
    · refine .inr ⟨x, ?_, hxa⟩
      rcases List.mem_cons.1 hx with rfl | hx
      · exact List.mem_append_right _ List.mem_cons_self
      · exact mid_mem hx)) (Ch.then (Ch.refl _ w) HC2.out (fun k _ hk => .inr (.inr hk)))
  refine ⟨A3, c3, rfl, by rw [← HS.out]; exact hle, HO3.out, F', q1.grow czKept (devKp K) HG3.out, q2, grown_ch q3 HG3.out, fun x hx hf => ?_⟩
  have := q1.foot czKept (devKp K) x.block hf
  rw [HA3.out] at hx
  injection hx with hx
  rw [← hx] at this
  have : g3 < w2.heap.size := this
  omega
theorem owA_keep {w w' : World} {base : Nat} {A : Option Addr} {c : Nat} {s : List UInt8} (h : OwA w base A c s) (hk : ∀ x, A = some x → w'.heap[x.block]? = w.heap[x.block]?) : OwA w' base A c s := by
  rcases h with h | ⟨g, tt, cur, rfl, h1, h2, h3, h4⟩
  · exact .inl h
  · exact .inr ⟨g, tt, cur, rfl, h1, (hk _ rfl).trans h2, h3, h4⟩
/-- Behind a call of the device that the cache's own blocks are not touched by. -/
structure Aft (D : DTab) (w w1 : World) (G H R M room : Nat) (F Fd Fd' : Nat → Prop) (nw od : Nat → Nat) (es : List En) (ms : List (Int × Nat)) (dv' : Dv) : Prop where
  z : Kz w1 G H R M room nw od es ms
  d : D w1 H Fd' dv'
  a : ∀ k, KF G R M es k → ¬ Fd' k
  f : ∀ k, KF G R M es k ∨ Fd' k → F k ∨ w.heap.size ≤ k
  c : Ch F w w1
  l : ∀ k, KF G R M es k → k < w.heap.size
theorem aft_mk {D : DTab} {w w1 : World} {G H R M room : Nat} {F Fd Fd' : Nat → Prop} {nw od : Nat → Nat} {es : List En} {ms : List (Int × Nat)} {dv' : Dv} (h : Kz w G H R M room nw od es ms) (ha : ∀ k, KF G R M es k → ¬ Fd k) (hF : ∀ k, F k ↔ KF G R M es k ∨ Fd k)
    (h1 : D w1 H Fd' dv') (h2 : ∀ k, Fd' k → Fd k ∨ w.heap.size ≤ k) (h3 : Ch Fd w w1) : Aft D w w1 G H R M room F Fd Fd' nw od es ms dv' where
  z := h.keep fun k hk => h3.block k (h.lt k hk) (ha k hk)
  d := h1
  a := fun k hk hd => by
    rcases h2 k hd with h4 | h4
    · exact ha k hk h4
    · have := h.lt k hk; omega
  f := fun k hk => by
    rcases hk with hk | hk
    · exact .inl ((hF k).2 (.inl hk))
    · rcases h2 k hk with h4 | h4
      · exact .inl ((hF k).2 (.inr h4))
      · exact .inr h4
  c := Ch.then (Ch.refl F w) h3 (fun k _ hk => (hF k).2 (.inr hk))
  l := h.lt
theorem Aft.same {D : DTab} {w w1 : World} {G H R M room : Nat} {F Fd Fd' : Nat → Prop} {nw od : Nat → Nat} {es : List En} {ms : List (Int × Nat)} {dv' : Dv} (h : Aft D w w1 G H R M room F Fd Fd' nw od es ms dv') : CdOn D Cz w G H F room (es.map prj) dv' w1 :=
  ⟨_, ⟨KF G R M es, Fd', ⟨R, M, nw, od, es, ms, rfl, rfl, h.z⟩, h.d, h.a, fun k => Iff.rfl⟩, h.f, h.c⟩
/-- .. and behind a store besides. -/
theorem Aft.stored {D : DTab} (K : DevOk D) {w w1 w2 w3 : World} {G H R M room g t : Nat} {F Fd Fd' : Nat → Prop} {nw od : Nat → Nat} {es : List En} {ms : List (Int × Nat)} {dv' : Dv} {s : List UInt8} (h : Aft D w w1 G H R M room F Fd Fd' nw od es ms dv')
    (hg2 : Grown w1 w2) (hg : w1.heap.size ≤ g) (hs : Stored w2 G H R M room g es t s w3) :
    ∃ F', Cd D Cz w3 G H F' room (kaUse room (es.map prj) t s) dv' ∧ (∀ k, F' k → F k ∨ w.heap.size ≤ k) ∧ Ch F w w3 ∧ ∀ b, b < w1.heap.size → w.heap.size ≤ b → ¬ Fd' b → ¬ F' b ∧ w3.heap[b]? = w1.heap[b]? := by
  obtain ⟨nw', od', es', ms', hz, hl, hsub, hc⟩ := hs
  obtain ⟨F', h1, h2, h3⟩ := kzOn (F := fun k => KF G R M es k ∨ Fd' k) K h.d h.a (fun k => Iff.rfl) hz hl (fun k hk => by
    rcases hsub k hk with h4 | h4 | h4
    · exact .inl h4
    · exact .inr (by omega)
    · exact .inr (Nat.le_trans hg2.size h4)) (Ch.then (Ch.grown hg2) hc (fun _ _ hk => hk))
  refine ⟨F', h1, fun k hk => ?_, Ch.then h.c h3 (fun k hk hf => ?_), fun b hb hb2 hd => ?_⟩
  · rcases h2 k hk with h4 | h4
    · exact h.f k h4
    · exact .inr (Nat.le_trans h.c.size h4)
  · rcases h.f k hf with h4 | h4
    · exact h4
    · omega
  · have hnk : ¬ (KF G R M es b ∨ Fd' b) := fun e => by
      rcases e with e | e
      · have := h.l b e
        omega
      · exact hd e
    exact ⟨fun hk => by rcases h2 b hk with h4 | h4; exact hnk h4; omega, h3.block b hb hnk⟩
set_option maxRecDepth 20000 in
set_option maxHeartbeats 4000000 in
theorem read_miss {D : DTab} (K : DevOk D) {w : World} {G H R M room i : Nat} {F Fd : Nat → Prop} {nw od : Nat → Nat} {es : List En} {dv : Dv} {ms : List (Int × Nat)} (h : Kz w G H R M room nw od es ms) (hd : D w H Fd dv) (ha : ∀ k, KF G R M es k → ¬ Fd k) (hF : ∀ k, F k ↔ KF G R M es k ∨ Fd k)
    (hk : KOk room dv.kept.length (es.map prj)) (hok : Ok dv i) (hi : i ≤ 1000) (hl : dv.kept.length ≤ 100) (hr : room < 9223372036854775808) (n : Int) (hfn : kaFind (es.map prj) n = none) :
    Calls Try.prog 13 #[.pointer (some ⟨G, 0, none⟩), .int .i64 n] w fun e w' =>
      ∃ A m c, e = .returned (.tuple #[.slice A m c, .int .i64 (kaRead room (es.map prj) dv n).2.1]) ∧ (kaRead room (es.map prj) dv n).1.length = m ∧ m ≤ c ∧ OwA w' w.heap.size A c (kaRead room (es.map prj) dv n).1 ∧
        ∃ F', Cd D Cz w' G H F' room (kaRead room (es.map prj) dv n).2.2.1 (kaRead room (es.map prj) dv n).2.2.2 ∧ (∀ k, F' k → F k ∨ w.heap.size ≤ k) ∧ Ch F w w' ∧ ∀ x, A = some x → ¬ F' x.block := by
  have HZ := Lib.hid h
  have HA := Lib.hid ha
  have HFF := Lib.hid hF
  have HFn := Lib.hid hfn
  have HOk := Lib.hid hok
  have HLen := Lib.hid (cz_len h hk hl)
  have HRd := Lib.hid (K.read w H Fd dv i n hd hok hi hl)
  have HKl := Lib.hid hl
  have hlk := look_none_ h.m (h.m.none_ (find_none hfn))
  obtain ⟨c0, _, c2, _⟩ := h.cells
  clear h hd ha hF hk hok hfn hl
  go_enter Try.func13, Try.ntmps13
  go_wp2_with fail
  refine HRd.out.mono ?_
  rintro e w1 ⟨A, m, c, rfl, hm, hmc, ho, Fd', h1, h2, h3, h4⟩
  have HAf := Lib.hid (aft_mk HZ.out HA.out HFF.out h1 h2 h3)
  have HO := Lib.hid ho
  have HX := Lib.hid h4
  obtain ⟨E, hE⟩ : ∃ E, E = (dvRead dv n).2.1 := ⟨_, rfl⟩
  obtain ⟨T, hT⟩ : ∃ T, T = (dvRead dv n).1 := ⟨_, rfl⟩
  rw [← hT] at HO hm
  rw [← hE]
  have HE := Lib.hid hE
  have HT := Lib.hid hT
  have HM := Lib.hid hm
  clear HRd h1 h2 h3 h4 ho hE hT c0 c2 hlk hm
  by_cases he : E = 0
  · have HR := Lib.hid (show kaRead room (es.map prj) dv n = (T, 0, kaUse room (es.map prj) n.toNat T, (dvRead dv n).2.2) by
      unfold kaRead
      rw [HFn.out]
      show (if _ then _ else _) = _
      rw [if_pos (by rw [← HE.out]; exact he), ← HT.out])
    have HT5 := Lib.hid (show T.length = 512 by rw [HT.out]; exact read_len HOk.out (by rw [← HE.out]; exact he))
    have hn := read_ok (HE.out.symm.trans he)
    obtain ⟨t, rfl⟩ : ∃ t : Nat, n = (t : Int) := ⟨n.toNat, by omega⟩
    have ht : t ≤ 100000 := by have := HKl.out; omega
    obtain rfl : m = 512 := HM.out.symm.trans HT5.out
    subst he
    clear hn
    go_wp2_with fail
    refine (bclone_any A 512 c T w1 HT5.out (by omega) HO.out.rd).mono ?_
    rintro r w2 ⟨A2, c2, rfl, ho2, hg2⟩
    obtain ⟨g, rfl, hgB⟩ := own_cell ho2 HT5.out
    have HO2 := Lib.hid (ho2.less (Nat.zero_le _))
    have HG2 := Lib.hid hg2
    have HZ2 := Lib.hid (HAf.out.z.grow hg2)
    have HGB := Lib.hid hgB
    have HNg := Lib.hid (show ¬ KF G R M es g from fun hk => by have := HAf.out.z.lt g hk; omega)
    clear ho2 hg2 hgB
    go_wp2_with fail
    refine (store_any HZ2.out HLen.out.1 HLen.out.2 hr t g c2 ht T HT5.out HO2.out HNg.out).mono ?_
    rintro r w3 ⟨rfl, hst⟩
    obtain ⟨F', q1, q2, q3, q4⟩ := HAf.out.stored K HG2.out HGB.out hst
    have Q1 := Lib.hid q1
    have Q2 := Lib.hid q2
    have Q3 := Lib.hid q3
    have Q4 := Lib.hid q4
    clear hst q1 q2 q3 q4
    go_wp2
    go_ret2
    rw [HR.out]
    have hlt := HO.out.lt
    refine ⟨A, 512, c, rfl, HT5.out, hmc, owA_keep HO.out (fun x hx => (Q4.out x.block (hlt x hx).2 (hlt x hx).1 (HX.out x hx)).2), F', Q1.out, Q2.out, Q3.out, fun x hx => (Q4.out x.block (hlt x hx).2 (hlt x hx).1 (HX.out x hx)).1⟩
  · have HR := Lib.hid (show kaRead room (es.map prj) dv n = ([], E, es.map prj, (dvRead dv n).2.2) by
      unfold kaRead
      rw [HFn.out]
      show (if _ then _ else _) = _
      rw [if_neg (by rw [← HE.out]; exact he), ← HE.out])
    have be : (E != 0) = true := by rw [bne_iff_ne]; exact he
    clear he
    go_wp2
    go_ret2
    rw [HR.out]
    obtain ⟨F', q1, q2, q3⟩ := HAf.out.same
    exact ⟨none, 0, 0, rfl, rfl, Nat.le_refl _, OwA.nil _ _, F', q1, q2, q3, fun x hx => by cases hx⟩
set_option maxRecDepth 20000 in
set_option maxHeartbeats 4000000 in
theorem write_any {D : DTab} (K : DevOk D) {w : World} {G H R M room i : Nat} {F Fd : Nat → Prop} {nw od : Nat → Nat} {es : List En} {dv : Dv} {ms : List (Int × Nat)} (h : Kz w G H R M room nw od es ms) (hd : D w H Fd dv) (ha : ∀ k, KF G R M es k → ¬ Fd k) (hF : ∀ k, F k ↔ KF G R M es k ∨ Fd k)
    (hk : KOk room dv.kept.length (es.map prj)) (hok : Ok dv i) (hi : i ≤ 1000) (hl : dv.kept.length ≤ 100) (hr : room < 9223372036854775808) (n : Int) (A : Option Addr) (m c : Nat) (b : List UInt8) (hb : Rd w w.heap.size A b) (hm : b.length = m) (hmc : m ≤ c) (hm1 : m ≤ 1000) (hoff : ∀ x, A = some x → b ≠ [] → ¬ F x.block) :
    Calls Try.prog 11 #[.pointer (some ⟨G, 0, none⟩), .int .i64 n, .slice A m c] w fun e w' => e = .returned (.int .i64 (kaWrite room (es.map prj) dv n b).1) ∧ CdOn D Cz w G H F room (kaWrite room (es.map prj) dv n b).2.1 (kaWrite room (es.map prj) dv n b).2.2 w' := by
  have HZ := Lib.hid h
  have HA := Lib.hid ha
  have HFF := Lib.hid hF
  have HOk := Lib.hid hok
  have HLen := Lib.hid (cz_len h hk hl)
  have HWr := Lib.hid (K.write w H Fd dv i n A m c b hd hok hi hl hb hm hmc hm1 (fun x hx hn hf => hoff x hx hn ((hF _).2 (.inr hf))))
  have HKl := Lib.hid hl
  have HB := Lib.hid hb
  have HBm := Lib.hid hm
  have HOff := Lib.hid hoff
  obtain ⟨c0, _, _, _⟩ := h.cells
  clear h hd ha hF hk hok hl hb hm hoff
  go_enter Try.func11, Try.ntmps11
  go_wp2_with fail
  refine HWr.out.mono ?_
  rintro e w1 ⟨rfl, Fd', h1, h2, h3⟩
  have HAf := Lib.hid (aft_mk HZ.out HA.out HFF.out h1 h2 h3)
  have HB1 := Lib.hid (rd_ch13 HB.out HAf.out.c HOff.out)
  obtain ⟨E, hE⟩ : ∃ E, E = (dvWrite dv n b).1 := ⟨_, rfl⟩
  rw [← hE]
  have HE := Lib.hid hE
  clear HWr h1 h2 h3 hE c0
  by_cases he : E = 0
  · have hn := write_ok (HE.out.symm.trans he)
    have HR := Lib.hid (show kaWrite room (es.map prj) dv n b = (0, kaUse room (es.map prj) n.toNat (pad512 b), (dvWrite dv n b).2) by
      unfold kaWrite
      rw [if_pos (by rw [← HE.out]; exact he)])
    have HP5 := Lib.hid (pad512_len b hn.2.2)
    obtain ⟨t, rfl⟩ : ∃ t : Nat, n = (t : Int) := ⟨n.toNat, by omega⟩
    have ht : t ≤ 100000 := by have := HKl.out; omega
    subst he
    clear hn
    go_wp2_with fail
    refine (fill_any A m c b 512 w1 HB1.out HBm.out (by omega) (by omega)).mono ?_
    rintro r w2 ⟨A2, c2, rfl, ho2, hg2⟩
    rw [show fillL b (512 : Int).toNat = pad512 b from rfl] at ho2 ⊢
    rw [HP5.out]
    obtain ⟨g, rfl, hgB⟩ := own_cell ho2 HP5.out
    have HO2 := Lib.hid (ho2.less (Nat.zero_le _))
    have HG2 := Lib.hid hg2
    have HZ2 := Lib.hid (HAf.out.z.grow hg2)
    have HGB := Lib.hid hgB
    have HNg := Lib.hid (show ¬ KF G R M es g from fun hk => by have := HAf.out.z.lt g hk; omega)
    clear ho2 hg2 hgB
    go_wp2_with fail
    refine (store_any HZ2.out HLen.out.1 HLen.out.2 hr t g c2 ht (pad512 b) HP5.out HO2.out HNg.out).mono ?_
    rintro r w3 ⟨rfl, hst⟩
    obtain ⟨F', q1, q2, q3, _⟩ := HAf.out.stored K HG2.out HGB.out hst
    have Q1 := Lib.hid q1
    have Q2 := Lib.hid q2
    have Q3 := Lib.hid q3
    clear hst q1 q2 q3
    go_wp2
    go_ret
    rw [HR.out]
    exact ⟨rfl, F', Q1.out, Q2.out, Q3.out⟩
  · have HR := Lib.hid (show kaWrite room (es.map prj) dv n b = (E, es.map prj, (dvWrite dv n b).2) by
      unfold kaWrite
      rw [if_neg (by rw [← HE.out]; exact he), ← HE.out])
    have be : (E != 0) = true := by rw [bne_iff_ne]; exact he
    clear he
    go_wp2
    go_ret
    rw [HR.out]
    exact ⟨rfl, HAf.out.same⟩
end Go.Proofs.Ythakdjaaknbmpaa.S14
namespace Go.Proofs.Ythakdjaaknbmpaa.S13
open Cf
open Go.RowKit
set_option linter.unusedVariables false
set_option linter.unusedSimpArgs false
def onErr (st : Dv) : Int := if isOn st then 0 else 10
theorem onErr_off {st : Dv} (h : isOn st = false) : onErr st = 10 := by unfold onErr; rw [h]; rfl
theorem onErr_on {st : Dv} (h : isOn st = true) : onErr st = 0 := by unfold onErr; rw [h]; rfl
theorem tickOff {st : Dv} (h : isOn st = false) : tick st = st := by
  unfold isOn at h
  have : st.calls = 0 := by simpa using h
  unfold tick
  rw [if_neg (by omega)]
section
variable {w w' : World} {G Bd Bl : Nat} {Ap : Option Addr} {L : List Pw} {left : Int} {st : Dv} {i : Nat}
theorem Pz.offG (h : Pz w G Bd Bl Ap L left st) (j : Nat) (u : Value) : Wr (w.setCell ⟨G, j, none⟩ u) L :=
  h.wr.keep fun p hp => heap_setCell_other w _ _ _ (fun e => h.ap p hp (.inl e))
theorem Pz.setLeft (h : Pz w G Bd Bl Ap L left st) (n c : Int) (hc : c = if n < 0 then -1 else n) (h0 : -9223372036854775808 ≤ n) (h1 : n < 9223372036854775808) : Pz (w.setCell ⟨G, 4, none⟩ (.int .i64 n)) G Bd Bl Ap L n { st with calls := c } :=
  { pr := h.pr.setLeft n, wr := h.offG 4 _, ap := h.ap, pend := h.pend, p2 := h.p2, calls := hc, l0 := h0, l1 := h1 }
theorem Pz.setCount (h : Pz w G Bd Bl Ap L left st) (n : Int) : Pz (w.setCell ⟨G, 3, none⟩ (.int .i64 n)) G Bd Bl Ap L left { st with count := n } :=
  { pr := h.pr.setCount n, wr := h.offG 3 _, ap := h.ap, pend := h.pend, p2 := h.p2, calls := h.calls, l0 := h.l0, l1 := h.l1 }
theorem Pz.chG (j : Nat) (u : Value) : Ch (FF G Bd Bl Ap L) w (w.setCell ⟨G, j, none⟩ u) := Ch.setCell (Ch.refl _ _) (p := ⟨G, j, none⟩) (.inl (.inl (.inl rfl))) _
theorem Pz.on0 (h : Pz w G Bd Bl Ap L left st) : isOn st = decide (left ≠ 0) := by
  unfold isOn
  rw [h.calls]
  by_cases h1 : left < 0
  · rw [if_pos h1]; exact (decide_eq_true (by omega)).trans (decide_eq_true (by omega)).symm
  · rw [if_neg h1]
theorem has_yes (h : Pz w G Bd Bl Ap L left st) (n : Int) (h0 : 0 ≤ n) (h1 : n < (st.kept.length : Int)) : Calls Try.prog 54 #[.pointer (some ⟨G, 0, none⟩), .int .i64 n] w fun e w' => e = .returned (.bool true) ∧ w' = w := by
  obtain ⟨cp, l1, c0, c1, c2, c3, c4⟩ := h.pr.cells
  obtain ⟨k, hk⟩ : ∃ k, k = st.kept.length := ⟨_, rfl⟩
  have q0 : w.cell? ⟨G, 0, none⟩ = some (.slice (some ⟨Bd, 0, none⟩) k k) := by rw [hk]; exact c0
  rw [← hk] at h1
  clear h hk c0 c1 c2 c3 c4 l1
  go_enter Try.func54, Try.ntmps54
  go_wp2
  go_ret
  exact ⟨rfl, rfl⟩
theorem has_no (h : Pz w G Bd Bl Ap L left st) (n : Int) (h1 : ¬ (0 ≤ n ∧ n < (st.kept.length : Int))) : Calls Try.prog 54 #[.pointer (some ⟨G, 0, none⟩), .int .i64 n] w fun e w' => e = .returned (.bool false) ∧ w' = w := by
  obtain ⟨cp, l1, c0, c1, c2, c3, c4⟩ := h.pr.cells
  obtain ⟨k, hk⟩ : ∃ k, k = st.kept.length := ⟨_, rfl⟩
  have q0 : w.cell? ⟨G, 0, none⟩ = some (.slice (some ⟨Bd, 0, none⟩) k k) := by rw [hk]; exact c0
  rw [← hk] at h1
  clear h hk c0 c1 c2 c3 c4 l1
  by_cases hn : 0 ≤ n
  · have hn2 : ¬ n < (k : Int) := by omega
    clear h1
    go_enter Try.func54, Try.ntmps54
    go_wp2
    go_ret
    exact ⟨rfl, rfl⟩
  · clear h1
    go_enter Try.func54, Try.ntmps54
    go_wp2
    go_ret
    exact ⟨rfl, rfl⟩
theorem takes_no1 (h : Pz w G Bd Bl Ap L left st) (n : Int) (h1 : ¬ (0 ≤ n ∧ n < (st.kept.length : Int))) (A2 : Option Addr) (n2 c2 : Nat) : Calls Try.prog 48 #[.pointer (some ⟨G, 0, none⟩), .int .i64 n, .slice A2 n2 c2] w fun e w' => e = .returned (.bool false) ∧ w' = w := by
  have HC := Lib.hid (has_no h n h1)
  clear h h1
  go_enter Try.func48, Try.ntmps48
  go_wp2_with fail
  refine HC.out.mono ?_
  rintro e w1 ⟨rfl, rfl⟩
  clear HC
  go_wp2
  go_ret
  exact ⟨rfl, rfl⟩
theorem takes_in (h : Pz w G Bd Bl Ap L left st) (n : Int) (h0 : 0 ≤ n) (h1 : n < (st.kept.length : Int)) (A2 : Option Addr) (n2 c2 : Nat) : Calls Try.prog 48 #[.pointer (some ⟨G, 0, none⟩), .int .i64 n, .slice A2 n2 c2] w fun e w' => e = .returned (.bool (decide (n2 ≤ 512))) ∧ w' = w := by
  have HC := Lib.hid (has_yes h n h0 h1)
  clear h h0 h1
  by_cases hn : n2 ≤ 512
  · have b : (n2 : Int) ≤ 512 := by omega
    rw [decide_eq_true hn]
    clear hn
    go_enter Try.func48, Try.ntmps48
    go_wp2_with fail
    refine HC.out.mono ?_
    rintro e w1 ⟨rfl, rfl⟩
    clear HC
    go_wp2
    go_ret
    exact ⟨by simp, rfl⟩
  · have b : ¬ (n2 : Int) ≤ 512 := by omega
    rw [decide_eq_false hn]
    clear hn
    go_enter Try.func48, Try.ntmps48
    go_wp2_with fail
    refine HC.out.mono ?_
    rintro e w1 ⟨rfl, rfl⟩
    clear HC
    go_wp2
    go_ret
    exact ⟨by simp; omega, rfl⟩
/-- A call is counted. -/
theorem call_any (h : Pz w G Bd Bl Ap L left st) : Calls Try.prog 43 #[.pointer (some ⟨G, 0, none⟩)] w fun e w' => e = .returned (.int .i64 (onErr st)) ∧ (∃ left', Pz w' G Bd Bl Ap L left' (tick st)) ∧ Ch (FF G Bd Bl Ap L) w w' := by
  obtain ⟨cp, l1, c0, c1, c2, c3, c4⟩ := h.pr.cells
  have hf := h.pr.frozen 4
  have H := Lib.hid h
  have k0 := h.l0
  have k1 := h.l1
  have HO := Lib.hid h.on0
  have HCl := Lib.hid h.calls
  have q4 : w.cell? ⟨G, 4, none⟩ = some (.int .i64 left) := c4
  clear h c0 c1 c2 c3 c4 l1
  by_cases h1 : left = 0
  · subst h1
    have HOn := Lib.hid (show isOn st = false from HO.out.trans (decide_eq_false (by omega)))
    have HT := Lib.hid (tickOff HOn.out)
    go_enter Try.func43, Try.ntmps43
    go_wp2
    go_ret
    rw [onErr_off HOn.out, HT.out]
    exact ⟨rfl, ⟨0, H.out⟩, Ch.refl _ _⟩
  · have HOn := Lib.hid (show isOn st = true from HO.out.trans (decide_eq_true (by omega)))
    have b1 : (left == 0) = false := by simpa using h1
    by_cases h2 : left > 0
    · have HT := Lib.hid (show tick st = { st with calls := left - 1 } by unfold tick; rw [HCl.out, if_neg (show ¬ left < 0 by omega), if_pos h2])
      have hw : IntKind.i64.wrap (left - 1) = left - 1 := by rw [IntKind.wrap_i64]; omega
      clear h1
      go_enter Try.func43, Try.ntmps43
      go_wp2
      go_ret
      rw [onErr_on HOn.out, HT.out]
      exact ⟨rfl, ⟨left - 1, H.out.setLeft _ _ (by rw [if_neg (by omega)]) (by omega) (by omega)⟩, Pz.chG _ _⟩
    · have HT := Lib.hid (show tick st = st by unfold tick; rw [HCl.out, if_pos (show left < 0 by omega)]; rfl)
      clear h1
      go_enter Try.func43, Try.ntmps43
      go_wp2
      go_ret
      rw [onErr_on HOn.out, HT.out]
      exact ⟨rfl, ⟨left, H.out⟩, Ch.refl _ _⟩
theorem waits_any (h : Pz w G Bd Bl Ap L left st) : Calls Try.prog 28 #[.pointer (some ⟨G, 0, none⟩)] w fun e w' => e = .returned (.int .i64 (st.pend.length : Int)) ∧ w' = w := by
  obtain ⟨cp, l1, c0, c1, c2, c3, c4⟩ := h.pr.cells
  have hl : (L.map (·.1)).length = st.pend.length := by rw [← h.pend, List.length_map, List.length_map]
  rw [show (Ps.mk st.kept (L.map (·.1)) (latRow st.kept.length L) st.count left).row.length = st.pend.length from hl] at c1 l1
  clear h c0 c2 c3 c4 hl
  go_enter Try.func28, Try.ntmps28
  go_wp2
  go_ret
  exact ⟨rfl, rfl⟩
theorem limit_any (h : Pz w G Bd Bl Ap L left st) (n : Int) (h0 : -9223372036854775808 ≤ n) (h1 : n < 9223372036854775808) : Calls Try.prog 20 #[.pointer (some ⟨G, 0, none⟩), .int .i64 n] w fun e w' => e = .returned (.tuple #[]) ∧ Pz w' G Bd Bl Ap L n (dvLimit st n) ∧ Ch (FF G Bd Bl Ap L) w w' := by
  obtain ⟨cp, l1, c0, c1, c2, c3, c4⟩ := h.pr.cells
  have hf := h.pr.frozen 4
  have H := Lib.hid h
  have q4 : w.cell? ⟨G, 4, none⟩ = some (.int .i64 left) := c4
  clear h c0 c1 c2 c3 c4 l1
  go_enter Try.func20, Try.ntmps20
  go_wp2
  refine bodyPost_end (results_none rfl _ _ _) rfl ?_
  exact ⟨rfl, H.out.setLeft n _ rfl h0 h1, Pz.chG _ _⟩
end
end Go.Proofs.Ythakdjaaknbmpaa.S13
