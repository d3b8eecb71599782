/-
  The reference's cache: a sector is the newest now. The reference's cache: use.
-/
import Derived.Test.YthakdjaaknbmpaaMgKactsMain14
namespace Go.Proofs.Ythakdjaaknbmpaa.S14
open S13
open Cf
open Go.RowKit
set_option linter.unusedVariables false
set_option linter.unusedSimpArgs false

theorem Ow.takeN {w : World} {base : Nat} {e : TypeId} {A : Option Addr} {c : Nat} {vs : List Value} (h : Ow w base e A c vs) (k : Nat) (hk : k ≤ vs.length) : Ow w base e A c (vs.take k) := by
  rcases h.form with ⟨rfl, rfl, rfl⟩ | ⟨g, cur, rfl, hb, hh, hc, hm, hs, ht⟩
  · simpa using Ow.nil w base e
  · have hl : (vs.take k).length = k := by rw [List.length_take]; omega
    refine ⟨by simp, .inr ⟨g, c, cur, rfl, hb, hh, by rw [hl]; omega, hm, by simpa using hs, ?_⟩⟩
    rw [Nat.mul_one, hl]
    have h2 := congrArg (List.take k) ht
    rw [List.take_take, Nat.min_eq_left hk] at h2
    exact h2
/-- append of a row onto a row of one. -/
theorem app_rowOw {P : Program} {w : World} {base e t : Nat} {i0 : TypeInfo} {z : Value} {bytes : Nat} (ht : P.underlying t = some (.slice e)) (hi : P.info? e = some i0) (hz : i0.zero = some z) (hz1 : i0.size = 1) (hz2 : i0.bytes = bytes) (hzc : z.cells.size = 1) (hb16 : bytes ≤ 64)
    {g c c2 : Nat} {vs us : List Value} {A2 : Option Addr} {B : Nat} (h : Ow w base e (some ⟨g, 0, none⟩) c vs) (h2 : Ow w B e A2 c2 us) (h1 : ∀ u ∈ us, u.oneCell' = true) (hl : vs.length + us.length ≤ 100000) (hbase : base ≤ w.heap.size) (ty : TypeId) :
    ∃ A' c' w', (Builtin.append_ #[t, t] ty #[.slice (some ⟨g, 0, none⟩) vs.length c, .slice A2 us.length c2]).run P w = .ok (.slice A' (vs.length + us.length) c') w' ∧ Ow w' base e A' c' (vs ++ us) ∧ w.grownBy w' (some g) ∧ Moved w (some ⟨g, 0, none⟩) A' := by
  rcases h.form with ⟨e0, _⟩ | ⟨g0, cur, e0, hbg, hheap, hnc, hcm, hcs, htake⟩
  · cases e0
  simp only [Option.some.injEq, Addr.mk.injEq] at e0
  obtain ⟨rfl, _⟩ := e0
  rcases h2.form with ⟨rfl, rfl, rfl⟩ | ⟨g2, cur2, rfl, hbg2, hheap2, hnc2, _, _, htake2⟩
  · refine ⟨some ⟨g, 0, none⟩, c, w, ?_, by simpa using h, ⟨rfl, rfl, rfl, Nat.le_refl _, fun _ _ _ => rfl⟩, .inl rfl⟩
    simp [Builtin.append_, run_underlying ht, sizeOf, typeInfo, hi, Builtin.lenOf, Builtin.firstCells, hnc, storeCells]
  · have hnews : ∀ j u, us[j]? = some u → w.cell? ((⟨g2, 0, none⟩ : Addr).add j) = some u := fun j u hu => by
      have hj : j < us.length := (List.getElem?_eq_some_iff.1 hu).1
      obtain ⟨g3, e3, _, _, hc3, _⟩ := h2.at_ j hj
      simp only [Option.some.injEq, Addr.mk.injEq] at e3
      obtain ⟨rfl, _⟩ := e3
      rw [List.getElem?_eq_getElem hj] at hu
      simp only [Option.some.injEq] at hu
      subst hu
      by_cases h0 : j = 0
      · subst h0; simpa [Addr.add] using hc3
      · simpa [Addr.add, h0] using hc3
    have hbytes : (vs.length + us.length) * bytes ≤ 140737488355328 := by
      have : (vs.length + us.length) * bytes ≤ 100000 * 64 := Nat.mul_le_mul (by omega) hb16
      omega
    by_cases hu : us = []
    · subst hu
      obtain ⟨v', w', hrun, hown', hg, _⟩ := run_append_own (P := P) w base t ty e i0 z 1 bytes ht hi hz hz1 hz2 hzc (by omega) _ _ _ h ⟨g2, 0, none⟩ 0 c2 [] rfl (fun j u hu => by simp at hu) (fun u hu => by simp at hu) (by unfold maxLen; omega) hbytes hbase
      have hr := run_append_room (P := P) w t ty e i0 ht hi g vs.length c cur hheap ⟨g2, 0, none⟩ 0 c2 [] (by simp) (fun j u hu => by simp at hu) (fun u hu => by simp at hu) hnc (by rw [hz1, hcs]; simp; omega)
      have e := hrun.symm.trans hr
      injection e with e _
      subst e
      refine ⟨_, _, w', hrun, ?_, hg, .inl rfl⟩
      unfold Ow
      rw [List.length_append]
      exact hown'
    · obtain ⟨A', c', w', hrun, hown', hg, hm⟩ := app_moved (P := P) (ty := ty) ht hi hz hz1 hz2 hzc (by omega) h ⟨g2, 0, none⟩ us.length c2 us (List.length_pos_iff.2 hu) (by simp) hnews h1 (by unfold maxLen; omega) hbytes hbase
      refine ⟨A', c', w', hrun, ?_, hg, hm⟩
      unfold Ow
      rw [List.length_append]
      exact hown'
/-- .. onto a row of one that was just made. -/
theorem wpList_appLit {P : Program} {w : World} {e t : Nat} {i0 : TypeInfo} {z : Value} {bytes : Nat} (ht : P.underlying t = some (.slice e)) (hi : P.info? e = some i0) (hz : i0.zero = some z) (hz1 : i0.size = 1) (hz2 : i0.bytes = bytes) (hzc : z.cells.size = 1) (hb16 : bytes ≤ 64)
    {c2 n : Nat} {v : Value} {us : List Value} {A2 : Option Addr} {B : Nat} {ops : Array Oper} {rest : List Oper} {o : Oper} {a : Act} {Q : Exit → Act → World → Prop} (hgd : o.guard = none) (s x : Operand) (ho : o.op = .call { callee := .builtin .append, args := #[s, x], argTypes := #[t, t] })
    (hs : a.eval s = .slice (some ⟨w.heap.size, 0, none⟩) 1 1) (hv : v.oneCell' = true) (hn : us.length = n) (hx : a.eval x = .slice A2 n c2) (h2 : Ow w B e A2 c2 us) (h1 : ∀ u ∈ us, u.oneCell' = true) (hl : n ≤ 10000)
    (hk : ∀ A' c' w', Ow w' w.heap.size e A' c' (v :: us) → Grown w w' → wpList P ops Q rest (a.put o.dst (.slice A' (n + 1) c')) w') : wpList P ops Q (o :: rest) a (w.alloc (.cells #[v] e)) := by
  subst hn
  have hnew := heap_alloc_new w (.cells #[v] e)
  have hlit : Ow (w.alloc (.cells #[v] e)) w.heap.size e (some ⟨w.heap.size, 0, none⟩) 1 [v] := ⟨rfl, .inr ⟨w.heap.size, 1, #[v], rfl, Nat.le_refl _, hnew, Nat.le_refl _, by unfold maxLen; omega, rfl, rfl⟩⟩
  obtain ⟨A', c', w', hrun, h3, h4, h5⟩ := app_rowOw (us := us) (A2 := A2) (c2 := c2) ht hi hz hz1 hz2 hzc hb16 hlit (owGrow h2 (alloc_below w _)) h1 (by simp; omega) (by simp) o.type
  refine wpList_plain hgd fun K hK => ?_
  have hrun' : (Builtin.append_ #[t, t] o.type #[.slice (some ⟨w.heap.size, 0, none⟩) 1 1, .slice A2 us.length c2]).run P (w.alloc (.cells #[v] e)) = .ok (.slice A' (us.length + 1) c') w' := by rw [Nat.add_comm]; exact hrun
  unfold Oper.wp execOp
  simp only [ho, resolve, invoke, builtin, Sem.run_bind, Sem.run_pure, Result.andThen_ok, List.map_toArray, List.map_cons, List.map_nil, hs, hx, hrun']
  refine hK _ _ (hk A' c' w' h3 ?_)
  exact ⟨h4.os, h4.tape, h4.output, Nat.le_trans (alloc_below w _).size h4.size, fun k hk => (h4.block k (by simp; omega) (by simp; omega)).trans ((alloc_below w _).block k hk)⟩

/-- The reference's cache, its two rows apart. -/
structure Qr (w : World) (base Q R : Nat) (Aa Aw : Option Addr) (room : Nat) (va vw : List Value) : Prop where
  bQ : base ≤ Q
  na : ∀ x, Aa = some x → x.block ≠ Q
  nw : ∀ x, Aw = some x → x.block ≠ Q
  aw : Apart Aa Aw
  ex : ∃ ca cw, w.heap[Q]? = some (.cells #[.pointer (some ⟨R, 0, none⟩), .int .i64 (room : Int), .slice Aa va.length ca, .slice Aw vw.length cw] 37 (0, 0)) ∧ Ow w base 3 Aa ca va ∧ Ow w base 9 Aw cw vw
section
variable {w w' : World} {base Q R room : Nat} {Aa Aw : Option Addr} {va vw : List Value} {l : Ka}
theorem Qv.raw (h : Qv w base Q R Aa Aw room l) : Qr w base Q R Aa Aw room (kvs l) (wvs l) := by
  obtain ⟨ca, cw, hQ, h1, h2⟩ := h.ex
  exact ⟨h.bQ, h.na, h.nw, h.aw, ca, cw, by rw [kvs_len, wvs_len]; exact hQ, h1, h2⟩
theorem Qr.qv (h : Qr w base Q R Aa Aw room (kvs l) (wvs l)) : Qv w base Q R Aa Aw room l := by
  obtain ⟨ca, cw, hQ, h1, h2⟩ := h.ex
  rw [kvs_len, wvs_len] at hQ
  exact ⟨h.bQ, h.na, h.nw, h.aw, ca, cw, hQ, h1, h2⟩
theorem Qr.lt (h : Qr w base Q R Aa Aw room va vw) : ∀ k, QF Q Aa Aw k → base ≤ k ∧ k < w.heap.size := by
  obtain ⟨ca, cw, hQ, ha, hw⟩ := h.ex
  rintro k (rfl | ⟨x, hx, rfl⟩ | ⟨x, hx, rfl⟩)
  · exact ⟨h.bQ, lt_of_heap hQ⟩
  · exact ha.lt x hx
  · exact hw.lt x hx
theorem Qr.keep (h : Qr w base Q R Aa Aw room va vw) (hk : ∀ k, QF Q Aa Aw k → w'.heap[k]? = w.heap[k]?) : Qr w' base Q R Aa Aw room va vw := by
  obtain ⟨ca, cw, hQ, h1, h2⟩ := h.ex
  exact { h with ex := ⟨ca, cw, (hk Q (.inl rfl)).trans hQ, h1.keep fun x hx => hk _ (.inr (.inl ⟨x, hx, rfl⟩)), h2.keep fun x hx => hk _ (.inr (.inr ⟨x, hx, rfl⟩))⟩ }
theorem Qr.grow (h : Qr w base Q R Aa Aw room va vw) (hg : Grown w w') : Qr w' base Q R Aa Aw room va vw := h.keep fun k hk => hg.block k (h.lt k hk).2
theorem Qr.cells (h : Qr w base Q R Aa Aw room va vw) : ∃ ca cw, va.length ≤ ca ∧ vw.length ≤ cw ∧ w.cell? ⟨Q, 1, none⟩ = some (.int .i64 (room : Int)) ∧ w.cell? ⟨Q, 2, none⟩ = some (.slice Aa va.length ca) ∧ w.cell? ⟨Q, 3, none⟩ = some (.slice Aw vw.length cw) ∧ Ow w base 3 Aa ca va ∧ Ow w base 9 Aw cw vw := by
  obtain ⟨ca, cw, hQ, h1, h2⟩ := h.ex
  exact ⟨ca, cw, h1.le, h2.le, cell_of_row w Q 1 _ _ (0, 0) hQ, cell_of_row w Q 2 _ _ (0, 0) hQ, cell_of_row w Q 3 _ _ (0, 0) hQ, h1, h2⟩
theorem Qr.frozen (h : Qr w base Q R Aa Aw room va vw) (j : Nat) : w.frozen? ⟨Q, j, none⟩ = false := by
  obtain ⟨ca, cw, hQ, _⟩ := h.ex
  exact frozen_of_row w Q j _ _ hQ
/-- Another row of numbers, made since. -/
theorem Qr.putA {A' : Option Addr} {c' n : Nat} {va' : List Value} (h : Qr w base Q R Aa Aw room va vw) (hg : Grown w w') (ho : Ow w' w.heap.size 3 A' c' va') (hn : va'.length = n) : Qr (w'.setCell ⟨Q, 2, none⟩ (.slice A' n c')) base Q R A' Aw room va' vw := by
  subst hn
  obtain ⟨ca, cw, hQ, h1, h2⟩ := h.ex
  have hQl := lt_of_heap hQ
  have n1 : ∀ x, A' = some x → x.block ≠ Q := fun x hx e => by have := (ho.lt x hx).1; omega
  refine { bQ := h.bQ, na := n1, nw := h.nw, aw := fun x y hx hy => (by have := (ho.lt x hx).1; have := (h2.lt y hy).2; omega), ex := ⟨c', cw, ?_, offQ n1 (owBase ho (by have := h.bQ; omega)) 2 _, offQ h.nw (owGrow h2 hg) 2 _⟩ }
  rw [heap_setCell_same w' Q 2 _ _ _ ((hg.block Q hQl).trans hQ)]
  rfl
theorem Qr.putW {A' : Option Addr} {c' n : Nat} {vw' : List Value} (h : Qr w base Q R Aa Aw room va vw) (hg : Grown w w') (ho : Ow w' w.heap.size 9 A' c' vw') (hn : vw'.length = n) : Qr (w'.setCell ⟨Q, 3, none⟩ (.slice A' n c')) base Q R Aa A' room va vw' := by
  subst hn
  obtain ⟨ca, cw, hQ, h1, h2⟩ := h.ex
  have hQl := lt_of_heap hQ
  have n1 : ∀ x, A' = some x → x.block ≠ Q := fun x hx e => by have := (ho.lt x hx).1; omega
  refine { bQ := h.bQ, na := h.na, nw := n1, aw := fun x y hx hy => (by have := (ho.lt y hy).1; have := (h1.lt x hx).2; omega), ex := ⟨ca, c', ?_, offQ h.na (owGrow h1 hg) 3 _, offQ n1 (owBase ho (by have := h.bQ; omega)) 3 _⟩ }
  rw [heap_setCell_same w' Q 3 _ _ _ ((hg.block Q hQl).trans hQ)]
  rfl
/-- A row is cut. -/
theorem Qr.cutA {k c : Nat} (h : Qr w base Q R Aa Aw room va vw) (hk : k ≤ va.length) (hc : w.cell? ⟨Q, 2, none⟩ = some (.slice Aa va.length c)) : Qr (w.setCell ⟨Q, 2, none⟩ (.slice Aa k c)) base Q R Aa Aw room (va.take k) vw := by
  obtain ⟨ca, cw, hQ, h1, h2⟩ := h.ex
  have e : c = ca := by
    have h3 := cell_of_row w Q 2 _ _ (0, 0) hQ
    rw [hc] at h3
    simpa using h3
  subst e
  refine { h with ex := ⟨c, cw, ?_, offQ h.na (Ow.takeN h1 k hk) 2 _, offQ h.nw h2 2 _⟩ }
  rw [heap_setCell_same w Q 2 _ _ _ hQ, List.length_take, Nat.min_eq_left hk]
  rfl
theorem Qr.cutW {k c : Nat} (h : Qr w base Q R Aa Aw room va vw) (hk : k ≤ vw.length) (hc : w.cell? ⟨Q, 3, none⟩ = some (.slice Aw vw.length c)) : Qr (w.setCell ⟨Q, 3, none⟩ (.slice Aw k c)) base Q R Aa Aw room va (vw.take k) := by
  obtain ⟨ca, cw, hQ, h1, h2⟩ := h.ex
  have e : c = cw := by
    have h3 := cell_of_row w Q 3 _ _ (0, 0) hQ
    rw [hc] at h3
    simpa using h3
  subst e
  refine { h with ex := ⟨ca, c, ?_, offQ h.na h1 3 _, offQ h.nw (Ow.takeN h2 k hk) 3 _⟩ }
  rw [heap_setCell_same w Q 3 _ _ _ hQ, List.length_take, Nat.min_eq_left hk]
  rfl
end
theorem cutI (W : World) (A : Option Addr) (m c d : Nat) (h : d ≤ c) : (Instr.slice 34 (.slice A m c) none (some (.int .i64 (d : Int))) none).run Try.prog W = .ok (.slice A d c) W := by
  have hle : ((d : Int)).toNat ≤ c := by simpa using h
  go_simp
theorem cutSt (W : World) (A : Option Addr) (m c d : Nat) (h : d ≤ c) : (Instr.slice 35 (.slice A m c) none (some (.int .i64 (d : Int))) none).run Try.prog W = .ok (.slice A d c) W := by
  have hle : ((d : Int)).toNat ≤ c := by simpa using h
  go_simp
end Go.Proofs.Ythakdjaaknbmpaa.S14
namespace Go.Proofs.Ythakdjaaknbmpaa.S14
open S13
open Cf
open Go.RowKit
set_option linter.unusedVariables false
set_option linter.unusedSimpArgs false

theorem kvs_one (l : Ka) : ∀ u ∈ kvs l, u.oneCell' = true := fun u hu => by
  obtain ⟨p, _, rfl⟩ := List.mem_map.1 hu
  rfl
theorem wvs_one (l : Ka) : ∀ u ∈ wvs l, u.oneCell' = true := fun u hu => by
  obtain ⟨p, _, rfl⟩ := List.mem_map.1 hu
  rfl
theorem use_long (room : Nat) (l : Ka) (n : Nat) (s : List UInt8) (h : room < (kaDrop l (n : Int)).length + 1) : kvs (kaUse room l n s) = (iv n :: kvs (kaDrop l (n : Int))).take room ∧ wvs (kaUse room l n s) = (sv s :: wvs (kaDrop l (n : Int))).take room := by
  unfold kaUse kvs wvs
  exact ⟨by rw [List.map_take]; rfl, by rw [List.map_take]; rfl⟩
theorem use_all (room : Nat) (l : Ka) (n : Nat) (s : List UInt8) (h : (kaDrop l (n : Int)).length + 1 ≤ room) : kaUse room l n s = (n, s) :: kaDrop l (n : Int) := by
  unfold kaUse
  exact List.take_of_length_le (by simpa using h)
theorem drop_len (l : Ka) (n : Int) : (kaDrop l n).length ≤ l.length := List.length_filter_le _ _
set_option maxRecDepth 20000 in
set_option maxHeartbeats 8000000 in
theorem qUse {w : World} {base Q R room : Nat} {Aa Aw : Option Addr} {l : Ka} (h : Qv w base Q R Aa Aw room l) (hl : l.length ≤ 1000) (hr : room < 9223372036854775808) (n : Nat) (hn : n ≤ 100000) (s : List UInt8) :
    Calls Try.prog 37 #[.pointer (some ⟨Q, 0, none⟩), .int .i64 (n : Int), .string ⟨s.toArray⟩] w fun e w' => e = .returned (.tuple #[]) ∧ QOn base Q R w (QF Q Aa Aw) room (kaUse room l n s) w' := by
  have HD := Lib.hid (qDrop h hl (n : Int))
  have HQl := Lib.hid (h.lt Q (.inl rfl)).2
  obtain ⟨m, hm⟩ : ∃ m, m = (kaDrop l (n : Int)).length := ⟨_, rfl⟩
  have HM := Lib.hid hm
  have hml : m ≤ 1000 := by rw [hm]; exact Nat.le_trans (drop_len l _) hl
  clear h hl hm
  obtain ⟨iI, hiI, hzI, hsI, hbI⟩ := info_parts infoI
  obtain ⟨iS, hiS, hzS, hsS, hbS⟩ := info_parts infoS
  obtain ⟨S, hS⟩ : ∃ S : ByteArray, S = ⟨s.toArray⟩ := ⟨_, rfl⟩
  have HS := Lib.hid hS
  rw [← hS]
  clear hS
  go_enter Try.func37, Try.ntmps37
  go_wp2_with fail
  refine HD.out.mono ?_
  rintro e w1 ⟨rfl, Ba, Bw, hv1, hf1, hc1⟩
  have V1 := Lib.hid hv1.raw
  have F1 := Lib.hid hf1
  have C1 := Lib.hid hc1
  have HQ1 := Lib.hid (hv1.lt Q (.inl rfl)).2
  clear hv1 hf1 hc1 HD
  obtain ⟨da, dw, l1, l2, q1, q2, q3, o1, o2⟩ := V1.out.cells
  have OA := Lib.hid o1
  have q2' : (w1.alloc (.cells #[.int .i64 (n : Int)] 3)).cell? ⟨Q, 2, none⟩ = some (.slice Ba m da) := by
    have := (alloc_below w1 (.cells #[.int .i64 (n : Int)] 3)).cell (p := ⟨Q, 2, none⟩) HQ1.out
    rw [this, q2, kvs_len, HM.out]
  clear l1 l2 q1 q2 q3 o1 o2
  go_wp2_with (first
    | (at_builtin
       refine wpList_appLit (e := 3) (t := 34) rfl hiI hzI hsI hbI rfl (by decide) rfl (.tmp 11) (.tmp 15) rfl rfl rfl (n := m) (us := kvs (kaDrop l (n : Int))) (by rw [kvs_len]; exact HM.out.symm) rfl OA.out (kvs_one _) (by omega) ?_
       intro A3 c3 w3 ho3 hg3
       have G3 := Lib.hid hg3
       have f3 := (V1.out.grow hg3).frozen 2
       obtain ⟨_, _, _, _, _, e2, _, _, _⟩ := (V1.out.grow hg3).cells
       have V3 := Lib.hid (V1.out.putA hg3 ho3 (n := m + 1) (by rw [List.length_cons, kvs_len, HM.out]))
       obtain ⟨_, dw2, _, _, _, _, y3, _, o4⟩ := V3.out.cells
       have OW := Lib.hid o4
       have HSz := Lib.hid (show (w3.setCell ⟨Q, 2, none⟩ (.slice A3 (m + 1) c3)).heap.size = w3.heap.size by simp)
       have HQ3 := Lib.hid (V3.out.lt Q (.inl rfl)).2
       have q3' : ((w3.setCell ⟨Q, 2, none⟩ (.slice A3 (m + 1) c3)).alloc (.cells #[.string S] 9)).cell? ⟨Q, 3, none⟩ = some (.slice Bw m dw2) := by
         have := (alloc_below (w3.setCell ⟨Q, 2, none⟩ (.slice A3 (m + 1) c3)) (.cells #[.string S] 9)).cell (p := ⟨Q, 3, none⟩) HQ3.out
         rw [this, y3, wvs_len, HM.out]
       have N3 := Lib.hid (show ∀ x, A3 = some x → w1.heap.size ≤ x.block from fun x hx => (ho3.lt x hx).1)
       clear ho3 hg3 q2' OA o4 y3)
    | (at_builtin
       refine wpList_appLit (e := 9) (t := 35) rfl hiS hzS hsS hbS rfl (by decide) rfl (.tmp 21) (.tmp 25) rfl (by rw [HSz.out]; rfl) rfl (n := m) (us := wvs (kaDrop l (n : Int))) (by rw [wvs_len]; exact HM.out.symm) rfl OW.out (wvs_one _) (by omega) ?_
       intro A5 c5 w5 ho5 hg5
       have G5 := Lib.hid hg5
       have f5 := (V3.out.grow hg5).frozen 3
       obtain ⟨_, _, _, _, _, _, e3, _, _⟩ := (V3.out.grow hg5).cells
       have V5 := Lib.hid (V3.out.putW hg5 ho5 (n := m + 1) (by rw [List.length_cons, wvs_len, HM.out]))
       have N5 := Lib.hid (show ∀ x, A5 = some x → w3.heap.size ≤ x.block from fun x hx => by rw [← HSz.out]; exact (ho5.lt x hx).1)
       clear ho5 hg5 q3' OW))
  have C6 := Lib.hid (show Ch (QF Q Aa Aw) w (w5.setCell ⟨Q, 3, none⟩ (.slice A5 (m + 1) c5)) from Ch.setCell (Ch.trans (Ch.setCell (Ch.trans C1.out (Ch.grown G3.out)) (p := ⟨Q, 2, none⟩) (.inl (.inl rfl)) _) (Ch.grown G5.out)) (p := ⟨Q, 3, none⟩) (.inl (.inl rfl)) _)
  have U6 := Lib.hid (show ∀ k, QF Q A3 A5 k → QF Q Aa Aw k ∨ w.heap.size ≤ k from fun k hk => by
    rcases hk with rfl | ⟨x, hx, rfl⟩ | ⟨x, hx, rfl⟩
    · exact .inl (.inl rfl)
    · exact .inr (Nat.le_trans C1.out.size (N3.out x hx))
    · exact .inr (Nat.le_trans C1.out.size (Nat.le_trans G3.out.size (N5.out x hx))))
  clear e2 e3 f3 f5 C1 N3 N5 V3 G3 G5 V1 F1 HQ1 HQ3 HSz
  generalize w5.setCell _ _ = w6 at V5 C6 ⊢
  have V7 := Lib.hid (V5.out.grow (w' := w6.drew) (Below.refl _ w6).drew)
  have C7 := Lib.hid (Ch.drew C6.out)
  obtain ⟨ea, ew, _, _, z1, z2, _, _, _⟩ := V7.out.cells
  have S7 := Lib.hid (show w6.drew.cell? ⟨Q, 1, none⟩ = some (.int .i64 (room : Int)) ∧ w6.drew.cell? ⟨Q, 2, none⟩ = some (.slice A3 (m + 1) ea) from ⟨z1, by rw [z2, List.length_cons, kvs_len, HM.out]⟩)
  clear z1 z2
  refine restS_begin (fun v : World => v.cell? ⟨Q, 1, none⟩ = some (.int .i64 (room : Int)) ∧ v.cell? ⟨Q, 2, none⟩ = some (.slice A3 (m + 1) ea)) (by kernel_rfl) ?_
  generalize w6.drew = w7 at V7 C7 S7 ⊢
  clear V5 C6
  refine restS_take (i := 0) S7.out rfl (by kernel_rfl) (by kernel_rfl) (by kernel_rfl) (by rfl) (fun v hv => by obtain ⟨v1, v2⟩ := hv; go_simp; try with_reducible rfl) ?_
  try simp only [Act.put, List.setIfInBounds_toArray, List.set_cons_zero, List.set_cons_succ]
  refine restS_take (i := 1) S7.out rfl (by kernel_rfl) (by kernel_rfl) (by kernel_rfl) (by rfl) (fun v hv => by obtain ⟨v1, v2⟩ := hv; go_simp; try with_reducible rfl) ?_
  try simp only [Act.put, List.setIfInBounds_toArray, List.set_cons_zero, List.set_cons_succ]
  refine restS_take (i := 2) S7.out rfl (by kernel_rfl) (by kernel_rfl) (by kernel_rfl) (by rfl) (fun v hv => by obtain ⟨v1, v2⟩ := hv; go_simp; try with_reducible rfl) ?_
  try simp only [Act.put, List.setIfInBounds_toArray, List.set_cons_zero, List.set_cons_succ]
  refine restS_take (i := 3) S7.out rfl (by kernel_rfl) (by kernel_rfl) (by kernel_rfl) (by rfl) (fun v hv => by obtain ⟨v1, v2⟩ := hv; go_simp; try with_reducible rfl) ?_
  try simp only [Act.put, List.setIfInBounds_toArray, List.set_cons_zero, List.set_cons_succ]
  refine restS_take (i := 4) S7.out rfl (by kernel_rfl) (by kernel_rfl) (by kernel_rfl) (by rfl) (fun v hv => by obtain ⟨v1, v2⟩ := hv; go_simp; try with_reducible rfl) ?_
  try simp only [Act.put, List.setIfInBounds_toArray, List.set_cons_zero, List.set_cons_succ]
  refine restS_take (i := 5) S7.out rfl (by kernel_rfl) (by kernel_rfl) (by kernel_rfl) (by rfl) (fun v hv => by obtain ⟨v1, v2⟩ := hv; go_simp; try with_reducible rfl) ?_
  try simp only [Act.put, List.setIfInBounds_toArray, List.set_cons_zero, List.set_cons_succ]
  refine restS_take (i := 6) S7.out rfl (by kernel_rfl) (by kernel_rfl) (by kernel_rfl) (by rfl) (fun v hv => by obtain ⟨v1, v2⟩ := hv; go_simp; try with_reducible rfl) ?_
  try simp only [Act.put, List.setIfInBounds_toArray, List.set_cons_zero, List.set_cons_succ]
  refine restS_take (i := 7) S7.out rfl (by kernel_rfl) (by kernel_rfl) (by kernel_rfl) (by rfl) (fun v hv => by obtain ⟨v1, v2⟩ := hv; go_simp; try with_reducible rfl) ?_
  try simp only [Act.put, List.setIfInBounds_toArray, List.set_cons_zero, List.set_cons_succ]
  refine restS_take (i := 8) S7.out rfl (by kernel_rfl) (by kernel_rfl) (by kernel_rfl) (by rfl) (fun v hv => by obtain ⟨v1, v2⟩ := hv; go_simp; try with_reducible rfl) ?_
  try simp only [Act.put, List.setIfInBounds_toArray, List.set_cons_zero, List.set_cons_succ]
  refine restS_take (i := 9) S7.out rfl (by kernel_rfl) (by kernel_rfl) (by kernel_rfl) (by rfl) (fun v hv => by obtain ⟨v1, v2⟩ := hv; go_simp; try with_reducible rfl) ?_
  try simp only [Act.put, List.setIfInBounds_toArray, List.set_cons_zero, List.set_cons_succ]
  refine restS_done (by kernel_rfl) ?_
  by_cases hlt : room < m + 1
  · have hb : ((m : Int) + 1 > (room : Int)) := by omega
    have hrm : room ≤ m + 1 := by omega
    have HU := Lib.hid (use_long room l n s (by rw [← HM.out]; omega))
    clear S7
    go_wp2_with fail
    have V8 := Lib.hid (V7.out.grow (w' := w7.drew) (Below.refl _ w7).drew)
    have C8 := Lib.hid (Ch.drew C7.out)
    obtain ⟨ia, iw, k1, k2, z1, z2, _, _, _⟩ := V8.out.cells
    rw [List.length_cons, kvs_len] at k1 z2
    rw [← HM.out] at k1 z2
    have fz := V8.out.frozen 2
    have S8 := Lib.hid z1
    have hcut : ∀ V : World, (Instr.slice 34 (.slice A3 (m + 1) ia) none (some (.int .i64 (room : Int))) none).run Try.prog V = .ok (.slice A3 room ia) V := fun V => cutI V A3 (m + 1) ia room (by omega)
    have V9 := Lib.hid (V8.out.cutA (k := room) (c := ia) (by rw [List.length_cons, kvs_len, ← HM.out]; omega) (by rw [List.length_cons, kvs_len, ← HM.out]; exact z2))
    obtain ⟨_, _, _, _, y1, _, _, _, _⟩ := V9.out.cells
    have S9 := Lib.hid y1
    have C9 := Lib.hid (Ch.setCell C8.out (p := ⟨Q, 2, none⟩) (.inl (.inl rfl)) (.slice A3 room ia))
    refine restS_begin (fun v : World => v.cell? ⟨Q, 1, none⟩ = some (.int .i64 (room : Int))) (by kernel_rfl) ?_
    generalize w7.drew = w8 at V8 C8 z2 fz S8 V9 C9 S9 ⊢
    clear V7 C7 V8 C8 k1 k2 z1 y1
    refine restS_take (i := 0) S8.out rfl (by kernel_rfl) (by kernel_rfl) (by kernel_rfl) (by rfl) (fun v hv => by obtain v1 := hv; go_simp; try with_reducible rfl) ?_
    try simp only [Act.put, List.setIfInBounds_toArray, List.set_cons_zero, List.set_cons_succ]
    refine restS_take (i := 1) S8.out rfl (by kernel_rfl) (by kernel_rfl) (by kernel_rfl) (by rfl) (fun v hv => by obtain v1 := hv; go_simp; try with_reducible rfl) ?_
    try simp only [Act.put, List.setIfInBounds_toArray, List.set_cons_zero, List.set_cons_succ]
    refine restS_take (i := 2) S8.out rfl (by kernel_rfl) (by kernel_rfl) (by kernel_rfl) (by rfl) (fun v hv => by obtain v1 := hv; go_simp; try with_reducible rfl) ?_
    try simp only [Act.put, List.setIfInBounds_toArray, List.set_cons_zero, List.set_cons_succ]
    refine restS_take (i := 3) S8.out rfl (by kernel_rfl) (by kernel_rfl) (by kernel_rfl) (by rfl) (fun v hv => by obtain v1 := hv; go_simp; try with_reducible rfl) ?_
    try simp only [Act.put, List.setIfInBounds_toArray, List.set_cons_zero, List.set_cons_succ]
    refine restS_take (i := 5) S8.out rfl (by kernel_rfl) (by kernel_rfl) (by kernel_rfl) (by rfl) (fun v hv => by obtain v1 := hv; go_simp; try with_reducible rfl) ?_
    try simp only [Act.put, List.setIfInBounds_toArray, List.set_cons_zero, List.set_cons_succ]
    refine restS_take (i := 6) S8.out rfl (by kernel_rfl) (by kernel_rfl) (by kernel_rfl) (by rfl) (fun v hv => by obtain v1 := hv; go_simp; try with_reducible rfl) ?_
    try simp only [Act.put, List.setIfInBounds_toArray, List.set_cons_zero, List.set_cons_succ]
    refine restS_take (i := 7) S8.out rfl (by kernel_rfl) (by kernel_rfl) (by kernel_rfl) (by rfl) (fun v hv => by obtain v1 := hv; go_simp; try with_reducible rfl) ?_
    try simp only [Act.put, List.setIfInBounds_toArray, List.set_cons_zero, List.set_cons_succ]
    refine restS_take (i := 8) S8.out rfl (by kernel_rfl) (by kernel_rfl) (by kernel_rfl) (by rfl) (fun v hv => by obtain v1 := hv; go_simp; try with_reducible rfl) ?_
    try simp only [Act.put, List.setIfInBounds_toArray, List.set_cons_zero, List.set_cons_succ]
    refine restS_lone (i := 4) rfl (by kernel_rfl) (by rfl) (fun K hK => ?_)
    go_simp
    refine hK.out _ _ S8.out ?_
    clear hK K
    try simp only [Act.put, List.setIfInBounds_toArray, List.set_cons_zero, List.set_cons_succ]
    refine restS_take (i := 9) S8.out rfl (by kernel_rfl) (by kernel_rfl) (by kernel_rfl) (by rfl) (fun v hv => by obtain v1 := hv; go_simp; try with_reducible rfl) ?_
    try simp only [Act.put, List.setIfInBounds_toArray, List.set_cons_zero, List.set_cons_succ]
    refine restS_take (i := 10) S8.out rfl (by kernel_rfl) (by kernel_rfl) (by kernel_rfl) (by rfl) (fun v hv => by obtain v1 := hv; go_simp; try with_reducible rfl) ?_
    try simp only [Act.put, List.setIfInBounds_toArray, List.set_cons_zero, List.set_cons_succ]
    refine restS_take (i := 11) S8.out rfl (by kernel_rfl) (by kernel_rfl) (by kernel_rfl) (by rfl) (fun v hv => by obtain v1 := hv; go_simp; try with_reducible rfl) ?_
    try simp only [Act.put, List.setIfInBounds_toArray, List.set_cons_zero, List.set_cons_succ]
    refine restS_lone (i := 12) rfl (by kernel_rfl) (by rfl) (fun K hK => ?_)
    go_simp
    refine hK.out _ _ S9.out ?_
    clear hK K z2 fz hcut
    try simp only [Act.put, List.setIfInBounds_toArray, List.set_cons_zero, List.set_cons_succ]
    refine restS_done (by kernel_rfl) ?_
    generalize w8.setCell _ _ = w9 at V9 C9 S9 ⊢
    go_wp2_with fail
    have V8 := Lib.hid (V9.out.grow (w' := w9.drew) (Below.refl _ w9).drew)
    have C8 := Lib.hid (Ch.drew C9.out)
    obtain ⟨ja, jw, k1, k2, z1, _, z3, _, _⟩ := V8.out.cells
    rw [List.length_cons, wvs_len] at k2 z3
    rw [← HM.out] at k2 z3
    have fz := V8.out.frozen 3
    have S8 := Lib.hid z1
    have hcut : ∀ V : World, (Instr.slice 35 (.slice A5 (m + 1) jw) none (some (.int .i64 (room : Int))) none).run Try.prog V = .ok (.slice A5 room jw) V := fun V => cutSt V A5 (m + 1) jw room (by omega)
    have VB := Lib.hid (V8.out.cutW (k := room) (c := jw) (by rw [List.length_cons, wvs_len, ← HM.out]; omega) (by rw [List.length_cons, wvs_len, ← HM.out]; exact z3))
    obtain ⟨_, _, _, _, y1, _, _, _, _⟩ := VB.out.cells
    have SB := Lib.hid y1
    have CB := Lib.hid (Ch.setCell C8.out (p := ⟨Q, 3, none⟩) (.inl (.inl rfl)) (.slice A5 room jw))
    refine restS_begin (fun v : World => v.cell? ⟨Q, 1, none⟩ = some (.int .i64 (room : Int))) (by kernel_rfl) ?_
    generalize w9.drew = wa at V8 C8 z3 fz S8 VB CB SB ⊢
    clear V9 C9 V8 C8 k1 k2 z1 y1
    refine restS_take (i := 0) S8.out rfl (by kernel_rfl) (by kernel_rfl) (by kernel_rfl) (by rfl) (fun v hv => by obtain v1 := hv; go_simp; try with_reducible rfl) ?_
    try simp only [Act.put, List.setIfInBounds_toArray, List.set_cons_zero, List.set_cons_succ]
    refine restS_take (i := 1) S8.out rfl (by kernel_rfl) (by kernel_rfl) (by kernel_rfl) (by rfl) (fun v hv => by obtain v1 := hv; go_simp; try with_reducible rfl) ?_
    try simp only [Act.put, List.setIfInBounds_toArray, List.set_cons_zero, List.set_cons_succ]
    refine restS_take (i := 2) S8.out rfl (by kernel_rfl) (by kernel_rfl) (by kernel_rfl) (by rfl) (fun v hv => by obtain v1 := hv; go_simp; try with_reducible rfl) ?_
    try simp only [Act.put, List.setIfInBounds_toArray, List.set_cons_zero, List.set_cons_succ]
    refine restS_take (i := 3) S8.out rfl (by kernel_rfl) (by kernel_rfl) (by kernel_rfl) (by rfl) (fun v hv => by obtain v1 := hv; go_simp; try with_reducible rfl) ?_
    try simp only [Act.put, List.setIfInBounds_toArray, List.set_cons_zero, List.set_cons_succ]
    refine restS_take (i := 5) S8.out rfl (by kernel_rfl) (by kernel_rfl) (by kernel_rfl) (by rfl) (fun v hv => by obtain v1 := hv; go_simp; try with_reducible rfl) ?_
    try simp only [Act.put, List.setIfInBounds_toArray, List.set_cons_zero, List.set_cons_succ]
    refine restS_take (i := 6) S8.out rfl (by kernel_rfl) (by kernel_rfl) (by kernel_rfl) (by rfl) (fun v hv => by obtain v1 := hv; go_simp; try with_reducible rfl) ?_
    try simp only [Act.put, List.setIfInBounds_toArray, List.set_cons_zero, List.set_cons_succ]
    refine restS_take (i := 7) S8.out rfl (by kernel_rfl) (by kernel_rfl) (by kernel_rfl) (by rfl) (fun v hv => by obtain v1 := hv; go_simp; try with_reducible rfl) ?_
    try simp only [Act.put, List.setIfInBounds_toArray, List.set_cons_zero, List.set_cons_succ]
    refine restS_take (i := 8) S8.out rfl (by kernel_rfl) (by kernel_rfl) (by kernel_rfl) (by rfl) (fun v hv => by obtain v1 := hv; go_simp; try with_reducible rfl) ?_
    try simp only [Act.put, List.setIfInBounds_toArray, List.set_cons_zero, List.set_cons_succ]
    refine restS_lone (i := 4) rfl (by kernel_rfl) (by rfl) (fun K hK => ?_)
    go_simp
    refine hK.out _ _ S8.out ?_
    clear hK K
    try simp only [Act.put, List.setIfInBounds_toArray, List.set_cons_zero, List.set_cons_succ]
    refine restS_take (i := 9) S8.out rfl (by kernel_rfl) (by kernel_rfl) (by kernel_rfl) (by rfl) (fun v hv => by obtain v1 := hv; go_simp; try with_reducible rfl) ?_
    try simp only [Act.put, List.setIfInBounds_toArray, List.set_cons_zero, List.set_cons_succ]
    refine restS_take (i := 10) S8.out rfl (by kernel_rfl) (by kernel_rfl) (by kernel_rfl) (by rfl) (fun v hv => by obtain v1 := hv; go_simp; try with_reducible rfl) ?_
    try simp only [Act.put, List.setIfInBounds_toArray, List.set_cons_zero, List.set_cons_succ]
    refine restS_take (i := 11) S8.out rfl (by kernel_rfl) (by kernel_rfl) (by kernel_rfl) (by rfl) (fun v hv => by obtain v1 := hv; go_simp; try with_reducible rfl) ?_
    try simp only [Act.put, List.setIfInBounds_toArray, List.set_cons_zero, List.set_cons_succ]
    refine restS_lone (i := 12) rfl (by kernel_rfl) (by rfl) (fun K hK => ?_)
    go_simp
    refine hK.out _ _ SB.out ?_
    clear hK K z3 fz hcut
    try simp only [Act.put, List.setIfInBounds_toArray, List.set_cons_zero, List.set_cons_succ]
    refine restS_done (by kernel_rfl) ?_
    generalize wa.setCell _ _ = wb at VB CB SB ⊢
    go_wp2
    refine bodyPost_end (results_none rfl _ _ _) rfl ⟨rfl, A3, A5, ?_, U6.out, CB.out⟩
    refine Qr.qv ?_
    rw [HU.out.1, HU.out.2]
    have := VB.out
    rw [HS.out] at this
    exact this
  · have hb : ¬ ((m : Int) + 1 > (room : Int)) := by omega
    have HU := Lib.hid (use_all room l n s (by rw [← HM.out]; omega))
    go_wp2
    refine bodyPost_end (results_none rfl _ _ _) rfl ⟨rfl, A3, A5, ?_, U6.out, C7.out⟩
    rw [HU.out]
    refine Qr.qv ?_
    have := V7.out
    rw [HS.out] at this
    exact this
end Go.Proofs.Ythakdjaaknbmpaa.S14
