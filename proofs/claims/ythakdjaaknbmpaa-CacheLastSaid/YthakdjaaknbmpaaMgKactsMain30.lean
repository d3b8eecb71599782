/-
  A write, built: its sector, its bytes. Contract of the program's device: Write.
-/
import Derived.Test.YthakdjaaknbmpaaMgKactsMain29
import Derived.Test.YthakdjaaknbmpaaMgKactsMain9
import Derived.Test.YthakdjaaknbmpaaMgKactsMain11
namespace Go.Proofs.Ythakdjaaknbmpaa.S13
open Cf
open Go.RowKit
set_option linter.unusedVariables false
set_option linter.unusedSimpArgs false
theorem foldPut (o : Nat) : ∀ (l : List Value) (k : Nat) (cur : Array Value), ((l.zipIdx k).foldl (fun (cs : Array Value) (x : Value × Nat) => cs.setIfInBounds (o + x.2) x.1) cur).size = cur.size ∧
    ∀ m, ((l.zipIdx k).foldl (fun (cs : Array Value) (x : Value × Nat) => cs.setIfInBounds (o + x.2) x.1) cur)[m]? = if o + k ≤ m ∧ m < o + k + l.length ∧ m < cur.size then l[m - (o + k)]? else cur[m]?
  | [], k, cur => ⟨rfl, fun m => by rw [if_neg (by simp; omega)]; rfl⟩
  | v :: r, k, cur => by
    rw [List.zipIdx_cons, List.foldl_cons]
    obtain ⟨h1, h2⟩ := foldPut o r (k + 1) (cur.setIfInBounds (o + k) v)
    refine ⟨by rw [h1, Array.size_setIfInBounds], fun m => ?_⟩
    rw [h2, Array.size_setIfInBounds, List.length_cons]
    by_cases c1 : o + (k + 1) ≤ m ∧ m < o + (k + 1) + r.length ∧ m < cur.size
    · rw [if_pos c1, if_pos (by omega), show m - (o + k) = (m - (o + (k + 1))) + 1 by omega, List.getElem?_cons_succ]
    · rw [if_neg c1, Array.getElem?_setIfInBounds]
      by_cases c2 : o + k = m
      · subst c2
        by_cases c3 : o + k < cur.size
        · rw [if_pos rfl, if_pos c3, if_pos (by omega), Nat.sub_self]; rfl
        · rw [if_pos rfl, if_neg c3, if_neg (by omega), Array.getElem?_eq_none (by omega)]
      · rw [if_neg c2, if_neg (by omega)]
theorem built68 : Try.prog.built 88 = fun parts => Instr.fill (#[((0 : Nat), (1 : Nat)), (1, 512)][·]?) (Value.int .i64 0 :: bvs z512).toArray parts := by kernel_rfl
theorem builtW (k : Int) (l : List UInt8) (hl : l.length = 512) : Try.prog.built 88 [(0, .int .i64 k), (1, .agg (bvs l).toArray)] = some (Value.int .i64 k :: bvs l).toArray := by
  rw [built68]
  obtain ⟨z, hz⟩ : ∃ z, z = bvs z512 := ⟨_, rfl⟩
  have hzl : z.length = 512 := by rw [hz, bvs_length, z512_len]
  have hll : (bvs l).length = 512 := by rw [bvs_length, hl]
  obtain ⟨x, hx⟩ : ∃ x, x = bvs l := ⟨_, rfl⟩
  rw [← hx] at hll ⊢
  rw [← hz]
  obtain ⟨N, hN⟩ : ∃ N, N = 512 := ⟨_, rfl⟩
  rw [← hN] at hzl hll ⊢
  clear hz hx hN
  obtain ⟨f1, f2⟩ := foldPut 1 x 0 (Value.int .i64 k :: z).toArray
  simp only [Instr.fill, Value.cells]
  simp [hll, hzl, Instr.fill]
  refine ⟨by omega, Array.ext_getElem? fun m => ?_⟩
  rw [f2]
  simp only [List.size_toArray, List.length_cons, List.getElem?_toArray, hzl, hll]
  cases m with
  | zero => rw [if_neg (by omega)]; rfl
  | succ m =>
    by_cases c : m < N
    · rw [if_pos (by omega), show m + 1 - (1 + 0) = m by omega, List.getElem?_cons_succ]
    · rw [if_neg (by omega), List.getElem?_cons_succ, List.getElem?_cons_succ, List.getElem?_eq_none (by omega), List.getElem?_eq_none (by omega)]
theorem wpList_buildW {ops : Array Oper} {rest : List Oper} {o : Oper} {a : Act} {w : World} {Q : Exit → Act → World → Prop} (hg : o.guard = none) (x y : Operand) (ho : o.op = .build 88 #[(0, x), (1, y)]) {k : Int} {l : List UInt8} (hx : a.eval x = .int .i64 k) (hy : a.eval y = .agg (bvs l).toArray) (hl : l.length = 512)
    (h : wpList Try.prog ops Q rest (a.put o.dst (.agg (.int .i64 k :: bvs l).toArray)) w) : wpList Try.prog ops Q (o :: rest) a w := by
  have hb := builtW k l hl
  have he : (#[((0 : Nat), x), (1, y)].map fun (i, z) => (i, a.eval z)).toList = [(0, .int .i64 k), (1, .agg (bvs l).toArray)] := by simp [hx, hy]
  refine wpList_build hg _ _ ho (by rw [he, hb]; rfl) ?_
  rw [he, hb]
  exact h
end Go.Proofs.Ythakdjaaknbmpaa.S13
namespace Go.Proofs.Ythakdjaaknbmpaa.S13
open Cf
open Go.RowKit
set_option linter.unusedVariables false
set_option linter.unusedSimpArgs false
section
variable {w w' : World} {G Bd Bl : Nat} {Ap : Option Addr} {L : List Pw} {left : Int} {st : Dv} {i : Nat}
theorem infoPw : (Try.prog.info? 82).map (fun i => (i.zero, i.size, i.bytes)) = some (some (.pointer none), 1, 8) := by kernel_rfl
/-- Behind a write: its block is new, the row of what waits has it, the latest one of its sector is it. -/
theorem Pz.written {Ap' : Option Addr} {w1 : World} (h : Pz w G Bd Bl Ap L left st) (p : Pw) (hp : p.2.1 < st.kept.length ∧ p.2.2.length = 512) (hn : w.heap.size ≤ p.1)
    (h1 : Pr w1 G Bd Bl Ap' ⟨st.kept, L.map (·.1) ++ [p.1], latRow st.kept.length L, st.count, left⟩) (hw : Wr w1 (L ++ [p])) (ha : ∀ x, Ap' = some x → (∀ q ∈ L ++ [p], q.1 ≠ x.block)) :
    Pz (w1.setCell ⟨Bl, p.2.1, none⟩ (pv p.1)) G Bd Bl Ap' (L ++ [p]) left { st with pend := st.pend ++ [(p.2.1, p.2.2)] } := by
  have hoff : ∀ q ∈ L ++ [p], q.1 ≠ G ∧ q.1 ≠ Bd ∧ q.1 ≠ Bl := fun q hq => by
    rcases List.mem_append.1 hq with h2 | h2
    · have := h.ap q h2
      exact ⟨fun e => this (.inl e), fun e => this (.inr (.inl e)), fun e => this (.inr (.inr (.inl e)))⟩
    · simp only [List.mem_singleton] at h2
      subst h2
      have i1 := h.pr.lt G (.inl rfl); have i2 := h.pr.lt Bd (.inr (.inl rfl)); have i3 := h.pr.lt Bl (.inr (.inr (.inl rfl)))
      exact ⟨by omega, by omega, by omega⟩
  refine { pr := ?_, wr := hw.keep fun q hq => heap_setCell_other _ _ _ _ (hoff q hq).2.2, ap := fun q hq hf => ?_, pend := ?_, p2 := fun q hq => ?_, calls := h.calls, l0 := h.l0, l1 := h.l1 }
  · have := h1.setLat p.2.1 (some p.1)
    rw [← latRow_snoc] at this
    rw [List.map_append, List.map_cons, List.map_nil]
    exact this
  · rcases hf with e | e | e | ⟨x, hx, e⟩
    · exact (hoff q hq).1 e
    · exact (hoff q hq).2.1 e
    · exact (hoff q hq).2.2 e
    · exact ha x hx q hq e.symm
  · rw [List.map_append, h.pend]; rfl
  · rcases List.mem_append.1 hq with h2 | h2
    · exact h.p2 q h2
    · simp only [List.mem_singleton] at h2; subst h2; exact hp
set_option maxRecDepth 20000 in
set_option maxHeartbeats 4000000 in
theorem write_any (h : Pz w G Bd Bl Ap L left st) (hk : Ok st i) (hi : i ≤ 1000) (n : Int) (A : Option Addr) (m c : Nat) (b : List UInt8) (hb : Rd w w.heap.size A b) (hm : b.length = m) (hmc : m ≤ c) (hm1 : m ≤ 1000) (hoff : ∀ x, A = some x → b ≠ [] → ¬ FF G Bd Bl Ap L x.block) :
    Calls Try.prog 29 #[.pointer (some ⟨G, 0, none⟩), .int .i64 n, .slice A m c] w fun e w' => e = .returned (.int .i64 (dvWrite st n b).1) ∧ DOn Dz w G (FF G Bd Bl Ap L) (dvWrite st n b).2 w' := by
  have H := Lib.hid h
  by_cases hin : 0 ≤ n ∧ n < (st.kept.length : Int)
  · have HH := Lib.hid (takes_in h n hin.1 hin.2 A m c)
    by_cases h5 : m ≤ 512
    · rw [decide_eq_true h5] at HH
      have HI := Lib.hid hin
      have HC := Lib.hid (call_any h)
      have HB := Lib.hid hb
      have HM := Lib.hid hm
      have HOff := Lib.hid hoff
      have HK := Lib.hid hk
      obtain ⟨k, rfl⟩ : ∃ k : Nat, n = (k : Int) := ⟨n.toNat, by omega⟩
      clear h hin hb hm hoff hk
      go_enter Try.func29, Try.ntmps29
      go_wp2_with fail
      refine HH.out.mono ?_
      rintro e w0 ⟨rfl, rfl⟩
      clear HH
      go_wp2_with fail
      refine HC.out.mono ?_
      rintro e w1 ⟨rfl, ⟨left', hz⟩, hc⟩
      have HZ := Lib.hid hz
      have HCh := Lib.hid hc
      clear hz hc HC
      cases hon : isOn st with
      | false =>
        rw [onErr_off hon]
        have HE := Lib.hid (show dvWrite st (k : Int) b = (10, st) by unfold dvWrite; rw [if_neg (fun hh => hh.elim (fun h1 => h1 HI.out) (fun h1 => by have := HM.out; omega)), hon]; rfl)
        have HT := Lib.hid (tickOff hon)
        clear hon
        go_wp2
        go_ret
        rw [HE.out]
        exact ⟨rfl, (HT.out ▸ HZ.out : Pz _ _ _ _ _ _ _ st).same HCh.out⟩
      | true =>
        rw [onErr_on hon]
        have HE := Lib.hid (show dvWrite st (k : Int) b = (0, { tick st with pend := (tick st).pend ++ [(k, pad512 b)] }) by unfold dvWrite; rw [if_neg (fun hh => hh.elim (fun h1 => h1 HI.out) (fun h1 => by have := HM.out; omega)), hon, tick_pend]; rfl)
        clear hon
        have HB1 := Lib.hid (show Rd w1 w1.heap.size A b from by
          rcases HB.out with e1 | ⟨b', off, e1, e2, e3⟩
          · exact .inl e1
          · by_cases hb0 : b = []
            · exact .inl hb0
            · exact .inr ⟨b', off, e1, Nat.lt_of_lt_of_le e2 HCh.out.size, fun j hj => (HCh.out.cell (p := ⟨b', off + j, none⟩) e2 (HOff.out ⟨b', off, none⟩ e1 hb0)).trans (e3 j hj)⟩)
        have HPa := Lib.hid (padded_any w1 A m c b HB1.out HM.out h5)
        clear HB HOff
        go_wp2_with fail
        refine HPa.out.mono ?_
        rintro e w2 ⟨rfl, hg⟩
        have HG := Lib.hid hg
        have HPl := Lib.hid (pad512_len b (by have := HM.out; omega))
        clear hg HPa HB1
        have HKl := Lib.hid (show k < (tick st).kept.length by rw [tick_kept]; have := HI.out.2; omega)
        have HKt := Lib.hid HK.out.tick
        obtain ⟨s, hs⟩ : ∃ s, s = tick st := ⟨_, rfl⟩
        rw [← hs] at HE HZ HKl HKt
        clear hs HI HK
        obtain ⟨l, hl⟩ : ∃ l, l = pad512 b := ⟨_, rfl⟩
        rw [← hl] at HE HPl ⊢
        clear hl HM
        have G3 := Lib.hid (show Grown w1 (w2.alloc (.cells (.int .i64 (k : Int) :: bvs l).toArray 88)) from Grown.trans HG.out (alloc_below w2 _))
        have G4 := Lib.hid (show Grown (w2.alloc (.cells (.int .i64 (k : Int) :: bvs l).toArray 88)) ((w2.alloc (.cells (.int .i64 (k : Int) :: bvs l).toArray 88)).alloc (.cells #[.pointer (some ⟨w2.heap.size, 0, none⟩)] 82)) from alloc_below _ _)
        have N3 := Lib.hid (show (w2.alloc (.cells (.int .i64 (k : Int) :: bvs l).toArray 88)).heap[w2.heap.size]? = some (.cells (WrC (w2.heap.size, k, l)) 88 (0, 0)) from heap_alloc_new w2 _)
        have Z3 := Lib.hid (HZ.out.grow G3.out)
        have Z4 := Lib.hid (Z3.out.grow G4.out)
        have N4 := Lib.hid ((G4.out.block w2.heap.size (lt_of_heap N3.out)).trans N3.out)
        have C4 := cellNew (w2.alloc (.cells (.int .i64 (k : Int) :: bvs l).toArray 88)) (.pointer (some ⟨w2.heap.size, 0, none⟩)) 82
        rw [World.size_alloc] at C4
        obtain ⟨np, hnp⟩ : ∃ np, np = (L.map (·.1)).length := ⟨_, rfl⟩
        have HNp := Lib.hid hnp
        have HNp1 := Lib.hid (show np ≤ 1000 by have h1 := HKt.out.few; rw [← Z3.out.pend, List.length_map] at h1; rw [hnp, List.length_map]; omega)
        obtain ⟨cp, hG3, hp3⟩ := Z3.out.pr.ex
        have HO3 := Lib.hid hp3
        have q1 : (w2.alloc (.cells (.int .i64 (k : Int) :: bvs l).toArray 88)).cell? ⟨G, 1, none⟩ = some (.slice Ap np cp) := by rw [hnp]; exact cell_of_row _ G 1 _ _ (0, 0) hG3
        have HS2 := Lib.hid HG.out.size
        clear hnp hG3 hp3
        obtain ⟨nk, hnk⟩ : ∃ nk, nk = s.kept.length := ⟨_, rfl⟩
        have bk : (k : Int) < (nk : Int) := by have := HKl.out; omega
        obtain ⟨i0, hi0, hz0, hz1, hz2⟩ := info_parts infoPw
        go_wp2_with (first
          | (refine wpList_buildW rfl (.tmp 19) (.tmp 21) rfl rfl rfl HPl.out ?_)
          | (at_builtin
             refine wpList_appOw Try.underlying63 hi0 hz0 hz1 hz2 rfl (by decide) rfl (.tmp 28) (.tmp 30) rfl (vs := (L.map (·.1)).map pv) (by rw [List.length_map]; exact HNp.out.symm) rfl (owGrow HO3.out G4.out) rfl C4 rfl (by have := HNp1.out; omega) (Nat.zero_le _) ?_
             intro A5 c5 w5 ho5 hg5 hm5
             have O5 := Lib.hid ho5
             have B5 := Lib.hid hg5
             have M5 := Lib.hid (show ∀ x, A5 = some x → Ap = some x ∨ ((w2.alloc (.cells (.int .i64 (k : Int) :: bvs l).toArray 88)).alloc (.cells #[.pointer (some ⟨w2.heap.size, 0, none⟩)] 82)).heap.size ≤ x.block from fun x hx => moved_or hm5 x hx)
             have hG5 : w5.heap[G]? = ((w2.alloc (.cells (.int .i64 (k : Int) :: bvs l).toArray 88)).alloc (.cells #[.pointer (some ⟨w2.heap.size, 0, none⟩)] 82)).heap[G]? := hg5.block G (Z4.out.pr.lt G (.inl rfl)) (fun e => by obtain ⟨x, hx, hxk⟩ := own_blk e; exact Z4.out.pr.ag x hx hxk)
             have y1 : w5.cell? ⟨G, 1, none⟩ = some (.slice Ap np cp) := (World.cell?_of_block (a := ⟨G, 1, none⟩) (hG5.trans (G4.out.block G (Z3.out.pr.lt G (.inl rfl))))).trans q1
             have y2 : w5.frozen? ⟨G, 1, none⟩ = false := (World.frozen?_of_block (a := ⟨G, 1, none⟩) hG5).trans (Z4.out.pr.frozen 1)
             have X6 := Lib.hid (Pr.putRow (np := np + 1) (row' := L.map (·.1) ++ [w2.heap.size]) (cp' := c5) (Ap' := A5) Z4.out.pr (by rw [List.length_append, HNp.out]; rfl) (fun k hk hx => hg5.block k (Z4.out.pr.lt k hk) (fun e => by obtain ⟨x, hx1, hxk⟩ := own_blk e; exact hx x hx1 hxk)) (by rw [List.map_append]; exact O5.out) M5.out)
             obtain ⟨cq, _, _, _, z2, _, _⟩ := X6.out.cells
             have y3 : (w5.setCell ⟨G, 1, none⟩ (.slice A5 (np + 1) c5)).cell? ⟨G, 2, none⟩ = some (.slice (some ⟨Bl, 0, none⟩) nk nk) := by rw [hnk]; exact z2
             obtain ⟨y4, y5⟩ := X6.out.latAt k HKl.out _ (latRow_at _ _ _ HKl.out)
             clear ho5 hg5 hm5 z2))
        clear y1 y2 y3 y4 y5 q1 C4
        go_ret
        rw [HE.out]
        have s2 := HS2.out
        have s4 : w2.heap.size < ((w2.alloc (.cells (.int .i64 (k : Int) :: bvs l).toArray 88)).alloc (.cells #[.pointer (some ⟨w2.heap.size, 0, none⟩)] 82)).heap.size := lt_of_heap N4.out
        have s0 := HCh.out.size
        have hq6 : ∀ q ∈ L ++ [(w2.heap.size, k, l)], q.1 ≠ G ∧ q.1 < ((w2.alloc (.cells (.int .i64 (k : Int) :: bvs l).toArray 88)).alloc (.cells #[.pointer (some ⟨w2.heap.size, 0, none⟩)] 82)).heap.size ∧ (∀ x, Ap = some x → x.block ≠ q.1) ∧ ((w2.alloc (.cells (.int .i64 (k : Int) :: bvs l).toArray 88)).alloc (.cells #[.pointer (some ⟨w2.heap.size, 0, none⟩)] 82)).heap[q.1]? = some (.cells (WrC q) 88 (0, 0)) := fun q hq => by
          rcases List.mem_append.1 hq with h2 | h2
          · have ha := HZ.out.ap q h2
            exact ⟨fun e => ha (.inl e), Z4.out.wr.lt q h2, fun x hx e => ha (.inr (.inr (.inr ⟨x, hx, e⟩))), Z4.out.wr q h2⟩
          · simp only [List.mem_singleton] at h2
            subst h2
            have i1 := HZ.out.pr.lt G (.inl rfl)
            exact ⟨by show w2.heap.size ≠ G; omega, s4, fun x hx e => by have := HZ.out.pr.lt _ (.inr (.inr (.inr ⟨x, hx, rfl⟩))); have e' : x.block = w2.heap.size := e; omega, N4.out⟩
        have PZ := HZ.out.written (w2.heap.size, k, l) ⟨HKl.out, HPl.out⟩ s2 X6.out
          (fun q hq => (heap_setCell_other _ _ _ _ (hq6 q hq).1).trans ((B5.out.block q.1 (hq6 q hq).2.1 (fun e => by obtain ⟨x, hx, hxk⟩ := own_blk e; exact (hq6 q hq).2.2.1 x hx hxk)).trans (hq6 q hq).2.2.2))
          (fun x hx q hq => by
            rcases M5.out x hx with h2 | h2
            · exact fun e => (hq6 q hq).2.2.1 x h2 e.symm
            · have := (hq6 q hq).2.1; omega)
        refine ⟨rfl, PZ.on (fun k' hk' => ?_) ?_⟩
        · rcases hk' with (e | e | e | ⟨x, hx, e⟩) | ⟨q, hq, e⟩
          · exact .inl (.inl (.inl e))
          · exact .inl (.inl (.inr (.inl e)))
          · exact .inl (.inl (.inr (.inr (.inl e))))
          · rcases M5.out x hx with h2 | h2
            · exact .inl (.inl (.inr (.inr (.inr ⟨x, h2, e⟩))))
            · exact .inr (by omega)
          · rcases List.mem_append.1 hq with h2 | h2
            · exact .inl (.inr ⟨q, h2, e⟩)
            · simp only [List.mem_singleton] at h2
              subst h2
              exact .inr (by have : w2.heap.size = k' := e; omega)
        · refine Ch.setCell (Ch.setCell (chGrownBy (HCh.out.trans (Ch.grown (Grown.trans G3.out G4.out))) B5.out (fun k' e => ?_)) (p := ⟨G, 1, none⟩) (.inl (.inl (.inl rfl))) _) (p := ⟨Bl, k, none⟩) (.inl (.inl (.inr (.inr (.inl rfl))))) _
          obtain ⟨x, hx, hxk⟩ := own_blk e.symm
          exact .inl (.inl (.inr (.inr (.inr ⟨x, hx, hxk⟩))))
    · have HE := Lib.hid (show dvWrite st n b = (2, st) by unfold dvWrite; rw [if_pos (.inr (by omega))])
      rw [decide_eq_false h5] at HH
      clear h hin h5 hb hm hoff
      go_enter Try.func29, Try.ntmps29
      go_wp2_with fail
      refine HH.out.mono ?_
      rintro e w0 ⟨rfl, rfl⟩
      clear HH
      go_wp2
      go_ret
      rw [HE.out]
      exact ⟨rfl, H.out.same (Ch.refl _ _)⟩
  · have HH := Lib.hid (takes_no1 h n hin A m c)
    have HE := Lib.hid (show dvWrite st n b = (2, st) by unfold dvWrite; rw [if_pos (.inl (by unfold inR; exact hin))])
    clear h hin hb hm hoff
    go_enter Try.func29, Try.ntmps29
    go_wp2_with fail
    refine HH.out.mono ?_
    rintro e w0 ⟨rfl, rfl⟩
    clear HH
    go_wp2
    go_ret
    rw [HE.out]
    exact ⟨rfl, H.out.same (Ch.refl _ _)⟩
end
end Go.Proofs.Ythakdjaaknbmpaa.S13
