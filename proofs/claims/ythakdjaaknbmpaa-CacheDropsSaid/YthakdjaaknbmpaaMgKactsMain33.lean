/-
  settle: what an iterator gives becomes durable, all else is lost. Contracts: the predicate of Tamper, slices.IndexFunc, slices.DeleteFunc at it.
-/
import Derived.Test.YthakdjaaknbmpaaMgKactsMain32
import Derived.Lib.SliceRun
namespace Go.Proofs.Ythakdjaaknbmpaa.S13
open Cf
open Go.RowKit Go.Shelf
set_option linter.unusedVariables false
set_option linter.unusedSimpArgs false
attribute [local go_sem] Oper.semAt_some
theorem lay_snoc1 (k : List (List UInt8)) (l : List (Nat × List UInt8)) (p : Nat × List UInt8) : lay k (l ++ [p]) = (lay k l).set p.1 p.2 := by
  unfold lay
  rw [List.foldl_append]
  rfl
theorem chSetCells {F : Nat → Prop} {w : World} (b : Nat) (hb : F b ∨ w.heap.size ≤ b) : ∀ (vs : List Value) (o : Nat) (W : World), Ch F w W → Ch F w (W.setCells b o vs)
  | [], _, _, h => h
  | v :: r, o, W, h => by rw [World.setCells]; exact chSetCells b hb r (o + 1) _ (h.setCell (p := ⟨b, o, none⟩) hb v)
def wsOf {L : List Pw} (xs : List (In L)) : List (Nat × List UInt8) := xs.map fun x => x.1.2
theorem wsOf_snoc {L : List Pw} (xs : List (In L)) (x : In L) : wsOf (xs ++ [x]) = wsOf xs ++ [x.1.2] := by simp [wsOf]
section
variable {w w' W W' : World} {G Bd Bl : Nat} {Ap : Option Addr} {L : List Pw} {left : Int} {st : Dv} {i : Nat}
/-- Where the first loop of settle stands. -/
structure SeI (w : World) (G Bd Bl : Nat) (Ap : Option Addr) (L : List Pw) (left : Int) (st : Dv) (xs : List (In L)) (W : World) : Prop where
  pr : Pr W G Bd Bl Ap ⟨lay st.kept (wsOf xs), L.map (·.1), latRow st.kept.length L, st.count, left⟩
  wr : Wr W L
  bd : W.heap[w.heap.size]? = some (.cells #[.pointer (some ⟨G, 0, none⟩)] 24 (0, 0))
  nb : W.heap[w.heap.size + 1]? = some (.cells #[.int .i64 (xs.length : Int)] 3 (0, 0))
  ch : Ch (FF G Bd Bl Ap L) w W
theorem SeI.keep {xs : List (In L)} (z : Pz w G Bd Bl Ap L left st) (h : SeI w G Bd Bl Ap L left st xs W) (hc : Ch (FF G Bd Bl Ap L) w W') (hk : ∀ k, k < w.heap.size + 2 → W'.heap[k]? = W.heap[k]?) : SeI w G Bd Bl Ap L left st xs W' where
  pr := h.pr.keep fun k hf => hk k (by have := z.pr.lt k hf; omega)
  wr := h.wr.keep fun p hp => hk _ (by have := z.wr.lt p hp; omega)
  bd := (hk _ (by omega)).trans h.bd
  nb := (hk _ (by omega)).trans h.nb
  ch := hc
theorem SeI.own (z : Pz w G Bd Bl Ap L left st) {B : Nat} (hB : B = w.heap.size + 2) : OwnFrom B (fun xs W => SeI w G Bd Bl Ap L left st xs W) := fun s W W' row h hg hr => by
  refine h.keep z (chGrownBy h.ch hg (fun k e => .inr (by have := (hr k e).1; omega))) (fun k hk => hg.block k ?_ (fun e => by have := (hr k e.symm).1; omega))
  have := lt_of_heap h.nb
  omega
/-- A sector is stored, and one more is counted. -/
theorem SeI.step {xs : List (In L)} (z : Pz w G Bd Bl Ap L left st) (h : SeI w G Bd Bl Ap L left st xs W) (x : In L) : SeI w G Bd Bl Ap L left st (xs ++ [x]) ((W.setCells Bd (x.1.2.1 * 512) (bvs x.1.2.2)).setCell ⟨w.heap.size + 1, 0, none⟩ (.int .i64 ((xs.length : Int) + 1))) where
  pr := by
    have h2 := z.p2 x.1 x.2
    have := h.pr.setKept x.1.2.1 (by show _ < (lay st.kept (wsOf xs)).length; rw [lay_len]; exact h2.1) x.1.2.2 h2.2
    rw [wsOf_snoc, lay_snoc1]
    exact this.keep fun k hf => heap_setCell_other _ _ _ _ (by have := z.pr.lt k hf; show k ≠ w.heap.size + 1; omega)
  wr := (h.wr.keep fun p hp => heap_setCells_other _ _ _ _ _ (fun e => z.ap p hp (.inr (.inl e)))).keep fun p hp => heap_setCell_other _ _ _ _ (by have := z.wr.lt p hp; show p.1 ≠ w.heap.size + 1; omega)
  bd := by
    have := z.pr.lt Bd (.inr (.inl rfl))
    exact (heap_setCell_other _ _ _ _ (by show w.heap.size ≠ w.heap.size + 1; omega)).trans ((heap_setCells_other _ _ _ _ _ (by omega)).trans h.bd)
  nb := by
    have := z.pr.lt Bd (.inr (.inl rfl))
    have h1 : (W.setCells Bd (x.1.2.1 * 512) (bvs x.1.2.2)).heap[w.heap.size + 1]? = _ := (heap_setCells_other _ _ _ _ _ (by omega)).trans h.nb
    rw [heap_setCell_same _ (w.heap.size + 1) 0 _ _ _ h1, List.length_append]
    simp
  ch := by
    refine Ch.setCell ?_ (p := ⟨w.heap.size + 1, 0, none⟩) (.inr (by show w.heap.size ≤ w.heap.size + 1; omega)) _
    exact chSetCells Bd (.inl (.inl (.inr (.inl rfl)))) _ _ _ h.ch
/-- Where the second loop of settle stands. -/
structure Se2 (w : World) (G Bd Bl : Nat) (Ap : Option Addr) (L : List Pw) (left : Int) (st : Dv) (xs : List (In L)) (D k : Nat) (W : World) : Prop where
  pr : Pr W G Bd Bl Ap ⟨lay st.kept (wsOf xs), L.map (·.1), wipe (latRow st.kept.length L) ((L.map (·.2.1)).take k), st.count, left⟩
  wr : Wr W L
  bd : W.heap[w.heap.size]? = some (.cells #[.pointer (some ⟨G, 0, none⟩)] 24 (0, 0))
  nb : W.heap[w.heap.size + 1]? = some (.cells #[.int .i64 (xs.length : Int)] 3 (0, 0))
  hd : W.heap[D]? = some (.deferred (some []))
  ch : Ch (FF G Bd Bl Ap L) w W
theorem Se2.drew {xs : List (In L)} {D k : Nat} (h : Se2 w G Bd Bl Ap L left st xs D k W) : Se2 w G Bd Bl Ap L left st xs D k W.drew :=
  { pr := h.pr.keep (fun _ _ => rfl), wr := h.wr, bd := h.bd, nb := h.nb, hd := h.hd, ch := h.ch.drew }
theorem Se2.wipe {xs : List (In L)} {D k : Nat} (h : Se2 w G Bd Bl Ap L left st xs D k W) (z : Pz w G Bd Bl Ap L left st) (hk : k < L.length) (hk' : k < L.length := hk) : Se2 w G Bd Bl Ap L left st xs D (k + 1) (W.setCell ⟨Bl, L[k].2.1, none⟩ (.pointer none)) := by
  have hl := z.pr.lt Bl (.inr (.inr (.inl rfl)))
  refine { pr := ?_, wr := h.wr.keep fun p hp => heap_setCell_other _ _ _ _ (fun e => z.ap p hp (.inr (.inr (.inl e)))), bd := (heap_setCell_other _ _ _ _ (by show w.heap.size ≠ Bl; omega)).trans h.bd, nb := (heap_setCell_other _ _ _ _ (by show w.heap.size + 1 ≠ Bl; omega)).trans h.nb, hd := (heap_setCell_other _ _ _ _ (fun e => ?_)).trans h.hd, ch := h.ch.setCell (p := ⟨Bl, _, none⟩) (.inl (.inl (.inr (.inr (.inl rfl))))) _ }
  · have := h.pr.setLat L[k].2.1 none
    rw [at_snoc _ k (by rw [List.length_map]; exact hk), wipe_snoc, List.getElem_map]
    exact this
  · have h1 := h.hd
    have h2 := h.pr.hl
    rw [show D = Bl from e] at h1
    rw [h1] at h2
    cases h2
set_option maxRecDepth 100000 in
set_option maxHeartbeats 4000000 in
theorem settle_any (h : Pz w G Bd Bl Ap L left st) (hL : L.length ≤ 1000) (hn : st.kept.length ≤ 65536) (gf : Nat) (lb : Array Value) (eg : ∀ args w, (callFunc gf args).run Try.prog w = .ok (.enter gf args) w) (P : Nat → Prop) (hPd : ¬ P Bd) (hPl : ∀ k, P k → k < w.heap.size) (xs : List (In L)) (hxs : xs.length ≤ 1000)
    (hseq : SeqStopsK Fence.wide 6 Try.prog gf lb encW (fun W W' => ∀ k, P k → W'.heap[k]? = W.heap[k]?) (fun ys => ys = xs) (fun _ => True) L.length w) :
    Calls Try.prog 44 #[.pointer (some ⟨G, 0, none⟩), .func (.func gf) #[] lb] w fun e w' => e = .returned (.int .i64 (xs.length : Int)) ∧ Pz w' G Bd Bl none [] left { st with kept := lay st.kept (wsOf xs), pend := [] } ∧ Ch (FF G Bd Bl Ap L) w w' := by
  have H := Lib.hid h
  refine callsIn_wide.1 (callsIn_of_wp_marks (F := Fence.wide) (n := 7) Try.func44 rfl trivial ?_ rfl)
  simp only [Try.ntmps44, List.size_toArray, List.length_cons, List.length_nil, Nat.reduceAdd, Nat.reduceSub, Array.replicate_succ, Array.replicate_zero, List.push_toArray, List.append_toArray, List.nil_append, List.cons_append]
  refine wpIn_wide.2 ?_
  go_wp2_with fail
  have I0 := Lib.hid (show SeI w G Bd Bl Ap L left st [] ((w.alloc (.cells #[.pointer (some ⟨G, 0, none⟩)] 24)).alloc (.cells #[.int .i64 0] 3)) from
    { pr := H.out.pr.grow (twoGrown w _ _), wr := H.out.wr.grow (twoGrown w _ _), bd := newOne w _ _, nb := newTwo w _ _, ch := Ch.grown (twoGrown w _ _) })
  have B0 := Lib.hid (show Below w.heap.size w ((w.alloc (.cells #[.pointer (some ⟨G, 0, none⟩)] 24)).alloc (.cells #[.int .i64 0] 3)) from twoGrown w _ _)
  have S0 := Lib.hid (show ((w.alloc (.cells #[.pointer (some ⟨G, 0, none⟩)] 24)).alloc (.cells #[.int .i64 0] 3)).heap.size = w.heap.size + 2 by rw [World.size_alloc, World.size_alloc])
  generalize World.alloc _ _ = w2 at I0 B0 S0 ⊢
  refine wpIn_wide.1 (wpIn_rangeFunc_ownG (F := Fence.wide) (n := 7) rfl (by omega) (gf := gf) (lb := lb) rfl trivial eg hseq (fun h k j hj => (k j hj).trans (h j hj)) (fun W l o o' hl _ _ _ k hk => World.putObj_heap_other (by have := hPl k hk; have := S0.out; omega)) B0.out (fun _ => rfl)
    (fun xs W => SeI w G Bd Bl Ap L left st xs W) (fun _ _ _ => False) (SeI.own H.out S0.out) (fun _ _ _ _ _ hs _ _ => hs) I0.out
    (fun x => { tmps := #[.pointer (some ⟨G, 0, none⟩), .func (.func gf) #[] lb, .pointer (some ⟨w.heap.size, 0, none⟩), undef, .int .i64 0, .pointer (some ⟨w.heap.size + 1, 0, none⟩), pv x.1.1, undef, undef, .func (.func gf) #[] lb, pv x.1.1, undef, undef, undef, undef, undef, undef, undef, undef, undef, undef, undef, undef, undef, undef, undef, undef, undef, undef, undef, undef, undef, undef, undef, undef, undef, undef, undef, undef, undef, undef, undef, undef, undef, undef, undef, undef, undef, undef], defers := [] }) ?assign ?body ?done ?stop)
  case assign =>
    intro l x W K hK
    unfold encW
    gi_wp2
    exact hK
  case stop =>
    rintro D c pre W _ _ hx
    exact hx.elim
  case body =>
    rintro l pre x W hI hlen
    have HI := Lib.hid hI
    obtain ⟨p, hp⟩ : ∃ p : Pw, p = x.1 := ⟨_, rfl⟩
    have hpm : p ∈ L := by rw [hp]; exact x.2
    have HX := Lib.hid hp
    rw [← hp]
    unfold pv
    dsimp only
    have HNb := Lib.hid (show pre.length < 1000 by omega)
    obtain ⟨np, hnp⟩ : ∃ np, np = pre.length := ⟨_, rfl⟩
    have HNp := Lib.hid hnp
    have hwr : IntKind.i64.wrap ((np : Int) + 1) = (np : Int) + 1 := by rw [IntKind.wrap_i64]; omega
    have HD := Lib.hid (hI.keep H.out hI.ch.drew (W' := W.drew) (fun _ _ => rfl))
    have hGl := H.out.pr.lt G (.inl rfl)
    have hBl := H.out.pr.lt Bd (.inr (.inl rfl))
    have hpl := H.out.wr.lt p hpm
    have nG : Bd ≠ G := fun e => H.out.pr.gd e.symm
    have np1 : p.1 ≠ Bd := fun e => H.out.ap p hpm (.inr (.inl e))
    obtain ⟨nk, hnk⟩ : ∃ nk, nk = st.kept.length := ⟨_, rfl⟩
    obtain ⟨a_, l_, hal⟩ : ∃ a l, p = (p.1, a, l) := ⟨_, _, rfl⟩
    obtain ⟨g_, hg_⟩ : ∃ g, g = p.1 := ⟨_, rfl⟩
    have hp2 := H.out.p2 p hpm
    have ha2 : p.2.1 = a_ := by rw [hal]
    have hl2 : p.2.2 = l_ := by rw [hal]
    rw [ha2, hl2, ← hnk] at hp2
    have HLl := Lib.hid hp2.2
    have bk : (a_ : Int) < (nk : Int) := by omega
    have hWr := HD.out.wr.at_ hpm
    rw [ha2, hl2, ← hg_] at hWr
    rw [← hg_] at np1 hpl ⊢
    have HTh := Lib.hid (HD.out.pr.keptAt a_ (by show a_ < (lay st.kept (wsOf pre)).length; rw [lay_len]; omega)).2
    obtain ⟨cq, _, z0, _, _, _, _⟩ := HD.out.pr.cells
    rw [show (Ps.mk (lay st.kept (wsOf pre)) (L.map (·.1)) (latRow st.kept.length L) st.count left).kept.length = nk by rw [hnk]; exact lay_len _ _] at z0
    have hb0 : W.drew.cell? ⟨w.heap.size, 0, none⟩ = some (.pointer (some ⟨G, 0, none⟩)) := cell_of_row _ w.heap.size 0 _ _ (0, 0) HD.out.bd
    have n0 : (W.drew.setCells Bd (a_ * 512) (bvs l_)).cell? ⟨w.heap.size + 1, 0, none⟩ = some (.int .i64 (np : Int)) := (World.cell?_of_block (a := ⟨w.heap.size + 1, 0, none⟩) (heap_setCells_other _ _ _ _ _ (by show w.heap.size + 1 ≠ Bd; omega))).trans (by rw [hnp]; exact cell_of_row _ (w.heap.size + 1) 0 _ _ (0, 0) HD.out.nb)
    have n1 : (W.drew.setCells Bd (a_ * 512) (bvs l_)).frozen? ⟨w.heap.size + 1, 0, none⟩ = false := (World.frozen?_setCells _ _ _ _ _).trans (frozen_of_row _ (w.heap.size + 1) 0 _ _ HD.out.nb)
    have SV := Lib.hid (show W.drew.cell? ⟨w.heap.size, 0, none⟩ = some (.pointer (some ⟨G, 0, none⟩)) ∧ W.drew.cell? ⟨G, 0, none⟩ = some (.slice (some ⟨Bd, 0, none⟩) nk nk) ∧ W.drew.cell? ⟨g_, 0, none⟩ = some (.int .i64 (a_ : Int)) ∧ W.drew.rangeAt g_ 1 (bvs l_) from ⟨hb0, z0, hWr.1, hWr.2⟩)
    have HSt := Lib.hid (HI.out.keep H.out HI.out.ch.drew (W' := W.drew) (fun _ _ => rfl) |>.step H.out x)
    rw [← HX.out, ha2, hl2] at HSt
    have HKO := Lib.hid (show KeepsOthers W (W.drew.setCells Bd (a_ * 512) (bvs l_)) from (KeepsOthers.drew W).trans (keepsSetCells _ _ _ _))
    have HKp := Lib.hid (show ∀ k, P k → (W.drew.setCells Bd (a_ * 512) (bvs l_)).heap[k]? = W.heap[k]? from fun k hk => heap_setCells_other _ _ _ _ _ (fun e => hPd (e ▸ hk)))
    have HTh2 := Lib.hid (show W.drew.there Bd (a_ * 512) (bvs l_).toArray.size by rw [List.size_toArray, bvs_length, HLl.out]; exact HTh.out)
    have SX := Lib.hid (show (W.drew.setCells Bd (a_ * 512) (bvs l_)).cell? ⟨w.heap.size, 0, none⟩ = some (.pointer (some ⟨G, 0, none⟩)) ∧ (W.drew.setCells Bd (a_ * 512) (bvs l_)).cell? ⟨G, 0, none⟩ = some (.slice (some ⟨Bd, 0, none⟩) nk nk) ∧ (W.drew.setCells Bd (a_ * 512) (bvs l_)).cell? ⟨g_, 0, none⟩ = some (.int .i64 (a_ : Int)) ∧ (W.drew.setCells Bd (a_ * 512) (bvs l_)).rangeAt g_ 1 (bvs l_) from
      ⟨(World.cell?_of_block (a := ⟨w.heap.size, 0, none⟩) (heap_setCells_other _ _ _ _ _ (by show w.heap.size ≠ Bd; omega))).trans hb0, (World.cell?_of_block (a := ⟨G, 0, none⟩) (heap_setCells_other _ _ _ _ _ nG.symm)).trans z0, (World.cell?_of_block (a := ⟨g_, 0, none⟩) (heap_setCells_other _ _ _ _ _ np1)).trans hWr.1, World.rangeAt_setCells_apart hWr.2 _ _ _ (.inl np1)⟩)
    have HNk := Lib.hid hnk
    clear hI hp hlen hnp hal ha2 hl2 hWr z0 hb0 hg_ hnk hp2 HTh
    gi_wp2_with fail
    refine restS_round (fun v : World => v.cell? ⟨w.heap.size, 0, none⟩ = some (.pointer (some ⟨G, 0, none⟩)) ∧ v.cell? ⟨G, 0, none⟩ = some (.slice (some ⟨Bd, 0, none⟩) nk nk) ∧ v.cell? ⟨g_, 0, none⟩ = some (.int .i64 (a_ : Int)) ∧ v.rangeAt g_ 1 (bvs l_)) (by kernel_rfl) (fun ⟨a, w, h⟩ => h) (by kernel_rfl) ?_
    refine restS_take (i := 0) SV.out rfl (by kernel_rfl) (by kernel_rfl) (by kernel_rfl) (by rfl) (fun v hv => by obtain ⟨v1, v2, v3, v4⟩ := hv; go_simp; try with_reducible rfl) ?_
    try simp only [Act.put, List.setIfInBounds_toArray, List.set_cons_zero, List.set_cons_succ]
    refine restS_take (i := 1) SV.out rfl (by kernel_rfl) (by kernel_rfl) (by kernel_rfl) (by rfl) (fun v hv => by obtain ⟨v1, v2, v3, v4⟩ := hv; go_simp; try with_reducible rfl) ?_
    try simp only [Act.put, List.setIfInBounds_toArray, List.set_cons_zero, List.set_cons_succ]
    refine restS_take (i := 2) SV.out rfl (by kernel_rfl) (by kernel_rfl) (by kernel_rfl) (by rfl) (fun v hv => by obtain ⟨v1, v2, v3, v4⟩ := hv; go_simp; try with_reducible rfl) ?_
    try simp only [Act.put, List.setIfInBounds_toArray, List.set_cons_zero, List.set_cons_succ]
    refine restS_take (i := 3) SV.out rfl (by kernel_rfl) (by kernel_rfl) (by kernel_rfl) (by rfl) (fun v hv => by obtain ⟨v1, v2, v3, v4⟩ := hv; go_simp; try with_reducible rfl) ?_
    try simp only [Act.put, List.setIfInBounds_toArray, List.set_cons_zero, List.set_cons_succ]
    refine restS_take (i := 4) SV.out rfl (by kernel_rfl) (by kernel_rfl) (by kernel_rfl) (by rfl) (fun v hv => by obtain ⟨v1, v2, v3, v4⟩ := hv; go_simp; try with_reducible rfl) ?_
    try simp only [Act.put, List.setIfInBounds_toArray, List.set_cons_zero, List.set_cons_succ]
    refine restS_take (i := 5) SV.out rfl (by kernel_rfl) (by kernel_rfl) (by kernel_rfl) (by rfl) (fun v hv => by obtain ⟨v1, v2, v3, v4⟩ := hv; go_simp; try with_reducible rfl) ?_
    try simp only [Act.put, List.setIfInBounds_toArray, List.set_cons_zero, List.set_cons_succ]
    refine restS_take (i := 6) SV.out rfl (by kernel_rfl) (by kernel_rfl) (by kernel_rfl) (by rfl) (fun v hv => by obtain ⟨v1, v2, v3, v4⟩ := hv; go_simp; try with_reducible rfl) ?_
    try simp only [Act.put, List.setIfInBounds_toArray, List.set_cons_zero, List.set_cons_succ]
    refine restS_take (i := 7) SV.out rfl (by kernel_rfl) (by kernel_rfl) (by kernel_rfl) (by rfl) (fun v hv => by obtain ⟨v1, v2, v3, v4⟩ := hv; go_simp; try with_reducible rfl) ?_
    try simp only [Act.put, List.setIfInBounds_toArray, List.set_cons_zero, List.set_cons_succ]
    refine restS_take (i := 8) SV.out rfl (by kernel_rfl) (by kernel_rfl) (by kernel_rfl) (by rfl) (fun v hv => by obtain ⟨v1, v2, v3, v4⟩ := hv; go_simp; try with_reducible rfl) ?_
    try simp only [Act.put, List.setIfInBounds_toArray, List.set_cons_zero, List.set_cons_succ]
    refine restS_take (i := 9) SV.out rfl (by kernel_rfl) (by kernel_rfl) (by kernel_rfl) (by rfl) (fun v hv => by obtain ⟨v1, v2, v3, v4⟩ := hv; go_simp; try with_reducible rfl) ?_
    try simp only [Act.put, List.setIfInBounds_toArray, List.set_cons_zero, List.set_cons_succ]
    refine restS_take (i := 10) SV.out rfl (by kernel_rfl) (by kernel_rfl) (by kernel_rfl) (by rfl) (fun v hv => by obtain ⟨v1, v2, v3, v4⟩ := hv; go_simp; try with_reducible rfl) ?_
    try simp only [Act.put, List.setIfInBounds_toArray, List.set_cons_zero, List.set_cons_succ]
    refine restS_range (i := 11) SV.out rfl (by kernel_rfl) (by kernel_rfl) (by kernel_rfl) (by rfl) 86 (.tmp 21) rfl _ 1 rfl (bvs l_) _ (fun v hv => hv.2.2.2) u512 rfl (size512l HLl.out) ?_
    try simp only [Act.put, List.setIfInBounds_toArray, List.set_cons_zero, List.set_cons_succ]
    refine restS_take (i := 12) SV.out rfl (by kernel_rfl) (by kernel_rfl) (by kernel_rfl) (by rfl) (fun v hv => by obtain ⟨v1, v2, v3, v4⟩ := hv; go_simp; try with_reducible rfl) ?_
    try simp only [Act.put, List.setIfInBounds_toArray, List.set_cons_zero, List.set_cons_succ]
    refine restS_lone (i := 13) rfl (by kernel_rfl) (by rfl) (fun K hK => ?_)
    refine wp_store_mid 86 (.tmp 23) (.tmp 22) rfl Bd (a_ * 512) _ rfl rfl HTh2.out (size512 HLl.out) (one512 _) ?_
    refine hK.out _ _ SX.out ?_
    clear hK K
    try simp only [Act.put, List.setIfInBounds_toArray, List.set_cons_zero, List.set_cons_succ]
    refine restS_done (by kernel_rfl) ?_
    have n0' : (W.drew.setCells Bd (a_ * 512) (bvs l_).toArray.toList).cell? ⟨w.heap.size + 1, 0, none⟩ = some (.int .i64 (np : Int)) := n0
    have n1' : (W.drew.setCells Bd (a_ * 512) (bvs l_).toArray.toList).frozen? ⟨w.heap.size + 1, 0, none⟩ = false := n1
    gi_wp2
    exact ⟨(HKO.out.trans (KeepsOthers.setCell _ _ _)).from _, fun k hk => (heap_setCell_other _ _ _ _ (by have := hPl k hk; show k ≠ w.heap.size + 1; omega)).trans (HKp.out k hk), by rw [HNp.out]; exact HSt.out⟩
  case done =>
    rintro D ys W hD rfl hI hK
    have J0 := Lib.hid (show Se2 w G Bd Bl Ap L left st ys D 0 W from { pr := by simpa [wipe] using hI.pr, wr := hI.wr, bd := hI.bd, nb := hI.nb, hd := hK, ch := hI.ch })
    have HDl := Lib.hid (show w.heap.size + 2 ≤ D by have := S0.out; omega)
    obtain ⟨np, hnp⟩ : ∃ np, np = L.length := ⟨_, rfl⟩
    have HNp := Lib.hid hnp
    obtain ⟨cp, _, _, z1, _, _, _⟩ := J0.out.pr.cells
    have q1 : W.cell? ⟨G, 1, none⟩ = some (.slice Ap np cp) := by rw [hnp, ← List.length_map (f := (·.1))]; exact z1
    have q2 : W.cell? ⟨w.heap.size, 0, none⟩ = some (.pointer (some ⟨G, 0, none⟩)) := cell_of_row _ w.heap.size 0 _ _ (0, 0) J0.out.bd
    obtain ⟨nk, hnk⟩ : ∃ nk, nk = st.kept.length := ⟨_, rfl⟩
    have HNk := Lib.hid hnk
    have hnp1 : np ≤ 1000 := by omega
    clear hnp hnk z1 hI hK I0 B0 hD hxs hL hn hseq S0 eg
    go_wp2_with fail
    clear q1 q2
    go_loopw [31] (fun v31 wr => ∃ (k : Nat), v31 = .int .i64 (k : Int) ∧ k ≤ np ∧ Hid (Se2 w G Bd Bl Ap L left st ys D k wr)) (fun v31 _ => np - (intOf v31).toNat)
    case atStart => exact ⟨0, rfl, Nat.zero_le _, J0.out⟩
    case round =>
      clear J0
      obtain ⟨k, rfl, hkm, HJ⟩ := hrel
      by_cases hlt : k < np
      · have bk : (k : Int) < (np : Int) := by omega
        have hkL : k < L.length := by have := HNp.out; omega
        obtain ⟨ga, rfl, hga, nga1, nga2, nga3, hca, _⟩ := HJ.out.pr.rowAt k (by show k < (L.map (·.1)).length; rw [List.length_map]; exact hkL)
        obtain ⟨p, hp⟩ : ∃ p, p = L[k] := ⟨_, rfl⟩
        have hpm : p ∈ L := by rw [hp]; exact List.getElem_mem hkL
        have hca' : wr.cell? ⟨ga, k, none⟩ = some (.pointer (some ⟨p.1, 0, none⟩)) := by rw [hca, hp]; simp [pv]
        have hWr := (HJ.out.wr.at_ hpm).1
        have hp2 := (H.out.p2 p hpm).1
        have HN2 := Lib.hid (show Se2 w G Bd Bl (some ⟨ga, 0, none⟩) L left st ys D (k + 1) (wr.drew.setCell ⟨Bl, p.2.1, none⟩ (.pointer none)) from by
          have := (HJ.out.drew).wipe H.out hkL
          rw [← hp] at this
          exact this)
        obtain ⟨cq, _, _, _, z2, _, _⟩ := HJ.out.pr.cells
        rw [show (Ps.mk (lay st.kept (wsOf ys)) (L.map (·.1)) (wipe (latRow st.kept.length L) ((L.map (·.2.1)).take k)) st.count left).kept.length = nk by rw [HNk.out]; exact lay_len _ _] at z2
        have hb0 : wr.cell? ⟨w.heap.size, 0, none⟩ = some (.pointer (some ⟨G, 0, none⟩)) := cell_of_row _ w.heap.size 0 _ _ (0, 0) HJ.out.bd
        obtain ⟨a_, ha_⟩ : ∃ a, a = p.2.1 := ⟨_, rfl⟩
        obtain ⟨g_, hg_⟩ : ∃ g, g = p.1 := ⟨_, rfl⟩
        rw [← ha_] at hWr hp2 HN2
        rw [← hg_] at hWr hca'
        have ba : (a_ : Int) < (nk : Int) := by have := HNk.out; omega
        have hl4 : (wr.drew.cell? ⟨Bl, a_, none⟩).isSome = true := by
          have : wr.drew.cell? ⟨Bl, a_, none⟩ = _ := cell_of_row _ Bl a_ _ _ (0, 0) HJ.out.pr.hl
          rw [this, List.getElem?_toArray, List.getElem?_map]
          have hlen : a_ < (wipe (latRow st.kept.length L) ((L.map (·.2.1)).take k)).length := by rw [wipe_len, latRow_len]; exact hp2
          rw [List.getElem?_eq_getElem hlen]; rfl
        obtain ⟨v4, hl4⟩ := Option.isSome_iff_exists.1 hl4
        have hf4 : wr.drew.frozen? ⟨Bl, a_, none⟩ = false := frozen_of_row _ Bl a_ _ _ HJ.out.pr.hl
        have SV := Lib.hid (show wr.drew.cell? ⟨w.heap.size, 0, none⟩ = some (.pointer (some ⟨G, 0, none⟩)) ∧ wr.drew.cell? ⟨G, 2, none⟩ = some (.slice (some ⟨Bl, 0, none⟩) nk nk) ∧ wr.drew.cell? ⟨g_, 0, none⟩ = some (.int .i64 (a_ : Int)) from ⟨hb0, z2, hWr⟩)
        have hBl2 := H.out.pr.lt Bl (.inr (.inr (.inl rfl)))
        have nG2 : G ≠ Bl := H.out.pr.gl
        have ng2 : g_ ≠ Bl := by rw [hg_]; exact fun e => H.out.ap p hpm (.inr (.inr (.inl e)))
        have SX := Lib.hid (show (wr.drew.setCell ⟨Bl, a_, none⟩ (.pointer none)).cell? ⟨w.heap.size, 0, none⟩ = some (.pointer (some ⟨G, 0, none⟩)) ∧ (wr.drew.setCell ⟨Bl, a_, none⟩ (.pointer none)).cell? ⟨G, 2, none⟩ = some (.slice (some ⟨Bl, 0, none⟩) nk nk) ∧ (wr.drew.setCell ⟨Bl, a_, none⟩ (.pointer none)).cell? ⟨g_, 0, none⟩ = some (.int .i64 (a_ : Int)) from
          ⟨(World.cell?_of_block (a := ⟨w.heap.size, 0, none⟩) (heap_setCell_other _ _ _ _ (by show w.heap.size ≠ Bl; omega))).trans hb0, (World.cell?_of_block (a := ⟨G, 2, none⟩) (heap_setCell_other _ _ _ _ nG2)).trans z2, (World.cell?_of_block (a := ⟨g_, 0, none⟩) (heap_setCell_other _ _ _ _ ng2)).trans hWr⟩)
        clear hca hp hWr hp2 z2 hb0 ha_ hg_ hpm hkL nga1 nga2 nga3 HJ nG2 ng2 hBl2
        go_wp2_with fail
        refine restS_begin (fun v : World => v.cell? ⟨w.heap.size, 0, none⟩ = some (.pointer (some ⟨G, 0, none⟩)) ∧ v.cell? ⟨G, 2, none⟩ = some (.slice (some ⟨Bl, 0, none⟩) nk nk) ∧ v.cell? ⟨g_, 0, none⟩ = some (.int .i64 (a_ : Int))) (by kernel_rfl) ?_
        refine restS_take (i := 0) SV.out rfl (by kernel_rfl) (by kernel_rfl) (by kernel_rfl) (by rfl) (fun v hv => by obtain ⟨v1, v2, v3⟩ := hv; go_simp; try with_reducible rfl) ?_
        try simp only [Act.put, List.setIfInBounds_toArray, List.set_cons_zero, List.set_cons_succ]
        refine restS_take (i := 1) SV.out rfl (by kernel_rfl) (by kernel_rfl) (by kernel_rfl) (by rfl) (fun v hv => by obtain ⟨v1, v2, v3⟩ := hv; go_simp; try with_reducible rfl) ?_
        try simp only [Act.put, List.setIfInBounds_toArray, List.set_cons_zero, List.set_cons_succ]
        refine restS_take (i := 2) SV.out rfl (by kernel_rfl) (by kernel_rfl) (by kernel_rfl) (by rfl) (fun v hv => by obtain ⟨v1, v2, v3⟩ := hv; go_simp; try with_reducible rfl) ?_
        try simp only [Act.put, List.setIfInBounds_toArray, List.set_cons_zero, List.set_cons_succ]
        refine restS_take (i := 3) SV.out rfl (by kernel_rfl) (by kernel_rfl) (by kernel_rfl) (by rfl) (fun v hv => by obtain ⟨v1, v2, v3⟩ := hv; go_simp; try with_reducible rfl) ?_
        try simp only [Act.put, List.setIfInBounds_toArray, List.set_cons_zero, List.set_cons_succ]
        refine restS_take (i := 4) SV.out rfl (by kernel_rfl) (by kernel_rfl) (by kernel_rfl) (by rfl) (fun v hv => by obtain ⟨v1, v2, v3⟩ := hv; go_simp; try with_reducible rfl) ?_
        try simp only [Act.put, List.setIfInBounds_toArray, List.set_cons_zero, List.set_cons_succ]
        refine restS_take (i := 5) SV.out rfl (by kernel_rfl) (by kernel_rfl) (by kernel_rfl) (by rfl) (fun v hv => by obtain ⟨v1, v2, v3⟩ := hv; go_simp; try with_reducible rfl) ?_
        try simp only [Act.put, List.setIfInBounds_toArray, List.set_cons_zero, List.set_cons_succ]
        refine restS_take (i := 6) SV.out rfl (by kernel_rfl) (by kernel_rfl) (by kernel_rfl) (by rfl) (fun v hv => by obtain ⟨v1, v2, v3⟩ := hv; go_simp; try with_reducible rfl) ?_
        try simp only [Act.put, List.setIfInBounds_toArray, List.set_cons_zero, List.set_cons_succ]
        refine restS_take (i := 7) SV.out rfl (by kernel_rfl) (by kernel_rfl) (by kernel_rfl) (by rfl) (fun v hv => by obtain ⟨v1, v2, v3⟩ := hv; go_simp; try with_reducible rfl) ?_
        try simp only [Act.put, List.setIfInBounds_toArray, List.set_cons_zero, List.set_cons_succ]
        refine restS_take (i := 8) SV.out rfl (by kernel_rfl) (by kernel_rfl) (by kernel_rfl) (by rfl) (fun v hv => by obtain ⟨v1, v2, v3⟩ := hv; go_simp; try with_reducible rfl) ?_
        try simp only [Act.put, List.setIfInBounds_toArray, List.set_cons_zero, List.set_cons_succ]
        refine restS_lone (i := 9) rfl (by kernel_rfl) (by rfl) (fun K hK => ?_)
        go_simp
        refine hK.out _ _ SX.out ?_
        clear hK K hl4 hf4
        try simp only [Act.put, List.setIfInBounds_toArray, List.set_cons_zero, List.set_cons_succ]
        refine restS_done (by kernel_rfl) ?_
        go_wp2
        go_roundw
        case rel => exact ⟨k + 1, by simp, by omega, HN2.out⟩
        case measure => simp [intOf]; omega
      · have bk : ¬ (k : Int) < (np : Int) := by omega
        obtain rfl : k = np := by omega
        have hb0 : wr.cell? ⟨w.heap.size, 0, none⟩ = some (.pointer (some ⟨G, 0, none⟩)) := cell_of_row _ w.heap.size 0 _ _ (0, 0) HJ.out.bd
        obtain ⟨cq, _, _, z1, _, _, _⟩ := HJ.out.pr.cells
        have hf1 := HJ.out.pr.frozen 1
        have hGl := H.out.pr.lt G (.inl rfl)
        have n0 : (wr.setCell ⟨G, 1, none⟩ (.slice none 0 0)).cell? ⟨w.heap.size + 1, 0, none⟩ = some (.int .i64 (ys.length : Int)) := (World.cell?_of_block (a := ⟨w.heap.size + 1, 0, none⟩) (heap_setCell_other _ _ _ _ (by show w.heap.size + 1 ≠ G; omega))).trans (cell_of_row _ (w.heap.size + 1) 0 _ _ (0, 0) HJ.out.nb)
        have hKD : (wr.setCell ⟨G, 1, none⟩ (.slice none 0 0)).heap[D]? = some (.deferred (some [])) := (heap_setCell_other _ _ _ _ (by have := HDl.out; show D ≠ G; omega)).trans HJ.out.hd
        have HKD := Lib.hid hKD
        clear hKD
        go_wp2
        refine ⟨by simp, .inl ⟨_, _, rfl, run_takeDeferred HKD.out, ?_⟩⟩
        have hD2 := HDl.out
        have P1 := Pr.putRow (np := 0) (row' := []) (w' := wr) (cp' := 0) (Ap' := none) HJ.out.pr rfl (fun _ _ _ => rfl) (Ow.nil _ _ _) (fun x hx => by cases hx)
        have P2 := P1.keep (w' := (wr.setCell ⟨G, 1, none⟩ (.slice none 0 0)).putObj D (.deferred none)) (fun k hk => World.putObj_heap_other (by
          have : k < w.heap.size := by
            rcases hk with rfl | rfl | rfl | ⟨x, hx, _⟩
            · exact hGl
            · exact H.out.pr.lt _ (.inr (.inl rfl))
            · exact H.out.pr.lt _ (.inr (.inr (.inl rfl)))
            · cases hx
          omega))
        have hlat : wipe (latRow st.kept.length L) ((L.map (·.2.1)).take k) = latRow (lay st.kept (wsOf ys)).length [] := by
          rw [List.take_of_length_le (by rw [List.length_map]; have := HNp.out; omega), wipe_all, latRow_nil, lay_len]
        rw [hlat] at P2
        refine ⟨_, results_tmp rfl _ _ _, rfl, ?_, ?_⟩
        · exact { pr := P2, wr := fun p hp => absurd hp (by simp), ap := fun p hp => absurd hp (by simp), pend := rfl, p2 := fun p hp => absurd hp (by simp), calls := H.out.calls, l0 := H.out.l0, l1 := H.out.l1 }
        · exact chGrownBy (HJ.out.ch.setCell (p := ⟨G, 1, none⟩) (.inl (.inl (.inl rfl))) _) (grownBy_putObj' _ D _) (fun k e => by cases e; exact .inr (by omega))
end
end Go.Proofs.Ythakdjaaknbmpaa.S13
namespace Go.Proofs.Ythakdjaaknbmpaa.S13
open Cf
open Go.RowKit
set_option linter.unusedVariables false
set_option linter.unusedSimpArgs false
theorem pred_any (w : World) (g Ba k a : Nat) (h1 : w.cell? ⟨g, 0, none⟩ = some (.int .i64 (k : Int))) (h2 : w.cell? ⟨Ba, 0, none⟩ = some (.int .i64 (a : Int))) :
    Calls Try.prog 50 #[.pointer (some ⟨g, 0, none⟩), .pointer (some ⟨Ba, 0, none⟩)] w fun e w' => e = .returned (.bool (decide (k = a))) ∧ Grown w w' := by
  go_enter Try.func50, Try.ntmps50
  go_wp2_with fail
  refine restS_begin (fun v : World => v.cell? ⟨g, 0, none⟩ = some (.int .i64 (k : Int)) ∧ v.cell? ⟨Ba, 0, none⟩ = some (.int .i64 (a : Int))) (by kernel_rfl) ?_
  have SV := Lib.hid (show w.drew.cell? ⟨g, 0, none⟩ = some (.int .i64 (k : Int)) ∧ w.drew.cell? ⟨Ba, 0, none⟩ = some (.int .i64 (a : Int)) from ⟨h1, h2⟩)
  clear h1 h2
  refine restS_take (i := 0) SV.out rfl (by kernel_rfl) (by kernel_rfl) (by kernel_rfl) (by rfl) (fun v hv => by obtain ⟨v1, v2⟩ := hv; go_simp; try with_reducible rfl) ?_
  try simp only [Act.put, List.setIfInBounds_toArray, List.set_cons_zero, List.set_cons_succ]
  refine restS_take (i := 1) SV.out rfl (by kernel_rfl) (by kernel_rfl) (by kernel_rfl) (by rfl) (fun v hv => by obtain ⟨v1, v2⟩ := hv; go_simp; try with_reducible rfl) ?_
  try simp only [Act.put, List.setIfInBounds_toArray, List.set_cons_zero, List.set_cons_succ]
  refine restS_take (i := 2) SV.out rfl (by kernel_rfl) (by kernel_rfl) (by kernel_rfl) (by rfl) (fun v hv => by obtain ⟨v1, v2⟩ := hv; go_simp; try with_reducible rfl) ?_
  try simp only [Act.put, List.setIfInBounds_toArray, List.set_cons_zero, List.set_cons_succ]
  refine restS_take (i := 3) SV.out rfl (by kernel_rfl) (by kernel_rfl) (by kernel_rfl) (by rfl) (fun v hv => by obtain ⟨v1, v2⟩ := hv; go_simp; try with_reducible rfl) ?_
  try simp only [Act.put, List.setIfInBounds_toArray, List.set_cons_zero, List.set_cons_succ]
  refine restS_take (i := 4) SV.out rfl (by kernel_rfl) (by kernel_rfl) (by kernel_rfl) (by rfl) (fun v hv => by obtain ⟨v1, v2⟩ := hv; go_simp; try with_reducible rfl) ?_
  try simp only [Act.put, List.setIfInBounds_toArray, List.set_cons_zero, List.set_cons_succ]
  refine restS_take (i := 5) SV.out rfl (by kernel_rfl) (by kernel_rfl) (by kernel_rfl) (by rfl) (fun v hv => by obtain ⟨v1, v2⟩ := hv; go_simp; try with_reducible rfl) ?_
  try simp only [Act.put, List.setIfInBounds_toArray, List.set_cons_zero, List.set_cons_succ]
  refine restS_take (i := 6) SV.out rfl (by kernel_rfl) (by kernel_rfl) (by kernel_rfl) (by rfl) (fun v hv => by obtain ⟨v1, v2⟩ := hv; go_simp; try with_reducible rfl) ?_
  try simp only [Act.put, List.setIfInBounds_toArray, List.set_cons_zero, List.set_cons_succ]
  refine restS_done (by kernel_rfl) ?_
  go_wp2
  go_ret
  have hb : ((k : Int) == (a : Int)) = decide (k = a) := by rw [Bool.eq_iff_iff]; simp; omega
  rw [← hb]
  exact ⟨rfl, (Below.refl _ w).drew⟩
/-- What the two walk over: a row of writes, and the number that is sought. -/
structure Df (W : World) (Ap : Option Addr) (cap : Nat) (L : List Pw) (a Ba : Nat) : Prop where
  row : Ow W 0 82 Ap cap (L.map fun p => pv p.1)
  wr : Wr W L
  box : W.cell? ⟨Ba, 0, none⟩ = some (.int .i64 (a : Int))
  ab : ∀ x, Ap = some x → x.block ≠ Ba
  aw : ∀ x, Ap = some x → ∀ p ∈ L, p.1 ≠ x.block
theorem Df.grow {W W' : World} {Ap : Option Addr} {cap a Ba : Nat} {L : List Pw} (h : Df W Ap cap L a Ba) (hg : Grown W W') : Df W' Ap cap L a Ba :=
  { h with row := owGrow h.row hg, wr := h.wr.grow hg, box := (hg.cell (p := ⟨Ba, 0, none⟩) (World.block_lt_of_cell? W _ h.box)).trans h.box }
theorem Df.at_ {W : World} {Ap : Option Addr} {cap a Ba : Nat} {L : List Pw} (h : Df W Ap cap L a Ba) (k : Nat) (hk : k < L.length) : ∃ g, Ap = some ⟨g, 0, none⟩ ∧ W.cell? ⟨g, k, none⟩ = some (.pointer (some ⟨L[k].1, 0, none⟩)) ∧ W.cell? ⟨L[k].1, 0, none⟩ = some (.int .i64 (L[k].2.1 : Int)) := by
  obtain ⟨g, e, _, _, hc, _⟩ := h.row.at_ k (by rw [List.length_map]; exact hk)
  exact ⟨g, e, by rw [hc]; simp [pv], (h.wr.at_ (List.getElem_mem hk)).1⟩
def NoneOf (a : Nat) (L : List Pw) : Prop := ∀ p ∈ L, p.2.1 ≠ a
def HitAt (a : Nat) (L : List Pw) (k : Nat) : Prop := ∃ p, L[k]? = some p ∧ p.2.1 = a
set_option maxRecDepth 20000 in
set_option maxHeartbeats 1000000 in
theorem index_any (w : World) (Ap : Option Addr) (cap np : Nat) (L : List Pw) (a Ba : Nat) (h : Df w Ap cap L a Ba) (hn : L.length = np) (hl : np ≤ 1000) :
    Calls Try.prog 59 #[.slice Ap np cap, .func (.func 50) #[] #[.pointer (some ⟨Ba, 0, none⟩)]] w fun e w' =>
      Grown w w' ∧ ((e = .returned (.int .i64 (-1)) ∧ NoneOf a L) ∨ ∃ k : Nat, k < np ∧ e = .returned (.int .i64 (k : Int)) ∧ NoneOf a (L.take k) ∧ HitAt a L k) := by
  have HD := Lib.hid h
  have HN := Lib.hid hn
  clear h hn
  go_enter Try.func59, Try.ntmps59
  go_wp2_with fail
  go_loopw [8] (fun v8 wr => ∃ k : Nat, v8 = .int .i64 (k : Int) ∧ k ≤ np ∧ Hid (Grown w wr) ∧ Hid (NoneOf a (L.take k))) (fun v8 _ => np - (intOf v8).toNat)
  case atStart => exact ⟨0, rfl, Nat.zero_le _, Grown.refl _, by intro p hp; simp at hp⟩
  case round =>
    obtain ⟨k, rfl, hk, HG, HF⟩ := hrel
    by_cases hlt : k < np
    · have bk : (k : Int) < (np : Int) := by omega
      have hkL : k < L.length := by rw [HN.out]; exact hlt
      obtain ⟨g, rfl, hc1, hc2⟩ := (HD.out.grow HG.out).at_ k hkL
      obtain ⟨p, hp⟩ : ∃ p, p = L[k] := ⟨_, rfl⟩
      rw [← hp] at hc1 hc2
      have HP := Lib.hid (pred_any wr p.1 Ba p.2.1 a hc2 (HD.out.grow HG.out).box)
      have HT := Lib.hid (show L.take (k + 1) = L.take k ++ [p] by rw [at_snoc L k hkL, hp])
      have HAt := Lib.hid (show L[k]? = some p by rw [List.getElem?_eq_getElem hkL, hp])
      clear hp hc2 hkL
      go_wp2_with fail
      refine HP.out.mono ?_
      rintro e w1 ⟨rfl, hg⟩
      have HG1 := Lib.hid (HG.out.trans hg)
      clear hg HP HG hc1
      by_cases hpa : p.2.1 = a
      · rw [decide_eq_true hpa]
        go_wp2
        go_ret
        exact ⟨HG1.out, .inr ⟨k, hlt, rfl, HF.out, ⟨p, HAt.out, hpa⟩⟩⟩
      · rw [decide_eq_false hpa]
        go_wp2
        go_roundw
        case rel => exact ⟨k + 1, by simp, by omega, HG1.out, by
          rw [HT.out]
          intro q hq
          rcases List.mem_append.1 hq with h1 | h1
          · exact HF.out q h1
          · simp only [List.mem_singleton] at h1; rw [h1]; exact hpa⟩
        case measure => simp [intOf]; omega
    · have bk : ¬ (k : Int) < (np : Int) := by omega
      obtain rfl : k = np := by omega
      have HF2 := Lib.hid (show NoneOf a L by have := HF.out; rwa [List.take_of_length_le (by rw [HN.out]; exact Nat.le_refl _)] at this)
      go_wp2
      go_ret
      exact ⟨HG.out, .inl ⟨rfl, HF2.out⟩⟩
theorem keepW_none {a : Nat} {L : List Pw} (h : NoneOf a L) : keepW a L = L := List.filter_eq_self.2 fun p hp => decide_eq_true (h p hp)
theorem keepW_le (a : Nat) (L : List Pw) : (keepW a L).length ≤ L.length := List.length_filter_le _ _
/-- Where the loop of DeleteFunc stands. -/
structure De (w : World) (Ap : Option Addr) (cap np : Nat) (L : List Pw) (a i j : Nat) (vs : List Value) (W : World) : Prop where
  gr : w.grownBy W (Value.slice Ap np cap).ownBlock
  row : Ow W 0 82 Ap cap vs
  len : vs.length = np
  head : vs.take i = (keepW a (L.take j)).map fun p => pv p.1
  tail : ∀ t, j ≤ t → vs[t]? = (L.map fun p => pv p.1)[t]?
theorem De.wr {w W : World} {Ap : Option Addr} {cap np a i j Ba : Nat} {L : List Pw} {vs : List Value} (h : De w Ap cap np L a i j vs W) (hd : Df w Ap cap L a Ba) : Wr W L :=
  hd.wr.keep fun p hp => h.gr.block p.1 (hd.wr.lt p hp) (fun e => by obtain ⟨x, hx, hxk⟩ := own_blk e; exact hd.aw x hx p hp hxk.symm)
theorem De.box {w W : World} {Ap : Option Addr} {cap np a i j Ba : Nat} {L : List Pw} {vs : List Value} (h : De w Ap cap np L a i j vs W) (hd : Df w Ap cap L a Ba) : W.cell? ⟨Ba, 0, none⟩ = some (.int .i64 (a : Int)) :=
  (World.cell?_of_block (a := ⟨Ba, 0, none⟩) (h.gr.block Ba (World.block_lt_of_cell? w _ hd.box) (fun e => by obtain ⟨x, hx, hxk⟩ := own_blk e; exact hd.ab x hx hxk))).trans hd.box
theorem De.grow {w W W' : World} {Ap : Option Addr} {cap np a i j : Nat} {L : List Pw} {vs : List Value} (h : De w Ap cap np L a i j vs W) (hg : Grown W W') : De w Ap cap np L a i j vs W' :=
  { h with gr := ⟨hg.os.trans h.gr.os, hg.tape.trans h.gr.tape, hg.output.trans h.gr.output, Nat.le_trans h.gr.size hg.size, fun k hk hne => (hg.block k (Nat.lt_of_lt_of_le hk h.gr.size)).trans (h.gr.block k hk hne)⟩
           row := owGrow h.row hg }
theorem take_set_at (vs : List Value) (i : Nat) (hi : i < vs.length) (v : Value) : (vs.set i v).take (i + 1) = vs.take i ++ [v] := by
  rw [at_snoc _ i (by rw [List.length_set]; exact hi), List.getElem_set_self, List.take_set_of_le (Nat.le_refl i)]
theorem De.skip {w W : World} {Ap : Option Addr} {cap np a i j : Nat} {L : List Pw} {vs : List Value} (h : De w Ap cap np L a i j vs W) (p : Pw) (hp : L.take (j + 1) = L.take j ++ [p]) (hpa : p.2.1 = a) : De w Ap cap np L a i (j + 1) vs W :=
  { h with head := by rw [hp, keepW_snoc, if_pos hpa]; exact h.head
           tail := fun t ht => h.tail t (by omega) }
theorem De.put {w W : World} {g : Nat} {cap np a i j : Nat} {L : List Pw} {vs : List Value} (h : De w (some ⟨g, 0, none⟩) cap np L a i j vs W) (p : Pw) (hp : L.take (j + 1) = L.take j ++ [p]) (hpa : ¬ p.2.1 = a) (hi : i < np) (hij : i < j) : De w (some ⟨g, 0, none⟩) cap np L a (i + 1) (j + 1) (vs.set i (pv p.1)) (W.setCell ⟨g, i, none⟩ (pv p.1)) := by
  have hl := h.len
  exact { gr := ⟨h.gr.os, h.gr.tape, h.gr.output, by simpa using h.gr.size, fun k hk hne => (heap_setCell_other _ _ _ _ (fun e => hne (by rw [e]; rfl))).trans (h.gr.block k hk hne)⟩
          row := h.row.set i (by rw [hl]; exact hi) _
          len := by rw [List.length_set]; exact hl
          head := by rw [take_set_at vs i (by rw [hl]; exact hi), h.head, hp, keepW_snoc, if_neg hpa, List.map_append]; rfl
          tail := fun t ht => by rw [List.getElem?_set_ne (by omega)]; exact h.tail t (by omega) }
/-- Behind the clearing. -/
theorem De.cleared {w W : World} {g : Nat} {cap np a i j : Nat} {L : List Pw} {vs : List Value} (h : De w (some ⟨g, 0, none⟩) cap np L a i j vs W) (hj : np ≤ j) (hn : L.length = np) (hi : i = (keepW a L).length) (hil : i ≤ np) (n : Nat) (hni : i + n = np) :
    Ow (W.setCells g i (List.replicate n (.pointer none))) 0 82 (some ⟨g, 0, none⟩) cap ((keepW a L).map fun p => pv p.1) ∧ w.grownBy (W.setCells g i (List.replicate n (.pointer none))) (Value.slice (some ⟨g, 0, none⟩) np cap).ownBlock := by
  have hs : ∀ (vs : List Value) (o : Nat) (V : World), w.grownBy V (Value.slice (some ⟨g, 0, none⟩) np cap).ownBlock → w.grownBy (V.setCells g o vs) (Value.slice (some ⟨g, 0, none⟩) np cap).ownBlock := by
    intro vs
    induction vs with
    | nil => intro o V hv; exact hv
    | cons v r ih =>
      intro o V hv
      rw [World.setCells]
      exact ih (o + 1) _ ⟨hv.os, hv.tape, hv.output, by simpa using hv.size, fun k hk hne => (heap_setCell_other _ _ _ _ (fun e => hne (by rw [e]; rfl))).trans (hv.block k hk hne)⟩
  refine ⟨?_, hs _ _ _ h.gr⟩
  rcases h.row.form with ⟨e1, _⟩ | ⟨g', cur, e1, hb, hh, hc, hm, hcs, ht⟩
  · cases e1
  · simp only [Option.some.injEq, Addr.mk.injEq] at e1
    obtain ⟨rfl, _⟩ := e1
    have hl := h.len
    have hh' : W.heap[g]? = some (.cells cur.toList.toArray 82 (0, 0)) := by simpa using hh
    obtain ⟨l, q1, q2, q3⟩ := heap_setCells_same g 82 (List.replicate n (.pointer none)) i W cur.toList hh' (by rw [List.length_replicate, Array.length_toList, hcs]; omega)
    replace q2 : l.length = cap := by rw [q2]; simpa using hcs
    refine ⟨by simp, .inr ⟨g, cap, l.toArray, by simp, hb, q1, by rw [List.length_map]; omega, hm, by simp [q2], ?_⟩⟩
    rw [Nat.mul_one, List.length_map, List.toList_toArray, ← hi]
    have h9 := h.head
    rw [show L.take j = L from List.take_of_length_le (by omega)] at h9
    rw [← h9]
    apply List.ext_getElem?
    intro t
    rw [List.getElem?_take, List.getElem?_take]
    by_cases hti : t < i
    · rw [if_pos hti, if_pos hti, q3, if_neg (by omega)]
      have : (cur.toList.take vs.length)[t]? = vs[t]? := by rw [ht]
      rwa [List.getElem?_take, if_pos (by omega)] at this
    · rw [if_neg hti, if_neg hti]
theorem zeroPw (w : World) : (zeroValue 82).run Try.prog w = .ok (.pointer none) w := by
  obtain ⟨i0, hi, hz0, hz1, hz2⟩ := info_parts infoPw
  simp [zeroValue, typeInfo, hi, hz0]
set_option maxRecDepth 20000 in
set_option maxHeartbeats 2000000 in
theorem delete_any (w : World) (Ap : Option Addr) (cap np : Nat) (L : List Pw) (a Ba : Nat) (h : Df w Ap cap L a Ba) (hn : L.length = np) (hl : np ≤ 1000) (hcap : np ≤ cap) (hcap2 : cap ≤ 9223372036854775807) :
    Calls Try.prog 49 #[.slice Ap np cap, .func (.func 50) #[] #[.pointer (some ⟨Ba, 0, none⟩)]] w fun e w' =>
      e = .returned (.slice Ap (keepW a L).length cap) ∧ Ow w' 0 82 Ap cap ((keepW a L).map fun p => pv p.1) ∧ w.grownBy w' (Value.slice Ap np cap).ownBlock := by
  have HD := Lib.hid h
  have HN := Lib.hid hn
  have HI := Lib.hid (index_any w Ap cap np L a Ba h hn hl)
  clear h hn
  go_enter Try.func49, Try.ntmps49
  go_wp2_with fail
  refine HI.out.mono ?_
  rintro e w1 ⟨hg, ⟨rfl, hno⟩ | ⟨k, hk, rfl, hno, hit⟩⟩
  · have HG := Lib.hid hg
    have HE := Lib.hid (keepW_none hno)
    clear hg hno HI
    go_wp2
    go_ret
    rw [HE.out]
    exact ⟨by rw [HN.out]; rfl, owGrow HD.out.row HG.out, ⟨HG.out.os, HG.out.tape, HG.out.output, HG.out.size, fun k hk _ => HG.out.block k hk⟩⟩
  · obtain ⟨p0, hp0, hp0a⟩ := hit
    have hkL : k < L.length := by rw [HN.out]; exact hk
    obtain ⟨g, rfl, -, -⟩ := HD.out.at_ k hkL
    have HT0 := Lib.hid (show L.take (k + 1) = L.take k ++ [p0] by rw [List.take_add_one, hp0]; rfl)
    have hE0 := keepW_none hno
    have HDe := Lib.hid (show De w (some ⟨g, 0, none⟩) cap np L a k (k + 1) (L.map fun p => pv p.1) w1 from
      { gr := ⟨hg.os, hg.tape, hg.output, hg.size, fun k hk _ => hg.block k hk⟩, row := owGrow HD.out.row hg, len := by rw [List.length_map, HN.out],
        head := by rw [HT0.out, keepW_snoc, if_pos hp0a, hE0, List.map_take], tail := fun _ _ => rfl })
    have HK0 := Lib.hid (show k = (keepW a (L.take (k + 1))).length by rw [HT0.out, keepW_snoc, if_pos hp0a, hE0, List.length_take]; omega)
    have hkm : ((k : Int) == -1) = false := by rw [beq_eq_false_iff_ne]; omega
    clear hg hno HI hp0 hp0a hE0
    go_wp2_with fail
    clear hkm
    go_loopw [5, 6] (fun v5 v6 wr => ∃ (i j : Nat) (vs : List Value), v5 = .int .i64 (i : Int) ∧ v6 = .int .i64 (j : Int) ∧ i < j ∧ j ≤ np ∧ Hid (i = (keepW a (L.take j)).length) ∧ Hid (De w (some ⟨g, 0, none⟩) cap np L a i j vs wr)) (fun _ v6 _ => np - (intOf v6).toNat)
    case atStart => exact ⟨k, k + 1, _, rfl, by simp, by omega, by omega, HK0.out, HDe.out⟩
    case round =>
      clear HDe HK0 hkL HT0 hk
      obtain ⟨i, j, vs, rfl, rfl, hij, hj, HIl, HDe⟩ := hrel
      by_cases hlt : j < np
      · have bk : (j : Int) < (np : Int) := by omega
        have hjL : j < L.length := by rw [HN.out]; exact hlt
        obtain ⟨p, hp⟩ : ∃ p, p = L[j] := ⟨_, rfl⟩
        have hpm : p ∈ L := by rw [hp]; exact List.getElem_mem hjL
        have hvj : vs[j]? = some (pv p.1) := by rw [HDe.out.tail j (Nat.le_refl _), List.getElem?_map, List.getElem?_eq_getElem hjL, hp]; rfl
        obtain ⟨g', e', _, _, hcj0, _⟩ := HDe.out.row.at_ j (by rw [HDe.out.len]; exact hlt)
        simp only [Option.some.injEq, Addr.mk.injEq] at e'
        obtain ⟨rfl, _⟩ := e'
        have hcj : wr.cell? ⟨g, j, none⟩ = some (.pointer (some ⟨p.1, 0, none⟩)) := by
          rw [hcj0]
          have h7 : j < vs.length := by rw [HDe.out.len]; exact hlt
          rw [List.getElem?_eq_getElem h7] at hvj
          exact hvj
        have HP := Lib.hid (pred_any wr p.1 Ba p.2.1 a ((HDe.out.wr HD.out).at_ hpm).1 (HDe.out.box HD.out))
        have HT := Lib.hid (show L.take (j + 1) = L.take j ++ [p] by rw [at_snoc L j hjL, hp])
        have bi : (i : Int) < (np : Int) := by omega
        clear hp hpm hvj hcj0 hjL
        go_wp2_with fail
        refine HP.out.mono ?_
        rintro e w2 ⟨rfl, hg⟩
        have HDe2 := Lib.hid (HDe.out.grow hg)
        clear hg HP HDe hcj
        by_cases hpa : p.2.1 = a
        · rw [decide_eq_true hpa]
          have HIl2 := Lib.hid (show i = (keepW a (L.take (j + 1))).length by rw [HT.out, keepW_snoc, if_pos hpa]; exact HIl.out)
          have HDe3 := Lib.hid (HDe2.out.skip p HT.out hpa)
          clear hpa
          go_wp2
          go_roundw
          case rel => exact ⟨i, j + 1, vs, rfl, by simp, by omega, by omega, HIl2.out, HDe3.out⟩
          case measure => simp [intOf]; omega
        · rw [decide_eq_false hpa]
          have HIl2 := Lib.hid (show i + 1 = (keepW a (L.take (j + 1))).length by rw [HT.out, keepW_snoc, if_neg hpa, List.length_append, ← HIl.out]; rfl)
          have HDe3 := Lib.hid (HDe2.out.put p HT.out hpa (by omega) hij)
          obtain ⟨g', e', _, _, hci, hfi⟩ := HDe2.out.row.at_ i (by rw [HDe2.out.len]; omega)
          simp only [Option.some.injEq, Addr.mk.injEq] at e'
          obtain ⟨rfl, _⟩ := e'
          clear hpa
          go_wp2
          go_roundw
          case rel => exact ⟨i + 1, j + 1, _, by simp, by simp, by omega, by omega, HIl2.out, HDe3.out⟩
          case measure => simp [intOf]; omega
      · have bk : ¬ (j : Int) < (np : Int) := by omega
        obtain rfl : j = np := by omega
        have hIl := HIl.out
        rw [List.take_of_length_le (by rw [HN.out]; exact Nat.le_refl _)] at hIl
        have HK := Lib.hid hIl
        obtain ⟨n, hn⟩ : ∃ n, n = j - i := ⟨_, rfl⟩
        have HCl := Lib.hid (HDe.out.cleared (Nat.le_refl _) HN.out hIl (by omega) n (by omega))
        have hcc : ∀ t, t < n → (wr.cell? ⟨g, i + t, none⟩).isSome = true ∧ wr.frozen? ⟨g, i + t, none⟩ = false := fun t ht => by
          obtain ⟨g', e', _, _, hc, hf⟩ := HDe.out.row.at_ (i + t) (by rw [HDe.out.len]; omega)
          simp only [Option.some.injEq, Addr.mk.injEq] at e'
          obtain ⟨rfl, _⟩ := e'
          exact ⟨by rw [hc]; rfl, hf⟩
        have hcl := fun ty => Lib.run_clear_slice (P := Try.prog) wr _ _ ty _ Try.underlying63 zeroPw rfl rfl g i n (cap - i) (by omega) (fun t ht => (hcc t ht).1) (fun t ht => (hcc t ht).2)
        clear hcc hIl
        subst hn
        go_wp2
        go_ret
        exact ⟨by rw [← HK.out]; rfl, HCl.out.1, HCl.out.2⟩
end Go.Proofs.Ythakdjaaknbmpaa.S13
