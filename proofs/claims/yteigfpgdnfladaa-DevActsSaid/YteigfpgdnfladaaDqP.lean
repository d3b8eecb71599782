/-
  settle: what an iterator gives becomes durable, all else is lost.
-/
import Derived.Test.YteigfpgdnfladaaDqO
namespace Go.Proofs.Yteigfpgdnfladaa.S13
open Cf
open Go.RowKit Go.Shelf
set_option linter.unusedVariables false
set_option linter.unusedSimpArgs false
attribute [local go_sem] Oper.semAt_some
theorem lay_snoc1 (k : List (List UInt8)) (l : List (Nat × List UInt8)) (p : Nat × List UInt8) : lay k (l ++ [p]) = (lay k l).set p.1 p.2 := by
  unfold lay
  rw [List.foldl_append]
  rfl
theorem chSetCells {F : Nat → Prop} {w : World} (b : Nat) (hb : F b ∨ w.heap.size ≤ b) : ∀ (vs : List Value) (o : Nat) (W : World), Ch F w W → Ch F w (W.setCells b o vs)
  | [], _, _, h => h
  | v :: r, o, W, h => by rw [World.setCells]; exact chSetCells b hb r (o + 1) _ (h.setCell (p := ⟨b, o, none⟩) hb v)
def wsOf {L : List Pw} (xs : List (In L)) : List (Nat × List UInt8) := xs.map fun x => x.1.2
theorem wsOf_snoc {L : List Pw} (xs : List (In L)) (x : In L) : wsOf (xs ++ [x]) = wsOf xs ++ [x.1.2] := by simp [wsOf]
section
variable {w w' W W' : World} {G Bd Bl : Nat} {Ap : Option Addr} {L : List Pw} {left : Int} {st : Dv} {i : Nat}
/-- Where the first loop of settle stands. -/
structure SeI (w : World) (G Bd Bl : Nat) (Ap : Option Addr) (L : List Pw) (left : Int) (st : Dv) (xs : List (In L)) (W : World) : Prop where
  pr : Pr W G Bd Bl Ap ⟨lay st.kept (wsOf xs), L.map (·.1), latRow st.kept.length L, st.count, left⟩
  wr : Wr W L
  bd : W.heap[w.heap.size]? = some (.cells #[.pointer (some ⟨G, 0, none⟩)] 24 (0, 0))
  nb : W.heap[w.heap.size + 1]? = some (.cells #[.int .i64 (xs.length : Int)] 3 (0, 0))
  ch : Ch (FF G Bd Bl Ap L) w W
theorem SeI.keep {xs : List (In L)} (z : Pz w G Bd Bl Ap L left st) (h : SeI w G Bd Bl Ap L left st xs W) (hc : Ch (FF G Bd Bl Ap L) w W') (hk : ∀ k, k < w.heap.size + 2 → W'.heap[k]? = W.heap[k]?) : SeI w G Bd Bl Ap L left st xs W' where
  pr := h.pr.keep fun k hf => hk k (by have := z.pr.lt k hf; omega)
  wr := h.wr.keep fun p hp => hk _ (by have := z.wr.lt p hp; omega)
  bd := (hk _ (by omega)).trans h.bd
  nb := (hk _ (by omega)).trans h.nb
  ch := hc
theorem SeI.own (z : Pz w G Bd Bl Ap L left st) {B : Nat} (hB : B = w.heap.size + 2) : OwnFrom B (fun xs W => SeI w G Bd Bl Ap L left st xs W) := fun s W W' row h hg hr => by
  refine h.keep z (chGrownBy h.ch hg (fun k e => .inr (by have := (hr k e).1; omega))) (fun k hk => hg.block k ?_ (fun e => by have := (hr k e.symm).1; omega))
  have := lt_of_heap h.nb
  omega
/-- A sector is stored, and one more is counted. -/
theorem SeI.step {xs : List (In L)} (z : Pz w G Bd Bl Ap L left st) (h : SeI w G Bd Bl Ap L left st xs W) (x : In L) : SeI w G Bd Bl Ap L left st (xs ++ [x]) ((W.setCells Bd (x.1.2.1 * 512) (bvs x.1.2.2)).setCell ⟨w.heap.size + 1, 0, none⟩ (.int .i64 ((xs.length : Int) + 1))) where
  pr := by
    have h2 := z.p2 x.1 x.2
    have := h.pr.setKept x.1.2.1 (by show _ < (lay st.kept (wsOf xs)).length; rw [lay_len]; exact h2.1) x.1.2.2 h2.2
    rw [wsOf_snoc, lay_snoc1]
    exact this.keep fun k hf => heap_setCell_other _ _ _ _ (by have := z.pr.lt k hf; show k ≠ w.heap.size + 1; omega)
  wr := (h.wr.keep fun p hp => heap_setCells_other _ _ _ _ _ (fun e => z.ap p hp (.inr (.inl e)))).keep fun p hp => heap_setCell_other _ _ _ _ (by have := z.wr.lt p hp; show p.1 ≠ w.heap.size + 1; omega)
  bd := by
    have := z.pr.lt Bd (.inr (.inl rfl))
    exact (heap_setCell_other _ _ _ _ (by show w.heap.size ≠ w.heap.size + 1; omega)).trans ((heap_setCells_other _ _ _ _ _ (by omega)).trans h.bd)
  nb := by
    have := z.pr.lt Bd (.inr (.inl rfl))
    have h1 : (W.setCells Bd (x.1.2.1 * 512) (bvs x.1.2.2)).heap[w.heap.size + 1]? = _ := (heap_setCells_other _ _ _ _ _ (by omega)).trans h.nb
    rw [heap_setCell_same _ (w.heap.size + 1) 0 _ _ _ h1, List.length_append]
    simp
  ch := by
    refine Ch.setCell ?_ (p := ⟨w.heap.size + 1, 0, none⟩) (.inr (by show w.heap.size ≤ w.heap.size + 1; omega)) _
    exact chSetCells Bd (.inl (.inl (.inr (.inl rfl)))) _ _ _ h.ch
/-- Where the second loop of settle stands. -/
structure Se2 (w : World) (G Bd Bl : Nat) (Ap : Option Addr) (L : List Pw) (left : Int) (st : Dv) (xs : List (In L)) (D k : Nat) (W : World) : Prop where
  pr : Pr W G Bd Bl Ap ⟨lay st.kept (wsOf xs), L.map (·.1), wipe (latRow st.kept.length L) ((L.map (·.2.1)).take k), st.count, left⟩
  wr : Wr W L
  bd : W.heap[w.heap.size]? = some (.cells #[.pointer (some ⟨G, 0, none⟩)] 24 (0, 0))
  nb : W.heap[w.heap.size + 1]? = some (.cells #[.int .i64 (xs.length : Int)] 3 (0, 0))
  hd : W.heap[D]? = some (.deferred (some []))
  ch : Ch (FF G Bd Bl Ap L) w W
theorem Se2.drew {xs : List (In L)} {D k : Nat} (h : Se2 w G Bd Bl Ap L left st xs D k W) : Se2 w G Bd Bl Ap L left st xs D k W.drew :=
  { pr := h.pr.keep (fun _ _ => rfl), wr := h.wr, bd := h.bd, nb := h.nb, hd := h.hd, ch := h.ch.drew }
theorem Se2.wipe {xs : List (In L)} {D k : Nat} (h : Se2 w G Bd Bl Ap L left st xs D k W) (z : Pz w G Bd Bl Ap L left st) (hk : k < L.length) (hk' : k < L.length := hk) : Se2 w G Bd Bl Ap L left st xs D (k + 1) (W.setCell ⟨Bl, L[k].2.1, none⟩ (.pointer none)) := by
  have hl := z.pr.lt Bl (.inr (.inr (.inl rfl)))
  refine { pr := ?_, wr := h.wr.keep fun p hp => heap_setCell_other _ _ _ _ (fun e => z.ap p hp (.inr (.inr (.inl e)))), bd := (heap_setCell_other _ _ _ _ (by show w.heap.size ≠ Bl; omega)).trans h.bd, nb := (heap_setCell_other _ _ _ _ (by show w.heap.size + 1 ≠ Bl; omega)).trans h.nb, hd := (heap_setCell_other _ _ _ _ (fun e => ?_)).trans h.hd, ch := h.ch.setCell (p := ⟨Bl, _, none⟩) (.inl (.inl (.inr (.inr (.inl rfl))))) _ }
  · have := h.pr.setLat L[k].2.1 none
    rw [at_snoc _ k (by rw [List.length_map]; exact hk), wipe_snoc, List.getElem_map]
    exact this
  · have h1 := h.hd
    have h2 := h.pr.hl
    rw [show D = Bl from e] at h1
    rw [h1] at h2
    cases h2
set_option maxRecDepth 100000 in
set_option maxHeartbeats 4000000 in
theorem settle_any (h : Pz w G Bd Bl Ap L left st) (hL : L.length ≤ 1000) (hn : st.kept.length ≤ 65536) (gf : Nat) (lb : Array Value) (eg : ∀ args w, (callFunc gf args).run Try.prog w = .ok (.enter gf args) w) (P : Nat → Prop) (hPd : ¬ P Bd) (hPl : ∀ k, P k → k < w.heap.size) (xs : List (In L)) (hxs : xs.length ≤ 1000)
    (hseq : SeqStopsK Fence.wide 6 Try.prog gf lb encW (fun W W' => ∀ k, P k → W'.heap[k]? = W.heap[k]?) (fun ys => ys = xs) (fun _ => True) L.length w) :
    Calls Try.prog 38 #[.pointer (some ⟨G, 0, none⟩), .func (.func gf) #[] lb] w fun e w' => e = .returned (.int .i64 (xs.length : Int)) ∧ Pz w' G Bd Bl none [] left { st with kept := lay st.kept (wsOf xs), pend := [] } ∧ Ch (FF G Bd Bl Ap L) w w' := by
  have H := Lib.hid h
  refine callsIn_wide.1 (callsIn_of_wp_marks (F := Fence.wide) (n := 7) Try.func38 rfl trivial ?_ rfl)
  simp only [Try.ntmps38, List.size_toArray, List.length_cons, List.length_nil, Nat.reduceAdd, Nat.reduceSub, Array.replicate_succ, Array.replicate_zero, List.push_toArray, List.append_toArray, List.nil_append, List.cons_append]
  refine wpIn_wide.2 ?_
  go_wp2_with fail
  have I0 := Lib.hid (show SeI w G Bd Bl Ap L left st [] ((w.alloc (.cells #[.pointer (some ⟨G, 0, none⟩)] 24)).alloc (.cells #[.int .i64 0] 3)) from
    { pr := H.out.pr.grow (twoGrown w _ _), wr := H.out.wr.grow (twoGrown w _ _), bd := newOne w _ _, nb := newTwo w _ _, ch := Ch.grown (twoGrown w _ _) })
  have B0 := Lib.hid (show Below w.heap.size w ((w.alloc (.cells #[.pointer (some ⟨G, 0, none⟩)] 24)).alloc (.cells #[.int .i64 0] 3)) from twoGrown w _ _)
  have S0 := Lib.hid (show ((w.alloc (.cells #[.pointer (some ⟨G, 0, none⟩)] 24)).alloc (.cells #[.int .i64 0] 3)).heap.size = w.heap.size + 2 by rw [World.size_alloc, World.size_alloc])
  generalize World.alloc _ _ = w2 at I0 B0 S0 ⊢
  refine wpIn_wide.1 (wpIn_rangeFunc_ownG (F := Fence.wide) (n := 7) rfl (by omega) (gf := gf) (lb := lb) rfl trivial eg hseq (fun h k j hj => (k j hj).trans (h j hj)) (fun W l o o' hl _ _ _ k hk => World.putObj_heap_other (by have := hPl k hk; have := S0.out; omega)) B0.out (fun _ => rfl)
    (fun xs W => SeI w G Bd Bl Ap L left st xs W) (fun _ _ _ => False) (SeI.own H.out S0.out) (fun _ _ _ _ _ hs _ _ => hs) I0.out
    (fun x => { tmps := #[.pointer (some ⟨G, 0, none⟩), .func (.func gf) #[] lb, .pointer (some ⟨w.heap.size, 0, none⟩), undef, .int .i64 0, .pointer (some ⟨w.heap.size + 1, 0, none⟩), pv x.1.1, undef, undef, .func (.func gf) #[] lb, pv x.1.1, undef, undef, undef, undef, undef, undef, undef, undef, undef, undef, undef, undef, undef, undef, undef, undef, undef, undef, undef, undef, undef, undef, undef, undef, undef, undef, undef, undef, undef, undef, undef, undef, undef, undef, undef, undef, undef, undef], defers := [] }) ?assign ?body ?done ?stop)
  case assign =>
    intro l x W K hK
    unfold encW
    gi_wp2
    exact hK
  case stop =>
    rintro D c pre W _ _ hx
    exact hx.elim
  case body =>
    rintro l pre x W hI hlen
    have HI := Lib.hid hI
    obtain ⟨p, hp⟩ : ∃ p : Pw, p = x.1 := ⟨_, rfl⟩
    have hpm : p ∈ L := by rw [hp]; exact x.2
    have HX := Lib.hid hp
    rw [← hp]
    unfold pv
    dsimp only
    have HNb := Lib.hid (show pre.length < 1000 by omega)
    obtain ⟨np, hnp⟩ : ∃ np, np = pre.length := ⟨_, rfl⟩
    have HNp := Lib.hid hnp
    have hwr : IntKind.i64.wrap ((np : Int) + 1) = (np : Int) + 1 := by rw [IntKind.wrap_i64]; omega
    have HD := Lib.hid (hI.keep H.out hI.ch.drew (W' := W.drew) (fun _ _ => rfl))
    have hGl := H.out.pr.lt G (.inl rfl)
    have hBl := H.out.pr.lt Bd (.inr (.inl rfl))
    have hpl := H.out.wr.lt p hpm
    have nG : Bd ≠ G := fun e => H.out.pr.gd e.symm
    have np1 : p.1 ≠ Bd := fun e => H.out.ap p hpm (.inr (.inl e))
    obtain ⟨nk, hnk⟩ : ∃ nk, nk = st.kept.length := ⟨_, rfl⟩
    obtain ⟨a_, l_, hal⟩ : ∃ a l, p = (p.1, a, l) := ⟨_, _, rfl⟩
    obtain ⟨g_, hg_⟩ : ∃ g, g = p.1 := ⟨_, rfl⟩
    have hp2 := H.out.p2 p hpm
    have ha2 : p.2.1 = a_ := by rw [hal]
    have hl2 : p.2.2 = l_ := by rw [hal]
    rw [ha2, hl2, ← hnk] at hp2
    have HLl := Lib.hid hp2.2
    have bk : (a_ : Int) < (nk : Int) := by omega
    have hWr := HD.out.wr.at_ hpm
    rw [ha2, hl2, ← hg_] at hWr
    rw [← hg_] at np1 hpl ⊢
    have HTh := Lib.hid (HD.out.pr.keptAt a_ (by show a_ < (lay st.kept (wsOf pre)).length; rw [lay_len]; omega)).2
    obtain ⟨cq, _, z0, _, _, _, _⟩ := HD.out.pr.cells
    rw [show (Ps.mk (lay st.kept (wsOf pre)) (L.map (·.1)) (latRow st.kept.length L) st.count left).kept.length = nk by rw [hnk]; exact lay_len _ _] at z0
    have hb0 : W.drew.cell? ⟨w.heap.size, 0, none⟩ = some (.pointer (some ⟨G, 0, none⟩)) := cell_of_row _ w.heap.size 0 _ _ (0, 0) HD.out.bd
    have n0 : (W.drew.setCells Bd (a_ * 512) (bvs l_)).cell? ⟨w.heap.size + 1, 0, none⟩ = some (.int .i64 (np : Int)) := (World.cell?_of_block (a := ⟨w.heap.size + 1, 0, none⟩) (heap_setCells_other _ _ _ _ _ (by show w.heap.size + 1 ≠ Bd; omega))).trans (by rw [hnp]; exact cell_of_row _ (w.heap.size + 1) 0 _ _ (0, 0) HD.out.nb)
    have n1 : (W.drew.setCells Bd (a_ * 512) (bvs l_)).frozen? ⟨w.heap.size + 1, 0, none⟩ = false := (World.frozen?_setCells _ _ _ _ _).trans (frozen_of_row _ (w.heap.size + 1) 0 _ _ HD.out.nb)
    have SV := Lib.hid (show W.drew.cell? ⟨w.heap.size, 0, none⟩ = some (.pointer (some ⟨G, 0, none⟩)) ∧ W.drew.cell? ⟨G, 0, none⟩ = some (.slice (some ⟨Bd, 0, none⟩) nk nk) ∧ W.drew.cell? ⟨g_, 0, none⟩ = some (.int .i64 (a_ : Int)) ∧ W.drew.rangeAt g_ 1 (bvs l_) from ⟨hb0, z0, hWr.1, hWr.2⟩)
    have HSt := Lib.hid (HI.out.keep H.out HI.out.ch.drew (W' := W.drew) (fun _ _ => rfl) |>.step H.out x)
    rw [← HX.out, ha2, hl2] at HSt
    have HKO := Lib.hid (show KeepsOthers W (W.drew.setCells Bd (a_ * 512) (bvs l_)) from (KeepsOthers.drew W).trans (keepsSetCells _ _ _ _))
    have HKp := Lib.hid (show ∀ k, P k → (W.drew.setCells Bd (a_ * 512) (bvs l_)).heap[k]? = W.heap[k]? from fun k hk => heap_setCells_other _ _ _ _ _ (fun e => hPd (e ▸ hk)))
    have HTh2 := Lib.hid (show W.drew.there Bd (a_ * 512) (bvs l_).toArray.size by rw [List.size_toArray, bvs_length, HLl.out]; exact HTh.out)
    have SX := Lib.hid (show (W.drew.setCells Bd (a_ * 512) (bvs l_)).cell? ⟨w.heap.size, 0, none⟩ = some (.pointer (some ⟨G, 0, none⟩)) ∧ (W.drew.setCells Bd (a_ * 512) (bvs l_)).cell? ⟨G, 0, none⟩ = some (.slice (some ⟨Bd, 0, none⟩) nk nk) ∧ (W.drew.setCells Bd (a_ * 512) (bvs l_)).cell? ⟨g_, 0, none⟩ = some (.int .i64 (a_ : Int)) ∧ (W.drew.setCells Bd (a_ * 512) (bvs l_)).rangeAt g_ 1 (bvs l_) from
      ⟨(World.cell?_of_block (a := ⟨w.heap.size, 0, none⟩) (heap_setCells_other _ _ _ _ _ (by show w.heap.size ≠ Bd; omega))).trans hb0, (World.cell?_of_block (a := ⟨G, 0, none⟩) (heap_setCells_other _ _ _ _ _ nG.symm)).trans z0, (World.cell?_of_block (a := ⟨g_, 0, none⟩) (heap_setCells_other _ _ _ _ _ np1)).trans hWr.1, World.rangeAt_setCells_apart hWr.2 _ _ _ (.inl np1)⟩)
    have HNk := Lib.hid hnk
    clear hI hp hlen hnp hal ha2 hl2 hWr z0 hb0 hg_ hnk hp2 HTh
    gi_wp2_with fail
    refine restS_round (fun v : World => v.cell? ⟨w.heap.size, 0, none⟩ = some (.pointer (some ⟨G, 0, none⟩)) ∧ v.cell? ⟨G, 0, none⟩ = some (.slice (some ⟨Bd, 0, none⟩) nk nk) ∧ v.cell? ⟨g_, 0, none⟩ = some (.int .i64 (a_ : Int)) ∧ v.rangeAt g_ 1 (bvs l_)) (by kernel_rfl) (fun ⟨a, w, h⟩ => h) (by kernel_rfl) ?_
    refine restS_take (i := 0) SV.out rfl (by kernel_rfl) (by kernel_rfl) (by kernel_rfl) (by rfl) (fun v hv => by obtain ⟨v1, v2, v3, v4⟩ := hv; go_simp; try with_reducible rfl) ?_
    try simp only [Act.put, List.setIfInBounds_toArray, List.set_cons_zero, List.set_cons_succ]
    refine restS_take (i := 1) SV.out rfl (by kernel_rfl) (by kernel_rfl) (by kernel_rfl) (by rfl) (fun v hv => by obtain ⟨v1, v2, v3, v4⟩ := hv; go_simp; try with_reducible rfl) ?_
    try simp only [Act.put, List.setIfInBounds_toArray, List.set_cons_zero, List.set_cons_succ]
    refine restS_take (i := 2) SV.out rfl (by kernel_rfl) (by kernel_rfl) (by kernel_rfl) (by rfl) (fun v hv => by obtain ⟨v1, v2, v3, v4⟩ := hv; go_simp; try with_reducible rfl) ?_
    try simp only [Act.put, List.setIfInBounds_toArray, List.set_cons_zero, List.set_cons_succ]
    refine restS_take (i := 3) SV.out rfl (by kernel_rfl) (by kernel_rfl) (by kernel_rfl) (by rfl) (fun v hv => by obtain ⟨v1, v2, v3, v4⟩ := hv; go_simp; try with_reducible rfl) ?_
    try simp only [Act.put, List.setIfInBounds_toArray, List.set_cons_zero, List.set_cons_succ]
    refine restS_take (i := 4) SV.out rfl (by kernel_rfl) (by kernel_rfl) (by kernel_rfl) (by rfl) (fun v hv => by obtain ⟨v1, v2, v3, v4⟩ := hv; go_simp; try with_reducible rfl) ?_
    try simp only [Act.put, List.setIfInBounds_toArray, List.set_cons_zero, List.set_cons_succ]
    refine restS_take (i := 5) SV.out rfl (by kernel_rfl) (by kernel_rfl) (by kernel_rfl) (by rfl) (fun v hv => by obtain ⟨v1, v2, v3, v4⟩ := hv; go_simp; try with_reducible rfl) ?_
    try simp only [Act.put, List.setIfInBounds_toArray, List.set_cons_zero, List.set_cons_succ]
    refine restS_take (i := 6) SV.out rfl (by kernel_rfl) (by kernel_rfl) (by kernel_rfl) (by rfl) (fun v hv => by obtain ⟨v1, v2, v3, v4⟩ := hv; go_simp; try with_reducible rfl) ?_
    try simp only [Act.put, List.setIfInBounds_toArray, List.set_cons_zero, List.set_cons_succ]
    refine restS_take (i := 7) SV.out rfl (by kernel_rfl) (by kernel_rfl) (by kernel_rfl) (by rfl) (fun v hv => by obtain ⟨v1, v2, v3, v4⟩ := hv; go_simp; try with_reducible rfl) ?_
    try simp only [Act.put, List.setIfInBounds_toArray, List.set_cons_zero, List.set_cons_succ]
    refine restS_take (i := 8) SV.out rfl (by kernel_rfl) (by kernel_rfl) (by kernel_rfl) (by rfl) (fun v hv => by obtain ⟨v1, v2, v3, v4⟩ := hv; go_simp; try with_reducible rfl) ?_
    try simp only [Act.put, List.setIfInBounds_toArray, List.set_cons_zero, List.set_cons_succ]
    refine restS_take (i := 9) SV.out rfl (by kernel_rfl) (by kernel_rfl) (by kernel_rfl) (by rfl) (fun v hv => by obtain ⟨v1, v2, v3, v4⟩ := hv; go_simp; try with_reducible rfl) ?_
    try simp only [Act.put, List.setIfInBounds_toArray, List.set_cons_zero, List.set_cons_succ]
    refine restS_take (i := 10) SV.out rfl (by kernel_rfl) (by kernel_rfl) (by kernel_rfl) (by rfl) (fun v hv => by obtain ⟨v1, v2, v3, v4⟩ := hv; go_simp; try with_reducible rfl) ?_
    try simp only [Act.put, List.setIfInBounds_toArray, List.set_cons_zero, List.set_cons_succ]
    refine restS_range (i := 11) SV.out rfl (by kernel_rfl) (by kernel_rfl) (by kernel_rfl) (by rfl) 65 (.tmp 21) rfl _ 1 rfl (bvs l_) _ (fun v hv => hv.2.2.2) u512 rfl (size512l HLl.out) ?_
    try simp only [Act.put, List.setIfInBounds_toArray, List.set_cons_zero, List.set_cons_succ]
    refine restS_take (i := 12) SV.out rfl (by kernel_rfl) (by kernel_rfl) (by kernel_rfl) (by rfl) (fun v hv => by obtain ⟨v1, v2, v3, v4⟩ := hv; go_simp; try with_reducible rfl) ?_
    try simp only [Act.put, List.setIfInBounds_toArray, List.set_cons_zero, List.set_cons_succ]
    refine restS_lone (i := 13) rfl (by kernel_rfl) (by rfl) (fun K hK => ?_)
    refine wp_store_mid 65 (.tmp 23) (.tmp 22) rfl Bd (a_ * 512) _ rfl rfl HTh2.out (size512 HLl.out) (one512 _) ?_
    refine hK.out _ _ SX.out ?_
    clear hK K
    try simp only [Act.put, List.setIfInBounds_toArray, List.set_cons_zero, List.set_cons_succ]
    refine restS_done (by kernel_rfl) ?_
    have n0' : (W.drew.setCells Bd (a_ * 512) (bvs l_).toArray.toList).cell? ⟨w.heap.size + 1, 0, none⟩ = some (.int .i64 (np : Int)) := n0
    have n1' : (W.drew.setCells Bd (a_ * 512) (bvs l_).toArray.toList).frozen? ⟨w.heap.size + 1, 0, none⟩ = false := n1
    gi_wp2
    exact ⟨(HKO.out.trans (KeepsOthers.setCell _ _ _)).from _, fun k hk => (heap_setCell_other _ _ _ _ (by have := hPl k hk; show k ≠ w.heap.size + 1; omega)).trans (HKp.out k hk), by rw [HNp.out]; exact HSt.out⟩
  case done =>
    rintro D ys W hD rfl hI hK
    have J0 := Lib.hid (show Se2 w G Bd Bl Ap L left st ys D 0 W from { pr := by simpa [wipe] using hI.pr, wr := hI.wr, bd := hI.bd, nb := hI.nb, hd := hK, ch := hI.ch })
    have HDl := Lib.hid (show w.heap.size + 2 ≤ D by have := S0.out; omega)
    obtain ⟨np, hnp⟩ : ∃ np, np = L.length := ⟨_, rfl⟩
    have HNp := Lib.hid hnp
    obtain ⟨cp, _, _, z1, _, _, _⟩ := J0.out.pr.cells
    have q1 : W.cell? ⟨G, 1, none⟩ = some (.slice Ap np cp) := by rw [hnp, ← List.length_map (f := (·.1))]; exact z1
    have q2 : W.cell? ⟨w.heap.size, 0, none⟩ = some (.pointer (some ⟨G, 0, none⟩)) := cell_of_row _ w.heap.size 0 _ _ (0, 0) J0.out.bd
    obtain ⟨nk, hnk⟩ : ∃ nk, nk = st.kept.length := ⟨_, rfl⟩
    have HNk := Lib.hid hnk
    have hnp1 : np ≤ 1000 := by omega
    clear hnp hnk z1 hI hK I0 B0 hD hxs hL hn hseq S0 eg
    go_wp2_with fail
    clear q1 q2
    go_loopw [31] (fun v31 wr => ∃ (k : Nat), v31 = .int .i64 (k : Int) ∧ k ≤ np ∧ Hid (Se2 w G Bd Bl Ap L left st ys D k wr)) (fun v31 _ => np - (intOf v31).toNat)
    case atStart => exact ⟨0, rfl, Nat.zero_le _, J0.out⟩
    case round =>
      clear J0
      obtain ⟨k, rfl, hkm, HJ⟩ := hrel
      by_cases hlt : k < np
      · have bk : (k : Int) < (np : Int) := by omega
        have hkL : k < L.length := by have := HNp.out; omega
        obtain ⟨ga, rfl, hga, nga1, nga2, nga3, hca, _⟩ := HJ.out.pr.rowAt k (by show k < (L.map (·.1)).length; rw [List.length_map]; exact hkL)
        obtain ⟨p, hp⟩ : ∃ p, p = L[k] := ⟨_, rfl⟩
        have hpm : p ∈ L := by rw [hp]; exact List.getElem_mem hkL
        have hca' : wr.cell? ⟨ga, k, none⟩ = some (.pointer (some ⟨p.1, 0, none⟩)) := by rw [hca, hp]; simp [pv]
        have hWr := (HJ.out.wr.at_ hpm).1
        have hp2 := (H.out.p2 p hpm).1
        have HN2 := Lib.hid (show Se2 w G Bd Bl (some ⟨ga, 0, none⟩) L left st ys D (k + 1) (wr.drew.setCell ⟨Bl, p.2.1, none⟩ (.pointer none)) from by
          have := (HJ.out.drew).wipe H.out hkL
          rw [← hp] at this
          exact this)
        obtain ⟨cq, _, _, _, z2, _, _⟩ := HJ.out.pr.cells
        rw [show (Ps.mk (lay st.kept (wsOf ys)) (L.map (·.1)) (wipe (latRow st.kept.length L) ((L.map (·.2.1)).take k)) st.count left).kept.length = nk by rw [HNk.out]; exact lay_len _ _] at z2
        have hb0 : wr.cell? ⟨w.heap.size, 0, none⟩ = some (.pointer (some ⟨G, 0, none⟩)) := cell_of_row _ w.heap.size 0 _ _ (0, 0) HJ.out.bd
        obtain ⟨a_, ha_⟩ : ∃ a, a = p.2.1 := ⟨_, rfl⟩
        obtain ⟨g_, hg_⟩ : ∃ g, g = p.1 := ⟨_, rfl⟩
        rw [← ha_] at hWr hp2 HN2
        rw [← hg_] at hWr hca'
        have ba : (a_ : Int) < (nk : Int) := by have := HNk.out; omega
        have hl4 : (wr.drew.cell? ⟨Bl, a_, none⟩).isSome = true := by
          have : wr.drew.cell? ⟨Bl, a_, none⟩ = _ := cell_of_row _ Bl a_ _ _ (0, 0) HJ.out.pr.hl
          rw [this, List.getElem?_toArray, List.getElem?_map]
          have hlen : a_ < (wipe (latRow st.kept.length L) ((L.map (·.2.1)).take k)).length := by rw [wipe_len, latRow_len]; exact hp2
          rw [List.getElem?_eq_getElem hlen]; rfl
        obtain ⟨v4, hl4⟩ := Option.isSome_iff_exists.1 hl4
        have hf4 : wr.drew.frozen? ⟨Bl, a_, none⟩ = false := frozen_of_row _ Bl a_ _ _ HJ.out.pr.hl
        have SV := Lib.hid (show wr.drew.cell? ⟨w.heap.size, 0, none⟩ = some (.pointer (some ⟨G, 0, none⟩)) ∧ wr.drew.cell? ⟨G, 2, none⟩ = some (.slice (some ⟨Bl, 0, none⟩) nk nk) ∧ wr.drew.cell? ⟨g_, 0, none⟩ = some (.int .i64 (a_ : Int)) from ⟨hb0, z2, hWr⟩)
        have hBl2 := H.out.pr.lt Bl (.inr (.inr (.inl rfl)))
        have nG2 : G ≠ Bl := H.out.pr.gl
        have ng2 : g_ ≠ Bl := by rw [hg_]; exact fun e => H.out.ap p hpm (.inr (.inr (.inl e)))
        have SX := Lib.hid (show (wr.drew.setCell ⟨Bl, a_, none⟩ (.pointer none)).cell? ⟨w.heap.size, 0, none⟩ = some (.pointer (some ⟨G, 0, none⟩)) ∧ (wr.drew.setCell ⟨Bl, a_, none⟩ (.pointer none)).cell? ⟨G, 2, none⟩ = some (.slice (some ⟨Bl, 0, none⟩) nk nk) ∧ (wr.drew.setCell ⟨Bl, a_, none⟩ (.pointer none)).cell? ⟨g_, 0, none⟩ = some (.int .i64 (a_ : Int)) from
          ⟨(World.cell?_of_block (a := ⟨w.heap.size, 0, none⟩) (heap_setCell_other _ _ _ _ (by show w.heap.size ≠ Bl; omega))).trans hb0, (World.cell?_of_block (a := ⟨G, 2, none⟩) (heap_setCell_other _ _ _ _ nG2)).trans z2, (World.cell?_of_block (a := ⟨g_, 0, none⟩) (heap_setCell_other _ _ _ _ ng2)).trans hWr⟩)
        clear hca hp hWr hp2 z2 hb0 ha_ hg_ hpm hkL nga1 nga2 nga3 HJ nG2 ng2 hBl2
        go_wp2_with fail
        refine restS_begin (fun v : World => v.cell? ⟨w.heap.size, 0, none⟩ = some (.pointer (some ⟨G, 0, none⟩)) ∧ v.cell? ⟨G, 2, none⟩ = some (.slice (some ⟨Bl, 0, none⟩) nk nk) ∧ v.cell? ⟨g_, 0, none⟩ = some (.int .i64 (a_ : Int))) (by kernel_rfl) ?_
        refine restS_take (i := 0) SV.out rfl (by kernel_rfl) (by kernel_rfl) (by kernel_rfl) (by rfl) (fun v hv => by obtain ⟨v1, v2, v3⟩ := hv; go_simp; try with_reducible rfl) ?_
        try simp only [Act.put, List.setIfInBounds_toArray, List.set_cons_zero, List.set_cons_succ]
        refine restS_take (i := 1) SV.out rfl (by kernel_rfl) (by kernel_rfl) (by kernel_rfl) (by rfl) (fun v hv => by obtain ⟨v1, v2, v3⟩ := hv; go_simp; try with_reducible rfl) ?_
        try simp only [Act.put, List.setIfInBounds_toArray, List.set_cons_zero, List.set_cons_succ]
        refine restS_take (i := 2) SV.out rfl (by kernel_rfl) (by kernel_rfl) (by kernel_rfl) (by rfl) (fun v hv => by obtain ⟨v1, v2, v3⟩ := hv; go_simp; try with_reducible rfl) ?_
        try simp only [Act.put, List.setIfInBounds_toArray, List.set_cons_zero, List.set_cons_succ]
        refine restS_take (i := 3) SV.out rfl (by kernel_rfl) (by kernel_rfl) (by kernel_rfl) (by rfl) (fun v hv => by obtain ⟨v1, v2, v3⟩ := hv; go_simp; try with_reducible rfl) ?_
        try simp only [Act.put, List.setIfInBounds_toArray, List.set_cons_zero, List.set_cons_succ]
        refine restS_take (i := 4) SV.out rfl (by kernel_rfl) (by kernel_rfl) (by kernel_rfl) (by rfl) (fun v hv => by obtain ⟨v1, v2, v3⟩ := hv; go_simp; try with_reducible rfl) ?_
        try simp only [Act.put, List.setIfInBounds_toArray, List.set_cons_zero, List.set_cons_succ]
        refine restS_take (i := 5) SV.out rfl (by kernel_rfl) (by kernel_rfl) (by kernel_rfl) (by rfl) (fun v hv => by obtain ⟨v1, v2, v3⟩ := hv; go_simp; try with_reducible rfl) ?_
        try simp only [Act.put, List.setIfInBounds_toArray, List.set_cons_zero, List.set_cons_succ]
        refine restS_take (i := 6) SV.out rfl (by kernel_rfl) (by kernel_rfl) (by kernel_rfl) (by rfl) (fun v hv => by obtain ⟨v1, v2, v3⟩ := hv; go_simp; try with_reducible rfl) ?_
        try simp only [Act.put, List.setIfInBounds_toArray, List.set_cons_zero, List.set_cons_succ]
        refine restS_take (i := 7) SV.out rfl (by kernel_rfl) (by kernel_rfl) (by kernel_rfl) (by rfl) (fun v hv => by obtain ⟨v1, v2, v3⟩ := hv; go_simp; try with_reducible rfl) ?_
        try simp only [Act.put, List.setIfInBounds_toArray, List.set_cons_zero, List.set_cons_succ]
        refine restS_take (i := 8) SV.out rfl (by kernel_rfl) (by kernel_rfl) (by kernel_rfl) (by rfl) (fun v hv => by obtain ⟨v1, v2, v3⟩ := hv; go_simp; try with_reducible rfl) ?_
        try simp only [Act.put, List.setIfInBounds_toArray, List.set_cons_zero, List.set_cons_succ]
        refine restS_lone (i := 9) rfl (by kernel_rfl) (by rfl) (fun K hK => ?_)
        go_simp
        refine hK.out _ _ SX.out ?_
        clear hK K hl4 hf4
        try simp only [Act.put, List.setIfInBounds_toArray, List.set_cons_zero, List.set_cons_succ]
        refine restS_done (by kernel_rfl) ?_
        go_wp2
        go_roundw
        case rel => exact ⟨k + 1, by simp, by omega, HN2.out⟩
        case measure => simp [intOf]; omega
      · have bk : ¬ (k : Int) < (np : Int) := by omega
        obtain rfl : k = np := by omega
        have hb0 : wr.cell? ⟨w.heap.size, 0, none⟩ = some (.pointer (some ⟨G, 0, none⟩)) := cell_of_row _ w.heap.size 0 _ _ (0, 0) HJ.out.bd
        obtain ⟨cq, _, _, z1, _, _, _⟩ := HJ.out.pr.cells
        have hf1 := HJ.out.pr.frozen 1
        have hGl := H.out.pr.lt G (.inl rfl)
        have n0 : (wr.setCell ⟨G, 1, none⟩ (.slice none 0 0)).cell? ⟨w.heap.size + 1, 0, none⟩ = some (.int .i64 (ys.length : Int)) := (World.cell?_of_block (a := ⟨w.heap.size + 1, 0, none⟩) (heap_setCell_other _ _ _ _ (by show w.heap.size + 1 ≠ G; omega))).trans (cell_of_row _ (w.heap.size + 1) 0 _ _ (0, 0) HJ.out.nb)
        have hKD : (wr.setCell ⟨G, 1, none⟩ (.slice none 0 0)).heap[D]? = some (.deferred (some [])) := (heap_setCell_other _ _ _ _ (by have := HDl.out; show D ≠ G; omega)).trans HJ.out.hd
        have HKD := Lib.hid hKD
        clear hKD
        go_wp2
        refine ⟨by simp, .inl ⟨_, _, rfl, run_takeDeferred HKD.out, ?_⟩⟩
        have hD2 := HDl.out
        have P1 := Pr.putRow (np := 0) (row' := []) (w' := wr) (cp' := 0) (Ap' := none) HJ.out.pr rfl (fun _ _ _ => rfl) (Ow.nil _ _ _) (fun x hx => by cases hx)
        have P2 := P1.keep (w' := (wr.setCell ⟨G, 1, none⟩ (.slice none 0 0)).putObj D (.deferred none)) (fun k hk => World.putObj_heap_other (by
          have : k < w.heap.size := by
            rcases hk with rfl | rfl | rfl | ⟨x, hx, _⟩
            · exact hGl
            · exact H.out.pr.lt _ (.inr (.inl rfl))
            · exact H.out.pr.lt _ (.inr (.inr (.inl rfl)))
            · cases hx
          omega))
        have hlat : wipe (latRow st.kept.length L) ((L.map (·.2.1)).take k) = latRow (lay st.kept (wsOf ys)).length [] := by
          rw [List.take_of_length_le (by rw [List.length_map]; have := HNp.out; omega), wipe_all, latRow_nil, lay_len]
        rw [hlat] at P2
        refine ⟨_, results_tmp rfl _ _ _, rfl, ?_, ?_⟩
        · exact { pr := P2, wr := fun p hp => absurd hp (by simp), ap := fun p hp => absurd hp (by simp), pend := rfl, p2 := fun p hp => absurd hp (by simp), calls := H.out.calls, l0 := H.out.l0, l1 := H.out.l1 }
        · exact chGrownBy (HJ.out.ch.setCell (p := ⟨G, 1, none⟩) (.inl (.inl (.inl rfl))) _) (grownBy_putObj' _ D _) (fun k e => by cases e; exact .inr (by omega))
end
end Go.Proofs.Yteigfpgdnfladaa.S13
