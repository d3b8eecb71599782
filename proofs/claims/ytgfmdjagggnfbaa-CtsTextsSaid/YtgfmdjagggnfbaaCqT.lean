/-
  Contract of the program's Cut, once more: the last piece lies in a block of its own, above all the others.
-/
import Derived.Test.YtgfmdjagggnfbaaXqR
namespace Go.Proofs.Ytgfmdjagggnfbaa.S9
open Go.RowKit
open Go.Proofs.Ytgfmdjagggnfbaa.S7 hiding intOf
set_option linter.unusedVariables false
set_option linter.unusedSimpArgs false

/-- The slice at A owns the cells vs, which hold the pieces ls. -/
def OwnV (w : World) (base : Nat) (A : Option Addr) (c : Nat) (ls : List (List UInt8)) (vs : List Value) : Prop :=
  vs.length = ls.length ∧ w.ownsRow base 23 1 (.slice A ls.length c) ls.length vs ∧ ∀ j (h : j < ls.length) (h' : j < vs.length), IsPiece w base vs[j] ls[j]
def lowV (vs : List Value) (B : Nat) : Prop := ∀ v ∈ vs, ∀ p n c, v = .slice (some p) n c → p.block < B
/-- The last piece is above the others. -/
def TopV (w : World) (ls : List (List UInt8)) (vs : List Value) : Prop :=
  ls = [] ∨ ∃ B vs0 v ls0 l, vs = vs0 ++ [v] ∧ ls = ls0 ++ [l] ∧ lowV vs0 B ∧ IsPiece w B v l
theorem OwnV.nil (w : World) (base : Nat) : OwnV w base none 0 [] [] := ⟨rfl, World.ownsRow_nil w base 23 1, fun j h => by simp at h⟩
theorem OwnV.ownL {w : World} {base : Nat} {A : Option Addr} {c : Nat} {ls : List (List UInt8)} {vs : List Value} (h : OwnV w base A c ls vs) : OwnL w base A c ls := ⟨vs, h⟩
theorem OwnV.grow {w w' : World} {base : Nat} {A : Option Addr} {c : Nat} {ls : List (List UInt8)} {vs : List Value} (h : OwnV w base A c ls vs) (hb : Below w.heap.size w w') : OwnV w' base A c ls vs := by
  obtain ⟨h1, h2, h3⟩ := h
  have hg : w.grownBy w' none := ⟨hb.os, hb.tape, hb.output, hb.size, fun k hk _ => hb.block k hk⟩
  refine ⟨h1, ⟨h2.1, ?_⟩, fun j hj hj' => (h3 j hj hj').kept hg (fun g e => by cases e)⟩
  rcases h2.2 with h4 | ⟨g, cap, cur, h4, h5, h6, r⟩
  · exact .inl h4
  · exact .inr ⟨g, cap, cur, h4, h5, (hb.block g (lt_of_heap h6)).trans h6, r⟩
theorem OwnV.low {w : World} {base : Nat} {A : Option Addr} {c : Nat} {ls : List (List UInt8)} {vs : List Value} (h : OwnV w base A c ls vs) : lowV vs w.heap.size := by
  intro v hv p n c' e
  obtain ⟨j, hj, rfl⟩ := List.getElem_of_mem hv
  obtain ⟨A', c2, e2, ho⟩ := h.2.2 j (by have := h.1; omega) hj
  rw [e] at e2
  simp only [Value.slice.injEq] at e2
  exact (ho.lt p e2.1.symm).2
theorem IsPiece.grow {w w' : World} {base : Nat} {v : Value} {l : List UInt8} (h : IsPiece w base v l) (hb : Below w.heap.size w w') : IsPiece w' base v l := by
  obtain ⟨A, c, e, h⟩ := h
  exact ⟨A, c, e, h.grow hb⟩
theorem run_appV {w : World} {base : Nat} {A : Option Addr} {c : Nat} {ls : List (List UInt8)} {vs : List Value} (h : OwnV w base A c ls vs) (ad : Addr) (c2 : Nat) {v : Value} {l : List UInt8} (hc : w.cell? ad = some v) (hv : IsPiece w base v l) {B3 : Nat} (hv3 : IsPiece w B3 v l)
    (hl : ls.length ≤ 1000000) (hbase : base ≤ w.heap.size) (ty : TypeId) :
    ∃ A' c' w', (Builtin.append_ #[59, 59] ty #[.slice A ls.length c, .slice (some ad) 1 c2]).run Try.prog w = .ok (.slice A' (ls ++ [l]).length c') w' ∧ OwnV w' base A' c' (ls ++ [l]) (vs ++ [v]) ∧ IsPiece w' B3 v l ∧ Below base w w' := by
  obtain ⟨h1, h2, h3⟩ := h
  obtain ⟨i0, hi, hz0, hz1, hz2⟩ := info_parts info22
  obtain ⟨v', w', hrun, hown', hg, _⟩ := run_append_own (P := Try.prog) w base 59 ty 23 i0 _ 1 24 Try.underlying59 hi hz0 hz1 hz2 rfl (by omega) _ _ _ h2 ad 1 c2 [v] rfl
    (fun j u hu => by
      match j, hu with
      | 0, hu => simp at hu; subst hu; simpa [Addr.add] using hc)
    (fun u hu => by simp at hu; subst hu; exact hv.one) (by unfold maxLen; omega) (by omega) hbase
  have hv' : ∃ A' c', v' = .slice A' (ls ++ [l]).length c' := by
    rcases hown'.2 with ⟨_, h4⟩ | ⟨g, cap, cur, h4, _⟩
    · omega
    · exact ⟨some ⟨g, 0, none⟩, cap, by rw [h4]; simp⟩
  obtain ⟨A', c', rfl⟩ := hv'
  have hrow : ∀ g, (Value.slice A ls.length c).ownBlock = some g → ∀ cs, w.heap[g]? ≠ some (.cells cs 5 (0, 0)) := by
    intro g hgb cs hcs
    rcases h2.2 with ⟨h4, _⟩ | ⟨g', cap, cur, h4, _, h5, _⟩
    · rw [h4] at hgb; simp [Value.ownBlock] at hgb
    · rw [h4] at hgb
      simp [Value.ownBlock] at hgb
      subst hgb
      rw [h5] at hcs
      injection hcs with hcs
      injection hcs with _ ht
      exact absurd ht (by decide)
  refine ⟨A', c', w', hrun, ⟨by simp [h1], ?_, fun j hj hj' => ?_⟩, hv3.kept hg hrow, ?_⟩
  · simpa using hown'
  · by_cases hlt : j < ls.length
    · rw [List.getElem_append_left (by omega), List.getElem_append_left hlt]
      exact (h3 j hlt (by omega)).kept hg hrow
    · simp at hj
      have : j = ls.length := by omega
      subst this
      rw [List.getElem_append_right (by omega), List.getElem_append_right (by omega)]
      simp only [h1, Nat.sub_self, List.getElem_cons_zero]
      exact hv.kept hg hrow
  · refine (Below.refl _ _).grown hg hbase fun k hk => ?_
    exact (h2.lt k hk).1

theorem wpList_appV {w : World} {ops : Array Oper} {rest : List Oper} {o : Oper} {a : Act} {Q : Exit → Act → World → Prop} (hgd : o.guard = none) (s x : Operand) (ho : o.op = .call { callee := .builtin .append, args := #[s, x], argTypes := #[59, 59] })
    {base : Nat} {A : Option Addr} {c m : Nat} {ls : List (List UInt8)} {vs : List Value} (hs : a.eval s = .slice A m c) (hm : ls.length = m) (h : OwnV w base A c ls vs) {ad : Addr} {c2 : Nat} (hx : a.eval x = .slice (some ad) 1 c2) {v : Value} {l : List UInt8} (hc : w.cell? ad = some v) (hv : IsPiece w base v l) {B3 : Nat} (hv3 : IsPiece w B3 v l)
    (hl : m ≤ 1000000) (hbase : base ≤ w.heap.size)
    (hk : ∀ A' c' w', OwnV w' base A' c' (ls ++ [l]) (vs ++ [v]) → IsPiece w' B3 v l → Below base w w' → wpList Try.prog ops Q rest (a.put o.dst (.slice A' (m + 1) c')) w') : wpList Try.prog ops Q (o :: rest) a w := by
  subst hm
  refine wpList_plain hgd fun K hK => ?_
  obtain ⟨A', c', w', hrun, h3, h5, h4⟩ := run_appV h ad c2 hc hv hv3 hl hbase o.type
  unfold Oper.wp execOp
  simp only [ho, resolve, invoke, builtin, Sem.run_bind, Sem.run_pure, Result.andThen_ok, List.map_toArray, List.map_cons, List.map_nil, hs, hx, hrun]
  have := hk A' c' w' h3 h5 h4
  rw [show ls.length + 1 = (ls ++ [l]).length by simp] at this
  exact hK _ _ this

/-- The head of Cut's loop. -/
def CutRelT (w : World) (s : Nat) (l : List UInt8) (v0 v5 : Value) (wr : World) : Prop :=
  ∃ A n c rest Ap m cp ls vs, v0 = .slice A n c ∧ rest.length = n ∧ n ≤ c ∧ n ≤ l.length ∧ Rd wr w.heap.size A rest ∧ v5 = .slice Ap m cp ∧ ls.length = m ∧ m + n ≤ l.length ∧ OwnV wr w.heap.size Ap cp ls vs ∧ TopV wr ls vs ∧ ls ++ cutL s rest = cutL s l ∧ Below w.heap.size w wr

def MakesT (w : World) (ls : List (List UInt8)) (e : Ending) (w' : World) : Prop := ∃ A c vs, e = .returned (.slice A ls.length c) ∧ OwnV w' w.heap.size A c ls vs ∧ TopV w' ls vs ∧ Below w.heap.size w w'

theorem cutRelT_step {w wr w2 : World} {s n m k cx c2 : Nat} {l rest : List UInt8} {ls : List (List UInt8)} {vs : List Value} {Ax A2 : Option Addr} (hn : rest.length = n) (hm : ls.length = m) (h0 : 0 < n) (hs : 1 ≤ s) (hk : k = min s n)
    (hcut : ls ++ cutL s rest = cutL s l) (hrd : Rd wr w.heap.size Ax (rest.drop k)) (hb : Below w.heap.size w wr) (hb2 : Below w.heap.size wr w2) (ho2 : OwnV w2 w.heap.size A2 c2 (ls ++ [rest.take k]) vs) (ht2 : TopV w2 (ls ++ [rest.take k]) vs) (hc : n - k ≤ cx) (hnl : n ≤ l.length) (hmn : m + n ≤ l.length) :
    CutRelT w s l (.slice Ax (n - k) cx) (.slice A2 (m + 1) c2) w2 := by
  refine ⟨Ax, n - k, cx, rest.drop k, A2, m + 1, c2, ls ++ [rest.take k], vs, rfl, by simp; omega, hc, by omega, hrd.below hb2, rfl, by simp; omega, by omega, ho2, ht2, ?_, hb.trans hb2⟩
  rw [← hcut, cutL_step s rest (by omega) (by omega)]
  have e1 : rest.take k = rest.take s := by
    subst hk hn
    by_cases h : s ≤ rest.length
    · rw [Nat.min_eq_left h]
    · rw [Nat.min_eq_right (by omega), List.take_of_length_le (Nat.le_refl _), List.take_of_length_le (by omega)]
  have e2 : rest.drop k = rest.drop s := by
    subst hk hn
    by_cases h : s ≤ rest.length
    · rw [Nat.min_eq_left h]
    · rw [Nat.min_eq_right (by omega), List.drop_of_length_le (Nat.le_refl _), List.drop_of_length_le (by omega)]
  rw [e1, e2]
  simp

theorem topV_mk {wr w2 : World} {base : Nat} {A : Option Addr} {c : Nat} {ls : List (List UInt8)} {vs : List Value} {v : Value} {l : List UInt8} (h : OwnV wr base A c ls vs) (hp : IsPiece w2 wr.heap.size v l) : TopV w2 (ls ++ [l]) (vs ++ [v]) :=
  .inr ⟨wr.heap.size, vs, v, ls, l, rfl, rfl, h.low, hp⟩
set_option maxHeartbeats 1000000 in
theorem cutT_any (A : Option Addr) (n c : Nat) (l : List UInt8) (s : Nat) (w : World) (hn : l.length = n) (h : Rd w w.heap.size A l) (hc : n ≤ c) (hl : n ≤ 1000000) (hs : 1 ≤ s) (hs2 : s ≤ 1000000) :
    Calls Try.prog 26 #[.slice A n c, .int .i64 s] w (MakesT w (cutL s l)) := by
  have hp := Lib.hid hn
  go_enter Try.func26, Try.ntmps26
  clear hn
  go_wp2
  go_loopw [0, 5] (fun v0 v5 wr => CutRelT w s l v0 v5 wr) (fun v0 _ _ => lenV v0)
  case atStart => exact ⟨A, n, c, l, none, 0, 0, [], [], rfl, hp.out, hc, by have := hp.out; omega, h, rfl, rfl, by have := hp.out; omega, OwnV.nil _ _, .inl rfl, rfl, Below.refl _ _⟩
  case round =>
    obtain ⟨A, n, c, rest, Ap, m, cp, ls, vs, rfl, hn, hc, hnl, hr, rfl, hm, hmn, ho, ht, hcut, hb⟩ := hrel
    have Hn := Lib.hid hn
    have Hm := Lib.hid hm
    have Hcut := Lib.hid hcut
    have Hr := Lib.hid hr
    have Ho := Lib.hid ho
    have Ht := Lib.hid ht
    have Hb := Lib.hid hb
    have Hp := hp.out
    have hnn : n ≤ 1000000 := by omega
    clear hn hm hcut hr ho ht hb hp h
    by_cases h0 : 0 < n
    · by_cases hsn : s ≤ n
      · by_cases hcs : c = s
        all_goals
          go_wp2_with (first
            | (go_at_call 34
               refine (clone_any _ _ _ (rest.take s) _ w.heap.size (by have := Hn.out; simp; omega) (Hr.out.take s) Hb.out.size (by omega)).mono ?_
               rintro e w1 ⟨A1, c1, rfl, ho1, hb1⟩
               have Ho1 := Lib.hid ho1
               have Hb1 := Lib.hid hb1
               clear ho1 hb1)
            | (at_builtin
               refine wpList_appV rfl (.tmp 16) (.tmp 21) rfl (base := w.heap.size) rfl Hm.out ((Ho.out.grow Hb1.out).grow ((Below.refl _ _).alloc (Nat.le_refl _) _)) rfl (by simp) (piece_new Ho1.out Hb.out.size _) (piece_new Ho1.out (Nat.le_refl _) _) (by omega) (by have := Hb.out.size; have := Hb1.out.size; simp; omega) ?_
               intro A2 c2 w2 ho2 hp2 hb2
               have Ht2 := Lib.hid (topV_mk Ho.out hp2)
               have Ho2 := Lib.hid ho2
               have Hb2 := Lib.hid hb2
               clear ho2 hp2 hb2))
        all_goals
          go_roundw
          case rel =>
            have hx := Hr.out.cut (k := s) (cap := c) (by have := Hn.out; omega)
            simp only [hcs, if_true, if_false] at hx
            exact cutRelT_step Hn.out Hm.out h0 hs (by omega) Hcut.out hx Hb.out (below_chain Hb.out.size Hb1.out Hb2.out) Ho2.out Ht2.out (by omega) hnl hmn
          case measure => simp [lenV]; omega
      · by_cases hcs : c = n
        all_goals
          go_wp2_with (first
            | (go_at_call 34
               refine (clone_any _ _ _ rest _ w.heap.size Hn.out Hr.out Hb.out.size (by omega)).mono ?_
               rintro e w1 ⟨A1, c1, rfl, ho1, hb1⟩
               have Ho1 := Lib.hid ho1
               have Hb1 := Lib.hid hb1
               clear ho1 hb1)
            | (at_builtin
               refine wpList_appV rfl (.tmp 16) (.tmp 21) rfl (base := w.heap.size) rfl Hm.out ((Ho.out.grow Hb1.out).grow ((Below.refl _ _).alloc (Nat.le_refl _) _)) rfl (by simp) (piece_new Ho1.out Hb.out.size _) (piece_new Ho1.out (Nat.le_refl _) _) (by omega) (by have := Hb.out.size; have := Hb1.out.size; simp; omega) ?_
               intro A2 c2 w2 ho2 hp2 hb2
               have Ht2 := Lib.hid (topV_mk Ho.out hp2)
               have Ho2 := Lib.hid ho2
               have Hb2 := Lib.hid hb2
               clear ho2 hp2 hb2))
        all_goals
          go_roundw
          case rel =>
            have hx := Hr.out.cut (k := n) (cap := c) (by have := Hn.out; omega)
            simp only [hcs, if_true, if_false] at hx
            have ho := Ho2.out
            have ht := Ht2.out
            have e : rest = rest.take n := by rw [List.take_of_length_le (by have := Hn.out; omega)]
            rw [e] at ho ht
            have := cutRelT_step (k := n) (cx := c - n) Hn.out Hm.out h0 hs (by omega) Hcut.out hx Hb.out (below_chain Hb.out.size Hb1.out Hb2.out) ho ht (by omega) hnl hmn
            simpa [hcs] using this
          case measure => simp [lenV]; omega
    · go_wp2
      go_ret
      obtain rfl : n = 0 := by omega
      have e : rest = [] := List.eq_nil_of_length_eq_zero Hn.out
      have hcut := Hcut.out
      rw [e, cutL_nil, List.append_nil] at hcut
      refine ⟨Ap, cp, vs, ?_, hcut ▸ Ho.out, hcut ▸ Ht.out, Hb.out⟩
      show Ending.returned (.slice Ap m cp) = _
      rw [← hcut, Hm.out]

end Go.Proofs.Ytgfmdjagggnfbaa.S9
