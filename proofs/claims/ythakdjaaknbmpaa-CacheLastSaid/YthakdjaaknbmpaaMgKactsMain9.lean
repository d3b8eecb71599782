/-
  Contracts of the reference's device: on, See, Read, Raise, Wear, Limit. A region that draws its order, walked in one order: S says what stays in every world that it may pass through.
-/
import Derived.Test.YthakdjaaknbmpaaMgKactsMain8
import Derived.Test.YthakdjaaknbmpaaMgKactsMain6
namespace Go.Proofs.Ythakdjaaknbmpaa.S13
open Cf
open Go.RowKit
set_option linter.unusedVariables false
set_option linter.unusedSimpArgs false

/-- What a call of the reference's leaves: its rows where they were, or new. -/
def Od (base R : Nat) (w : World) (F : Nat → Prop) (st' : Dv) (w' : World) : Prop :=
  ∃ Ak Aa Aw, Rv w' base R Ak Aa Aw (raw st') ∧ (∀ k, RV R Ak Aa Aw k → F k ∨ w.heap.size ≤ k) ∧ Ch F w w'
section
variable {base R : Nat} {Ak Aa Aw : Option Addr} {st : Dv} {w : World} {i : Nat}
theorem refOn_any (h : Rv w base R Ak Aa Aw (raw st)) (hk : Ok st i) :
    Calls Try.prog 46 #[.pointer (some ⟨R, 0, none⟩)] w fun e w' => e = .returned (.bool (isOn st)) ∧ Rv w' base R Ak Aa Aw (raw (tick st)) ∧ Ch (RV R Ak Aa Aw) w w' := by
  obtain ⟨ck, ca, cw, l1, l2, l3, c0, c1, c2, c3, c4⟩ := h.cells
  have hf := h.frozen 4
  have H := Lib.hid h
  clear h c0 c1 c2 c3 l1 l2 l3
  have k0 := hk.k0
  have k1 := hk.k1
  by_cases h1 : st.calls > 0
  · have HOn := Lib.hid (show isOn st = true from decide_eq_true (by omega))
    have HT := Lib.hid (show raw (tick st) = { raw st with calls := st.calls - 1 } by unfold tick; rw [if_pos h1]; rfl)
    have hc : w.cell? ⟨R, 4, none⟩ = some (.int .i64 st.calls) := c4
    have hw : IntKind.i64.wrap (st.calls - 1) = st.calls - 1 := by rw [IntKind.wrap_i64]; omega
    clear c4 hk
    go_enter Try.func46, Try.ntmps46
    go_wp2
    go_ret
    rw [HOn.out, HT.out]
    exact ⟨rfl, H.out.setCalls _, Ch.setCell (Ch.refl _ _) (p := ⟨R, 4, none⟩) (.inl (.inl rfl)) _⟩
  · have hc : w.cell? ⟨R, 4, none⟩ = some (.int .i64 st.calls) := c4
    by_cases h2 : st.calls < 0
    · have HOn := Lib.hid (show isOn st = true from decide_eq_true (by omega))
      have HT := Lib.hid (show tick st = st by unfold tick; rw [if_neg (by omega)])
      clear c4 hk
      go_enter Try.func46, Try.ntmps46
      go_wp2
      go_ret
      rw [HOn.out, HT.out]
      exact ⟨by simp, H.out, Ch.refl _ _⟩
    · have HOn := Lib.hid (show isOn st = false from decide_eq_false (by omega))
      have HT := Lib.hid (show tick st = st by unfold tick; rw [if_neg (by omega)])
      clear c4 hk
      go_enter Try.func46, Try.ntmps46
      go_wp2
      go_ret
      rw [HOn.out, HT.out]
      exact ⟨by simp, H.out, Ch.refl _ _⟩
set_option maxRecDepth 20000 in
set_option maxHeartbeats 1000000 in
theorem refSee_any (h : Rv w base R Ak Aa Aw (raw st)) (n : Nat) (hn : n < st.kept.length) (hp : st.pend.length ≤ 100000) (hn2 : n ≤ 100000) :
    Calls Try.prog 56 #[.pointer (some ⟨R, 0, none⟩), .int .i64 (n : Int)] w fun e w' => e = .returned (sv (see st n)) ∧ w' = w := by
  obtain ⟨ck, ca, cw, l1, l2, l3, c0, c1, c2, c3, c4⟩ := h.cells
  obtain ⟨gk, rfl, hb, hlt, hne, hcell, _⟩ := h.keptAt n hn
  have H := Lib.hid h
  obtain ⟨s, hs⟩ : ∃ s, s = st.kept[n] := ⟨_, rfl⟩
  have hcell0 : w.cell? ⟨gk, n, none⟩ = some (.string ⟨s.toArray⟩) := by rw [hs]; exact hcell
  have HSee := Lib.hid (show see st n = latest s st.pend n by unfold see; rw [List.getD_eq_getElem?_getD, List.getElem?_eq_getElem hn, hs]; rfl)
  obtain ⟨m, hm⟩ : ∃ m, m = st.pend.length := ⟨_, rfl⟩
  have HM := Lib.hid hm
  have e1 : (raw st).at_.length = m := by rw [hm]; simp [raw]
  have e2 : (raw st).what.length = m := by rw [hm]; simp [raw]
  rw [e1] at c1 l2
  rw [e2] at c2 l3
  have hkl : (n : Int) < ((raw st).kept.length : Int) := by show (n : Int) < (st.kept.length : Int); omega
  clear hcell
  clear h hs c3 c4 hm e1 e2
  clear hn
  go_enter Try.func56, Try.ntmps56
  go_wp2
  go_loopw [5, 6] (fun v5 v6 wr => ∃ (k : Nat) (t : List UInt8), v5 = .string ⟨t.toArray⟩ ∧ v6 = .int .i64 (k : Int) ∧ k ≤ m ∧ Hid (latest t (st.pend.drop k) n = latest s st.pend n) ∧ wr = w) (fun _ v6 _ => m - (intOf v6).toNat)
  case atStart => exact ⟨0, s, rfl, rfl, Nat.zero_le _, rfl, rfl⟩
  case round =>
    obtain ⟨k, t, rfl, rfl, hk, HL, rfl⟩ := hrel
    by_cases hlt2 : k < m
    · have bk : (k : Int) < (m : Int) := by omega
      have hkp : k < st.pend.length := by have := HM.out; omega
      obtain ⟨ga, rfl, hga, hca0⟩ := H.out.atAt k (by simp [raw]; exact hkp)
      obtain ⟨gw, rfl, hgw, hcw0⟩ := H.out.whatAt k (by simp [raw]; exact hkp)
      obtain ⟨pa, hpa⟩ : ∃ p, p = st.pend[k].1 := ⟨_, rfl⟩
      obtain ⟨pw, hpw⟩ : ∃ p, p = st.pend[k].2 := ⟨_, rfl⟩
      have hca : wr.cell? ⟨ga, k, none⟩ = some (.int .i64 (pa : Int)) := by rw [hca0, hpa]; simp [raw, iv]
      have hcw : wr.cell? ⟨gw, k, none⟩ = some (.string ⟨pw.toArray⟩) := by rw [hcw0, hpw]; simp [raw, sv]
      have HL2 := Lib.hid (show latest (if pa = n then pw else t) (st.pend.drop (k + 1)) n = latest s st.pend n by
        have h1 := HL.out
        rw [List.drop_eq_getElem_cons hkp] at h1
        rw [hpa, hpw]
        exact h1)
      clear hca0 hcw0
      clear hpa hpw HL
      by_cases hq : pa = n
      · subst hq
        have bq : ((pa : Int) == (pa : Int)) = true := by simp
        rw [if_pos rfl] at HL2
        go_wp2
        go_roundw
        case rel => exact ⟨k + 1, pw, rfl, by simp, by omega, HL2.out, trivial⟩
        case measure => simp [intOf]; omega
      · have bq : ((pa : Int) == (n : Int)) = false := beq_eq_false_iff_ne.2 (by omega)
        rw [if_neg hq] at HL2
        go_wp2
        go_roundw
        case rel => exact ⟨k + 1, t, rfl, by simp, by omega, HL2.out, trivial⟩
        case measure => simp [intOf]; omega
    · have bk : ¬ (k : Int) < (m : Int) := by omega
      obtain rfl : k = m := by omega
      have HT := Lib.hid (show t = see st n by
        have := HL.out
        rw [HM.out, List.drop_length] at this
        rw [HSee.out, ← this]
        rfl)
      go_wp2
      go_ret
      rw [← HT.out]
      exact ⟨rfl, rfl⟩
theorem od_same {w' : World} (h : Rv w' base R Ak Aa Aw (raw st)) (hc : Ch (RV R Ak Aa Aw) w w') : Od base R w (RV R Ak Aa Aw) st w' := ⟨Ak, Aa, Aw, h, fun k hk => .inl hk, hc⟩
theorem tick_off (h : isOn st = false) : tick st = st := by
  have h1 := of_decide_eq_false h
  unfold tick
  rw [if_neg (by omega)]
theorem raw_count (st : Dv) : (raw st).count = st.count := rfl
theorem refLimit_any (h : Rv w base R Ak Aa Aw (raw st)) (n : Int) :
    Calls Try.prog 21 #[.pointer (some ⟨R, 0, none⟩), .int .i64 n] w fun e w' => e = .returned (.tuple #[]) ∧ Od base R w (RV R Ak Aa Aw) (dvLimit st n) w' := by
  have H := Lib.hid h
  clear h
  have hc4 : w.cell? ⟨R, 4, none⟩ = some (.int .i64 st.calls) := by
    obtain ⟨ck, ca, cw, l1, l2, l3, q0, q1, q2, q3, q4⟩ := H.out.cells
    exact q4
  have hf4 := H.out.frozen 4
  by_cases h1 : n < 0
  · have HE := Lib.hid (show dvLimit st n = { st with calls := -1 } by unfold dvLimit; rw [if_pos h1])
    go_enter Try.func21, Try.ntmps21
    go_wp2
    refine bodyPost_end (results_none rfl _ _ _) rfl ⟨rfl, ?_⟩
    rw [HE.out]
    exact od_same (H.out.setCalls _) (Ch.setCell (Ch.refl _ _) (p := ⟨R, 4, none⟩) (.inl (.inl rfl)) _)
  · have HE := Lib.hid (show dvLimit st n = { st with calls := n } by unfold dvLimit; rw [if_neg h1])
    go_enter Try.func21, Try.ntmps21
    go_wp2
    refine bodyPost_end (results_none rfl _ _ _) rfl ⟨rfl, ?_⟩
    rw [HE.out]
    exact od_same (H.out.setCalls _) (Ch.setCell (Ch.refl _ _) (p := ⟨R, 4, none⟩) (.inl (.inl rfl)) _)
theorem refRead_any (h : Rv w base R Ak Aa Aw (raw st)) (hk : Ok st i) (hi : i ≤ 1000) (hl : st.kept.length ≤ 70000) (n : Int) :
    Calls Try.prog 41 #[.pointer (some ⟨R, 0, none⟩), .int .i64 n] w fun e w' => e = .returned (.tuple #[sv (dvRead st n).1, .int .i64 (dvRead st n).2.1]) ∧ Od base R w (RV R Ak Aa Aw) (dvRead st n).2.2 w' := by
  have H := Lib.hid h
  have HK := Lib.hid hk
  obtain ⟨ck, ca, cw, l1, l2, l3, q0, q1, q2, q3, q4⟩ := h.cells
  have hc0 : w.cell? ⟨R, 0, none⟩ = some (.slice Ak st.kept.length ck) := q0
  clear h hk l1 l2 l3 q0 q1 q2 q3 q4
  by_cases h1 : n < 0
  · have HE := Lib.hid (show dvRead st n = ([], 2, st) by unfold dvRead; rw [if_pos (by unfold inR; omega)])
    go_enter Try.func41, Try.ntmps41
    go_wp2
    go_ret2
    rw [HE.out]
    exact ⟨rfl, od_same H.out (Ch.refl _ _)⟩
  by_cases h2 : n ≥ (st.kept.length : Int)
  · have HE := Lib.hid (show dvRead st n = ([], 2, st) by unfold dvRead; rw [if_pos (by unfold inR; omega)])
    go_enter Try.func41, Try.ntmps41
    go_wp2
    go_ret2
    rw [HE.out]
    exact ⟨rfl, od_same H.out (Ch.refl _ _)⟩
  obtain ⟨m, rfl⟩ : ∃ m : Nat, n = (m : Int) := ⟨n.toNat, by omega⟩
  have hin : ¬ ¬ inR st (m : Int) := by unfold inR; omega
  go_enter Try.func41, Try.ntmps41
  go_wp2_with fail
  refine (refOn_any H.out HK.out).mono ?_
  rintro e w1 ⟨rfl, hz, hc⟩
  have HZ := Lib.hid hz
  have HC := Lib.hid hc
  clear hz hc
  cases hon : isOn st with
  | false =>
    have HE := Lib.hid (show dvRead st (m : Int) = ([], 10, st) by unfold dvRead; rw [if_neg hin, hon]; rfl)
    have HT := Lib.hid (tick_off hon)
    clear hon
    go_wp2
    go_ret2
    rw [HE.out]
    exact ⟨rfl, od_same (HT.out ▸ HZ.out) HC.out⟩
  | true =>
    have HE := Lib.hid (show dvRead st (m : Int) = (see st m, 0, tick st) by unfold dvRead; rw [if_neg hin, hon]; rfl)
    have HS := Lib.hid (show see (tick st) m = see st m by unfold see; rw [tick_kept, tick_pend])
    clear hon
    go_wp2_with fail
    refine (refSee_any HZ.out m (by rw [tick_kept]; omega) (by rw [tick_pend]; have := HK.out.few; omega) (by omega)).mono ?_
    rintro e w2 ⟨rfl, rfl⟩
    rw [HS.out]
    go_wp2
    go_ret2
    rw [HE.out]
    exact ⟨rfl, od_same HZ.out HC.out⟩
end
end Go.Proofs.Ythakdjaaknbmpaa.S13
namespace Go.Proofs.Ythakdjaaknbmpaa
open Go.RowKit
set_option linter.unusedVariables false

section
variable {P : Program} {ops : Array Oper} {Q : Exit → Act → World → Prop} {S : World → Prop}
def RestS (P : Program) (ops : Array Oper) (Q : Exit → Act → World → Prop) (S : World → Prop) (fuel : Nat) (listed : Array Bool) (a : Act) (w : World) : Prop :=
  wpAnyH P .any ops (NoPanic Q) S fuel listed a w
theorem restS_begin (S : World → Prop) {id : Nat} {a : Act} {w : World} (hm : P.follows .mixedOrders = true) (h : RestS P ops Q S ops.size (Array.replicate ops.size false) a w.drew) : (Code.region id ops true).wp P Q a w :=
  wp_region_noPanic (wp_region_any hm (wpAny_of_held _ _ _ _ h))
theorem restS_done {fuel : Nat} {listed : Array Bool} {a : Act} {w : World} (hr : Region.ready .any ops listed = []) (h : Q .normal a w) : RestS P ops Q S fuel listed a w :=
  wpAnyH_done hr (NoPanic.normal h) _
theorem restS_take {i : Nat} {d : Option Tmp} {op : Op} {ty : TypeId} {pos : String} {after : Array Edge} {guard : Option (Nat × Bool)} {v : Value} {fuel : Nat} {listed : Array Bool} {a : Act} {w : World} (hSw : S w) (hi : ops[i]? = some ⟨d, op, ty, pos, after, guard⟩)
    (hs : Region.noSelect ops = true) (hf : Region.free .any ops listed i = true) (hr : (Region.ready .any ops listed).contains i = true) (hwn : Region.wanted ⟨d, op, ty, pos, after, guard⟩ (yielded ops a.tmps) = true)
    (hy : ∀ w', S w' → (execOp a.eval ⟨d, op, ty, pos, after, guard⟩).run P w' = .ok (.value v) w') (h : RestS P ops Q S fuel (listed.setIfInBounds i true) (a.put d v) w) : RestS P ops Q S (fuel + 1) listed a w :=
  wpAnyH_take hi hs hf hr (fun _ _ _ h => h) (.inl ⟨hwn, hy⟩) hSw h
theorem restS_lone {i : Nat} {d : Option Tmp} {op : Op} {ty : TypeId} {pos : String} {after : Array Edge} {guard : Option (Nat × Bool)} {fuel : Nat} {listed : Array Bool} {a : Act} {w : World} (hi : ops[i]? = some ⟨d, op, ty, pos, after, guard⟩) (hr : Region.ready .any ops listed = [i]) (hwn : Region.wanted ⟨d, op, ty, pos, after, guard⟩ (yielded ops a.tmps) = true)
    (h : ∀ K : Act → World → Prop, Shut (∀ a' w', S w' → RestS P ops Q S fuel (listed.setIfInBounds i true) a' w' → K a' w') → Oper.wp P ⟨d, op, ty, pos, after, guard⟩ a w K (NoPanic Q)) : RestS P ops Q S (fuel + 1) listed a w := by
  refine wpAnyH_all hr (by simp) fun j hj => ?_
  simp only [List.mem_singleton] at hj
  subst hj
  unfold wpOp
  simp only [hi, hwn, if_true]
  refine .inl (h _ ?_)
  intro a' w' hg hrest
  exact ⟨hg, hrest⟩
end
end Go.Proofs.Ythakdjaaknbmpaa
