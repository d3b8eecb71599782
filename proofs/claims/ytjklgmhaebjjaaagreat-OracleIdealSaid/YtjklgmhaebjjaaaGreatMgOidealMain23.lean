/-
  The program's next: the text that follows. A row of entries that a call owns; what free needs besides.
-/
import Derived.Test.YtjklgmhaebjjaaaGreatMgOidealMain22
import Derived.Test.YtjklgmhaebjjaaaGreatMgOidealMain12
namespace Go.Proofs.YtjklgmhaebjjaaaGreat.S11
open Go.RowKit
set_option linter.unusedVariables false
set_option linter.unusedSimpArgs false

theorem mid_stop (l : List UInt8) (m : Nat) (h : cr l (l.length - m) = 0) (hm : m ≤ l.length) : mid l m = nxt l := by
  have hz : ∀ j, cr l (l.length - m + j) = 0 := by
    intro j
    induction j with
    | zero => exact h
    | succ j ih =>
      show ((gz l (l.length - 1 - (l.length - m + j))).toNat + cr l (l.length - m + j)) / 256 = 0
      rw [ih]
      have := (gz l (l.length - 1 - (l.length - m + j))).toNat_lt
      omega
  unfold mid nxt
  apply List.map_congr_left
  intro p hp
  have hp' : p < l.length := by simpa using hp
  by_cases c : m ≤ p
  · rw [if_pos c]
  · rw [if_neg c]
    unfold dg
    have := hz (m - 1 - p)
    rw [show l.length - m + (m - 1 - p) = l.length - 1 - p by omega] at this
    rw [this]
    have h2 := (gz l p).toNat_lt
    apply UInt8.toNat_inj.1
    rw [UInt8.toNat_ofNat']
    omega
theorem chF_grown {w w' : World} (h : Ch (fun _ => False) w w') : Grown w w' := ⟨h.os, h.tape, h.output, h.size, fun k hk => h.block k hk id⟩
set_option maxHeartbeats 4000000 in
theorem next_any (l : List UInt8) (w : World) (h : l.length ≤ 1000) : Calls Tryz.prog 88 #[.string ⟨l.toArray⟩] w fun e w' => e = .returned (.string ⟨(nxt l).toArray⟩) ∧ Grown w w' := by
  obtain ⟨cb, w6, hcvb, hcb, hbq, hg6⟩ := conv_bq w l
  obtain ⟨gb, hgb⟩ : ∃ gb, gb = w.heap.size := ⟨_, rfl⟩
  rw [← hgb] at hcvb hbq
  have HGB := Lib.hid hgb
  obtain ⟨L, hL⟩ : ∃ L, L = l.length := ⟨_, rfl⟩
  rw [← hL] at hcvb hcb h
  have HL := Lib.hid hL
  have BQ := Lib.hid hbq
  have C6 := Lib.hid (Ch.grown (F := fun _ => False) hg6)
  clear hbq hg6 hgb hL
  go_enter Tryz.func88, Tryz.ntmps88
  go_wp2
  clear hcvb
  go_loopw [4] (fun v4 wr => ∃ (k : Nat) (z : Int), v4 = .int .i64 z ∧ Hid (z = (k : Int) - 1) ∧ k ≤ L ∧ Hid (cr l (L - k) = 1) ∧ Hid (Bq wr gb (mid l k)) ∧ Hid (Ch (fun _ => False) w wr)) (fun v4 _ => (intOf v4 + 1).toNat)
  case atStart => exact ⟨L, (L : Int) - 1, rfl, rfl, Nat.le_refl _, (by show cr l (L - L) = 1; rw [Nat.sub_self]; rfl), (by show Bq _ _ _; rw [HL.out, mid_all]; exact BQ.out), C6.out⟩
  case round =>
    clear BQ C6
    obtain ⟨k, z, rfl, Hz, hk, Hc, HBQ, HC⟩ := hrel
    by_cases hk0 : k = 0
    · subst hk0
      obtain rfl : z = -1 := by have := Hz.out; omega
      have hcv := conv HBQ.out.rd cb
      rw [mid_len, ← HL.out, mid_zero] at hcv
      have GR := Lib.hid (chF_grown HC.out)
      obtain ⟨Y, hY⟩ : ∃ Y, Y = nxt l := ⟨_, rfl⟩
      rw [← hY] at hcv
      have HY := Lib.hid hY
      clear hY HBQ HC
      go_wp2
      go_ret
      exact ⟨by rw [← HY.out]; rfl, GR.out⟩
    · obtain ⟨m, rfl⟩ : ∃ m, k = m + 1 := ⟨k - 1, by omega⟩
      obtain rfl : z = (m : Int) := by have := Hz.out; omega
      have hmL : m < l.length := by rw [← HL.out]; omega
      obtain ⟨x, hx⟩ : ∃ x, x = gz l m := ⟨_, rfl⟩
      have hcx : wr.cell? ⟨gb, m, none⟩ = some (.int .u8 (x.toNat : Int)) := by
        rw [HBQ.out.2.1 m (by rw [mid_len]; exact hmL), gz_mid _ _ _ hmL, if_neg (by omega), hx]
      have hfx := HBQ.out.2.2 m (by rw [mid_len]; exact hmL)
      have bm : (0 : Int) ≤ (m : Int) := by omega
      have bmL : (m : Int) < (L : Int) := by omega
      have bxx := x.toNat_lt
      obtain ⟨y, hy⟩ : ∃ y, y = dg l m := ⟨_, rfl⟩
      have HD := Lib.hid (show (x.toNat + 1) % 256 = y.toNat by
        rw [hy]
        unfold dg
        rw [UInt8.toNat_ofNat', ← hx]
        have := Hc.out
        rw [HL.out] at this
        rw [show l.length - 1 - m = l.length - (m + 1) by omega, this]
        omega)
      have HCr := Lib.hid (show (x.toNat + 1) / 256 = cr l (L - m) by
        rw [show L - m = (L - (m + 1)) + 1 by omega]
        show _ = ((gz l (l.length - 1 - (L - (m + 1)))).toNat + cr l (L - (m + 1))) / 256
        rw [Hc.out, ← HL.out, show L - 1 - (L - (m + 1)) = m by omega, ← hx])
      have HB2 := Lib.hid (show Bq (wr.setCell ⟨gb, m, none⟩ (.int .u8 (y.toNat : Int))) gb (mid l m) by
        refine HBQ.out.put m y (mid l m) (by rw [mid_len, mid_len]) (by rw [gz_mid _ _ _ hmL, if_pos (Nat.le_refl _), hy]) (fun j hj hne => ?_) (by rw [mid_len]; exact hmL)
        rw [mid_len] at hj
        rw [gz_mid _ _ _ hj, gz_mid _ _ _ hj]
        by_cases c1 : m ≤ j
        · rw [if_pos c1, if_pos (by omega)]
        · rw [if_neg c1, if_neg (by omega)])
      have HC2 := Lib.hid (Ch.setCell HC.out (p := ⟨gb, m, none⟩) (.inr (Nat.le_of_eq HGB.out.symm)) (.int .u8 (y.toNat : Int)))
      have hyc : (wr.setCell ⟨gb, m, none⟩ (.int .u8 (y.toNat : Int))).cell? ⟨gb, m, none⟩ = some (.int .u8 (y.toNat : Int)) := by
        have := HB2.out.2.1 m (by rw [mid_len]; exact hmL)
        rw [this, gz_mid _ _ _ hmL, if_pos (Nat.le_refl _), hy]
      have hwr : IntKind.u8.wrap ((x.toNat : Int) + 1) = (y.toNat : Int) := by
        rw [← HD.out]
        simp [IntKind.wrap, IntKind.bits, IntKind.signed]
        done
      have HYd := Lib.hid hy
      clear hx hk0 HBQ HC hy
      cases hb : ((y.toNat : Int) != 0) with
      | true =>
        have hy0 : ¬ (y.toNat : Int) = 0 := by simpa using hb
        have hcv := conv HB2.out.rd cb
        rw [mid_len, ← HL.out, mid_stop l m (by rw [← HL.out, ← HCr.out]; have := HD.out; omega) (by omega)] at hcv
        have GR := Lib.hid (chF_grown HC2.out)
        obtain ⟨Y, hY⟩ : ∃ Y, Y = nxt l := ⟨_, rfl⟩
        rw [← hY] at hcv
        have HY := Lib.hid hY
        clear hY hyc
        have hyc : (wr.setCell ⟨gb, m, none⟩ (.int .u8 (y.toNat : Int))).cell? ⟨gb, m, none⟩ = some (.int .u8 (y.toNat : Int)) := by
          have := HB2.out.2.1 m (by rw [mid_len]; exact hmL)
          rw [this, gz_mid _ _ _ hmL, if_pos (Nat.le_refl _), HYd.out]
        go_wp2
        go_ret
        exact ⟨by rw [← HY.out]; rfl, GR.out⟩
      | false =>
        have hy0 : (y.toNat : Int) = 0 := by simpa using hb
        have HC1 := Lib.hid (show cr l (L - m) = 1 by rw [← HCr.out]; have := HD.out; omega)
        clear hy0
        go_wp2
        exact ⟨⟨m, _, rfl, rfl, by omega, HC1.out, HB2.out, HC2.out⟩, by simp [intOf]⟩
end Go.Proofs.YtjklgmhaebjjaaaGreat.S11
namespace Go.Proofs.YtjklgmhaebjjaaaGreat.S11
open Go.RowKit
set_option linter.unusedVariables false
set_option linter.unusedSimpArgs false

def ev (n u : List UInt8) : List Value := [sv n, sv u]
def evs (n : List UInt8) (us : List (List UInt8)) : List Value := us.flatMap (ev n)
theorem evs_len (n : List UInt8) (us : List (List UInt8)) : (evs n us).length = us.length * 2 := by
  induction us with
  | nil => rfl
  | cons t us ih => simp only [evs, List.flatMap_cons, List.length_append, List.length_cons] at *; rw [ih]; simp [ev]; omega
theorem evs_app (n : List UInt8) (a b : List (List UInt8)) : evs n (a ++ b) = evs n a ++ evs n b := by simp [evs]
theorem evs_one (n : List UInt8) (us : List (List UInt8)) : ∀ u ∈ evs n us, u.oneCell' = true := by
  intro u hu
  simp only [evs, List.mem_flatMap] at hu
  obtain ⟨t, _, ht⟩ := hu
  simp only [ev, List.mem_cons, List.not_mem_nil, or_false] at ht
  rcases ht with rfl | rfl <;> rfl
theorem evs_get (n : List UInt8) (us : List (List UInt8)) (i : Nat) (h : i < us.length) (j : Nat) (hj : j < 2) : (evs n us)[2 * i + j]? = (ev n us[i])[j]? := by
  induction us generalizing i with
  | nil => simp at h
  | cons t us ih =>
    cases i with
    | zero =>
      simp only [evs, List.flatMap_cons, Nat.mul_zero, Nat.zero_add, List.getElem_cons_zero]
      rw [List.getElem?_append_left (by simp [ev]; omega)]
    | succ i =>
      have := ih i (by simpa using h)
      simp only [evs, List.flatMap_cons, List.getElem_cons_succ] at this ⊢
      rw [List.getElem?_append_right (by simp [ev]; omega), show 2 * (i + 1) + j - (ev n t).length = 2 * i + j by simp [ev]; omega]
      exact this
theorem infoE : (Tryz.prog.info? 135).map (fun i => (i.zero, i.size, i.bytes)) = some (some (.agg #[.string ByteArray.empty, .string ByteArray.empty]), 2, 32) := by kernel_rfl
def OwnE (w : World) (base : Nat) (A : Option Addr) (c : Nat) (n : List UInt8) (us : List (List UInt8)) : Prop := w.ownsRow base 135 2 (.slice A us.length c) us.length (evs n us)
section
variable {w w' : World} {base : Nat} {A : Option Addr} {c : Nat} {n : List UInt8} {us : List (List UInt8)}
theorem OwnE.nil (w : World) (base : Nat) (n : List UInt8) : OwnE w base none 0 n [] := World.ownsRow_nil w base 135 2
theorem OwnE.form (h : OwnE w base A c n us) : (A = none ∧ us = [] ∧ c = 0) ∨ ∃ g cur, A = some ⟨g, 0, none⟩ ∧ base ≤ g ∧ w.heap[g]? = some (.cells cur 135 (0, 0)) ∧ us.length ≤ c ∧ cur.toList.take (us.length * 2) = evs n us := by
  rcases h.2 with ⟨h1, h2⟩ | ⟨g, cap, cur, h1, h2, h3, h4, h5, h6, h7⟩
  · simp only [Value.slice.injEq] at h1
    exact .inl ⟨h1.1, List.eq_nil_of_length_eq_zero h2, h1.2.2⟩
  · simp only [Value.slice.injEq] at h1
    obtain ⟨rfl, _, rfl⟩ := h1
    exact .inr ⟨g, cur, rfl, h2, h3, h4, h7⟩
theorem OwnE.lt (h : OwnE w base A c n us) : ∀ x, A = some x → base ≤ x.block ∧ x.block < w.heap.size := by
  rintro x rfl
  rcases h.form with ⟨e, _⟩ | ⟨g, cur, e, hb, hh, _⟩
  · cases e
  · simp only [Option.some.injEq] at e
    subst e
    exact ⟨hb, lt_of_heap hh⟩
theorem OwnE.keep (h : OwnE w base A c n us) (hk : ∀ x, A = some x → w'.heap[x.block]? = w.heap[x.block]?) : OwnE w' base A c n us := by
  refine ⟨h.1, ?_⟩
  rcases h.2 with h1 | ⟨g, cap, cur, h1, h2, h3, r⟩
  · exact .inl h1
  · refine .inr ⟨g, cap, cur, h1, h2, ?_, r⟩
    simp only [Value.slice.injEq] at h1
    exact (hk _ h1.1).trans h3
theorem OwnE.grow (h : OwnE w base A c n us) (hg : Grown w w') : OwnE w' base A c n us := h.keep fun x hx => hg.block x.block (h.lt x hx).2
theorem OwnE.off (h : OwnE w base A c n us) {g : Nat} {cs : Array Value} {t : TypeId} (hg : w.heap[g]? = some (.cells cs t (0, 0))) (ht : t ≠ 135) : ∀ x, A = some x → x.block ≠ g := by
  rintro x hx rfl
  rcases h.form with ⟨e, _⟩ | ⟨g, cur, e, hb, hh, _⟩
  · rw [e] at hx; cases hx
  · rw [e] at hx
    simp only [Option.some.injEq] at hx
    subst hx
    rw [hh] at hg
    injection hg with hg
    injection hg with _ h2
    exact ht h2.symm
theorem OwnE.at_ (h : OwnE w base A c n us) (i : Nat) (hi : i < us.length) : ∃ g, A = some ⟨g, 0, none⟩ ∧ g < w.heap.size ∧ w.cell? ⟨g, i * 2, none⟩ = some (.string ⟨n.toArray⟩) ∧ w.cell? ⟨g, i * 2 + 1, none⟩ = some (.string ⟨us[i].toArray⟩) := by
  rcases h.form with ⟨_, rfl, _⟩ | ⟨g, cur, rfl, hb, hh, hc, ht⟩
  · simp at hi
  · have hg : ∀ j, j < 2 → w.cell? ⟨g, i * 2 + j, none⟩ = (ev n us[i])[j]? := fun j hj => by
      rw [Nat.mul_comm i 2, cell_of_row w g (2 * i + j) cur _ (0, 0) hh, ← evs_get n us i hi j hj, ← ht, List.getElem?_take, if_pos (by omega)]
      simp
    exact ⟨g, rfl, lt_of_heap hh, hg 0 (by omega), hg 1 (by omega)⟩
end
theorem wpList_appE {w : World} {base : Nat} {A : Option Addr} {c m c2 g2 : Nat} {n : List UInt8} {us : List (List UInt8)} {u : List UInt8} {ops : Array Oper} {rest : List Oper} {o : Oper} {a : Act} {Q : Exit → Act → World → Prop} (hgd : o.guard = none) (s x : Operand) (ho : o.op = .call { callee := .builtin .append, args := #[s, x], argTypes := #[150, 150] })
    (hn : us.length = m) (hs : a.eval s = .slice A m c) (h : OwnE w base A c n us) (hx : a.eval x = .slice (some ⟨g2, 0, none⟩) 1 c2) (h2 : w.heap[g2]? = some (.cells #[.string ⟨n.toArray⟩, .string ⟨u.toArray⟩] 135 (0, 0))) (hl : m ≤ 100000) (hbase : base ≤ w.heap.size)
    (hk : ∀ A' c' w', OwnE w' base A' c' n (us ++ [u]) → w.grownBy w' (Value.slice A m c).ownBlock → wpList Tryz.prog ops Q rest (a.put o.dst (.slice A' (m + 1) c')) w') : wpList Tryz.prog ops Q (o :: rest) a w := by
  subst hn
  refine wpList_plain hgd fun K hK => ?_
  obtain ⟨i0, hi, hz0, hz1, hz2⟩ := info_parts infoE
  have hcells : ∀ j v, (ev n u)[j]? = some v → w.cell? ((⟨g2, 0, none⟩ : Addr).add j) = some v := by
    intro j v hu
    have hj : j < 2 := by have := (List.getElem?_eq_some_iff.1 hu).1; simpa [ev] using this
    have e : (⟨g2, 0, none⟩ : Addr).add j = ⟨g2, j, none⟩ := by by_cases h0 : j = 0 <;> simp [Addr.add, h0]
    rw [e, cell_of_row w g2 j _ _ (0, 0) h2, ← hu]
    match j, hj with
    | 0, _ => rfl
    | 1, _ => rfl
  obtain ⟨A', c', w', hrun, hown', hg, hm⟩ := app_moved (P := Tryz.prog) (ty := o.type) Tryz.underlying150 hi hz0 hz1 hz2 rfl (by omega) h ⟨g2, 0, none⟩ 1 c2 (ev n u) (by omega) (by simp [ev]) hcells (fun v hv => evs_one n [u] v (by simpa [evs] using hv)) (by unfold maxLen; omega) (by omega) hbase
  unfold Oper.wp execOp
  simp only [ho, resolve, invoke, builtin, Sem.run_bind, Sem.run_pure, Result.andThen_ok, List.map_toArray, List.map_cons, List.map_nil, hs, hx, hrun]
  refine hK _ _ (hk A' c' w' ?_ hg)
  unfold OwnE
  rw [evs_app, List.length_append]
  have e : evs n [u] = ev n u := by simp [evs]
  rw [e]
  exact hown'
theorem zvP (W : World) : (zeroValue 147).run Tryz.prog W = .ok (kv ([], [])) W := by kernel_rfl
theorem zvA (W : World) : (zeroValue 132).run Tryz.prog W = .ok (av []) W := by kernel_rfl
theorem zvU (W : World) : (zeroValue 137).run Tryz.prog W = .ok (gv ()) W := by kernel_rfl
section
variable {w : World} {b : Nat} {f : MS} {fa : MA} {fg : MG}
/-- 'p, ok := s[e]'. -/
theorem lookP (h : Mp.Mp kv kv w b f) (n u : List UInt8) {p k : List UInt8} (hp : (f (n, u)).getD ([], []) = (p, k)) {ok : Bool} (ho : (f (n, u)).isSome = ok) :
    (Instr.lookup 91 (.map (some b)) (.agg #[.string ⟨n.toArray⟩, .string ⟨u.toArray⟩]) true).run Tryz.prog w = .ok (.tuple #[.agg #[.string ⟨p.toArray⟩, .string ⟨k.toArray⟩], .bool ok]) w := by
  have := Mp.run_look (e := 147) h keys_entry Tryz.underlying91 (zvP w) true (n, u)
  rw [ho] at this
  have e : ((f (n, u)).map kv).getD (kv ([], [])) = kv ((f (n, u)).getD ([], [])) := by cases f (n, u) <;> rfl
  rw [e, hp] at this
  exact this
theorem lookP1 (h : Mp.Mp kv kv w b f) (n u : List UInt8) {p k : List UInt8} (hp : f (n, u) = some (p, k)) :
    (Instr.lookup 91 (.map (some b)) (.agg #[.string ⟨n.toArray⟩, .string ⟨u.toArray⟩]) false).run Tryz.prog w = .ok (.agg #[.string ⟨p.toArray⟩, .string ⟨k.toArray⟩]) w := by
  have := Mp.run_look (e := 147) h keys_entry Tryz.underlying91 (zvP w) false (n, u)
  rw [hp] at this
  exact this
theorem lookA (h : Mp.Mp kv av w b fa) (n q : List UInt8) {y : List UInt8} (hp : (fa (n, q)).getD [] = y) {ok : Bool} (ho : (fa (n, q)).isSome = ok) :
    (Instr.lookup 88 (.map (some b)) (.agg #[.string ⟨n.toArray⟩, .string ⟨q.toArray⟩]) true).run Tryz.prog w = .ok (.tuple #[.agg #[.string ⟨y.toArray⟩], .bool ok]) w := by
  have := Mp.run_look (e := 132) h keys_entry Tryz.underlying88 (zvA w) true (n, q)
  rw [ho] at this
  have e : ((fa (n, q)).map av).getD (av []) = av ((fa (n, q)).getD []) := by cases fa (n, q) <;> rfl
  rw [e, hp] at this
  exact this
theorem lookG (h : Mp.Mp kv gv w b fg) (n y : List UInt8) {ok : Bool} (ho : (fg (n, y)).isSome = ok) :
    (Instr.lookup 89 (.map (some b)) (.agg #[.string ⟨n.toArray⟩, .string ⟨y.toArray⟩]) true).run Tryz.prog w = .ok (.tuple #[.agg #[], .bool ok]) w := by
  have := Mp.run_look (e := 137) h keys_entry Tryz.underlying89 (zvU w) true (n, y)
  rw [ho] at this
  have e : ((fg (n, y)).map gv).getD (gv ()) = .agg #[] := by cases fg (n, y) <;> rfl
  rw [e] at this
  exact this
end
end Go.Proofs.YtjklgmhaebjjaaaGreat.S11
