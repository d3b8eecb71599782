/-
  The program's free: the first text from here on that is not paired. The program's Function.
-/
import Derived.Test.YtjklgmhaebjjaaaGreatMgOidealMain23
import Derived.Maps.OwnOps
namespace Go.Proofs.YtjklgmhaebjjaaaGreat.S11
open Go.RowKit
set_option linter.unusedVariables false
set_option linter.unusedSimpArgs false

def lenV : Value → Nat
  | .slice _ n _ => n
  | _ => 0
/-- What free leaves: the text, the map with other places to go on searching. -/
def FreeR (w : World) (M : Nat) (ps : List T3) (c : Bool) (n y : List UInt8) (e : Ending) (w' : World) : Prop :=
  ∃ f', e = .returned (.agg #[.string ⟨n.toArray⟩, .string ⟨(adv (fun u => taken ps n u c) 255 y).toArray⟩]) ∧ Mp.Mp kv kv w' M f' ∧ Side ps c f' ∧ Ch (fun k => k = M) w w'
theorem wpList_lookP {w : World} {b : Nat} {f : MS} {ops : Array Oper} {rest : List Oper} {o : Oper} {a : Act} {Q : Exit → Act → World → Prop} (hgd : o.guard = none) (m x : Operand) (ho : o.op = Op.lookup 91 m x true) {n u : List UInt8}
    (hm : a.eval m = .map (some b)) (hx : a.eval x = .agg #[.string ⟨n.toArray⟩, .string ⟨u.toArray⟩]) (h : Mp.Mp kv kv w b f)
    (hk : ∀ p k ok, Hid ((f (n, u)).getD ([], []) = (p, k)) → Hid ((f (n, u)).isSome = ok) → wpList Tryz.prog ops Q rest (a.put o.dst (.tuple #[.agg #[.string ⟨p.toArray⟩, .string ⟨k.toArray⟩], .bool ok])) w) : wpList Tryz.prog ops Q (o :: rest) a w := by
  refine wpList_plain hgd fun K' hK' => ?_
  obtain ⟨p, k, hp⟩ : ∃ p k, (f (n, u)).getD ([], []) = (p, k) := ⟨_, _, rfl⟩
  have hrun := lookP h n u hp (ok := (f (n, u)).isSome) rfl
  unfold Oper.wp
  simp only [execOp, ho, hm, hx, Sem.run_bind, hrun, Result.andThen_ok, Sem.run_pure]
  exact hK' _ _ (hk p k _ hp rfl)
theorem row_cells {w : World} {g : Nat} {u v : Value} {t : TypeId} (h : w.heap[g]? = some (.cells #[u, v] t (0, 0))) : w.cell? ⟨g, 0, none⟩ = some u ∧ w.cell? ⟨g, 1, none⟩ = some v ∧ w.frozen? ⟨g, 0, none⟩ = false ∧ w.frozen? ⟨g, 1, none⟩ = false :=
  ⟨cell_of_row w g 0 _ _ _ h, cell_of_row w g 1 _ _ _ h, frozen_of_row w g 0 _ _ h, frozen_of_row w g 1 _ _ h⟩
theorem fldP (x y : ByteArray) (W : World) : (Instr.field 147 (.agg #[.string x, .string y]) 0).run Tryz.prog W = .ok (.string x) W := by kernel_rfl
section
variable {w : World} {M : Nat} {f : MS} {ps : List T3} {c : Bool}
set_option maxHeartbeats 4000000 in
set_option maxRecDepth 20000 in
theorem free_any (h : Mp.Mp kv kv w M f) (hs : Side ps c f) (hps : ps.length ≤ 200) (n y : List UInt8) (hy : 0 < y.length) (hyl : y.length ≤ 1000) :
    Calls Tryz.prog 85 #[.map (some M), .agg #[.string ⟨n.toArray⟩, .string ⟨y.toArray⟩]] w (FreeR w M ps c n y) := by
  have HM := Lib.hid h
  have HS := Lib.hid hs
  obtain ⟨P0, K0, hP0⟩ : ∃ P0 K0, (f (n, y)).getD ([], []) = (P0, K0) := ⟨_, _, rfl⟩
  obtain ⟨ok0, hok0⟩ : ∃ ok0, (f (n, y)).isSome = ok0 := ⟨_, rfl⟩
  have hlk : ∀ W : World, Mp.Mp kv kv W M f → (Instr.lookup 91 (.map (some M)) (.agg #[.string ⟨n.toArray⟩, .string ⟨y.toArray⟩]) true).run Tryz.prog W = .ok (.tuple #[.agg #[.string ⟨P0.toArray⟩, .string ⟨K0.toArray⟩], .bool ok0]) W := fun W hW => lookP hW n y hP0 hok0
  have HMl := h.lt
  have HG1 := Lib.hid (show Grown w ((w.alloc (.cells #[.string ⟨n.toArray⟩, .string ⟨y.toArray⟩] 135)).alloc (.cells #[.string ⟨#[]⟩, .string ⟨#[]⟩] 135)) from (alloc_below w _).trans (Below.mono (alloc_below _ _) (by simp)))
  have hlk1 := hlk ((w.alloc (.cells #[.string ⟨n.toArray⟩, .string ⟨y.toArray⟩] 135)).alloc (.cells #[.string ⟨#[]⟩, .string ⟨#[]⟩] 135)) (h.keep (HG1.out.block M HMl))
  have HE1 := Lib.hid (show ((w.alloc (.cells #[.string ⟨n.toArray⟩, .string ⟨y.toArray⟩] 135)).alloc (.cells #[.string ⟨#[]⟩, .string ⟨#[]⟩] 135)).heap[w.heap.size]? = some (.cells #[.string ⟨n.toArray⟩, .string ⟨y.toArray⟩] 135 (0, 0)) from (Below.heap_alloc _ _ _ (by simp)).trans (heap_alloc_new w _))
  clear h hs hlk
  go_enter Tryz.func85, Tryz.ntmps85
  go_wp2_with fail
  have HG2 := Lib.hid (show Grown w (((w.alloc (.cells #[.string ⟨n.toArray⟩, .string ⟨y.toArray⟩] 135)).alloc (.cells #[.string ⟨#[]⟩, .string ⟨#[]⟩] 135)).alloc (.cells #[.string ⟨P0.toArray⟩, .string ⟨K0.toArray⟩] 147)) from HG1.out.trans (alloc_below _ _))
  have HE2 := Lib.hid (show (((w.alloc (.cells #[.string ⟨n.toArray⟩, .string ⟨y.toArray⟩] 135)).alloc (.cells #[.string ⟨#[]⟩, .string ⟨#[]⟩] 135)).alloc (.cells #[.string ⟨P0.toArray⟩, .string ⟨K0.toArray⟩] 147)).heap[w.heap.size]? = some (.cells #[.string ⟨n.toArray⟩, .string ⟨y.toArray⟩] 135 (0, 0)) from (Below.heap_alloc _ _ _ (by simp; omega)).trans HE1.out)
  have HR2 := Lib.hid (show (((w.alloc (.cells #[.string ⟨n.toArray⟩, .string ⟨y.toArray⟩] 135)).alloc (.cells #[.string ⟨#[]⟩, .string ⟨#[]⟩] 135)).alloc (.cells #[.string ⟨P0.toArray⟩, .string ⟨K0.toArray⟩] 147)).heap[w.heap.size + 1]? = some (.cells #[.string ⟨#[]⟩, .string ⟨#[]⟩] 135 (0, 0)) from (Below.heap_alloc _ _ _ (by simp)).trans (by have := heap_alloc_new (w.alloc (.cells #[.string ⟨n.toArray⟩, .string ⟨y.toArray⟩] 135)) (.cells #[.string ⟨#[]⟩, .string ⟨#[]⟩] 135); simpa using this))
  have HP2 := Lib.hid (show (((w.alloc (.cells #[.string ⟨n.toArray⟩, .string ⟨y.toArray⟩] 135)).alloc (.cells #[.string ⟨#[]⟩, .string ⟨#[]⟩] 135)).alloc (.cells #[.string ⟨P0.toArray⟩, .string ⟨K0.toArray⟩] 147)).heap[w.heap.size + 1 + 1]? = some (.cells #[.string ⟨P0.toArray⟩, .string ⟨K0.toArray⟩] 147 (0, 0)) from by have := heap_alloc_new ((w.alloc (.cells #[.string ⟨n.toArray⟩, .string ⟨y.toArray⟩] 135)).alloc (.cells #[.string ⟨#[]⟩, .string ⟨#[]⟩] 135)) (.cells #[.string ⟨P0.toArray⟩, .string ⟨K0.toArray⟩] 147); simpa using this)
  obtain ⟨E, hE⟩ : ∃ E, E = w.heap.size := ⟨_, rfl⟩
  rw [← hE] at HE2 HR2 HP2 HMl ⊢
  have HE := Lib.hid hE
  have H0 := Lib.hid hP0
  have H1 := Lib.hid hok0
  clear hlk1 HG1 HE1 hE hP0 hok0
  generalize ((w.alloc _).alloc _).alloc _ = w2 at HG2 HE2 HR2 HP2 ⊢
  go_loopw [5, 6, 7] (fun v5 v6 v7 wr => ∃ (i : Nat) (Y : List UInt8) (us : List (List UInt8)) (A : Option Addr) (cc m Bp : Nat) (P K : List UInt8) (ok : Bool), v5 = .slice A m cc ∧ v6 = .pointer (some ⟨Bp, 0, none⟩) ∧ v7 = .bool ok ∧ m ≤ 200 ∧ E + 1 < Bp ∧ Hid (us.length = m) ∧ Hid (m ≤ i) ∧ Hid (i ≤ 200) ∧ Hid (Y = itn i y) ∧ Hid (∀ j, j < i → taken ps n (itn j y) c = true) ∧ Hid (∀ u ∈ us, ∃ j, j < i ∧ u = itn j y) ∧
    Hid ((f (n, Y)).getD ([], []) = (P, K)) ∧ Hid ((f (n, Y)).isSome = ok) ∧ Hid (wr.heap[E]? = some (.cells #[.string ⟨n.toArray⟩, .string ⟨Y.toArray⟩] 135 (0, 0))) ∧ Hid (wr.heap[E + 1]? = some (.cells #[.string ⟨#[]⟩, .string ⟨#[]⟩] 135 (0, 0))) ∧ Hid (wr.heap[Bp]? = some (.cells #[.string ⟨P.toArray⟩, .string ⟨K.toArray⟩] 147 (0, 0))) ∧ Hid (OwnE wr (E + 2) A cc n us) ∧ Hid (Grown w wr)) (fun v5 _ _ _ => 300 - lenV v5)
  case atStart => exact ⟨0, y, [], none, 0, 0, E + 1 + 1, P0, K0, ok0, rfl, rfl, rfl, by omega, by omega, rfl, Nat.le_refl _, (by show 0 ≤ 200; omega), rfl, fun j hj => by omega, (fun u hu => by cases hu), H0.out, H1.out, HE2.out, HR2.out, HP2.out, OwnE.nil _ _ _, HG2.out⟩
  case round =>
    clear HE2 HR2 HP2 HG2 H0 H1
    obtain ⟨i, Y, us, A, cc, m, Bp, P, K, ok, rfl, rfl, rfl, hm, hBp, Hm, Hmi, Hi, HY, HT, HU, HPK, Hok, HEb, HRb, HBb, HO, HG⟩ := hrel
    cases ok with
    | true =>
      have hfY : f (n, Y) = some (P, K) := by
        have h1 := HPK.out
        have h2 := Hok.out
        cases hf : f (n, Y) with
        | none => rw [hf] at h2; cases h2
        | some q => rw [hf] at h1; rw [← h1]; rfl
      obtain ⟨i', hii, hi2, hY', hT'⟩ := go_on HS.out hy hps HT.out (by rw [← HY.out]; exact hfY)
      rw [← HY.out] at hY'
      have HII := Lib.hid hii
      have HI2 := Lib.hid hi2
      have HTn := Lib.hid hT'
      have HYn := Lib.hid hY'
      have HUn := Lib.hid (show ∀ u ∈ us ++ [Y], ∃ j, j < i' ∧ u = itn j y from fun u hu => by
        rcases List.mem_append.1 hu with h1 | h1
        · obtain ⟨j, hj, e⟩ := HU.out u h1
          exact ⟨j, by omega, e⟩
        · rw [List.mem_singleton.1 h1, HY.out]
          exact ⟨i, hii, rfl⟩)
      clear hii hi2 hT' hY' hfY
      obtain ⟨e0, e1, e2, e3⟩ := row_cells HEb.out
      obtain ⟨b0, b1, b2, b3⟩ := row_cells HBb.out
      have hE2 : E + 2 ≤ wr.heap.size := by have := lt_of_heap HBb.out; omega
      have HOA := Lib.hid (HO.out.grow (alloc_below wr (.cells #[.string ⟨n.toArray⟩, .string ⟨Y.toArray⟩] 135)))
      have HNA := Lib.hid (heap_alloc_new wr (.cells #[.string ⟨n.toArray⟩, .string ⟨Y.toArray⟩] 135))
      by_cases hK : K = []
      · subst hK
        have hne : E ≠ Bp := by omega
        have hne2 : Bp ≠ E := by omega
        have hYl : Y.length ≤ 1000 := by rw [HY.out, itn_len]; exact hyl
        go_wp2_with (first
          | (at_builtin
             refine wpList_appE rfl (.tmp 23) (.tmp 25) rfl (n := n) (us := us) (u := Y) Hm.out rfl HOA.out rfl HNA.out (by omega) (by have := (alloc_below wr (.cells #[.string ⟨n.toArray⟩, .string ⟨Y.toArray⟩] 135)).size; omega) ?_
             intro A9 c9 w9 ho9 hg9
             have HB9 := Lib.hid (show w9.heap[Bp]? = some (.cells #[.string ⟨P.toArray⟩, .string ⟨#[]⟩] 147 (0, 0)) from (hg9.block Bp (by have := lt_of_heap HBb.out; simp; omega) (fun e => by obtain ⟨x, hx, hxk⟩ := own_blk e; exact HO.out.off HBb.out (by decide) x hx hxk)).trans ((Below.heap_alloc _ _ _ (lt_of_heap HBb.out)).trans HBb.out))
             have HE9 := Lib.hid (show w9.heap[E]? = some (.cells #[.string ⟨n.toArray⟩, .string ⟨Y.toArray⟩] 135 (0, 0)) from (hg9.block E (by simp; omega) (fun e => by obtain ⟨x, hx, hxk⟩ := own_blk e; have := (HO.out.lt x hx).1; omega)).trans ((Below.heap_alloc _ _ _ (by omega)).trans HEb.out))
             have HR9 := Lib.hid (show w9.heap[E + 1]? = some (.cells #[.string ⟨#[]⟩, .string ⟨#[]⟩] 135 (0, 0)) from (hg9.block (E + 1) (by simp; omega) (fun e => by obtain ⟨x, hx, hxk⟩ := own_blk e; have := (HO.out.lt x hx).1; omega)).trans ((Below.heap_alloc _ _ _ (by omega)).trans HRb.out))
             have HG9 := Lib.hid (show Grown w w9 from ⟨hg9.os.trans ((alloc_below wr _).os.trans HG.out.os), hg9.tape.trans ((alloc_below wr _).tape.trans HG.out.tape), hg9.output.trans ((alloc_below wr _).output.trans HG.out.output), Nat.le_trans HG.out.size (Nat.le_trans (alloc_below wr _).size hg9.size), fun k hk => (hg9.block k (by simp; have := HG.out.size; omega) (fun e => by obtain ⟨x, hx, hxk⟩ := own_blk e; have := (HO.out.lt x hx).1; have := HE.out; omega)).trans ((Below.heap_alloc _ _ _ (by have := HG.out.size; omega)).trans (HG.out.block k hk))⟩)
             have HO9 := Lib.hid ho9
             obtain ⟨q0, q1, q2, q3⟩ := row_cells HE9.out
             obtain ⟨r0, r1, r2, r3⟩ := row_cells HB9.out
             clear ho9 hg9))
        refine (next_any Y w9 hYl).mono ?_
        rintro e w10 ⟨rfl, hg10⟩
        have HBX := Lib.hid ((hg10.block Bp (lt_of_heap HB9.out)).trans HB9.out)
        have HEX := Lib.hid ((hg10.block E (lt_of_heap HE9.out)).trans HE9.out)
        have HRX := Lib.hid ((hg10.block (E + 1) (lt_of_heap HR9.out)).trans HR9.out)
        have HGX := Lib.hid (HG9.out.trans hg10)
        have HOX := Lib.hid (HO9.out.grow hg10)
        have HYK := HYn.out
        simp only [if_true] at HYK
        obtain ⟨N, hN⟩ : ∃ N, N = nxt Y := ⟨_, rfl⟩
        rw [← hN] at HYK ⊢
        have HNE := Lib.hid HYK
        obtain ⟨x0, x1, x2, x3⟩ := row_cells HEX.out
        obtain ⟨y0, y1, y2, y3⟩ := row_cells HBX.out
        clear hg10 hN HYK HE9 HB9 HR9 HG9 HO9 q0 q1 q2 q3 r0 r1 r2 r3 e0 e1 e2 e3 b0 b1 b2 b3
        have HEV := Lib.hid (show (w10.setCell ⟨Bp, 1, none⟩ (.string ⟨N.toArray⟩)).heap[E]? = some (.cells #[.string ⟨n.toArray⟩, .string ⟨Y.toArray⟩] 135 (0, 0)) from (heap_setCell_other w10 ⟨Bp, 1, none⟩ E _ hne).trans HEX.out)
        have HEW := Lib.hid (show ∀ o : Obj, (((w10.setCell ⟨Bp, 1, none⟩ (.string ⟨N.toArray⟩)).setCell ⟨E, 1, none⟩ (.string ⟨N.toArray⟩)).alloc o).heap[E]? = some (.cells #[.string ⟨n.toArray⟩, .string ⟨N.toArray⟩] 135 (0, 0)) from fun o => (Below.heap_alloc _ _ _ (by have := lt_of_heap HEX.out; simpa using this)).trans (heap_setCell_same _ E 1 _ _ _ HEV.out))
        have HRW := Lib.hid (show ∀ o : Obj, (((w10.setCell ⟨Bp, 1, none⟩ (.string ⟨N.toArray⟩)).setCell ⟨E, 1, none⟩ (.string ⟨N.toArray⟩)).alloc o).heap[E + 1]? = some (.cells #[.string ⟨#[]⟩, .string ⟨#[]⟩] 135 (0, 0)) from fun o => (Below.heap_alloc _ _ _ (by have := lt_of_heap HRX.out; simpa using this)).trans ((heap_setCell_other _ ⟨E, 1, none⟩ _ _ (by simp)).trans ((heap_setCell_other w10 ⟨Bp, 1, none⟩ _ _ (fun e => by simp only at e; omega)).trans HRX.out)))
        have HGW := Lib.hid (show ∀ o : Obj, Grown w (((w10.setCell ⟨Bp, 1, none⟩ (.string ⟨N.toArray⟩)).setCell ⟨E, 1, none⟩ (.string ⟨N.toArray⟩)).alloc o) from fun o => chF_grown (Ch.alloc (Ch.setCell (Ch.setCell (Ch.grown HGX.out) (p := ⟨Bp, 1, none⟩) (.inr (by show w.heap.size ≤ Bp; have := HE.out; omega)) _) (p := ⟨E, 1, none⟩) (.inr (by show w.heap.size ≤ E; have := HE.out; omega)) _) _))
        have HMW := Lib.hid (fun o => HM.out.keep ((HGW.out o).block M (by have := HE.out; omega)))
        have HOW := Lib.hid (show ∀ o : Obj, OwnE (((w10.setCell ⟨Bp, 1, none⟩ (.string ⟨N.toArray⟩)).setCell ⟨E, 1, none⟩ (.string ⟨N.toArray⟩)).alloc o) (E + 2) A9 c9 n (us ++ [Y]) from fun o => OwnE.grow ((HOX.out.keep fun x hx => heap_setCell_other w10 ⟨Bp, 1, none⟩ _ _ (fun e => HOX.out.off HBX.out (by decide) x hx e)).keep fun x hx => heap_setCell_other _ ⟨E, 1, none⟩ _ _ (fun e => by have := (HOX.out.lt x hx).1; simp only at e; omega)) (alloc_below _ _))
        obtain ⟨v0, v1, v2, v3⟩ := row_cells (HEW.out (.cells #[.string ⟨P.toArray⟩, .string ⟨N.toArray⟩] 147))
        go_wp2_with (first
          | (at_lookup
             refine wpList_lookP rfl (.tmp 18) (.tmp 19) rfl (n := n) (u := N) rfl rfl (HMW.out _) ?_
             intro P7 K7 ok7 hP7 hok7))
        exact ⟨⟨i', N, us ++ [Y], A9, c9, m + 1, w10.heap.size, P7, K7, ok7, rfl, by simp, rfl, by have := Hmi.out; have := HII.out; have := HI2.out; omega, by have := lt_of_heap HRX.out; omega, by show (us ++ [Y]).length = m + 1; rw [List.length_append, Hm.out]; rfl, by show m + 1 ≤ i'; have := Hmi.out; have := HII.out; omega, HI2.out, HNE.out, HTn.out, HUn.out, hP7, hok7, HEW.out _, HRW.out _, by show _ = _; have := heap_alloc_new ((w10.setCell ⟨Bp, 1, none⟩ (.string ⟨N.toArray⟩)).setCell ⟨E, 1, none⟩ (.string ⟨N.toArray⟩)) (.cells #[.string ⟨P7.toArray⟩, .string ⟨K7.toArray⟩] 147); simpa using this, HOW.out _, HGW.out _⟩, by simp only [lenV]; omega⟩
      · have hKe : K.isEmpty = false := by cases K with | nil => exact absurd rfl hK | cons _ _ => rfl
        have hne : E ≠ Bp := by omega
        have hne2 : Bp ≠ E := by omega
        go_wp2_with (first
          | (at_builtin
             refine wpList_appE rfl (.tmp 23) (.tmp 25) rfl (n := n) (us := us) (u := Y) Hm.out rfl HOA.out rfl HNA.out (by omega) (by have := (alloc_below wr (.cells #[.string ⟨n.toArray⟩, .string ⟨Y.toArray⟩] 135)).size; omega) ?_
             intro A9 c9 w9 ho9 hg9
             have HB9 := Lib.hid (show w9.heap[Bp]? = some (.cells #[.string ⟨P.toArray⟩, .string ⟨K.toArray⟩] 147 (0, 0)) from (hg9.block Bp (by have := lt_of_heap HBb.out; simp; omega) (fun e => by obtain ⟨x, hx, hxk⟩ := own_blk e; exact HO.out.off HBb.out (by decide) x hx hxk)).trans ((Below.heap_alloc _ _ _ (lt_of_heap HBb.out)).trans HBb.out))
             have HE9 := Lib.hid (show w9.heap[E]? = some (.cells #[.string ⟨n.toArray⟩, .string ⟨Y.toArray⟩] 135 (0, 0)) from (hg9.block E (by simp; omega) (fun e => by obtain ⟨x, hx, hxk⟩ := own_blk e; have := (HO.out.lt x hx).1; omega)).trans ((Below.heap_alloc _ _ _ (by omega)).trans HEb.out))
             have HR9 := Lib.hid (show w9.heap[E + 1]? = some (.cells #[.string ⟨#[]⟩, .string ⟨#[]⟩] 135 (0, 0)) from (hg9.block (E + 1) (by simp; omega) (fun e => by obtain ⟨x, hx, hxk⟩ := own_blk e; have := (HO.out.lt x hx).1; omega)).trans ((Below.heap_alloc _ _ _ (by omega)).trans HRb.out))
             have HG9 := Lib.hid (show Grown w w9 from ⟨hg9.os.trans ((alloc_below wr _).os.trans HG.out.os), hg9.tape.trans ((alloc_below wr _).tape.trans HG.out.tape), hg9.output.trans ((alloc_below wr _).output.trans HG.out.output), Nat.le_trans HG.out.size (Nat.le_trans (alloc_below wr _).size hg9.size), fun k hk => (hg9.block k (by simp; have := HG.out.size; omega) (fun e => by obtain ⟨x, hx, hxk⟩ := own_blk e; have := (HO.out.lt x hx).1; have := HE.out; omega)).trans ((Below.heap_alloc _ _ _ (by have := HG.out.size; omega)).trans (HG.out.block k hk))⟩)
             have HO9 := Lib.hid ho9
             obtain ⟨q0, q1, q2, q3⟩ := row_cells HE9.out
             obtain ⟨r0, r1, r2, r3⟩ := row_cells HB9.out
             have HEW := Lib.hid (show ∀ o : Obj, ((w9.setCell ⟨E, 1, none⟩ (.string ⟨K.toArray⟩)).alloc o).heap[E]? = some (.cells #[.string ⟨n.toArray⟩, .string ⟨K.toArray⟩] 135 (0, 0)) from fun o => (Below.heap_alloc _ _ _ (by have := lt_of_heap HE9.out; simpa using this)).trans (heap_setCell_same w9 E 1 _ _ _ HE9.out))
             have HRW := Lib.hid (show ∀ o : Obj, ((w9.setCell ⟨E, 1, none⟩ (.string ⟨K.toArray⟩)).alloc o).heap[E + 1]? = some (.cells #[.string ⟨#[]⟩, .string ⟨#[]⟩] 135 (0, 0)) from fun o => (Below.heap_alloc _ _ _ (by have := lt_of_heap HR9.out; simpa using this)).trans ((heap_setCell_other w9 ⟨E, 1, none⟩ _ _ (by simp)).trans HR9.out))
             have HGW := Lib.hid (show ∀ o : Obj, Grown w ((w9.setCell ⟨E, 1, none⟩ (.string ⟨K.toArray⟩)).alloc o) from fun o => chF_grown (Ch.alloc (Ch.setCell (Ch.grown HG9.out) (p := ⟨E, 1, none⟩) (.inr (by show w.heap.size ≤ E; have := HE.out; omega)) _) _))
             have HMW := Lib.hid (fun o => HM.out.keep ((HGW.out o).block M (by have := HE.out; omega)))
             have HOW := Lib.hid (show ∀ o : Obj, OwnE ((w9.setCell ⟨E, 1, none⟩ (.string ⟨K.toArray⟩)).alloc o) (E + 2) A9 c9 n (us ++ [Y]) from fun o => OwnE.grow (HO9.out.keep fun x hx => heap_setCell_other w9 ⟨E, 1, none⟩ _ _ (fun e => by have := (HO9.out.lt x hx).1; simp only at e; omega)) (alloc_below _ _))
             obtain ⟨v0, v1, v2, v3⟩ := row_cells (HEW.out (.cells #[.string ⟨P.toArray⟩, .string ⟨K.toArray⟩] 147))
             clear ho9 hg9)
          | (at_lookup
             refine wpList_lookP rfl (.tmp 18) (.tmp 19) rfl (n := n) (u := K) rfl rfl (HMW.out _) ?_
             intro P7 K7 ok7 hP7 hok7))
        have HYK := HYn.out
        rw [if_neg hK] at HYK
        exact ⟨⟨i', K, us ++ [Y], A9, c9, m + 1, w9.heap.size, P7, K7, ok7, rfl, by simp, rfl, by have := Hmi.out; have := HII.out; have := HI2.out; omega, by have := lt_of_heap HR9.out; omega, by show (us ++ [Y]).length = m + 1; rw [List.length_append, Hm.out]; rfl, by show m + 1 ≤ i'; have := Hmi.out; have := HII.out; omega, HI2.out, HYK, HTn.out, HUn.out, hP7, hok7, HEW.out _, HRW.out _, by show _ = _; have := heap_alloc_new (w9.setCell ⟨E, 1, none⟩ (.string ⟨K.toArray⟩)) (.cells #[.string ⟨P7.toArray⟩, .string ⟨K7.toArray⟩] 147); simpa using this, HOW.out _, HGW.out _⟩, by simp only [lenV]; omega⟩
    | false =>
      have hnt : taken ps n Y c = false := by rw [← HS.out.has]; exact Hok.out
      have HADV := Lib.hid (show adv (fun u => taken ps n u c) 255 y = Y by rw [HY.out]; exact adv_at _ i 255 y (by have := Hi.out; omega) HT.out (by rw [← HY.out]; exact hnt))
      have HC := Lib.hid (Ch.grown (F := fun k => k = M) HG.out)
      have HMr := Lib.hid (HM.out.keep (HG.out.block M (by have := HE.out; omega)))
      clear hnt
      go_wp2_with fail
      go_loopw [40] (fun v40 wr => ∃ (q : Nat) (f' : MS), v40 = .int .i64 (q : Int) ∧ q ≤ m ∧ Hid (Mp.Mp kv kv wr M f') ∧ Hid (Side ps c f') ∧ Hid (wr.heap[E]? = some (.cells #[.string ⟨n.toArray⟩, .string ⟨Y.toArray⟩] 135 (0, 0))) ∧ Hid (wr.heap[E + 1]? = some (.cells #[.string ⟨#[]⟩, .string ⟨#[]⟩] 135 (0, 0))) ∧ Hid (OwnE wr (E + 2) A cc n us) ∧ Hid (Ch (fun k => k = M) w wr)) (fun v40 _ => m - (intOf v40).toNat)
      case atStart => exact ⟨0, f, rfl, Nat.zero_le _, HMr.out, HS.out, HEb.out, HRb.out, HO.out, HC.out⟩
      case round =>
        clear HMr HC HEb HRb HBb HO HG
        obtain ⟨q, f', rfl, hq, HMq, HSq, HEq, HRq, HOq, HCq⟩ := hrel
        by_cases hqm : q < m
        · have bq : (q : Int) < (m : Int) := by omega
          have hqu : q < us.length := by rw [Hm.out]; exact hqm
          obtain ⟨g, hA, hgl, hc0, hc1⟩ := HOq.out.at_ q hqu
          obtain ⟨j, hji, huj⟩ := HU.out us[q] (List.getElem_mem hqu)
          obtain ⟨u, hu⟩ : ∃ u, u = us[q] := ⟨_, rfl⟩
          rw [← hu] at huj hc1
          have Hu := Lib.hid huj
          have HJ := Lib.hid hji
          obtain ⟨pk, hpk⟩ : ∃ pk, f' (n, u) = some pk := by
            have h1 := HSq.out.has n u
            rw [huj, HT.out j hji, ← huj] at h1
            exact Option.isSome_iff_exists.1 h1
          obtain ⟨p, k0⟩ := pk
          have hlk := fun W (hW : Mp.Mp kv kv W M f') => lookP1 hW n u hpk
          have HSn := Lib.hid (HSq.out.hop (k := Y) hpk (i - j) (by omega) (by rw [huj, itn_add, show i - j + j = i by omega]; exact HY.out) (fun a ha => by rw [huj, itn_add]; exact HT.out _ (by omega)))
          subst hA
          clear huj hji hqu hu hpk
          obtain ⟨e0, e1, e2, e3⟩ := row_cells HEq.out
          have hMl2 : M < wr.heap.size := HMq.out.lt
          have hEl2 : E < wr.heap.size := lt_of_heap HEq.out
          have Hgl := Lib.hid hgl
          have hq2 : m - (q + 1) < m - q := by omega
          go_wp2_with fail
          have GA := Lib.hid (alloc_below wr (.cells #[.string ⟨n.toArray⟩, .string ⟨u.toArray⟩] 135))
          have NA := Lib.hid (heap_alloc_new wr (.cells #[.string ⟨n.toArray⟩, .string ⟨u.toArray⟩] 135))
          obtain ⟨g9, hg9⟩ : ∃ g9, g9 = wr.heap.size := ⟨_, rfl⟩
          rw [← hg9] at NA ⊢
          have Hg9 := Lib.hid hg9
          clear hg9 hc0 hc1 e0 e1 e2 e3 hMl2 hEl2
          generalize wr.alloc _ = wa at GA NA ⊢
          generalize hwd : wa.drew = wd
          have GD := Lib.hid (show Grown wr wd by rw [← hwd]; exact Below.drew GA.out)
          have ND := Lib.hid (show wd.heap[g9]? = some (.cells #[.string ⟨n.toArray⟩, .string ⟨u.toArray⟩] 135 (0, 0)) by rw [← hwd]; exact NA.out)
          have ED := Lib.hid ((GD.out.block E (lt_of_heap HEq.out)).trans HEq.out)
          have RD := Lib.hid ((GD.out.block (E + 1) (lt_of_heap HRq.out)).trans HRq.out)
          have MD := Lib.hid (HMq.out.keep (GD.out.block M HMq.out.lt))
          have OD := Lib.hid (HOq.out.grow GD.out)
          have CD := Lib.hid (Ch.trans HCq.out (Ch.grown GD.out))
          have hlkd := hlk wd MD.out
          have hfd := fldP
          obtain ⟨t0, t1, _, _⟩ := row_cells ND.out
          obtain ⟨_, t3, _, _⟩ := row_cells ED.out
          have S0 := Lib.hid (show wd.cell? ⟨g9, 0, none⟩ = some (.string ⟨n.toArray⟩) ∧ wd.cell? ⟨g9, 1, none⟩ = some (.string ⟨u.toArray⟩) ∧ wd.cell? ⟨E, 1, none⟩ = some (.string ⟨Y.toArray⟩) from ⟨t0, t1, t3⟩)
          refine restS_begin (fun v : World => v.cell? ⟨g9, 0, none⟩ = some (.string ⟨n.toArray⟩) ∧ v.cell? ⟨g9, 1, none⟩ = some (.string ⟨u.toArray⟩) ∧ v.cell? ⟨E, 1, none⟩ = some (.string ⟨Y.toArray⟩)) (by kernel_rfl) ?_
          rw [hwd]
          clear hwd hlk GA NA HEq HRq HOq HMq HCq t0 t1 t3
          refine restS_take (i := 0) S0.out rfl (by kernel_rfl) (by kernel_rfl) (by kernel_rfl) (by rfl) (fun v hv => by obtain ⟨s0, s1, s2⟩ := hv; go_simp; try with_reducible rfl) ?_
          try simp only [Act.put, List.setIfInBounds_toArray, List.set_cons_zero, List.set_cons_succ]
          refine restS_take (i := 1) S0.out rfl (by kernel_rfl) (by kernel_rfl) (by kernel_rfl) (by rfl) (fun v hv => by obtain ⟨s0, s1, s2⟩ := hv; go_simp; try with_reducible rfl) ?_
          try simp only [Act.put, List.setIfInBounds_toArray, List.set_cons_zero, List.set_cons_succ]
          refine restS_take (i := 2) S0.out rfl (by kernel_rfl) (by kernel_rfl) (by kernel_rfl) (by rfl) (fun v hv => by obtain ⟨s0, s1, s2⟩ := hv; go_simp; try with_reducible rfl) ?_
          try simp only [Act.put, List.setIfInBounds_toArray, List.set_cons_zero, List.set_cons_succ]
          refine restS_take (i := 3) S0.out rfl (by kernel_rfl) (by kernel_rfl) (by kernel_rfl) (by rfl) (fun v hv => by obtain ⟨s0, s1, s2⟩ := hv; go_simp; try with_reducible rfl) ?_
          try simp only [Act.put, List.setIfInBounds_toArray, List.set_cons_zero, List.set_cons_succ]
          refine restS_take (i := 6) S0.out rfl (by kernel_rfl) (by kernel_rfl) (by kernel_rfl) (by rfl) (fun v hv => by obtain ⟨s0, s1, s2⟩ := hv; go_simp; try with_reducible rfl) ?_
          try simp only [Act.put, List.setIfInBounds_toArray, List.set_cons_zero, List.set_cons_succ]
          refine restS_take (i := 7) S0.out rfl (by kernel_rfl) (by kernel_rfl) (by kernel_rfl) (by rfl) (fun v hv => by obtain ⟨s0, s1, s2⟩ := hv; go_simp; try with_reducible rfl) ?_
          try simp only [Act.put, List.setIfInBounds_toArray, List.set_cons_zero, List.set_cons_succ]
          refine restS_lone (i := 4) rfl (by kernel_rfl) (by rfl) (fun K hK => ?_)
          go_simp
          refine hK.out _ _ S0.out ?_
          clear hK K
          try simp only [Act.put, List.setIfInBounds_toArray, List.set_cons_zero, List.set_cons_succ]
          refine restS_take (i := 5) S0.out rfl (by kernel_rfl) (by kernel_rfl) (by kernel_rfl) (by rfl) (fun v hv => by obtain ⟨s0, s1, s2⟩ := hv; go_simp; try with_reducible rfl) ?_
          try simp only [Act.put, List.setIfInBounds_toArray, List.set_cons_zero, List.set_cons_succ]
          refine restS_take (i := 8) S0.out rfl (by kernel_rfl) (by kernel_rfl) (by kernel_rfl) (by rfl) (fun v hv => by obtain ⟨s0, s1, s2⟩ := hv; go_simp; try with_reducible rfl) ?_
          try simp only [Act.put, List.setIfInBounds_toArray, List.set_cons_zero, List.set_cons_succ]
          refine restS_lone (i := 9) rfl (by kernel_rfl) (by rfl) (fun K hK => ?_)
          refine Mp.wp_upd (.tmp 44) (.tmp 45) (.tmp 52) rfl keys_entry Tryz.underlying91 MD.out (n, u) (p, Y) rfl rfl rfl ?_
          intro w9 hm9 hgr9 hs9
          have hMne : ∀ k cs t, wd.heap[k]? = some (Obj.cells cs t (0, 0)) → w9.heap[k]? = some (Obj.cells cs t (0, 0)) := fun k cs t hk => (by_block hgr9 k (lt_of_heap hk) (fun e => MD.out.cells hk e.symm)).trans hk
          have M9 := Lib.hid hm9
          have E9 := Lib.hid (hMne _ _ _ ED.out)
          have R9 := Lib.hid (hMne _ _ _ RD.out)
          have N9 := Lib.hid (hMne _ _ _ ND.out)
          have C9 := Lib.hid (Ch.trans CD.out (Ch.by_ (F := fun k => k = M) hgr9 rfl))
          have O9 := Lib.hid (OD.out.keep fun x hx => by_block hgr9 x.block (OD.out.lt x hx).2 (fun e => by have := (OD.out.lt x hx).1; omega))
          clear hm9 hgr9 hs9 hMne
          obtain ⟨t0, t1, _, _⟩ := row_cells N9.out
          obtain ⟨_, t3, _, _⟩ := row_cells E9.out
          refine hK.out _ _ ⟨t0, t1, t3⟩ ?_
          clear hK K t0 t1 t3 hlkd S0
          try simp only [Act.put, List.setIfInBounds_toArray, List.set_cons_zero, List.set_cons_succ]
          refine restS_done (by kernel_rfl) ?_
          go_wp2
          exact ⟨⟨q + 1, _, by simp, by omega, M9.out, HSn.out, E9.out, R9.out, O9.out, C9.out⟩, by simp [intOf]; omega⟩
        · obtain rfl : q = m := by omega
          obtain ⟨e0, e1, e2, e3⟩ := row_cells HEq.out
          obtain ⟨r0, r1, r2, r3⟩ := row_cells HRq.out
          have Rn := Lib.hid (show ((wr.setCell ⟨E + 1, 0, none⟩ (.string ⟨n.toArray⟩)).setCell ⟨E + 1, 1, none⟩ (.string ⟨Y.toArray⟩)).heap[E + 1]? = some (.cells #[.string ⟨n.toArray⟩, .string ⟨Y.toArray⟩] 135 (0, 0)) from heap_setCell_same _ (E + 1) 1 _ _ _ (heap_setCell_same wr (E + 1) 0 _ _ _ HRq.out))
          have Mn := Lib.hid (show Mp.Mp kv kv ((wr.setCell ⟨E + 1, 0, none⟩ (.string ⟨n.toArray⟩)).setCell ⟨E + 1, 1, none⟩ (.string ⟨Y.toArray⟩)) M f' from (HMq.out.keep (heap_setCell_other _ _ M _ (fun e => by simp only at e; omega))).keep (heap_setCell_other _ _ M _ (fun e => by simp only at e; omega)))
          have Cn := Lib.hid (Ch.setCell (Ch.setCell HCq.out (p := ⟨E + 1, 0, none⟩) (.inr (by show w.heap.size ≤ E + 1; have := HE.out; omega)) (.string ⟨n.toArray⟩)) (p := ⟨E + 1, 1, none⟩) (.inr (by show w.heap.size ≤ E + 1; have := HE.out; omega)) (.string ⟨Y.toArray⟩))
          go_wp2
          refine bodyPost_ret (v := .agg #[.string ⟨n.toArray⟩, .string ⟨Y.toArray⟩]) ?_ rfl ⟨f', by rw [HADV.out], Mn.out, HSq.out, Cn.out⟩
          exact results_cell_row (p := 4) (ty := 135) rfl _ _ (E + 1) 135 _ (0, 0) _ rfl Rn.out Tryz.underlying135 rfl (by kernel_rfl)
end
end Go.Proofs.YtjklgmhaebjjaaaGreat.S11
namespace Go.Proofs.YtjklgmhaebjjaaaGreat.S11
open Go.RowKit
set_option linter.unusedVariables false
set_option linter.unusedSimpArgs false

section
variable {w : World} {G : Nat} {L : Lay} {A : Option Addr} {n c : Nat} {st : St} {fa : MA} {fg : MG} {ff fb : MS}
set_option maxHeartbeats 4000000 in
set_option maxRecDepth 20000 in
theorem fn_any (h : Lr w G L A n c st.seed st.bad (st.cnt : Int) fa fg ff fb) (ht : Tab4 st fa fg ff fb) (hfew : Few st) (name q : List UInt8) (m : Int) (hnl : name.length ≤ 1000) (hql : q.length ≤ 5000) (hm : m ≤ 1000) :
    Calls Tryz.prog 78 #[.pointer (some ⟨G, 0, none⟩), .string ⟨name.toArray⟩, .string ⟨q.toArray⟩, .int .i64 m] w (OutL w G L (fnOp st name q m).1 (fnOp st name q m).2) := by
  have H0 := Lib.hid h
  have HT := Lib.hid ht
  have HFew := Lib.hid hfew
  have c1 : w.cell? ⟨G, 1, none⟩ = some (.map (some L.a)) := cell_of_row w G 1 _ _ (0, 0) h.hG
  clear h ht hfew
  cases hfa : fa (name, q) with
  | some y =>
    have HF := Lib.hid (show fnOp st name q m = (y, st) by
      have h1 := HT.out.a name q
      rw [hfa] at h1
      unfold fnOp
      cases hf : st.fs.find? (hitF name q) with
      | none => rw [hf] at h1; cases h1
      | some t => rw [hf] at h1; simp only [Option.map_some, Option.some.injEq] at h1; rw [h1])
    have hlk := lookA H0.out.ma name q (y := y) (ok := true) (by rw [hfa]; rfl) (by rw [hfa]; rfl)
    obtain ⟨cb, w6, hcv, hcb, hbq, hg6⟩ := conv_bq (w.alloc (.cells #[.string ⟨y.toArray⟩] 132)) y
    obtain ⟨gb, hgb⟩ : ∃ gb, gb = (w.alloc (.cells #[.string ⟨y.toArray⟩] 132)).heap.size := ⟨_, rfl⟩
    rw [← hgb] at hcv hbq
    have HGB := Lib.hid hgb
    have HBQ := Lib.hid hbq
    have HG6 := Lib.hid (show Grown w w6 from (alloc_below w (.cells #[.string ⟨y.toArray⟩] 132)).trans (Below.mono hg6 (alloc_below w (.cells #[.string ⟨y.toArray⟩] 132)).size))
    obtain ⟨ly, hly⟩ : ∃ ly, ly = y.length := ⟨_, rfl⟩
    rw [← hly] at hcv hcb
    have HLY := Lib.hid hly
    clear hgb hbq hg6 hly hfa
    go_enter Tryz.func78, Tryz.ntmps78
    go_wp2
    go_ret
    rw [HF.out]
    exact ⟨some ⟨gb, 0, none⟩, ly, cb, rfl, HLY.out.symm, hcb, HBQ.out.rd, (fun x hx _ => by simp only [Option.some.injEq] at hx; subst hx; show w.heap.size ≤ gb; rw [HGB.out]; exact (alloc_below w _).size), ⟨A, n, c, fa, fg, ff, fb, H0.out.grow HG6.out, HT.out⟩, Ch.grown HG6.out⟩
  | none =>
    have HF := Lib.hid (show fnOp st name q m = (drawO st.seed m.toNat, fnNew st name q (drawO st.seed m.toNat) m.toNat) by
      have h1 := HT.out.a name q
      rw [hfa] at h1
      unfold fnOp
      cases hf : st.fs.find? (hitF name q) with
      | none => rfl
      | some t => rw [hf] at h1; cases h1)
    have hlk := lookA H0.out.ma name q (y := []) (ok := false) (by rw [hfa]; rfl) (by rw [hfa]; rfl)
    have HFA := Lib.hid hfa
    clear hfa
    go_enter Tryz.func78, Tryz.ntmps78
    go_wp2_with fail
    refine (clone_any name _ (by omega)).mono ?_
    rintro e wa ⟨rfl, hga⟩
    have HGa := Lib.hid (show Grown w wa from (alloc_below w (.cells #[.string ⟨#[]⟩] 132)).trans (Below.mono hga (alloc_below w (.cells #[.string ⟨#[]⟩] 132)).size))
    clear hga hlk c1
    go_wp2_with fail
    refine (clone_any q wa (by omega)).mono ?_
    rintro e wb ⟨rfl, hgb⟩
    have HGb := Lib.hid (HGa.out.trans hgb)
    have X0 := Lib.hid (H0.out.grow HGb.out)
    have c6 : wb.cell? ⟨G, 6, none⟩ = some (.int .i64 (st.cnt : Int)) := cell_of_row wb G 6 _ _ (0, 0) X0.out.hG
    have f6 : wb.frozen? ⟨G, 6, none⟩ = false := frozen_of_row wb G 6 _ _ X0.out.hG
    obtain ⟨k, hk⟩ : ∃ k, k = st.cnt := ⟨_, rfl⟩
    have HK := Lib.hid hk
    rw [← hk] at c6
    have hk4 : k ≤ 400 := by rw [hk]; exact HFew.out.2.2
    have X1 := Lib.hid (X0.out.setCnt ((k : Int) + 1))
    have C1 := Lib.hid (Ch.setCell (Ch.grown (F := FF G L) HGb.out) (p := ⟨G, 6, none⟩) (.inl (.inl rfl)) (.int .i64 ((k : Int) + 1)))
    clear hgb hk
    go_wp2_with fail
    clear c6 f6
    refine (draw_raw X1.out m hm).mono ?_
    rintro e wc ⟨B, nb, cb, A2, n2, c2, rfl, hYl, hnc, hYr, hYn, hx2, hc2⟩
    obtain ⟨Y, hY⟩ : ∃ Y, Y = drawO st.seed m.toNat := ⟨_, rfl⟩
    have HY := Lib.hid hY
    rw [← hY] at hYl hYr
    have hcv := conv hYr cb
    rw [hYl] at hcv
    have X2 := Lib.hid hx2
    have C2 := Lib.hid (Ch.then C1.out hc2 (fun k hk e => .inl e))
    have X3 := Lib.hid (hx2.grow (alloc_below wc (.cells #[.string ⟨name.toArray⟩, .string ⟨Y.toArray⟩] 135)))
    have C3 := Lib.hid (Ch.alloc C2.out (.cells #[.string ⟨name.toArray⟩, .string ⟨Y.toArray⟩] 135))
    have D3 := Lib.hid (heap_alloc_new wc (.cells #[.string ⟨name.toArray⟩, .string ⟨Y.toArray⟩] 135))
    clear hY hx2 hc2 hYr hYn X1 C1 X0
    go_wp2_with fail
    obtain ⟨D, hD⟩ : ∃ D, D = wc.heap.size := ⟨_, rfl⟩
    rw [← hD] at D3 ⊢
    have HD := Lib.hid (show w.heap.size ≤ D by rw [hD]; exact C2.out.size)
    clear hD hcv X2 C2
    generalize wc.alloc _ = wd at X3 C3 D3 ⊢
    generalize hwe : wd.drew = we
    have X4 := Lib.hid (show Lr we G L A2 n2 c2 (st.seed.drop m.toNat) st.bad ((k : Int) + 1) fa fg ff fb by rw [← hwe]; exact X3.out.grow ((Below.refl _ wd).drew))
    have C4 := Lib.hid (show Ch (FF G L) w we by rw [← hwe]; exact Ch.drew C3.out)
    have D4 := Lib.hid (show we.heap[D]? = some (.cells #[.string ⟨name.toArray⟩, .string ⟨Y.toArray⟩] 135 (0, 0)) by rw [← hwe]; exact D3.out)
    obtain ⟨ok, hok⟩ : ∃ ok, (fg (name, Y)).isSome = ok := ⟨_, rfl⟩
    have HOK := Lib.hid hok
    have SX := Lib.hid (show ∀ v : World, Grown we v → v.cell? ⟨G, 2, none⟩ = some (.map (some L.g)) ∧ v.cell? ⟨D, 0, none⟩ = some (.string ⟨name.toArray⟩) ∧ v.cell? ⟨D, 1, none⟩ = some (.string ⟨Y.toArray⟩) ∧ (Instr.lookup 89 (.map (some L.g)) (.agg #[.string ⟨name.toArray⟩, .string ⟨Y.toArray⟩]) true).run Tryz.prog v = .ok (.tuple #[.agg #[], .bool ok]) v from fun v hv => by
      have hx := X4.out.grow hv
      obtain ⟨d0, d1, _, _⟩ := row_cells ((hv.block D (lt_of_heap D4.out)).trans D4.out)
      exact ⟨cell_of_row v G 2 _ _ (0, 0) hx.hG, d0, d1, lookG hx.mg name Y hok⟩)
    have S0 := Lib.hid (SX.out we (Grown.refl _))
    clear hok X3 C3 D3
    refine restS_begin (fun v : World => v.cell? ⟨G, 2, none⟩ = some (.map (some L.g)) ∧ v.cell? ⟨D, 0, none⟩ = some (.string ⟨name.toArray⟩) ∧ v.cell? ⟨D, 1, none⟩ = some (.string ⟨Y.toArray⟩) ∧ (Instr.lookup 89 (.map (some L.g)) (.agg #[.string ⟨name.toArray⟩, .string ⟨Y.toArray⟩]) true).run Tryz.prog v = .ok (.tuple #[.agg #[], .bool ok]) v) (by kernel_rfl) ?_
    rw [hwe]
    clear hwe
    refine restS_take (i := 0) S0.out rfl (by kernel_rfl) (by kernel_rfl) (by kernel_rfl) (by rfl) (fun v hv => by obtain ⟨s0, s1, s2, s3⟩ := hv; go_simp; try with_reducible rfl) ?_
    try simp only [Act.put, List.setIfInBounds_toArray, List.set_cons_zero, List.set_cons_succ]
    refine restS_take (i := 1) S0.out rfl (by kernel_rfl) (by kernel_rfl) (by kernel_rfl) (by rfl) (fun v hv => by obtain ⟨s0, s1, s2, s3⟩ := hv; go_simp; try with_reducible rfl) ?_
    try simp only [Act.put, List.setIfInBounds_toArray, List.set_cons_zero, List.set_cons_succ]
    refine restS_take (i := 2) S0.out rfl (by kernel_rfl) (by kernel_rfl) (by kernel_rfl) (by rfl) (fun v hv => by obtain ⟨s0, s1, s2, s3⟩ := hv; go_simp; try with_reducible rfl) ?_
    try simp only [Act.put, List.setIfInBounds_toArray, List.set_cons_zero, List.set_cons_succ]
    refine restS_take (i := 3) S0.out rfl (by kernel_rfl) (by kernel_rfl) (by kernel_rfl) (by rfl) (fun v hv => by obtain ⟨s0, s1, s2, s3⟩ := hv; go_simp; try with_reducible rfl) ?_
    try simp only [Act.put, List.setIfInBounds_toArray, List.set_cons_zero, List.set_cons_succ]
    refine restS_take (i := 4) S0.out rfl (by kernel_rfl) (by kernel_rfl) (by kernel_rfl) (by rfl) (fun v hv => by obtain ⟨s0, s1, s2, s3⟩ := hv; go_simp; try with_reducible rfl) ?_
    try simp only [Act.put, List.setIfInBounds_toArray, List.set_cons_zero, List.set_cons_succ]
    refine restS_take (i := 5) S0.out rfl (by kernel_rfl) (by kernel_rfl) (by kernel_rfl) (by rfl) (fun v hv => by obtain ⟨s0, s1, s2, s3⟩ := hv; go_simp; try with_reducible rfl) ?_
    try simp only [Act.put, List.setIfInBounds_toArray, List.set_cons_zero, List.set_cons_succ]
    refine restS_take (i := 6) S0.out rfl (by kernel_rfl) (by kernel_rfl) (by kernel_rfl) (by rfl) (fun v hv => by obtain ⟨s0, s1, s2, s3⟩ := hv; go_simp; try with_reducible rfl) ?_
    try simp only [Act.put, List.setIfInBounds_toArray, List.set_cons_zero, List.set_cons_succ]
    refine restS_take (i := 7) S0.out rfl (by kernel_rfl) (by kernel_rfl) (by kernel_rfl) (by rfl) (fun v hv => by obtain ⟨s0, s1, s2, s3⟩ := hv; go_simp; try with_reducible rfl) ?_
    try simp only [Act.put, List.setIfInBounds_toArray, List.set_cons_zero, List.set_cons_succ]
    refine restS_take (i := 8) S0.out rfl (by kernel_rfl) (by kernel_rfl) (by kernel_rfl) (by rfl) (fun v hv => by obtain ⟨s0, s1, s2, s3⟩ := hv; go_simp; try with_reducible rfl) ?_
    try simp only [Act.put, List.setIfInBounds_toArray, List.set_cons_zero, List.set_cons_succ]
    refine restS_lone (i := 9) rfl (by kernel_rfl) (by rfl) (fun K hK => ?_)
    go_simp
    have GE := Lib.hid (alloc_below we (.cells #[] 137))
    have NE := Lib.hid (heap_alloc_new we (.cells #[] 137))
    have SE := Lib.hid (SX.out _ GE.out)
    obtain ⟨ge, hge⟩ : ∃ ge, ge = we.heap.size := ⟨_, rfl⟩
    rw [← hge] at NE ⊢
    clear hge
    generalize we.alloc _ = wf at GE NE SE ⊢
    refine hK.out _ _ SE.out ?_
    clear hK K
    try simp only [Act.put, List.setIfInBounds_toArray, List.set_cons_zero, List.set_cons_succ]
    have X5 := Lib.hid (X4.out.grow GE.out)
    have C5 := Lib.hid (Ch.trans C4.out (Ch.grown GE.out))
    have D5 := Lib.hid ((GE.out.block D (lt_of_heap D4.out)).trans D4.out)
    clear X4 C4 D4 S0 SX GE
    refine restS_lone (i := 10) rfl (by kernel_rfl) (by rfl) (fun K hK => ?_)
    go_simp
    refine hK.out _ _ SE.out ?_
    clear hK K
    try simp only [Act.put, List.setIfInBounds_toArray, List.set_cons_zero, List.set_cons_succ]
    refine restS_take (i := 11) SE.out rfl (by kernel_rfl) (by kernel_rfl) (by kernel_rfl) (by rfl) (fun v hv => by obtain ⟨s0, s1, s2, s3⟩ := hv; go_simp; try with_reducible rfl) ?_
    try simp only [Act.put, List.setIfInBounds_toArray, List.set_cons_zero, List.set_cons_succ]
    refine restS_done (by kernel_rfl) ?_
    clear SE NE
    have HANY := Lib.hid (show st.fs.any (badF name Y) = ok by rw [← HT.out.g]; exact HOK.out)
    cases ok
    case' true =>
      have f5 : wf.frozen? ⟨G, 5, none⟩ = false := frozen_of_row wf G 5 _ _ X5.out.hG
      have c5 : wf.cell? ⟨G, 5, none⟩ = some (.bool st.bad) := cell_of_row wf G 5 _ _ (0, 0) X5.out.hG
      go_wp2_with fail
      obtain ⟨bb, HBB, X6⟩ : ∃ bb, Hid (bb = (st.bad || st.fs.any (badF name Y))) ∧ Hid (Lr (wf.setCell ⟨G, 5, none⟩ (.bool true)) G L A2 n2 c2 (st.seed.drop m.toNat) bb ((k : Int) + 1) fa fg ff fb) := ⟨true, (by show true = _; rw [HANY.out]; simp), X5.out.setBad true⟩
      have C6 := Lib.hid (Ch.setCell C5.out (p := ⟨G, 5, none⟩) (.inl (.inl rfl)) (.bool true))
      have D6 := Lib.hid (show (wf.setCell ⟨G, 5, none⟩ (.bool true)).heap[D]? = some (.cells #[.string ⟨name.toArray⟩, .string ⟨Y.toArray⟩] 135 (0, 0)) from (heap_setCell_other wf ⟨G, 5, none⟩ D _ (fun e => by have := lt_of_heap H0.out.hG; have := HD.out; simp only at e; omega)).trans D5.out)
      clear c5 f5 X5 C5 D5 HANY
      generalize wf.setCell _ _ = wg at X6 C6 D6 ⊢
    case' false =>
      go_wp2_with fail
      obtain ⟨bb, HBB, X6⟩ : ∃ bb, Hid (bb = (st.bad || st.fs.any (badF name Y))) ∧ Hid (Lr wf G L A2 n2 c2 (st.seed.drop m.toNat) bb ((k : Int) + 1) fa fg ff fb) := ⟨st.bad, (by show _ = _; rw [HANY.out]; simp), X5.out⟩
      have C6 := Lib.hid C5.out
      have D6 := Lib.hid D5.out
      clear X5 C5 D5 HANY
      generalize wf = wg at X6 C6 D6 ⊢
    all_goals
      generalize hwh : wg.drew = wh
      have X7 := Lib.hid (show Lr wh G L A2 n2 c2 (st.seed.drop m.toNat) bb ((k : Int) + 1) fa fg ff fb by rw [← hwh]; exact X6.out.grow ((Below.refl _ wg).drew))
      have C7 := Lib.hid (show Ch (FF G L) w wh by rw [← hwh]; exact Ch.drew C6.out)
      have D7 := Lib.hid (show wh.heap[D]? = some (.cells #[.string ⟨name.toArray⟩, .string ⟨Y.toArray⟩] 135 (0, 0)) by rw [← hwh]; exact D6.out)
      have SX := Lib.hid (show ∀ v : World, v.heap[G]? = wh.heap[G]? → v.heap[D]? = wh.heap[D]? → v.cell? ⟨G, 2, none⟩ = some (.map (some L.g)) ∧ v.cell? ⟨G, 1, none⟩ = some (.map (some L.a)) ∧ v.cell? ⟨D, 0, none⟩ = some (.string ⟨name.toArray⟩) ∧ v.cell? ⟨D, 1, none⟩ = some (.string ⟨Y.toArray⟩) from fun v hv hd => by
        obtain ⟨d0, d1, _, _⟩ := row_cells (hd.trans D7.out)
        exact ⟨cell_of_row v G 2 _ _ (0, 0) (hv.trans X7.out.hG), cell_of_row v G 1 _ _ (0, 0) (hv.trans X7.out.hG), d0, d1⟩)
      have S0 := Lib.hid (SX.out wh rfl rfl)
      clear X6 C6 D6
      refine restS_begin (fun v : World => v.cell? ⟨G, 2, none⟩ = some (.map (some L.g)) ∧ v.cell? ⟨G, 1, none⟩ = some (.map (some L.a)) ∧ v.cell? ⟨D, 0, none⟩ = some (.string ⟨name.toArray⟩) ∧ v.cell? ⟨D, 1, none⟩ = some (.string ⟨Y.toArray⟩)) (by kernel_rfl) ?_
      rw [hwh]
      clear hwh
      refine restS_take (i := 0) S0.out rfl (by kernel_rfl) (by kernel_rfl) (by kernel_rfl) (by rfl) (fun v hv => by obtain ⟨s0, s1, s2, s3⟩ := hv; go_simp; try with_reducible rfl) ?_
      try simp only [Act.put, List.setIfInBounds_toArray, List.set_cons_zero, List.set_cons_succ]
      refine restS_take (i := 1) S0.out rfl (by kernel_rfl) (by kernel_rfl) (by kernel_rfl) (by rfl) (fun v hv => by obtain ⟨s0, s1, s2, s3⟩ := hv; go_simp; try with_reducible rfl) ?_
      try simp only [Act.put, List.setIfInBounds_toArray, List.set_cons_zero, List.set_cons_succ]
      refine restS_take (i := 2) S0.out rfl (by kernel_rfl) (by kernel_rfl) (by kernel_rfl) (by rfl) (fun v hv => by obtain ⟨s0, s1, s2, s3⟩ := hv; go_simp; try with_reducible rfl) ?_
      try simp only [Act.put, List.setIfInBounds_toArray, List.set_cons_zero, List.set_cons_succ]
      refine restS_take (i := 3) S0.out rfl (by kernel_rfl) (by kernel_rfl) (by kernel_rfl) (by rfl) (fun v hv => by obtain ⟨s0, s1, s2, s3⟩ := hv; go_simp; try with_reducible rfl) ?_
      try simp only [Act.put, List.setIfInBounds_toArray, List.set_cons_zero, List.set_cons_succ]
      refine restS_take (i := 4) S0.out rfl (by kernel_rfl) (by kernel_rfl) (by kernel_rfl) (by rfl) (fun v hv => by obtain ⟨s0, s1, s2, s3⟩ := hv; go_simp; try with_reducible rfl) ?_
      try simp only [Act.put, List.setIfInBounds_toArray, List.set_cons_zero, List.set_cons_succ]
      refine restS_take (i := 5) S0.out rfl (by kernel_rfl) (by kernel_rfl) (by kernel_rfl) (by rfl) (fun v hv => by obtain ⟨s0, s1, s2, s3⟩ := hv; go_simp; try with_reducible rfl) ?_
      try simp only [Act.put, List.setIfInBounds_toArray, List.set_cons_zero, List.set_cons_succ]
      refine restS_lone (i := 6) rfl (by kernel_rfl) (by rfl) (fun K hK => ?_)
      refine Mp.wp_upd (.tmp 62) (.tmp 63) (.tmp 64) rfl keys_entry Tryz.underlying89 X7.out.mg (name, Y) () rfl rfl rfl ?_
      intro wi hmi hgi hsi
      have hGi : wi.heap[G]? = wh.heap[G]? := by_block hgi G (lt_of_heap X7.out.hG) (fun e => X7.out.mg.cells X7.out.hG e.symm)
      have hDi : wi.heap[D]? = wh.heap[D]? := by_block hgi D (lt_of_heap D7.out) (fun e => X7.out.mg.cells D7.out e.symm)
      have X8 := Lib.hid (X7.out.putG hmi hgi)
      have C8 := Lib.hid (Ch.trans C7.out (Ch.by_ (F := FF G L) hgi (.inr (.inr (.inl rfl)))))
      have D8 := Lib.hid (hDi.trans D7.out)
      refine hK.out _ _ (SX.out _ hGi hDi) ?_
      clear hK K hmi hgi hsi hGi hDi SX S0 X7 C7 D7
      try simp only [Act.put, List.setIfInBounds_toArray, List.set_cons_zero, List.set_cons_succ]
      refine restS_done (by kernel_rfl) ?_
      go_wp2_with fail
      generalize hwj : wi.drew = wj
      have X9 := Lib.hid (show Lr wj G L A2 n2 c2 (st.seed.drop m.toNat) bb ((k : Int) + 1) fa (Mp.put fg (name, Y) ()) ff fb by rw [← hwj]; exact X8.out.grow ((Below.refl _ wi).drew))
      have C9 := Lib.hid (show Ch (FF G L) w wj by rw [← hwj]; exact Ch.drew C8.out)
      have D9 := Lib.hid (show wj.heap[D]? = some (.cells #[.string ⟨name.toArray⟩, .string ⟨Y.toArray⟩] 135 (0, 0)) by rw [← hwj]; exact D8.out)
      have SX := Lib.hid (show ∀ v : World, v.heap[G]? = wj.heap[G]? → v.heap[D]? = wj.heap[D]? → v.cell? ⟨G, 1, none⟩ = some (.map (some L.a)) ∧ v.cell? ⟨D, 1, none⟩ = some (.string ⟨Y.toArray⟩) from fun v hv hd => by
        obtain ⟨d0, d1, _, _⟩ := row_cells (hd.trans D9.out)
        exact ⟨cell_of_row v G 1 _ _ (0, 0) (hv.trans X9.out.hG), d1⟩)
      have S0 := Lib.hid (SX.out wj rfl rfl)
      clear X8 C8 D8
      refine restS_begin (fun v : World => v.cell? ⟨G, 1, none⟩ = some (.map (some L.a)) ∧ v.cell? ⟨D, 1, none⟩ = some (.string ⟨Y.toArray⟩)) (by kernel_rfl) ?_
      rw [hwj]
      clear hwj
      refine restS_take (i := 0) S0.out rfl (by kernel_rfl) (by kernel_rfl) (by kernel_rfl) (by rfl) (fun v hv => by obtain ⟨s0, s1⟩ := hv; go_simp; try with_reducible rfl) ?_
      try simp only [Act.put, List.setIfInBounds_toArray, List.set_cons_zero, List.set_cons_succ]
      refine restS_take (i := 1) S0.out rfl (by kernel_rfl) (by kernel_rfl) (by kernel_rfl) (by rfl) (fun v hv => by obtain ⟨s0, s1⟩ := hv; go_simp; try with_reducible rfl) ?_
      try simp only [Act.put, List.setIfInBounds_toArray, List.set_cons_zero, List.set_cons_succ]
      refine restS_take (i := 2) S0.out rfl (by kernel_rfl) (by kernel_rfl) (by kernel_rfl) (by rfl) (fun v hv => by obtain ⟨s0, s1⟩ := hv; go_simp; try with_reducible rfl) ?_
      try simp only [Act.put, List.setIfInBounds_toArray, List.set_cons_zero, List.set_cons_succ]
      refine restS_take (i := 3) S0.out rfl (by kernel_rfl) (by kernel_rfl) (by kernel_rfl) (by rfl) (fun v hv => by obtain ⟨s0, s1⟩ := hv; go_simp; try with_reducible rfl) ?_
      try simp only [Act.put, List.setIfInBounds_toArray, List.set_cons_zero, List.set_cons_succ]
      refine restS_take (i := 4) S0.out rfl (by kernel_rfl) (by kernel_rfl) (by kernel_rfl) (by rfl) (fun v hv => by obtain ⟨s0, s1⟩ := hv; go_simp; try with_reducible rfl) ?_
      try simp only [Act.put, List.setIfInBounds_toArray, List.set_cons_zero, List.set_cons_succ]
      refine restS_take (i := 5) S0.out rfl (by kernel_rfl) (by kernel_rfl) (by kernel_rfl) (by rfl) (fun v hv => by obtain ⟨s0, s1⟩ := hv; go_simp; try with_reducible rfl) ?_
      try simp only [Act.put, List.setIfInBounds_toArray, List.set_cons_zero, List.set_cons_succ]
      refine restS_take (i := 6) S0.out rfl (by kernel_rfl) (by kernel_rfl) (by kernel_rfl) (by rfl) (fun v hv => by obtain ⟨s0, s1⟩ := hv; go_simp; try with_reducible rfl) ?_
      try simp only [Act.put, List.setIfInBounds_toArray, List.set_cons_zero, List.set_cons_succ]
      refine restS_take (i := 7) S0.out rfl (by kernel_rfl) (by kernel_rfl) (by kernel_rfl) (by rfl) (fun v hv => by obtain ⟨s0, s1⟩ := hv; go_simp; try with_reducible rfl) ?_
      try simp only [Act.put, List.setIfInBounds_toArray, List.set_cons_zero, List.set_cons_succ]
      refine restS_take (i := 8) S0.out rfl (by kernel_rfl) (by kernel_rfl) (by kernel_rfl) (by rfl) (fun v hv => by obtain ⟨s0, s1⟩ := hv; go_simp; try with_reducible rfl) ?_
      try simp only [Act.put, List.setIfInBounds_toArray, List.set_cons_zero, List.set_cons_succ]
      refine restS_take (i := 9) S0.out rfl (by kernel_rfl) (by kernel_rfl) (by kernel_rfl) (by rfl) (fun v hv => by obtain ⟨s0, s1⟩ := hv; go_simp; try with_reducible rfl) ?_
      try simp only [Act.put, List.setIfInBounds_toArray, List.set_cons_zero, List.set_cons_succ]
      refine restS_lone (i := 10) rfl (by kernel_rfl) (by rfl) (fun K hK => ?_)
      refine Mp.wp_upd (.tmp 68) (.tmp 71) (.tmp 74) rfl keys_entry Tryz.underlying88 X9.out.ma (name, q) Y rfl rfl rfl ?_
      intro wk hmk hgk hsk
      have hGk : wk.heap[G]? = wj.heap[G]? := by_block hgk G (lt_of_heap X9.out.hG) (fun e => X9.out.ma.cells X9.out.hG e.symm)
      have hDk : wk.heap[D]? = wj.heap[D]? := by_block hgk D (lt_of_heap D9.out) (fun e => X9.out.ma.cells D9.out e.symm)
      have XA := Lib.hid (X9.out.putA hmk hgk)
      have CA := Lib.hid (Ch.trans C9.out (Ch.by_ (F := FF G L) hgk (.inr (.inl rfl))))
      have DA := Lib.hid (hDk.trans D9.out)
      refine hK.out _ _ (SX.out _ hGk hDk) ?_
      clear hK K hmk hgk hsk hGk hDk SX S0 X9 C9 D9
      try simp only [Act.put, List.setIfInBounds_toArray, List.set_cons_zero, List.set_cons_succ]
      refine restS_done (by kernel_rfl) ?_
      obtain ⟨d0, d1, _, _⟩ := row_cells DA.out
      obtain ⟨cz, wz, hcv, hcz, hbq, hgz⟩ := conv_bq wk Y
      obtain ⟨gb, hgb⟩ : ∃ gb, gb = wk.heap.size := ⟨_, rfl⟩
      rw [hYl] at hcv hcz
      rw [← hgb] at hcv hbq
      have HGB := Lib.hid hgb
      have HBQ := Lib.hid hbq
      have XB := Lib.hid (XA.out.grow hgz)
      have CB := Lib.hid (Ch.trans CA.out (Ch.grown hgz))
      have HSZ := Lib.hid CA.out.size
      clear hgb hbq hgz XA CA DA
      go_wp2
      go_ret
      have HTn : Tab4 (fnNew st name q Y m.toNat) (Mp.put fa (name, q) Y) (Mp.put fg (name, Y) ()) ff fb := ⟨HT.out.a.put HFA.out Y, HT.out.g.put name q Y, HT.out.f, HT.out.b, HT.out.w⟩
      rw [HF.out, ← HY.out]
      refine ⟨some ⟨gb, 0, none⟩, nb, cz, rfl, hYl, hcz, HBQ.out.rd, (fun x hx _ => by simp only [Option.some.injEq] at hx; subst hx; show w.heap.size ≤ gb; rw [HGB.out]; exact HSZ.out), ⟨A2, n2, c2, _, _, _, _, ?_, HTn⟩, CB.out⟩
      have h9 := XB.out
      rw [HBB.out, HK.out] at h9
      exact h9
end
end Go.Proofs.YtjklgmhaebjjaaaGreat.S11
