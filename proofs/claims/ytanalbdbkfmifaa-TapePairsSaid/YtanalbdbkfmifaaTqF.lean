/-
  The program's free: the first text from here on that is not paired.
-/
import Derived.Test.YtanalbdbkfmifaaTqE
import Derived.Maps.OwnOps
namespace Go.Proofs.Ytanalbdbkfmifaa.S11
open Go.RowKit
set_option linter.unusedVariables false
set_option linter.unusedSimpArgs false

def lenV : Value → Nat
  | .slice _ n _ => n
  | _ => 0
/-- What free leaves: the text, the map with other places to go on searching. -/
def FreeR (w : World) (M : Nat) (ps : List T3) (c : Bool) (n y : List UInt8) (e : Ending) (w' : World) : Prop :=
  ∃ f', e = .returned (.agg #[.string ⟨n.toArray⟩, .string ⟨(adv (fun u => taken ps n u c) 255 y).toArray⟩]) ∧ Mp.Mp kv kv w' M f' ∧ Side ps c f' ∧ Ch (fun k => k = M) w w'
theorem wpList_lookP {w : World} {b : Nat} {f : MS} {ops : Array Oper} {rest : List Oper} {o : Oper} {a : Act} {Q : Exit → Act → World → Prop} (hgd : o.guard = none) (m x : Operand) (ho : o.op = Op.lookup 51 m x true) {n u : List UInt8}
    (hm : a.eval m = .map (some b)) (hx : a.eval x = .agg #[.string ⟨n.toArray⟩, .string ⟨u.toArray⟩]) (h : Mp.Mp kv kv w b f)
    (hk : ∀ p k ok, Hid ((f (n, u)).getD ([], []) = (p, k)) → Hid ((f (n, u)).isSome = ok) → wpList Try.prog ops Q rest (a.put o.dst (.tuple #[.agg #[.string ⟨p.toArray⟩, .string ⟨k.toArray⟩], .bool ok])) w) : wpList Try.prog ops Q (o :: rest) a w := by
  refine wpList_plain hgd fun K' hK' => ?_
  obtain ⟨p, k, hp⟩ : ∃ p k, (f (n, u)).getD ([], []) = (p, k) := ⟨_, _, rfl⟩
  have hrun := lookP h n u hp (ok := (f (n, u)).isSome) rfl
  unfold Oper.wp
  simp only [execOp, ho, hm, hx, Sem.run_bind, hrun, Result.andThen_ok, Sem.run_pure]
  exact hK' _ _ (hk p k _ hp rfl)
theorem row_cells {w : World} {g : Nat} {u v : Value} {t : TypeId} (h : w.heap[g]? = some (.cells #[u, v] t (0, 0))) : w.cell? ⟨g, 0, none⟩ = some u ∧ w.cell? ⟨g, 1, none⟩ = some v ∧ w.frozen? ⟨g, 0, none⟩ = false ∧ w.frozen? ⟨g, 1, none⟩ = false :=
  ⟨cell_of_row w g 0 _ _ _ h, cell_of_row w g 1 _ _ _ h, frozen_of_row w g 0 _ _ h, frozen_of_row w g 1 _ _ h⟩
theorem fldP (x y : ByteArray) (W : World) : (Instr.field 67 (.agg #[.string x, .string y]) 0).run Try.prog W = .ok (.string x) W := by kernel_rfl
section
variable {w : World} {M : Nat} {f : MS} {ps : List T3} {c : Bool}
set_option maxHeartbeats 4000000 in
theorem free_any (h : Mp.Mp kv kv w M f) (hs : Side ps c f) (hps : ps.length ≤ 200) (n y : List UInt8) (hy : 0 < y.length) (hyl : y.length ≤ 1000) :
    Calls Try.prog 23 #[.map (some M), .agg #[.string ⟨n.toArray⟩, .string ⟨y.toArray⟩]] w (FreeR w M ps c n y) := by
  have HM := Lib.hid h
  have HS := Lib.hid hs
  obtain ⟨P0, K0, hP0⟩ : ∃ P0 K0, (f (n, y)).getD ([], []) = (P0, K0) := ⟨_, _, rfl⟩
  obtain ⟨ok0, hok0⟩ : ∃ ok0, (f (n, y)).isSome = ok0 := ⟨_, rfl⟩
  have hlk : ∀ W : World, Mp.Mp kv kv W M f → (Instr.lookup 51 (.map (some M)) (.agg #[.string ⟨n.toArray⟩, .string ⟨y.toArray⟩]) true).run Try.prog W = .ok (.tuple #[.agg #[.string ⟨P0.toArray⟩, .string ⟨K0.toArray⟩], .bool ok0]) W := fun W hW => lookP hW n y hP0 hok0
  have HMl := h.lt
  have HG1 := Lib.hid (show Grown w ((w.alloc (.cells #[.string ⟨n.toArray⟩, .string ⟨y.toArray⟩] 58)).alloc (.cells #[.string ⟨#[]⟩, .string ⟨#[]⟩] 58)) from (alloc_below w _).trans (Below.mono (alloc_below _ _) (by simp)))
  have hlk1 := hlk ((w.alloc (.cells #[.string ⟨n.toArray⟩, .string ⟨y.toArray⟩] 58)).alloc (.cells #[.string ⟨#[]⟩, .string ⟨#[]⟩] 58)) (h.keep (HG1.out.block M HMl))
  have HE1 := Lib.hid (show ((w.alloc (.cells #[.string ⟨n.toArray⟩, .string ⟨y.toArray⟩] 58)).alloc (.cells #[.string ⟨#[]⟩, .string ⟨#[]⟩] 58)).heap[w.heap.size]? = some (.cells #[.string ⟨n.toArray⟩, .string ⟨y.toArray⟩] 58 (0, 0)) from (Below.heap_alloc _ _ _ (by simp)).trans (heap_alloc_new w _))
  clear h hs hlk
  go_enter Try.func23, Try.ntmps23
  go_wp2_with fail
  have HG2 := Lib.hid (show Grown w (((w.alloc (.cells #[.string ⟨n.toArray⟩, .string ⟨y.toArray⟩] 58)).alloc (.cells #[.string ⟨#[]⟩, .string ⟨#[]⟩] 58)).alloc (.cells #[.string ⟨P0.toArray⟩, .string ⟨K0.toArray⟩] 67)) from HG1.out.trans (alloc_below _ _))
  have HE2 := Lib.hid (show (((w.alloc (.cells #[.string ⟨n.toArray⟩, .string ⟨y.toArray⟩] 58)).alloc (.cells #[.string ⟨#[]⟩, .string ⟨#[]⟩] 58)).alloc (.cells #[.string ⟨P0.toArray⟩, .string ⟨K0.toArray⟩] 67)).heap[w.heap.size]? = some (.cells #[.string ⟨n.toArray⟩, .string ⟨y.toArray⟩] 58 (0, 0)) from (Below.heap_alloc _ _ _ (by simp; omega)).trans HE1.out)
  have HR2 := Lib.hid (show (((w.alloc (.cells #[.string ⟨n.toArray⟩, .string ⟨y.toArray⟩] 58)).alloc (.cells #[.string ⟨#[]⟩, .string ⟨#[]⟩] 58)).alloc (.cells #[.string ⟨P0.toArray⟩, .string ⟨K0.toArray⟩] 67)).heap[w.heap.size + 1]? = some (.cells #[.string ⟨#[]⟩, .string ⟨#[]⟩] 58 (0, 0)) from (Below.heap_alloc _ _ _ (by simp)).trans (by have := heap_alloc_new (w.alloc (.cells #[.string ⟨n.toArray⟩, .string ⟨y.toArray⟩] 58)) (.cells #[.string ⟨#[]⟩, .string ⟨#[]⟩] 58); simpa using this))
  have HP2 := Lib.hid (show (((w.alloc (.cells #[.string ⟨n.toArray⟩, .string ⟨y.toArray⟩] 58)).alloc (.cells #[.string ⟨#[]⟩, .string ⟨#[]⟩] 58)).alloc (.cells #[.string ⟨P0.toArray⟩, .string ⟨K0.toArray⟩] 67)).heap[w.heap.size + 1 + 1]? = some (.cells #[.string ⟨P0.toArray⟩, .string ⟨K0.toArray⟩] 67 (0, 0)) from by have := heap_alloc_new ((w.alloc (.cells #[.string ⟨n.toArray⟩, .string ⟨y.toArray⟩] 58)).alloc (.cells #[.string ⟨#[]⟩, .string ⟨#[]⟩] 58)) (.cells #[.string ⟨P0.toArray⟩, .string ⟨K0.toArray⟩] 67); simpa using this)
  obtain ⟨E, hE⟩ : ∃ E, E = w.heap.size := ⟨_, rfl⟩
  rw [← hE] at HE2 HR2 HP2 HMl ⊢
  have HE := Lib.hid hE
  have H0 := Lib.hid hP0
  have H1 := Lib.hid hok0
  clear hlk1 HG1 HE1 hE hP0 hok0
  generalize ((w.alloc _).alloc _).alloc _ = w2 at HG2 HE2 HR2 HP2 ⊢
  go_loopw [5, 6, 7] (fun v5 v6 v7 wr => ∃ (i : Nat) (Y : List UInt8) (us : List (List UInt8)) (A : Option Addr) (cc m Bp : Nat) (P K : List UInt8) (ok : Bool), v5 = .slice A m cc ∧ v6 = .pointer (some ⟨Bp, 0, none⟩) ∧ v7 = .bool ok ∧ m ≤ 200 ∧ E + 1 < Bp ∧ Hid (us.length = m) ∧ Hid (m ≤ i) ∧ Hid (i ≤ 200) ∧ Hid (Y = itn i y) ∧ Hid (∀ j, j < i → taken ps n (itn j y) c = true) ∧ Hid (∀ u ∈ us, ∃ j, j < i ∧ u = itn j y) ∧
    Hid ((f (n, Y)).getD ([], []) = (P, K)) ∧ Hid ((f (n, Y)).isSome = ok) ∧ Hid (wr.heap[E]? = some (.cells #[.string ⟨n.toArray⟩, .string ⟨Y.toArray⟩] 58 (0, 0))) ∧ Hid (wr.heap[E + 1]? = some (.cells #[.string ⟨#[]⟩, .string ⟨#[]⟩] 58 (0, 0))) ∧ Hid (wr.heap[Bp]? = some (.cells #[.string ⟨P.toArray⟩, .string ⟨K.toArray⟩] 67 (0, 0))) ∧ Hid (OwnE wr (E + 2) A cc n us) ∧ Hid (Grown w wr)) (fun v5 _ _ _ => 300 - lenV v5)
  case atStart => exact ⟨0, y, [], none, 0, 0, E + 1 + 1, P0, K0, ok0, rfl, rfl, rfl, by omega, by omega, rfl, Nat.le_refl _, (by show 0 ≤ 200; omega), rfl, fun j hj => by omega, (fun u hu => by cases hu), H0.out, H1.out, HE2.out, HR2.out, HP2.out, OwnE.nil _ _ _, HG2.out⟩
  case round =>
    clear HE2 HR2 HP2 HG2 H0 H1
    obtain ⟨i, Y, us, A, cc, m, Bp, P, K, ok, rfl, rfl, rfl, hm, hBp, Hm, Hmi, Hi, HY, HT, HU, HPK, Hok, HEb, HRb, HBb, HO, HG⟩ := hrel
    cases ok with
    | true =>
      have hfY : f (n, Y) = some (P, K) := by
        have h1 := HPK.out
        have h2 := Hok.out
        cases hf : f (n, Y) with
        | none => rw [hf] at h2; cases h2
        | some q => rw [hf] at h1; rw [← h1]; rfl
      obtain ⟨i', hii, hi2, hY', hT'⟩ := go_on HS.out hy hps HT.out (by rw [← HY.out]; exact hfY)
      rw [← HY.out] at hY'
      have HII := Lib.hid hii
      have HI2 := Lib.hid hi2
      have HTn := Lib.hid hT'
      have HYn := Lib.hid hY'
      have HUn := Lib.hid (show ∀ u ∈ us ++ [Y], ∃ j, j < i' ∧ u = itn j y from fun u hu => by
        rcases List.mem_append.1 hu with h1 | h1
        · obtain ⟨j, hj, e⟩ := HU.out u h1
          exact ⟨j, by omega, e⟩
        · rw [List.mem_singleton.1 h1, HY.out]
          exact ⟨i, hii, rfl⟩)
      clear hii hi2 hT' hY' hfY
      obtain ⟨e0, e1, e2, e3⟩ := row_cells HEb.out
      obtain ⟨b0, b1, b2, b3⟩ := row_cells HBb.out
      have hE2 : E + 2 ≤ wr.heap.size := by have := lt_of_heap HBb.out; omega
      have HOA := Lib.hid (HO.out.grow (alloc_below wr (.cells #[.string ⟨n.toArray⟩, .string ⟨Y.toArray⟩] 58)))
      have HNA := Lib.hid (heap_alloc_new wr (.cells #[.string ⟨n.toArray⟩, .string ⟨Y.toArray⟩] 58))
      by_cases hK : K = []
      · subst hK
        have hne : E ≠ Bp := by omega
        have hne2 : Bp ≠ E := by omega
        have hYl : Y.length ≤ 1000 := by rw [HY.out, itn_len]; exact hyl
        go_wp2_with (first
          | (at_builtin
             refine wpList_appE rfl (.tmp 23) (.tmp 25) rfl (n := n) (us := us) (u := Y) Hm.out rfl HOA.out rfl HNA.out (by omega) (by have := (alloc_below wr (.cells #[.string ⟨n.toArray⟩, .string ⟨Y.toArray⟩] 58)).size; omega) ?_
             intro A9 c9 w9 ho9 hg9
             have HB9 := Lib.hid (show w9.heap[Bp]? = some (.cells #[.string ⟨P.toArray⟩, .string ⟨#[]⟩] 67 (0, 0)) from (hg9.block Bp (by have := lt_of_heap HBb.out; simp; omega) (fun e => by obtain ⟨x, hx, hxk⟩ := own_blk e; exact HO.out.off HBb.out (by decide) x hx hxk)).trans ((Below.heap_alloc _ _ _ (lt_of_heap HBb.out)).trans HBb.out))
             have HE9 := Lib.hid (show w9.heap[E]? = some (.cells #[.string ⟨n.toArray⟩, .string ⟨Y.toArray⟩] 58 (0, 0)) from (hg9.block E (by simp; omega) (fun e => by obtain ⟨x, hx, hxk⟩ := own_blk e; have := (HO.out.lt x hx).1; omega)).trans ((Below.heap_alloc _ _ _ (by omega)).trans HEb.out))
             have HR9 := Lib.hid (show w9.heap[E + 1]? = some (.cells #[.string ⟨#[]⟩, .string ⟨#[]⟩] 58 (0, 0)) from (hg9.block (E + 1) (by simp; omega) (fun e => by obtain ⟨x, hx, hxk⟩ := own_blk e; have := (HO.out.lt x hx).1; omega)).trans ((Below.heap_alloc _ _ _ (by omega)).trans HRb.out))
             have HG9 := Lib.hid (show Grown w w9 from ⟨hg9.os.trans ((alloc_below wr _).os.trans HG.out.os), hg9.tape.trans ((alloc_below wr _).tape.trans HG.out.tape), hg9.output.trans ((alloc_below wr _).output.trans HG.out.output), Nat.le_trans HG.out.size (Nat.le_trans (alloc_below wr _).size hg9.size), fun k hk => (hg9.block k (by simp; have := HG.out.size; omega) (fun e => by obtain ⟨x, hx, hxk⟩ := own_blk e; have := (HO.out.lt x hx).1; have := HE.out; omega)).trans ((Below.heap_alloc _ _ _ (by have := HG.out.size; omega)).trans (HG.out.block k hk))⟩)
             have HO9 := Lib.hid ho9
             obtain ⟨q0, q1, q2, q3⟩ := row_cells HE9.out
             obtain ⟨r0, r1, r2, r3⟩ := row_cells HB9.out
             clear ho9 hg9))
        refine (next_any Y w9 hYl).mono ?_
        rintro e w10 ⟨rfl, hg10⟩
        have HBX := Lib.hid ((hg10.block Bp (lt_of_heap HB9.out)).trans HB9.out)
        have HEX := Lib.hid ((hg10.block E (lt_of_heap HE9.out)).trans HE9.out)
        have HRX := Lib.hid ((hg10.block (E + 1) (lt_of_heap HR9.out)).trans HR9.out)
        have HGX := Lib.hid (HG9.out.trans hg10)
        have HOX := Lib.hid (HO9.out.grow hg10)
        have HYK := HYn.out
        simp only [if_true] at HYK
        obtain ⟨N, hN⟩ : ∃ N, N = nxt Y := ⟨_, rfl⟩
        rw [← hN] at HYK ⊢
        have HNE := Lib.hid HYK
        obtain ⟨x0, x1, x2, x3⟩ := row_cells HEX.out
        obtain ⟨y0, y1, y2, y3⟩ := row_cells HBX.out
        clear hg10 hN HYK HE9 HB9 HR9 HG9 HO9 q0 q1 q2 q3 r0 r1 r2 r3 e0 e1 e2 e3 b0 b1 b2 b3
        have HEV := Lib.hid (show (w10.setCell ⟨Bp, 1, none⟩ (.string ⟨N.toArray⟩)).heap[E]? = some (.cells #[.string ⟨n.toArray⟩, .string ⟨Y.toArray⟩] 58 (0, 0)) from (heap_setCell_other w10 ⟨Bp, 1, none⟩ E _ hne).trans HEX.out)
        have HEW := Lib.hid (show ∀ o : Obj, (((w10.setCell ⟨Bp, 1, none⟩ (.string ⟨N.toArray⟩)).setCell ⟨E, 1, none⟩ (.string ⟨N.toArray⟩)).alloc o).heap[E]? = some (.cells #[.string ⟨n.toArray⟩, .string ⟨N.toArray⟩] 58 (0, 0)) from fun o => (Below.heap_alloc _ _ _ (by have := lt_of_heap HEX.out; simpa using this)).trans (heap_setCell_same _ E 1 _ _ _ HEV.out))
        have HRW := Lib.hid (show ∀ o : Obj, (((w10.setCell ⟨Bp, 1, none⟩ (.string ⟨N.toArray⟩)).setCell ⟨E, 1, none⟩ (.string ⟨N.toArray⟩)).alloc o).heap[E + 1]? = some (.cells #[.string ⟨#[]⟩, .string ⟨#[]⟩] 58 (0, 0)) from fun o => (Below.heap_alloc _ _ _ (by have := lt_of_heap HRX.out; simpa using this)).trans ((heap_setCell_other _ ⟨E, 1, none⟩ _ _ (by simp)).trans ((heap_setCell_other w10 ⟨Bp, 1, none⟩ _ _ (fun e => by simp only at e; omega)).trans HRX.out)))
        have HGW := Lib.hid (show ∀ o : Obj, Grown w (((w10.setCell ⟨Bp, 1, none⟩ (.string ⟨N.toArray⟩)).setCell ⟨E, 1, none⟩ (.string ⟨N.toArray⟩)).alloc o) from fun o => chF_grown (Ch.alloc (Ch.setCell (Ch.setCell (Ch.grown HGX.out) (p := ⟨Bp, 1, none⟩) (.inr (by show w.heap.size ≤ Bp; have := HE.out; omega)) _) (p := ⟨E, 1, none⟩) (.inr (by show w.heap.size ≤ E; have := HE.out; omega)) _) _))
        have HMW := Lib.hid (fun o => HM.out.keep ((HGW.out o).block M (by have := HE.out; omega)))
        have HOW := Lib.hid (show ∀ o : Obj, OwnE (((w10.setCell ⟨Bp, 1, none⟩ (.string ⟨N.toArray⟩)).setCell ⟨E, 1, none⟩ (.string ⟨N.toArray⟩)).alloc o) (E + 2) A9 c9 n (us ++ [Y]) from fun o => OwnE.grow ((HOX.out.keep fun x hx => heap_setCell_other w10 ⟨Bp, 1, none⟩ _ _ (fun e => HOX.out.off HBX.out (by decide) x hx e)).keep fun x hx => heap_setCell_other _ ⟨E, 1, none⟩ _ _ (fun e => by have := (HOX.out.lt x hx).1; simp only at e; omega)) (alloc_below _ _))
        obtain ⟨v0, v1, v2, v3⟩ := row_cells (HEW.out (.cells #[.string ⟨P.toArray⟩, .string ⟨N.toArray⟩] 67))
        go_wp2_with (first
          | (at_lookup
             refine wpList_lookP rfl (.tmp 18) (.tmp 19) rfl (n := n) (u := N) rfl rfl (HMW.out _) ?_
             intro P7 K7 ok7 hP7 hok7))
        exact ⟨⟨i', N, us ++ [Y], A9, c9, m + 1, w10.heap.size, P7, K7, ok7, rfl, by simp, rfl, by have := Hmi.out; have := HII.out; have := HI2.out; omega, by have := lt_of_heap HRX.out; omega, by show (us ++ [Y]).length = m + 1; rw [List.length_append, Hm.out]; rfl, by show m + 1 ≤ i'; have := Hmi.out; have := HII.out; omega, HI2.out, HNE.out, HTn.out, HUn.out, hP7, hok7, HEW.out _, HRW.out _, by show _ = _; have := heap_alloc_new ((w10.setCell ⟨Bp, 1, none⟩ (.string ⟨N.toArray⟩)).setCell ⟨E, 1, none⟩ (.string ⟨N.toArray⟩)) (.cells #[.string ⟨P7.toArray⟩, .string ⟨K7.toArray⟩] 67); simpa using this, HOW.out _, HGW.out _⟩, by simp only [lenV]; omega⟩
      · have hKe : K.isEmpty = false := by cases K with | nil => exact absurd rfl hK | cons _ _ => rfl
        have hne : E ≠ Bp := by omega
        have hne2 : Bp ≠ E := by omega
        go_wp2_with (first
          | (at_builtin
             refine wpList_appE rfl (.tmp 23) (.tmp 25) rfl (n := n) (us := us) (u := Y) Hm.out rfl HOA.out rfl HNA.out (by omega) (by have := (alloc_below wr (.cells #[.string ⟨n.toArray⟩, .string ⟨Y.toArray⟩] 58)).size; omega) ?_
             intro A9 c9 w9 ho9 hg9
             have HB9 := Lib.hid (show w9.heap[Bp]? = some (.cells #[.string ⟨P.toArray⟩, .string ⟨K.toArray⟩] 67 (0, 0)) from (hg9.block Bp (by have := lt_of_heap HBb.out; simp; omega) (fun e => by obtain ⟨x, hx, hxk⟩ := own_blk e; exact HO.out.off HBb.out (by decide) x hx hxk)).trans ((Below.heap_alloc _ _ _ (lt_of_heap HBb.out)).trans HBb.out))
             have HE9 := Lib.hid (show w9.heap[E]? = some (.cells #[.string ⟨n.toArray⟩, .string ⟨Y.toArray⟩] 58 (0, 0)) from (hg9.block E (by simp; omega) (fun e => by obtain ⟨x, hx, hxk⟩ := own_blk e; have := (HO.out.lt x hx).1; omega)).trans ((Below.heap_alloc _ _ _ (by omega)).trans HEb.out))
             have HR9 := Lib.hid (show w9.heap[E + 1]? = some (.cells #[.string ⟨#[]⟩, .string ⟨#[]⟩] 58 (0, 0)) from (hg9.block (E + 1) (by simp; omega) (fun e => by obtain ⟨x, hx, hxk⟩ := own_blk e; have := (HO.out.lt x hx).1; omega)).trans ((Below.heap_alloc _ _ _ (by omega)).trans HRb.out))
             have HG9 := Lib.hid (show Grown w w9 from ⟨hg9.os.trans ((alloc_below wr _).os.trans HG.out.os), hg9.tape.trans ((alloc_below wr _).tape.trans HG.out.tape), hg9.output.trans ((alloc_below wr _).output.trans HG.out.output), Nat.le_trans HG.out.size (Nat.le_trans (alloc_below wr _).size hg9.size), fun k hk => (hg9.block k (by simp; have := HG.out.size; omega) (fun e => by obtain ⟨x, hx, hxk⟩ := own_blk e; have := (HO.out.lt x hx).1; have := HE.out; omega)).trans ((Below.heap_alloc _ _ _ (by have := HG.out.size; omega)).trans (HG.out.block k hk))⟩)
             have HO9 := Lib.hid ho9
             obtain ⟨q0, q1, q2, q3⟩ := row_cells HE9.out
             obtain ⟨r0, r1, r2, r3⟩ := row_cells HB9.out
             have HEW := Lib.hid (show ∀ o : Obj, ((w9.setCell ⟨E, 1, none⟩ (.string ⟨K.toArray⟩)).alloc o).heap[E]? = some (.cells #[.string ⟨n.toArray⟩, .string ⟨K.toArray⟩] 58 (0, 0)) from fun o => (Below.heap_alloc _ _ _ (by have := lt_of_heap HE9.out; simpa using this)).trans (heap_setCell_same w9 E 1 _ _ _ HE9.out))
             have HRW := Lib.hid (show ∀ o : Obj, ((w9.setCell ⟨E, 1, none⟩ (.string ⟨K.toArray⟩)).alloc o).heap[E + 1]? = some (.cells #[.string ⟨#[]⟩, .string ⟨#[]⟩] 58 (0, 0)) from fun o => (Below.heap_alloc _ _ _ (by have := lt_of_heap HR9.out; simpa using this)).trans ((heap_setCell_other w9 ⟨E, 1, none⟩ _ _ (by simp)).trans HR9.out))
             have HGW := Lib.hid (show ∀ o : Obj, Grown w ((w9.setCell ⟨E, 1, none⟩ (.string ⟨K.toArray⟩)).alloc o) from fun o => chF_grown (Ch.alloc (Ch.setCell (Ch.grown HG9.out) (p := ⟨E, 1, none⟩) (.inr (by show w.heap.size ≤ E; have := HE.out; omega)) _) _))
             have HMW := Lib.hid (fun o => HM.out.keep ((HGW.out o).block M (by have := HE.out; omega)))
             have HOW := Lib.hid (show ∀ o : Obj, OwnE ((w9.setCell ⟨E, 1, none⟩ (.string ⟨K.toArray⟩)).alloc o) (E + 2) A9 c9 n (us ++ [Y]) from fun o => OwnE.grow (HO9.out.keep fun x hx => heap_setCell_other w9 ⟨E, 1, none⟩ _ _ (fun e => by have := (HO9.out.lt x hx).1; simp only at e; omega)) (alloc_below _ _))
             obtain ⟨v0, v1, v2, v3⟩ := row_cells (HEW.out (.cells #[.string ⟨P.toArray⟩, .string ⟨K.toArray⟩] 67))
             clear ho9 hg9)
          | (at_lookup
             refine wpList_lookP rfl (.tmp 18) (.tmp 19) rfl (n := n) (u := K) rfl rfl (HMW.out _) ?_
             intro P7 K7 ok7 hP7 hok7))
        have HYK := HYn.out
        rw [if_neg hK] at HYK
        exact ⟨⟨i', K, us ++ [Y], A9, c9, m + 1, w9.heap.size, P7, K7, ok7, rfl, by simp, rfl, by have := Hmi.out; have := HII.out; have := HI2.out; omega, by have := lt_of_heap HR9.out; omega, by show (us ++ [Y]).length = m + 1; rw [List.length_append, Hm.out]; rfl, by show m + 1 ≤ i'; have := Hmi.out; have := HII.out; omega, HI2.out, HYK, HTn.out, HUn.out, hP7, hok7, HEW.out _, HRW.out _, by show _ = _; have := heap_alloc_new (w9.setCell ⟨E, 1, none⟩ (.string ⟨K.toArray⟩)) (.cells #[.string ⟨P7.toArray⟩, .string ⟨K7.toArray⟩] 67); simpa using this, HOW.out _, HGW.out _⟩, by simp only [lenV]; omega⟩
    | false =>
      have hnt : taken ps n Y c = false := by rw [← HS.out.has]; exact Hok.out
      have HADV := Lib.hid (show adv (fun u => taken ps n u c) 255 y = Y by rw [HY.out]; exact adv_at _ i 255 y (by have := Hi.out; omega) HT.out (by rw [← HY.out]; exact hnt))
      have HC := Lib.hid (Ch.grown (F := fun k => k = M) HG.out)
      have HMr := Lib.hid (HM.out.keep (HG.out.block M (by have := HE.out; omega)))
      clear hnt
      go_wp2_with fail
      go_loopw [40] (fun v40 wr => ∃ (q : Nat) (f' : MS), v40 = .int .i64 (q : Int) ∧ q ≤ m ∧ Hid (Mp.Mp kv kv wr M f') ∧ Hid (Side ps c f') ∧ Hid (wr.heap[E]? = some (.cells #[.string ⟨n.toArray⟩, .string ⟨Y.toArray⟩] 58 (0, 0))) ∧ Hid (wr.heap[E + 1]? = some (.cells #[.string ⟨#[]⟩, .string ⟨#[]⟩] 58 (0, 0))) ∧ Hid (OwnE wr (E + 2) A cc n us) ∧ Hid (Ch (fun k => k = M) w wr)) (fun v40 _ => m - (intOf v40).toNat)
      case atStart => exact ⟨0, f, rfl, Nat.zero_le _, HMr.out, HS.out, HEb.out, HRb.out, HO.out, HC.out⟩
      case round =>
        clear HMr HC HEb HRb HBb HO HG
        obtain ⟨q, f', rfl, hq, HMq, HSq, HEq, HRq, HOq, HCq⟩ := hrel
        by_cases hqm : q < m
        · have bq : (q : Int) < (m : Int) := by omega
          have hqu : q < us.length := by rw [Hm.out]; exact hqm
          obtain ⟨g, hA, hgl, hc0, hc1⟩ := HOq.out.at_ q hqu
          obtain ⟨j, hji, huj⟩ := HU.out us[q] (List.getElem_mem hqu)
          obtain ⟨u, hu⟩ : ∃ u, u = us[q] := ⟨_, rfl⟩
          rw [← hu] at huj hc1
          have Hu := Lib.hid huj
          have HJ := Lib.hid hji
          obtain ⟨pk, hpk⟩ : ∃ pk, f' (n, u) = some pk := by
            have h1 := HSq.out.has n u
            rw [huj, HT.out j hji, ← huj] at h1
            exact Option.isSome_iff_exists.1 h1
          obtain ⟨p, k0⟩ := pk
          have hlk := fun W (hW : Mp.Mp kv kv W M f') => lookP1 hW n u hpk
          have HSn := Lib.hid (HSq.out.hop (k := Y) hpk (i - j) (by omega) (by rw [huj, itn_add, show i - j + j = i by omega]; exact HY.out) (fun a ha => by rw [huj, itn_add]; exact HT.out _ (by omega)))
          subst hA
          clear huj hji hqu hu hpk
          obtain ⟨e0, e1, e2, e3⟩ := row_cells HEq.out
          have hMl2 : M < wr.heap.size := HMq.out.lt
          have hEl2 : E < wr.heap.size := lt_of_heap HEq.out
          have Hgl := Lib.hid hgl
          have hq2 : m - (q + 1) < m - q := by omega
          go_wp2_with fail
          have GA := Lib.hid (alloc_below wr (.cells #[.string ⟨n.toArray⟩, .string ⟨u.toArray⟩] 58))
          have NA := Lib.hid (heap_alloc_new wr (.cells #[.string ⟨n.toArray⟩, .string ⟨u.toArray⟩] 58))
          obtain ⟨g9, hg9⟩ : ∃ g9, g9 = wr.heap.size := ⟨_, rfl⟩
          rw [← hg9] at NA ⊢
          have Hg9 := Lib.hid hg9
          clear hg9 hc0 hc1 e0 e1 e2 e3 hMl2 hEl2
          generalize wr.alloc _ = wa at GA NA ⊢
          generalize hwd : wa.drew = wd
          have GD := Lib.hid (show Grown wr wd by rw [← hwd]; exact Below.drew GA.out)
          have ND := Lib.hid (show wd.heap[g9]? = some (.cells #[.string ⟨n.toArray⟩, .string ⟨u.toArray⟩] 58 (0, 0)) by rw [← hwd]; exact NA.out)
          have ED := Lib.hid ((GD.out.block E (lt_of_heap HEq.out)).trans HEq.out)
          have RD := Lib.hid ((GD.out.block (E + 1) (lt_of_heap HRq.out)).trans HRq.out)
          have MD := Lib.hid (HMq.out.keep (GD.out.block M HMq.out.lt))
          have OD := Lib.hid (HOq.out.grow GD.out)
          have CD := Lib.hid (Ch.trans HCq.out (Ch.grown GD.out))
          have hlkd := hlk wd MD.out
          have hfd := fldP
          obtain ⟨t0, t1, _, _⟩ := row_cells ND.out
          obtain ⟨_, t3, _, _⟩ := row_cells ED.out
          have S0 := Lib.hid (show wd.cell? ⟨g9, 0, none⟩ = some (.string ⟨n.toArray⟩) ∧ wd.cell? ⟨g9, 1, none⟩ = some (.string ⟨u.toArray⟩) ∧ wd.cell? ⟨E, 1, none⟩ = some (.string ⟨Y.toArray⟩) from ⟨t0, t1, t3⟩)
          refine restS_begin (fun v : World => v.cell? ⟨g9, 0, none⟩ = some (.string ⟨n.toArray⟩) ∧ v.cell? ⟨g9, 1, none⟩ = some (.string ⟨u.toArray⟩) ∧ v.cell? ⟨E, 1, none⟩ = some (.string ⟨Y.toArray⟩)) (by kernel_rfl) ?_
          rw [hwd]
          clear hwd hlk GA NA HEq HRq HOq HMq HCq t0 t1 t3
          refine restS_take (i := 0) S0.out rfl (by kernel_rfl) (by kernel_rfl) (by kernel_rfl) (by rfl) (fun v hv => by obtain ⟨s0, s1, s2⟩ := hv; go_simp; try with_reducible rfl) ?_
          try simp only [Act.put, List.setIfInBounds_toArray, List.set_cons_zero, List.set_cons_succ]
          refine restS_take (i := 1) S0.out rfl (by kernel_rfl) (by kernel_rfl) (by kernel_rfl) (by rfl) (fun v hv => by obtain ⟨s0, s1, s2⟩ := hv; go_simp; try with_reducible rfl) ?_
          try simp only [Act.put, List.setIfInBounds_toArray, List.set_cons_zero, List.set_cons_succ]
          refine restS_take (i := 2) S0.out rfl (by kernel_rfl) (by kernel_rfl) (by kernel_rfl) (by rfl) (fun v hv => by obtain ⟨s0, s1, s2⟩ := hv; go_simp; try with_reducible rfl) ?_
          try simp only [Act.put, List.setIfInBounds_toArray, List.set_cons_zero, List.set_cons_succ]
          refine restS_take (i := 3) S0.out rfl (by kernel_rfl) (by kernel_rfl) (by kernel_rfl) (by rfl) (fun v hv => by obtain ⟨s0, s1, s2⟩ := hv; go_simp; try with_reducible rfl) ?_
          try simp only [Act.put, List.setIfInBounds_toArray, List.set_cons_zero, List.set_cons_succ]
          refine restS_take (i := 6) S0.out rfl (by kernel_rfl) (by kernel_rfl) (by kernel_rfl) (by rfl) (fun v hv => by obtain ⟨s0, s1, s2⟩ := hv; go_simp; try with_reducible rfl) ?_
          try simp only [Act.put, List.setIfInBounds_toArray, List.set_cons_zero, List.set_cons_succ]
          refine restS_take (i := 7) S0.out rfl (by kernel_rfl) (by kernel_rfl) (by kernel_rfl) (by rfl) (fun v hv => by obtain ⟨s0, s1, s2⟩ := hv; go_simp; try with_reducible rfl) ?_
          try simp only [Act.put, List.setIfInBounds_toArray, List.set_cons_zero, List.set_cons_succ]
          refine restS_lone (i := 4) rfl (by kernel_rfl) (by rfl) (fun K hK => ?_)
          go_simp
          refine hK.out _ _ S0.out ?_
          clear hK K
          try simp only [Act.put, List.setIfInBounds_toArray, List.set_cons_zero, List.set_cons_succ]
          refine restS_take (i := 5) S0.out rfl (by kernel_rfl) (by kernel_rfl) (by kernel_rfl) (by rfl) (fun v hv => by obtain ⟨s0, s1, s2⟩ := hv; go_simp; try with_reducible rfl) ?_
          try simp only [Act.put, List.setIfInBounds_toArray, List.set_cons_zero, List.set_cons_succ]
          refine restS_take (i := 8) S0.out rfl (by kernel_rfl) (by kernel_rfl) (by kernel_rfl) (by rfl) (fun v hv => by obtain ⟨s0, s1, s2⟩ := hv; go_simp; try with_reducible rfl) ?_
          try simp only [Act.put, List.setIfInBounds_toArray, List.set_cons_zero, List.set_cons_succ]
          refine restS_lone (i := 9) rfl (by kernel_rfl) (by rfl) (fun K hK => ?_)
          refine Mp.wp_upd (.tmp 44) (.tmp 45) (.tmp 52) rfl keys_entry Try.underlying51 MD.out (n, u) (p, Y) rfl rfl rfl ?_
          intro w9 hm9 hgr9 hs9
          have hMne : ∀ k cs t, wd.heap[k]? = some (Obj.cells cs t (0, 0)) → w9.heap[k]? = some (Obj.cells cs t (0, 0)) := fun k cs t hk => (by_block hgr9 k (lt_of_heap hk) (fun e => MD.out.cells hk e.symm)).trans hk
          have M9 := Lib.hid hm9
          have E9 := Lib.hid (hMne _ _ _ ED.out)
          have R9 := Lib.hid (hMne _ _ _ RD.out)
          have N9 := Lib.hid (hMne _ _ _ ND.out)
          have C9 := Lib.hid (Ch.trans CD.out (Ch.by_ (F := fun k => k = M) hgr9 rfl))
          have O9 := Lib.hid (OD.out.keep fun x hx => by_block hgr9 x.block (OD.out.lt x hx).2 (fun e => by have := (OD.out.lt x hx).1; omega))
          clear hm9 hgr9 hs9 hMne
          obtain ⟨t0, t1, _, _⟩ := row_cells N9.out
          obtain ⟨_, t3, _, _⟩ := row_cells E9.out
          refine hK.out _ _ ⟨t0, t1, t3⟩ ?_
          clear hK K t0 t1 t3 hlkd S0
          try simp only [Act.put, List.setIfInBounds_toArray, List.set_cons_zero, List.set_cons_succ]
          refine restS_done (by kernel_rfl) ?_
          go_wp2
          exact ⟨⟨q + 1, _, by simp, by omega, M9.out, HSn.out, E9.out, R9.out, O9.out, C9.out⟩, by simp [intOf]; omega⟩
        · obtain rfl : q = m := by omega
          obtain ⟨e0, e1, e2, e3⟩ := row_cells HEq.out
          obtain ⟨r0, r1, r2, r3⟩ := row_cells HRq.out
          have Rn := Lib.hid (show ((wr.setCell ⟨E + 1, 0, none⟩ (.string ⟨n.toArray⟩)).setCell ⟨E + 1, 1, none⟩ (.string ⟨Y.toArray⟩)).heap[E + 1]? = some (.cells #[.string ⟨n.toArray⟩, .string ⟨Y.toArray⟩] 58 (0, 0)) from heap_setCell_same _ (E + 1) 1 _ _ _ (heap_setCell_same wr (E + 1) 0 _ _ _ HRq.out))
          have Mn := Lib.hid (show Mp.Mp kv kv ((wr.setCell ⟨E + 1, 0, none⟩ (.string ⟨n.toArray⟩)).setCell ⟨E + 1, 1, none⟩ (.string ⟨Y.toArray⟩)) M f' from (HMq.out.keep (heap_setCell_other _ _ M _ (fun e => by simp only at e; omega))).keep (heap_setCell_other _ _ M _ (fun e => by simp only at e; omega)))
          have Cn := Lib.hid (Ch.setCell (Ch.setCell HCq.out (p := ⟨E + 1, 0, none⟩) (.inr (by show w.heap.size ≤ E + 1; have := HE.out; omega)) (.string ⟨n.toArray⟩)) (p := ⟨E + 1, 1, none⟩) (.inr (by show w.heap.size ≤ E + 1; have := HE.out; omega)) (.string ⟨Y.toArray⟩))
          go_wp2
          refine bodyPost_ret (v := .agg #[.string ⟨n.toArray⟩, .string ⟨Y.toArray⟩]) ?_ rfl ⟨f', by rw [HADV.out], Mn.out, HSq.out, Cn.out⟩
          exact results_cell_row (p := 4) (ty := 58) rfl _ _ (E + 1) 58 _ (0, 0) _ rfl Rn.out Try.underlying58 rfl (by kernel_rfl)
end
end Go.Proofs.Ytanalbdbkfmifaa.S11
