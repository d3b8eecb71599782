/-
  Contract of the reference's taken (tape).
-/
import Derived.Test.YtanalbdbkfmifaaTpF
namespace Go.Proofs.Ytanalbdbkfmifaa.S11
open Go.RowKit
set_option linter.unusedVariables false
set_option linter.unusedSimpArgs false

set_option maxHeartbeats 4000000 in
theorem refTaken_any (B base R : Nat) (Af Ap : Option Addr) (st : St) (name s : List UInt8) (first : Bool) (w : World) (hB : B ≤ base) (hps : st.ps.length ≤ 1000) (hs : s.length ≤ 1000000) (h : Rz w B base R Af Ap st) :
    Calls Try.prog 21 #[.pointer (some ⟨R, 0, none⟩), .string ⟨name.toArray⟩, .string ⟨s.toArray⟩, .bool first] w fun e w' =>
      e = .returned (.bool (taken st.ps name s first)) ∧ Grown w w' := by
  have H0 := Lib.hid h
  have HLT := Lib.hid (show ∀ k, RF R Af Ap k → k < w.heap.size from fun k hk => (h.lt k hk).2)
  obtain ⟨hb, hap, A, n0, c, cf, cp, hR, hn0, hn0c, hrd, hof, hop⟩ := h
  obtain ⟨np, hnp⟩ : ∃ np, np = st.ps.length := ⟨_, rfl⟩
  rw [← hnp] at hR
  have HNP := Lib.hid hnp
  have HOP := Lib.hid hop
  have HR := Lib.hid hR
  have hlep : np ≤ cp := by have := hop.le; omega
  have hnp1 : np ≤ 1000 := by omega
  clear hb hap hR hn0 hn0c hrd hof hop hnp hps
  go_enter Try.func21, Try.ntmps21
  go_wp2
  go_loopw [9] (fun v9 wr => ∃ (i : Nat), v9 = .int .i64 (i : Int) ∧ i ≤ np ∧ Hid (Grown w wr) ∧ Hid (∀ j (h : j < st.ps.length), j < i → hitP name s first st.ps[j] = false)) (fun v9 _ => np - (intOf v9).toNat)
  case atStart => exact ⟨0, rfl, Nat.zero_le _, Grown.refl _, fun j _ hj => by omega⟩
  case round =>
    obtain ⟨i, rfl, hi, HG, HN⟩ := hrel
    have hR2 : wr.heap[R]? = w.heap[R]? := HG.out.block R (HLT.out R (.inl rfl))
    have hc2 : wr.cell? ⟨R, 2, none⟩ = some (.slice Ap np cp) := cell_of_row wr R 2 _ _ (0, 0) (hR2.trans HR.out)
    clear hR2
    by_cases hlt : i < np
    · have bi : (i : Int) < (np : Int) := by omega
      have hif : i < st.ps.length := by have := HNP.out; omega
      obtain ⟨g, hAp, hg, k1, k2, k3⟩ := HOP.out.at_ i hif
      obtain ⟨t, ht⟩ : ∃ t, t = st.ps[i] := ⟨_, rfl⟩
      rw [← ht] at k1 k2 k3
      have hcell : ∀ j, wr.cell? ⟨g, j, none⟩ = w.cell? ⟨g, j, none⟩ := fun j => World.cell?_of_block (HG.out.block g hg)
      rw [← hcell] at k1 k2 k3
      have hg2 : g < wr.heap.size := Nat.lt_of_lt_of_le hg HG.out.size
      subst hAp
      have HT := Lib.hid ht
      clear ht hcell
      by_cases e1 : t.n = name
      · cases first
        · by_cases e2 : t.y = s
          · by_cases e3 : t.x.length = s.length
            · have HX := Lib.hid (show taken st.ps name s false = true by
                unfold taken
                rw [List.any_eq_true]
                exact ⟨t, by rw [HT.out]; exact List.getElem_mem hif, by simp [hitP, *]⟩)
              have b1 : (t.n == name) = true := by simp [e1]
              have b2 : (t.y == s) = true := by simp [e2]
              have b3 : ((t.x.length : Int) == (s.length : Int)) = true := by simp; omega
              clear e1 e2 e3
              go_wp2
              go_ret
              refine ⟨by rw [HX.out]; rfl, ?_⟩
              exact Grown.trans HG.out (alloc_below wr _)
            · have HX := Lib.hid (show hitP name s false t = false by simp [hitP, *])
              have b1 : (t.n == name) = true := by simp [e1]
              have b2 : (t.y == s) = true := by simp [e2]
              have b3 : ((t.x.length : Int) == (s.length : Int)) = false := by simp; omega
              clear e1 e2 e3
              have HA := Lib.hid (Grown.trans HG.out (alloc_below wr (.cells #[.string ⟨t.n.toArray⟩, .string ⟨t.x.toArray⟩, .string ⟨t.y.toArray⟩] 63)))
              go_wp2
              go_roundw
              case rel => exact ⟨i + 1, by go_num, by omega, HA.out, fun j hj hj1 => by
                by_cases c : j < i
                · exact HN.out j hj c
                · obtain rfl : j = i := by omega
                  rw [← HT.out]; exact HX.out⟩
              case measure => simp [intOf]; omega
          · have HX := Lib.hid (show hitP name s false t = false by simp [hitP, *])
            have b1 : (t.n == name) = true := by simp [e1]
            have b2 : (t.y == s) = false := by simp [e2]
            clear e1 e2
            have HA := Lib.hid (Grown.trans HG.out (alloc_below wr (.cells #[.string ⟨t.n.toArray⟩, .string ⟨t.x.toArray⟩, .string ⟨t.y.toArray⟩] 63)))
            go_wp2
            go_roundw
            case rel => exact ⟨i + 1, by go_num, by omega, HA.out, fun j hj hj1 => by
              by_cases c : j < i
              · exact HN.out j hj c
              · obtain rfl : j = i := by omega
                rw [← HT.out]; exact HX.out⟩
            case measure => simp [intOf]; omega
        · by_cases e2 : t.x = s
          · have HX := Lib.hid (show taken st.ps name s true = true by
              unfold taken
              rw [List.any_eq_true]
              exact ⟨t, by rw [HT.out]; exact List.getElem_mem hif, by simp [hitP, *]⟩)
            have b1 : (t.n == name) = true := by simp [e1]
            have b2 : (t.x == s) = true := by simp [e2]
            have b3 : ((t.x.length : Int) == (s.length : Int)) = true := by simp [e2]
            clear e1 e2
            go_wp2
            go_ret
            refine ⟨by rw [HX.out]; rfl, ?_⟩
            exact Grown.trans HG.out (alloc_below wr _)
          · have HX := Lib.hid (show hitP name s true t = false by simp [hitP, *])
            have b1 : (t.n == name) = true := by simp [e1]
            have b2 : (t.x == s) = false := by simp [e2]
            clear e1 e2
            have HA := Lib.hid (Grown.trans HG.out (alloc_below wr (.cells #[.string ⟨t.n.toArray⟩, .string ⟨t.x.toArray⟩, .string ⟨t.y.toArray⟩] 63)))
            go_wp2
            go_roundw
            case rel => exact ⟨i + 1, by go_num, by omega, HA.out, fun j hj hj1 => by
              by_cases c : j < i
              · exact HN.out j hj c
              · obtain rfl : j = i := by omega
                rw [← HT.out]; exact HX.out⟩
            case measure => simp [intOf]; omega
      · have HX := Lib.hid (show hitP name s first t = false by simp [hitP, *])
        have b1 : (t.n == name) = false := by simp [e1]
        clear e1
        have HA := Lib.hid (Grown.trans HG.out (alloc_below wr (.cells #[.string ⟨t.n.toArray⟩, .string ⟨t.x.toArray⟩, .string ⟨t.y.toArray⟩] 63)))
        go_wp2
        go_roundw
        case rel => exact ⟨i + 1, by go_num, by omega, HA.out, fun j hj hj1 => by
          by_cases c : j < i
          · exact HN.out j hj c
          · obtain rfl : j = i := by omega
            rw [← HT.out]; exact HX.out⟩
        case measure => simp [intOf]; omega
    · have bi : ¬ (i : Int) < (np : Int) := by omega
      have HX := Lib.hid (show taken st.ps name s first = false by
        unfold taken
        rw [List.any_eq_false]
        intro t ht
        obtain ⟨j, hj, rfl⟩ := List.getElem_of_mem ht
        have := HN.out j hj (by have := HNP.out; omega)
        simp [this])
      go_wp2
      go_ret
      exact ⟨by rw [HX.out]; rfl, HG.out⟩
end Go.Proofs.Ytanalbdbkfmifaa.S11
