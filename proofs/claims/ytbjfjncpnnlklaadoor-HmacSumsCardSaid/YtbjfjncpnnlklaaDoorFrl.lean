/-
  From what the rows tell of a slice of byte slices to a list of lists of bytes.
-/
import Derived.Test.YtbjfjncpnnlklaaDoorRdl
import Derived.Test.YtbjfjncpnnlklaaDoorFrm
import Derived.Deep.Matrix
namespace Go.Proofs.YtbjfjncpnnlklaaDoor
open Go.ChangeShapes Go.WideShapes Go.ChangeAt Go.RowKit
set_option linter.unusedVariables false

theorem add_eq (b off j : Nat) : (⟨b, off, none⟩ : Addr).add j = ⟨b, off + j, none⟩ := by
  by_cases hj0 : j = 0
  · subst hj0; simp [Addr.add]
  · simp [Addr.add, hj0]

theorem rdL_of_trod {H : Type} {enc : TypeId × Value → H} {W : World} {base : Nat} {v : Value} {d : DataW H} {p : List MemPlace} (hv : Value.okWide Tryd.prog W .any base 23 v)
    (h : DataW.Trod enc Tryd.prog W 0 (fun _ => true) true 23 v d p) :
    ∃ A n c ls, v = .slice A n c ∧ ls.length = n ∧ RdL W W.heap.size A ls ∧ n ≤ c ∧ c ≤ maxLen ∧ ∀ l ∈ ls, l.length ≤ maxLen := by
  obtain ⟨A, n, c, rfl⟩ := okWide_slice Tryd.underlying23 hv
  obtain ⟨fuel, hf⟩ := h
  rcases Deep.open_int_rows Tryd.underlying23 Tryd.underlying22 Tryd.underlying5 (by kernel_rfl) (by kernel_rfl) hf with ⟨hcs, _⟩ | ⟨a, len, cap, Ad, L, C, Z, hcs, _, hl, hm, _, hr⟩
  · simp [Value.cells] at hcs
    obtain ⟨rfl, rfl, rfl⟩ := hcs
    exact ⟨none, 0, 0, [], rfl, rfl, .inl rfl, Nat.le_refl _, by unfold maxLen; omega, by simp⟩
  · simp [Value.cells] at hcs
    obtain ⟨rfl, rfl, rfl⟩ := hcs
    refine ⟨some a, n, c, (List.range n).map (fun r => ((Z r).take (L r)).map fun z => UInt8.ofNat z.toNat), rfl, by simp, ?_, hl, hm, ?_⟩
    · by_cases h0 : n = 0
      · subst h0; exact .inl (by simp)
      · obtain ⟨b, off, spot⟩ := a
        have hc0 := (hr 0 (by omega)).1
        have hspot : spot = none := by simpa [Addr.add] using World.cell?_spot hc0
        subst hspot
        have hlt : b < W.heap.size := by
          have := World.block_lt_of_cell? W _ hc0
          simpa [Addr.add] using this
        refine .inr ⟨b, off, rfl, hlt, fun j hj => ?_⟩
        simp at hj
        obtain ⟨h1, h2, h3, h4, h5, h6, h7⟩ := hr j (by omega)
        rw [add_eq] at h1
        refine ⟨Ad j, C j, ?_, ?_, ?_⟩
        · rw [h1]; simp; omega
        · simp; omega
        · simp only [List.getElem_map, List.getElem_range]
          by_cases hL : L j = 0
          · exact .inl (by simp [hL])
          · cases hA : Ad j with
            | none => have := h6 hA; omega
            | some a' =>
              obtain ⟨_, hcell⟩ := h7 a' hA
              obtain ⟨b', off', spot'⟩ := a'
              have hc0' := hcell 0 (by omega)
              have hspot' : spot' = none := by simpa [Addr.add] using World.cell?_spot hc0'
              subst hspot'
              have hlt' : b' < W.heap.size := by
                have := World.block_lt_of_cell? W _ hc0'
                simpa [Addr.add] using this
              refine .inr ⟨b', off', rfl, hlt', fun i hi => ?_⟩
              simp at hi
              have hci := hcell i (by omega)
              have eg : (Z j).getD i 0 = (Z j)[i] := by simp [show i < (Z j).length by omega]
              have hw := h5 ((Z j).getD i 0) (by rw [eg]; exact List.getElem_mem _)
              have hb := bounds_u8 hw
              rw [add_eq] at hci
              rw [hci]
              congr 1
              unfold bv
              simp only [List.getElem_map, List.getElem_take]
              rw [eg] at hb ⊢
              congr 1
              rw [UInt8.toNat_ofNat']
              omega
    · intro l hl2
      simp only [List.mem_map, List.mem_range] at hl2
      obtain ⟨r, hr2, rfl⟩ := hl2
      obtain ⟨_, h2, h3, h4, _⟩ := hr r (by omega)
      simp; omega
end Go.Proofs.YtbjfjncpnnlklaaDoor
