/-
  Contract of the reference's device: New. What the laws of dev ask of the program's devices; law13's awake out of it.
-/
import Derived.Test.YthakdjaaknbmpaaMgKactsMain11
namespace Go.Proofs.Ythakdjaaknbmpaa.S13
open Cf
open Go.RowKit
set_option linter.unusedVariables false
set_option linter.unusedSimpArgs false

theorem rvPutK {w w' : World} {base R : Nat} {Ak Ak' : Option Addr} {s : Rs} {ck' nk : Nat} {kept' : List (List UInt8)} (h : Rv w base R Ak none none s) (hnk : kept'.length = nk) (hA : w'.heap[R]? = w.heap[R]?) (ho : Ow w' base 9 Ak' ck' (kept'.map sv)) (hm : ∀ x, Ak' = some x → Ak = some x ∨ w.heap.size ≤ x.block) :
    Rv (w'.setCell ⟨R, 0, none⟩ (.slice Ak' nk ck')) base R Ak' none none { s with kept := kept' } := by
  subst hnk
  obtain ⟨ck, ca, cw, hR, h1, h2, h3⟩ := h.ex
  have hRl := (h.lt R (.inl rfl)).2
  have n1 : ∀ x, Ak' = some x → x.block ≠ R := fun x hx => by
    rcases hm x hx with hy | hy
    · exact h.nk x hy
    · omega
  refine { h with nk := n1, ka := (fun x y hx hy => by cases hy), kw := (fun x y hx hy => by cases hy), ex := ⟨ck', ca, cw, ?_, Rv.offR n1 ho 0 _, Rv.offR h.na (h2.keep fun x hx => by cases hx) 0 _, Rv.offR h.nw (h3.keep fun x hx => by cases hx) 0 _⟩ }
  rw [heap_setCell_same w' R 0 _ _ _ (hA.trans hR)]; rfl
section
set_option maxRecDepth 20000 in
set_option maxHeartbeats 8000000 in
theorem refNew_any (w : World) (n : Nat) (hn : n ≤ 70000) :
    Calls Try.prog 10 #[.int .i64 (n : Int)] w fun e w' => ∃ R Ak, e = .returned (.pointer (some ⟨R, 0, none⟩)) ∧ Rv w' w.heap.size R Ak none none (raw (dvNew n)) ∧ Grown w w' := by
  obtain ⟨iS, hiS, hzS, hsS, hbS⟩ := info_parts infoS
  go_enter Try.func10, Try.ntmps10
  go_wp2_with fail
  have X0 := Lib.hid (show Rv (w.alloc (.cells #[.slice none 0 0, .slice none 0 0, .slice none 0 0, .int .i64 0, .int .i64 (-1)] 56)) w.heap.size w.heap.size none none none (raw (dvNew 0)) from
    { bR := Nat.le_refl _, nk := (fun x hx => by cases hx), na := (fun x hx => by cases hx), nw := (fun x hx => by cases hx), ka := (fun x y hx => by cases hx), kw := (fun x y hx => by cases hx), aw := (fun x y hx => by cases hx), ex := ⟨0, 0, 0, heap_alloc_new w _, Ow.nil _ _ _, Ow.nil _ _ _, Ow.nil _ _ _⟩ })
  have C0 := Lib.hid (show Ch (fun _ => False) w (w.alloc (.cells #[.slice none 0 0, .slice none 0 0, .slice none 0 0, .int .i64 0, .int .i64 (-1)] 56)) from Ch.grown (alloc_below w _))
  obtain ⟨R, hR⟩ : ∃ R, R = w.heap.size := ⟨_, rfl⟩
  have HR := Lib.hid hR
  rw [← hR] at X0 ⊢
  clear hR
  generalize w.alloc _ = wa at X0 C0 ⊢
  go_loopw [4] (fun v4 wr => ∃ (k : Nat) (Ak : Option Addr), v4 = .int .i64 (k : Int) ∧ k ≤ n ∧ Hid (Rv wr R R Ak none none (raw (dvNew k))) ∧ Hid (Ch (fun _ => False) w wr)) (fun v4 _ => n - (intOf v4).toNat)
  case atStart => exact ⟨0, none, rfl, Nat.zero_le _, X0.out, C0.out⟩
  case round =>
    clear X0 C0
    obtain ⟨k, Ak, rfl, hkn, HZ, HC⟩ := hrel
    by_cases hlt : k < n
    · have bk : (k : Int) < (n : Int) := by omega
      go_wp2_with fail
      have GD := Lib.hid (show Grown wr wr.drew from (Below.refl _ wr).drew)
      have X := Lib.hid (HZ.out.grow GD.out)
      have CW := Lib.hid (Ch.trans HC.out (Ch.grown GD.out))
      generalize hwd : wr.drew = wd at X CW
      have hRlt := (X.out.lt R (.inl rfl))
      obtain ⟨ek, ea, ew, hR1, ok1, oa1, ow1⟩ := X.out.ex
      have hq2 : wd.cell? ⟨R, 0, none⟩ = some (.slice Ak k ek) := by have := cell_of_row wd R 0 _ _ (0, 0) hR1; simpa [DzC, raw, dvNew] using this
      clear hR1 oa1 ow1 GD HZ HC
      obtain ⟨Z, hZ⟩ : ∃ Z, Z = z512 := ⟨_, rfl⟩
      have HZe := Lib.hid hZ
      have HZl := Lib.hid (show Z.length = 512 by rw [hZ]; exact List.length_replicate)
      have GA := Lib.hid (alloc_below wd (.cells (bvs Z).toArray 5))
      have RA := Lib.hid ((Row.new wd Z).rd (B := (wd.alloc (.cells (bvs Z).toArray 5)).heap.size) (by simp))
      have hmk : (Instr.makeSlice 38 (.int .i64 512) (.int .i64 512)).run Try.prog wd = .ok (.slice (some ⟨wd.heap.size, 0, none⟩) 512 512) (wd.alloc (.cells (bvs Z).toArray 5)) := by
        rw [hZ]
        exact mk22 512 (by omega) wd
      clear hZ
      obtain ⟨gz, hgz⟩ : ∃ g, g = wd.heap.size := ⟨_, rfl⟩
      have Hgz := Lib.hid (show ∀ k, RV R Ak none none k → k ≠ gz from fun k hk e => by have := (X.out.lt k hk).2; omega)
      rw [← hgz] at RA hmk
      clear hgz
      generalize wd.alloc _ = w2 at GA RA hmk
      have X2 := Lib.hid (X.out.grow GA.out)
      have OW2 := Lib.hid (owGrow ok1 GA.out)
      have CW2 := Lib.hid (Ch.trans CW.out (Ch.grown GA.out))
      have hq22 : w2.cell? ⟨R, 0, none⟩ = some (.slice Ak k ek) := (GA.out.cell (p := ⟨R, 0, none⟩) hRlt.2).trans hq2
      have hq23 : ∀ o : Obj, (w2.alloc o).cell? ⟨R, 0, none⟩ = some (.slice Ak k ek) := fun o => ((alloc_below w2 o).cell (p := ⟨R, 0, none⟩) (lt_of_cell hq22)).trans hq22
      have hRl2 : R < w2.heap.size := lt_of_cell hq22
      obtain ⟨ZD, hZD⟩ : ∃ S : ByteArray, S = ⟨Z.toArray⟩ := ⟨_, rfl⟩
      have HZD := Lib.hid hZD
      clear hZD
      have HS := Lib.hid (show ∀ v, Ch (RV R Ak none none) w2 v → (convert 38 9 (.slice (some ⟨gz, 0, none⟩) 512 512)).run Try.prog v = .ok (.string ZD) v from fun v hv => by
        have h5 : Rd v v.heap.size (some ⟨gz, 0, none⟩) Z := rd_ch13 RA.out hv (fun x hx _ hf => by
          simp only [Option.some.injEq] at hx
          subst hx
          exact Hgz.out _ hf rfl)
        have := conv h5 512
        rw [HZl.out] at this
        rw [HZD.out]; exact this)
      have HLn := Lib.hid (show ((((raw (dvNew k)).kept).map sv).length = k) by simp [raw, dvNew])
      clear ok1 RA Hgz
      have hsz2 := GA.out.size
      refine restS_begin (fun v : World => True) (by kernel_rfl) ?_
      rw [hwd]
      clear hwd
      refine restS_take (i := 0) trivial rfl (by kernel_rfl) (by kernel_rfl) (by kernel_rfl) (by rfl) (fun v hv => by obtain v1 := hv; go_simp; try with_reducible rfl) ?_
      try simp only [Act.put, List.setIfInBounds_toArray, List.set_cons_zero, List.set_cons_succ]
      refine restS_take (i := 1) trivial rfl (by kernel_rfl) (by kernel_rfl) (by kernel_rfl) (by rfl) (fun v hv => by obtain v1 := hv; go_simp; try with_reducible rfl) ?_
      try simp only [Act.put, List.setIfInBounds_toArray, List.set_cons_zero, List.set_cons_succ]
      refine restS_take (i := 2) trivial rfl (by kernel_rfl) (by kernel_rfl) (by kernel_rfl) (by rfl) (fun v hv => by obtain v1 := hv; go_simp; try with_reducible rfl) ?_
      try simp only [Act.put, List.setIfInBounds_toArray, List.set_cons_zero, List.set_cons_succ]
      refine restS_take (i := 3) trivial rfl (by kernel_rfl) (by kernel_rfl) (by kernel_rfl) (by rfl) (fun v hv => by obtain v1 := hv; go_simp; try with_reducible rfl) ?_
      try simp only [Act.put, List.setIfInBounds_toArray, List.set_cons_zero, List.set_cons_succ]
      refine restS_two (i := 4) (j := 5) rfl rfl (by kernel_rfl) (by rfl) (by rfl) (fun K hK => ?_) (fun K hK => ?_)
      · go_simp
        refine hK.out _ _ trivial ?_
        clear hK K
        try simp only [Act.put, List.setIfInBounds_toArray, List.set_cons_zero, List.set_cons_succ]
        refine restS_lone (i := 5) rfl (by kernel_rfl) (by rfl) (fun K hK => ?_)
        go_simp
        refine hK.out _ _ trivial ?_
        clear hK K
        try simp only [Act.put, List.setIfInBounds_toArray, List.set_cons_zero, List.set_cons_succ]
        refine restS_mono (S' := fun v => (convert 38 9 (.slice (some ⟨gz, 0, none⟩) 512 512)).run Try.prog v = .ok (.string ZD) v) (fun v hv => trivial) ?_
        refine restS_take (i := 6) (HS.out w2 (Ch.refl _ _)) rfl (by kernel_rfl) (by kernel_rfl) (by kernel_rfl) (by rfl) (fun v hv => by obtain v3 := hv; go_simp; try with_reducible rfl) ?_
        try simp only [Act.put, List.setIfInBounds_toArray, List.set_cons_zero, List.set_cons_succ]
        refine restS_lone (i := 7) rfl (by kernel_rfl) (by rfl) (fun K hK => ?_)
        go_simp
        refine hK.out _ _ (HS.out _ (Ch.grown (alloc_below w2 _))) ?_
        clear hK K
        try simp only [Act.put, List.setIfInBounds_toArray, List.set_cons_zero, List.set_cons_succ]
        refine restS_lone (i := 8) rfl (by kernel_rfl) (by rfl) (fun K hK => ?_)
        refine wp_appOw (t := 35) rfl hiS hzS hsS hbS rfl (by decide) (.tmp 16) (.tmp 19) rfl (n := k) HLn.out rfl (owGrow OW2.out (alloc_below w2 _)) rfl (cellNew w2 _ _) rfl (by omega) (by have := (alloc_below w2 (.cells #[.string ZD] 9)).size; omega) ?_
        intro A9 c9 w9 ho9 hg9 hm9
        have hsz3 := (alloc_below w2 (.cells #[.string ZD] 9)).size
        have G9 := Lib.hid (chGrownBy (F := RV R Ak none none) (Ch.grown (alloc_below w2 (.cells #[.string ZD] 9))) hg9 (fun k hk => by
          obtain ⟨x, hx, rfl⟩ := own_blk hk.symm
          exact .inl (.inr (.inl ⟨x, hx, rfl⟩))))
        have V9 := Lib.hid (chGrownBy (Ch.trans CW2.out (Ch.grown (alloc_below w2 (.cells #[.string ZD] 9)))) hg9 (fun k hk => by
          obtain ⟨x, hx, rfl⟩ := own_blk hk.symm
          have := (X2.out.lt x.block (.inr (.inl ⟨x, hx, rfl⟩))).1
          have := HR.out
          exact .inr (by omega)))
        have hR9 : w9.heap[R]? = w2.heap[R]? := (hg9.block R (by omega) (fun e => by
          obtain ⟨x, hx, hxk⟩ := own_blk e
          exact X2.out.nk x hx hxk)).trans ((alloc_below w2 (.cells #[.string ZD] 9)).block R hRl2)
        have M9 := Lib.hid (show ∀ x, A9 = some x → Ak = some x ∨ w2.heap.size ≤ x.block from fun x hx => (moved_or hm9 x hx).imp id (fun h => by omega))
        have X9 := Lib.hid (rvPutK (nk := k + 1) (kept' := List.replicate (k + 1) z512) (ck' := c9) X2.out (by simp) hR9 (by rw [List.replicate_succ', List.map_append]; rw [HZD.out, HZe.out] at ho9; exact ho9) M9.out)
        have y1 : w9.cell? ⟨R, 0, none⟩ = some (.slice Ak k ek) := (World.cell?_of_block (a := ⟨R, 0, none⟩) hR9).trans hq22
        have y2 : w9.frozen? ⟨R, 0, none⟩ = false := (World.frozen?_of_block (a := ⟨R, 0, none⟩) hR9).trans (X2.out.frozen 0)
        refine hK.out _ _ (HS.out _ G9.out) ?_
        clear hK K ho9 hg9 hm9
        try simp only [Act.put, List.setIfInBounds_toArray, List.set_cons_zero, List.set_cons_succ]
        refine restS_take (i := 9) (HS.out _ G9.out) rfl (by kernel_rfl) (by kernel_rfl) (by kernel_rfl) (by rfl) (fun v hv => by obtain v3 := hv; go_simp; try with_reducible rfl) ?_
        try simp only [Act.put, List.setIfInBounds_toArray, List.set_cons_zero, List.set_cons_succ]
        refine restS_take (i := 10) (HS.out _ G9.out) rfl (by kernel_rfl) (by kernel_rfl) (by kernel_rfl) (by rfl) (fun v hv => by obtain v3 := hv; go_simp; try with_reducible rfl) ?_
        try simp only [Act.put, List.setIfInBounds_toArray, List.set_cons_zero, List.set_cons_succ]
        refine restS_lone (i := 11) rfl (by kernel_rfl) (by rfl) (fun K hK => ?_)
        go_simp
        refine hK.out _ _ (HS.out _ (Ch.setCell G9.out (p := ⟨R, 0, none⟩) (.inl (.inl rfl)) _)) ?_
        clear hK K
        try simp only [Act.put, List.setIfInBounds_toArray, List.set_cons_zero, List.set_cons_succ]
        refine restS_done (by kernel_rfl) ?_
        clear y1 y2 hsz3
        have Z9 := Lib.hid (Ch.setCell V9.out (p := ⟨R, 0, none⟩) (.inr (by show w.heap.size ≤ R; have := HR.out; omega)) (.slice A9 (k + 1) c9))
        go_wp2
        exact ⟨⟨k + 1, A9, by simp, by omega, X9.out, Z9.out⟩, by simp [intOf]; omega⟩
      · go_simp
        refine hK.out _ _ trivial ?_
        clear hK K
        try simp only [Act.put, List.setIfInBounds_toArray, List.set_cons_zero, List.set_cons_succ]
        refine restS_mono (S' := fun v => (convert 38 9 (.slice (some ⟨gz, 0, none⟩) 512 512)).run Try.prog v = .ok (.string ZD) v) (fun v hv => trivial) ?_
        refine restS_take (i := 6) (HS.out w2 (Ch.refl _ _)) rfl (by kernel_rfl) (by kernel_rfl) (by kernel_rfl) (by rfl) (fun v hv => by obtain v3 := hv; go_simp; try with_reducible rfl) ?_
        try simp only [Act.put, List.setIfInBounds_toArray, List.set_cons_zero, List.set_cons_succ]
        refine restS_two (i := 4) (j := 7) rfl rfl (by kernel_rfl) (by rfl) (by rfl) (fun K hK => ?_) (fun K hK => ?_)
        · go_simp
          refine hK.out _ _ (HS.out w2 (Ch.refl _ _)) ?_
          clear hK K
          try simp only [Act.put, List.setIfInBounds_toArray, List.set_cons_zero, List.set_cons_succ]
          refine restS_lone (i := 7) rfl (by kernel_rfl) (by rfl) (fun K hK => ?_)
          go_simp
          refine hK.out _ _ (HS.out _ (Ch.grown (alloc_below w2 _))) ?_
          clear hK K
          try simp only [Act.put, List.setIfInBounds_toArray, List.set_cons_zero, List.set_cons_succ]
          refine restS_lone (i := 8) rfl (by kernel_rfl) (by rfl) (fun K hK => ?_)
          refine wp_appOw (t := 35) rfl hiS hzS hsS hbS rfl (by decide) (.tmp 16) (.tmp 19) rfl (n := k) HLn.out rfl (owGrow OW2.out (alloc_below w2 _)) rfl (cellNew w2 _ _) rfl (by omega) (by have := (alloc_below w2 (.cells #[.string ZD] 9)).size; omega) ?_
          intro A9 c9 w9 ho9 hg9 hm9
          have hsz3 := (alloc_below w2 (.cells #[.string ZD] 9)).size
          have G9 := Lib.hid (chGrownBy (F := RV R Ak none none) (Ch.grown (alloc_below w2 (.cells #[.string ZD] 9))) hg9 (fun k hk => by
            obtain ⟨x, hx, rfl⟩ := own_blk hk.symm
            exact .inl (.inr (.inl ⟨x, hx, rfl⟩))))
          have V9 := Lib.hid (chGrownBy (Ch.trans CW2.out (Ch.grown (alloc_below w2 (.cells #[.string ZD] 9)))) hg9 (fun k hk => by
            obtain ⟨x, hx, rfl⟩ := own_blk hk.symm
            have := (X2.out.lt x.block (.inr (.inl ⟨x, hx, rfl⟩))).1
            have := HR.out
            exact .inr (by omega)))
          have hR9 : w9.heap[R]? = w2.heap[R]? := (hg9.block R (by omega) (fun e => by
            obtain ⟨x, hx, hxk⟩ := own_blk e
            exact X2.out.nk x hx hxk)).trans ((alloc_below w2 (.cells #[.string ZD] 9)).block R hRl2)
          have M9 := Lib.hid (show ∀ x, A9 = some x → Ak = some x ∨ w2.heap.size ≤ x.block from fun x hx => (moved_or hm9 x hx).imp id (fun h => by omega))
          have X9 := Lib.hid (rvPutK (nk := k + 1) (kept' := List.replicate (k + 1) z512) (ck' := c9) X2.out (by simp) hR9 (by rw [List.replicate_succ', List.map_append]; rw [HZD.out, HZe.out] at ho9; exact ho9) M9.out)
          have y1 : w9.cell? ⟨R, 0, none⟩ = some (.slice Ak k ek) := (World.cell?_of_block (a := ⟨R, 0, none⟩) hR9).trans hq22
          have y2 : w9.frozen? ⟨R, 0, none⟩ = false := (World.frozen?_of_block (a := ⟨R, 0, none⟩) hR9).trans (X2.out.frozen 0)
          refine hK.out _ _ (HS.out _ G9.out) ?_
          clear hK K ho9 hg9 hm9
          try simp only [Act.put, List.setIfInBounds_toArray, List.set_cons_zero, List.set_cons_succ]
          refine restS_take (i := 9) (HS.out _ G9.out) rfl (by kernel_rfl) (by kernel_rfl) (by kernel_rfl) (by rfl) (fun v hv => by obtain v3 := hv; go_simp; try with_reducible rfl) ?_
          try simp only [Act.put, List.setIfInBounds_toArray, List.set_cons_zero, List.set_cons_succ]
          refine restS_take (i := 10) (HS.out _ G9.out) rfl (by kernel_rfl) (by kernel_rfl) (by kernel_rfl) (by rfl) (fun v hv => by obtain v3 := hv; go_simp; try with_reducible rfl) ?_
          try simp only [Act.put, List.setIfInBounds_toArray, List.set_cons_zero, List.set_cons_succ]
          refine restS_lone (i := 11) rfl (by kernel_rfl) (by rfl) (fun K hK => ?_)
          go_simp
          refine hK.out _ _ (HS.out _ (Ch.setCell G9.out (p := ⟨R, 0, none⟩) (.inl (.inl rfl)) _)) ?_
          clear hK K
          try simp only [Act.put, List.setIfInBounds_toArray, List.set_cons_zero, List.set_cons_succ]
          refine restS_done (by kernel_rfl) ?_
          clear y1 y2 hsz3
          have Z9 := Lib.hid (Ch.setCell V9.out (p := ⟨R, 0, none⟩) (.inr (by show w.heap.size ≤ R; have := HR.out; omega)) (.slice A9 (k + 1) c9))
          go_wp2
          exact ⟨⟨k + 1, A9, by simp, by omega, X9.out, Z9.out⟩, by simp [intOf]; omega⟩
        · go_simp
          refine hK.out _ _ (HS.out _ (Ch.grown (alloc_below w2 _))) ?_
          clear hK K
          try simp only [Act.put, List.setIfInBounds_toArray, List.set_cons_zero, List.set_cons_succ]
          refine restS_lone (i := 4) rfl (by kernel_rfl) (by rfl) (fun K hK => ?_)
          go_simp
          refine hK.out _ _ (HS.out _ (Ch.grown (alloc_below w2 _))) ?_
          clear hK K
          try simp only [Act.put, List.setIfInBounds_toArray, List.set_cons_zero, List.set_cons_succ]
          refine restS_lone (i := 8) rfl (by kernel_rfl) (by rfl) (fun K hK => ?_)
          refine wp_appOw (t := 35) rfl hiS hzS hsS hbS rfl (by decide) (.tmp 16) (.tmp 19) rfl (n := k) HLn.out rfl (owGrow OW2.out (alloc_below w2 _)) rfl (cellNew w2 _ _) rfl (by omega) (by have := (alloc_below w2 (.cells #[.string ZD] 9)).size; omega) ?_
          intro A9 c9 w9 ho9 hg9 hm9
          have hsz3 := (alloc_below w2 (.cells #[.string ZD] 9)).size
          have G9 := Lib.hid (chGrownBy (F := RV R Ak none none) (Ch.grown (alloc_below w2 (.cells #[.string ZD] 9))) hg9 (fun k hk => by
            obtain ⟨x, hx, rfl⟩ := own_blk hk.symm
            exact .inl (.inr (.inl ⟨x, hx, rfl⟩))))
          have V9 := Lib.hid (chGrownBy (Ch.trans CW2.out (Ch.grown (alloc_below w2 (.cells #[.string ZD] 9)))) hg9 (fun k hk => by
            obtain ⟨x, hx, rfl⟩ := own_blk hk.symm
            have := (X2.out.lt x.block (.inr (.inl ⟨x, hx, rfl⟩))).1
            have := HR.out
            exact .inr (by omega)))
          have hR9 : w9.heap[R]? = w2.heap[R]? := (hg9.block R (by omega) (fun e => by
            obtain ⟨x, hx, hxk⟩ := own_blk e
            exact X2.out.nk x hx hxk)).trans ((alloc_below w2 (.cells #[.string ZD] 9)).block R hRl2)
          have M9 := Lib.hid (show ∀ x, A9 = some x → Ak = some x ∨ w2.heap.size ≤ x.block from fun x hx => (moved_or hm9 x hx).imp id (fun h => by omega))
          have X9 := Lib.hid (rvPutK (nk := k + 1) (kept' := List.replicate (k + 1) z512) (ck' := c9) X2.out (by simp) hR9 (by rw [List.replicate_succ', List.map_append]; rw [HZD.out, HZe.out] at ho9; exact ho9) M9.out)
          have y1 : w9.cell? ⟨R, 0, none⟩ = some (.slice Ak k ek) := (World.cell?_of_block (a := ⟨R, 0, none⟩) hR9).trans hq22
          have y2 : w9.frozen? ⟨R, 0, none⟩ = false := (World.frozen?_of_block (a := ⟨R, 0, none⟩) hR9).trans (X2.out.frozen 0)
          refine hK.out _ _ (HS.out _ G9.out) ?_
          clear hK K ho9 hg9 hm9
          try simp only [Act.put, List.setIfInBounds_toArray, List.set_cons_zero, List.set_cons_succ]
          refine restS_take (i := 9) (HS.out _ G9.out) rfl (by kernel_rfl) (by kernel_rfl) (by kernel_rfl) (by rfl) (fun v hv => by obtain v3 := hv; go_simp; try with_reducible rfl) ?_
          try simp only [Act.put, List.setIfInBounds_toArray, List.set_cons_zero, List.set_cons_succ]
          refine restS_take (i := 10) (HS.out _ G9.out) rfl (by kernel_rfl) (by kernel_rfl) (by kernel_rfl) (by rfl) (fun v hv => by obtain v3 := hv; go_simp; try with_reducible rfl) ?_
          try simp only [Act.put, List.setIfInBounds_toArray, List.set_cons_zero, List.set_cons_succ]
          refine restS_lone (i := 11) rfl (by kernel_rfl) (by rfl) (fun K hK => ?_)
          go_simp
          refine hK.out _ _ (HS.out _ (Ch.setCell G9.out (p := ⟨R, 0, none⟩) (.inl (.inl rfl)) _)) ?_
          clear hK K
          try simp only [Act.put, List.setIfInBounds_toArray, List.set_cons_zero, List.set_cons_succ]
          refine restS_done (by kernel_rfl) ?_
          clear y1 y2 hsz3
          have Z9 := Lib.hid (Ch.setCell V9.out (p := ⟨R, 0, none⟩) (.inr (by show w.heap.size ≤ R; have := HR.out; omega)) (.slice A9 (k + 1) c9))
          go_wp2
          exact ⟨⟨k + 1, A9, by simp, by omega, X9.out, Z9.out⟩, by simp [intOf]; omega⟩
    · have bk : ¬ (k : Int) < (n : Int) := by omega
      obtain rfl : k = n := by omega
      go_wp2
      go_ret
      refine ⟨R, rfl, ⟨Ak, ?_⟩, ?_⟩
      · rw [← HR.out]; exact HZ.out
      · exact Ch.belowB HC.out (fun k hk => hk.elim) (Nat.le_refl _)
end
end Go.Proofs.Ythakdjaaknbmpaa.S13
namespace Go.Proofs.Ythakdjaaknbmpaa.S13
open Cf
open Go.RowKit
set_option linter.unusedVariables false
set_option linter.unusedSimpArgs false

/-- The slice at A owns the bytes l, in a block of any type from 'base' on. -/
def OwA (w : World) (base : Nat) (A : Option Addr) (c : Nat) (l : List UInt8) : Prop :=
  (A = none ∧ l = [] ∧ c = 0) ∨ ∃ g tt cur, A = some ⟨g, 0, none⟩ ∧ base ≤ g ∧ w.heap[g]? = some (.cells cur tt (0, 0)) ∧ l.length ≤ c ∧ cur.toList.take l.length = bvs l
theorem OwA.nil (w : World) (base : Nat) : OwA w base none 0 [] := .inl ⟨rfl, rfl, rfl⟩
theorem OwA.form {w : World} {base : Nat} {A : Option Addr} {c : Nat} {l : List UInt8} (h : OwA w base A c l) : (A = none ∧ l = [] ∧ c = 0) ∨ ∃ g tt cur, A = some ⟨g, 0, none⟩ ∧ base ≤ g ∧ w.heap[g]? = some (.cells cur tt (0, 0)) ∧ l.length ≤ c ∧ cur.toList.take l.length = bvs l := h
theorem OwA.of {w : World} {base : Nat} {A : Option Addr} {c : Nat} {l : List UInt8} (h : Own w base A c l) : OwA w base A c l := by
  rcases h.form with h | ⟨g, cur, h⟩
  · exact .inl h
  · exact .inr ⟨g, _, cur, h⟩
theorem OwA.rd {w : World} {base : Nat} {A : Option Addr} {c : Nat} {l : List UInt8} (h : OwA w base A c l) : Rd w w.heap.size A l := by
  rcases h with ⟨_, rfl, _⟩ | ⟨g, tt, cur, rfl, _, hg, _, ht⟩
  · exact .inl rfl
  · refine .inr ⟨g, 0, rfl, lt_of_heap hg, fun j hj => ?_⟩
    rw [Nat.zero_add, cell_of_row w g j cur tt (0, 0) hg]
    have : (cur.toList.take l.length)[j]? = (bvs l)[j]? := by rw [ht]
    rw [List.getElem?_take, if_pos hj] at this
    simpa [bvs, hj] using this
theorem OwA.lt {w : World} {base : Nat} {A : Option Addr} {c : Nat} {l : List UInt8} (h : OwA w base A c l) : ∀ x, A = some x → base ≤ x.block ∧ x.block < w.heap.size := by
  rintro x rfl
  rcases h with ⟨e, _⟩ | ⟨g, tt, cur, e, hb, hg, _⟩
  · cases e
  · simp only [Option.some.injEq] at e
    subst e
    exact ⟨hb, lt_of_heap hg⟩
theorem OwA.le {w : World} {base : Nat} {A : Option Addr} {c : Nat} {l : List UInt8} (h : OwA w base A c l) : l.length ≤ c := by
  rcases h with ⟨_, rfl, _⟩ | ⟨_, _, _, _, _, _, h, _⟩
  · simp
  · exact h
theorem OwA.grow {w w' : World} {base : Nat} {A : Option Addr} {c : Nat} {l : List UInt8} (h : OwA w base A c l) (hb : Below w.heap.size w w') : OwA w' base A c l := by
  rcases h with h | ⟨g, tt, cur, h1, h2, h3, r⟩
  · exact .inl h
  · exact .inr ⟨g, tt, cur, h1, h2, (hb.block g (lt_of_heap h3)).trans h3, r⟩
/-- A device of the program in memory: at G, in the blocks F, in the state st. -/
abbrev DTab := World → Nat → (Nat → Prop) → Dv → Prop
/-- It is in the state st' now. -/
def DOn (D : DTab) (w : World) (G : Nat) (F : Nat → Prop) (st' : Dv) (w' : World) : Prop := ∃ F', D w' G F' st' ∧ (∀ k, F' k → F k ∨ w.heap.size ≤ k) ∧ Ch F w w'
structure DevOk (D : DTab) : Prop where
  foot : ∀ w G F st, D w G F st → ∀ k, F k → k < w.heap.size
  keep : ∀ w w' G F st, D w G F st → (∀ k, F k → w'.heap[k]? = w.heap[k]?) → w.heap.size ≤ w'.heap.size → D w' G F st
  new : ∀ w (n : Nat), 1 ≤ n → n ≤ 65536 → Calls Try.prog 8 #[.int .i64 (n : Int)] w fun e w' =>
    ∃ G F, e = .returned (.tuple #[.pointer (some ⟨G, 0, none⟩), .int .i64 0]) ∧ D w' G F (dvNew n) ∧ (∀ k, F k → w.heap.size ≤ k) ∧ Grown w w'
  bad : ∀ w (n : Int), n < 1 ∨ 65536 < n → Calls Try.prog 8 #[.int .i64 n] w fun e w' => e = .returned (.tuple #[.pointer none, .int .i64 2]) ∧ Grown w w'
  read : ∀ w G F st i (n : Int), D w G F st → Ok st i → i ≤ 1000 → st.kept.length ≤ 100 → Calls Try.prog 30 #[.pointer (some ⟨G, 0, none⟩), .int .i64 n] w fun e w' =>
    ∃ A m c, e = .returned (.tuple #[.slice A m c, .int .i64 (dvRead st n).2.1]) ∧ (dvRead st n).1.length = m ∧ m ≤ c ∧ OwA w' w.heap.size A c (dvRead st n).1 ∧ ∃ F', D w' G F' (dvRead st n).2.2 ∧ (∀ k, F' k → F k ∨ w.heap.size ≤ k) ∧ Ch F w w' ∧ ∀ x, A = some x → ¬ F' x.block
  write : ∀ w G F st i (n : Int) A m c b, D w G F st → Ok st i → i ≤ 1000 → st.kept.length ≤ 100 → Rd w w.heap.size A b → b.length = m → m ≤ c → m ≤ 1000 → (∀ x, A = some x → b ≠ [] → ¬ F x.block) →
    Calls Try.prog 29 #[.pointer (some ⟨G, 0, none⟩), .int .i64 n, .slice A m c] w fun e w' => e = .returned (.int .i64 (dvWrite st n b).1) ∧ DOn D w G F (dvWrite st n b).2 w'
  flush : ∀ w G F st i, D w G F st → Ok st i → i ≤ 1000 → st.kept.length ≤ 100 → Calls Try.prog 18 #[.pointer (some ⟨G, 0, none⟩)] w fun e w' => e = .returned (.int .i64 (dvFlush st).1) ∧ DOn D w G F (dvFlush st).2 w'
  limit : ∀ w G F st i (n : Int), D w G F st → Ok st i → -9223372036854775808 ≤ n → n < 9223372036854775808 → Calls Try.prog 20 #[.pointer (some ⟨G, 0, none⟩), .int .i64 n] w fun e w' => e = .returned (.tuple #[]) ∧ DOn D w G F (dvLimit st n) w'
  crash : ∀ w G F st i A m c keep, D w G F st → Ok st i → i ≤ 1000 → st.kept.length ≤ 100 → RdN w w.heap.size A keep → keep.length = m → m ≤ c → m ≤ 1000 → (∀ x, A = some x → keep ≠ [] → ¬ F x.block) →
    Calls Try.prog 22 #[.pointer (some ⟨G, 0, none⟩), .slice A m c] w fun e w' => e = .returned (.int .i64 (dvCrash st keep).1) ∧ DOn D w G F (dvCrash st keep).2 w'
  tamper : ∀ w G F st i (n : Int) A m c b, D w G F st → Ok st i → i ≤ 1000 → st.kept.length ≤ 100 → Rd w w.heap.size A b → b.length = m → m ≤ c → m ≤ 1000 → (∀ x, A = some x → b ≠ [] → ¬ F x.block) →
    Calls Try.prog 24 #[.pointer (some ⟨G, 0, none⟩), .int .i64 n, .slice A m c] w fun e w' => e = .returned (.int .i64 (dvTamper st n b).1) ∧ DOn D w G F (dvTamper st n b).2 w'
  image : ∀ w G F st i, D w G F st → Ok st i → i ≤ 1000 → st.kept.length ≤ 100 → Calls Try.prog 31 #[.pointer (some ⟨G, 0, none⟩)] w fun e w' =>
    ∃ A m c, e = .returned (.slice A m c) ∧ (image st).length = m ∧ m ≤ c ∧ Rd w' w'.heap.size A (image st) ∧ Grown w w'
  waits : ∀ w G F st i, D w G F st → Ok st i → i ≤ 1000 → Calls Try.prog 28 #[.pointer (some ⟨G, 0, none⟩)] w fun e w' => e = .returned (.int .i64 (st.pend.length : Int)) ∧ Grown w w'
section
variable {D : DTab}
theorem DevOk.grow (K : DevOk D) {w w' : World} {G : Nat} {F : Nat → Prop} {st : Dv} (h : D w G F st) (hg : Grown w w') : D w' G F st :=
  K.keep w w' G F st h (fun k hk => hg.block k (K.foot w G F st h k hk)) hg.size
theorem chSince {F : Nat → Prop} {w0 w w' : World} (hg : Grown w0 w) (h : Ch F w w') (hF : ∀ k, F k → w0.heap.size ≤ k) : Grown w0 w' :=
  ⟨h.os.trans hg.os, h.tape.trans hg.tape, h.output.trans hg.output, Nat.le_trans hg.size h.size, fun k hk => (h.block k (Nat.lt_of_lt_of_le hk hg.size) (fun hf => by have := hF k hf; omega)).trans (hg.block k hk)⟩
/-- The device was made behind w0. -/
def DSince (D : DTab) (w0 w : World) (G : Nat) (F : Nat → Prop) (st : Dv) : Prop := D w G F st ∧ (∀ k, F k → w0.heap.size ≤ k) ∧ Grown w0 w
theorem DSince.grow (K : DevOk D) {w0 w w' : World} {G : Nat} {F : Nat → Prop} {st : Dv} (h : DSince D w0 w G F st) (hg : Grown w w') : DSince D w0 w' G F st := ⟨K.grow h.1 hg, h.2.1, Grown.trans h.2.2 hg⟩
theorem DSince.step {w0 w w' : World} {G : Nat} {F : Nat → Prop} {st st' : Dv} (h : DSince D w0 w G F st) (h1 : DOn D w G F st' w') : ∃ F', DSince D w0 w' G F' st' := by
  obtain ⟨F', ha, hb, hc⟩ := h1
  refine ⟨F', ha, fun k hk => ?_, chSince h.2.2 hc h.2.1⟩
  rcases hb k hk with h4 | h4
  · exact h.2.1 k h4
  · exact Nat.le_trans h.2.2.size h4
end
end Go.Proofs.Ythakdjaaknbmpaa.S13
