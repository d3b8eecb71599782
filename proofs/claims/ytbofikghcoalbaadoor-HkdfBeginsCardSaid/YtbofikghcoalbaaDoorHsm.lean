/-
  Contract of the program's hmac.Sum.
-/
import Derived.Test.YtbofikghcoalbaaDoorHmk
import Derived.Test.YtbofikghcoalbaaDoorApl
namespace Go.Proofs.YtbofikghcoalbaaDoor.S5
open Go.RowKit
open S4 (Kt put_one sum_put digest sumV arr arr_size arr_one digest_len infoA rdL_one rd_block u64D)
set_option linter.unusedVariables false
set_option linter.unusedSimpArgs false

/-- The MAC of a text with a key. -/
def inL (k T : List UInt8) : List UInt8 := digest (sumV (maskL (blkL k) 54 ++ T))
def macL (k T : List UInt8) : List UInt8 := digest (sumV (maskL (blkL k) 92 ++ inL k T))
theorem macL_len (k T : List UInt8) : (macL k T).length = 64 := digest_len _

theorem rdL_two {w : World} {A B : Option Addr} {p q : List UInt8} {n c m d : Nat} (h : Rd w w.heap.size A p) (h2 : Rd w w.heap.size B q) (hn : p.length = n) (hc : n ≤ c) (hm : q.length = m) (hd : m ≤ d) :
    RdL (w.alloc (.cells #[.slice A n c, .slice B m d] 22)) (w.alloc (.cells #[.slice A n c, .slice B m d] 22)).heap.size (some ⟨w.heap.size, 0, none⟩) [p, q] := by
  refine .inr ⟨w.heap.size, 0, rfl, by simp, fun j hj => ?_⟩
  rw [cell_of_row _ _ _ _ 22 (0, 0) (heap_alloc_new w _)]
  match j, hj with
  | 0, _ => exact ⟨A, c, by simp [hn], by simpa [hn] using hc, h.grow (alloc_below w _)⟩
  | 1, _ => exact ⟨B, d, by simp [hm], by simpa [hm] using hd, h2.grow (alloc_below w _)⟩

theorem wp_store_cells {P : Program} {W : World} {o : Oper} {a : Act} {K : Act → World → Prop} {Q : Exit → Act → World → Prop} (t : TypeId) (x y : Operand) (ho : o.op = .store t x y) {g : Nat} {old cs : Array Value} {t' : TypeId} (hx : a.eval x = .pointer (some ⟨g, 0, none⟩)) (hy : a.eval y = .agg cs)
    (hg : W.heap[g]? = some (.cells old t' (0, 0))) (hi : (P.info? t).map (·.size) = some cs.size) (hs : old.size = cs.size) (h1 : cs.all (·.oneCell') = true) (h : K (a.put o.dst undef) (W.setRow g cs)) : o.wp P a W K Q := by
  have hr := run_storeVar_row (P := P) W g t' t old cs hg hi hs h1
  unfold Oper.wp execOp
  simp only [ho, hx, hy, Instr.storeAt, Instr.sureAddr, Sem.run_bind, Sem.run_pure, Result.andThen_ok, hr]
  exact h

set_option maxHeartbeats 4000000 in
theorem mac_any (A : Option Addr) (n c : Nat) (k : List UInt8) (A2 : Option Addr) (n2 c2 : Nat) (ls : List (List UInt8)) (w : World) (hk : Kt w) (h : Rd w w.heap.size A k) (hn : k.length = n) (hc : n ≤ c) (hl : n ≤ 40000)
    (h2 : RdL w w.heap.size A2 ls) (hn2 : ls.length = n2) (hl2 : n2 ≤ 90000) (hf : ls.flatten.length ≤ 40000) :
    Calls Tryd.prog 15 #[.slice A n c, .slice A2 n2 c2] w fun e w' => e = .returned (.agg (arr (macL k ls.flatten))) ∧ Grown w w' := by
  have H := Lib.hid h
  have Hn := Lib.hid hn
  have Hk := Lib.hid hk
  have H2 := Lib.hid h2
  have Hn2 := Lib.hid hn2
  have Hf := Lib.hid hf
  clear h hk hn h2 hn2 hf
  go_enter Tryd.func15, Tryd.ntmps15
  go_wp2_with fail
  have Hz0 := Lib.hid (heap_alloc_new w (.cells (List.replicate 64 (Value.int .u8 0)).toArray 24))
  have Hg0 := Lib.hid (show Grown w _ from alloc_below w (.cells (List.replicate 64 (Value.int .u8 0)).toArray 24))
  simp only [List.replicate] at Hz0 Hg0
  generalize w.alloc _ = w0 at Hz0 Hg0 ⊢
  refine (block_any A n c k _ (Hk.out.grow Hg0.out) (H.out.grow Hg0.out) Hn.out hc hl).mono ?_
  rintro e w1 ⟨A3, c3, rfl, ho3, hb3⟩
  rw [blkL_len]
  have R1 := Lib.hid ho3.rd
  have hc3 : 128 ≤ c3 := by have := ho3.le; rwa [blkL_len] at this
  have Hz1 := Lib.hid ((hb3.block _ (lt_of_heap Hz0.out)).trans Hz0.out)
  have Hg1 := Lib.hid (Grown.trans Hg0.out hb3)
  clear ho3 hb3 Hz0 Hg0
  go_wp2_with fail
  refine (mask_any A3 c3 (blkL k) 54 _ R1.out (blkL_len k)).mono ?_
  rintro e w2 ⟨A4, c4, rfl, ho4, hb4⟩
  rw [maskL_len _ _ (blkL_len k)]
  have R2 := Lib.hid (R1.out.grow hb4)
  have M2 := Lib.hid ho4.rd
  have hc4 : 128 ≤ c4 := by have := ho4.le; rwa [maskL_len _ _ (blkL_len k)] at this
  have Hz2 := Lib.hid ((hb4.block _ (lt_of_heap Hz1.out)).trans Hz1.out)
  have Hg2 := Lib.hid (Grown.trans Hg1.out hb4)
  clear ho4 hb4 R1 Hz1 Hg1
  obtain ⟨z, hz, hzs⟩ : ∃ z, w2.heap[w.heap.size]? = some (.cells z 24 (0, 0)) ∧ z.size = 64 := ⟨_, Hz2.out, rfl⟩
  clear Hz2
  have Hz2 := Lib.hid hz
  have Hzs := Lib.hid hzs
  have L2 := Lib.hid ((H2.out.keep Hg2.out).more (Below.size Hg2.out))
  clear hz hzs
  go_wp2_with (first
    | (at_builtin
       refine wpList_appLs rfl (.tmp 12) (.tmp 13) rfl (p := maskL (blkL k) 54) (ls := ls) rfl (heap_alloc_new w2 _) (M2.out.grow (alloc_below w2 _)) (maskL_len _ _ (blkL_len k)) hc4 rfl ((L2.out.keep (alloc_below w2 _)).more (Below.size (alloc_below w2 _))) Hn2.out (by omega) ?_
       intro A5 c5 w3 hr5 hg5
       have T3 := Lib.hid hr5
       have Hg3a := Lib.hid (Grown.trans (alloc_below w2 _) hg5)
       clear hr5 hg5))
  have R3 := Lib.hid (R2.out.grow Hg3a.out)
  have Hz3 := Lib.hid ((Below.block Hg3a.out _ (lt_of_heap Hz2.out)).trans Hz2.out)
  have Hg3 := Lib.hid (Grown.trans Hg2.out Hg3a.out)
  have Hfl := Lib.hid (show (maskL (blkL k) 54 :: ls).flatten = maskL (blkL k) 54 ++ ls.flatten from rfl)
  clear R2 Hz2 Hg3a Hg2 M2 L2
  refine (sum_put A5 (n2 + 1) c5 (maskL (blkL k) 54 :: ls) _ (Hk.out.grow Hg3.out) T3.out (by simp [Hn2.out]) (by omega) (by rw [Hfl.out, List.length_append, maskL_len _ _ (blkL_len k)]; have := Hf.out; omega)).mono ?_
  rw [Hfl.out, show digest (sumV (maskL (blkL k) 54 ++ ls.flatten)) = inL k ls.flatten from rfl]
  rintro e w4 ⟨rfl, hb4⟩
  obtain ⟨D, hD⟩ : ∃ D, D = arr (inL k ls.flatten) := ⟨_, rfl⟩
  rw [← hD]
  have HD := Lib.hid hD
  have R4 := Lib.hid (R3.out.grow hb4)
  have Hz4 := Lib.hid ((Below.block hb4 _ (lt_of_heap Hz3.out)).trans Hz3.out)
  have Hg4 := Lib.hid (Grown.trans Hg3.out hb4)
  clear hD hb4 R3 Hz3 Hg3 T3
  go_wp2_with (first
    | (refine wpList_store_last rfl 24 (.tmp 7) (.tmp 16) rfl rfl rfl (by rw [HD.out, arr_size, inL, digest_len]; exact infoA) (by rw [HD.out, arr_size, inL, digest_len]; rfl) (by rw [HD.out]; exact arr_one _) ?_))
  have HI := Lib.hid (show Rd (w4.alloc (.cells D 24)) (w4.alloc (.cells D 24)).heap.size (some ⟨w4.heap.size, 0, none⟩) (inL k ls.flatten) by
    rw [HD.out]
    exact rd_block (t := 24) (heap_alloc_new w4 _) (by simp))
  have R5 := Lib.hid (R4.out.grow (alloc_below w4 (.cells D 24)))
  have Hz5 := Lib.hid ((Below.block (alloc_below w4 (.cells D 24)) _ (lt_of_heap Hz4.out)).trans Hz4.out)
  have Hg5 := Lib.hid (Grown.trans Hg4.out (alloc_below w4 (.cells D 24)))
  generalize hgi : w4.heap.size = gi at HI ⊢
  generalize w4.alloc _ = w5 at HI R5 Hz5 Hg5 ⊢
  clear R4 Hz4 Hg4 HD
  try simp only [Act.put]
  refine restS_begin (fun _ => True) (by kernel_rfl) ?_
  have hdr := S4.grown_drew w5
  replace R5 := Lib.hid (R5.out.grow hdr)
  replace HI := Lib.hid (HI.out.grow hdr)
  replace Hz5 := Lib.hid ((Below.block hdr _ (lt_of_heap Hz5.out)).trans Hz5.out)
  replace Hg5 := Lib.hid (Grown.trans Hg5.out hdr)
  clear hdr
  generalize w5.drew = w5 at *
  refine restS_take (i := 0) trivial rfl (by kernel_rfl) (by kernel_rfl) (by kernel_rfl) (by rfl) (fun w' hg => by go_simp; try with_reducible rfl) ?_
  try simp only [Act.put, List.setIfInBounds_toArray, List.set_cons_zero, List.set_cons_succ]
  refine restS_take (i := 2) trivial rfl (by kernel_rfl) (by kernel_rfl) (by kernel_rfl) (by rfl) (fun w' hg => by go_simp; try with_reducible rfl) ?_
  try simp only [Act.put, List.setIfInBounds_toArray, List.set_cons_zero, List.set_cons_succ]
  refine restS_lone (i := 1) rfl (by kernel_rfl) (by rfl) (fun K hK => ?_)
  go_simp
  refine (mask_any A3 c3 (blkL k) 92 _ R5.out (blkL_len k)).mono ?_
  rintro e w6 ⟨A6, c6, rfl, ho6, hb6⟩
  rw [maskL_len _ _ (blkL_len k)]
  refine hK.out _ _ trivial ?_
  clear hK K
  have M6 := Lib.hid ho6.rd
  have hc6 : 128 ≤ c6 := by have := ho6.le; rwa [maskL_len _ _ (blkL_len k)] at this
  have HI6 := Lib.hid (HI.out.grow hb6)
  have Hz6 := Lib.hid ((Below.block hb6 _ (lt_of_heap Hz5.out)).trans Hz5.out)
  have Hg6 := Lib.hid (Grown.trans Hg5.out hb6)
  clear ho6 hb6 R5 Hz5 Hg5 HI
  try simp only [Act.put, List.setIfInBounds_toArray, List.set_cons_zero, List.set_cons_succ]
  refine restS_lone (i := 3) rfl (by kernel_rfl) (by rfl) (fun K hK => ?_)
  go_simp
  refine hK.out _ _ trivial ?_
  clear hK K
  try simp only [Act.put, List.setIfInBounds_toArray, List.set_cons_zero, List.set_cons_succ]
  have T7 := Lib.hid (rdL_two M6.out HI6.out (maskL_len _ _ (blkL_len k)) hc6 (digest_len _) (Nat.le_refl 64))
  have hw7 := alloc_below w6 (.cells #[.slice A6 128 c6, .slice (some ⟨gi, 0, none⟩) 64 64] 22)
  have Hz7 := Lib.hid ((Below.block hw7 _ (lt_of_heap Hz6.out)).trans Hz6.out)
  have Hg7 := Lib.hid (Grown.trans Hg6.out hw7)
  clear hw7 M6 HI6 Hz6 Hg6
  generalize hg7 : w6.heap.size = g7 at T7 ⊢
  generalize w6.alloc _ = w7 at T7 Hz7 Hg7 ⊢
  refine restS_lone (i := 4) rfl (by kernel_rfl) (by rfl) (fun K hK => ?_)
  go_simp
  have Hfl2 := Lib.hid (show [maskL (blkL k) 92, inL k ls.flatten].flatten = maskL (blkL k) 92 ++ inL k ls.flatten by simp)
  refine (sum_put _ 2 2 [maskL (blkL k) 92, inL k ls.flatten] _ (Hk.out.grow Hg7.out) T7.out rfl (by omega) (by rw [Hfl2.out, List.length_append, maskL_len _ _ (blkL_len k), inL, digest_len]; omega)).mono ?_
  rw [Hfl2.out, show digest (sumV (maskL (blkL k) 92 ++ inL k ls.flatten)) = macL k ls.flatten from rfl]
  rintro e w8 ⟨rfl, hb8⟩
  refine hK.out _ _ trivial ?_
  clear hK K
  obtain ⟨E, hE⟩ : ∃ E, E = arr (macL k ls.flatten) := ⟨_, rfl⟩
  rw [← hE]
  have hEs : E.size = 64 := by rw [hE, arr_size, macL_len]
  have Hi := Lib.hid (show (Tryd.prog.info? 24).map (·.size) = some E.size by rw [hEs]; exact infoA)
  have Hsz := Lib.hid hEs
  have Hone := Lib.hid (show E.all (·.oneCell') = true by rw [hE]; exact arr_one _)
  have HE := Lib.hid hE
  have Hz8 := Lib.hid ((Below.block hb8 _ (lt_of_heap Hz7.out)).trans Hz7.out)
  have Hg8 := Lib.hid (Grown.trans Hg7.out hb8)
  clear hE hEs hb8 Hz7 Hg7 T7
  try simp only [Act.put, List.setIfInBounds_toArray, List.set_cons_zero, List.set_cons_succ]
  refine restS_lone (i := 5) rfl (by kernel_rfl) (by rfl) (fun K hK => ?_)
  refine wp_store_cells 24 (.tmp 4) (.tmp 21) rfl rfl rfl Hz8.out Hi.out (by rw [Hzs.out, Hsz.out]) Hone.out ?_
  refine hK.out _ _ trivial ?_
  clear hK K
  try simp only [Act.put]
  refine restS_done (by kernel_rfl) ?_
  go_wp2
  refine S4.ret_row rfl _ rfl (S4.setRow_at Hz8.out) u64D rfl Hi.out ⟨by rw [HE.out], ?_⟩
  exact S4.Below.setRow' Hg8.out (Nat.le_refl _) _
end Go.Proofs.YtbofikghcoalbaaDoor.S5
