/-
  law05's awake.
-/
import Derived.Test.YtbjfjncpnnlklaaDoorHtg
import Derived.Test.YtbjfjncpnnlklaaDoorRhx
namespace Go.Proofs.YtbjfjncpnnlklaaDoor.S5
open Go.RowKit
open S4 (Kt digest sumV arr arr_size arr_one digest_len infoA rdL_one rd_block)
set_option linter.unusedVariables false
set_option linter.unusedSimpArgs false

set_option maxRecDepth 100000 in
theorem jefe8 : (macL [74, 101, 102, 101] [119, 104, 97, 116, 32, 100, 111, 32, 121, 97, 32, 119, 97, 110, 116, 32, 102, 111, 114, 32, 110, 111, 116, 104, 105, 110, 103, 63]).take 8 = [22, 75, 122, 123, 252, 248, 25, 226] := by decide +kernel

/-- hmac.Sum(key, text): one piece. -/
theorem mac_one {w : World} {A : Option Addr} {k : List UInt8} {n c : Nat} {B : Option Addr} {p : List UInt8} {m d : Nat} (hk : Kt w) (h : Rd w w.heap.size A k) (hn : k.length = n) (hc : n ≤ c) (hl : n ≤ 40000) (h2 : Rd w w.heap.size B p) (hm : p.length = m) (hd : m ≤ d) (hl2 : m ≤ 40000) (fr : Nat × Nat) :
    Calls Tryd.prog 9 #[.slice A n c, .slice (some ⟨w.heap.size, 0, none⟩) 1 1] (w.alloc (.cells #[.slice B m d] 22 fr)) fun e w' => e = .returned (.agg (arr (macL k p))) ∧ Grown w w' := by
  have hf : [p].flatten = p := by simp
  refine (mac_any A n c k (some ⟨w.heap.size, 0, none⟩) 1 1 [p] _ (hk.grow (alloc_below w _)) (h.grow (alloc_below w _)) hn hc hl (rdL_one h2 hm hd fr) rfl (by omega) (by rw [hf, hm]; omega)).mono ?_
  rintro e w' ⟨rfl, hb⟩
  exact ⟨by rw [hf], Grown.trans (alloc_below w _) hb⟩
theorem tag_one {w : World} {A : Option Addr} {k : List UInt8} {n c : Nat} {B : Option Addr} {p : List UInt8} {m d : Nat} (hk : Kt w) (h : Rd w w.heap.size A k) (hn : k.length = n) (hc : n ≤ c) (hl : n ≤ 40000) (h2 : Rd w w.heap.size B p) (hm : p.length = m) (hd : m ≤ d) (hl2 : m ≤ 40000) (fr : Nat × Nat) :
    Calls Tryd.prog 10 #[.slice A n c, .slice (some ⟨w.heap.size, 0, none⟩) 1 1] (w.alloc (.cells #[.slice B m d] 22 fr)) fun e w' => e = .returned (.agg (arr (tagL k p))) ∧ Grown w w' := by
  have hf : [p].flatten = p := by simp
  refine (tag_any A n c k (some ⟨w.heap.size, 0, none⟩) 1 1 [p] _ (hk.grow (alloc_below w _)) (h.grow (alloc_below w _)) hn hc hl (rdL_one h2 hm hd fr) rfl (by omega) (by rw [hf, hm]; omega)).mono ?_
  rintro e w' ⟨rfl, hb⟩
  exact ⟨by rw [hf], Grown.trans (alloc_below w _) hb⟩
theorem right_one {w : World} {A : Option Addr} {k tg : List UInt8} {n c : Nat} {B : Option Addr} {p : List UInt8} {m d : Nat} (hk : Kt w) (h : Rd w w.heap.size A k) (hn : k.length = n) (hc : n ≤ c) (hl : n ≤ 40000) (ht : tg.length = 32) (h2 : Rd w w.heap.size B p) (hm : p.length = m) (hd : m ≤ d) (hl2 : m ≤ 40000) (fr : Nat × Nat) :
    Calls Tryd.prog 12 #[.slice A n c, .agg (arr tg), .slice (some ⟨w.heap.size, 0, none⟩) 1 1] (w.alloc (.cells #[.slice B m d] 22 fr)) (Says w (decide (tagL k p = tg))) := by
  have hf : [p].flatten = p := by simp
  refine (right_any A n c k tg (some ⟨w.heap.size, 0, none⟩) 1 1 [p] _ (hk.grow (alloc_below w _)) (h.grow (alloc_below w _)) hn hc hl ht (rdL_one h2 hm hd fr) rfl (by omega) (by rw [hf, hm]; omega)).mono ?_
  rintro e w' ⟨rfl, hb⟩
  exact ⟨by rw [hf], Grown.trans (alloc_below w _) hb⟩

set_option maxHeartbeats 4000000 in
theorem awake (w : World) (hk : Kt w) : Calls Tryd.prog 7 #[] w (Says w true) := by
  have Hk := Lib.hid hk
  clear hk
  have kc := fun (W : World) (C : Array Value) (n c : Nat) => Lib.run_convert_bytes_const (P := Tryd.prog) W 22 5 C n c Tryd.underlying22 Tryd.underlying5
  have kc1 : ∀ (W : World) (o : Obj) (C : Array Value) (n c : Nat), (convert 22 22 (.slice (some ⟨W.heap.size + 1, 0, none⟩) n c)).run Tryd.prog ((W.alloc o).alloc (.cells C 5)) = .ok (.slice (some ⟨W.heap.size + 1, 0, none⟩) n c) ((W.alloc o).alloc (.cells C 5 (C.size, C.size + 1))) := fun W o C n c => by
    have := kc (W.alloc o) C n c
    rwa [show (W.alloc o).heap.size = W.heap.size + 1 by simp] at this
  go_enter Tryd.func7, Tryd.ntmps7
  go_wp2_with fail
  have s1 : (w.alloc (.cells #[.int .u8 74, .int .u8 101, .int .u8 102, .int .u8 101] 5 (4, 5))).heap.size = w.heap.size + 1 := by simp
  have s2 : ((w.alloc (.cells #[.int .u8 74, .int .u8 101, .int .u8 102, .int .u8 101] 5 (4, 5))).alloc (.cells #[.int .u8 119, .int .u8 104, .int .u8 97, .int .u8 116, .int .u8 32, .int .u8 100, .int .u8 111, .int .u8 32, .int .u8 121, .int .u8 97, .int .u8 32, .int .u8 119, .int .u8 97, .int .u8 110, .int .u8 116, .int .u8 32, .int .u8 102, .int .u8 111, .int .u8 114, .int .u8 32, .int .u8 110, .int .u8 111, .int .u8 116, .int .u8 104, .int .u8 105, .int .u8 110, .int .u8 103, .int .u8 63] 5 (28, 29))).heap.size = w.heap.size + 1 + 1 := by simp
  have g2 : Grown w ((w.alloc (.cells #[.int .u8 74, .int .u8 101, .int .u8 102, .int .u8 101] 5 (4, 5))).alloc (.cells #[.int .u8 119, .int .u8 104, .int .u8 97, .int .u8 116, .int .u8 32, .int .u8 100, .int .u8 111, .int .u8 32, .int .u8 121, .int .u8 97, .int .u8 32, .int .u8 119, .int .u8 97, .int .u8 110, .int .u8 116, .int .u8 32, .int .u8 102, .int .u8 111, .int .u8 114, .int .u8 32, .int .u8 110, .int .u8 111, .int .u8 116, .int .u8 104, .int .u8 105, .int .u8 110, .int .u8 103, .int .u8 63] 5 (28, 29))) := Grown.trans (alloc_below w _) (alloc_below _ _)
  have r1 : Rd ((w.alloc (.cells #[.int .u8 74, .int .u8 101, .int .u8 102, .int .u8 101] 5 (4, 5))).alloc (.cells #[.int .u8 119, .int .u8 104, .int .u8 97, .int .u8 116, .int .u8 32, .int .u8 100, .int .u8 111, .int .u8 32, .int .u8 121, .int .u8 97, .int .u8 32, .int .u8 119, .int .u8 97, .int .u8 110, .int .u8 116, .int .u8 32, .int .u8 102, .int .u8 111, .int .u8 114, .int .u8 32, .int .u8 110, .int .u8 111, .int .u8 116, .int .u8 104, .int .u8 105, .int .u8 110, .int .u8 103, .int .u8 63] 5 (28, 29))) ((w.alloc (.cells #[.int .u8 74, .int .u8 101, .int .u8 102, .int .u8 101] 5 (4, 5))).alloc (.cells #[.int .u8 119, .int .u8 104, .int .u8 97, .int .u8 116, .int .u8 32, .int .u8 100, .int .u8 111, .int .u8 32, .int .u8 121, .int .u8 97, .int .u8 32, .int .u8 119, .int .u8 97, .int .u8 110, .int .u8 116, .int .u8 32, .int .u8 102, .int .u8 111, .int .u8 114, .int .u8 32, .int .u8 110, .int .u8 111, .int .u8 116, .int .u8 104, .int .u8 105, .int .u8 110, .int .u8 103, .int .u8 63] 5 (28, 29))).heap.size (some ⟨w.heap.size, 0, none⟩) [74, 101, 102, 101] :=
    rd_block (l := [74, 101, 102, 101]) (fr := (4, 5)) ((Below.heap_alloc _ _ _ (by rw [s1]; omega)).trans (heap_alloc_new w _)) (by rw [s2]; omega)
  have r2 : Rd ((w.alloc (.cells #[.int .u8 74, .int .u8 101, .int .u8 102, .int .u8 101] 5 (4, 5))).alloc (.cells #[.int .u8 119, .int .u8 104, .int .u8 97, .int .u8 116, .int .u8 32, .int .u8 100, .int .u8 111, .int .u8 32, .int .u8 121, .int .u8 97, .int .u8 32, .int .u8 119, .int .u8 97, .int .u8 110, .int .u8 116, .int .u8 32, .int .u8 102, .int .u8 111, .int .u8 114, .int .u8 32, .int .u8 110, .int .u8 111, .int .u8 116, .int .u8 104, .int .u8 105, .int .u8 110, .int .u8 103, .int .u8 63] 5 (28, 29))) ((w.alloc (.cells #[.int .u8 74, .int .u8 101, .int .u8 102, .int .u8 101] 5 (4, 5))).alloc (.cells #[.int .u8 119, .int .u8 104, .int .u8 97, .int .u8 116, .int .u8 32, .int .u8 100, .int .u8 111, .int .u8 32, .int .u8 121, .int .u8 97, .int .u8 32, .int .u8 119, .int .u8 97, .int .u8 110, .int .u8 116, .int .u8 32, .int .u8 102, .int .u8 111, .int .u8 114, .int .u8 32, .int .u8 110, .int .u8 111, .int .u8 116, .int .u8 104, .int .u8 105, .int .u8 110, .int .u8 103, .int .u8 63] 5 (28, 29))).heap.size (some ⟨w.heap.size + 1, 0, none⟩) [119, 104, 97, 116, 32, 100, 111, 32, 121, 97, 32, 119, 97, 110, 116, 32, 102, 111, 114, 32, 110, 111, 116, 104, 105, 110, 103, 63] :=
    rd_block (l := [119, 104, 97, 116, 32, 100, 111, 32, 121, 97, 32, 119, 97, 110, 116, 32, 102, 111, 114, 32, 110, 111, 116, 104, 105, 110, 103, 63]) (fr := (28, 29)) (by rw [← s1]; exact heap_alloc_new _ _) (by rw [s2]; omega)
  have e1 := mac_one (c := 4) (d := 28) (Hk.out.grow g2) r1 rfl (by simp) (by simp) r2 rfl (by simp) (by simp) (0, 0)
  rw [s2] at e1
  refine e1.mono ?_
  rintro e w2 ⟨rfl, hb2⟩
  have Hb2 := Lib.hid (Grown.trans g2 hb2)
  obtain ⟨D, hD⟩ : ∃ D, D = arr (macL [74, 101, 102, 101] [119, 104, 97, 116, 32, 100, 111, 32, 121, 97, 32, 119, 97, 110, 116, 32, 102, 111, 114, 32, 110, 111, 116, 104, 105, 110, 103, 63]) := ⟨_, rfl⟩
  rw [← hD]
  have HD := Lib.hid hD
  clear hb2 e1 hD r1 r2 g2 s1 s2 kc kc1
  go_wp2_with (first
    | (refine wpList_store_last rfl 26 (.tmp 1) (.tmp 7) rfl rfl rfl (by rw [HD.out, arr_size, macL_len]; exact infoA) (by rw [HD.out, arr_size, macL_len]; rfl) (by rw [HD.out]; exact arr_one _) ?_))
  have hr : Rd (w2.alloc (.cells D 26)) (w2.alloc (.cells D 26)).heap.size (some ⟨w2.heap.size, 0, none⟩) [22, 75, 122, 123, 252, 248, 25, 226] := by
    rw [HD.out, ← jefe8]
    exact (rd_block (t := 26) (heap_alloc_new w2 _) (by simp)).take 8
  refine (refHex_any _ 8 64 [22, 75, 122, 123, 252, 248, 25, 226] _ rfl hr (by omega)).mono ?_
  rintro e w4 ⟨rfl, hb4⟩
  have Hb4 := Lib.hid (Grown.trans (alloc_below w2 _) hb4)
  clear hb4 hr
  rw [show (⟨(hexL [22, 75, 122, 123, 252, 248, 25, 226]).toArray⟩ : ByteArray) = ⟨#[49, 54, 52, 98, 55, 97, 55, 98, 102, 99, 102, 56, 49, 57, 101, 50]⟩ from rfl]
  go_wp2
  go_ret
  exact ⟨rfl, Grown.trans (show Grown w w2 from Hb2.out) Hb4.out⟩
end Go.Proofs.YtbjfjncpnnlklaaDoor.S5
