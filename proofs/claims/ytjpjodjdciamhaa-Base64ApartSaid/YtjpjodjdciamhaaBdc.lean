/-
  Contract of base64's Decode.
-/
import Derived.Test.YtjpjodjdciamhaaBgr
import Derived.Test.YtjpjodjdciamhaaBec
namespace Go.Proofs.Ytjpjodjdciamhaa
open Go.RowKit
set_option linter.unusedVariables false
set_option linter.unusedSimpArgs false

theorem dec_app : ∀ (q : Nat) (p r : List UInt8), p.length = 4 * q → (Dec (p ++ r) ↔ Dec p ∧ Dec r) ∧ outL (p ++ r) = outL p ++ outL r
  | 0, p, r, h => by
    obtain rfl : p = [] := List.eq_nil_of_length_eq_zero (by omega)
    simp [out_nil, dec_nil]
  | q + 1, x :: y :: z :: t :: p, r, h => by
    have ih := dec_app q p r (by simp at h; omega)
    simp only [List.cons_append]
    rw [dec_four, dec_four, out_four, out_four, ih.1, ih.2]
    refine ⟨?_, rfl⟩
    simp only [and_assoc]
  | q + 1, [], r, h => by simp at h
  | q + 1, [x], r, h => by simp at h; omega
  | q + 1, [x, y], r, h => by simp at h; omega
  | q + 1, [x, y, z], r, h => by simp at h; omega
theorem dec_len (s : List UInt8) (h : Dec s) : s.length % 4 ≠ 1 := by
  have h1 := congrArg List.length ((dec_iff s).1 h).2
  rw [encL_len, outL_len] at h1
  omega
/-- Where Decode stands: the characters p are read, r are left. -/
structure DecSt (w wr : World) (s p r : List UInt8) (A1 : Option Addr) (c1 : Nat) : Prop where
  all : p ++ r = s
  dec : Dec p
  four : (∃ q, p.length = 4 * q) ∨ r = []
  own : Own wr w.heap.size A1 c1 (outL p)
  below : Below w.heap.size w wr
theorem DecSt.stop {w wr : World} {s p r : List UInt8} {A1 : Option Addr} {c1 : Nat} (h : DecSt w wr s p r A1 c1) (hr : r ≠ []) {g r' : List UInt8} (e : r = g ++ r') (hg : ¬ Dec g) (hl : g.length = 4 ∨ r' = []) : ¬ Dec s := by
  intro hd
  obtain ⟨q, hq⟩ := h.four.resolve_right hr
  rw [← h.all, (dec_app q p r hq).1] at hd
  rcases hl with hl | rfl
  · rw [e, (dec_app 1 g r' hl).1] at hd
    exact hg hd.2.1
  · rw [List.append_nil] at e
    rw [e] at hd
    exact hg hd.2
theorem DecSt.step {w wr w3 : World} {s p r : List UInt8} {A1 A3 : Option Addr} {c1 c3 : Nat} (h : DecSt w wr s p r A1 c1) (hr : r ≠ []) {g r' : List UInt8} (e : r = g ++ r') (hg : Dec g) (hl : g.length = 4 ∨ r' = [])
    (ho : Own w3 w.heap.size A3 c3 (outL p ++ outL g)) (hb : Below w.heap.size w w3) : DecSt w w3 s (p ++ g) r' A3 c3 := by
  obtain ⟨q, hq⟩ := h.four.resolve_right hr
  have ha := dec_app q p g hq
  refine ⟨by rw [List.append_assoc, ← e]; exact h.all, ha.1.2 ⟨h.dec, hg⟩, ?_, by rw [ha.2]; exact ho, hb⟩
  rcases hl with hl | hl
  · exact .inl ⟨q + 1, by rw [List.length_append]; omega⟩
  · exact .inr hl
theorem strTo (g r' : List UInt8) (n : Nat) (hn : g.length = n) (W : World) : (Instr.slice 9 (.string { data := (g ++ r').toArray }) none (some (.int .i64 (n : Int))) none).run Try.prog W = .ok (.string { data := g.toArray }) W := by
  have hsz : ((⟨(g ++ r').toArray⟩ : ByteArray).size) = g.length + r'.length := by show (g ++ r').toArray.size = _; simp
  rw [run_slice_string_to_if W 9 _ .i64 (n : Int) Try.underlying9, if_pos ⟨by omega, by rw [hsz]; omega⟩]
  congr 2
  apply ByteArray.ext
  rw [ByteArray.data_extract]
  apply Array.ext'
  simp [← hn, hsz]
theorem strFrom (g r' : List UInt8) (n : Nat) (hn : g.length = n) (W : World) : (Instr.slice 9 (.string { data := (g ++ r').toArray }) (some (.int .i64 (n : Int))) none none).run Try.prog W = .ok (.string { data := r'.toArray }) W := by
  have hsz : ((⟨(g ++ r').toArray⟩ : ByteArray).size) = g.length + r'.length := by show (g ++ r').toArray.size = _; simp
  rw [run_slice_string_from_if W 9 _ .i64 (n : Int) Try.underlying9, if_pos ⟨by omega, by rw [hsz]; omega⟩]
  congr 2
  apply ByteArray.ext
  rw [ByteArray.data_extract]
  apply Array.ext'
  simp [← hn, hsz]
theorem one_rd (w : World) (x y z : UInt8) (k : Nat) : Rd (w.alloc (.cells #[.int .u8 (x.toNat : Int), .int .u8 (y.toNat : Int), .int .u8 (z.toNat : Int)] 35)) (w.heap.size + 1) (some ⟨w.heap.size, 0, none⟩) ([x, y, z].take k) := by
  refine Rd.take ?_ k
  refine .inr ⟨w.heap.size, 0, rfl, by omega, fun j hj => ?_⟩
  rw [Nat.zero_add, cell_of_row _ _ j _ _ _ (heap_alloc_new w _)]
  simp only [List.length_cons, List.length_nil] at hj
  match j, hj with
  | 0, _ => rfl
  | 1, _ => rfl
  | 2, _ => rfl
/-- The same, as the loop's slots hold it. -/
def DecIn (w wr : World) (s : List UInt8) (n : Nat) (v o : Value) : Prop :=
  ∃ (p r : List UInt8) (R : ByteArray) (m k : Nat) (A1 : Option Addr) (c1 : Nat), v = .string R ∧ R.size = m ∧ o = .slice A1 k c1 ∧ m ≤ n ∧ k + m ≤ 100000 ∧ Hid (m % 4 ≠ 1) ∧ Hid ((outL p).length = k) ∧ Hid (R = { data := r.toArray }) ∧ Hid (r.length = m) ∧ Hid (DecSt w wr s p r A1 c1)
def strLen : Value → Nat
  | .string s => s.size
  | _ => 0

set_option maxHeartbeats 4000000 in
theorem decode_dev (s : List UInt8) (n : Nat) (w : World) (hn : s.length = n) (hl : n ≤ 100000) :
    Calls Try.prog 10 #[.string { data := s.toArray }] w (TwoD w s) := by
  obtain ⟨S, hS⟩ : ∃ S : ByteArray, S = { data := s.toArray } := ⟨_, rfl⟩
  have hSs : S.size = n := by rw [hS]; show s.toArray.size = n; simpa using hn
  have HS := Lib.hid hS
  have Hn := Lib.hid hn
  rw [← hS]
  clear hS hn
  go_enter Try.func10, Try.ntmps10
  by_cases h1 : n % 4 = 1
  · go_wp2
    go_ret2
    exact .inr ⟨fun hd => dec_len s hd (by rw [Hn.out]; exact h1), rfl, Below.refl _ _⟩
  · have h1b : ((n : Int) % 4 == 1) = false := by
      rw [beq_eq_false_iff_ne]
      omega
    go_wp2
    clear hSs
    go_loopw [0, 4] (fun v o wr => DecIn w wr s n v o) (fun v _ _ => strLen v)
    case atStart => exact ⟨[], s, S, n, 0, none, 0, rfl, by rw [HS.out]; show s.toArray.size = n; simpa using Hn.out, rfl, Nat.le_refl _, by omega, h1, rfl, HS.out, Hn.out, ⟨rfl, dec_nil, .inl ⟨0, rfl⟩, Own.nil _ _, Below.refl _ _⟩⟩
    case round =>
      obtain ⟨p, r, R, m, k, A1, c1, rfl, hRm, rfl, hmn, hkm, Hm1, Hk, HR, Hr, Hst⟩ := hrel
      have hsz : w.heap.size ≤ wr.heap.size := Hst.out.below.size
      by_cases hm0 : m = 0
      · subst hm0
        have hr : r = [] := List.eq_nil_of_length_eq_zero Hr.out
        go_wp2
        go_ret2
        have hs : p = s := by have := Hst.out.all; rw [hr, List.append_nil] at this; exact this
        refine .inl ⟨by rw [← hs]; exact Hst.out.dec, A1, c1, ?_, by rw [← hs]; exact Hst.out.own, Hst.out.below⟩
        show Ending.returned (.tuple #[.slice A1 k c1, .bool true]) = _
        rw [← hs, Hk.out]
      · have hcase : m = 2 ∨ m = 3 ∨ m = 4 ∨ 4 < m := by have := Hm1.out; omega
        have Hne := Lib.hid (show r ≠ [] by intro e; have := Hr.out; rw [e] at this; simp at this; omega)
        clear hm0
        rcases hcase with rfl | rfl | rfl | hm4
        · obtain ⟨a, b, r', hr'⟩ : ∃ a b r', r = [a, b] ++ r' := by
            have h5 := Hr.out
            match r, h5 with
            | [a, b], _ => exact ⟨a, b, [], rfl⟩
          have hrl : r'.length = 0 := by have := Hr.out; rw [hr', List.length_append] at this; simp at this; exact List.length_eq_zero_iff.2 this
          have Hrl := Lib.hid hrl
          obtain ⟨R', hR'⟩ : ∃ R' : ByteArray, R' = { data := r'.toArray } := ⟨_, rfl⟩
          have hto : ∀ W : World, (Instr.slice 9 (.string R) none (some (.int .i64 2)) none).run Try.prog W = .ok (.string { data := #[a, b] }) W := fun W => by rw [HR.out, hr']; exact strTo [a, b] r' 2 rfl W
          have hfrom : ∀ W : World, (Instr.slice 9 (.string R) (some (.int .i64 2)) none none).run Try.prog W = .ok (.string R') W := fun W => by rw [HR.out, hr', hR']; exact strFrom [a, b] r' 2 rfl W
          have Hr2 := Lib.hid hr'
          have HR2 := Lib.hid hR'
          clear hr' hR' hrl
          go_wp2_with fail
          refine (grp2 a b _).mono ?_
          rintro e w5 (⟨hd, x, y, z, rfl, ho, hb⟩ | ⟨hd, rfl, hb⟩)
          · have Hd := Lib.hid hd
            have Ho := Lib.hid ho
            have Hb := Lib.hid hb
            clear hd ho hb
            have hs5 := Hb.out.size
            have Hod := Lib.hid ((Hst.out.own.grow Hb.out).grow (alloc_below w5 (.cells #[.int .u8 (x.toNat : Int), .int .u8 (y.toNat : Int), .int .u8 (z.toNat : Int)] 35)))
            go_wp2_with (first
              | (at_builtin
                 refine wpList_appK rfl (.tmp 27) (.tmp 30) rfl Hk.out rfl Hod.out (n2 := 1) (l2 := [x, y, z].take 1) rfl rfl (one_rd w5 x y z 1) (by omega) (by simp; omega) ?_
                 intro A3 c3 w3 ho3 hb3 hk3
                 have Ho3 := Lib.hid ho3
                 have Hb3 := Lib.hid hb3
                 clear ho3 hb3 hk3))
            go_roundw
            case rel =>
              have hg : [x, y, z].take 1 = outL [a, b] := Ho.out
              refine ⟨p ++ [a, b], r', R', 0, k + 1, A3, c3, rfl, by rw [HR2.out]; show r'.toArray.size = _; simpa using Hrl.out, rfl, by omega, by omega, ?_, ?_, HR2.out, Hrl.out, ?_⟩
              · show (0) % 4 ≠ 1
                have := Hm1.out
                omega
              · show _ = _
                rw [(dec_app _ p _ (Hst.out.four.resolve_right Hne.out).choose_spec).2, List.length_append, Hk.out, ← hg]
                rfl
              · refine Hst.out.step Hne.out Hr2.out Hd.out (.inr (List.eq_nil_of_length_eq_zero Hrl.out)) (by rw [← hg]; exact Ho3.out) ?_
                exact ((Hst.out.below.trans (Hb.out.mono hsz)).alloc (by omega) _).trans Hb3.out
            case measure => simp [strLen]; rw [HR2.out]; show r'.toArray.size < _; have := Hrl.out; simp; omega
          · have Hd := Lib.hid hd
            have Hb := Lib.hid hb
            clear hd hb
            go_wp2
            go_ret2
            exact .inr ⟨Hst.out.stop Hne.out Hr2.out Hd.out (.inr (List.eq_nil_of_length_eq_zero Hrl.out)), rfl, (Hst.out.below.trans (Hb.out.mono hsz)).alloc (by have := Hb.out.size; omega) _⟩
        · obtain ⟨a, b, c, r', hr'⟩ : ∃ a b c r', r = [a, b, c] ++ r' := by
            have h5 := Hr.out
            match r, h5 with
            | [a, b, c], _ => exact ⟨a, b, c, [], rfl⟩
          have hrl : r'.length = 0 := by have := Hr.out; rw [hr', List.length_append] at this; simp at this; exact List.length_eq_zero_iff.2 this
          have Hrl := Lib.hid hrl
          obtain ⟨R', hR'⟩ : ∃ R' : ByteArray, R' = { data := r'.toArray } := ⟨_, rfl⟩
          have hto : ∀ W : World, (Instr.slice 9 (.string R) none (some (.int .i64 3)) none).run Try.prog W = .ok (.string { data := #[a, b, c] }) W := fun W => by rw [HR.out, hr']; exact strTo [a, b, c] r' 3 rfl W
          have hfrom : ∀ W : World, (Instr.slice 9 (.string R) (some (.int .i64 3)) none none).run Try.prog W = .ok (.string R') W := fun W => by rw [HR.out, hr', hR']; exact strFrom [a, b, c] r' 3 rfl W
          have Hr2 := Lib.hid hr'
          have HR2 := Lib.hid hR'
          clear hr' hR' hrl
          go_wp2_with fail
          refine (grp3 a b c _).mono ?_
          rintro e w5 (⟨hd, x, y, z, rfl, ho, hb⟩ | ⟨hd, rfl, hb⟩)
          · have Hd := Lib.hid hd
            have Ho := Lib.hid ho
            have Hb := Lib.hid hb
            clear hd ho hb
            have hs5 := Hb.out.size
            have Hod := Lib.hid ((Hst.out.own.grow Hb.out).grow (alloc_below w5 (.cells #[.int .u8 (x.toNat : Int), .int .u8 (y.toNat : Int), .int .u8 (z.toNat : Int)] 35)))
            go_wp2_with (first
              | (at_builtin
                 refine wpList_appK rfl (.tmp 27) (.tmp 30) rfl Hk.out rfl Hod.out (n2 := 2) (l2 := [x, y, z].take 2) rfl rfl (one_rd w5 x y z 2) (by omega) (by simp; omega) ?_
                 intro A3 c3 w3 ho3 hb3 hk3
                 have Ho3 := Lib.hid ho3
                 have Hb3 := Lib.hid hb3
                 clear ho3 hb3 hk3))
            go_roundw
            case rel =>
              have hg : [x, y, z].take 2 = outL [a, b, c] := Ho.out
              refine ⟨p ++ [a, b, c], r', R', 0, k + 2, A3, c3, rfl, by rw [HR2.out]; show r'.toArray.size = _; simpa using Hrl.out, rfl, by omega, by omega, ?_, ?_, HR2.out, Hrl.out, ?_⟩
              · show (0) % 4 ≠ 1
                have := Hm1.out
                omega
              · show _ = _
                rw [(dec_app _ p _ (Hst.out.four.resolve_right Hne.out).choose_spec).2, List.length_append, Hk.out, ← hg]
                rfl
              · refine Hst.out.step Hne.out Hr2.out Hd.out (.inr (List.eq_nil_of_length_eq_zero Hrl.out)) (by rw [← hg]; exact Ho3.out) ?_
                exact ((Hst.out.below.trans (Hb.out.mono hsz)).alloc (by omega) _).trans Hb3.out
            case measure => simp [strLen]; rw [HR2.out]; show r'.toArray.size < _; have := Hrl.out; simp; omega
          · have Hd := Lib.hid hd
            have Hb := Lib.hid hb
            clear hd hb
            go_wp2
            go_ret2
            exact .inr ⟨Hst.out.stop Hne.out Hr2.out Hd.out (.inr (List.eq_nil_of_length_eq_zero Hrl.out)), rfl, (Hst.out.below.trans (Hb.out.mono hsz)).alloc (by have := Hb.out.size; omega) _⟩
        · obtain ⟨a, b, c, d, r', hr'⟩ : ∃ a b c d r', r = [a, b, c, d] ++ r' := by
            have h5 := Hr.out
            match r, h5 with
            | [a, b, c, d], _ => exact ⟨a, b, c, d, [], rfl⟩
          have hrl : r'.length = 0 := by have := Hr.out; rw [hr', List.length_append] at this; simp at this; exact List.length_eq_zero_iff.2 this
          have Hrl := Lib.hid hrl
          obtain ⟨R', hR'⟩ : ∃ R' : ByteArray, R' = { data := r'.toArray } := ⟨_, rfl⟩
          have hto : ∀ W : World, (Instr.slice 9 (.string R) none (some (.int .i64 4)) none).run Try.prog W = .ok (.string { data := #[a, b, c, d] }) W := fun W => by rw [HR.out, hr']; exact strTo [a, b, c, d] r' 4 rfl W
          have hfrom : ∀ W : World, (Instr.slice 9 (.string R) (some (.int .i64 4)) none none).run Try.prog W = .ok (.string R') W := fun W => by rw [HR.out, hr', hR']; exact strFrom [a, b, c, d] r' 4 rfl W
          have Hr2 := Lib.hid hr'
          have HR2 := Lib.hid hR'
          clear hr' hR' hrl
          go_wp2_with fail
          refine (grp4 a b c d _).mono ?_
          rintro e w5 (⟨hd, x, y, z, rfl, ho, hb⟩ | ⟨hd, rfl, hb⟩)
          · have Hd := Lib.hid hd
            have Ho := Lib.hid ho
            have Hb := Lib.hid hb
            clear hd ho hb
            have hs5 := Hb.out.size
            have Hod := Lib.hid ((Hst.out.own.grow Hb.out).grow (alloc_below w5 (.cells #[.int .u8 (x.toNat : Int), .int .u8 (y.toNat : Int), .int .u8 (z.toNat : Int)] 35)))
            go_wp2_with (first
              | (at_builtin
                 refine wpList_appK rfl (.tmp 27) (.tmp 30) rfl Hk.out rfl Hod.out (n2 := 3) (l2 := [x, y, z].take 3) rfl rfl (one_rd w5 x y z 3) (by omega) (by simp; omega) ?_
                 intro A3 c3 w3 ho3 hb3 hk3
                 have Ho3 := Lib.hid ho3
                 have Hb3 := Lib.hid hb3
                 clear ho3 hb3 hk3))
            go_roundw
            case rel =>
              have hg : [x, y, z].take 3 = outL [a, b, c, d] := Ho.out
              refine ⟨p ++ [a, b, c, d], r', R', 0, k + 3, A3, c3, rfl, by rw [HR2.out]; show r'.toArray.size = _; simpa using Hrl.out, rfl, by omega, by omega, ?_, ?_, HR2.out, Hrl.out, ?_⟩
              · show (0) % 4 ≠ 1
                have := Hm1.out
                omega
              · show _ = _
                rw [(dec_app _ p _ (Hst.out.four.resolve_right Hne.out).choose_spec).2, List.length_append, Hk.out, ← hg]
                rfl
              · refine Hst.out.step Hne.out Hr2.out Hd.out (.inl rfl) (by rw [← hg]; exact Ho3.out) ?_
                exact ((Hst.out.below.trans (Hb.out.mono hsz)).alloc (by omega) _).trans Hb3.out
            case measure => simp [strLen]; rw [HR2.out]; show r'.toArray.size < _; have := Hrl.out; simp; omega
          · have Hd := Lib.hid hd
            have Hb := Lib.hid hb
            clear hd hb
            go_wp2
            go_ret2
            exact .inr ⟨Hst.out.stop Hne.out Hr2.out Hd.out (.inl rfl), rfl, (Hst.out.below.trans (Hb.out.mono hsz)).alloc (by have := Hb.out.size; omega) _⟩
        · obtain ⟨a, b, c, d, r', hr'⟩ : ∃ a b c d r', r = [a, b, c, d] ++ r' := by
            have h5 := Hr.out
            match r, h5 with
            | a :: b :: c :: d :: r', _ => exact ⟨a, b, c, d, r', rfl⟩
            | [], h5 => simp at h5; omega
            | [_], h5 => simp at h5; omega
            | [_, _], h5 => simp at h5; omega
            | [_, _, _], h5 => simp at h5; omega
          have hrl : r'.length = m - 4 := by have := Hr.out; rw [hr', List.length_append] at this; simp at this; omega
          have Hrl := Lib.hid hrl
          obtain ⟨R', hR'⟩ : ∃ R' : ByteArray, R' = { data := r'.toArray } := ⟨_, rfl⟩
          have hto : ∀ W : World, (Instr.slice 9 (.string R) none (some (.int .i64 4)) none).run Try.prog W = .ok (.string { data := #[a, b, c, d] }) W := fun W => by rw [HR.out, hr']; exact strTo [a, b, c, d] r' 4 rfl W
          have hfrom : ∀ W : World, (Instr.slice 9 (.string R) (some (.int .i64 4)) none none).run Try.prog W = .ok (.string R') W := fun W => by rw [HR.out, hr', hR']; exact strFrom [a, b, c, d] r' 4 rfl W
          have Hr2 := Lib.hid hr'
          have HR2 := Lib.hid hR'
          clear hr' hR' hrl
          go_wp2_with fail
          refine (grp4 a b c d _).mono ?_
          rintro e w5 (⟨hd, x, y, z, rfl, ho, hb⟩ | ⟨hd, rfl, hb⟩)
          · have Hd := Lib.hid hd
            have Ho := Lib.hid ho
            have Hb := Lib.hid hb
            clear hd ho hb
            have hs5 := Hb.out.size
            have Hod := Lib.hid ((Hst.out.own.grow Hb.out).grow (alloc_below w5 (.cells #[.int .u8 (x.toNat : Int), .int .u8 (y.toNat : Int), .int .u8 (z.toNat : Int)] 35)))
            go_wp2_with (first
              | (at_builtin
                 refine wpList_appK rfl (.tmp 27) (.tmp 30) rfl Hk.out rfl Hod.out (n2 := 3) (l2 := [x, y, z].take 3) rfl rfl (one_rd w5 x y z 3) (by omega) (by simp; omega) ?_
                 intro A3 c3 w3 ho3 hb3 hk3
                 have Ho3 := Lib.hid ho3
                 have Hb3 := Lib.hid hb3
                 clear ho3 hb3 hk3))
            go_roundw
            case rel =>
              have hg : [x, y, z].take 3 = outL [a, b, c, d] := Ho.out
              refine ⟨p ++ [a, b, c, d], r', R', m - 4, k + 3, A3, c3, rfl, by rw [HR2.out]; show r'.toArray.size = _; simpa using Hrl.out, rfl, by omega, by omega, ?_, ?_, HR2.out, Hrl.out, ?_⟩
              · show (m - 4) % 4 ≠ 1
                have := Hm1.out
                omega
              · show _ = _
                rw [(dec_app _ p _ (Hst.out.four.resolve_right Hne.out).choose_spec).2, List.length_append, Hk.out, ← hg]
                rfl
              · refine Hst.out.step Hne.out Hr2.out Hd.out (.inl rfl) (by rw [← hg]; exact Ho3.out) ?_
                exact ((Hst.out.below.trans (Hb.out.mono hsz)).alloc (by omega) _).trans Hb3.out
            case measure => simp [strLen]; rw [HR2.out]; show r'.toArray.size < _; have := Hrl.out; simp; omega
          · have Hd := Lib.hid hd
            have Hb := Lib.hid hb
            clear hd hb
            go_wp2
            go_ret2
            exact .inr ⟨Hst.out.stop Hne.out Hr2.out Hd.out (.inl rfl), rfl, (Hst.out.below.trans (Hb.out.mono hsz)).alloc (by have := Hb.out.size; omega) _⟩
end Go.Proofs.Ytjpjodjdciamhaa
