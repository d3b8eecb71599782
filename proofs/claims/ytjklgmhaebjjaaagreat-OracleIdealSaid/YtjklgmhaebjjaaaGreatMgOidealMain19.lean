/-
  The ideal oracle as such a model: tables of a tape. A map's block as a partial function of its keys: look-ups and stores, for whatever keys the program's '==' tells apart.
-/
import Derived.Test.YtjklgmhaebjjaaaGreatMgOidealMain18
import Derived.Test.YtjklgmhaebjjaaaGreatMgOidealMain2
import Derived.MapKept
import Derived.ChangeMaps5
import Derived.OwnWalk
namespace Go.Proofs.YtjklgmhaebjjaaaGreat.S12
open S11
open Go.RowKit
set_option linter.unusedVariables false
set_option linter.unusedSimpArgs false

def Cn (st : St) (i : Nat) : Prop := st.fs.length ≤ i ∧ st.ps.length ≤ i ∧ st.cnt ≤ i
theorem Cn.up {st : St} {i j : Nat} (h : Cn st i) (hj : i ≤ j) : Cn st j := ⟨by have := h.1; omega, by have := h.2.1; omega, by have := h.2.2; omega⟩
theorem cn_fn {st : St} {i : Nat} (h : Cn st i) (name q : List UInt8) (n : Int) : Cn (fnOp st name q n).2 (i + 1) := by
  unfold fnOp
  split
  · exact h.up (by omega)
  · exact ⟨by show (st.fs ++ _).length ≤ _; have := h.1; simp; omega, by have := h.2.1; show st.ps.length ≤ _; omega, by have := h.2.2; show st.cnt + 1 ≤ _; omega⟩
theorem cn_pr {st : St} {i : Nat} (h : Cn st i) (name s : List UInt8) (first : Bool) : Cn (prOp st name s first).2 (i + 1) := by
  unfold prOp
  split
  · exact h.up (by omega)
  · split
    · exact h.up (by omega)
    · exact ⟨by have := h.1; show st.fs.length ≤ _; omega, by show (st.ps ++ _).length ≤ _; have := h.2.1; simp; omega, by have := h.2.2; show st.cnt + 1 ≤ _; omega⟩
/-- Answers of MACs have their lengths. -/
def Ln (fs : List T3) : Prop := ∀ t ∈ fs, (t.n = sealN → t.y.length = 64) ∧ (t.n = tagN → t.y.length = 32)
theorem ln_seal {st : St} (h : Ln st.fs) (q : List UInt8) : Ln (fnOp st sealN q 64).2.fs ∧ (fnOp st sealN q 64).1.length = 64 := by
  unfold fnOp
  split
  · rename_i t ht
    have hm := List.mem_of_find?_eq_some ht
    have hp := List.find?_some ht
    simp only [hitF, Bool.and_eq_true, decide_eq_true_eq] at hp
    exact ⟨h, (h t hm).1 hp.1⟩
  · refine ⟨fun t ht => ?_, by show (drawO _ _).length = _; rw [drawO_len]; rfl⟩
    have ht : t ∈ st.fs ++ [⟨sealN, q, drawO st.seed (64 : Int).toNat⟩] := ht
    rcases List.mem_append.1 ht with ht | ht
    · exact h t ht
    · simp only [List.mem_singleton] at ht
      subst ht
      exact ⟨fun _ => by show (drawO _ _).length = _; rw [drawO_len]; rfl, fun e => absurd (show sealN = tagN from e) (by decide)⟩
theorem ln_tag {st : St} (h : Ln st.fs) (q : List UInt8) : Ln (fnOp st tagN q 32).2.fs ∧ (fnOp st tagN q 32).1.length = 32 := by
  unfold fnOp
  split
  · rename_i t ht
    have hm := List.mem_of_find?_eq_some ht
    have hp := List.find?_some ht
    simp only [hitF, Bool.and_eq_true, decide_eq_true_eq] at hp
    exact ⟨h, (h t hm).2 hp.1⟩
  · refine ⟨fun t ht => ?_, by show (drawO _ _).length = _; rw [drawO_len]; rfl⟩
    have ht : t ∈ st.fs ++ [⟨tagN, q, drawO st.seed (32 : Int).toNat⟩] := ht
    rcases List.mem_append.1 ht with ht | ht
    · exact h t ht
    · simp only [List.mem_singleton] at ht
      subst ht
      exact ⟨fun e => absurd (show tagN = sealN from e) (by decide), fun _ => by show (drawO _ _).length = _; rw [drawO_len]; rfl⟩
theorem pr_fs (st : St) (name s : List UInt8) (first : Bool) : (prOp st name s first).2.fs = st.fs := by
  unfold prOp
  split
  · rfl
  · split <;> rfl
theorem fn_ps (st : St) (name q : List UInt8) (n : Int) : (fnOp st name q n).2.ps = st.ps := by
  unfold fnOp
  split <;> rfl
/-- All is as it should be, after at most i questions. -/
def Nm (st : St) (i : Nat) : Prop := i ≤ 250 ∧ Cn st i ∧ Ln st.fs ∧ S11.Good st.ps
theorem nm_seal {st : St} {i : Nat} (h : Nm st i) (hi : i < 250) (q : List UInt8) : Nm (fnOp st sealN q 64).2 (i + 1) :=
  ⟨by omega, cn_fn h.2.1 _ _ _, (ln_seal h.2.2.1 q).1, by rw [fn_ps]; exact h.2.2.2⟩
theorem nm_tag {st : St} {i : Nat} (h : Nm st i) (hi : i < 250) (q : List UInt8) : Nm (fnOp st tagN q 32).2 (i + 1) :=
  ⟨by omega, cn_fn h.2.1 _ _ _, (ln_tag h.2.2.1 q).1, by rw [fn_ps]; exact h.2.2.2⟩
theorem nm_pr {st : St} {i : Nat} (h : Nm st i) (hi : i < 250) (name s : List UInt8) (first : Bool) : Nm (prOp st name s first).2 (i + 1) :=
  ⟨by omega, cn_pr h.2.1 _ _ _, by rw [pr_fs]; exact h.2.2.1, pr_good h.2.2.2 name s first (by have := h.2.1.2.1; omega)⟩
theorem nm_dr {st : St} {i : Nat} (h : Nm st i) (hi : i < 250) (n : Int) : Nm (drOp st n).2 (i + 1) :=
  ⟨by omega, by have := h.2.1.up (show i ≤ i + 1 by omega); exact ⟨this.1, this.2.1, this.2.2⟩, h.2.2.1, h.2.2.2⟩
/-- The partner's partner. -/
theorem pr_back2 {st : St} {i : Nat} (h : Nm st i) (name x : List UInt8) (hx : x ≠ []) : prOp (prOp st name x true).2 name (prOp st name x true).1 false = (x, (prOp st name x true).2) := by
  have hp : st.ps.length ≤ 255 := by have := h.2.1.2.1; have := h.1; omega
  have hl := pr_len h.2.2.2 name x true hp
  obtain ⟨t, ht, hn, hs, ha⟩ := pr_told st name x true hx
  have e : side false t = (prOp st name x true).1 := by rw [← ha, ans_side]; rfl
  have := pr_again (pr_good h.2.2.2 name x true hp) ht false (by
    rw [e]
    intro h0
    rw [h0] at hl
    exact hx (List.eq_nil_of_length_eq_zero hl.symm))
  rw [hn, e] at this
  rw [this]
  have e2 : ans false t = x := by rw [← hs]; rfl
  rw [e2]
theorem ne_nil_of {b : List UInt8} {n : Nat} (h : b.length = n) (hn : 0 < n) : b ≠ [] := by
  intro e
  rw [e] at h
  simp at h
  omega
/-- The ideal oracle. -/
def idealM : Mod where
  σ := St
  num := Nm
  mac st k t := fnOp st sealN (sealQ k t) 64
  tag st k t := fnOp st tagN (sealQ k t) 32
  enc st k b := prOp st (blockQ k) b true
  dec st k b := prOp st (blockQ k) b false
  unit st k n b := prOp st (unitQ k n) b true
  ununit st k n b := prOp st (unitQ k n) b false
  nonce st := drOp st 16
  bad st := st.bad
  cnt st := st.cnt
  num_up st i j h hij hj := ⟨hj, h.2.1.up hij, h.2.2⟩
  num_mac st i k t h hi := nm_seal h hi _
  num_tag st i k t h hi := nm_tag h hi _
  num_enc st i k b h hi := nm_pr h hi _ _ _
  num_unit st i k n b h hi := nm_pr h hi _ _ _
  num_nonce st i h hi := nm_dr h hi _
  len_mac st i k t h := (ln_seal h.2.2.1 _).2
  len_tag st i k t h := (ln_tag h.2.2.1 _).2
  len_enc st i k b h hb := by rw [pr_len h.2.2.2 _ _ _ (by have := h.2.1.2.1; have := h.1; omega)]; exact hb
  len_unit st i k n b h := pr_len h.2.2.2 _ _ _ (by have := h.2.1.2.1; have := h.1; omega)
  len_nonce st i h := by show (drawO _ _).length = _; rw [drawO_len]; rfl
  dec_enc st i k b h hb := pr_back2 h _ _ (ne_nil_of hb (by omega))
  un_unit st i k n b h hb := pr_back2 h _ _ hb
/-- The reference's tables, as such an object: the tape lies below B, all else from base on. -/
def refO (B base : Nat) : Ob idealM := fun w R F st => ∃ Af Ap, Ro w B base R Af Ap st ∧ B ≤ base ∧ base ≤ w.heap.size ∧ ∀ k, F k ↔ RF R Af Ap k
theorem onw_of {B base R : Nat} {Af Ap : Option Addr} {F : Nat → Prop} {st' : St} {w w' : World} (hB : B ≤ base) (hb : base ≤ w.heap.size) (hF : ∀ k, F k ↔ RF R Af Ap k) (hlt : ∀ k, RF R Af Ap k → k < w.heap.size) {Af' Ap' : Option Addr} (h : Ro w' B base R Af' Ap' st') (hc : Ch (RF R Af Ap) w w') (hf : Moved w Af Af') (hp : Moved w Ap Ap') : Onw (refO B base) w R F st' w' := by
  refine ⟨RF R Af' Ap', ⟨Af', Ap', h, hB, Nat.le_trans hb hc.size, fun k => Iff.rfl⟩, fun k hk => ?_, ⟨hc.os, hc.tape, hc.output, hc.size, fun k hk hf => hc.block k hk (fun e => hf ((hF k).2 e))⟩⟩
  rcases hk with rfl | ⟨x, hx, rfl⟩ | ⟨x, hx, rfl⟩
  · exact .inl ((hF _).2 (.inl rfl))
  · rcases hf with e | ⟨y, hy, hy2⟩
    · rw [e] at hx; exact .inl ((hF _).2 (.inr (.inl ⟨x, hx, rfl⟩)))
    · rw [hx] at hy; simp only [Option.some.injEq] at hy; subst hy; exact .inr hy2
  · rcases hp with e | ⟨y, hy, hy2⟩
    · rw [e] at hx; exact .inl ((hF _).2 (.inr (.inr ⟨x, hx, rfl⟩)))
    · rw [hx] at hy; simp only [Option.some.injEq] at hy; subst hy; exact .inr hy2
theorem off_iff {F F2 : Nat → Prop} (hF : ∀ k, F k ↔ F2 k) {A : Option Addr} {l : List UInt8} (h : Off F A l) : Off F2 A l := fun x hx hl hf => h x hx hl ((hF _).2 hf)
/-- The reference's oracle, ideal, keeps what is asked of it. -/
theorem refIdeal (B base : Nat) : RefOk idealM B (refO B base) where
  foot w R F st h k hk := by
    obtain ⟨Af, Ap, hR, _, _, hF⟩ := h
    exact (hR.lt k ((hF k).1 hk)).2
  keep w w' R F st h hk hs := by
    obtain ⟨Af, Ap, hR, hB, hb, hF⟩ := h
    exact ⟨Af, Ap, hR.keep (fun k hk2 => hk k (.inr hk2)) (fun k hk2 => hk k (.inl ((hF k).2 hk2))), hB, Nat.le_trans hb hs, hF⟩
  mac w R F st i A1 n1 c1 key A2 n2 c2 text h hn hi h1 hl1 h2 hl2 := by
    obtain ⟨Af, Ap, hR, hB, hb, hF⟩ := h
    refine (orSeal_any B base R Af Ap st A1 n1 c1 key A2 n2 c2 text w hB hb (by have := hn.2.1.1; omega) (by have := hn.2.1.2.2; omega) hR h1.1 h1.2.1 (by omega) (off_iff hF h1.2.2.2) h2.1 h2.2.1 (by omega) (off_iff hF h2.2.2.2)).mono ?_
    rintro e w' ⟨rfl, Af', hz, hc, hm⟩
    exact ⟨rfl, onw_of hB hb hF (fun k hk => (hR.lt k hk).2) hz hc hm (.inl rfl)⟩
  tag w R F st i A1 n1 c1 key A2 n2 c2 text h hn hi h1 hl1 h2 hl2 := by
    obtain ⟨Af, Ap, hR, hB, hb, hF⟩ := h
    refine (orTag_any B base R Af Ap st A1 n1 c1 key A2 n2 c2 text w hB hb (by have := hn.2.1.1; omega) (by have := hn.2.1.2.2; omega) hR h1.1 h1.2.1 (by omega) (off_iff hF h1.2.2.2) h2.1 h2.2.1 (by omega) (off_iff hF h2.2.2.2)).mono ?_
    rintro e w' ⟨rfl, Af', hz, hc, hm⟩
    exact ⟨rfl, onw_of hB hb hF (fun k hk => (hR.lt k hk).2) hz hc hm (.inl rfl)⟩
  enc w R F st i A1 n1 c1 key b h hn hi h1 hl1 hb16 := by
    obtain ⟨Af, Ap, hR, hB, hb, hF⟩ := h
    refine (orEnc_any B base R Af Ap st A1 n1 c1 key b w hB hb (by have := hn.2.1.2.1; omega) (by have := hn.2.1.2.2; omega) hR h1.1 h1.2.1 (by omega) (off_iff hF h1.2.2.2) hb16).mono ?_
    rintro e w' ⟨rfl, Ap', hz, hc, hm⟩
    exact ⟨rfl, onw_of hB hb hF (fun k hk => (hR.lt k hk).2) hz hc (.inl rfl) hm⟩
  unit w R F st i A1 n1 c1 key number A2 n2 c2 b h hn hi h1 hl1 _ _ h2 _ hl2 _ := by
    obtain ⟨Af, Ap, hR, hB, hb, hF⟩ := h
    refine (orUnit_any B base R Af Ap st A1 n1 c1 key number A2 n2 c2 b w hB hb (by have := hn.2.1.2.1; omega) (by have := hn.2.1.2.2; omega) hR h1.1 h1.2.1 (by omega) (off_iff hF h1.2.2.2) h2.1 h2.2.1 (by omega) (off_iff hF h2.2.2.2)).mono ?_
    rintro e w' ⟨rfl, Ap', hz, hc, hm⟩
    exact ⟨rfl, onw_of hB hb hF (fun k hk => (hR.lt k hk).2) hz hc (.inl rfl) hm⟩
  nonce w R F st i h hn hi := by
    obtain ⟨Af, Ap, hR, hB, hb, hF⟩ := h
    refine (orNonce_any B base R Af Ap st w hB hR).mono ?_
    rintro e w' ⟨rfl, hz, hc⟩
    exact ⟨rfl, onw_of hB hb hF (fun k hk => (hR.lt k hk).2) hz ⟨hc.os, hc.tape, hc.output, hc.size, fun k hk hf => hc.block k hk (fun e => hf (.inl e))⟩ (.inl rfl) (.inl rfl)⟩
end Go.Proofs.YtjklgmhaebjjaaaGreat.S12
namespace Go.Proofs.YtjklgmhaebjjaaaGreat.Mp
open Go.RowKit
set_option linter.unusedVariables false
set_option linter.unusedSimpArgs false

section
variable {K V : Type} [DecidableEq K]
/-- The place of the first entry at a key, from i on, and what is there. -/
def fnd (k : K) : List (K × V) → Nat → Option (Nat × V)
  | [], _ => none
  | p :: ms, i => if k = p.1 then some (i, p.2) else fnd k ms (i + 1)
def look : List (K × V) → K → Option V
  | [], _ => none
  | p :: ms, k => if k = p.1 then some p.2 else look ms k
def upd : List (K × V) → K → V → List (K × V)
  | [], k, v => [(k, v)]
  | p :: ms, k, v => if k = p.1 then (k, v) :: ms else p :: upd ms k v
theorem fnd_look (k : K) : ∀ (ms : List (K × V)) (i : Nat), (fnd k ms i).map (·.2) = look ms k
  | [], _ => rfl
  | p :: ms, i => by
    unfold fnd look
    split
    · rfl
    · exact fnd_look k ms (i + 1)
theorem fnd_ge (k : K) : ∀ (ms : List (K × V)) (i : Nat) (q : Nat × V), fnd k ms i = some q → i ≤ q.1
  | [], _, _, h => by cases h
  | p :: ms, i, q, h => by
    unfold fnd at h
    split at h
    · cases h; exact Nat.le_refl _
    · have := fnd_ge k ms (i + 1) q h; omega
theorem look_upd (k : K) (v : V) (k' : K) : ∀ ms : List (K × V), look (upd ms k v) k' = if k' = k then some v else look ms k'
  | [] => by simp [upd, look]
  | p :: ms => by
    unfold upd
    by_cases h : k = p.1
    · rw [if_pos h]
      subst h
      simp only [look]
      by_cases h2 : k' = p.1
      · simp [h2]
      · simp [h2]
    · rw [if_neg h]
      simp only [look]
      rw [look_upd k v k' ms]
      by_cases h2 : k' = p.1
      · subst h2
        rw [if_pos rfl, if_neg (fun e => h e.symm), if_pos rfl]
      · simp [h2]
theorem upd_none (k : K) (v : V) : ∀ (ms : List (K × V)) (i : Nat), fnd k ms i = none → upd ms k v = ms ++ [(k, v)]
  | [], _, _ => rfl
  | p :: ms, i, h => by
    unfold fnd at h
    split at h
    · cases h
    · rename_i hn
      unfold upd
      rw [if_neg hn, upd_none k v ms (i + 1) h]
      rfl
variable (kv : K → Value) (enc : V → Value)
def ge (e : MapEntry) : Value × Value := (e.key, e.val)
def gm (p : K × V) : Value × Value := (kv p.1, enc p.2)
theorem upd_some (k : K) (v : V) : ∀ (ms : List (K × V)) (es : List MapEntry) (j i : Nat) (u : V), es.map ge = ms.map (gm kv enc) → fnd k ms j = some (i + j, u) →
    (es.modify i fun e => { e with key := kv k, val := enc v }).map ge = (upd ms k v).map (gm kv enc) ∧ (es[i]?).map (·.key) = some (kv k)
  | [], _, _, _, _, _, h => by cases h
  | p :: ms, [], _, _, _, h, _ => by simp at h
  | p :: ms, e :: es, j, i, u, h, hf => by
    simp only [List.map_cons, List.cons.injEq] at h
    unfold fnd at hf
    unfold upd
    split at hf
    · rename_i he
      simp only [Option.some.injEq, Prod.mk.injEq] at hf
      obtain rfl : i = 0 := by omega
      rw [if_pos he]
      refine ⟨by simp [ge, gm, h.2], ?_⟩
      have := congrArg (·.1) h.1
      simp only [ge, gm] at this
      simp [this, he]
    · rename_i he
      have hge := fnd_ge k ms (j + 1) _ hf
      obtain ⟨i', rfl⟩ : ∃ i', i = i' + 1 := ⟨i - 1, by simp at hge; omega⟩
      have ih := upd_some k v ms es (j + 1) i' u h.2 (by rw [hf]; congr 2; omega)
      rw [if_neg he]
      exact ⟨by simp [h.1, ih.1], by simpa using ih.2⟩
end

/-- Keys of the type kt, written kv: what '==' tells of them, and that they may stand in a map. -/
structure Keys (P : Program) (kt : TypeId) {K : Type} [DecidableEq K] (kv : K → Value) : Prop where
  check : ∀ (w : World) (em : Bool) (k : K), (Instr.checkKey em 10000 kt (kv k)).run P w = .ok () w
  find : ∀ (w : World) (k : K) {V : Type} (enc : V → Value) (es : List MapEntry) (ms : List (K × V)), es.map ge = ms.map (gm kv enc) → (Instr.findKey kt (kv k) es).run P w = .ok ((fnd k ms 0).map fun q => (q.1, enc q.2)) w
  stays : ∀ (w : World) (k : K), (Instr.keyThatStays (kv k) (kv k)).run P w = .ok (kv k) w

section
variable {P : Program} {kt t e : TypeId} {K V : Type} [DecidableEq K] {kv : K → Value} {enc : V → Value} {w w' : World} {b : Nat} {f : K → Option V}
/-- Block b is a map that answers f. -/
def Mp (kv : K → Value) (enc : V → Value) (w : World) (b : Nat) (f : K → Option V) : Prop :=
  ∃ es clock ms, w.heap[b]? = some (.map es clock) ∧ es.toList.map ge = ms.map (gm kv enc) ∧ ∀ k, f k = look ms k
def put (f : K → Option V) (k : K) (v : V) : K → Option V := fun k' => if k' = k then some v else f k'
theorem Mp.lt (h : Mp kv enc w b f) : b < w.heap.size := by
  obtain ⟨es, c, ms, h, _⟩ := h
  rcases Nat.lt_or_ge b w.heap.size with h1 | h1
  · exact h1
  · rw [Array.getElem?_eq_none h1] at h; cases h
theorem Mp.keep (h : Mp kv enc w b f) (hk : w'.heap[b]? = w.heap[b]?) : Mp kv enc w' b f := by
  obtain ⟨es, c, ms, h, r⟩ := h
  exact ⟨es, c, ms, hk.trans h, r⟩
theorem Mp.new (kv : K → Value) (enc : V → Value) (h : w.heap[b]? = some (.map #[] 0)) : Mp kv enc w b fun _ => none :=
  ⟨#[], 0, [], h, rfl, fun _ => rfl⟩
theorem Mp.cells (h : Mp kv enc w b f) {c : Array Value} {el : TypeId} {fz : Nat × Nat} {g : Nat} (hg : w.heap[g]? = some (.cells c el fz)) : b ≠ g := by
  rintro rfl
  obtain ⟨es, _, ms, h, _⟩ := h
  rw [h] at hg
  cases hg
/-- 'm[k]'. -/
theorem run_look (h : Mp kv enc w b f) (hK : Keys P kt kv) (ht : P.underlying t = some (.map kt e)) {z : Value} (hz : (zeroValue e).run P w = .ok z w) (c : Bool) (k : K) :
    (Instr.lookup t (.map (some b)) (kv k) c).run P w = .ok (if c then .tuple #[((f k).map enc).getD z, .bool (f k).isSome] else ((f k).map enc).getD z) w := by
  obtain ⟨es, clock, ms, hb, hes, hf⟩ := h
  have h1 := hK.find w k enc es.toList ms hes
  have h2 := fnd_look k ms 0
  rw [hf k, ← h2]
  cases hfn : fnd k ms 0 with
  | none =>
    rw [hfn] at h1
    simp [Instr.lookup, run_underlying ht, MapKept.run_getObj_map hb, hK.check w _ k, h1, hz, Result.andThen]
  | some q =>
    rw [hfn] at h1
    simp [Instr.lookup, run_underlying ht, MapKept.run_getObj_map hb, hK.check w _ k, h1, Result.andThen]
/-- 'm[k] = v'. -/
theorem run_upd (h : Mp kv enc w b f) (hK : Keys P kt kv) (ht : P.underlying t = some (.map kt e)) (k : K) (v : V) :
    ∃ w', (Instr.mapUpdate t (.map (some b)) (kv k) (enc v)).run P w = .ok () w' ∧ Mp kv enc w' b (put f k v) ∧ w.grownBy w' (some b) ∧ w'.heap.size = w.heap.size := by
  obtain ⟨es, clock, ms, hb, hes, hf⟩ := h
  have h1 := hK.find w k enc es.toList ms hes
  have hput : ∀ k', put f k v k' = look (upd ms k v) k' := fun k' => by rw [look_upd]; unfold put; rw [hf]
  have hgr : ∀ o : Obj, w.grownBy (ChangeMaps.setBlock w b o) (some b) := fun o => ⟨rfl, rfl, rfl, by simp [ChangeMaps.setBlock], fun i _ hi => ChangeMaps.heap_setBlock_other hb o (fun e => hi (by rw [e]))⟩
  have hsz : ∀ o : Obj, (ChangeMaps.setBlock w b o).heap.size = w.heap.size := fun o => by simp [ChangeMaps.setBlock]
  cases hfn : fnd k ms 0 with
  | none =>
    rw [hfn] at h1
    refine ⟨ChangeMaps.setBlock w b (.map (es.push { key := kv k, val := enc v, born := clock }) (clock + 1)), ?_, ⟨_, _, upd ms k v, ChangeMaps.heap_setBlock_same hb _, ?_, hput⟩, hgr _, hsz _⟩
    · simp [Instr.mapUpdate, run_underlying ht, MapKept.run_getObj_map hb, MapKept.run_setObj_map _ hb, hK.check w _ k, h1, Result.andThen, ChangeMaps.setBlock]
    · rw [upd_none k v ms 0 hfn]
      simp [hes, ge, gm]
  | some q =>
    rw [hfn] at h1
    obtain ⟨hm, hk⟩ := upd_some kv enc k v ms es.toList 0 q.1 q.2 hes hfn
    refine ⟨ChangeMaps.setBlock w b (.map (es.modify q.1 fun e => { e with key := kv k, val := enc v }) clock), ?_, ⟨_, _, upd ms k v, ChangeMaps.heap_setBlock_same hb _, ?_, hput⟩, hgr _, hsz _⟩
    · have hk' : ((es[q.1]?).map (·.key)).getD (kv k) = kv k := by
        rw [Array.getElem?_toList] at hk
        rw [hk]
        rfl
      simp [Instr.mapUpdate, run_underlying ht, MapKept.run_getObj_map hb, MapKept.run_setObj_map _ hb, hK.check w _ k, h1, Result.andThen, ChangeMaps.setBlock, hk', hK.stays w k]
    · rw [Array.toList_modify]
      exact hm
end
section
variable {P : Program} {kt t e : TypeId} {K V : Type} [DecidableEq K] {kv : K → Value} {enc : V → Value} {w : World} {b : Nat} {f : K → Option V} {o : Oper} {a : Act}
/-- 'm[k] = v' at the operation. -/
theorem wp_upd {KK : Act → World → Prop} {Q : Exit → Act → World → Prop} (m x y : Operand) (ho : o.op = Op.mapUpdate t m x y) (hK : Keys P kt kv) (ht : P.underlying t = some (.map kt e)) (h : Mp kv enc w b f) (k : K) (v : V)
    (hm : a.eval m = .map (some b)) (hx : a.eval x = kv k) (hy : a.eval y = enc v)
    (hk : ∀ w', Mp kv enc w' b (put f k v) → w.grownBy w' (some b) → w'.heap.size = w.heap.size → KK (a.put o.dst undef) w') : o.wp P a w KK Q := by
  obtain ⟨w', hrun, h1, h2, h3⟩ := run_upd h hK ht k v
  unfold Oper.wp
  simp [execOp, ho, hm, hx, hy, hrun, Result.andThen]
  exact hk w' h1 h2 h3
theorem wpList_upd {ops : Array Oper} {rest : List Oper} {Q : Exit → Act → World → Prop} (hgd : o.guard = none) (m x y : Operand) (ho : o.op = Op.mapUpdate t m x y) (hK : Keys P kt kv) (ht : P.underlying t = some (.map kt e)) (h : Mp kv enc w b f) (k : K) (v : V)
    (hm : a.eval m = .map (some b)) (hx : a.eval x = kv k) (hy : a.eval y = enc v)
    (hk : ∀ w', Mp kv enc w' b (put f k v) → w.grownBy w' (some b) → w'.heap.size = w.heap.size → wpList P ops Q rest (a.put o.dst undef) w') : wpList P ops Q (o :: rest) a w :=
  wpList_plain hgd fun _ hK' => wp_upd m x y ho hK ht h k v hm hx hy fun w' h1 h2 h3 => hK' _ _ (hk w' h1 h2 h3)
/-- 'm[k]' at the operation. -/
theorem wpList_look {ops : Array Oper} {rest : List Oper} {Q : Exit → Act → World → Prop} (hgd : o.guard = none) (c : Bool) (m x : Operand) (ho : o.op = Op.lookup t m x c) (hK : Keys P kt kv) (ht : P.underlying t = some (.map kt e)) {z : Value} (hz : (zeroValue e).run P w = .ok z w) (h : Mp kv enc w b f) (k : K)
    (hm : a.eval m = .map (some b)) (hx : a.eval x = kv k)
    (hk : wpList P ops Q rest (a.put o.dst (if c then .tuple #[((f k).map enc).getD z, .bool (f k).isSome] else ((f k).map enc).getD z)) w) : wpList P ops Q (o :: rest) a w := by
  refine wpList_plain hgd fun K' hK' => ?_
  have hrun := run_look h hK ht hz c k
  unfold Oper.wp
  simp only [execOp, ho, hm, hx, Sem.run_bind, hrun, Result.andThen_ok, Sem.run_pure]
  exact hK' _ _ hk
end
end Go.Proofs.YtjklgmhaebjjaaaGreat.Mp
