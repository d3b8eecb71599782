/-
  What the laws of tape ask of the program's tables, and the law's awake out of it. Keys of two texts (tape.entry): what '==' tells of them; maps keyed by them.
-/
import Derived.Test.YtjklgmhaebjjaaaGreatMgOidealMain12
import Derived.Test.YtjklgmhaebjjaaaGreatMgOidealMain19
namespace Go.Proofs.YtjklgmhaebjjaaaGreat.S11
open Go.RowKit
set_option linter.unusedVariables false
set_option linter.unusedSimpArgs false

/-- The program's tables st lie at block G, in the blocks F: what that is, is the program's. -/
abbrev Tab := World → Nat → (Nat → Prop) → St → Prop
/-- A call that hands out the bytes l and leaves the tables st'. -/
def Out (Lz : Tab) (w : World) (G : Nat) (F : Nat → Prop) (l : List UInt8) (st' : St) (e : Ending) (w' : World) : Prop :=
  ∃ A n c F', e = .returned (.slice A n c) ∧ l.length = n ∧ n ≤ c ∧ Rd w' w'.heap.size A l ∧ (∀ x, A = some x → l ≠ [] → w.heap.size ≤ x.block ∧ ¬ F' x.block) ∧ Lz w' G F' st' ∧ (∀ k, F' k → F k ∨ w.heap.size ≤ k) ∧ Ch F w w'
def emp (seed : List UInt8) : St := ⟨seed, [], [], false, 0⟩
/-- So few that nothing overflows. -/
def Few (st : St) : Prop := st.fs.length ≤ 200 ∧ st.ps.length ≤ 200 ∧ st.cnt ≤ 400
structure TapeOk (Lz : Tab) : Prop where
  foot : ∀ w G F st, Lz w G F st → ∀ k, F k → k < w.heap.size
  keep : ∀ w w' G F st, Lz w G F st → (∀ k, F k → w'.heap[k]? = w.heap[k]?) → w.heap.size ≤ w'.heap.size → Lz w' G F st
  new : ∀ A n c seed w, Rd w w.heap.size A seed → seed.length = n → n ≤ c → n ≤ 2000 → Calls Tryz.prog 27 #[.slice A n c] w fun e w' =>
    ∃ G F, e = .returned (.pointer (some ⟨G, 0, none⟩)) ∧ Lz w' G F (emp seed) ∧ (∀ k, F k → w.heap.size ≤ k) ∧ Grown w w'
  draw : ∀ w G F st n, Lz w G F st → Few st → n ≤ 1000 → Calls Tryz.prog 76 #[.pointer (some ⟨G, 0, none⟩), .int .i64 n] w (Out Lz w G F (drOp st n).1 (drOp st n).2)
  func : ∀ w G F st name q n, Lz w G F st → Few st → name.length ≤ 1000 → q.length ≤ 5000 → n ≤ 1000 →
    Calls Tryz.prog 78 #[.pointer (some ⟨G, 0, none⟩), .string ⟨name.toArray⟩, .string ⟨q.toArray⟩, .int .i64 n] w (Out Lz w G F (fnOp st name q n).1 (fnOp st name q n).2)
  forw : ∀ w G F st name A n c s, Lz w G F st → Few st → name.length ≤ 1000 → n ≤ 1000 → s.length = n → n ≤ c → Rd w w.heap.size A s → (∀ x, A = some x → s ≠ [] → ¬ F x.block) →
    Calls Tryz.prog 75 #[.pointer (some ⟨G, 0, none⟩), .string ⟨name.toArray⟩, .slice A n c] w (Out Lz w G F (prOp st name s true).1 (prOp st name s true).2)
  back : ∀ w G F st name A n c s, Lz w G F st → Few st → name.length ≤ 1000 → n ≤ 1000 → s.length = n → n ≤ c → Rd w w.heap.size A s → (∀ x, A = some x → s ≠ [] → ¬ F x.block) →
    Calls Tryz.prog 73 #[.pointer (some ⟨G, 0, none⟩), .string ⟨name.toArray⟩, .slice A n c] w (Out Lz w G F (prOp st name s false).1 (prOp st name s false).2)
  bad : ∀ w G F st, Lz w G F st → Calls Tryz.prog 71 #[.pointer (some ⟨G, 0, none⟩)] w fun e w' => e = .returned (.bool st.bad) ∧ Grown w w'
  count : ∀ w G F st, Lz w G F st → Calls Tryz.prog 77 #[.pointer (some ⟨G, 0, none⟩)] w fun e w' => e = .returned (.int .i64 (st.cnt : Int)) ∧ Grown w w'
theorem TapeOk.grow {Lz : Tab} (K : TapeOk Lz) {w w' : World} {G : Nat} {F : Nat → Prop} {st : St} (h : Lz w G F st) (hg : Grown w w') : Lz w' G F st :=
  K.keep w w' G F st h (fun k hk => hg.block k (K.foot w G F st h k hk)) hg.size
theorem Ch.since {F : Nat → Prop} {w0 w w' : World} (hg : Grown w0 w) (h : Ch F w w') (hF : ∀ k, F k → w0.heap.size ≤ k) : Grown w0 w' :=
  ⟨h.os.trans hg.os, h.tape.trans hg.tape, h.output.trans hg.output, Nat.le_trans hg.size h.size, fun k hk => (h.block k (Nat.lt_of_lt_of_le hk hg.size) (fun hf => by have := hF k hf; omega)).trans (hg.block k hk)⟩
/-- The tables were made behind w0. -/
def Since (Lz : Tab) (w0 w : World) (G : Nat) (F : Nat → Prop) (st : St) : Prop := Lz w G F st ∧ (∀ k, F k → w0.heap.size ≤ k) ∧ Grown w0 w
theorem Since.grow {Lz : Tab} (K : TapeOk Lz) {w0 w w' : World} {G : Nat} {F : Nat → Prop} {st : St} (h : Since Lz w0 w G F st) (hg : Grown w w') : Since Lz w0 w' G F st := ⟨K.grow h.1 hg, h.2.1, Grown.trans h.2.2 hg⟩
theorem Since.step {Lz : Tab} {w0 w w' : World} {G : Nat} {F F' : Nat → Prop} {st st' : St} (h : Since Lz w0 w G F st) (h1 : Lz w' G F' st') (h2 : ∀ k, F' k → F k ∨ w.heap.size ≤ k) (h3 : Ch F w w') : Since Lz w0 w' G F' st' :=
  ⟨h1, fun k hk => by
    rcases h2 k hk with h4 | h4
    · exact h.2.1 k h4
    · exact Nat.le_trans h.2.2.size h4, Ch.since h.2.2 h3 h.2.1⟩
/-- The document's example. -/
def w1S : St := ⟨[3], [⟨[102], [113], [1, 2]⟩], [], false, 1⟩
def w2S : St := ⟨[], [⟨[102], [113], [1, 2]⟩], [⟨[112], [9], [3]⟩], false, 2⟩
theorem ex1 : fnOp (emp [1, 2, 3]) [102] [113] 2 = ([1, 2], w1S) := by rfl
theorem ex2 : fnOp w1S [102] [113] 2 = ([1, 2], w1S) := by rfl
theorem ex3 : prOp w1S [112] [9] true = ([3], w2S) := by rfl
theorem ex4 : prOp w2S [112] [3] false = ([9], w2S) := by rfl
theorem ex5 : (prOp w2S [112] [8] true).1 = [0] := by rfl
end Go.Proofs.YtjklgmhaebjjaaaGreat.S11
namespace Go.Proofs.YtjklgmhaebjjaaaGreat.S11
open Go.RowKit
set_option linter.unusedVariables false
set_option linter.unusedSimpArgs false

abbrev Ky := List UInt8 × List UInt8
def kv (k : Ky) : Value := .agg #[.string ⟨k.1.toArray⟩, .string ⟨k.2.toArray⟩]
theorem bytes_beq (a b : List UInt8) : ((⟨a.toArray⟩ : ByteArray) == ⟨b.toArray⟩) = decide (a = b) := by
  have h : ((⟨a.toArray⟩ : ByteArray) == ⟨b.toArray⟩) = (a.toArray == b.toArray) := rfl
  rw [h]
  by_cases h2 : a = b
  · subst h2; simp
  · simp [h2]
theorem info_entry : (Tryz.prog.info? 135).map (fun i => (i.size, i.comparable)) = some (2, true) := by kernel_rfl
theorem part_string (a : Array Value) (i : Nat) (s : ByteArray) (h : a[i]? = some (.string s)) (w : World) : (part 9 a i).run Tryz.prog w = .ok (.string s) w := by
  unfold part
  simp [isAgg, run_underlying Tryz.underlying9, h, Result.andThen]
theorem stood_entry : Tryz.prog.stoodInHeld 135 = false := by kernel_rfl
theorem equal_kv (a b : Ky) (w : World) : (Op.equal 135 (kv a) (kv b)).run Tryz.prog w = .ok (decide (a = b)) w := by
  unfold Op.equal Op.maxDepth kv
  rw [Op.equalIn]
  simp only [Sem.run_bind, run_underlying Tryz.underlying135, Result.andThen_ok, run_program, stood_entry]
  have p0 := fun (x y : ByteArray) => part_string #[.string x, .string y] 0 x rfl w
  have p1 := fun (x y : ByteArray) => part_string #[.string x, .string y] 1 y rfl w
  have hs : ∀ (x y : ByteArray), (Op.equalIn 9999 9 (.string x) (.string y)).run Tryz.prog w = .ok (x == y) w := fun x y => by
    rw [Op.equalIn]
    simp [run_underlying Tryz.underlying9, Result.andThen]
  simp only [Bool.false_eq_true, if_false]
  simp [p0, p1, hs, bytes_beq, Result.andThen]
  by_cases h1 : a.1 = b.1
  · by_cases h2 : a.2 = b.2
    · have : a = b := Prod.ext h1 h2
      subst this
      simp [p0, p1, hs, bytes_beq, Result.andThen]
    · have : ¬ a = b := fun e => h2 (by rw [e])
      simp [h1, h2, this, p0, p1, hs, bytes_beq, Result.andThen]
  · have : ¬ a = b := fun e => h1 (by rw [e])
    simp [h1, this, p0, p1, hs, bytes_beq, Result.andThen]
theorem check_kv (w : World) (em : Bool) (k : Ky) : (Instr.checkKey em 10000 135 (kv k)).run Tryz.prog w = .ok () w := by
  unfold kv
  rw [Instr.checkKey]
  have p0 := part_string #[.string ⟨k.1.toArray⟩, .string ⟨k.2.toArray⟩] 0 ⟨k.1.toArray⟩ rfl w
  have p1 := part_string #[.string ⟨k.1.toArray⟩, .string ⟨k.2.toArray⟩] 1 ⟨k.2.toArray⟩ rfl w
  have hs : ∀ (x : ByteArray), (Instr.checkKey em 9999 9 (.string x)).run Tryz.prog w = .ok () w := fun x => by
    rw [Instr.checkKey]
    simp [run_underlying Tryz.underlying9, Result.andThen]
  simp [run_underlying Tryz.underlying135, p0, p1, hs, Result.andThen]
  done
theorem asking_kv (w : World) (k : Ky) {V : Type} (enc : V → Value) : ∀ (es : List MapEntry) (ms : List (Ky × V)) (i : Nat), es.map Mp.ge = ms.map (Mp.gm kv enc) →
    (Instr.findAsking 135 (kv k) es i).run Tryz.prog w = .ok ((Mp.fnd k ms i).map fun q => (q.1, enc q.2)) w
  | [], [], _, _ => by simp [Instr.findAsking, Mp.fnd]
  | [], _ :: _, _, h => by simp at h
  | _ :: _, [], _, h => by simp at h
  | e :: es, p :: ms, i, h => by
    simp only [List.map_cons, List.cons.injEq] at h
    have hk : e.key = kv p.1 := congrArg (·.1) h.1
    have hv : e.val = enc p.2 := congrArg (·.2) h.1
    have ih := asking_kv w k enc es ms (i + 1) h.2
    unfold Instr.findAsking Mp.fnd
    rw [hk, hv]
    simp only [Sem.run_bind, equal_kv, Result.andThen_ok]
    by_cases c : k = p.1
    · simp [c]
    · simp only [c, decide_false, if_false, Bool.false_eq_true]
      exact ih
theorem findNow_kv (k : Ky) : ∀ (fs) (es : List MapEntry) (i : Nat), Instr.findNow (.struct fs) (kv k) es i = if es = [] then some none else none
  | fs, [], i => rfl
  | fs, e :: es, i => by simp [Instr.findNow, Instr.sameNow]
theorem keys_entry : Mp.Keys Tryz.prog 135 kv where
  check := check_kv
  find w k V enc es ms h := by
    unfold Instr.findKey
    simp only [Sem.run_bind, run_underlying Tryz.underlying135, Result.andThen_ok, findNow_kv]
    by_cases hn : es = []
    · subst hn
      have : ms = [] := by simpa using h.symm
      subst this
      simp [Mp.fnd]
    · simp only [hn, if_false]
      exact asking_kv w k enc es ms 0 h
  stays w k := by
    unfold Instr.keyThatStays kv
    have : Instr.sameBits 10000 (.agg #[.string ⟨k.1.toArray⟩, .string ⟨k.2.toArray⟩]) (.agg #[.string ⟨k.1.toArray⟩, .string ⟨k.2.toArray⟩]) = true := by
      simp [Instr.sameBits, bytes_beq]
    rw [this]
    simp
end Go.Proofs.YtjklgmhaebjjaaaGreat.S11
