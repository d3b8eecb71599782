/-
  Keys of two texts (tape.entry): what '==' tells of them; maps keyed by them.
-/
import Derived.Test.YtanalbdbkfmifaaMpA
import Derived.Test.YtanalbdbkfmifaaTpC
namespace Go.Proofs.Ytanalbdbkfmifaa.S11
open Go.RowKit
set_option linter.unusedVariables false
set_option linter.unusedSimpArgs false

abbrev Ky := List UInt8 × List UInt8
def kv (k : Ky) : Value := .agg #[.string ⟨k.1.toArray⟩, .string ⟨k.2.toArray⟩]
theorem bytes_beq (a b : List UInt8) : ((⟨a.toArray⟩ : ByteArray) == ⟨b.toArray⟩) = decide (a = b) := by
  have h : ((⟨a.toArray⟩ : ByteArray) == ⟨b.toArray⟩) = (a.toArray == b.toArray) := rfl
  rw [h]
  by_cases h2 : a = b
  · subst h2; simp
  · simp [h2]
theorem info_entry : (Try.prog.info? 58).map (fun i => (i.size, i.comparable)) = some (2, true) := by kernel_rfl
theorem part_string (a : Array Value) (i : Nat) (s : ByteArray) (h : a[i]? = some (.string s)) (w : World) : (part 9 a i).run Try.prog w = .ok (.string s) w := by
  unfold part
  simp [isAgg, run_underlying Try.underlying9, h, Result.andThen]
theorem stood_entry : Try.prog.stoodInHeld 58 = false := by kernel_rfl
theorem equal_kv (a b : Ky) (w : World) : (Op.equal 58 (kv a) (kv b)).run Try.prog w = .ok (decide (a = b)) w := by
  unfold Op.equal Op.maxDepth kv
  rw [Op.equalIn]
  simp only [Sem.run_bind, run_underlying Try.underlying58, Result.andThen_ok, run_program, stood_entry]
  have p0 := fun (x y : ByteArray) => part_string #[.string x, .string y] 0 x rfl w
  have p1 := fun (x y : ByteArray) => part_string #[.string x, .string y] 1 y rfl w
  have hs : ∀ (x y : ByteArray), (Op.equalIn 9999 9 (.string x) (.string y)).run Try.prog w = .ok (x == y) w := fun x y => by
    rw [Op.equalIn]
    simp [run_underlying Try.underlying9, Result.andThen]
  simp only [Bool.false_eq_true, if_false]
  simp [p0, p1, hs, bytes_beq, Result.andThen]
  by_cases h1 : a.1 = b.1
  · by_cases h2 : a.2 = b.2
    · have : a = b := Prod.ext h1 h2
      subst this
      simp [p0, p1, hs, bytes_beq, Result.andThen]
    · have : ¬ a = b := fun e => h2 (by rw [e])
      simp [h1, h2, this, p0, p1, hs, bytes_beq, Result.andThen]
  · have : ¬ a = b := fun e => h1 (by rw [e])
    simp [h1, this, p0, p1, hs, bytes_beq, Result.andThen]
theorem check_kv (w : World) (em : Bool) (k : Ky) : (Instr.checkKey em 10000 58 (kv k)).run Try.prog w = .ok () w := by
  unfold kv
  rw [Instr.checkKey]
  have p0 := part_string #[.string ⟨k.1.toArray⟩, .string ⟨k.2.toArray⟩] 0 ⟨k.1.toArray⟩ rfl w
  have p1 := part_string #[.string ⟨k.1.toArray⟩, .string ⟨k.2.toArray⟩] 1 ⟨k.2.toArray⟩ rfl w
  have hs : ∀ (x : ByteArray), (Instr.checkKey em 9999 9 (.string x)).run Try.prog w = .ok () w := fun x => by
    rw [Instr.checkKey]
    simp [run_underlying Try.underlying9, Result.andThen]
  simp [run_underlying Try.underlying58, p0, p1, hs, Result.andThen]
  done
theorem asking_kv (w : World) (k : Ky) {V : Type} (enc : V → Value) : ∀ (es : List MapEntry) (ms : List (Ky × V)) (i : Nat), es.map Mp.ge = ms.map (Mp.gm kv enc) →
    (Instr.findAsking 58 (kv k) es i).run Try.prog w = .ok ((Mp.fnd k ms i).map fun q => (q.1, enc q.2)) w
  | [], [], _, _ => by simp [Instr.findAsking, Mp.fnd]
  | [], _ :: _, _, h => by simp at h
  | _ :: _, [], _, h => by simp at h
  | e :: es, p :: ms, i, h => by
    simp only [List.map_cons, List.cons.injEq] at h
    have hk : e.key = kv p.1 := congrArg (·.1) h.1
    have hv : e.val = enc p.2 := congrArg (·.2) h.1
    have ih := asking_kv w k enc es ms (i + 1) h.2
    unfold Instr.findAsking Mp.fnd
    rw [hk, hv]
    simp only [Sem.run_bind, equal_kv, Result.andThen_ok]
    by_cases c : k = p.1
    · simp [c]
    · simp only [c, decide_false, if_false, Bool.false_eq_true]
      exact ih
theorem findNow_kv (k : Ky) : ∀ (fs) (es : List MapEntry) (i : Nat), Instr.findNow (.struct fs) (kv k) es i = if es = [] then some none else none
  | fs, [], i => rfl
  | fs, e :: es, i => by simp [Instr.findNow, Instr.sameNow]
theorem keys_entry : Mp.Keys Try.prog 58 kv where
  check := check_kv
  find w k V enc es ms h := by
    unfold Instr.findKey
    simp only [Sem.run_bind, run_underlying Try.underlying58, Result.andThen_ok, findNow_kv]
    by_cases hn : es = []
    · subst hn
      have : ms = [] := by simpa using h.symm
      subst this
      simp [Mp.fnd]
    · simp only [hn, if_false]
      exact asking_kv w k enc es ms 0 h
  stays w k := by
    unfold Instr.keyThatStays kv
    have : Instr.sameBits 10000 (.agg #[.string ⟨k.1.toArray⟩, .string ⟨k.2.toArray⟩]) (.agg #[.string ⟨k.1.toArray⟩, .string ⟨k.2.toArray⟩]) = true := by
      simp [Instr.sameBits, bytes_beq]
    rw [this]
    simp
end Go.Proofs.Ytanalbdbkfmifaa.S11
