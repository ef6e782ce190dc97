/- Sizes and places: what chapter 3 reckons, in integers. Nothing of the program. -/
import Derived.WalkKit
namespace Go.Proofs.Ytdnahojpeplajaa.Plan

/-- From lo to hi; from 0 to below b. -/
def fromB (lo n hi : Int) : Bool := decide (lo ≤ n ∧ n ≤ hi)
def belowB (n b : Int) : Bool := decide (0 ≤ n ∧ n < b)
theorem fromB_t {lo n hi : Int} (h1 : lo ≤ n) (h2 : n ≤ hi) : fromB lo n hi = true := decide_eq_true ⟨h1, h2⟩
theorem fromB_f {lo n hi : Int} (h : n < lo ∨ hi < n) : fromB lo n hi = false := decide_eq_false (by omega)
theorem belowB_t {n b : Int} (h1 : 0 ≤ n) (h2 : n < b) : belowB n b = true := decide_eq_true ⟨h1, h2⟩
theorem belowB_f {n b : Int} (h : n < 0 ∨ b ≤ n) : belowB n b = false := decide_eq_false (by omega)
theorem belowB_iff {n b : Int} : belowB n b = true ↔ 0 ≤ n ∧ n < b := decide_eq_true_iff
theorem fromB_iff {lo n hi : Int} : fromB lo n hi = true ↔ lo ≤ n ∧ n ≤ hi := decide_eq_true_iff

/-- A shape that may be. -/
structure Fit (P C M : Int) : Prop where
  p1 : 1 ≤ P
  p2 : P ≤ 64
  c1 : 1 ≤ C
  c2 : C ≤ 12
  m1 : 0 ≤ M
  m2 : M ≤ 8
def mayB (P C M : Int) : Bool := fromB 1 P 64 && (fromB 1 C 12 && fromB 0 M 8)
theorem mayB_iff {P C M : Int} : mayB P C M = true ↔ Fit P C M := by
  unfold mayB
  rw [Bool.and_eq_true, Bool.and_eq_true, fromB_iff, fromB_iff, fromB_iff]
  exact ⟨fun ⟨⟨a, b⟩, ⟨c, d⟩, e, f⟩ => ⟨a, b, c, d, e, f⟩, fun h => ⟨⟨h.p1, h.p2⟩, ⟨h.c1, h.c2⟩, h.m1, h.m2⟩⟩
theorem mayB_t {P C M : Int} (h : Fit P C M) : mayB P C M = true := mayB_iff.2 h
theorem mayB_f {P C M : Int} (h : ¬ Fit P C M) : mayB P C M = false := by
  cases e : mayB P C M
  · rfl
  · exact absurd (mayB_iff.1 e) h
theorem fit_cases (P C M : Int) : Fit P C M ∨ ¬ Fit P C M := Classical.em _

/-- Classes. -/
def sizeI (k : Int) : Int := if k = 0 then 4 else if k = 1 then 8 else if k = 2 then 16 else if k = 3 then 32 else 0
def slotsI (k : Int) : Int := if k = 0 then 16 else if k = 1 then 8 else if k = 2 then 4 else if k = 3 then 2 else 0
theorem four_cases {k : Int} (h : 0 ≤ k ∧ k < 4) : k = 0 ∨ k = 1 ∨ k = 2 ∨ k = 3 := by omega
theorem sizeI_out {k : Int} (h : ¬ (0 ≤ k ∧ k < 4)) : sizeI k = 0 := by
  unfold sizeI; rw [if_neg (by omega), if_neg (by omega), if_neg (by omega), if_neg (by omega)]
theorem slotsI_out {k : Int} (h : ¬ (0 ≤ k ∧ k < 4)) : slotsI k = 0 := by
  unfold slotsI; rw [if_neg (by omega), if_neg (by omega), if_neg (by omega), if_neg (by omega)]
theorem sizeI_bd (k : Int) : 0 ≤ sizeI k ∧ sizeI k ≤ 32 := by unfold sizeI; omega

/-- How many bits a number below 8 takes. -/
def lenI (x : Int) : Int := if x = 0 then 0 else if x = 1 then 1 else if x < 4 then 2 else 3
def classB (n : Int) : Bool := fromB 1 n 32
def classI (n : Int) : Int := if 1 ≤ n ∧ n ≤ 32 then (if n ≤ 4 then 0 else if n ≤ 8 then 1 else if n ≤ 16 then 2 else 3) else 0
theorem classI_in {n : Int} (h1 : 1 ≤ n) (h2 : n ≤ 32) : classI n = if n ≤ 4 then 0 else if n ≤ 8 then 1 else if n ≤ 16 then 2 else 3 := if_pos ⟨h1, h2⟩
theorem classI_len {n : Int} (h1 : 1 ≤ n) (h2 : n ≤ 32) : lenI ((n - 1) / 4) = classI n := by
  rw [classI_in h1 h2]; unfold lenI; omega
theorem classI_out {n : Int} (h : n < 1 ∨ 32 < n) : classI n = 0 := by unfold classI; rw [if_neg (by omega)]
theorem classI_bd (n : Int) : 0 ≤ classI n ∧ classI n ≤ 3 := by unfold classI; omega
theorem class_size {n : Int} (h1 : 1 ≤ n) (h2 : n ≤ 32) : n ≤ sizeI (classI n) := by
  rw [classI_in h1 h2]; unfold sizeI; omega
theorem class_least {n k : Int} (h1 : 1 ≤ n) (h2 : n ≤ 32) (hk : k < classI n) : sizeI k < n := by
  rw [classI_in h1 h2] at hk; unfold sizeI; omega

def runB (n : Int) : Bool := fromB 33 n 512
def runI (n : Int) : Int := if 33 ≤ n ∧ n ≤ 512 then (n + 63) / 64 else 0
theorem runI_in {n : Int} (h1 : 33 ≤ n) (h2 : n ≤ 512) : runI n = (n + 63) / 64 := if_pos ⟨h1, h2⟩
theorem runI_out {n : Int} (h : n < 33 ∨ 512 < n) : runI n = 0 := if_neg (by omega)
theorem runI_bd (n : Int) : 0 ≤ runI n ∧ runI n ≤ 8 := by unfold runI; omega

def lengthB (n : Int) : Bool := fromB 1 n 512
def lengthI (n : Int) : Int := if classB n = true then sizeI (classI n) else runI n * 64
theorem length_class {n : Int} (h1 : 1 ≤ n) (h2 : n ≤ 32) : lengthI n = sizeI (classI n) := if_pos (fromB_t h1 h2)
theorem length_run {n : Int} (h : ¬ (1 ≤ n ∧ n ≤ 32)) : lengthI n = runI n * 64 := if_neg (by rw [classB, fromB_f (by omega)]; simp)
theorem lengthB_run {n : Int} (h : ¬ (1 ≤ n ∧ n ≤ 32)) : lengthB n = runB n := by
  unfold lengthB runB
  by_cases g : 33 ≤ n ∧ n ≤ 512
  · rw [fromB_t (by omega) g.2, fromB_t g.1 g.2]
  · rw [fromB_f (by omega), fromB_f (by omega)]

/-- Places. -/
def wordsI (P C M : Int) : Int := if mayB P C M = true then C + P + 16 * P + C * M else 0
def statusI (P C M c : Int) : Int := if mayB P C M = true ∧ 0 ≤ c ∧ c < C then c else -1
def pageI (P C M p : Int) : Int := if mayB P C M = true ∧ 0 ≤ p ∧ p < P then C + p else -1
def slotI (P C M p i : Int) : Int := if mayB P C M = true ∧ (0 ≤ p ∧ p < P) ∧ 0 ≤ i ∧ i < 16 then C + P + 16 * p + i else -1
def magI (P C M c i : Int) : Int := if mayB P C M = true ∧ (0 ≤ c ∧ c < C) ∧ 0 ≤ i ∧ i < M then C + P + 16 * P + M * c + i else -1
def splitB (P C M a : Int) : Bool := mayB P C M && belowB a (P * 64)
def splitP (P C M a : Int) : Int := if splitB P C M a = true then a / 64 else 0
def splitO (P C M a : Int) : Int := if splitB P C M a = true then a % 64 else 0
theorem splitB_t {P C M a : Int} (h : Fit P C M) (h1 : 0 ≤ a) (h2 : a < P * 64) : splitB P C M a = true := by
  unfold splitB; rw [mayB_t h, belowB_t h1 h2]; rfl
theorem splitB_f {P C M a : Int} (h : ¬ (Fit P C M ∧ 0 ≤ a ∧ a < P * 64)) : splitB P C M a = false := by
  unfold splitB
  by_cases hf : Fit P C M
  · rw [mayB_t hf, belowB_f (by by_cases h0 : 0 ≤ a <;> by_cases h1 : a < P * 64 <;> first | omega | exact absurd ⟨hf, h0, h1⟩ h)]; rfl
  · rw [mayB_f hf]; rfl

/-- An address, where nothing wraps. -/
def addrI (p i k : Int) : Int := p * 64 + i * sizeI k

theorem length_in {n : Int} (h1 : 1 ≤ n) (h2 : n ≤ 512) : lengthI n = if n ≤ 4 then 4 else if n ≤ 8 then 8 else if n ≤ 16 then 16 else if n ≤ 32 then 32 else (n + 63) / 64 * 64 := by
  by_cases h : n ≤ 32
  · rw [length_class h1 h, classI_in h1 h]; unfold sizeI; omega
  · rw [length_run (by omega), runI_in (by omega) h2]; omega
theorem length_mono {n m : Int} (h1 : 1 ≤ n) (h2 : n ≤ m) (h3 : m ≤ 512) : lengthI n ≤ lengthI m := by
  rw [length_in h1 (by omega), length_in (by omega) h3]; omega
theorem length_out {n : Int} (h : n < 1 ∨ 512 < n) : lengthI n = 0 := by rw [length_run (by omega), runI_out (by omega)]; rfl

theorem mul_bd {a b A B : Int} (h1 : 0 ≤ a) (h2 : a ≤ A) (h3 : 0 ≤ b) (h4 : b ≤ B) : 0 ≤ a * b ∧ a * b ≤ A * B :=
  ⟨Int.mul_nonneg h1 h3, Int.mul_le_mul h2 h4 h3 (by omega)⟩

end Go.Proofs.Ytdnahojpeplajaa.Plan
