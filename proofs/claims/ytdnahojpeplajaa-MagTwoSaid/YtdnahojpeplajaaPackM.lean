/- Words: what chapter 4 packs and reads, in integers. Nothing of the program. -/
import Derived.Test.YtdnahojpeplajaaPlanM
import Derived.Laws.BitsAllLaws
namespace Go.Proofs.Ytdnahojpeplajaa.Pack

/-- A word of its parts; its parts again. -/
def wordI (k a b c : Int) : Int := k + a * 16 + b * 4096 + c * 1048576
def kindI (w : Int) : Int := w % 16
def aI (w : Int) : Int := w / 16 % 256
def bI (w : Int) : Int := w / 4096 % 256
def cI (w : Int) : Int := w / 1048576 % 256
theorem kind_bd (w : Int) : 0 ≤ kindI w ∧ kindI w ≤ 15 := by unfold kindI; omega
theorem a_bd (w : Int) : 0 ≤ aI w ∧ aI w ≤ 255 := by unfold aI; omega
theorem b_bd (w : Int) : 0 ≤ bI w ∧ bI w ≤ 255 := by unfold bI; omega
theorem c_bd (w : Int) : 0 ≤ cI w ∧ cI w ≤ 255 := by unfold cI; omega

/-- The parts that a word may have. -/
structure Parts (k a b c : Int) : Prop where
  k1 : 0 ≤ k
  k2 : k ≤ 15
  a1 : 0 ≤ a
  a2 : a ≤ 255
  b1 : 0 ≤ b
  b2 : b ≤ 255
  c1 : 0 ≤ c
  c2 : c ≤ 255
theorem Parts.of (w : Int) : Parts (kindI w) (aI w) (bI w) (cI w) :=
  ⟨(kind_bd w).1, (kind_bd w).2, (a_bd w).1, (a_bd w).2, (b_bd w).1, (b_bd w).2, (c_bd w).1, (c_bd w).2⟩
section
variable {k a b c : Int}
theorem Parts.lt (h : Parts k a b c) : 0 ≤ wordI k a b c ∧ wordI k a b c < 268435456 := by
  obtain ⟨_, _, _, _, _, _, _, _⟩ := h; unfold wordI; omega
theorem Parts.kind (h : Parts k a b c) : kindI (wordI k a b c) = k := by
  obtain ⟨_, _, _, _, _, _, _, _⟩ := h; unfold wordI kindI; omega
theorem Parts.fa (h : Parts k a b c) : aI (wordI k a b c) = a := by
  obtain ⟨_, _, _, _, _, _, _, _⟩ := h; unfold wordI aI; omega
theorem Parts.fb (h : Parts k a b c) : bI (wordI k a b c) = b := by
  obtain ⟨_, _, _, _, _, _, _, _⟩ := h; unfold wordI bI; omega
theorem Parts.fc (h : Parts k a b c) : cI (wordI k a b c) = c := by
  obtain ⟨_, _, _, _, _, _, _, _⟩ := h; unfold wordI cI; omega
end
/-- Two words are one just if their parts are. -/
theorem word_eq {k a b c k' a' b' c' : Int} (h : Parts k a b c) (g : Parts k' a' b' c') : wordI k a b c = wordI k' a' b' c' ↔ k = k' ∧ a = a' ∧ b = b' ∧ c = c' := by
  obtain ⟨_, _, _, _, _, _, _, _⟩ := h
  obtain ⟨_, _, _, _, _, _, _, _⟩ := g
  unfold wordI; omega
theorem word_of {w : Int} (h : 0 ≤ w) (g : w < 268435456) : wordI (kindI w) (aI w) (bI w) (cI w) = w := by
  unfold wordI kindI aI bI cI; omega

/-- Whether a field has room; whether it is 0 where a kind has but n. -/
def fieldB (i n f : Int) : Bool := decide ((0 ≤ f ∧ f ≤ 255) ∧ (i < n ∨ f = 0))
theorem field_iff {i n f : Int} : fieldB i n f = true ↔ (0 ≤ f ∧ f ≤ 255) ∧ (i < n ∨ f = 0) := decide_eq_true_iff
theorem field_f {i n f : Int} (h : ¬ ((0 ≤ f ∧ f ≤ 255) ∧ (i < n ∨ f = 0))) : fieldB i n f = false := decide_eq_false h
def fitB (n a b c : Int) : Bool := fieldB 0 n a && (fieldB 1 n b && fieldB 2 n c)
theorem fit_iff {n a b c : Int} : fitB n a b c = true ↔ ((0 ≤ a ∧ a ≤ 255) ∧ (0 < n ∨ a = 0)) ∧ ((0 ≤ b ∧ b ≤ 255) ∧ (1 < n ∨ b = 0)) ∧ ((0 ≤ c ∧ c ≤ 255) ∧ (2 < n ∨ c = 0)) := by
  unfold fitB; rw [Bool.and_eq_true, Bool.and_eq_true, field_iff, field_iff, field_iff]

/-- Kinds, and how many fields each has. -/
def isStatusB (k a b c : Int) : Bool := if k = 0 ∨ k = 1 ∨ k = 2 ∨ k = 4 then fitB 0 a b c else if k = 3 then fitB 1 a b c else false
def isPageB (k a b c : Int) : Bool := if k = 0 then fitB 0 a b c else if k = 1 ∨ k = 3 ∨ k = 4 then fitB 1 a b c else if k = 2 then fitB 2 a b c else false
def isSlotB (k a b c : Int) : Bool := if k = 0 then fitB 0 a b c else if k = 1 ∨ k = 2 ∨ k = 3 then fitB 1 a b c else false
def isEntryB (k a b c : Int) : Bool := if k = 1 then fitB 3 a b c else false
theorem fit_parts {n k a b c : Int} (h : fitB n a b c = true) (h1 : 0 ≤ k) (h2 : k ≤ 15) : Parts k a b c := by
  obtain ⟨⟨⟨_, _⟩, _⟩, ⟨⟨_, _⟩, _⟩, ⟨_, _⟩, _⟩ := fit_iff.1 h
  constructor <;> assumption
theorem status_parts {k a b c : Int} (h : isStatusB k a b c = true) : Parts k a b c := by
  unfold isStatusB at h
  split at h
  · exact fit_parts h (by omega) (by omega)
  · split at h
    · exact fit_parts h (by omega) (by omega)
    · cases h
theorem page_parts {k a b c : Int} (h : isPageB k a b c = true) : Parts k a b c := by
  unfold isPageB at h
  split at h
  · exact fit_parts h (by omega) (by omega)
  · split at h
    · exact fit_parts h (by omega) (by omega)
    · split at h
      · exact fit_parts h (by omega) (by omega)
      · cases h
theorem slot_parts {k a b c : Int} (h : isSlotB k a b c = true) : Parts k a b c := by
  unfold isSlotB at h
  split at h
  · exact fit_parts h (by omega) (by omega)
  · split at h
    · exact fit_parts h (by omega) (by omega)
    · cases h
theorem entry_parts {k a b c : Int} (h : isEntryB k a b c = true) : Parts k a b c := by
  unfold isEntryB at h
  split at h
  · exact fit_parts h (by omega) (by omega)
  · cases h

/-- The words. -/
def statusW (k a : Int) : Int := if isStatusB k a 0 0 = true then wordI k a 0 0 else 0
def pageW (k a b : Int) : Int := if isPageB k a b 0 = true then wordI k a b 0 else 0
def slotW (k a : Int) : Int := if isSlotB k a 0 0 = true then wordI k a 0 0 else 0
def entryW (a b c : Int) : Int := if isEntryB 1 a b c = true then wordI 1 a b c else 0
theorem statusW_bd (k a : Int) : 0 ≤ statusW k a ∧ statusW k a < 268435456 := by
  unfold statusW; split
  · rename_i h; exact (status_parts h).lt
  · omega
theorem pageW_bd (k a b : Int) : 0 ≤ pageW k a b ∧ pageW k a b < 268435456 := by
  unfold pageW; split
  · rename_i h; exact (page_parts h).lt
  · omega
theorem slotW_bd (k a : Int) : 0 ≤ slotW k a ∧ slotW k a < 268435456 := by
  unfold slotW; split
  · rename_i h; exact (slot_parts h).lt
  · omega
theorem entryW_bd (a b c : Int) : 0 ≤ entryW a b c ∧ entryW a b c < 268435456 := by
  unfold entryW; split
  · rename_i h; exact (entry_parts h).lt
  · omega

/-- Whether a word's bits lie in its fields. -/
def inB (w : Int) : Bool := decide (0 ≤ w ∧ w < 268435456)
theorem inB_t {w : Int} (h : 0 ≤ w) (g : w < 268435456) : inB w = true := decide_eq_true ⟨h, g⟩
theorem inB_f {w : Int} (g : 268435456 ≤ w) : inB w = false := decide_eq_false (by omega)
theorem inB_iff {w : Int} : inB w = true ↔ 0 ≤ w ∧ w < 268435456 := decide_eq_true_iff

/-- Bits. -/
theorem or_low {s : Nat} {x m : Int} (hs : s ≤ 24) (hx0 : 0 ≤ x) (hx : x < 2 ^ s) (hm0 : 0 ≤ m) (hm : m < 256) : bits .or .u64 x (m * 2 ^ s) = x + m * 2 ^ s := by
  obtain ⟨a, rfl⟩ := Int.eq_ofNat_of_zero_le hx0
  obtain ⟨b, rfl⟩ := Int.eq_ofNat_of_zero_le hm0
  have ha : a < 2 ^ s := by exact_mod_cast hx
  have hp : 2 ^ s ≤ 2 ^ 24 := Nat.pow_le_pow_right (by decide) hs
  have hb : b * 2 ^ s ≤ 255 * 2 ^ 24 := Nat.mul_le_mul (by omega) hp
  have e : ((b : Int) * 2 ^ s) = ((b * 2 ^ s : Nat) : Int) := by simp
  have hd : a ||| b * 2 ^ s = a + b * 2 ^ s := by rw [Nat.mul_comm b, Nat.or_comm, ← Nat.two_pow_add_eq_or_of_lt ha]; omega
  rw [e, u64_or_nat a _ (by omega) (by omega), hd]
  simp
theorem or4 {x m : Int} (hx0 : 0 ≤ x) (hx : x < 16) (hm0 : 0 ≤ m) (hm : m < 256) : bits .or .u64 x (m * 16) = x + m * 16 := or_low (s := 4) (by omega) hx0 hx hm0 hm
theorem or12 {x m : Int} (hx0 : 0 ≤ x) (hx : x < 4096) (hm0 : 0 ≤ m) (hm : m < 256) : bits .or .u64 x (m * 4096) = x + m * 4096 := or_low (s := 12) (by omega) hx0 hx hm0 hm
theorem or20 {x m : Int} (hx0 : 0 ≤ x) (hx : x < 1048576) (hm0 : 0 ≤ m) (hm : m < 256) : bits .or .u64 x (m * 1048576) = x + m * 1048576 := or_low (s := 20) (by omega) hx0 hx hm0 hm
theorem wraps_u64 (n : Int) (h₀ : 0 ≤ n) (h₁ : n < 2 ^ 64) : IntKind.u64.wrap n = n := by
  show n % 18446744073709551616 = n
  omega
theorem and15 {x : Int} (h₀ : 0 ≤ x) (h₁ : x < 2 ^ 64) : bits .and .u64 x 15 = x % 16 := bits_mask .u64 64 (by decide) wraps_u64 4 (by decide) x h₀ h₁
theorem and255 {x : Int} (h₀ : 0 ≤ x) (h₁ : x < 2 ^ 64) : bits .and .u64 x 255 = x % 256 := bits_mask .u64 64 (by decide) wraps_u64 8 (by decide) x h₀ h₁

end Go.Proofs.Ytdnahojpeplajaa.Pack
