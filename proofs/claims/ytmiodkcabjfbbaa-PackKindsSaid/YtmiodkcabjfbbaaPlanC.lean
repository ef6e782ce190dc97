/- The document's own sizes and places: a contract each. -/
import Derived.Test.YtmiodkcabjfbbaaPlanB
namespace Go.Proofs.Ytmiodkcabjfbbaa.Plan
open Go.RowKit Mem

theorem not_fit {P C M : Int} (h : ¬ Fit P C M) : ¬ 1 ≤ P ∨ (1 ≤ P ∧ ¬ P ≤ 64) ∨ (1 ≤ P ∧ P ≤ 64 ∧ ¬ 1 ≤ C) ∨ (1 ≤ P ∧ P ≤ 64 ∧ 1 ≤ C ∧ ¬ C ≤ 12) ∨ (1 ≤ P ∧ P ≤ 64 ∧ 1 ≤ C ∧ C ≤ 12 ∧ ¬ 0 ≤ M) ∨ (1 ≤ P ∧ P ≤ 64 ∧ 1 ≤ C ∧ C ≤ 12 ∧ 0 ≤ M ∧ ¬ M ≤ 8) := by
  by_cases a : 1 ≤ P
  · by_cases b : P ≤ 64
    · by_cases c : 1 ≤ C
      · by_cases d : C ≤ 12
        · by_cases e : 0 ≤ M
          · by_cases f : M ≤ 8
            · exact absurd ⟨a, b, c, d, e, f⟩ h
            · exact .inr (.inr (.inr (.inr (.inr ⟨a, b, c, d, e, f⟩))))
          · exact .inr (.inr (.inr (.inr (.inl ⟨a, b, c, d, e⟩))))
        · exact .inr (.inr (.inr (.inl ⟨a, b, c, d⟩)))
      · exact .inr (.inr (.inl ⟨a, b, c⟩))
    · exact .inr (.inl ⟨a, b⟩)
  · exact .inl a

theorem rmay_any (P C M : Int) (w : World) :
    Calls Try.prog 10 #[.agg #[.int .i64 P, .int .i64 C, .int .i64 M]] w fun e w' => e = .returned (.bool (mayB P C M)) ∧ Off [] w w' := by
  rcases fit_cases P C M with hf | hf
  · rw [mayB_t hf]
    obtain ⟨p1, p2, c1, c2, m1, m2⟩ := hf
    go_enter Try.func10, Try.ntmps10
    go_wp2
    go_ret
    exact ⟨rfl, (Off.refl _ _).alloc _⟩
  · rw [mayB_f hf]
    rcases not_fit hf with a | ⟨a, b⟩ | ⟨a, b, c⟩ | ⟨a, b, c, d⟩ | ⟨a, b, c, d, f⟩ | ⟨a, b, c, d, f, g⟩
    · have q : decide (1 ≤ P) = false := by simp; omega
      clear hf a
      go_enter Try.func10, Try.ntmps10
      go_wp2
      go_ret
      exact ⟨rfl, (Off.refl _ _).alloc _⟩
    · have q : decide (P ≤ 64) = false := by simp; omega
      clear hf b
      go_enter Try.func10, Try.ntmps10
      go_wp2
      go_ret
      exact ⟨rfl, (Off.refl _ _).alloc _⟩
    · have q : decide (1 ≤ C) = false := by simp; omega
      clear hf c
      go_enter Try.func10, Try.ntmps10
      go_wp2
      go_ret
      exact ⟨rfl, (Off.refl _ _).alloc _⟩
    · have q : decide (C ≤ 12) = false := by simp; omega
      clear hf d
      go_enter Try.func10, Try.ntmps10
      go_wp2
      go_ret
      exact ⟨rfl, (Off.refl _ _).alloc _⟩
    · have q : decide (0 ≤ M) = false := by simp; omega
      clear hf f
      go_enter Try.func10, Try.ntmps10
      go_wp2
      go_ret
      exact ⟨rfl, (Off.refl _ _).alloc _⟩
    · have q : decide (M ≤ 8) = false := by simp; omega
      clear hf g
      go_enter Try.func10, Try.ntmps10
      go_wp2
      go_ret
      exact ⟨rfl, (Off.refl _ _).alloc _⟩

end Go.Proofs.Ytmiodkcabjfbbaa.Plan
