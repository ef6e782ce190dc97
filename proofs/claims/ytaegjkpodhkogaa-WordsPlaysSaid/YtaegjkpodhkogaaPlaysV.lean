/- WordsPlays: all ways together. -/
import Derived.Test.YtaegjkpodhkogaaPlaysW
namespace Go.Proofs.Ytaegjkpodhkogaa.Words
open Go.RowKit Mem Go.Proofs.Ytaegjkpodhkogaa.Open

theorem plays_walk (a : Option Addr) (len cap : Nat) (z : Nat → Int) (b : Option Addr) (nd capd : Nat) (zd : Nat → Five) (W : World) (hrow : IsRowU W a len cap z) (hd : IsRowD W b nd capd zd) :
    Calls Try.prog 4 #[.slice a len cap, .slice b nd capd] W fun e w' => e = .returned (.bool true) ∧ Below W.heap.size W w' := by
  by_cases h1 : len ≤ 100
  · by_cases h2 : nd ≤ 60
    · exact plays_some a b len cap nd capd z zd W hrow hd h1 h2
    · have hd1 : decide (100 < (len : Int)) = false := by simp; omega
      have hd2 : decide (60 < (nd : Int)) = true := by simp; omega
      go_enter Try.func4, Try.ntmps4
      go_wp2_with (go_at_call 8; refine (awake_any _).mono ?_; rintro e w0 ⟨rfl, ho0⟩)
      go_ret
      exact ⟨rfl, ho0.nil_below⟩
  · have hd1 : decide (100 < (len : Int)) = true := by simp; omega
    go_enter Try.func4, Try.ntmps4
    go_wp2_with (go_at_call 8; refine (awake_any _).mono ?_; rintro e w0 ⟨rfl, ho0⟩)
    go_ret
    exact ⟨rfl, ho0.nil_below⟩

end Go.Proofs.Ytaegjkpodhkogaa.Words
