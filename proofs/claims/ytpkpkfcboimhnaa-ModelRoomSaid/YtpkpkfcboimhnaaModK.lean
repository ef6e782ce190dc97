/- Three laws of the model, over the developers' model. -/
import Derived.Test.YtpkpkfcboimhnaaDevF
import Derived.Test.YtpkpkfcboimhnaaModG
import Derived.Test.YtpkpkfcboimhnaaModI
namespace Go.Proofs.Ytpkpkfcboimhnaa.Mod
open Go.RowKit Mem Go.Proofs.Ytpkpkfcboimhnaa.Open

theorem u8_nat {n : Int} (h : (Lit.int .u8 n).wf = true) : ∃ k : Nat, n = (k : Int) ∧ k < 256 := by
  have hmin : IntKind.u8.min = 0 := rfl
  have hmax : IntKind.u8.max = 255 := rfl
  simp only [Lit.wf, Bool.and_eq_true, decide_eq_true_eq] at h
  exact ⟨n.toNat, by omega, by omega⟩

theorem room_law (a : Option Addr) (len cap : Nat) (z : Nat → Tri) (n : Int) (w : World) (hr : IsRowT w a len cap z) (hn : (Lit.int .u8 n).wf = true) :
    Calls Try.prog 6 #[.slice a len cap, .int .u8 n] w fun e w' => e = .returned (.bool true) ∧ Below w.heap.size w w' := by
  obtain ⟨k, rfl, hk⟩ := u8_nat hn
  exact (room_walk con_dev a len cap z k hk w hr).mono fun _ _ h => ⟨h.1, h.2.nil_below⟩
theorem apart_law (a : Option Addr) (len cap : Nat) (z : Nat → Tri) (w : World) (hr : IsRowT w a len cap z) :
    Calls Try.prog 4 #[.slice a len cap] w fun e w' => e = .returned (.bool true) ∧ Below w.heap.size w w' :=
  (apart_walk con_dev a len cap z w hr).mono fun _ _ h => ⟨h.1, h.2.nil_below⟩
theorem back_law (a : Option Addr) (len cap : Nat) (z : Nat → Tri) (n : Int) (w : World) (hr : IsRowT w a len cap z) (hn : (Lit.int .u8 n).wf = true) :
    Calls Try.prog 5 #[.slice a len cap, .int .u8 n] w fun e w' => e = .returned (.bool true) ∧ Below w.heap.size w w' := by
  obtain ⟨k, rfl, hk⟩ := u8_nat hn
  exact (back_walk con_dev a len cap z k hk w hr).mono fun _ _ h => ⟨h.1, h.2.nil_below⟩

end Go.Proofs.Ytpkpkfcboimhnaa.Mod
