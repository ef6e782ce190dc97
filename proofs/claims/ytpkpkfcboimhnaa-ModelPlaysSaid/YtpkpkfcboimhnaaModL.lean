/- ModelPlays, over the developers' model. -/
import Derived.Test.YtpkpkfcboimhnaaDevF
import Derived.Test.YtpkpkfcboimhnaaModJ
namespace Go.Proofs.Ytpkpkfcboimhnaa.Mod
open Go.RowKit Mem Go.Proofs.Ytpkpkfcboimhnaa.Open

theorem plays_law (m : Int) (a : Option Addr) (len cap : Nat) (z : Nat → Tri) (w : World) (_ : (Lit.int .i64 m).wf = true) (hr : IsRowT w a len cap z) :
    Calls Try.prog 3 #[.int .i64 m, .slice a len cap] w fun e w' => e = .returned (.bool true) ∧ Below w.heap.size w w' :=
  (plays_walk con_dev m a len cap z w hr).mono fun _ _ h => ⟨h.1, h.2.nil_below⟩

end Go.Proofs.Ytpkpkfcboimhnaa.Mod
