/- FramePlays: its walk, as the law's frame asks it. -/
import Derived.Test.YtkccnijnipkjnaaFrmL
namespace Go.Proofs.Ytkccnijnipkjnaa.Frm
open Go.RowKit Mem Go.Proofs.Ytkccnijnipkjnaa.Open

theorem plays_law (m : Int) (a : Option Addr) (len cap : Nat) (z : Nat → Dd) (w : World) (_ : (Lit.int .i64 m).wf = true) (hr : IsRowQ w a len cap z) :
    Calls Try.prog 3 #[.int .i64 m, .slice a len cap] w fun e w' => e = .returned (.bool true) ∧ Below w.heap.size w w' :=
  (plays_walk m a len cap z w hr).mono fun _ _ h => ⟨h.1, h.2.nil_below⟩

end Go.Proofs.Ytkccnijnipkjnaa.Frm
