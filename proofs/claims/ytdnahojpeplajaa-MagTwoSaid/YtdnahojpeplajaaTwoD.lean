/- Stage 8: MagTwo over the program's own machines, its arguments as they come in. -/
import Derived.Test.YtdnahojpeplajaaMagZ
import Derived.Test.YtdnahojpeplajaaTwoB
namespace Go.Proofs.Ytdnahojpeplajaa.Mag
open Go.RowKit Mem Go.Proofs.Ytdnahojpeplajaa.Words Go.Proofs.Ytdnahojpeplajaa.Plan Go.Proofs.Ytdnahojpeplajaa.Pack Go.Proofs.Ytdnahojpeplajaa.Open

theorem two_law (a : Option Addr) (len cap : Nat) (z : Nat → Int) (x0 x1 : Int) (b : Option Addr) (len2 cap2 : Nat) (z2 : Nat → Bool) (w : World) (hr : IsRowU w a len cap z) (h0 : (Lit.int .u8 x0).wf = true) (h1 : (Lit.int .u8 x1).wf = true) (hb : IsRowB w b len2 cap2 z2) :
    Calls Try.prog 6 #[.slice a len cap, .agg #[.int .u8 x0, .int .u8 x1], .slice b len2 cap2] w fun e w' => e = .returned (.bool true) ∧ Below w.heap.size w w' :=
  (two_walk con_taker con_putter awake_is a len cap z x0 x1 b len2 cap2 z2 w hr (u8_of_wf h0) (u8_of_wf h1) hb).mono fun _ _ h => ⟨h.1, h.2.nil_below⟩
end Go.Proofs.Ytdnahojpeplajaa.Mag
