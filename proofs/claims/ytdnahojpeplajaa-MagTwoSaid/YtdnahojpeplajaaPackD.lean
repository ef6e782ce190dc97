/- Package pack: words read: a contract each. -/
import Derived.Test.YtdnahojpeplajaaPackC
namespace Go.Proofs.Ytdnahojpeplajaa.Pack
open Go.RowKit Mem Plan

/-- What a page may say where it stands. -/
def standB (P C M at_ k a b : Int) : Bool :=
  hasPageB P C M at_ && (if k = 1 then hasClientB P C M a else if k = 2 then hasClassB a && hasClientB P C M b else if k = 3 then decide (1 ≤ a ∧ a ≤ 8 ∧ a ≤ P - at_) else if k = 4 then decide (a < at_ ∧ at_ - a < 8) else true)

end Go.Proofs.Ytdnahojpeplajaa.Pack
