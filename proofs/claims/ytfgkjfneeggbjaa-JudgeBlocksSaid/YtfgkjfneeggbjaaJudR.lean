/- Stage 7: JudgeBlocks over the program's own judge, its arguments as they come in. -/
import Derived.Test.YtfgkjfneeggbjaaJgH
import Derived.Test.YtfgkjfneeggbjaaJudL
import Derived.Test.YtfgkjfneeggbjaaOpenE
namespace Go.Proofs.Ytfgkjfneeggbjaa.Jud
open Go.RowKit Mem Go.Proofs.Ytfgkjfneeggbjaa.Mod Go.Proofs.Ytfgkjfneeggbjaa.Plan Go.Proofs.Ytfgkjfneeggbjaa.Open

theorem blocks_law (P C M : Int) (v : Value) (L : List Ev) (w : World) (hv : RdE w v L) (hwf : ∀ e ∈ L, e.wf) (hcap : ∀ a l c, v = .slice a l c → c ≤ 9223372036854775807) :
    Calls Try.prog 4 #[.agg #[.int .i64 P, .int .i64 C, .int .i64 M], v] w fun e w' => e = .returned (.bool true) ∧ Below w.heap.size w w' :=
  (blocks_walk con_judge P C M v L w hv hwf hcap).mono fun _ _ h => ⟨h.1, h.2.nil_below⟩

end Go.Proofs.Ytfgkjfneeggbjaa.Jud
