/- Stage 7: JudgeAnswers over the program's own judge, its arguments as they come in. -/
import Derived.Test.YtfgkjfneeggbjaaJgH
import Derived.Test.YtfgkjfneeggbjaaJudT
import Derived.Test.YtfgkjfneeggbjaaOpenE
namespace Go.Proofs.Ytfgkjfneeggbjaa.Jud
open Go.RowKit Mem Go.Proofs.Ytfgkjfneeggbjaa.Mod Go.Proofs.Ytfgkjfneeggbjaa.Plan Go.Proofs.Ytfgkjfneeggbjaa.Open

theorem answers_law (k a n x : Int) (block : Bool) (w : World) (hk : (Lit.int .i64 k).wf = true) (ha : (Lit.int .i64 a).wf = true) (hn : (Lit.int .i64 n).wf = true) (hx : (Lit.int .u8 x).wf = true) :
    Calls Try.prog 6 #[.agg #[.int .i64 k, .int .i64 a, .int .i64 n], .int .u8 x, .bool block] w fun e w' => e = .returned (.bool true) ∧ Below w.heap.size w w' := by
  obtain ⟨m, rfl, hm⟩ := u8_nat hx
  exact (answers_walk con_judge k a n m hm block w (wf_in hk) (wf_in ha) (wf_in hn)).mono fun _ _ h => ⟨h.1, h.2.nil_below⟩

end Go.Proofs.Ytfgkjfneeggbjaa.Jud
