/- Two accesses are held against each other. -/
import Derived.Test.YtaegjkpodhkogaaChecked
import Derived.WalkKit
import Derived.Laws.StructEq
import Derived.WalkLawsBesides
import Derived.KernelRfl
namespace Go.Proofs.Ytaegjkpodhkogaa.Words
open Go.RowKit

theorem neq_access (c k p u x : Int) (b : Bool) (w : World) :
    (binOp .neq 30 (.agg #[.int .i64 c, .int .i64 k, .int .i64 p, .int .u64 u, .int .u64 x, .bool b]) (.agg #[.int .i64 c, .int .i64 k, .int .i64 p, .int .u64 u, .int .u64 x, .bool b])).run Try.prog w = .ok (.bool false) w := by
  have h1 : Try.prog.underlying 30 = some (.struct (Try.prog.fieldsOf 30)) := by kernel_rfl
  have h2 : Try.prog.stoodInHeld 30 = false := by kernel_rfl
  rw [run_neq_struct, run_equalIn_agg _ _ _ _ _ h1 h2]
  have h3 := Try.underlying30
  rw [h1] at h3
  injection h3 with h3
  injection h3 with h3
  rw [h3]
  simp [Op.eqFields, go_sem, Try.underlying3, Try.underlying25, Try.underlying4]

end Go.Proofs.Ytaegjkpodhkogaa.Words
