/- Layer 3: the walks of its laws but two. -/
import Derived.Test.YtdnahojpeplajaaPlanD
namespace Go.Proofs.Ytdnahojpeplajaa.Plan
open Go.RowKit Mem

theorem class33b : classB 33 = false := rfl
theorem run32b : runB 32 = false := rfl
theorem run513b : runB 513 = false := rfl
theorem length33 : lengthI 33 = 64 := by decide
theorem length33b : lengthB 33 = true := rfl
theorem split127 : splitP 2 1 3 127 = 1 := by decide
theorem split127o : splitO 2 1 3 127 = 63 := by decide
theorem split127b : splitB 2 1 3 127 = true := by decide
theorem split128b : splitB 2 1 3 128 = false := by decide
theorem slot20 : slotI 2 1 3 2 0 = -1 := by decide
theorem mag03 : magI 2 1 3 0 3 = -1 := by decide
theorem may000 : mayB 0 0 0 = false := by decide
theorem words65 : wordsI 65 1 0 = 0 := by decide
theorem addr120 : addrI 1 2 0 = 72 := rfl

/-- The four classes, each with its size. -/
theorem size0 : sizeI 0 = 4 := rfl
theorem size1 : sizeI 1 = 8 := rfl
theorem size2 : sizeI 2 = 16 := rfl
theorem size3 : sizeI 3 = 32 := rfl
theorem slots0 : slotsI 0 = 16 := rfl
theorem slots1 : slotsI 1 = 8 := rfl
theorem slots2 : slotsI 2 = 4 := rfl
theorem slots3 : slotsI 3 = 2 := rfl

/-- What is drawn of lengths. -/
theorem u16_bd {a : Int} (h : (Lit.int .u16 a).wf = true) : 0 ≤ a ∧ a ≤ 65535 := by
  have hmin : IntKind.u16.min = 0 := rfl
  have hmax : IntKind.u16.max = 65535 := rfl
  simp only [Lit.wf, Bool.and_eq_true, decide_eq_true_eq] at h
  omega

end Go.Proofs.Ytdnahojpeplajaa.Plan
