/- The law's awake. -/
import Derived.Test.YtdnahojpeplajaaPlanC
namespace Go.Proofs.Ytdnahojpeplajaa.Plan
open Go.RowKit Mem

/-- A boxed shape reads in each later world as it read. -/
theorem shp_keep {W : World} {g : Nat} {t : TypeId} {P C M : Int} (h : Blk W g t #[.int .i64 P, .int .i64 C, .int .i64 M]) :
    ∀ w', Off [] W w' → w'.cell? ⟨g, 0, none⟩ = some (.int .i64 P) ∧ w'.cell? ⟨g, 1, none⟩ = some (.int .i64 C) ∧ w'.cell? ⟨g, 2, none⟩ = some (.int .i64 M) :=
  fun _ ho => shp_cells (ho.blk h (by simp))

theorem class5 : classI 5 = 1 := rfl
theorem class5b : classB 5 = true := rfl
theorem run65 : runI 65 = 2 := rfl
theorem run65b : runB 65 = true := rfl
theorem words213 : wordsI 2 1 3 = 38 := by decide
theorem slot213 : slotI 2 1 3 1 2 = 21 := by decide

end Go.Proofs.Ytdnahojpeplajaa.Plan
