/- The law's awake. -/
import Derived.Test.YtadnehblklpphaaPlanC
namespace Go.Proofs.Ytadnehblklpphaa.Plan
open Go.RowKit Mem

/-- A boxed shape reads in each later world as it read. -/
theorem shp_keep {W : World} {g : Nat} {t : TypeId} {P C M : Int} (h : Blk W g t #[.int .i64 P, .int .i64 C, .int .i64 M]) :
    ∀ w', Off [] W w' → w'.cell? ⟨g, 0, none⟩ = some (.int .i64 P) ∧ w'.cell? ⟨g, 1, none⟩ = some (.int .i64 C) ∧ w'.cell? ⟨g, 2, none⟩ = some (.int .i64 M) :=
  fun _ ho => shp_cells (ho.blk h (by simp))

theorem class5 : classI 5 = 1 := rfl
theorem class5b : classB 5 = true := rfl
theorem run65 : runI 65 = 2 := rfl
theorem run65b : runB 65 = true := rfl
theorem words213 : wordsI 2 1 3 = 38 := by decide
theorem slot213 : slotI 2 1 3 1 2 = 21 := by decide

theorem awake_any (w : World) :
    Calls Try.prog 10 #[] w fun e w' => e = .returned (.bool true) ∧ Off [] w w' := by
  have a1 := class5
  have a2 := class5b
  have a3 := run65
  have a4 := run65b
  have a5 := words213
  have a6 := slot213
  obtain ⟨hb, hb0⟩ := box_new w 24 #[.int .i64 2, .int .i64 1, .int .i64 3]
  have HC := Lib.hid (shp_keep hb)
  have HB := Lib.hid hb0
  have hoff := Off.refl [] (w.alloc (.cells #[.int .i64 2, .int .i64 1, .int .i64 3] 24))
  clear hb hb0
  go_enter Try.func10, Try.ntmps10
  go_wp2_with (first | (go_at_call 11; refine (class_any _ _).mono ?_; rintro e w' ⟨rfl, rfl⟩) | (go_at_call 12; refine (run_any _ _).mono ?_; rintro e w' ⟨rfl, rfl⟩) | (go_at_call 18; refine (words_any _ _ _ _).mono ?_; rintro e w1 ⟨rfl, ho⟩; replace hoff := hoff.trans ho; clear ho; obtain ⟨d0, d1, d2⟩ := HC.out _ hoff) | (go_at_call 15; refine (slot_any _ _ _ _ _ _).mono ?_; rintro e w1 ⟨rfl, ho⟩; replace hoff := hoff.trans ho; clear ho; obtain ⟨d0, d1, d2⟩ := HC.out _ hoff))
  go_ret
  exact ⟨rfl, HB.out.trans hoff⟩

end Go.Proofs.Ytadnehblklpphaa.Plan
