/- PlanReckons: the walk. -/
import Derived.Test.YtadnehblklpphaaPlanE
namespace Go.Proofs.Ytadnehblklpphaa.Plan
open Go.RowKit Mem

set_option maxHeartbeats 4000000 in
set_option maxRecDepth 100000 in
theorem reckons_walk (P C M a b : Int) (w : World) (_ : (Lit.int .i64 a).wf = true) (_ : (Lit.int .i64 b).wf = true) :
    Calls Try.prog 4 #[.agg #[.int .i64 P, .int .i64 C, .int .i64 M], .int .i64 a, .int .i64 b] w fun e w' => e = .returned (.bool true) ∧ Below w.heap.size w w' := by
  obtain ⟨hb, hb0⟩ := box_new w 24 #[.int .i64 P, .int .i64 C, .int .i64 M]
  have HC := Lib.hid (shp_keep hb)
  have HB := Lib.hid hb0
  clear hb hb0
  have hoff := Off.refl [] (w.alloc (.cells #[.int .i64 P, .int .i64 C, .int .i64 M] 24))
  go_enter Try.func4, Try.ntmps4
  go_wp2_with (first | (go_at_call 10; refine (awake_any _).mono ?_; rintro e w1 ⟨rfl, ho⟩; replace hoff := hoff.trans ho; clear ho; obtain ⟨d0, d1, d2⟩ := HC.out _ hoff) | (go_at_call 11; refine (class_any _ _).mono ?_; rintro e w' ⟨rfl, rfl⟩) | (go_at_call 20; refine (rclass_any _ _).mono ?_; rintro e w' ⟨rfl, rfl⟩) | (go_at_call 12; refine (run_any _ _).mono ?_; rintro e w' ⟨rfl, rfl⟩) | (go_at_call 21; refine (rrun_any _ _).mono ?_; rintro e w' ⟨rfl, rfl⟩) | (go_at_call 13; refine (length_any _ _).mono ?_; rintro e w' ⟨rfl, rfl⟩) | (go_at_call 22; refine (rlength_any _ _).mono ?_; rintro e w' ⟨rfl, rfl⟩) | (go_at_call 14; refine (split_any _ _ _ _ _).mono ?_; rintro e w1 ⟨rfl, ho⟩; replace hoff := hoff.trans ho; clear ho; obtain ⟨d0, d1, d2⟩ := HC.out _ hoff) | (go_at_call 23; refine (rsplit_any _ _ _ _ _).mono ?_; rintro e w1 ⟨rfl, ho⟩; replace hoff := hoff.trans ho; clear ho; obtain ⟨d0, d1, d2⟩ := HC.out _ hoff))
  go_region_held3 (fun w' => w'.cell? ⟨w.heap.size, 0, none⟩ = some (.int .i64 P) ∧ w'.cell? ⟨w.heap.size, 1, none⟩ = some (.int .i64 C) ∧ w'.cell? ⟨w.heap.size, 2, none⟩ = some (.int .i64 M)) (exact ⟨d0, d1, d2⟩)
    (first | (go_at_call 17; refine (may_any _ _ _ _).mono ?_; rintro e w1 ⟨rfl, ho⟩; (first | (replace hoff := hoff.trans ho) | (replace hoff := (hoff.drewN _).trans ho)); clear ho; obtain ⟨d0, d1, d2⟩ := HC.out _ hoff) | (go_at_call 24; refine (rmay_any _ _ _ _).mono ?_; rintro e w1 ⟨rfl, ho⟩; (first | (replace hoff := hoff.trans ho) | (replace hoff := (hoff.drewN _).trans ho)); clear ho; obtain ⟨d0, d1, d2⟩ := HC.out _ hoff))
  go_wp2
  go_region_held3 (fun w' => w'.cell? ⟨w.heap.size, 0, none⟩ = some (.int .i64 P) ∧ w'.cell? ⟨w.heap.size, 1, none⟩ = some (.int .i64 C) ∧ w'.cell? ⟨w.heap.size, 2, none⟩ = some (.int .i64 M)) (exact ⟨d0, d1, d2⟩)
    (first | (go_at_call 25; refine (size_any _ _).mono ?_; rintro e w' ⟨rfl, rfl⟩) | (go_at_call 26; refine (rsize_any _ _).mono ?_; rintro e w' ⟨rfl, rfl⟩) | (go_at_call 27; refine (slots_any _ _).mono ?_; rintro e w' ⟨rfl, rfl⟩) | (go_at_call 28; refine (rslots_any _ _).mono ?_; rintro e w' ⟨rfl, rfl⟩) | (go_at_call 18; refine (words_any _ _ _ _).mono ?_; rintro e w1 ⟨rfl, ho⟩; (first | (replace hoff := hoff.trans ho) | (replace hoff := (hoff.drewN _).trans ho)); clear ho; obtain ⟨d0, d1, d2⟩ := HC.out _ hoff) | (go_at_call 29; refine (total_any _ _ _ _).mono ?_; rintro e w1 ⟨rfl, ho⟩; (first | (replace hoff := hoff.trans ho) | (replace hoff := (hoff.drewN _).trans ho)); clear ho; obtain ⟨d0, d1, d2⟩ := HC.out _ hoff) | (go_at_call 30; refine (page_any _ _ _ _ _).mono ?_; rintro e w1 ⟨rfl, ho⟩; (first | (replace hoff := hoff.trans ho) | (replace hoff := (hoff.drewN _).trans ho)); clear ho; obtain ⟨d0, d1, d2⟩ := HC.out _ hoff) | (go_at_call 31; refine (rpage_any _ _ _ _ _).mono ?_; rintro e w1 ⟨rfl, ho⟩; (first | (replace hoff := hoff.trans ho) | (replace hoff := (hoff.drewN _).trans ho)); clear ho; obtain ⟨d0, d1, d2⟩ := HC.out _ hoff) | (go_at_call 15; refine (slot_any _ _ _ _ _ _).mono ?_; rintro e w1 ⟨rfl, ho⟩; (first | (replace hoff := hoff.trans ho) | (replace hoff := (hoff.drewN _).trans ho)); clear ho; obtain ⟨d0, d1, d2⟩ := HC.out _ hoff) | (go_at_call 32; refine (rslot_any _ _ _ _ _ _).mono ?_; rintro e w1 ⟨rfl, ho⟩; (first | (replace hoff := hoff.trans ho) | (replace hoff := (hoff.drewN _).trans ho)); clear ho; obtain ⟨d0, d1, d2⟩ := HC.out _ hoff) | (go_at_call 16; refine (mag_any _ _ _ _ _ _).mono ?_; rintro e w1 ⟨rfl, ho⟩; (first | (replace hoff := hoff.trans ho) | (replace hoff := (hoff.drewN _).trans ho)); clear ho; obtain ⟨d0, d1, d2⟩ := HC.out _ hoff) | (go_at_call 33; refine (rmag_any _ _ _ _ _ _).mono ?_; rintro e w1 ⟨rfl, ho⟩; (first | (replace hoff := hoff.trans ho) | (replace hoff := (hoff.drewN _).trans ho)); clear ho; obtain ⟨d0, d1, d2⟩ := HC.out _ hoff) | (go_at_call 34; refine (status_any _ _ _ _ _).mono ?_; rintro e w1 ⟨rfl, ho⟩; (first | (replace hoff := hoff.trans ho) | (replace hoff := (hoff.drewN _).trans ho)); clear ho; obtain ⟨d0, d1, d2⟩ := HC.out _ hoff) | (go_at_call 35; refine (rstatus_any _ _ _ _ _).mono ?_; rintro e w1 ⟨rfl, ho⟩; (first | (replace hoff := hoff.trans ho) | (replace hoff := (hoff.drewN _).trans ho)); clear ho; obtain ⟨d0, d1, d2⟩ := HC.out _ hoff))
  go_wp2
  go_ret
  exact ⟨rfl, (HB.out.trans hoff).nil_below⟩

end Go.Proofs.Ytadnehblklpphaa.Plan
