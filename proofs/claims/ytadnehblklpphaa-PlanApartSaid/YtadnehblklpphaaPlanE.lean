/- Layer 3: the walks of its laws but two. -/
import Derived.Test.YtadnehblklpphaaPlanD
namespace Go.Proofs.Ytadnehblklpphaa.Plan
open Go.RowKit Mem

theorem class33b : classB 33 = false := rfl
theorem run32b : runB 32 = false := rfl
theorem run513b : runB 513 = false := rfl
theorem length33 : lengthI 33 = 64 := by decide
theorem length33b : lengthB 33 = true := rfl
theorem split127 : splitP 2 1 3 127 = 1 := by decide
theorem split127o : splitO 2 1 3 127 = 63 := by decide
theorem split127b : splitB 2 1 3 127 = true := by decide
theorem split128b : splitB 2 1 3 128 = false := by decide
theorem slot20 : slotI 2 1 3 2 0 = -1 := by decide
theorem mag03 : magI 2 1 3 0 3 = -1 := by decide
theorem may000 : mayB 0 0 0 = false := by decide
theorem words65 : wordsI 65 1 0 = 0 := by decide
theorem addr120 : addrI 1 2 0 = 72 := rfl

set_option maxHeartbeats 1000000 in
theorem known_walk (w : World) :
    Calls Try.prog 3 #[] w fun e w' => e = .returned (.bool true) ∧ Below w.heap.size w w' := by
  have a1 := class33b
  have a2 := run32b
  have a3 := run513b
  have a4 := length33
  have a5 := length33b
  have a6 := split127
  have a7 := split127o
  have a8 := split127b
  have a9 := split128b
  have b1 := slot20
  have b2 := mag03
  have b3 := may000
  have b4 := words65
  have b5 := addr120
  have hoff := Off.refl [] w
  go_enter Try.func3, Try.ntmps3
  go_wp2_with (first | (go_at_call 10; refine (awake_any _).mono ?_; rintro e w1 ⟨rfl, ho⟩; replace hoff := hoff.trans ho; clear ho) | (go_at_call 11; refine (class_any _ _).mono ?_; rintro e w' ⟨rfl, rfl⟩) | (go_at_call 12; refine (run_any _ _).mono ?_; rintro e w' ⟨rfl, rfl⟩) | (go_at_call 13; refine (length_any _ _).mono ?_; rintro e w' ⟨rfl, rfl⟩))
  obtain ⟨hb, hb0⟩ := box_new w1 24 #[.int .i64 2, .int .i64 1, .int .i64 3]
  have HC := Lib.hid (shp_keep hb)
  have HB := Lib.hid (hoff.trans hb0)
  clear hoff hb hb0
  have hoff := Off.refl [] (w1.alloc (.cells #[.int .i64 2, .int .i64 1, .int .i64 3] 24))
  go_wp2_with (first | (go_at_call 14; refine (split_any _ _ _ _ _).mono ?_; rintro e w1 ⟨rfl, ho⟩; replace hoff := hoff.trans ho; clear ho; obtain ⟨d0, d1, d2⟩ := HC.out _ hoff) | (go_at_call 15; refine (slot_any _ _ _ _ _ _).mono ?_; rintro e w1 ⟨rfl, ho⟩; replace hoff := hoff.trans ho; clear ho; obtain ⟨d0, d1, d2⟩ := HC.out _ hoff) | (go_at_call 16; refine (mag_any _ _ _ _ _ _).mono ?_; rintro e w1 ⟨rfl, ho⟩; replace hoff := hoff.trans ho; clear ho; obtain ⟨d0, d1, d2⟩ := HC.out _ hoff) | (go_at_call 17; refine (may_any _ _ _ _).mono ?_; rintro e w1 ⟨rfl, ho⟩; replace hoff := hoff.trans ho; clear ho; obtain ⟨d0, d1, d2⟩ := HC.out _ hoff) | (go_at_call 18; refine (words_any _ _ _ _).mono ?_; rintro e w1 ⟨rfl, ho⟩; replace hoff := hoff.trans ho; clear ho; obtain ⟨d0, d1, d2⟩ := HC.out _ hoff) | (go_at_call 19; refine (address_any _ _ _ (by omega) (by omega) (by omega) (by omega) _).mono ?_; rintro e w' ⟨rfl, rfl⟩))
  go_ret
  exact ⟨rfl, (HB.out.trans hoff).nil_below⟩

/-- The four classes, each with its size. -/
theorem size0 : sizeI 0 = 4 := rfl
theorem size1 : sizeI 1 = 8 := rfl
theorem size2 : sizeI 2 = 16 := rfl
theorem size3 : sizeI 3 = 32 := rfl
theorem slots0 : slotsI 0 = 16 := rfl
theorem slots1 : slotsI 1 = 8 := rfl
theorem slots2 : slotsI 2 = 4 := rfl
theorem slots3 : slotsI 3 = 2 := rfl

theorem split_at_ (P C M a p o : Int) (hf : Fit P C M) (hp : 0 ≤ p) (hq : p < P) (ho : 0 ≤ o) (hr : o < 64) (h : Hid (a = p * 64 + o)) (w : World) :
    Calls Try.prog 14 #[.agg #[.int .i64 P, .int .i64 C, .int .i64 M], .int .i64 a] w fun e w' => e = .returned (.tuple #[.int .i64 p, .int .i64 o, .bool true]) ∧ Off [] w w' := by
  have hs := splitB_t hf (a := a) (by rw [h.out]; omega) (by rw [h.out]; omega)
  have h1 : splitP P C M a = p := by unfold splitP; rw [if_pos hs, h.out]; omega
  have h2 : splitO P C M a = o := by unfold splitO; rw [if_pos hs, h.out]; omega
  have := split_any P C M a w
  rwa [h1, h2, hs] at this
theorem split_no (P C M a : Int) (h : ¬ (Fit P C M ∧ 0 ≤ a ∧ a < P * 64)) (w : World) :
    Calls Try.prog 14 #[.agg #[.int .i64 P, .int .i64 C, .int .i64 M], .int .i64 a] w fun e w' => e = .returned (.tuple #[.int .i64 0, .int .i64 0, .bool false]) ∧ Off [] w w' := by
  have hs := splitB_f h
  have h1 : splitP P C M a = 0 := by unfold splitP; rw [hs]; rfl
  have h2 : splitO P C M a = 0 := by unfold splitO; rw [hs]; rfl
  have := split_any P C M a w
  rwa [h1, h2, hs] at this

set_option maxHeartbeats 4000000 in
theorem splits_walk (P C M a : Int) (w : World) (_ : (Lit.int .i64 a).wf = true) :
    Calls Try.prog 8 #[.agg #[.int .i64 P, .int .i64 C, .int .i64 M], .int .i64 a] w fun e w' => e = .returned (.bool true) ∧ Below w.heap.size w w' := by
  rcases fit_cases P C M with hf | hf
  · have hm := mayB_t hf
    by_cases h0 : 0 ≤ a
    · by_cases h1 : a < P * 64
      · obtain ⟨p, o, hp, hq, ho, hr, ha⟩ : ∃ p o : Int, 0 ≤ p ∧ p < P ∧ 0 ≤ o ∧ o < 64 ∧ a = p * 64 + o := ⟨a / 64, a % 64, by omega, by omega, by omega, by omega, by omega⟩
        have HA := Lib.hid ha
        have hs := Lib.hid (fun W => split_at_ P C M a p o hf hp hq ho hr HA W)
        have e0 : (p * 64 + o == a) = true := by rw [ha]; simp
        obtain ⟨p1, p2, c1, c2, m1, m2⟩ := hf
        have q0 : o % 4 = 0 → addrI p (o / 4) 0 = a := fun h => by rw [ha]; unfold addrI; rw [size0]; omega
        have q1 : o % 8 = 0 → addrI p (o / 8) 1 = a := fun h => by rw [ha]; unfold addrI; rw [size1]; omega
        have q2 : o % 16 = 0 → addrI p (o / 16) 2 = a := fun h => by rw [ha]; unfold addrI; rw [size2]; omega
        have q3 : o % 32 = 0 → addrI p (o / 32) 3 = a := fun h => by rw [ha]; unfold addrI; rw [size3]; omega
        have Q0 := Lib.hid q0
        have Q1 := Lib.hid q1
        have Q2 := Lib.hid q2
        have Q3 := Lib.hid q3
        clear ha q0 q1 q2 q3
        obtain ⟨hb, hb0⟩ := box_new w 24 #[.int .i64 P, .int .i64 C, .int .i64 M]
        have HC := Lib.hid (shp_keep hb)
        have HB := Lib.hid hb0
        clear hb hb0
        have hoff := Off.refl [] (w.alloc (.cells #[.int .i64 P, .int .i64 C, .int .i64 M] 24))
        go_enter Try.func8, Try.ntmps8
        go_wp2_with (first | (go_at_call 10; refine (awake_any _).mono ?_; rintro e w1 ⟨rfl, ho⟩; replace hoff := hoff.trans ho; clear ho; obtain ⟨d0, d1, d2⟩ := HC.out _ hoff) | (go_at_call 14; refine (hs.out _).mono ?_; rintro e w1 ⟨rfl, ho⟩; replace hoff := hoff.trans ho; clear ho; obtain ⟨d0, d1, d2⟩ := HC.out _ hoff) | (go_at_call 24; refine (rmay_any _ _ _ _).mono ?_; rintro e w1 ⟨rfl, ho⟩; replace hoff := hoff.trans ho; clear ho; obtain ⟨d0, d1, d2⟩ := HC.out _ hoff))
        go_loop [8] (fun k => ∃ j : Int, 0 ≤ j ∧ j ≤ 4 ∧ k = .int .i64 j) (fun k => (4 - intOf k).toNat)
        case atStart => exact ⟨0, by decide, by decide, rfl⟩
        case round =>
          obtain ⟨j, hj0, hj1, rfl⟩ := hrel
          obtain rfl | rfl | rfl | rfl | rfl : j = 0 ∨ j = 1 ∨ j = 2 ∨ j = 3 ∨ j = 4 := by omega
          · have z := size0
            by_cases hz : o % 4 = 0
            · have y : (addrI p (o / 4) 0 != a) = false := by rw [Q0.out hz]; simp
              go_wp2_with (first | (go_at_call 25; refine (size_any _ _).mono ?_; rintro e w' ⟨rfl, rfl⟩) | (go_at_call 19; refine (address_any _ _ _ (by omega) (by omega) (by omega) (by omega) _).mono ?_; rintro e w' ⟨rfl, rfl⟩))
              go_round
              case rel => exact ⟨1, by decide, by decide, rfl⟩
              case measure => simp [intOf]
            · have y : (o % 4 == 0) = false := by simpa using hz
              go_wp2_with (go_at_call 25; refine (size_any _ _).mono ?_; rintro e w' ⟨rfl, rfl⟩)
              go_round
              case rel => exact ⟨1, by decide, by decide, rfl⟩
              case measure => simp [intOf]
          · have z := size1
            by_cases hz : o % 8 = 0
            · have y : (addrI p (o / 8) 1 != a) = false := by rw [Q1.out hz]; simp
              go_wp2_with (first | (go_at_call 25; refine (size_any _ _).mono ?_; rintro e w' ⟨rfl, rfl⟩) | (go_at_call 19; refine (address_any _ _ _ (by omega) (by omega) (by omega) (by omega) _).mono ?_; rintro e w' ⟨rfl, rfl⟩))
              go_round
              case rel => exact ⟨2, by decide, by decide, rfl⟩
              case measure => simp [intOf]
            · have y : (o % 8 == 0) = false := by simpa using hz
              go_wp2_with (go_at_call 25; refine (size_any _ _).mono ?_; rintro e w' ⟨rfl, rfl⟩)
              go_round
              case rel => exact ⟨2, by decide, by decide, rfl⟩
              case measure => simp [intOf]
          · have z := size2
            by_cases hz : o % 16 = 0
            · have y : (addrI p (o / 16) 2 != a) = false := by rw [Q2.out hz]; simp
              go_wp2_with (first | (go_at_call 25; refine (size_any _ _).mono ?_; rintro e w' ⟨rfl, rfl⟩) | (go_at_call 19; refine (address_any _ _ _ (by omega) (by omega) (by omega) (by omega) _).mono ?_; rintro e w' ⟨rfl, rfl⟩))
              go_round
              case rel => exact ⟨3, by decide, by decide, rfl⟩
              case measure => simp [intOf]
            · have y : (o % 16 == 0) = false := by simpa using hz
              go_wp2_with (go_at_call 25; refine (size_any _ _).mono ?_; rintro e w' ⟨rfl, rfl⟩)
              go_round
              case rel => exact ⟨3, by decide, by decide, rfl⟩
              case measure => simp [intOf]
          · have z := size3
            by_cases hz : o % 32 = 0
            · have y : (addrI p (o / 32) 3 != a) = false := by rw [Q3.out hz]; simp
              go_wp2_with (first | (go_at_call 25; refine (size_any _ _).mono ?_; rintro e w' ⟨rfl, rfl⟩) | (go_at_call 19; refine (address_any _ _ _ (by omega) (by omega) (by omega) (by omega) _).mono ?_; rintro e w' ⟨rfl, rfl⟩))
              go_round
              case rel => exact ⟨4, by decide, by decide, rfl⟩
              case measure => simp [intOf]
            · have y : (o % 32 == 0) = false := by simpa using hz
              go_wp2_with (go_at_call 25; refine (size_any _ _).mono ?_; rintro e w' ⟨rfl, rfl⟩)
              go_round
              case rel => exact ⟨4, by decide, by decide, rfl⟩
              case measure => simp [intOf]
          · go_wp2
            go_ret
            exact ⟨rfl, (HB.out.trans hoff).nil_below⟩
      · have hn : ¬ (Fit P C M ∧ 0 ≤ a ∧ a < P * 64) := fun h => h1 h.2.2
        have y : decide (a < P * 64) = false := decide_eq_false h1
        obtain ⟨p1, p2, c1, c2, m1, m2⟩ := hf
        have hs := Lib.hid (fun W => split_no P C M a hn W)
        clear hn h1
        obtain ⟨hb, hb0⟩ := box_new w 24 #[.int .i64 P, .int .i64 C, .int .i64 M]
        have HC := Lib.hid (shp_keep hb)
        have HB := Lib.hid hb0
        clear hb hb0
        have hoff := Off.refl [] (w.alloc (.cells #[.int .i64 P, .int .i64 C, .int .i64 M] 24))
        go_enter Try.func8, Try.ntmps8
        go_wp2_with (first | (go_at_call 10; refine (awake_any _).mono ?_; rintro e w1 ⟨rfl, ho⟩; replace hoff := hoff.trans ho; clear ho; obtain ⟨d0, d1, d2⟩ := HC.out _ hoff) | (go_at_call 14; refine (hs.out _).mono ?_; rintro e w1 ⟨rfl, ho⟩; replace hoff := hoff.trans ho; clear ho; obtain ⟨d0, d1, d2⟩ := HC.out _ hoff) | (go_at_call 24; refine (rmay_any _ _ _ _).mono ?_; rintro e w1 ⟨rfl, ho⟩; replace hoff := hoff.trans ho; clear ho; obtain ⟨d0, d1, d2⟩ := HC.out _ hoff))
        go_ret
        exact ⟨rfl, (HB.out.trans hoff).nil_below⟩
    · have hn : ¬ (Fit P C M ∧ 0 ≤ a ∧ a < P * 64) := fun h => h0 h.2.1
      have y : decide (0 ≤ a) = false := decide_eq_false h0
      have hs := Lib.hid (fun W => split_no P C M a hn W)
      clear hn h0 hf
      obtain ⟨hb, hb0⟩ := box_new w 24 #[.int .i64 P, .int .i64 C, .int .i64 M]
      have HC := Lib.hid (shp_keep hb)
      have HB := Lib.hid hb0
      clear hb hb0
      have hoff := Off.refl [] (w.alloc (.cells #[.int .i64 P, .int .i64 C, .int .i64 M] 24))
      go_enter Try.func8, Try.ntmps8
      go_wp2_with (first | (go_at_call 10; refine (awake_any _).mono ?_; rintro e w1 ⟨rfl, ho⟩; replace hoff := hoff.trans ho; clear ho; obtain ⟨d0, d1, d2⟩ := HC.out _ hoff) | (go_at_call 14; refine (hs.out _).mono ?_; rintro e w1 ⟨rfl, ho⟩; replace hoff := hoff.trans ho; clear ho; obtain ⟨d0, d1, d2⟩ := HC.out _ hoff) | (go_at_call 24; refine (rmay_any _ _ _ _).mono ?_; rintro e w1 ⟨rfl, ho⟩; replace hoff := hoff.trans ho; clear ho; obtain ⟨d0, d1, d2⟩ := HC.out _ hoff))
      go_ret
      exact ⟨rfl, (HB.out.trans hoff).nil_below⟩
  · have hm := mayB_f hf
    have hn : ¬ (Fit P C M ∧ 0 ≤ a ∧ a < P * 64) := fun h => hf h.1
    have hs := Lib.hid (fun W => split_no P C M a hn W)
    clear hn hf
    obtain ⟨hb, hb0⟩ := box_new w 24 #[.int .i64 P, .int .i64 C, .int .i64 M]
    have HC := Lib.hid (shp_keep hb)
    have HB := Lib.hid hb0
    clear hb hb0
    have hoff := Off.refl [] (w.alloc (.cells #[.int .i64 P, .int .i64 C, .int .i64 M] 24))
    go_enter Try.func8, Try.ntmps8
    go_wp2_with (first | (go_at_call 10; refine (awake_any _).mono ?_; rintro e w1 ⟨rfl, ho⟩; replace hoff := hoff.trans ho; clear ho; obtain ⟨d0, d1, d2⟩ := HC.out _ hoff) | (go_at_call 14; refine (hs.out _).mono ?_; rintro e w1 ⟨rfl, ho⟩; replace hoff := hoff.trans ho; clear ho; obtain ⟨d0, d1, d2⟩ := HC.out _ hoff) | (go_at_call 24; refine (rmay_any _ _ _ _).mono ?_; rintro e w1 ⟨rfl, ho⟩; replace hoff := hoff.trans ho; clear ho; obtain ⟨d0, d1, d2⟩ := HC.out _ hoff))
    go_ret
    exact ⟨rfl, (HB.out.trans hoff).nil_below⟩

set_option maxHeartbeats 4000000 in
theorem classes_walk (n g f : Int) (w : World) (_ : (Lit.int .i64 n).wf = true) (hg : (Lit.int .u8 g).wf = true) (hf : (Lit.int .u8 f).wf = true) :
    Calls Try.prog 6 #[.int .i64 n, .int .u8 g, .int .u8 f] w fun e w' => e = .returned (.bool true) ∧ Below w.heap.size w w' := by
  have hmin : IntKind.u8.min = 0 := rfl
  have hmax : IntKind.u8.max = 255 := rfl
  simp only [Lit.wf, Bool.and_eq_true, decide_eq_true_eq] at hg hf
  rw [hmin, hmax] at hg hf
  obtain ⟨g0, g1⟩ := hg
  obtain ⟨f0, f1⟩ := hf
  clear hmin hmax
  have A0 := Lib.hid (show addrI (g % 64) (f % 64 / 4) 0 = g % 64 * 64 + f % 64 / 4 * 4 from by unfold addrI; rw [size0])
  have A1 := Lib.hid (show addrI (g % 64) (f % 64 / 8) 1 = g % 64 * 64 + f % 64 / 8 * 8 from by unfold addrI; rw [size1])
  have A2 := Lib.hid (show addrI (g % 64) (f % 64 / 16) 2 = g % 64 * 64 + f % 64 / 16 * 16 from by unfold addrI; rw [size2])
  have A3 := Lib.hid (show addrI (g % 64) (f % 64 / 32) 3 = g % 64 * 64 + f % 64 / 32 * 32 from by unfold addrI; rw [size3])
  have hoff := Off.refl [] w
  go_enter Try.func6, Try.ntmps6
  go_wp2_with (go_at_call 10; refine (awake_any _).mono ?_; rintro e w1 ⟨rfl, ho⟩; replace hoff := hoff.trans ho; clear ho)
  go_loop [7] (fun k => ∃ j : Int, 0 ≤ j ∧ j ≤ 4 ∧ k = .int .i64 j) (fun k => (4 - intOf k).toNat)
  case atStart => exact ⟨0, by decide, by decide, rfl⟩
  case round =>
    obtain ⟨j, hj0, hj1, rfl⟩ := hrel
    obtain rfl | rfl | rfl | rfl | rfl : j = 0 ∨ j = 1 ∨ j = 2 ∨ j = 3 ∨ j = 4 := by omega
    · have z := size0
      have z' := slots0
      have y0 : 0 ≤ addrI (g % 64) (f % 64 / 4) 0 := by rw [A0.out]; omega
      have y1 : addrI (g % 64) (f % 64 / 4) 0 ≤ 4096 := by rw [A0.out]; omega
      have y2 : (addrI (g % 64) (f % 64 / 4) 0 / 64 != g % 64) = false := by rw [A0.out]; simp; omega
      have y3 : (addrI (g % 64) (f % 64 / 4) 0 % 4 != 0) = false := by rw [A0.out]; simp; omega
      have y4 : decide (g % 64 * 64 + f % 64 < addrI (g % 64) (f % 64 / 4) 0) = false := by rw [A0.out]; simp; omega
      go_wp2_with (first | (go_at_call 25; refine (size_any _ _).mono ?_; rintro e w' ⟨rfl, rfl⟩) | (go_at_call 27; refine (slots_any _ _).mono ?_; rintro e w' ⟨rfl, rfl⟩) | (go_at_call 19; refine (address_any _ _ _ (by omega) (by omega) (by omega) (by omega) _).mono ?_; rintro e w' ⟨rfl, rfl⟩))
      go_round
      case rel => exact ⟨1, by decide, by decide, rfl⟩
      case measure => simp [intOf]
    · have z := size1
      have z' := slots1
      have y0 : 0 ≤ addrI (g % 64) (f % 64 / 8) 1 := by rw [A1.out]; omega
      have y1 : addrI (g % 64) (f % 64 / 8) 1 ≤ 4096 := by rw [A1.out]; omega
      have y2 : (addrI (g % 64) (f % 64 / 8) 1 / 64 != g % 64) = false := by rw [A1.out]; simp; omega
      have y3 : (addrI (g % 64) (f % 64 / 8) 1 % 8 != 0) = false := by rw [A1.out]; simp; omega
      have y4 : decide (g % 64 * 64 + f % 64 < addrI (g % 64) (f % 64 / 8) 1) = false := by rw [A1.out]; simp; omega
      go_wp2_with (first | (go_at_call 25; refine (size_any _ _).mono ?_; rintro e w' ⟨rfl, rfl⟩) | (go_at_call 27; refine (slots_any _ _).mono ?_; rintro e w' ⟨rfl, rfl⟩) | (go_at_call 19; refine (address_any _ _ _ (by omega) (by omega) (by omega) (by omega) _).mono ?_; rintro e w' ⟨rfl, rfl⟩))
      go_round
      case rel => exact ⟨2, by decide, by decide, rfl⟩
      case measure => simp [intOf]
    · have z := size2
      have z' := slots2
      have y0 : 0 ≤ addrI (g % 64) (f % 64 / 16) 2 := by rw [A2.out]; omega
      have y1 : addrI (g % 64) (f % 64 / 16) 2 ≤ 4096 := by rw [A2.out]; omega
      have y2 : (addrI (g % 64) (f % 64 / 16) 2 / 64 != g % 64) = false := by rw [A2.out]; simp; omega
      have y3 : (addrI (g % 64) (f % 64 / 16) 2 % 16 != 0) = false := by rw [A2.out]; simp; omega
      have y4 : decide (g % 64 * 64 + f % 64 < addrI (g % 64) (f % 64 / 16) 2) = false := by rw [A2.out]; simp; omega
      go_wp2_with (first | (go_at_call 25; refine (size_any _ _).mono ?_; rintro e w' ⟨rfl, rfl⟩) | (go_at_call 27; refine (slots_any _ _).mono ?_; rintro e w' ⟨rfl, rfl⟩) | (go_at_call 19; refine (address_any _ _ _ (by omega) (by omega) (by omega) (by omega) _).mono ?_; rintro e w' ⟨rfl, rfl⟩))
      go_round
      case rel => exact ⟨3, by decide, by decide, rfl⟩
      case measure => simp [intOf]
    · have z := size3
      have z' := slots3
      have y0 : 0 ≤ addrI (g % 64) (f % 64 / 32) 3 := by rw [A3.out]; omega
      have y1 : addrI (g % 64) (f % 64 / 32) 3 ≤ 4096 := by rw [A3.out]; omega
      have y2 : (addrI (g % 64) (f % 64 / 32) 3 / 64 != g % 64) = false := by rw [A3.out]; simp; omega
      have y3 : (addrI (g % 64) (f % 64 / 32) 3 % 32 != 0) = false := by rw [A3.out]; simp; omega
      have y4 : decide (g % 64 * 64 + f % 64 < addrI (g % 64) (f % 64 / 32) 3) = false := by rw [A3.out]; simp; omega
      go_wp2_with (first | (go_at_call 25; refine (size_any _ _).mono ?_; rintro e w' ⟨rfl, rfl⟩) | (go_at_call 27; refine (slots_any _ _).mono ?_; rintro e w' ⟨rfl, rfl⟩) | (go_at_call 19; refine (address_any _ _ _ (by omega) (by omega) (by omega) (by omega) _).mono ?_; rintro e w' ⟨rfl, rfl⟩))
      go_round
      case rel => exact ⟨4, by decide, by decide, rfl⟩
      case measure => simp [intOf]
    · by_cases h1 : 1 ≤ n ∧ n ≤ 512
      · obtain ⟨h1, h2⟩ := h1
        have hb : lengthB n = true := fromB_t h1 h2
        have hl := length_in h1 h2
        have x0 : decide (n ≤ lengthI n) = true := decide_eq_true (by rw [hl]; omega)
        have x1 : 0 ≤ lengthI n := by rw [hl]; omega
        have x2 : lengthI n ≤ 512 := by rw [hl]; omega
        by_cases h3 : lengthI n < 2 * n
        · clear hl
          go_wp2_with (go_at_call 13; refine (length_any _ _).mono ?_; rintro e w' ⟨rfl, rfl⟩)
          go_ret
          exact ⟨rfl, hoff.nil_below⟩
        · have x3 : decide (lengthI n < 2 * n) = false := decide_eq_false h3
          by_cases h4 : lengthI n = 4
          · clear hl
            go_wp2_with (go_at_call 13; refine (length_any _ _).mono ?_; rintro e w' ⟨rfl, rfl⟩)
            go_ret
            exact ⟨rfl, hoff.nil_below⟩
          · have x4 : (lengthI n == 4) = false := by simpa using h4
            have x5 : lengthI n < n + 64 := by rw [hl]; omega
            clear hl h3 h4
            go_wp2_with (go_at_call 13; refine (length_any _ _).mono ?_; rintro e w' ⟨rfl, rfl⟩)
            go_ret
            exact ⟨rfl, hoff.nil_below⟩
      · have hb : lengthB n = false := fromB_f (by omega)
        by_cases h0 : 1 ≤ n
        · have x0 : decide (n ≤ 512) = false := by simp; omega
          clear h1
          go_wp2_with (go_at_call 13; refine (length_any _ _).mono ?_; rintro e w' ⟨rfl, rfl⟩)
          go_ret
          exact ⟨rfl, hoff.nil_below⟩
        · have x0 : decide (1 ≤ n) = false := by simp; omega
          clear h1 h0
          go_wp2_with (go_at_call 13; refine (length_any _ _).mono ?_; rintro e w' ⟨rfl, rfl⟩)
          go_ret
          exact ⟨rfl, hoff.nil_below⟩

/-- What is drawn of lengths. -/
theorem u16_bd {a : Int} (h : (Lit.int .u16 a).wf = true) : 0 ≤ a ∧ a ≤ 65535 := by
  have hmin : IntKind.u16.min = 0 := rfl
  have hmax : IntKind.u16.max = 65535 := rfl
  simp only [Lit.wf, Bool.and_eq_true, decide_eq_true_eq] at h
  omega

set_option maxHeartbeats 4000000 in
theorem fits_walk (a b : Int) (w : World) (ha : (Lit.int .u16 a).wf = true) (hb : (Lit.int .u16 b).wf = true) :
    Calls Try.prog 7 #[.int .u16 a, .int .u16 b] w fun e w' => e = .returned (.bool true) ∧ Below w.heap.size w w' := by
  obtain ⟨a0, a1⟩ := u16_bd ha
  obtain ⟨b0, b1⟩ := u16_bd hb
  clear ha hb
  have hoff := Off.refl [] w
  have n0 : 0 ≤ a % 600 := by omega
  have n1 : a % 600 < 600 := by omega
  have m0 : 0 ≤ b % 600 := by omega
  have m1 : b % 600 < 600 := by omega
  go_enter Try.func7, Try.ntmps7
  go_wp2_with (go_at_call 10; refine (awake_any _).mono ?_; rintro e w1 ⟨rfl, ho⟩; replace hoff := hoff.trans ho; clear ho)
  clear a0 a1 b0 b1
  generalize a % 600 = n at *
  generalize b % 600 = m at *
  have rb := runI_bd n
  have rb0 := rb.1
  have rb1 := rb.2
  have cb := classI_bd n
  have cb0 := cb.1
  have cb1 := cb.2
  clear rb cb
  have hlast : (lengthB n = true ∧ lengthB m = true ∧ n ≤ m → lengthI n ≤ lengthI m) := fun h => by
    have h1 := fromB_iff.1 h.1
    have h2 := fromB_iff.1 h.2.1
    exact length_mono h1.1 h.2.2 h2.2
  have HL := Lib.hid hlast
  clear hlast
  by_cases h1 : 1 ≤ n ∧ n ≤ 32
  · have x1 : classB n = true := fromB_t h1.1 h1.2
    have x2 : runB n = false := fromB_f (by omega)
    have x3 : lengthB n = true := fromB_t h1.1 (by omega)
    have x4 : decide (sizeI (classI n) < n) = false := decide_eq_false (by have := class_size h1.1 h1.2; omega)
    have x5 : 0 < classI n → decide (n ≤ sizeI (classI n - 1)) = false := fun h => decide_eq_false (by have := class_least h1.1 h1.2 (show classI n - 1 < classI n by omega); omega)
    have X5 := Lib.hid x5
    clear x5 h1
    by_cases h2 : 0 < classI n
    · have x5 := X5.out h2
      cases x6 : lengthB m
      · go_wp2_with (first | (go_at_call 11; refine (class_any _ _).mono ?_; rintro e w' ⟨rfl, rfl⟩) | (go_at_call 12; refine (run_any _ _).mono ?_; rintro e w' ⟨rfl, rfl⟩) | (go_at_call 13; refine (length_any _ _).mono ?_; rintro e w' ⟨rfl, rfl⟩) | (go_at_call 25; refine (size_any _ _).mono ?_; rintro e w' ⟨rfl, rfl⟩))
        go_ret
        exact ⟨rfl, hoff.nil_below⟩
      · by_cases h3 : n ≤ m
        · have x7 := HL.out ⟨x3, x6, h3⟩
          go_wp2_with (first | (go_at_call 11; refine (class_any _ _).mono ?_; rintro e w' ⟨rfl, rfl⟩) | (go_at_call 12; refine (run_any _ _).mono ?_; rintro e w' ⟨rfl, rfl⟩) | (go_at_call 13; refine (length_any _ _).mono ?_; rintro e w' ⟨rfl, rfl⟩) | (go_at_call 25; refine (size_any _ _).mono ?_; rintro e w' ⟨rfl, rfl⟩))
          go_ret
          exact ⟨rfl, hoff.nil_below⟩
        · have x7 : decide (m < n) = true := decide_eq_true (by omega)
          go_wp2_with (first | (go_at_call 11; refine (class_any _ _).mono ?_; rintro e w' ⟨rfl, rfl⟩) | (go_at_call 12; refine (run_any _ _).mono ?_; rintro e w' ⟨rfl, rfl⟩) | (go_at_call 13; refine (length_any _ _).mono ?_; rintro e w' ⟨rfl, rfl⟩) | (go_at_call 25; refine (size_any _ _).mono ?_; rintro e w' ⟨rfl, rfl⟩))
          go_ret
          exact ⟨rfl, hoff.nil_below⟩
    · have x5 : decide (0 < classI n) = false := decide_eq_false h2
      clear h2
      cases x6 : lengthB m
      · go_wp2_with (first | (go_at_call 11; refine (class_any _ _).mono ?_; rintro e w' ⟨rfl, rfl⟩) | (go_at_call 12; refine (run_any _ _).mono ?_; rintro e w' ⟨rfl, rfl⟩) | (go_at_call 13; refine (length_any _ _).mono ?_; rintro e w' ⟨rfl, rfl⟩) | (go_at_call 25; refine (size_any _ _).mono ?_; rintro e w' ⟨rfl, rfl⟩))
        go_ret
        exact ⟨rfl, hoff.nil_below⟩
      · by_cases h3 : n ≤ m
        · have x7 := HL.out ⟨x3, x6, h3⟩
          go_wp2_with (first | (go_at_call 11; refine (class_any _ _).mono ?_; rintro e w' ⟨rfl, rfl⟩) | (go_at_call 12; refine (run_any _ _).mono ?_; rintro e w' ⟨rfl, rfl⟩) | (go_at_call 13; refine (length_any _ _).mono ?_; rintro e w' ⟨rfl, rfl⟩) | (go_at_call 25; refine (size_any _ _).mono ?_; rintro e w' ⟨rfl, rfl⟩))
          go_ret
          exact ⟨rfl, hoff.nil_below⟩
        · have x7 : decide (m < n) = true := decide_eq_true (by omega)
          go_wp2_with (first | (go_at_call 11; refine (class_any _ _).mono ?_; rintro e w' ⟨rfl, rfl⟩) | (go_at_call 12; refine (run_any _ _).mono ?_; rintro e w' ⟨rfl, rfl⟩) | (go_at_call 13; refine (length_any _ _).mono ?_; rintro e w' ⟨rfl, rfl⟩) | (go_at_call 25; refine (size_any _ _).mono ?_; rintro e w' ⟨rfl, rfl⟩))
          go_ret
          exact ⟨rfl, hoff.nil_below⟩
  · have x1 : classB n = false := fromB_f (by omega)
    by_cases h2 : 33 ≤ n ∧ n ≤ 512
    · have x2 : runB n = true := fromB_t h2.1 h2.2
      have x3 : lengthB n = true := fromB_t (by omega) h2.2
      have hr := runI_in h2.1 h2.2
      have x4 : decide (runI n * 64 < n) = false := decide_eq_false (by rw [hr]; omega)
      have x5 : decide (n ≤ (runI n - 1) * 64) = false := decide_eq_false (by rw [hr]; omega)
      clear h1 h2 hr
      cases x6 : lengthB m
      · go_wp2_with (first | (go_at_call 11; refine (class_any _ _).mono ?_; rintro e w' ⟨rfl, rfl⟩) | (go_at_call 12; refine (run_any _ _).mono ?_; rintro e w' ⟨rfl, rfl⟩) | (go_at_call 13; refine (length_any _ _).mono ?_; rintro e w' ⟨rfl, rfl⟩) | (go_at_call 25; refine (size_any _ _).mono ?_; rintro e w' ⟨rfl, rfl⟩))
        go_ret
        exact ⟨rfl, hoff.nil_below⟩
      · by_cases h3 : n ≤ m
        · have x7 := HL.out ⟨x3, x6, h3⟩
          go_wp2_with (first | (go_at_call 11; refine (class_any _ _).mono ?_; rintro e w' ⟨rfl, rfl⟩) | (go_at_call 12; refine (run_any _ _).mono ?_; rintro e w' ⟨rfl, rfl⟩) | (go_at_call 13; refine (length_any _ _).mono ?_; rintro e w' ⟨rfl, rfl⟩) | (go_at_call 25; refine (size_any _ _).mono ?_; rintro e w' ⟨rfl, rfl⟩))
          go_ret
          exact ⟨rfl, hoff.nil_below⟩
        · have x7 : decide (m < n) = true := decide_eq_true (by omega)
          go_wp2_with (first | (go_at_call 11; refine (class_any _ _).mono ?_; rintro e w' ⟨rfl, rfl⟩) | (go_at_call 12; refine (run_any _ _).mono ?_; rintro e w' ⟨rfl, rfl⟩) | (go_at_call 13; refine (length_any _ _).mono ?_; rintro e w' ⟨rfl, rfl⟩) | (go_at_call 25; refine (size_any _ _).mono ?_; rintro e w' ⟨rfl, rfl⟩))
          go_ret
          exact ⟨rfl, hoff.nil_below⟩
    · have x2 : runB n = false := fromB_f (by omega)
      have x3 : lengthB n = false := fromB_f (by omega)
      clear h1 h2
      go_wp2_with (first | (go_at_call 11; refine (class_any _ _).mono ?_; rintro e w' ⟨rfl, rfl⟩) | (go_at_call 12; refine (run_any _ _).mono ?_; rintro e w' ⟨rfl, rfl⟩) | (go_at_call 13; refine (length_any _ _).mono ?_; rintro e w' ⟨rfl, rfl⟩) | (go_at_call 25; refine (size_any _ _).mono ?_; rintro e w' ⟨rfl, rfl⟩))
      go_ret
      exact ⟨rfl, hoff.nil_below⟩

end Go.Proofs.Ytadnehblklpphaa.Plan
