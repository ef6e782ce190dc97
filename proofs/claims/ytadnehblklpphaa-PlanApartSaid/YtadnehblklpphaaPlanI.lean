/- PlanApart: the walk. -/
import Derived.Test.YtadnehblklpphaaPlanH
import Derived.Deep.DeepCutAuto
namespace Go.Proofs.Ytadnehblklpphaa.Plan
open Go.RowKit Mem

def R1 (w : World) (g p c m : Nat) (v k : Value) (wr : World) : Prop :=
  ∃ j t : Nat, j ≤ c ∧ k = .int .i64 j ∧ v = .int .i64 t ∧ Counted w g w.heap.size p c m j (c + p) (magN p c m j 0) t wr
def R2 (w : World) (g p c m j : Nat) (v k : Value) (wr : World) : Prop :=
  ∃ i t : Nat, i ≤ m ∧ k = .int .i64 i ∧ v = .int .i64 t ∧ Counted w g w.heap.size p c m (j + 1) (c + p) (magN p c m j i) t wr
def R3 (w : World) (g p c m : Nat) (v k : Value) (wr : World) : Prop :=
  ∃ j t : Nat, j ≤ p ∧ k = .int .i64 j ∧ v = .int .i64 t ∧ Counted w g w.heap.size p c m (slotN 0 c 0 j) (slotN p c j 0) (allN p c m) t wr
def R4 (w : World) (g p c m j : Nat) (v k : Value) (wr : World) : Prop :=
  ∃ i t : Nat, i ≤ 16 ∧ k = .int .i64 i ∧ v = .int .i64 t ∧ Counted w g w.heap.size p c m (slotN 0 c 0 j + 1) (slotN p c j i) (allN p c m) t wr

theorem Counted.start {w w3 : World} {p c m : Nat} (ho : Off [] w w3) (hb : Blk w3 w.heap.size 24 #[.int .i64 (p : Int), .int .i64 (c : Int), .int .i64 (m : Int)]) (hn : allN p c m ≤ 2000) :
    Counted w w3.heap.size w.heap.size p c m 0 (c + p) (magN p c m 0 0) 0 (w3.alloc (.cells (rowOf (allN p c m) fun _ => 0) 3)) := by
  refine ⟨(Blk.new _ _ _).to (rowOf_congr fun j => ?_), hb.alloc _, ho.alloc _, ho.size, by unfold magN; omega, by omega, by omega, by omega, by unfold magN; omega, by unfold magN allN; omega, hn⟩
  unfold seenAt magN; rw [if_neg (by omega)]

section
variable {w wr : World} {g p c m j i t : Nat}
theorem page_lt (h : j < p) : slotN 0 c 0 j < c + p := by unfold slotN; omega
theorem slot_lt (h : j < p) (hi : i < 16) : slotN p c j i < c + p + 16 * p := by unfold slotN; omega
theorem slotN_next : slotN p c j 16 = slotN p c (j + 1) 0 := by unfold slotN; omega
theorem third_start (h : Counted w g w.heap.size p c m c (c + p) (magN p c m c 0) t wr) : Counted w g w.heap.size p c m (slotN 0 c 0 0) (slotN p c 0 0) (allN p c m) t wr := by
  rw [show slotN 0 c 0 0 = c from by unfold slotN; omega, show slotN p c 0 0 = c + p from by unfold slotN; omega]; exact h
theorem fourth_end (h : Counted w g w.heap.size p c m (slotN 0 c 0 p) (slotN p c p 0) (allN p c m) t wr) : t = allN p c m ∧ ∀ i, i < allN p c m → wr.cell? ⟨g, i, none⟩ = some (.int .i64 1) := by
  rw [show slotN 0 c 0 p = c + p from by unfold slotN; omega, show slotN p c p 0 = c + p + 16 * p from by unfold slotN; omega] at h; exact h.all
end

set_option maxHeartbeats 8000000 in
set_option maxRecDepth 100000 in
theorem apart_in (p c m n : Nat) (hf : Fit p c m) (hn : Hid (n = allN p c m)) (h1 : 1 ≤ n) (h2 : n ≤ 2000) (w : World) :
    Calls Try.prog 5 #[.agg #[.int .i64 (p : Int), .int .i64 (c : Int), .int .i64 (m : Int)]] w fun e w' => e = .returned (.bool true) ∧ Below w.heap.size w w' := by
  obtain ⟨hb, hb0⟩ := box_new w 24 #[.int .i64 (p : Int), .int .i64 (c : Int), .int .i64 (m : Int)]
  have HC := Lib.hid (shp_keep hb)
  have HG := Lib.hid hb
  have HB := Lib.hid hb0
  have hoff := Off.refl [] (w.alloc (.cells #[.int .i64 (p : Int), .int .i64 (c : Int), .int .i64 (m : Int)] 24))
  clear hb hb0
  have hm := mayB_t hf
  have HF := Lib.hid hf
  have HW := Lib.hid (fun W => words_in hf W)
  rw [← hn.out] at HW
  have hmk := make_ints n h2
  have x1 : 1 ≤ (n : Int) := by omega
  have x2 : (n : Int) ≤ 2000 := by omega
  have b1 : p ≤ 64 := by have := hf.p2; omega
  have b2 : c ≤ 12 := by have := hf.c2; omega
  have b3 : m ≤ 8 := by have := hf.m2; omega
  clear hf
  go_enter Try.func5, Try.ntmps5
  go_wp2_with (first | (go_at_call 10; refine (awake_any _).mono ?_; rintro e w1 ⟨rfl, ho⟩; replace hoff := hoff.trans ho; clear ho; obtain ⟨d0, d1, d2⟩ := HC.out _ hoff) | (go_at_call 24; refine (rmay_any _ _ _ _).mono ?_; rintro e w2 ⟨rfl, ho⟩; replace hoff := hoff.trans ho; clear ho; obtain ⟨d0, d1, d2⟩ := HC.out _ hoff) | (go_at_call 18; refine (HW.out _).mono ?_; rintro e w3 ⟨rfl, ho⟩; replace hoff := hoff.trans ho; clear ho; obtain ⟨d0, d1, d2⟩ := HC.out _ hoff))
  have hs := Counted.start (p := p) (c := c) (m := m) (HB.out.trans hoff) (hoff.blk HG.out (by simp)) (by rw [← hn.out]; exact h2)
  rw [← hn.out] at hs
  clear d0 d1 d2 hmk hm
  generalize w3.heap.size = g at *
  generalize w3.alloc (.cells (rowOf n fun _ => 0) 3) = w4 at *
  go_loopw [5, 6] (fun v k wr => R1 w g p c m v k wr) (fun _ k _ => c - (intOf k).toNat)
  case atStart => exact ⟨0, 0, Nat.zero_le _, rfl, rfl, hs⟩
  case round =>
    obtain ⟨j, t, hj, rfl, rfl, hs⟩ := hrel
    obtain ⟨d0, d1, d2⟩ := hs.cells
    have ht := hs.t_le
    by_cases hlt : j < c
    · have y1 : (j : Int) < (c : Int) := by omega
      go_wp2_with (first | (go_at_call 34; refine (status_in HF.out j hlt _).mono ?_; rintro e w5 ⟨rfl, ho⟩; replace hs := hs.off0 ho; clear ho d0 d1 d2) | (go_at_call 36; refine (count_a hs n hn.out j rfl (by omega)).mono ?_; rintro e w6 ⟨rfl, hs2⟩; obtain ⟨d0, d1, d2⟩ := hs2.cells))
      go_loopw [5, 7] (fun v k wr => R2 w g p c m j v k wr) (fun _ k _ => m - (intOf k).toNat)
      case atStart => exact ⟨0, t + 1, Nat.zero_le _, rfl, by go_num, hs2⟩
      case round =>
        clear d0 d1 d2 hs hs2
        obtain ⟨i, t2, hi, rfl, rfl, hs⟩ := hrel
        obtain ⟨d0, d1, d2⟩ := hs.cells
        have ht := hs.t_le
        by_cases hli : i < m
        · have y2 : (i : Int) < (m : Int) := by omega
          go_wp2_with (first | (go_at_call 16; refine (mag_in HF.out j i hlt hli _).mono ?_; rintro e w5 ⟨rfl, ho⟩; replace hs := hs.off0 ho; clear ho d0 d1 d2) | (go_at_call 36; refine (count_d hs n hn.out _ rfl (magN_lt hlt hli)).mono ?_; rintro e w6 ⟨rfl, hs2⟩; obtain ⟨d0, d1, d2⟩ := hs2.cells))
          go_roundw
          case rel => exact ⟨i + 1, t2 + 1, by omega, by go_num, by go_num, hs2⟩
          case measure => simp [intOf]; omega
        · obtain rfl : m = i := by omega
          go_wp2
          go_roundw
          case rel => exact ⟨j + 1, t2, by omega, by go_num, rfl, by rw [← magN_next]; exact hs⟩
          case measure => simp [intOf]; omega
    · obtain rfl : c = j := by omega
      go_wp2
      go_loopw [5, 8] (fun v k wr => R3 w g p c m v k wr) (fun _ k _ => p - (intOf k).toNat)
      case atStart => exact ⟨0, t, Nat.zero_le _, rfl, rfl, third_start hs⟩
      case round =>
        clear d0 d1 d2 hs
        obtain ⟨j, t3, hj, rfl, rfl, hs⟩ := hrel
        obtain ⟨d0, d1, d2⟩ := hs.cells
        have ht := hs.t_le
        by_cases hlt : j < p
        · have y1 : (j : Int) < (p : Int) := by omega
          go_wp2_with (first | (go_at_call 30; refine (page_in HF.out j hlt _).mono ?_; rintro e w5 ⟨rfl, ho⟩; replace hs := hs.off0 ho; clear ho d0 d1 d2) | (go_at_call 36; refine (count_a hs n hn.out _ rfl (page_lt hlt)).mono ?_; rintro e w6 ⟨rfl, hs2⟩; obtain ⟨d0, d1, d2⟩ := hs2.cells))
          go_loopw [5, 9] (fun v k wr => R4 w g p c m j v k wr) (fun _ k _ => 16 - (intOf k).toNat)
          case atStart => exact ⟨0, t3 + 1, Nat.zero_le _, rfl, by go_num, hs2⟩
          case round =>
            clear d0 d1 d2 hs hs2
            obtain ⟨i, t4, hi, rfl, rfl, hs⟩ := hrel
            obtain ⟨d0, d1, d2⟩ := hs.cells
            have ht := hs.t_le
            by_cases hli : i < 16
            · have y2 : (i : Int) < 16 := by omega
              go_wp2_with (first | (go_at_call 15; refine (slot_in HF.out j i hlt hli _).mono ?_; rintro e w5 ⟨rfl, ho⟩; replace hs := hs.off0 ho; clear ho d0 d1 d2) | (go_at_call 36; refine (count_b hs n hn.out _ rfl (slot_lt hlt hli)).mono ?_; rintro e w6 ⟨rfl, hs2⟩; obtain ⟨d0, d1, d2⟩ := hs2.cells))
              go_roundw
              case rel => exact ⟨i + 1, t4 + 1, by omega, by go_num, by go_num, hs2⟩
              case measure => simp [intOf]; omega
            · obtain rfl : i = 16 := by omega
              go_wp2
              go_roundw
              case rel => exact ⟨j + 1, t4, by omega, by go_num, rfl, by rw [← slotN_next]; exact hs⟩
              case measure => simp [intOf]; omega
        · obtain rfl : p = j := by omega
          go_wp2
          obtain ⟨ht2, hall⟩ := fourth_end hs
          rw [← hn.out] at ht2 hall
          have HA := Lib.hid hall
          have HO := Lib.hid hs.off
          clear hall hs d0 d1 d2
          subst ht2
          go_loop [10] (fun k => ∃ i : Nat, i ≤ t3 ∧ k = .int .i64 i) (fun k => t3 - (intOf k).toNat)
          case atStart => exact ⟨0, Nat.zero_le _, rfl⟩
          case round =>
            obtain ⟨i, hi, rfl⟩ := hrel
            by_cases hli : i < t3
            · have y2 : (i : Int) < (t3 : Int) := by omega
              have y3 := HA.out i hli
              go_wp2
              go_round
              case rel => exact ⟨i + 1, by omega, by go_num⟩
              case measure => simp [intOf]; omega
            · obtain rfl : t3 = i := by omega
              go_wp2
              go_ret
              exact ⟨by simp, HO.out.nil_below⟩

theorem apart_walk (P C M : Int) (w : World) :
    Calls Try.prog 5 #[.agg #[.int .i64 P, .int .i64 C, .int .i64 M]] w fun e w' => e = .returned (.bool true) ∧ Below w.heap.size w w' := by
  rcases fit_cases P C M with hf | hf
  · obtain ⟨p, rfl⟩ := Int.eq_ofNat_of_zero_le (Int.le_trans (by decide) hf.p1)
    obtain ⟨c, rfl⟩ := Int.eq_ofNat_of_zero_le (Int.le_trans (by decide) hf.c1)
    obtain ⟨m, rfl⟩ := Int.eq_ofNat_of_zero_le hf.m1
    exact apart_in p c m _ hf (Lib.hid rfl) (all_bd hf).1 (all_bd hf).2 w
  · have hm := mayB_f hf
    have hw : wordsI P C M = 0 := by unfold wordsI; rw [hm]; rfl
    obtain ⟨hb, hb0⟩ := box_new w 24 #[.int .i64 P, .int .i64 C, .int .i64 M]
    have HC := Lib.hid (shp_keep hb)
    have HB := Lib.hid hb0
    have hoff := Off.refl [] (w.alloc (.cells #[.int .i64 P, .int .i64 C, .int .i64 M] 24))
    clear hb hb0 hf
    go_enter Try.func5, Try.ntmps5
    go_wp2_with (first | (go_at_call 10; refine (awake_any _).mono ?_; rintro e w1 ⟨rfl, ho⟩; replace hoff := hoff.trans ho; clear ho; obtain ⟨d0, d1, d2⟩ := HC.out _ hoff) | (go_at_call 24; refine (rmay_any _ _ _ _).mono ?_; rintro e w2 ⟨rfl, ho⟩; replace hoff := hoff.trans ho; clear ho; obtain ⟨d0, d1, d2⟩ := HC.out _ hoff) | (go_at_call 18; refine (words_any _ _ _ _).mono ?_; rintro e w3 ⟨rfl, ho⟩; replace hoff := hoff.trans ho; clear ho))
    go_ret
    exact ⟨rfl, (HB.out.trans hoff).nil_below⟩

end Go.Proofs.Ytadnehblklpphaa.Plan
