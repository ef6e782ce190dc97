/- FrameBounds: the walk. -/
import Derived.Test.YtkccnijnipkjnaaFrmF
namespace Go.Proofs.Ytkccnijnipkjnaa.Frm
open Go.RowKit Mem

/-- The frames that were pushed: i with the one register i. -/
def lst (k : Nat) : List (Nat → Int) := (List.range k).map fun i : Nat => newF (i : Int) [(i : Int)]
theorem lst_len (k : Nat) : (lst k).length = k := by simp [lst]
theorem lst_succ (k : Nat) : lst (k + 1) = lst k ++ [newF (k : Int) [(k : Int)]] := by simp [lst, List.range_succ]

def BRel (w : World) (g K N : Nat) (i : Value) (wr : World) : Prop := ∃ j : Nat, j ≤ N ∧ i = .int .i64 j ∧ IsS wr g (lst (min j K)) K ∧ Off [] w wr

set_option maxRecDepth 100000 in
set_option maxHeartbeats 4000000 in
theorem bounds_walk (most n more : Nat) (h1 : most < 256) (h2 : n < 256) (h3 : more < 256) (w : World) :
    Calls Try.prog 5 #[.int .u8 most, .int .u8 n, .int .u8 more] w fun e w' => e = .returned (.bool true) ∧ Off [] w w' := by
  obtain ⟨K, hK, hK16⟩ : ∃ K : Nat, (most : Int) % 17 = K ∧ K ≤ 16 := ⟨most % 17, by omega, by omega⟩
  obtain ⟨N, hN, hN40⟩ : ∃ N : Nat, (n : Int) % 40 = N ∧ N < 40 := ⟨n % 40, by omega, by omega⟩
  obtain ⟨X, hX, hX20⟩ : ∃ X : Nat, (more : Int) % 20 = X ∧ X < 20 := ⟨more % 20, by omega, by omega⟩
  go_enter Try.func5, Try.ntmps5
  go_wp2_with (first | (go_at_call 7; refine (awake_any _).mono ?_; rintro e w1 ⟨rfl, o1⟩) | (go_at_call 8; refine (new_in K hK16 _).mono ?_; rintro e w2 ⟨rfl, s2, o2⟩))
  have hg : w.heap.size ≤ w1.heap.size := o1.size
  generalize w1.heap.size = g at *
  have O2 := Lib.hid (o1.trans o2)
  have S2 := Lib.hid s2
  clear o1 o2 s2
  go_loopw [9] (fun i wr => BRel w g K N i wr) (fun i _ => N - (intOf i).toNat)
  case atStart => exact ⟨0, Nat.zero_le _, rfl, by rw [Nat.zero_min]; exact S2.out, O2.out⟩
  case round =>
    obtain ⟨j, hj, rfl, hs, ho⟩ := hrel
    have HS := Lib.hid hs
    have HO := Lib.hid ho
    clear hs ho
    by_cases hlt : j < N
    · have dlt : (j : Int) < (N : Int) := by omega
      by_cases hjk : j < K
      · have djk : (j : Int) < (K : Int) := by omega
        have e1 := Lib.hid (show min j K = j from by omega)
        have e2 := Lib.hid (show min (j + 1) K = j + 1 from by omega)
        go_wp2_with (go_at_call 9; refine (push_ok (L := [(j : Int)]) (HS.out.off0 ((Off.refl _ _).alloc _)) (by rw [lst_len]; omega) (j : Int) (Reads.of_blk (t := 2) (c := 1) [(j : Int)] (Blk.new _ _ _)) (by simp)).mono ?_; rintro e w3 ⟨rfl, s3, o3⟩)
        go_roundw
        case rel => exact ⟨j + 1, by omega, by go_num, by rw [e2.out, lst_succ]; rw [e1.out] at s3; exact s3, off_step (HO.out.alloc _) o3 hg⟩
        case measure => simp [intOf]; omega
      · have djk : decide ((j : Int) < (K : Int)) = false := by simp; omega
        have e1 := Lib.hid (show min j K = K from by omega)
        have e2 := Lib.hid (show min (j + 1) K = K from by omega)
        go_wp2_with (go_at_call 9; refine (push_no (HS.out.off0 ((Off.refl _ _).alloc _)) (j : Int) _ _ _ (.inl (by rw [lst_len]; exact e1.out))).mono ?_; rintro e w3 ⟨rfl, o3⟩)
        go_roundw
        case rel => exact ⟨j + 1, by omega, by go_num, by rw [e2.out]; have := HS.out.off0 (((Off.refl _ _).alloc _).trans o3); rwa [e1.out] at this, (HO.out.alloc _).trans o3⟩
        case measure => simp [intOf]; omega
    · obtain rfl : j = N := by omega
      obtain ⟨D, hD, hDK⟩ : ∃ D, min j K = D ∧ D ≤ K := ⟨_, rfl, by omega⟩
      rw [hD] at HS
      clear S2 O2 hj
      have hmin : (if K < j then (K : Int) else (j : Int)) = (D : Int) := by split <;> omega
      clear hlt
      have hT : ∃ T, decide (0 < (lst D).length) = T := ⟨_, rfl⟩
      obtain ⟨T, hT⟩ := hT
      have HT := Lib.hid hT
      clear hT
      have hF : ∃ F, topF (lst D) = F := ⟨_, rfl⟩
      obtain ⟨F, hF⟩ := hF
      have HF := Lib.hid hF
      clear hF
      have htop : ∀ W, IsS W g (lst D) K → Calls Try.prog 17 #[.pointer (some ⟨g, 0, none⟩)] W fun e w' => e = .returned (.tuple #[frV F, .bool T]) ∧ Off [] W w' := fun W h => by
        have := top_is h
        rwa [HT.out, HF.out] at this
      have HTop := Lib.hid htop
      clear htop
      go_upto_region 13 with (go_at_call 17; refine (HTop.out _ HS.out).mono ?_; rintro e w3 ⟨rfl, o3⟩)
      refine at_world (R := fun W => IsS W g (lst D) K ∧ Off [] w W ∧ Blk W w3.heap.size 37 (frL F).toArray) ⟨HS.out.off0 (o3.alloc _), (HO.out.trans o3).alloc _, Blk.new _ _ _⟩ ?_
      have hb : g < w3.heap.size := Nat.lt_of_lt_of_le HS.out.lt o3.size
      generalize w3.heap.size = b at *
      clear o3 HS HO
      rintro W1 hA1
      have HA1 := Lib.hid hA1
      clear hA1
      have hmk := make_regs X hX20
      have r1 : ¬ (-1 - (X : Int)) ≥ 0 := by omega
      have hoff := Lib.hid (Off.refl [] W1)
      go_upto_region 16 with (first | (go_at_call 9; refine (push_no (HA1.out.1.off0 ((Off.refl _ _).alloc _)) 77 _ _ _ (.inr (by omega))).mono ?_; rintro e w4 ⟨rfl, o4⟩; replace hoff := Lib.hid ((hoff.out.alloc _).trans o4); clear o4) | (go_at_call 14; refine (set_no (HA1.out.1.off0 hoff.out) _ _ (by omega)).mono ?_; rintro e w5 ⟨rfl, o5⟩; replace hoff := Lib.hid (hoff.out.trans o5); clear o5))
      clear hmk r1
      have HA2 := Lib.hid (show IsS w5 g (lst D) K ∧ Off [] w w5 ∧ Blk w5 b 37 (frL F).toArray from ⟨HA1.out.1.off0 hoff.out, HA1.out.2.1.trans hoff.out, hoff.out.blk HA1.out.2.2 (by simp)⟩)
      clear hoff HA1
      go_upto_region 17 with (go_at_call 17; refine (HTop.out _ HA2.out.1).mono ?_; rintro e w6 ⟨rfl, o6⟩)
      refine at_world (R := fun W => IsS W g (lst D) K ∧ Off [] w W ∧ Blk W b 37 (frL F).toArray ∧ Blk W w6.heap.size 37 (frL F).toArray) ⟨HA2.out.1.off0 (o6.alloc _), (HA2.out.2.1.trans o6).alloc _, (o6.alloc _).blk HA2.out.2.2 (by simp), Blk.new _ _ _⟩ ?_
      have hb2 : b < w6.heap.size := Nat.lt_of_lt_of_le HA2.out.2.2.lt o6.size
      generalize w6.heap.size = b2 at *
      clear o6 HA2
      rintro W2 hA2
      have HA2 := Lib.hid hA2
      clear hA2
      go_upto_region 19 with (go_at_call 16; refine (clear_any HA2.out.1).mono ?_; rintro e w7 ⟨rfl, s7, o7⟩)
      have HS7 := Lib.hid s7
      have HO7 := Lib.hid (off_step HA2.out.2.1 o7 hg)
      obtain ⟨-, x0, x1, x2, x3, x4, x5, x6, x7, x8, x9⟩ := ten_cells (o7.blk HA2.out.2.2.1 (by simp; omega))
      obtain ⟨-, y0, y1, y2, y3, y4, y5, y6, y7, y8, y9⟩ := ten_cells (o7.blk HA2.out.2.2.2 (by simp; omega))
      clear s7 o7 HA2 HTop
      have heq := eql_frame F
      rcases D with _ | d
      · obtain rfl : T = false := by rw [← HT.out]; rfl
        go_wp2_with (first | (go_at_call 18; refine (depth_is HS7.out).mono ?_; rintro e w8 ⟨rfl, rfl⟩) | (go_at_call 13; refine (go_none HS7.out 1).mono ?_; rintro e w9 ⟨rfl, o9⟩))
        go_ret
        exact ⟨rfl, HO7.out.trans o9⟩
      · obtain rfl : T = true := by rw [← HT.out, lst_len]; simp
        obtain rfl : newF (d : Int) [(d : Int)] = F := by rw [← HF.out, lst_succ, topF_snoc]
        have f0 : newF (d : Int) [(d : Int)] 0 = d := rfl
        have f2 : newF (d : Int) [(d : Int)] 2 = d := rfl
        rw [f0] at x0 y0
        rw [f2] at x2 y2
        simp only [frV, f0, f2] at heq
        clear f0 f2
        have hd16 : (d : Int) < 16 := by omega
        go_wp2_with (first | (go_at_call 18; refine (depth_is HS7.out).mono ?_; rintro e w8 ⟨rfl, rfl⟩) | (go_at_call 13; refine (go_none HS7.out 1).mono ?_; rintro e w9 ⟨rfl, o9⟩))
        go_ret
        exact ⟨rfl, HO7.out.trans o9⟩

theorem u8_bd {a : Int} (h : (Lit.int .u8 a).wf = true) : 0 ≤ a ∧ a ≤ 255 := by
  have hmin : IntKind.u8.min = 0 := rfl
  have hmax : IntKind.u8.max = 255 := rfl
  simp only [Lit.wf, Bool.and_eq_true, decide_eq_true_eq] at h
  omega
theorem bounds_law (a b c : Int) (w : World) (ha : (Lit.int .u8 a).wf = true) (hb : (Lit.int .u8 b).wf = true) (hc : (Lit.int .u8 c).wf = true) :
    Calls Try.prog 5 #[.int .u8 a, .int .u8 b, .int .u8 c] w fun e w' => e = .returned (.bool true) ∧ Below w.heap.size w w' := by
  have ha := u8_bd ha
  have hb := u8_bd hb
  have hc := u8_bd hc
  obtain ⟨a, rfl⟩ := Int.eq_ofNat_of_zero_le ha.1
  obtain ⟨b, rfl⟩ := Int.eq_ofNat_of_zero_le hb.1
  obtain ⟨c, rfl⟩ := Int.eq_ofNat_of_zero_le hc.1
  exact (bounds_walk a b c (by omega) (by omega) (by omega) w).mono fun e w' h => ⟨h.1, h.2.nil_below⟩

end Go.Proofs.Ytkccnijnipkjnaa.Frm
