/- Stage 8: MagTwo, over the contracts of the program's machines. (Written by tools/magtwo_gen.py over tools/XTwoB.src.) -/
import Derived.Test.YtdnahojpeplajaaTwoC
import Derived.Test.YtdnahojpeplajaaTold
import Derived.BigQuiet
namespace Go.Proofs.Ytdnahojpeplajaa.Mag
open Go.RowKit Mem Go.Proofs.Ytdnahojpeplajaa.Words Go.Proofs.Ytdnahojpeplajaa.Plan Go.Proofs.Ytdnahojpeplajaa.Pack Go.Proofs.Ytdnahojpeplajaa.Open Go.Proofs.Ytdnahojpeplajaa.Farm Go.Proofs.Ytdnahojpeplajaa.Told

set_option maxRecDepth 100000 in
set_option maxHeartbeats 8000000 in
theorem two_walk {I : HoldT} {J : HoldP} (C0 : ConT I) (D0 : ConP J) (A0 : AwakeIs) (a : Option Addr) (len cap : Nat) (z : Nat → Int) (x0 x1 : Int) (b : Option Addr) (len2 cap2 : Nat) (z2 : Nat → Bool) (w : World) (hr : IsRowU w a len cap z) (h0 : 0 ≤ x0 ∧ x0 < 256) (h1 : 0 ≤ x1 ∧ x1 < 256) (hb : IsRowB w b len2 cap2 z2) :
    Calls Try.prog 6 #[.slice a len cap, .agg #[.int .u8 x0, .int .u8 x1], .slice b len2 cap2] w fun e w' => e = .returned (.bool true) ∧ Off [] w w' := by
  obtain ⟨n, hn, hn8, h2n⟩ := half_8 len (fun h => by obtain ⟨_, _, _, _, hc, hc2, _⟩ := hr.some_ h; omega)
  have HC := Lib.hid C0
  have HD := Lib.hid D0
  have HA := Lib.hid A0
  have HR := Lib.hid hr
  have HRB := Lib.hid hb
  have HX := Lib.hid (And.intro h0 h1)
  have HN := Lib.hid hn
  have HW8 := Lib.hid (words_8 hn8)
  clear C0 D0 A0 hr hb h0 h1 hn
  by_cases hl : len2 ≤ 300
  · have d1 : decide ((300 : Int) < (len2 : Int)) = false := by simp; omega
    have HT : Hid (∀ W, Calls Try.prog 8 #[.agg #[.int .i64 4, .int .i64 2, .int .i64 (n : Int)]] W fun e w' => e = .returned (.int .i64 ((70 + 2 * n : Nat) : Int)) ∧ Off [] W w') := Lib.hid (fun W => by
      have h := total_any 4 2 n W
      rw [HW8.out] at h
      exact h)
    have hmk : ∀ W, (Instr.makeSlice 25 (.int .i64 ((70 + 2 * n : Nat) : Int)) (.int .i64 ((70 + 2 * n : Nat) : Int))).run Try.prog W = .ok (.slice (some ⟨W.heap.size, 0, none⟩) (70 + 2 * n) (70 + 2 * n)) (W.alloc (.cells (rowCells (List.replicate (70 + 2 * n) 0)) 27)) := fun W => make_row (70 + 2 * n) (by omega) W
    have HLB : Hid (70 + 2 * n ≤ 2000) := Lib.hid (by omega)
    generalize hL : 70 + 2 * n = L at *
    have HL := Lib.hid hL
    clear hL
    go_enter Try.func6, Try.ntmps6
    go_upto_region 3 with (go_at_call 7; refine (HA.out _).mono ?_; rintro e w1 ⟨rfl, o1⟩)
    go_upto_region 4 with fail
    rw [HN.out]
    refine at_worldT (R := fun W' => ∃ qb q, qb = w.heap.size ∧ q = w1.heap.size ∧ Farm w [bT qb 56 #[.int .u8 x0, .int .u8 x1], bT q 24 #[.int .i64 4, .int .i64 2, .int .i64 (n : Int)]] W') ⟨_, _, rfl, rfl, ?_⟩ ?_
    · have hf := (Farm.start w).add ((Off.refl [] w).alloc _) (bT_is (Blk.new w 56 #[.int .u8 x0, .int .u8 x1])) (by simp [bT])
      exact (hf.off0 o1).add ((Off.refl [] w1).alloc _) (bT_is (Blk.new w1 24 #[.int .i64 4, .int .i64 2, .int .i64 (n : Int)])) (by simp [bT])
    clear o1
    rintro W1 ⟨qb, q, e1, e2, hF⟩
    rw [← e1, ← e2]
    clear e1 e2
    have HF := Lib.hid hF
    obtain ⟨s0, s1, s2⟩ := shp_cells (show Blk W1 q 24 _ from hF.now (i := 1) rfl)
    clear hF
    go_upto_region 7 with (go_at_call 8; refine (HT.out _).mono ?_; rintro e w2 ⟨rfl, o2⟩)
    refine at_worldT (R := fun W' => ∃ bm, bm = w2.heap.size ∧ Farm w [bT qb 56 #[.int .u8 x0, .int .u8 x1], bT q 24 #[.int .i64 4, .int .i64 2, .int .i64 (n : Int)], bT bm 27 (rowCells (filled (put70 z) L (70 + 0 * n)))] W') ⟨_, rfl, ?_⟩ ?_
    · have hf := (HF.out.off0 o2).add ((Off.refl [] w2).alloc _) (bT_is (Blk.new w2 27 (rowCells (List.replicate L 0)))) (by simp [bT])
      rw [Nat.zero_mul, Nat.add_zero, ← put70_zero]
      exact hf
    clear o2 s0 s1 s2 HF hmk
    rintro W2 ⟨bm, e1, hF⟩
    rw [← e1]
    clear e1
    have HF := Lib.hid hF
    clear hF
    go_wp2_with fail
    go_loopw [9, 10] (fun i _ wr => CopyRel2 w qb #[.int .u8 x0, .int .u8 x1] q #[.int .i64 4, .int .i64 2, .int .i64 (n : Int)] bm L z n i wr) (fun i _ _ => 2 - (intOf i).toNat)
    case atStart => exact ⟨0, by omega, rfl, HF.out⟩
    case round =>
      obtain ⟨c, hc, rfl, hF⟩ := hrel
      have HF1 := Lib.hid hF
      clear hF HF
      by_cases hc2 : c < 2
      · have d2 : decide ((c : Int) < 2) = true := by simp; omega
        have hm1 : IntKind.i64.wrap ((c : Int) * (n : Int)) = ((c * n : Nat) : Int) ∧ wrap64 ((c : Int) * (n : Int)) = ((c * n : Nat) : Int) := by
          have h1 : c * n ≤ 1 * n := Nat.mul_le_mul_right n (by omega)
          rw [← Int.natCast_mul]
          exact ⟨IntWalk.i64_in _ (by omega), IntWalk.wrap64_in _ (by omega)⟩
        have hcb : c * n ≤ n := by
          have h1 : c * n ≤ 1 * n := Nat.mul_le_mul_right n (by omega)
          omega
        have HMG : Hid (∀ k, k < n → magI 4 2 n c k = ((70 + (c * n + k) : Nat) : Int)) := Lib.hid (fun k hk => mag_70 hn8 hc2 hk rfl)
        have HCN : Hid ((c + 1) * n = c * n + n) := Lib.hid (by rw [Nat.add_mul, Nat.one_mul])
        generalize hcn : c * n = cn at *
        have HC1 : Hid (IntKind.i64.wrap ((c : Int) * (n : Int)) = (cn : Int) ∧ wrap64 ((c : Int) * (n : Int)) = (cn : Int)) := Lib.hid hm1
        clear hcn hm1
        go_wp2_with fail
        go_loopw [10] (fun i wr => CopyRel w qb #[.int .u8 x0, .int .u8 x1] q #[.int .i64 4, .int .i64 2, .int .i64 (n : Int)] bm L z cn n i wr) (fun i _ => n - (intOf i).toNat)
        case atStart => exact ⟨0, by omega, rfl, HF1.out⟩
        case round =>
          obtain ⟨k, hk, rfl, hF⟩ := hrel
          have HF2 := Lib.hid hF
          clear hF HF1
          have HFA : Hid (∀ W, Off [] wr W → W.cell? ⟨q, 0, none⟩ = some (.int .i64 4) ∧ W.cell? ⟨q, 1, none⟩ = some (.int .i64 2) ∧ W.cell? ⟨q, 2, none⟩ = some (.int .i64 (n : Int))) := Lib.hid (fun W o => shp_cells (show Blk W q 24 _ from (HF2.out.off0 o).now (i := 1) rfl))
          obtain ⟨s0, s1, s2⟩ := HFA.out _ (Off.refl _ _)
          by_cases hkn : k < n
          · have d3 : decide ((k : Int) < (n : Int)) = true := by simp; omega
            obtain ⟨qq, hqq⟩ : ∃ qq : Nat, qq = cn + k := ⟨_, rfl⟩
            obtain ⟨pp, hpp⟩ : ∃ pp : Nat, pp = 70 + qq := ⟨_, rfl⟩
            obtain ⟨ab, aoff, rfl, hab, hcp1, hcp2, hcell⟩ := HR.out.some_ (by omega)
            have HLC : Hid (∀ W, Off [] wr W → W.cell? ⟨ab, aoff + qq, none⟩ = some (.int .u64 (z qq))) := Lib.hid (fun W o => ((HF2.out.off.trans o).cell (p := ⟨ab, aoff + qq, none⟩) hab (by simp)).trans (hcell qq (by omega)))
            have HM : Hid (magI 4 2 n c k = (pp : Int)) := Lib.hid (by rw [HMG.out k hkn, hpp, hqq])
            have hq1 : (qq : Int) < (len : Int) := by omega
            have hp1 : (pp : Int) < (L : Int) := by have := HL.out; omega
            have h34 : IntKind.i64.wrap ((cn : Int) + (k : Int)) = (qq : Int) ∧ wrap64 ((cn : Int) + (k : Int)) = (qq : Int) := ⟨(IntWalk.i64_in ((cn : Int) + (k : Int)) (by omega)).trans (by omega), (IntWalk.wrap64_in ((cn : Int) + (k : Int)) (by omega)).trans (by omega)⟩
            obtain ⟨m1, m2⟩ := HC1.out
            obtain ⟨m3, m4⟩ := h34
            have HQ := Lib.hid (And.intro hqq hpp)
            clear hqq hpp hcell hcp1 hcp2
            go_upto_region 13 with fail
            clear s0 s1 s2
            refine wp_region_noPanic ?_
            refine wp_region_held_drew (S := fun w' => (w'.cell? ⟨q, 0, none⟩ = some (.int .i64 4) ∧ w'.cell? ⟨q, 1, none⟩ = some (.int .i64 2) ∧ w'.cell? ⟨q, 2, none⟩ = some (.int .i64 (n : Int))) ∧ w'.cell? ⟨ab, aoff + qq, none⟩ = some (.int .u64 (z qq))) (by kernel_rfl) ⟨HFA.out _ (Off.refl [] wr).drew, HLC.out _ (Off.refl [] wr).drew⟩ (fun hHeld => ?_)
            have o := (Off.refl [] wr).drew
            refine wpAnyH_take (i := 0) (v := ?_) rfl (by kernel_rfl) (by kernel_rfl) (by kernel_rfl) (fun _ _ _ h => h) (Or.inl ⟨by rfl, ?_⟩) (by assumption) ?_
            rotate_left
            · intro w hSw
              try dsimp only at hSw
              go_simp
              first | done | with_reducible rfl
            try simp only [List.getElem_toArray, List.getElem_cons_zero, Act.put, List.setIfInBounds_toArray, List.set_cons_zero, List.set_cons_succ]
            refine wpAnyH_take (i := 1) (v := ?_) rfl (by kernel_rfl) (by kernel_rfl) (by kernel_rfl) (fun _ _ _ h => h) (Or.inl ⟨by rfl, ?_⟩) (by assumption) ?_
            rotate_left
            · intro w hSw
              try dsimp only at hSw
              go_simp
              first | done | with_reducible rfl
            try simp only [List.getElem_toArray, List.getElem_cons_succ, List.getElem_cons_zero, Act.put, List.setIfInBounds_toArray, List.set_cons_zero, List.set_cons_succ]
            refine wpAnyH_take (i := 2) (v := ?_) rfl (by kernel_rfl) (by kernel_rfl) (by kernel_rfl) (fun _ _ _ h => h) (Or.inl ⟨by rfl, ?_⟩) (by assumption) ?_
            rotate_left
            · intro w hSw
              try dsimp only at hSw
              go_simp
              first | done | with_reducible rfl
            try simp only [List.getElem_toArray, List.getElem_cons_succ, List.getElem_cons_zero, Act.put, List.setIfInBounds_toArray, List.set_cons_zero, List.set_cons_succ]
            refine wpAnyH_take (i := 3) (v := ?_) rfl (by kernel_rfl) (by kernel_rfl) (by kernel_rfl) (fun _ _ _ h => h) (Or.inl ⟨by rfl, ?_⟩) (by assumption) ?_
            rotate_left
            · intro w hSw
              try dsimp only at hSw
              go_simp
              first | done | with_reducible rfl
            try simp only [List.getElem_toArray, List.getElem_cons_succ, List.getElem_cons_zero, Act.put, List.setIfInBounds_toArray, List.set_cons_zero, List.set_cons_succ]
            refine wpAnyH_take (i := 5) (v := ?_) rfl (by kernel_rfl) (by kernel_rfl) (by kernel_rfl) (fun _ _ _ h => h) (Or.inl ⟨by rfl, ?_⟩) (by assumption) ?_
            rotate_left
            · intro w hSw
              try dsimp only at hSw
              go_simp
              first | done | with_reducible rfl
            try simp only [List.getElem_toArray, List.getElem_cons_succ, List.getElem_cons_zero, Act.put, List.setIfInBounds_toArray, List.set_cons_zero, List.set_cons_succ]
            refine wpAnyH_take (i := 6) (v := ?_) rfl (by kernel_rfl) (by kernel_rfl) (by kernel_rfl) (fun _ _ _ h => h) (Or.inl ⟨by rfl, ?_⟩) (by assumption) ?_
            rotate_left
            · intro w hSw
              try dsimp only at hSw
              go_simp
              first | done | with_reducible rfl
            try simp only [List.getElem_toArray, List.getElem_cons_succ, List.getElem_cons_zero, Act.put, List.setIfInBounds_toArray, List.set_cons_zero, List.set_cons_succ]
            refine wpAnyH_take (i := 7) (v := ?_) rfl (by kernel_rfl) (by kernel_rfl) (by kernel_rfl) (fun _ _ _ h => h) (Or.inl ⟨by rfl, ?_⟩) (by assumption) ?_
            rotate_left
            · intro w hSw
              try dsimp only at hSw
              go_simp
              first | done | with_reducible rfl
            try simp only [List.getElem_toArray, List.getElem_cons_succ, List.getElem_cons_zero, Act.put, List.setIfInBounds_toArray, List.set_cons_zero, List.set_cons_succ]
            refine wpAnyH_take (i := 8) (v := ?_) rfl (by kernel_rfl) (by kernel_rfl) (by kernel_rfl) (fun _ _ _ h => h) (Or.inl ⟨by rfl, ?_⟩) (by assumption) ?_
            rotate_left
            · intro w hSw
              try dsimp only at hSw
              go_simp
              first | done | with_reducible rfl
            try simp only [List.getElem_toArray, List.getElem_cons_succ, List.getElem_cons_zero, Act.put, List.setIfInBounds_toArray, List.set_cons_zero, List.set_cons_succ]
            refine wpAnyH_take (i := 9) (v := ?_) rfl (by kernel_rfl) (by kernel_rfl) (by kernel_rfl) (fun _ _ _ h => h) (Or.inl ⟨by rfl, ?_⟩) (by assumption) ?_
            rotate_left
            · intro w hSw
              try dsimp only at hSw
              go_simp
              first | done | with_reducible rfl
            try simp only [List.getElem_toArray, List.getElem_cons_succ, List.getElem_cons_zero, Act.put, List.setIfInBounds_toArray, List.set_cons_zero, List.set_cons_succ]
            refine wpAnyH_take (i := 10) (v := ?_) rfl (by kernel_rfl) (by kernel_rfl) (by kernel_rfl) (fun _ _ _ h => h) (Or.inl ⟨by rfl, ?_⟩) (by assumption) ?_
            rotate_left
            · intro w hSw
              try dsimp only at hSw
              go_simp
              first | done | with_reducible rfl
            try simp only [List.getElem_toArray, List.getElem_cons_succ, List.getElem_cons_zero, Act.put, List.setIfInBounds_toArray, List.set_cons_zero, List.set_cons_succ]
            refine wpAnyH_take (i := 11) (v := ?_) rfl (by kernel_rfl) (by kernel_rfl) (by kernel_rfl) (fun _ _ _ h => h) (Or.inl ⟨by rfl, ?_⟩) (by assumption) ?_
            rotate_left
            · intro w hSw
              try dsimp only at hSw
              go_simp
              first | done | with_reducible rfl
            try simp only [List.getElem_toArray, List.getElem_cons_succ, List.getElem_cons_zero, Act.put, List.setIfInBounds_toArray, List.set_cons_zero, List.set_cons_succ]
            refine wpAnyH_take (i := 12) (v := ?_) rfl (by kernel_rfl) (by kernel_rfl) (by kernel_rfl) (fun _ _ _ h => h) (Or.inl ⟨by rfl, ?_⟩) (by assumption) ?_
            rotate_left
            · intro w hSw
              try dsimp only at hSw
              go_simp
              first | done | with_reducible rfl
            try simp only [List.getElem_toArray, List.getElem_cons_succ, List.getElem_cons_zero, Act.put, List.setIfInBounds_toArray, List.set_cons_zero, List.set_cons_succ]
            refine wpAnyH_take (i := 13) (v := ?_) rfl (by kernel_rfl) (by kernel_rfl) (by kernel_rfl) (fun _ _ _ h => h) (Or.inl ⟨by rfl, ?_⟩) (by assumption) ?_
            rotate_left
            · intro w hSw
              try dsimp only at hSw
              go_simp
              first | done | with_reducible rfl
            try simp only [List.getElem_toArray, List.getElem_cons_succ, List.getElem_cons_zero, Act.put, List.setIfInBounds_toArray, List.set_cons_zero, List.set_cons_succ]
            refine wpAnyH_ready (rs := [4]) (by kernel_rfl) (by simp) (AllReadyH.cons rfl (fun K hK => ?_) AllReadyH.nil)
            go_simp
            go_wp2_with (go_at_call 27; refine (rmag_any _ _ _ _ _ _).mono ?_; rintro e w3 ⟨rfl, oc⟩; rw [HM.out])
            refine hK.out _ _ ⟨HFA.out _ (o.trans oc), HLC.out _ (o.trans oc)⟩ (fun hHeld => ?_)
            clear hK K
            try simp only [List.getElem_toArray, List.getElem_cons_succ, List.getElem_cons_zero, Act.put, List.setIfInBounds_toArray, List.set_cons_zero, List.set_cons_succ]
            replace o := o.trans oc
            clear oc
            refine wpAnyH_take (i := 14) (v := ?_) rfl (by kernel_rfl) (by kernel_rfl) (by kernel_rfl) (fun _ _ _ h => h) (Or.inl ⟨by rfl, ?_⟩) (by assumption) ?_
            rotate_left
            · intro w hSw
              try dsimp only at hSw
              go_simp
              first | done | with_reducible rfl
            try simp only [List.getElem_toArray, List.getElem_cons_succ, List.getElem_cons_zero, Act.put, List.setIfInBounds_toArray, List.set_cons_zero, List.set_cons_succ]
            have hF3 := HF2.out.off0 o
            have hrow : Blk w3 bm 27 _ := hF3.now (i := 2) rfl
            have hcm := (hrow.cell pp).trans (row_cell _ pp (by rw [filled_length]; omega))
            have hzm := hrow.free pp
            have hF4 : Farm w [bT qb 56 #[.int .u8 x0, .int .u8 x1], bT q 24 #[.int .i64 4, .int .i64 2, .int .i64 (n : Int)], bT bm 27 (rowCells (filled (put70 z) L (70 + (cn + (k + 1)))))] (w3.setCell ⟨bm, pp, none⟩ (.int .u64 (z qq))) := copy_turn hF3 HQ.out.1 HQ.out.2
            have HF4 := Lib.hid hF4
            clear hF4 hF3 hrow
            refine wpAnyH_ready (rs := [15]) (by kernel_rfl) (by simp) (AllReadyH.cons rfl (fun K hK => ?_) AllReadyH.nil)
            go_simp
            refine hK.out _ _ ⟨shp_cells (show Blk _ q 24 _ from HF4.out.now (i := 1) rfl), (HF4.out.off.cell (p := ⟨ab, aoff + qq, none⟩) hab (by simp)).trans ((HF2.out.off.cell (p := ⟨ab, aoff + qq, none⟩) hab (by simp)).symm.trans (HLC.out _ (Off.refl _ _)))⟩ (fun hHeld => ?_)
            clear hK K
            try simp only [List.getElem_toArray, List.getElem_cons_succ, List.getElem_cons_zero, Act.put, List.setIfInBounds_toArray, List.set_cons_zero, List.set_cons_succ]
            refine wpAnyH_done (by kernel_rfl) ?_ _
            refine NoPanic.normal ?_
            clear hHeld o hcm hzm m1 m2 m3 m4 hq1 hp1 hab HLC HM HFA
            go_wp2_with fail -- A
            go_roundw -- B
            case rel => exact ⟨k + 1, by omega, by go_num, HF4.out⟩
            case measure => simp [intOf]; omega
          · obtain rfl : k = n := by omega
            have d3 : decide ((k : Int) < (k : Int)) = false := by simp
            go_wp2_with fail
            go_roundw
            case rel => exact ⟨c + 1, by omega, by go_num, by have h := HF2.out; rw [HCN.out]; exact h⟩
            case measure => simp [intOf]; omega
      · obtain rfl : c = 2 := by omega
        have d2 : decide (((2 : Nat) : Int) < 2) = false := by decide
        go_upto_region 14 with fail
        have hF0 := HF1.out
        rw [HL.out] at hF0
        have HF2 := Lib.hid hF0
        have HRW : Hid (∀ W, Off [] wr W → IsRowU W (some ⟨bm, 0, none⟩) L L (put70 z)) := Lib.hid (fun W o => row70_is (show Blk W bm 27 _ from (HF2.out.off0 o).now (i := 2) rfl) HR.out.nums HLB.out)
        clear hF0 HF1
        go_upto_region 15 with (go_at_call 10; first
          | (refine (fill_any _ L L (put70 z) _ (HRW.out _ (Off.refl _ _)) HLB.out).mono ?_; rintro e w3 ⟨gw, hw, rfl, hp3, o3, hg3, hh3⟩)
          | (refine (fill_any _ L L (put70 z) _ (HRW.out _ o3) HLB.out).mono ?_; rintro e w4 ⟨gx, hx, rfl, hp4, o4, hg4, hh4⟩)
          | (refine (fill_any _ L L (put70 z) _ (HRW.out _ (o3.trans o4)) HLB.out).mono ?_; rintro e w5 ⟨gy, hy, rfl, hp5, o5, hg5, hh5⟩))
        have hF5 := base6_is HF2.out hp3 o3 ⟨hg3, hh3⟩ hp4 o4 ⟨hg4, hh4⟩ hp5 o5 ⟨hg5, hh5⟩
        have HS : Hid ((St.fill (put70 z) L L).row.length = L ∧ RowOk (St.fill (put70 z) L L) ∧ (St.fill (put70 z) L L).steps = 0) := Lib.hid ⟨filled_length _ _ _, fill_ok (put70_ok HR.out.nums) _ _, rfl⟩
        generalize St.fill (put70 z) L L = s0 at *
        refine at_worldT (R := fun W' => Farm w (base6 qb #[.int .u8 x0, .int .u8 x1] q #[.int .i64 4, .int .i64 2, .int .i64 (n : Int)] bm (rowCells (filled (put70 z) L L)) gw hw gx hx gy hy s0 s0 s0) W') hF5 ?_
        clear hF5 hp3 o3 hg3 hh3 hp4 o4 hg4 hh4 hp5 o5 hg5 hh5 HRW HF2 HT
        rintro W3 hF
        have HF := Lib.hid hF
        have HFA : Hid (∀ W, Off [] W3 W → (W.cell? ⟨q, 0, none⟩ = some (.int .i64 4) ∧ W.cell? ⟨q, 1, none⟩ = some (.int .i64 2) ∧ W.cell? ⟨q, 2, none⟩ = some (.int .i64 (n : Int))) ∧ W.cell? ⟨qb, 0, none⟩ = some (.int .u8 x0) ∧ W.cell? ⟨qb, 1, none⟩ = some (.int .u8 x1)) := Lib.hid (fun W o => ⟨shp_cells (show Blk W q 24 _ from (HF.out.off0 o).now (i := 1) rfl), cells2 (show Blk W qb 56 _ from (HF.out.off0 o).now (i := 0) rfl)⟩)
        clear hF
        refine wp_region_noPanic ?_
        refine wp_region_held_drew (S := fun w' => (w'.cell? ⟨q, 0, none⟩ = some (.int .i64 4) ∧ w'.cell? ⟨q, 1, none⟩ = some (.int .i64 2) ∧ w'.cell? ⟨q, 2, none⟩ = some (.int .i64 (n : Int))) ∧ w'.cell? ⟨qb, 0, none⟩ = some (.int .u8 x0) ∧ w'.cell? ⟨qb, 1, none⟩ = some (.int .u8 x1)) (by kernel_rfl) (HFA.out _ (Off.refl [] W3).drew) (fun hHeld => ?_)
        have o := (Off.refl [] W3).drew
        refine wpAnyH_take (i := 0) (v := ?_) rfl (by kernel_rfl) (by kernel_rfl) (by kernel_rfl) (fun _ _ _ h => h) (Or.inl ⟨by rfl, ?_⟩) (by assumption) ?_
        rotate_left
        · intro w hSw
          try dsimp only at hSw
          go_simp
          first | done | with_reducible rfl
        try simp only [List.getElem_toArray, List.getElem_cons_zero, Act.put, List.setIfInBounds_toArray, List.set_cons_zero, List.set_cons_succ]
        refine wpAnyH_take (i := 1) (v := ?_) rfl (by kernel_rfl) (by kernel_rfl) (by kernel_rfl) (fun _ _ _ h => h) (Or.inl ⟨by rfl, ?_⟩) (by assumption) ?_
        rotate_left
        · intro w hSw
          try dsimp only at hSw
          go_simp
          first | done | with_reducible rfl
        try simp only [List.getElem_toArray, List.getElem_cons_succ, List.getElem_cons_zero, Act.put, List.setIfInBounds_toArray, List.set_cons_zero, List.set_cons_succ]
        refine wpAnyH_take (i := 2) (v := ?_) rfl (by kernel_rfl) (by kernel_rfl) (by kernel_rfl) (fun _ _ _ h => h) (Or.inl ⟨by rfl, ?_⟩) (by assumption) ?_
        rotate_left
        · intro w hSw
          try dsimp only at hSw
          go_simp
          first | done | with_reducible rfl
        try simp only [List.getElem_toArray, List.getElem_cons_succ, List.getElem_cons_zero, Act.put, List.setIfInBounds_toArray, List.set_cons_zero, List.set_cons_succ]
        refine wpAnyH_take (i := 3) (v := ?_) rfl (by kernel_rfl) (by kernel_rfl) (by kernel_rfl) (fun _ _ _ h => h) (Or.inl ⟨by rfl, ?_⟩) (by assumption) ?_
        rotate_left
        · intro w hSw
          try dsimp only at hSw
          go_simp
          first | done | with_reducible rfl
        try simp only [List.getElem_toArray, List.getElem_cons_succ, List.getElem_cons_zero, Act.put, List.setIfInBounds_toArray, List.set_cons_zero, List.set_cons_succ]
        refine wpAnyH_take (i := 4) (v := ?_) rfl (by kernel_rfl) (by kernel_rfl) (by kernel_rfl) (fun _ _ _ h => h) (Or.inl ⟨by rfl, ?_⟩) (by assumption) ?_
        rotate_left
        · intro w hSw
          try dsimp only at hSw
          go_simp
          first | done | with_reducible rfl
        try simp only [List.getElem_toArray, List.getElem_cons_succ, List.getElem_cons_zero, Act.put, List.setIfInBounds_toArray, List.set_cons_zero, List.set_cons_succ]
        refine wpAnyH_take (i := 6) (v := ?_) rfl (by kernel_rfl) (by kernel_rfl) (by kernel_rfl) (fun _ _ _ h => h) (Or.inl ⟨by rfl, ?_⟩) (by assumption) ?_
        rotate_left
        · intro w hSw
          try dsimp only at hSw
          go_simp
          first | done | with_reducible rfl
        try simp only [List.getElem_toArray, List.getElem_cons_succ, List.getElem_cons_zero, Act.put, List.setIfInBounds_toArray, List.set_cons_zero, List.set_cons_succ]
        refine wpAnyH_take (i := 7) (v := ?_) rfl (by kernel_rfl) (by kernel_rfl) (by kernel_rfl) (fun _ _ _ h => h) (Or.inl ⟨by rfl, ?_⟩) (by assumption) ?_
        rotate_left
        · intro w hSw
          try dsimp only at hSw
          go_simp
          first | done | with_reducible rfl
        try simp only [List.getElem_toArray, List.getElem_cons_succ, List.getElem_cons_zero, Act.put, List.setIfInBounds_toArray, List.set_cons_zero, List.set_cons_succ]
        refine wpAnyH_take (i := 8) (v := ?_) rfl (by kernel_rfl) (by kernel_rfl) (by kernel_rfl) (fun _ _ _ h => h) (Or.inl ⟨by rfl, ?_⟩) (by assumption) ?_
        rotate_left
        · intro w hSw
          try dsimp only at hSw
          go_simp
          first | done | with_reducible rfl
        try simp only [List.getElem_toArray, List.getElem_cons_succ, List.getElem_cons_zero, Act.put, List.setIfInBounds_toArray, List.set_cons_zero, List.set_cons_succ]
        refine wpAnyH_take (i := 9) (v := ?_) rfl (by kernel_rfl) (by kernel_rfl) (by kernel_rfl) (fun _ _ _ h => h) (Or.inl ⟨by rfl, ?_⟩) (by assumption) ?_
        rotate_left
        · intro w hSw
          try dsimp only at hSw
          go_simp
          first | done | with_reducible rfl
        try simp only [List.getElem_toArray, List.getElem_cons_succ, List.getElem_cons_zero, Act.put, List.setIfInBounds_toArray, List.set_cons_zero, List.set_cons_succ]
        refine wpAnyH_take (i := 10) (v := ?_) rfl (by kernel_rfl) (by kernel_rfl) (by kernel_rfl) (fun _ _ _ h => h) (Or.inl ⟨by rfl, ?_⟩) (by assumption) ?_
        rotate_left
        · intro w hSw
          try dsimp only at hSw
          go_simp
          first | done | with_reducible rfl
        try simp only [List.getElem_toArray, List.getElem_cons_succ, List.getElem_cons_zero, Act.put, List.setIfInBounds_toArray, List.set_cons_zero, List.set_cons_succ]
        refine wpAnyH_take (i := 11) (v := ?_) rfl (by kernel_rfl) (by kernel_rfl) (by kernel_rfl) (fun _ _ _ h => h) (Or.inl ⟨by rfl, ?_⟩) (by assumption) ?_
        rotate_left
        · intro w hSw
          try dsimp only at hSw
          go_simp
          first | done | with_reducible rfl
        try simp only [List.getElem_toArray, List.getElem_cons_succ, List.getElem_cons_zero, Act.put, List.setIfInBounds_toArray, List.set_cons_zero, List.set_cons_succ]
        refine wpAnyH_take (i := 12) (v := ?_) rfl (by kernel_rfl) (by kernel_rfl) (by kernel_rfl) (fun _ _ _ h => h) (Or.inl ⟨by rfl, ?_⟩) (by assumption) ?_
        rotate_left
        · intro w hSw
          try dsimp only at hSw
          go_simp
          first | done | with_reducible rfl
        try simp only [List.getElem_toArray, List.getElem_cons_succ, List.getElem_cons_zero, Act.put, List.setIfInBounds_toArray, List.set_cons_zero, List.set_cons_succ]
        refine wpAnyH_take (i := 13) (v := ?_) rfl (by kernel_rfl) (by kernel_rfl) (by kernel_rfl) (fun _ _ _ h => h) (Or.inl ⟨by rfl, ?_⟩) (by assumption) ?_
        rotate_left
        · intro w hSw
          try dsimp only at hSw
          go_simp
          first | done | with_reducible rfl
        try simp only [List.getElem_toArray, List.getElem_cons_succ, List.getElem_cons_zero, Act.put, List.setIfInBounds_toArray, List.set_cons_zero, List.set_cons_succ]
        refine wpAnyH_take (i := 14) (v := ?_) rfl (by kernel_rfl) (by kernel_rfl) (by kernel_rfl) (fun _ _ _ h => h) (Or.inl ⟨by rfl, ?_⟩) (by assumption) ?_
        rotate_left
        · intro w hSw
          try dsimp only at hSw
          go_simp
          first | done | with_reducible rfl
        try simp only [List.getElem_toArray, List.getElem_cons_succ, List.getElem_cons_zero, Act.put, List.setIfInBounds_toArray, List.set_cons_zero, List.set_cons_succ]
        refine wpAnyH_take (i := 15) (v := ?_) rfl (by kernel_rfl) (by kernel_rfl) (by kernel_rfl) (fun _ _ _ h => h) (Or.inl ⟨by rfl, ?_⟩) (by assumption) ?_
        rotate_left
        · intro w hSw
          try dsimp only at hSw
          go_simp
          first | done | with_reducible rfl
        try simp only [List.getElem_toArray, List.getElem_cons_succ, List.getElem_cons_zero, Act.put, List.setIfInBounds_toArray, List.set_cons_zero, List.set_cons_succ]
        refine wpAnyH_ready (rs := [5]) (by kernel_rfl) (by simp) (AllReadyH.cons rfl (fun K hK => ?_) AllReadyH.nil)
        go_simp
        go_wp2_with (go_at_call 11; refine (HC.out.new _ _ _ _ _ _).mono ?_; rintro e w4 ⟨⟨ga, Fa, rfl, hi, hf⟩, oa⟩)
        refine hK.out _ _ (HFA.out _ (o.trans oa)) (fun hHeld => ?_)
        clear hK K
        try simp only [List.getElem_toArray, List.getElem_cons_succ, List.getElem_cons_zero, Act.put, List.setIfInBounds_toArray, List.set_cons_zero, List.set_cons_succ]
        refine wpAnyH_ready (rs := [16]) (by kernel_rfl) (by simp) (AllReadyH.cons rfl (fun K hK => ?_) AllReadyH.nil)
        go_simp
        go_wp2_with (go_at_call 12; refine (HD.out.new _ _ _ _ _ _ _ _).mono ?_; rintro e w5 ⟨⟨gb, Fb, rfl, hj, hg⟩, ob⟩)
        refine hK.out _ _ (HFA.out _ ((o.trans oa).trans ob)) (fun hHeld => ?_)
        clear hK K
        try simp only [List.getElem_toArray, List.getElem_cons_succ, List.getElem_cons_zero, Act.put, List.setIfInBounds_toArray, List.set_cons_zero, List.set_cons_succ]
        refine wpAnyH_take (i := 17) (v := ?_) rfl (by kernel_rfl) (by kernel_rfl) (by kernel_rfl) (fun _ _ _ h => h) (Or.inl ⟨by rfl, ?_⟩) (by assumption) ?_
        rotate_left
        · intro w hSw
          try dsimp only at hSw
          go_simp
          first | done | with_reducible rfl
        try simp only [List.getElem_toArray, List.getElem_cons_succ, List.getElem_cons_zero, Act.put, List.setIfInBounds_toArray, List.set_cons_zero, List.set_cons_succ]
        refine wpAnyH_take (i := 18) (v := ?_) rfl (by kernel_rfl) (by kernel_rfl) (by kernel_rfl) (fun _ _ _ h => h) (Or.inl ⟨by rfl, ?_⟩) (by assumption) ?_
        rotate_left
        · intro w hSw
          try dsimp only at hSw
          go_simp
          first | done | with_reducible rfl
        try simp only [List.getElem_toArray, List.getElem_cons_succ, List.getElem_cons_zero, Act.put, List.setIfInBounds_toArray, List.set_cons_zero, List.set_cons_succ]
        refine wpAnyH_done (by kernel_rfl) ?_ _
        refine NoPanic.normal ?_
        have hF7 := Farm.two (HF.out.off0 o) oa (tT_is HC.out hi) hf ob (pT_is HD.out hj) hg
        clear hHeld hi hf oa hj hg ob o HF
        have HE0 : Hid (Env n (tk0 4 2 n 0 (cls x0)) (pk0 4 2 n 1 (cls x1) (slt x1) 3) s0) := Lib.hid (env_is hn8 HS.out.1 HL.out HS.out.2.1 HS.out.2.2)
        have HFF : Hid (Farm w (base6 qb #[.int .u8 x0, .int .u8 x1] q #[.int .i64 4, .int .i64 2, .int .i64 (n : Int)] bm (rowCells (filled (put70 z) L L)) gw hw gx hx gy hy s0 s0 s0 ++ [tT I ga Fa (tk0 4 2 n 0 (cls x0)), pT J gb Fb (pk0 4 2 n 1 (cls x1) (slt x1) 3)]) w5) := Lib.hid hF7
        clear hF7
        refine at_worldG (w := w5) HFF.out ?_
        clear HFF
        intro W4 hF
        have HF := Lib.hid hF
        have HFB : Hid (∀ W, Off [] W4 W → (W.cell? ⟨q, 0, none⟩ = some (.int .i64 4) ∧ W.cell? ⟨q, 1, none⟩ = some (.int .i64 2) ∧ W.cell? ⟨q, 2, none⟩ = some (.int .i64 (n : Int))) ∧ W.cell? ⟨qb, 0, none⟩ = some (.int .u8 x0) ∧ W.cell? ⟨qb, 1, none⟩ = some (.int .u8 x1)) := Lib.hid (fun W o => ⟨shp_cells (show Blk W q 24 _ from (HF.out.off0 o).now (i := 1) rfl), cells2 (show Blk W qb 56 _ from (HF.out.off0 o).now (i := 0) rfl)⟩)
        clear hF HFA
        go_upto_region 16 with fail
        refine wp_region_noPanic ?_
        refine wp_region_held_drew (S := fun w' => (w'.cell? ⟨q, 0, none⟩ = some (.int .i64 4) ∧ w'.cell? ⟨q, 1, none⟩ = some (.int .i64 2) ∧ w'.cell? ⟨q, 2, none⟩ = some (.int .i64 (n : Int))) ∧ w'.cell? ⟨qb, 0, none⟩ = some (.int .u8 x0) ∧ w'.cell? ⟨qb, 1, none⟩ = some (.int .u8 x1)) (by kernel_rfl) (HFB.out _ (Off.refl [] W4).drew) (fun hHeld => ?_)
        have o := (Off.refl [] W4).drew
        refine wpAnyH_take (i := 0) (v := ?_) rfl (by kernel_rfl) (by kernel_rfl) (by kernel_rfl) (fun _ _ _ h => h) (Or.inl ⟨by rfl, ?_⟩) (by assumption) ?_
        rotate_left
        · intro w hSw
          try dsimp only at hSw
          go_simp
          first | done | with_reducible rfl
        try simp only [List.getElem_toArray, List.getElem_cons_zero, Act.put, List.setIfInBounds_toArray, List.set_cons_zero, List.set_cons_succ]
        refine wpAnyH_take (i := 1) (v := ?_) rfl (by kernel_rfl) (by kernel_rfl) (by kernel_rfl) (fun _ _ _ h => h) (Or.inl ⟨by rfl, ?_⟩) (by assumption) ?_
        rotate_left
        · intro w hSw
          try dsimp only at hSw
          go_simp
          first | done | with_reducible rfl
        try simp only [List.getElem_toArray, List.getElem_cons_succ, List.getElem_cons_zero, Act.put, List.setIfInBounds_toArray, List.set_cons_zero, List.set_cons_succ]
        refine wpAnyH_take (i := 2) (v := ?_) rfl (by kernel_rfl) (by kernel_rfl) (by kernel_rfl) (fun _ _ _ h => h) (Or.inl ⟨by rfl, ?_⟩) (by assumption) ?_
        rotate_left
        · intro w hSw
          try dsimp only at hSw
          go_simp
          first | done | with_reducible rfl
        try simp only [List.getElem_toArray, List.getElem_cons_succ, List.getElem_cons_zero, Act.put, List.setIfInBounds_toArray, List.set_cons_zero, List.set_cons_succ]
        refine wpAnyH_take (i := 3) (v := ?_) rfl (by kernel_rfl) (by kernel_rfl) (by kernel_rfl) (fun _ _ _ h => h) (Or.inl ⟨by rfl, ?_⟩) (by assumption) ?_
        rotate_left
        · intro w hSw
          try dsimp only at hSw
          go_simp
          first | done | with_reducible rfl
        try simp only [List.getElem_toArray, List.getElem_cons_succ, List.getElem_cons_zero, Act.put, List.setIfInBounds_toArray, List.set_cons_zero, List.set_cons_succ]
        refine wpAnyH_take (i := 4) (v := ?_) rfl (by kernel_rfl) (by kernel_rfl) (by kernel_rfl) (fun _ _ _ h => h) (Or.inl ⟨by rfl, ?_⟩) (by assumption) ?_
        rotate_left
        · intro w hSw
          try dsimp only at hSw
          go_simp
          first | done | with_reducible rfl
        try simp only [List.getElem_toArray, List.getElem_cons_succ, List.getElem_cons_zero, Act.put, List.setIfInBounds_toArray, List.set_cons_zero, List.set_cons_succ]
        refine wpAnyH_take (i := 6) (v := ?_) rfl (by kernel_rfl) (by kernel_rfl) (by kernel_rfl) (fun _ _ _ h => h) (Or.inl ⟨by rfl, ?_⟩) (by assumption) ?_
        rotate_left
        · intro w hSw
          try dsimp only at hSw
          go_simp
          first | done | with_reducible rfl
        try simp only [List.getElem_toArray, List.getElem_cons_succ, List.getElem_cons_zero, Act.put, List.setIfInBounds_toArray, List.set_cons_zero, List.set_cons_succ]
        refine wpAnyH_take (i := 7) (v := ?_) rfl (by kernel_rfl) (by kernel_rfl) (by kernel_rfl) (fun _ _ _ h => h) (Or.inl ⟨by rfl, ?_⟩) (by assumption) ?_
        rotate_left
        · intro w hSw
          try dsimp only at hSw
          go_simp
          first | done | with_reducible rfl
        try simp only [List.getElem_toArray, List.getElem_cons_succ, List.getElem_cons_zero, Act.put, List.setIfInBounds_toArray, List.set_cons_zero, List.set_cons_succ]
        refine wpAnyH_take (i := 8) (v := ?_) rfl (by kernel_rfl) (by kernel_rfl) (by kernel_rfl) (fun _ _ _ h => h) (Or.inl ⟨by rfl, ?_⟩) (by assumption) ?_
        rotate_left
        · intro w hSw
          try dsimp only at hSw
          go_simp
          first | done | with_reducible rfl
        try simp only [List.getElem_toArray, List.getElem_cons_succ, List.getElem_cons_zero, Act.put, List.setIfInBounds_toArray, List.set_cons_zero, List.set_cons_succ]
        refine wpAnyH_take (i := 9) (v := ?_) rfl (by kernel_rfl) (by kernel_rfl) (by kernel_rfl) (fun _ _ _ h => h) (Or.inl ⟨by rfl, ?_⟩) (by assumption) ?_
        rotate_left
        · intro w hSw
          try dsimp only at hSw
          go_simp
          first | done | with_reducible rfl
        try simp only [List.getElem_toArray, List.getElem_cons_succ, List.getElem_cons_zero, Act.put, List.setIfInBounds_toArray, List.set_cons_zero, List.set_cons_succ]
        refine wpAnyH_take (i := 10) (v := ?_) rfl (by kernel_rfl) (by kernel_rfl) (by kernel_rfl) (fun _ _ _ h => h) (Or.inl ⟨by rfl, ?_⟩) (by assumption) ?_
        rotate_left
        · intro w hSw
          try dsimp only at hSw
          go_simp
          first | done | with_reducible rfl
        try simp only [List.getElem_toArray, List.getElem_cons_succ, List.getElem_cons_zero, Act.put, List.setIfInBounds_toArray, List.set_cons_zero, List.set_cons_succ]
        refine wpAnyH_take (i := 11) (v := ?_) rfl (by kernel_rfl) (by kernel_rfl) (by kernel_rfl) (fun _ _ _ h => h) (Or.inl ⟨by rfl, ?_⟩) (by assumption) ?_
        rotate_left
        · intro w hSw
          try dsimp only at hSw
          go_simp
          first | done | with_reducible rfl
        try simp only [List.getElem_toArray, List.getElem_cons_succ, List.getElem_cons_zero, Act.put, List.setIfInBounds_toArray, List.set_cons_zero, List.set_cons_succ]
        refine wpAnyH_take (i := 12) (v := ?_) rfl (by kernel_rfl) (by kernel_rfl) (by kernel_rfl) (fun _ _ _ h => h) (Or.inl ⟨by rfl, ?_⟩) (by assumption) ?_
        rotate_left
        · intro w hSw
          try dsimp only at hSw
          go_simp
          first | done | with_reducible rfl
        try simp only [List.getElem_toArray, List.getElem_cons_succ, List.getElem_cons_zero, Act.put, List.setIfInBounds_toArray, List.set_cons_zero, List.set_cons_succ]
        refine wpAnyH_take (i := 13) (v := ?_) rfl (by kernel_rfl) (by kernel_rfl) (by kernel_rfl) (fun _ _ _ h => h) (Or.inl ⟨by rfl, ?_⟩) (by assumption) ?_
        rotate_left
        · intro w hSw
          try dsimp only at hSw
          go_simp
          first | done | with_reducible rfl
        try simp only [List.getElem_toArray, List.getElem_cons_succ, List.getElem_cons_zero, Act.put, List.setIfInBounds_toArray, List.set_cons_zero, List.set_cons_succ]
        refine wpAnyH_take (i := 14) (v := ?_) rfl (by kernel_rfl) (by kernel_rfl) (by kernel_rfl) (fun _ _ _ h => h) (Or.inl ⟨by rfl, ?_⟩) (by assumption) ?_
        rotate_left
        · intro w hSw
          try dsimp only at hSw
          go_simp
          first | done | with_reducible rfl
        try simp only [List.getElem_toArray, List.getElem_cons_succ, List.getElem_cons_zero, Act.put, List.setIfInBounds_toArray, List.set_cons_zero, List.set_cons_succ]
        refine wpAnyH_take (i := 15) (v := ?_) rfl (by kernel_rfl) (by kernel_rfl) (by kernel_rfl) (fun _ _ _ h => h) (Or.inl ⟨by rfl, ?_⟩) (by assumption) ?_
        rotate_left
        · intro w hSw
          try dsimp only at hSw
          go_simp
          first | done | with_reducible rfl
        try simp only [List.getElem_toArray, List.getElem_cons_succ, List.getElem_cons_zero, Act.put, List.setIfInBounds_toArray, List.set_cons_zero, List.set_cons_succ]
        refine wpAnyH_ready (rs := [5]) (by kernel_rfl) (by simp) (AllReadyH.cons rfl (fun K hK => ?_) AllReadyH.nil)
        go_simp
        go_wp2_with (go_at_call 11; refine (HC.out.new _ _ _ _ _ _).mono ?_; rintro e w4 ⟨⟨gu, Fu, rfl, hi, hf⟩, oa⟩)
        refine hK.out _ _ (HFB.out _ (o.trans oa)) (fun hHeld => ?_)
        clear hK K
        try simp only [List.getElem_toArray, List.getElem_cons_succ, List.getElem_cons_zero, Act.put, List.setIfInBounds_toArray, List.set_cons_zero, List.set_cons_succ]
        refine wpAnyH_ready (rs := [16]) (by kernel_rfl) (by simp) (AllReadyH.cons rfl (fun K hK => ?_) AllReadyH.nil)
        go_simp
        go_wp2_with (go_at_call 12; refine (HD.out.new _ _ _ _ _ _ _ _).mono ?_; rintro e w5 ⟨⟨gv, Fv, rfl, hj, hg⟩, ob⟩)
        refine hK.out _ _ (HFB.out _ ((o.trans oa).trans ob)) (fun hHeld => ?_)
        clear hK K
        try simp only [List.getElem_toArray, List.getElem_cons_succ, List.getElem_cons_zero, Act.put, List.setIfInBounds_toArray, List.set_cons_zero, List.set_cons_succ]
        refine wpAnyH_take (i := 17) (v := ?_) rfl (by kernel_rfl) (by kernel_rfl) (by kernel_rfl) (fun _ _ _ h => h) (Or.inl ⟨by rfl, ?_⟩) (by assumption) ?_
        rotate_left
        · intro w hSw
          try dsimp only at hSw
          go_simp
          first | done | with_reducible rfl
        try simp only [List.getElem_toArray, List.getElem_cons_succ, List.getElem_cons_zero, Act.put, List.setIfInBounds_toArray, List.set_cons_zero, List.set_cons_succ]
        refine wpAnyH_take (i := 18) (v := ?_) rfl (by kernel_rfl) (by kernel_rfl) (by kernel_rfl) (fun _ _ _ h => h) (Or.inl ⟨by rfl, ?_⟩) (by assumption) ?_
        rotate_left
        · intro w hSw
          try dsimp only at hSw
          go_simp
          first | done | with_reducible rfl
        try simp only [List.getElem_toArray, List.getElem_cons_succ, List.getElem_cons_zero, Act.put, List.setIfInBounds_toArray, List.set_cons_zero, List.set_cons_succ]
        refine wpAnyH_done (by kernel_rfl) ?_ _
        refine NoPanic.normal ?_
        have hF7 := duo_start HE0.out (Farm.two (HF.out.off0 o) oa (tT_is HC.out hi) hf ob (pT_is HD.out hj) hg)
        clear hHeld hi hf oa hj hg ob o HF HFB
        generalize tk0 4 2 n 0 (cls x0) = t0 at *
        generalize pk0 4 2 n 1 (cls x1) (slt x1) 3 = p0 at *
        have HDU := Lib.hid hF7
        clear hF7
        go_wp2_with fail
        go_loopw [18] (fun i wr => TurnRel I J w n t0 p0 s0 qb #[.int .u8 x0, .int .u8 x1] q #[.int .i64 4, .int .i64 2, .int .i64 (n : Int)] bm (rowCells (filled (put70 z) L L)) gw hw gx hx gy hy ga gb gu gv len2 i wr) (fun i _ => len2 - (intOf i).toNat)
        case atStart => exact ⟨0, by omega, rfl, _, _, _, _, _, _, _, rfl, HDU.out⟩
        case round =>
          obtain ⟨k, hk, rfl, ia, ib, s, Ga, Gb, Gu, Gv, hsum, hD⟩ := hrel
          have HD1 := Lib.hid hD
          clear hD HDU
          by_cases hlt : k < len2
          · have d3 : decide ((k : Int) < (len2 : Int)) = true := by simp; omega
            have hki : (k : Int) < (len2 : Int) := by omega
            obtain ⟨tb, toff, rfl, htb, -, -, hcell⟩ := HRB.out.some_ (by omega)
            have hc0 := (HD1.out.f.off.cell (p := ⟨tb, toff + k, none⟩) htb (by simp)).trans (hcell k hlt)
            have HSU := Lib.hid hsum
            clear hcell htb hsum
            cases hz : z2 k
            · rw [hz] at hc0
              go_wp2_with (go_at_call 13; refine (duo_a HC.out HE0.out HD1.out (by have := HSU.out; omega)).mono ?_; rintro e w6 ⟨rfl, Fa6, h6⟩)
              go_roundw
              case rel => exact ⟨k + 1, by omega, by go_num, ia + 1, ib, _, _, _, _, _, by have := HSU.out; omega, h6⟩
              case measure => simp [intOf]; omega
            · rw [hz] at hc0
              go_wp2_with (go_at_call 14; refine (duo_b HD.out HE0.out HD1.out (by have := HSU.out; omega)).mono ?_; rintro e w6 ⟨rfl, Fb6, h6⟩)
              go_roundw
              case rel => exact ⟨k + 1, by omega, by go_num, ia, ib + 1, _, _, _, _, _, by have := HSU.out; omega, h6⟩
              case measure => simp [intOf]; omega
          · obtain rfl : k = len2 := by omega
            have d3 : decide ((k : Int) < (k : Int)) = false := by simp
            have HSU := Lib.hid hsum
            clear hsum hlt hk
            go_wp2_with fail
            go_loopw [19] (fun i wr => EndRel I J w n t0 p0 s0 qb #[.int .u8 x0, .int .u8 x1] q #[.int .i64 4, .int .i64 2, .int .i64 (n : Int)] bm (rowCells (filled (put70 z) L L)) gw hw gx hx gy hy ga gb gu gv k i wr) (fun i _ => n + 2 - (intOf i).toNat)
            case atStart => exact ⟨0, by omega, rfl, ia, ib, _, _, _, _, _, HSU.out, HD1.out⟩
            case round =>
              clear HSU HD1
              obtain ⟨r, hr, rfl, ia, ib, s, Ga, Gb, Gu, Gv, hsum, hD⟩ := hrel
              obtain ⟨c0, c1, c2⟩ := shp_cells (show Blk wr q 24 _ from hD.f.now (i := 1) rfl)
              have HD1 := Lib.hid hD
              have HSU := Lib.hid hsum
              clear hD hsum
              by_cases hlt : r < n + 2
              · have d4 : decide ((r : Int) < (n : Int) + 2) = true := by simp; omega
                go_wp2_with (first
                  | (go_at_call 13; refine (duo_a HC.out HE0.out HD1.out (by have := HSU.out; omega)).mono ?_; rintro e w6 ⟨rfl, Fa6, h6⟩; have HD2 := Lib.hid h6; clear h6 HD1)
                  | (go_at_call 14; refine (duo_b HD.out HE0.out HD2.out (by have := HSU.out; omega)).mono ?_; rintro e w7 ⟨rfl, Fb7, h7⟩; have HD3 := Lib.hid h7; clear h7 HD2)
                  | (go_at_call 13; refine (duo_u HC.out HE0.out HD3.out (by omega)).mono ?_; rintro e w8 ⟨rfl, Fu8, h8⟩; have HD4 := Lib.hid h8; clear h8 HD3)
                  | (go_at_call 14; refine (duo_v HD.out HE0.out HD4.out (by omega)).mono ?_; rintro e w9 ⟨rfl, Fv9, h9⟩; have HD5 := Lib.hid h9; clear h9 HD4))
                go_roundw
                case rel => exact ⟨r + 1, by omega, by go_num, ia, ib, _, _, _, _, _, HSU.out, HD5.out⟩
                case measure => simp [intOf]; omega
              · obtain rfl : r = n + 2 := by omega
                have d4 : decide (((n + 2 : Nat) : Int) < (n : Int) + 2) = false := by simp
                obtain ⟨tf, pf, sx, sy, hfin⟩ := duo_end HE0.out HD1.out
                obtain ⟨fa, fb, ff, hfound⟩ := found_one HC.out tf
                have HFI := Lib.hid hfin
                have HFO := Lib.hid hfound
                clear hfin hfound HD1 HSU HE0
                clear hlt hr
                go_wp2_with (first
                  | (go_at_call 23; refine (HFO.out _ _ _ (HFI.out.f.now (i := 6) rfl)).mono ?_; rintro e w6 ⟨rfl, o6⟩; have HF1 := Lib.hid (HFI.out.off0 o6); clear HFI o6)
                  | (go_at_call 23; refine (HFO.out _ _ _ (HF1.out.f.now (i := 8) rfl)).mono ?_; rintro e w7 ⟨rfl, o7⟩; have HF2 := Lib.hid (HF1.out.off0 o7); clear HF1 o7)
                  | (go_at_call 16; refine (HC.out.done (HF2.out.f.now (i := 6) rfl)).mono ?_; rintro e w8 ⟨rfl, o8⟩; rw [HF2.out.ot]; have HF3 := Lib.hid (HF2.out.off0 o8); clear HF2 o8)
                  | (go_at_call 15; refine (HD.out.done (HF3.out.f.now (i := 7) rfl)).mono ?_; rintro e w9 ⟨rfl, o9⟩; rw [HF3.out.op]; have HF4 := Lib.hid (HF3.out.off0 o9); clear HF3 o9)
                  | (go_at_call 18; refine (HD.out.put (HF4.out.f.now (i := 7) rfl)).mono ?_; rintro e w10 ⟨rfl, o10⟩; have HF5 := Lib.hid (HF4.out.off0 o10); clear HF4 o10)
                  | (go_at_call 18; refine (HD.out.put (HF5.out.f.now (i := 9) rfl)).mono ?_; rintro e w11 ⟨rfl, o11⟩; have HF6 := Lib.hid (HF5.out.off0 o11); clear HF5 o11))
                clear c0 c1 c2
                go_loopw [26] (fun i wr => LookRel I J w n s0.row.length qb #[.int .u8 x0, .int .u8 x1] q #[.int .i64 4, .int .i64 2, .int .i64 (n : Int)] bm (rowCells (filled (put70 z) L L)) gw hw gx hx gy hy ga gb gu gv tf pf s sx sy Ga Gb Gu Gv i wr) (fun i _ => n - (intOf i).toNat)
                case atStart => exact ⟨0, by omega, rfl, HF6.out⟩
                case round =>
                  obtain ⟨j, hj, rfl, hfin⟩ := hrel
                  have HSQ : Hid (∀ W, Off [] wr W → W.cell? ⟨q, 0, none⟩ = some (.int .i64 4) ∧ W.cell? ⟨q, 1, none⟩ = some (.int .i64 2) ∧ W.cell? ⟨q, 2, none⟩ = some (.int .i64 (n : Int))) := Lib.hid (fun W o => shp_cells (show Blk W q 24 _ from (hfin.f.off0 o).now (i := 1) rfl))
                  obtain ⟨c0, c1, c2⟩ := HSQ.out _ (Off.refl _ _)
                  have HFJ := Lib.hid hfin
                  clear hfin HF6
                  by_cases hjn : j < n
                  · have d5 : decide ((j : Int) < (n : Int)) = true := by simp; omega
                    obtain ⟨pa, hpa⟩ : ∃ pa : Nat, pa = 70 + j := ⟨_, rfl⟩
                    obtain ⟨pb, hpb⟩ : ∃ pb : Nat, pb = 70 + (n + j) := ⟨_, rfl⟩
                    have hm0 : magI 4 2 n 0 j = (pa : Int) := by
                      have h := mag_70 (c := 0) (cn := 0) hn8 (by decide) hjn (by omega)
                      rw [show ((0 : Nat) : Int) = 0 from rfl] at h
                      rw [h, hpa, Nat.zero_add]
                    have hm1 : magI 4 2 n 1 j = (pb : Int) := by
                      have h := mag_70 (c := 1) (cn := n) hn8 (by decide) hjn (by omega)
                      rw [show ((1 : Nat) : Int) = 1 from rfl] at h
                      rw [h, hpb]
                    have hll := HL.out
                    have hs1 := HS.out.1
                    have hsl := HFJ.out.len
                    have hla : pa < L ∧ pb < L := by omega
                    have hxa := HFJ.out.a j hjn
                    have hxb := HFJ.out.b j hjn
                    rw [← hpa] at hxa
                    rw [← hpb] at hxb
                    have HMA := Lib.hid hm0
                    have HMB := Lib.hid hm1
                    have HA3 : Hid (∀ W, Off [] wr W → Calls Try.prog 28 #[.pointer (some ⟨gw, 0, none⟩), .int .i64 (pa : Int)] W fun e w' => e = .returned (.int .u64 (s.at pa)) ∧ Off [] W w') := Lib.hid (fun W o => (look_i ((HFJ.out.f.off0 o).now (i := 3) rfl) _ pa rfl (by rw [hsl.1, hs1]; exact hla.1)).mono fun _ _ h => ⟨h.1, h.2 ▸ Off.refl _ _⟩)
                    have HB3 : Hid (∀ W, Off [] wr W → Calls Try.prog 28 #[.pointer (some ⟨gw, 0, none⟩), .int .i64 (pb : Int)] W fun e w' => e = .returned (.int .u64 (s.at pb)) ∧ Off [] W w') := Lib.hid (fun W o => (look_i ((HFJ.out.f.off0 o).now (i := 3) rfl) _ pb rfl (by rw [hsl.1, hs1]; exact hla.2)).mono fun _ _ h => ⟨h.1, h.2 ▸ Off.refl _ _⟩)
                    have HA4 : Hid (∀ W, Off [] wr W → Calls Try.prog 28 #[.pointer (some ⟨gx, 0, none⟩), .int .i64 (pa : Int)] W fun e w' => e = .returned (.int .u64 (s.at pa)) ∧ Off [] W w') := Lib.hid (fun W o => (look_i ((HFJ.out.f.off0 o).now (i := 4) rfl) _ pa rfl (by rw [hsl.2.1, hs1]; exact hla.1)).mono fun _ _ h => ⟨by rw [hxa]; exact h.1, h.2 ▸ Off.refl _ _⟩)
                    have HB5 : Hid (∀ W, Off [] wr W → Calls Try.prog 28 #[.pointer (some ⟨gy, 0, none⟩), .int .i64 (pb : Int)] W fun e w' => e = .returned (.int .u64 (s.at pb)) ∧ Off [] W w') := Lib.hid (fun W o => (look_i ((HFJ.out.f.off0 o).now (i := 5) rfl) _ pb rfl (by rw [hsl.2.2, hs1]; exact hla.2)).mono fun _ _ h => ⟨by rw [hxb]; exact h.1, h.2 ▸ Off.refl _ _⟩)
                    generalize s.at pa = xa at *
                    generalize s.at pb = xb at *
                    clear hm0 hm1 hll hs1 hsl hla hxa hxb hpa hpb
                    go_upto_region 39 with fail
                    clear c0 c1 c2
                    refine told_region (S := fun w' => (w'.cell? ⟨q, 0, none⟩ = some (.int .i64 4) ∧ w'.cell? ⟨q, 1, none⟩ = some (.int .i64 2) ∧ w'.cell? ⟨q, 2, none⟩ = some (.int .i64 (n : Int))) ∧ Off [] wr w') (by kernel_rfl) (by kernel_rfl) ⟨HSQ.out _ (Off.refl [] wr).drew, (Off.refl [] wr).drew⟩ ?_
                    refine told_take (i := 0) (v := ?_) rfl (by kernel_rfl) (by kernel_rfl) (Or.inl ⟨by rfl, ?_⟩) ?_
                    rotate_left
                    · intro w hSw
                      try dsimp only at hSw
                      go_simp
                      first | done | with_reducible rfl
                    try simp only [List.getElem_toArray, List.getElem_cons_zero, Act.put, List.setIfInBounds_toArray, List.set_cons_zero, List.set_cons_succ]
                    refine told_take (i := 1) (v := ?_) rfl (by kernel_rfl) (by kernel_rfl) (Or.inl ⟨by rfl, ?_⟩) ?_
                    rotate_left
                    · intro w hSw
                      try dsimp only at hSw
                      go_simp
                      first | done | with_reducible rfl
                    try simp only [List.getElem_toArray, List.getElem_cons_succ, List.getElem_cons_zero, Act.put, List.setIfInBounds_toArray, List.set_cons_zero, List.set_cons_succ]
                    refine told_take (i := 2) (v := ?_) rfl (by kernel_rfl) (by kernel_rfl) (Or.inl ⟨by rfl, ?_⟩) ?_
                    rotate_left
                    · intro w hSw
                      try dsimp only at hSw
                      go_simp
                      first | done | with_reducible rfl
                    try simp only [List.getElem_toArray, List.getElem_cons_succ, List.getElem_cons_zero, Act.put, List.setIfInBounds_toArray, List.set_cons_zero, List.set_cons_succ]
                    refine told_call (i := 3) (v := .int .i64 (pa : Int)) (f := ?_) (args := ?_) rfl (by kernel_rfl) (by kernel_rfl) (by rfl) ?_ ?_ ?_
                    rotate_left 2
                    · intro w hSw
                      try dsimp only at hSw
                      go_simp
                      first | done | with_reducible rfl | (refine ⟨?_, ?_⟩ <;> rfl)
                    · intro w hSw
                      refine (rmag_any 4 2 n 0 j _).mono ?_
                      rintro e w2 ⟨rfl, o⟩
                      rw [HMA.out]
                      exact ⟨rfl, HSQ.out _ (hSw.2.trans o), hSw.2.trans o⟩
                    try simp only [List.getElem_toArray, List.getElem_cons_succ, List.getElem_cons_zero, Act.put, List.setIfInBounds_toArray, List.set_cons_zero, List.set_cons_succ]
                    refine told_call (i := 4) (v := .int .u64 xa) (f := ?_) (args := ?_) rfl (by kernel_rfl) (by kernel_rfl) (by rfl) ?_ ?_ ?_
                    rotate_left 2
                    · intro w hSw
                      try dsimp only at hSw
                      go_simp
                      first | done | with_reducible rfl | (refine ⟨?_, ?_⟩ <;> rfl)
                    · intro w hSw
                      refine (HA3.out _ hSw.2).mono ?_
                      rintro e w2 ⟨rfl, o⟩
                      exact ⟨rfl, HSQ.out _ (hSw.2.trans o), hSw.2.trans o⟩
                    try simp only [List.getElem_toArray, List.getElem_cons_succ, List.getElem_cons_zero, Act.put, List.setIfInBounds_toArray, List.set_cons_zero, List.set_cons_succ]
                    refine told_take (i := 5) (v := ?_) rfl (by kernel_rfl) (by kernel_rfl) (Or.inl ⟨by rfl, ?_⟩) ?_
                    rotate_left
                    · intro w hSw
                      try dsimp only at hSw
                      go_simp
                      first | done | with_reducible rfl
                    try simp only [List.getElem_toArray, List.getElem_cons_succ, List.getElem_cons_zero, Act.put, List.setIfInBounds_toArray, List.set_cons_zero, List.set_cons_succ]
                    refine told_take (i := 6) (v := ?_) rfl (by kernel_rfl) (by kernel_rfl) (Or.inl ⟨by rfl, ?_⟩) ?_
                    rotate_left
                    · intro w hSw
                      try dsimp only at hSw
                      go_simp
                      first | done | with_reducible rfl
                    try simp only [List.getElem_toArray, List.getElem_cons_succ, List.getElem_cons_zero, Act.put, List.setIfInBounds_toArray, List.set_cons_zero, List.set_cons_succ]
                    refine told_take (i := 7) (v := ?_) rfl (by kernel_rfl) (by kernel_rfl) (Or.inl ⟨by rfl, ?_⟩) ?_
                    rotate_left
                    · intro w hSw
                      try dsimp only at hSw
                      go_simp
                      first | done | with_reducible rfl
                    try simp only [List.getElem_toArray, List.getElem_cons_succ, List.getElem_cons_zero, Act.put, List.setIfInBounds_toArray, List.set_cons_zero, List.set_cons_succ]
                    refine told_call (i := 8) (v := .int .i64 (pa : Int)) (f := ?_) (args := ?_) rfl (by kernel_rfl) (by kernel_rfl) (by rfl) ?_ ?_ ?_
                    rotate_left 2
                    · intro w hSw
                      try dsimp only at hSw
                      go_simp
                      first | done | with_reducible rfl | (refine ⟨?_, ?_⟩ <;> rfl)
                    · intro w hSw
                      refine (rmag_any 4 2 n 0 j _).mono ?_
                      rintro e w2 ⟨rfl, o⟩
                      rw [HMA.out]
                      exact ⟨rfl, HSQ.out _ (hSw.2.trans o), hSw.2.trans o⟩
                    try simp only [List.getElem_toArray, List.getElem_cons_succ, List.getElem_cons_zero, Act.put, List.setIfInBounds_toArray, List.set_cons_zero, List.set_cons_succ]
                    refine told_call (i := 9) (v := .int .u64 xa) (f := ?_) (args := ?_) rfl (by kernel_rfl) (by kernel_rfl) (by rfl) ?_ ?_ ?_
                    rotate_left 2
                    · intro w hSw
                      try dsimp only at hSw
                      go_simp
                      first | done | with_reducible rfl | (refine ⟨?_, ?_⟩ <;> rfl)
                    · intro w hSw
                      refine (HA4.out _ hSw.2).mono ?_
                      rintro e w2 ⟨rfl, o⟩
                      exact ⟨rfl, HSQ.out _ (hSw.2.trans o), hSw.2.trans o⟩
                    try simp only [List.getElem_toArray, List.getElem_cons_succ, List.getElem_cons_zero, Act.put, List.setIfInBounds_toArray, List.set_cons_zero, List.set_cons_succ]
                    refine told_take (i := 10) (v := ?_) rfl (by kernel_rfl) (by kernel_rfl) (Or.inl ⟨by rfl, ?_⟩) ?_
                    rotate_left
                    · intro w hSw
                      try dsimp only at hSw
                      go_simp
                      first | done | with_reducible rfl
                    try simp only [List.getElem_toArray, List.getElem_cons_succ, List.getElem_cons_zero, Act.put, List.setIfInBounds_toArray, List.set_cons_zero, List.set_cons_succ]
                    refine told_take (i := 11) (v := ?_) rfl (by kernel_rfl) (by kernel_rfl) (Or.inl ⟨by rfl, ?_⟩) ?_
                    rotate_left
                    · intro w hSw
                      try dsimp only at hSw
                      go_simp
                      first | done | with_reducible rfl
                    try simp only [List.getElem_toArray, List.getElem_cons_succ, List.getElem_cons_zero, Act.put, List.setIfInBounds_toArray, List.set_cons_zero, List.set_cons_succ]
                    refine told_take (i := 12) (v := ?_) rfl (by kernel_rfl) (by kernel_rfl) (Or.inl ⟨by rfl, ?_⟩) ?_
                    rotate_left
                    · intro w hSw
                      try dsimp only at hSw
                      go_simp
                      first | done | with_reducible rfl
                    try simp only [List.getElem_toArray, List.getElem_cons_succ, List.getElem_cons_zero, Act.put, List.setIfInBounds_toArray, List.set_cons_zero, List.set_cons_succ]
                    refine told_take (i := 13) (v := ?_) rfl (by kernel_rfl) (by kernel_rfl) (Or.inl ⟨by rfl, ?_⟩) ?_
                    rotate_left
                    · intro w hSw
                      try dsimp only at hSw
                      go_simp
                      first | done | with_reducible rfl
                    try simp only [List.getElem_toArray, List.getElem_cons_succ, List.getElem_cons_zero, Act.put, List.setIfInBounds_toArray, List.set_cons_zero, List.set_cons_succ]
                    refine told_take (i := 14) (v := ?_) rfl (by kernel_rfl) (by kernel_rfl) (Or.inl ⟨by rfl, ?_⟩) ?_
                    rotate_left
                    · intro w hSw
                      try dsimp only at hSw
                      go_simp
                      first | done | with_reducible rfl
                    try simp only [List.getElem_toArray, List.getElem_cons_succ, List.getElem_cons_zero, Act.put, List.setIfInBounds_toArray, List.set_cons_zero, List.set_cons_succ]
                    refine told_call (i := 15) (v := .int .i64 (pb : Int)) (f := ?_) (args := ?_) rfl (by kernel_rfl) (by kernel_rfl) (by rfl) ?_ ?_ ?_
                    rotate_left 2
                    · intro w hSw
                      try dsimp only at hSw
                      go_simp
                      first | done | with_reducible rfl | (refine ⟨?_, ?_⟩ <;> rfl)
                    · intro w hSw
                      refine (rmag_any 4 2 n 1 j _).mono ?_
                      rintro e w2 ⟨rfl, o⟩
                      rw [HMB.out]
                      exact ⟨rfl, HSQ.out _ (hSw.2.trans o), hSw.2.trans o⟩
                    try simp only [List.getElem_toArray, List.getElem_cons_succ, List.getElem_cons_zero, Act.put, List.setIfInBounds_toArray, List.set_cons_zero, List.set_cons_succ]
                    refine told_call (i := 16) (v := .int .u64 xb) (f := ?_) (args := ?_) rfl (by kernel_rfl) (by kernel_rfl) (by rfl) ?_ ?_ ?_
                    rotate_left 2
                    · intro w hSw
                      try dsimp only at hSw
                      go_simp
                      first | done | with_reducible rfl | (refine ⟨?_, ?_⟩ <;> rfl)
                    · intro w hSw
                      refine (HB3.out _ hSw.2).mono ?_
                      rintro e w2 ⟨rfl, o⟩
                      exact ⟨rfl, HSQ.out _ (hSw.2.trans o), hSw.2.trans o⟩
                    try simp only [List.getElem_toArray, List.getElem_cons_succ, List.getElem_cons_zero, Act.put, List.setIfInBounds_toArray, List.set_cons_zero, List.set_cons_succ]
                    refine told_take (i := 17) (v := ?_) rfl (by kernel_rfl) (by kernel_rfl) (Or.inl ⟨by rfl, ?_⟩) ?_
                    rotate_left
                    · intro w hSw
                      try dsimp only at hSw
                      go_simp
                      first | done | with_reducible rfl
                    try simp only [List.getElem_toArray, List.getElem_cons_succ, List.getElem_cons_zero, Act.put, List.setIfInBounds_toArray, List.set_cons_zero, List.set_cons_succ]
                    refine told_take (i := 18) (v := ?_) rfl (by kernel_rfl) (by kernel_rfl) (Or.inl ⟨by rfl, ?_⟩) ?_
                    rotate_left
                    · intro w hSw
                      try dsimp only at hSw
                      go_simp
                      first | done | with_reducible rfl
                    try simp only [List.getElem_toArray, List.getElem_cons_succ, List.getElem_cons_zero, Act.put, List.setIfInBounds_toArray, List.set_cons_zero, List.set_cons_succ]
                    refine told_take (i := 19) (v := ?_) rfl (by kernel_rfl) (by kernel_rfl) (Or.inl ⟨by rfl, ?_⟩) ?_
                    rotate_left
                    · intro w hSw
                      try dsimp only at hSw
                      go_simp
                      first | done | with_reducible rfl
                    try simp only [List.getElem_toArray, List.getElem_cons_succ, List.getElem_cons_zero, Act.put, List.setIfInBounds_toArray, List.set_cons_zero, List.set_cons_succ]
                    refine told_call (i := 20) (v := .int .i64 (pb : Int)) (f := ?_) (args := ?_) rfl (by kernel_rfl) (by kernel_rfl) (by rfl) ?_ ?_ ?_
                    rotate_left 2
                    · intro w hSw
                      try dsimp only at hSw
                      go_simp
                      first | done | with_reducible rfl | (refine ⟨?_, ?_⟩ <;> rfl)
                    · intro w hSw
                      refine (rmag_any 4 2 n 1 j _).mono ?_
                      rintro e w2 ⟨rfl, o⟩
                      rw [HMB.out]
                      exact ⟨rfl, HSQ.out _ (hSw.2.trans o), hSw.2.trans o⟩
                    try simp only [List.getElem_toArray, List.getElem_cons_succ, List.getElem_cons_zero, Act.put, List.setIfInBounds_toArray, List.set_cons_zero, List.set_cons_succ]
                    refine told_call (i := 21) (v := .int .u64 xb) (f := ?_) (args := ?_) rfl (by kernel_rfl) (by kernel_rfl) (by rfl) ?_ ?_ ?_
                    rotate_left 2
                    · intro w hSw
                      try dsimp only at hSw
                      go_simp
                      first | done | with_reducible rfl | (refine ⟨?_, ?_⟩ <;> rfl)
                    · intro w hSw
                      refine (HB5.out _ hSw.2).mono ?_
                      rintro e w2 ⟨rfl, o⟩
                      exact ⟨rfl, HSQ.out _ (hSw.2.trans o), hSw.2.trans o⟩
                    try simp only [List.getElem_toArray, List.getElem_cons_succ, List.getElem_cons_zero, Act.put, List.setIfInBounds_toArray, List.set_cons_zero, List.set_cons_succ]
                    refine told_take (i := 22) (v := ?_) rfl (by kernel_rfl) (by kernel_rfl) (Or.inl ⟨by rfl, ?_⟩) ?_
                    rotate_left
                    · intro w hSw
                      try dsimp only at hSw
                      go_simp
                      first | done | with_reducible rfl
                    try simp only [List.getElem_toArray, List.getElem_cons_succ, List.getElem_cons_zero, Act.put, List.setIfInBounds_toArray, List.set_cons_zero, List.set_cons_succ]
                    refine told_take (i := 23) (v := ?_) rfl (by kernel_rfl) (by kernel_rfl) (Or.inl ⟨by rfl, ?_⟩) ?_
                    rotate_left
                    · intro w hSw
                      try dsimp only at hSw
                      go_simp
                      first | done | with_reducible rfl
                    try simp only [List.getElem_toArray, List.getElem_cons_succ, List.getElem_cons_zero, Act.put, List.setIfInBounds_toArray, List.set_cons_zero, List.set_cons_succ]
                    refine told_done (by kernel_rfl) ?_
                    intro w1 hS1
                    have oc := hS1.2
                    clear hS1
                    go_wp2_with fail
                    go_roundw
                    case rel => exact ⟨j + 1, by omega, by go_num, HFJ.out.off0 oc⟩
                    case measure => simp [intOf]; omega
                  · obtain rfl : j = n := by omega
                    have d5 : decide ((j : Int) < (j : Int)) = false := by simp
                    go_wp2_with fail
                    go_ret
                    exact ⟨rfl, HFJ.out.f.off⟩
  · have d1 : decide ((300 : Int) < (len2 : Int)) = true := by simp; omega
    go_enter Try.func6, Try.ntmps6
    go_upto_region 3 with (go_at_call 7; refine (HA.out _).mono ?_; rintro e w1 ⟨rfl, o1⟩)
    go_upto_region 4 with fail
    rw [HN.out]
    go_wp2_with fail
    go_ret
    exact ⟨rfl, (((Off.refl [] w).alloc _).trans o1).alloc _⟩
end Go.Proofs.Ytdnahojpeplajaa.Mag
