/- Stage 7: JudgeAnswers, over the contracts of the program's judge. (Written by tools/judans_gen.py.) -/
import Derived.Test.YtfgkjfneeggbjaaJudS
import Derived.Deep.CutBlock
namespace Go.Proofs.Ytfgkjfneeggbjaa.Jud
open Go.RowKit Mem Go.Proofs.Ytfgkjfneeggbjaa.Mod Go.Proofs.Ytfgkjfneeggbjaa.Plan

theorem want1 {y : Nat} (h3 : y ≠ 3) (h1 : y ≠ 1) (f t : Bool) : wantB 1 y f t = false := by
  have a : ¬ (y : Int) = 3 := by omega
  have b : ¬ (y : Int) = 1 := by omega
  unfold wantB
  simp [a, b]
theorem want2 {y : Nat} (h1 : y ≠ 1) (f t : Bool) : wantB 2 y f t = false := by
  have b : ¬ (y : Int) = 1 := by omega
  unfold wantB
  simp [b]
theorem want3 {y : Nat} (h3 : y ≠ 3) (h1 : y ≠ 1) (f t : Bool) : wantB 3 y f t = false := by
  have a : ¬ (y : Int) = 3 := by omega
  have b : ¬ (y : Int) = 1 := by omega
  unfold wantB
  simp [a, b]
theorem want4 {y : Nat} (h0 : y ≠ 0) (h1 : y ≠ 1) (h4 : y ≠ 4) (h5 : y ≠ 5) (f t : Bool) : wantB 4 y f t = false := by
  have a : ¬ (y : Int) = 0 := by omega
  have b : ¬ (y : Int) = 1 := by omega
  have c : ¬ (y : Int) = 4 := by omega
  have d : ¬ (y : Int) = 5 := by omega
  unfold wantB
  simp [b, c, d]
  omega

set_option maxRecDepth 100000 in
set_option maxHeartbeats 20000000 in
theorem answers_walk {J : HoldJ} {B : HoldB} (C0 : ConJ J B) (k a n : Int) (x : Nat) (hx : x < 256) (block : Bool) (w : World) (hk : inI k) (ha : inI a) (hn : inI n) :
    Calls Try.prog 6 #[.agg #[.int .i64 k, .int .i64 a, .int .i64 n], .int .u8 x, .bool block] w fun e w' => e = .returned (.bool true) ∧ Off [] w w' := by
  have HC := Lib.hid C0
  have HI : Hid ((inv k a n).wf ∧ ∀ r, inI r → (ans k a n r).wf) := Lib.hid ⟨⟨show inI 2 from ⟨by decide, by decide⟩, wf0, hk, ha, hn, wf0, wf0, wf0⟩, fun r hr => ⟨show inI 5 from ⟨by decide, by decide⟩, wf0, hk, ha, hn, wf0, wf0, hr⟩⟩
  obtain ⟨y, hy, hy9⟩ : ∃ y : Nat, x % 9 = y ∧ y ≤ 8 := ⟨_, rfl, by omega⟩
  have ht : (x : Int).tmod 9 = (y : Int) := by rw [Int.tmod_eq_emod_of_nonneg (by omega)]; omega
  have hy1 : (y : Int) ≤ 8 := by omega
  clear C0 hk ha hn
  go_enter Try.func6, Try.ntmps6
  go_upto_region 3 with (go_at_call 7; refine (awake_any HC.out _).mono ?_; rintro e w1 ⟨rfl, o1⟩)
  refine at_worldJ (R := fun W' => Off [] w W' ∧ Blk W' w.heap.size 38 #[.int .i64 k, .int .i64 a, .int .i64 n]) ⟨((Off.refl _ _).alloc _).trans o1, o1.blk (Blk.new _ _ _) (by simp)⟩ ?_
  rintro W1 ⟨oW, hop⟩
  have HOW := Lib.hid oW
  have HOP := Lib.hid hop
  clear o1 oW hop
  go_upto_region 5 with (go_at_call 9; refine (HC.out.new 2 2 0 _).mono ?_; rintro e w3 ⟨g, F, rfl, hj, o3, hf⟩)
  have HL0 : Hid (LiveJ J W1 g F (st0 2 2 0) w3) := Lib.hid ⟨hj, ((Off.refl [] W1).alloc _).trans o3, fun i hi => Nat.le_trans ((Off.refl [] W1).alloc _).size (hf i hi)⟩
  clear hj o3 hf
  go_upto_region 8 with fail
  refine at_worldJ (R := fun W' => ∃ b, b = w3.heap.size ∧ LiveJ J W1 g F (st0 2 2 0) W' ∧ b ∉ F ∧ Blk W' b 38 #[.int .i64 1, .int .i64 0, .int .i64 8]) ⟨_, rfl, HC.out.off0 HL0.out ((Off.refl _ _).alloc _), fun hm => absurd (HC.out.lt HL0.out.i _ hm) (Nat.lt_irrefl _), Blk.new _ _ _⟩ ?_
  rintro W2 ⟨b, hb, hl, hn, hbl⟩
  rw [← hb]
  have h1 := Lib.hid (con_hear2 HC.out hl a1 a1_wf a1_why hn hbl)
  clear hl hn hbl HL0 hb
  go_upto_region 9 with (go_at_call 10; refine h1.out.mono ?_; rintro r w4 ⟨rfl, F4, hl4, hn4, hb4⟩)
  have h2 := Lib.hid (con_hear2 HC.out hl4 a2 a2_wf a2_why hn4 hb4)
  clear h1 hl4 hn4 hb4
  go_upto_region 10 with (go_at_call 10; refine h2.out.mono ?_; rintro r w5 ⟨rfl, F5, hl5, hn5, hb5⟩)
  have HLA : Hid (LiveJ J W1 g F5 sA w5 ∧ b ∉ F5 ∧ Blk w5 b 38 #[.int .i64 1, .int .i64 0, .int .i64 8]) := Lib.hid ⟨hl5, hn5, hb5⟩
  clear h2 hl5 hn5 hb5
  cases block
  · have HLJ := Lib.hid HLA.out.1
    clear HLA
    go_upto_region 14 with fail
    have HS := Lib.hid sA_is
    obtain ⟨c0, c1, c2⟩ := three_cell (HLJ.out.off.blk HOP.out (by simp))
    have HTH : Hid ((atF sA.l a).isSome = false) := Lib.hid (not_yet HS.out.2.1 a)
    have hh := con_hear HC.out HLJ.out (inv k a n) HI.out.1
    rw [inv_why HS.out.1 HS.out.2.2.1 HS.out.2.2.2] at hh
    by_cases hk4 : 1 ≤ k ∧ k ≤ 4
    · rw [if_pos hk4] at hh
      have HH := Lib.hid hh
      have HK := Lib.hid hk4
      clear hh
      have HANS := Lib.hid (fun (r : Int) (hr : 0 ≤ r ∧ r ≤ 8) => ans_why (s := sA) (n := n) HS.out.1 HK.out hr HTH.out)
      go_upto_region 16 with (go_at_call 10; refine HH.out.mono ?_; rintro r w8 ⟨rfl, -, F8, -, h8, -⟩)
      have HL8 := Lib.hid (h8 (by first | trivial | rfl))
      obtain ⟨d0, d1, d2⟩ := three_cell (HL8.out.off.blk HOP.out (by simp))
      have h9 := con_hear HC.out HL8.out (ans k a n y) (HI.out.2 _ ⟨by omega, by omega⟩)
      rw [HANS.out y (by omega)] at h9
      have H9 := Lib.hid h9
      clear h8 h9 HH c0 c1 c2 HANS
      clear HTH
      cases hfi : lengthB n
      · skip
        have HFI := Lib.hid hfi
        rw [hfi] at H9
        clear hfi
        go_upto_block 0 with (go_at_call 15; refine (rlength_any _ _).mono ?_; rintro r w9 ⟨rfl, rfl⟩; rw [HFI.out])
        go_cut [14] from 71 to 121 (fun v wx => v = .bool (wantB k y false false) ∧ wx = w8)
        case first =>
          clear H9 HL8 HI HFI HOP HOW HC
          obtain ⟨h1, h4⟩ := HK.out
          clear HK
          have e4 : k = 1 ∨ k = 2 ∨ k = 3 ∨ k = 4 := by omega
          clear h1 h4 hy9 hy1 ht hy hx
          rcases e4 with rfl | rfl | rfl | rfl
          · by_cases y3 : y = 3
            · subst y3
              go_wp2_with fail
              go_meet
              case rel => exact ⟨rfl, rfl⟩
            by_cases y1 : y = 1
            · subst y1
              go_wp2_with fail
              go_meet
              case rel => exact ⟨rfl, rfl⟩
            have f3 : ((y : Int) == 3) = false := by simp; omega
            have f1 : ((y : Int) == 1) = false := by simp; omega
            have HWN := Lib.hid (want1 y3 y1 false false)
            clear y3 y1
            go_wp2_with fail
            go_meet
            case rel => exact ⟨by rw [HWN.out], rfl⟩
          · by_cases y1 : y = 1
            · subst y1
              go_wp2_with fail
              go_meet
              case rel => exact ⟨rfl, rfl⟩
            have f1 : ((y : Int) == 1) = false := by simp; omega
            have HWN := Lib.hid (want2 y1 false false)
            clear y1
            go_wp2_with fail
            go_meet
            case rel => exact ⟨by rw [HWN.out], rfl⟩
          · by_cases y3 : y = 3
            · subst y3
              go_wp2_with fail
              go_meet
              case rel => exact ⟨rfl, rfl⟩
            by_cases y1 : y = 1
            · subst y1
              go_wp2_with fail
              go_meet
              case rel => exact ⟨rfl, rfl⟩
            have f3 : ((y : Int) == 3) = false := by simp; omega
            have f1 : ((y : Int) == 1) = false := by simp; omega
            have HWN := Lib.hid (want3 y3 y1 false false)
            clear y3 y1
            go_wp2_with fail
            go_meet
            case rel => exact ⟨by rw [HWN.out], rfl⟩
          · by_cases y0 : y = 0
            · subst y0
              go_wp2_with fail
              go_meet
              case rel => exact ⟨rfl, rfl⟩
            by_cases y1 : y = 1
            · subst y1
              go_wp2_with fail
              go_meet
              case rel => exact ⟨rfl, rfl⟩
            by_cases y4 : y = 4
            · subst y4
              go_wp2_with fail
              go_meet
              case rel => exact ⟨rfl, rfl⟩
            by_cases y5 : y = 5
            · subst y5
              go_wp2_with fail
              go_meet
              case rel => exact ⟨rfl, rfl⟩
            have f0 : ((y : Int) == 0) = false := by simp; omega
            have f1 : ((y : Int) == 1) = false := by simp; omega
            have f4 : ((y : Int) == 4) = false := by simp; omega
            have f5 : ((y : Int) == 5) = false := by simp; omega
            have HWN := Lib.hid (want4 y0 y1 y4 y5 false false)
            clear y0 y1 y4 y5
            go_wp2_with fail
            go_meet
            case rel => exact ⟨by rw [HWN.out], rfl⟩
        case rest =>
          obtain ⟨rfl, rfl⟩ := hcut
          go_wp2_with (go_at_call 10; refine H9.out.mono ?_; rintro r wy ⟨rfl, oy, -⟩)
          go_ret
          exact ⟨by simp, HOW.out.trans (offF HL8.out.off oy HL8.out.fresh)⟩
      · skip
        have HFI := Lib.hid hfi
        rw [hfi] at H9
        clear hfi
        go_upto_block 0 with (go_at_call 15; refine (rlength_any _ _).mono ?_; rintro r w9 ⟨rfl, rfl⟩; rw [HFI.out])
        go_cut [14] from 71 to 121 (fun v wx => v = .bool (wantB k y true false) ∧ wx = w8)
        case first =>
          clear H9 HL8 HI HFI HOP HOW HC
          obtain ⟨h1, h4⟩ := HK.out
          clear HK
          have e4 : k = 1 ∨ k = 2 ∨ k = 3 ∨ k = 4 := by omega
          clear h1 h4 hy9 hy1 ht hy hx
          rcases e4 with rfl | rfl | rfl | rfl
          · by_cases y3 : y = 3
            · subst y3
              go_wp2_with fail
              go_meet
              case rel => exact ⟨rfl, rfl⟩
            by_cases y1 : y = 1
            · subst y1
              go_wp2_with fail
              go_meet
              case rel => exact ⟨rfl, rfl⟩
            have f3 : ((y : Int) == 3) = false := by simp; omega
            have f1 : ((y : Int) == 1) = false := by simp; omega
            have HWN := Lib.hid (want1 y3 y1 true false)
            clear y3 y1
            go_wp2_with fail
            go_meet
            case rel => exact ⟨by rw [HWN.out], rfl⟩
          · by_cases y1 : y = 1
            · subst y1
              go_wp2_with fail
              go_meet
              case rel => exact ⟨rfl, rfl⟩
            have f1 : ((y : Int) == 1) = false := by simp; omega
            have HWN := Lib.hid (want2 y1 true false)
            clear y1
            go_wp2_with fail
            go_meet
            case rel => exact ⟨by rw [HWN.out], rfl⟩
          · by_cases y3 : y = 3
            · subst y3
              go_wp2_with fail
              go_meet
              case rel => exact ⟨rfl, rfl⟩
            by_cases y1 : y = 1
            · subst y1
              go_wp2_with fail
              go_meet
              case rel => exact ⟨rfl, rfl⟩
            have f3 : ((y : Int) == 3) = false := by simp; omega
            have f1 : ((y : Int) == 1) = false := by simp; omega
            have HWN := Lib.hid (want3 y3 y1 true false)
            clear y3 y1
            go_wp2_with fail
            go_meet
            case rel => exact ⟨by rw [HWN.out], rfl⟩
          · by_cases y0 : y = 0
            · subst y0
              go_wp2_with fail
              go_meet
              case rel => exact ⟨rfl, rfl⟩
            by_cases y1 : y = 1
            · subst y1
              go_wp2_with fail
              go_meet
              case rel => exact ⟨rfl, rfl⟩
            by_cases y4 : y = 4
            · subst y4
              go_wp2_with fail
              go_meet
              case rel => exact ⟨rfl, rfl⟩
            by_cases y5 : y = 5
            · subst y5
              go_wp2_with fail
              go_meet
              case rel => exact ⟨rfl, rfl⟩
            have f0 : ((y : Int) == 0) = false := by simp; omega
            have f1 : ((y : Int) == 1) = false := by simp; omega
            have f4 : ((y : Int) == 4) = false := by simp; omega
            have f5 : ((y : Int) == 5) = false := by simp; omega
            have HWN := Lib.hid (want4 y0 y1 y4 y5 true false)
            clear y0 y1 y4 y5
            go_wp2_with fail
            go_meet
            case rel => exact ⟨by rw [HWN.out], rfl⟩
        case rest =>
          obtain ⟨rfl, rfl⟩ := hcut
          go_wp2_with (go_at_call 10; refine H9.out.mono ?_; rintro r wy ⟨rfl, oy, -⟩)
          go_ret
          exact ⟨by simp, HOW.out.trans (offF HL8.out.off oy HL8.out.fresh)⟩
    · rw [if_neg hk4] at hh
      have HH := Lib.hid hh
      clear hh
      have HK := Lib.hid hk4
      clear hk4
      go_upto_region 15 with (go_at_call 10; refine HH.out.mono ?_; rintro r w8 ⟨rfl, -, F8, -, -, h8⟩)
      have HO8 := Lib.hid (h8 (by decide)).2
      obtain ⟨d0, d1, d2⟩ := three_cell (HO8.out.blk HOP.out (by simp))
      clear HH h8 c0 c1 c2
      by_cases k1 : k < 1
      · have dk : decide (k < 1) = true := by simpa using k1
        clear k1 HK
        go_wp2_with fail
        go_ret
        exact ⟨rfl, HOW.out.trans HO8.out⟩
      · have dk : decide (k < 1) = false := by simpa using k1
        have dk4 : decide (4 < k) = true := by have := HK.out; simp; omega
        clear k1 HK
        go_wp2_with fail
        go_ret
        exact ⟨rfl, HOW.out.trans HO8.out⟩
  · go_upto_region 11 with fail
    have h3 := Lib.hid (con_hear2 HC.out HLA.out.1 b1 b1_wf b1_why HLA.out.2.1 HLA.out.2.2)
    obtain ⟨x0, x1, x2⟩ := three_cell HLA.out.2.2
    clear HLA
    go_upto_region 12 with (go_at_call 10; refine h3.out.mono ?_; rintro r w6 ⟨rfl, F6, hl6, hn6, hb6⟩)
    have h4 := Lib.hid (con_hear2 HC.out hl6 b2 b2_wf b2_why hn6 hb6)
    clear h3 hl6 hn6 hb6 x0 x1 x2
    go_upto_region 13 with (go_at_call 10; refine h4.out.mono ?_; rintro r w7 ⟨rfl, F7, hl7, hn7, hb7⟩)
    have h5 := Lib.hid (con_hear2 HC.out hl7 b3 b3_wf b3_why hn7 hb7)
    obtain ⟨x0, x1, x2⟩ := three_cell hb7
    clear h4 hl7 hn7 hb7
    go_upto_region 14 with (go_at_call 10; refine h5.out.mono ?_; rintro r wz ⟨rfl, Fz, hlz, -, -⟩)
    have HLJ : Hid (LiveJ J W1 g Fz sB wz) := Lib.hid hlz
    clear h5 hlz x0 x1 x2
    by_cases h16 : a = 16
    · have b16 : (a == 16) = true := by simpa using h16
      have H16 := Lib.hid h16
      clear h16
      have HS := Lib.hid sB_is
      obtain ⟨c0, c1, c2⟩ := three_cell (HLJ.out.off.blk HOP.out (by simp))
      have HTH : Hid ((atF sB.l a).isSome = true) := Lib.hid (by rw [just_one HS.out.2.1 a, decide_eq_true H16.out])
      have hh := con_hear HC.out HLJ.out (inv k a n) HI.out.1
      rw [inv_why HS.out.1 HS.out.2.2.1 HS.out.2.2.2] at hh
      by_cases hk4 : 1 ≤ k ∧ k ≤ 4
      · rw [if_pos hk4] at hh
        have HH := Lib.hid hh
        have HK := Lib.hid hk4
        clear hh
        have HANS := Lib.hid (fun (r : Int) (hr : 0 ≤ r ∧ r ≤ 8) => ans_why (s := sB) (n := n) HS.out.1 HK.out hr HTH.out)
        go_upto_region 16 with (go_at_call 10; refine HH.out.mono ?_; rintro r w8 ⟨rfl, -, F8, -, h8, -⟩)
        have HL8 := Lib.hid (h8 (by first | trivial | rfl))
        obtain ⟨d0, d1, d2⟩ := three_cell (HL8.out.off.blk HOP.out (by simp))
        have h9 := con_hear HC.out HL8.out (ans k a n y) (HI.out.2 _ ⟨by omega, by omega⟩)
        rw [HANS.out y (by omega)] at h9
        have H9 := Lib.hid h9
        clear h8 h9 HH c0 c1 c2 HANS
        clear HTH
        cases hfi : lengthB n
        · skip
          have HFI := Lib.hid hfi
          rw [hfi] at H9
          clear hfi
          go_upto_block 0 with (go_at_call 15; refine (rlength_any _ _).mono ?_; rintro r w9 ⟨rfl, rfl⟩; rw [HFI.out])
          go_cut [14] from 71 to 121 (fun v wx => v = .bool (wantB k y false true) ∧ wx = w8)
          case first =>
            clear H9 HL8 HI HFI HOP HOW HC
            obtain ⟨h1, h4⟩ := HK.out
            clear HK
            have e4 : k = 1 ∨ k = 2 ∨ k = 3 ∨ k = 4 := by omega
            clear h1 h4 hy9 hy1 ht hy hx
            rcases e4 with rfl | rfl | rfl | rfl
            · by_cases y3 : y = 3
              · subst y3
                go_wp2_with fail
                go_meet
                case rel => exact ⟨rfl, rfl⟩
              by_cases y1 : y = 1
              · subst y1
                go_wp2_with fail
                go_meet
                case rel => exact ⟨rfl, rfl⟩
              have f3 : ((y : Int) == 3) = false := by simp; omega
              have f1 : ((y : Int) == 1) = false := by simp; omega
              have HWN := Lib.hid (want1 y3 y1 false true)
              clear y3 y1
              go_wp2_with fail
              go_meet
              case rel => exact ⟨by rw [HWN.out], rfl⟩
            · by_cases y1 : y = 1
              · subst y1
                go_wp2_with fail
                go_meet
                case rel => exact ⟨rfl, rfl⟩
              have f1 : ((y : Int) == 1) = false := by simp; omega
              have HWN := Lib.hid (want2 y1 false true)
              clear y1
              go_wp2_with fail
              go_meet
              case rel => exact ⟨by rw [HWN.out], rfl⟩
            · by_cases y3 : y = 3
              · subst y3
                go_wp2_with fail
                go_meet
                case rel => exact ⟨rfl, rfl⟩
              by_cases y1 : y = 1
              · subst y1
                go_wp2_with fail
                go_meet
                case rel => exact ⟨rfl, rfl⟩
              have f3 : ((y : Int) == 3) = false := by simp; omega
              have f1 : ((y : Int) == 1) = false := by simp; omega
              have HWN := Lib.hid (want3 y3 y1 false true)
              clear y3 y1
              go_wp2_with fail
              go_meet
              case rel => exact ⟨by rw [HWN.out], rfl⟩
            · by_cases y0 : y = 0
              · subst y0
                go_wp2_with fail
                go_meet
                case rel => exact ⟨rfl, rfl⟩
              by_cases y1 : y = 1
              · subst y1
                go_wp2_with fail
                go_meet
                case rel => exact ⟨rfl, rfl⟩
              by_cases y4 : y = 4
              · subst y4
                go_wp2_with fail
                go_meet
                case rel => exact ⟨rfl, rfl⟩
              by_cases y5 : y = 5
              · subst y5
                go_wp2_with fail
                go_meet
                case rel => exact ⟨rfl, rfl⟩
              have f0 : ((y : Int) == 0) = false := by simp; omega
              have f1 : ((y : Int) == 1) = false := by simp; omega
              have f4 : ((y : Int) == 4) = false := by simp; omega
              have f5 : ((y : Int) == 5) = false := by simp; omega
              have HWN := Lib.hid (want4 y0 y1 y4 y5 false true)
              clear y0 y1 y4 y5
              go_wp2_with fail
              go_meet
              case rel => exact ⟨by rw [HWN.out], rfl⟩
          case rest =>
            obtain ⟨rfl, rfl⟩ := hcut
            go_wp2_with (go_at_call 10; refine H9.out.mono ?_; rintro r wy ⟨rfl, oy, -⟩)
            go_ret
            exact ⟨by simp, HOW.out.trans (offF HL8.out.off oy HL8.out.fresh)⟩
        · skip
          have HFI := Lib.hid hfi
          rw [hfi] at H9
          clear hfi
          go_upto_block 0 with (go_at_call 15; refine (rlength_any _ _).mono ?_; rintro r w9 ⟨rfl, rfl⟩; rw [HFI.out])
          go_cut [14] from 71 to 121 (fun v wx => v = .bool (wantB k y true true) ∧ wx = w8)
          case first =>
            clear H9 HL8 HI HFI HOP HOW HC
            obtain ⟨h1, h4⟩ := HK.out
            clear HK
            have e4 : k = 1 ∨ k = 2 ∨ k = 3 ∨ k = 4 := by omega
            clear h1 h4 hy9 hy1 ht hy hx
            rcases e4 with rfl | rfl | rfl | rfl
            · by_cases y3 : y = 3
              · subst y3
                go_wp2_with fail
                go_meet
                case rel => exact ⟨rfl, rfl⟩
              by_cases y1 : y = 1
              · subst y1
                go_wp2_with fail
                go_meet
                case rel => exact ⟨rfl, rfl⟩
              have f3 : ((y : Int) == 3) = false := by simp; omega
              have f1 : ((y : Int) == 1) = false := by simp; omega
              have HWN := Lib.hid (want1 y3 y1 true true)
              clear y3 y1
              go_wp2_with fail
              go_meet
              case rel => exact ⟨by rw [HWN.out], rfl⟩
            · by_cases y1 : y = 1
              · subst y1
                go_wp2_with fail
                go_meet
                case rel => exact ⟨rfl, rfl⟩
              have f1 : ((y : Int) == 1) = false := by simp; omega
              have HWN := Lib.hid (want2 y1 true true)
              clear y1
              go_wp2_with fail
              go_meet
              case rel => exact ⟨by rw [HWN.out], rfl⟩
            · by_cases y3 : y = 3
              · subst y3
                go_wp2_with fail
                go_meet
                case rel => exact ⟨rfl, rfl⟩
              by_cases y1 : y = 1
              · subst y1
                go_wp2_with fail
                go_meet
                case rel => exact ⟨rfl, rfl⟩
              have f3 : ((y : Int) == 3) = false := by simp; omega
              have f1 : ((y : Int) == 1) = false := by simp; omega
              have HWN := Lib.hid (want3 y3 y1 true true)
              clear y3 y1
              go_wp2_with fail
              go_meet
              case rel => exact ⟨by rw [HWN.out], rfl⟩
            · by_cases y0 : y = 0
              · subst y0
                go_wp2_with fail
                go_meet
                case rel => exact ⟨rfl, rfl⟩
              by_cases y1 : y = 1
              · subst y1
                go_wp2_with fail
                go_meet
                case rel => exact ⟨rfl, rfl⟩
              by_cases y4 : y = 4
              · subst y4
                go_wp2_with fail
                go_meet
                case rel => exact ⟨rfl, rfl⟩
              by_cases y5 : y = 5
              · subst y5
                go_wp2_with fail
                go_meet
                case rel => exact ⟨rfl, rfl⟩
              have f0 : ((y : Int) == 0) = false := by simp; omega
              have f1 : ((y : Int) == 1) = false := by simp; omega
              have f4 : ((y : Int) == 4) = false := by simp; omega
              have f5 : ((y : Int) == 5) = false := by simp; omega
              have HWN := Lib.hid (want4 y0 y1 y4 y5 true true)
              clear y0 y1 y4 y5
              go_wp2_with fail
              go_meet
              case rel => exact ⟨by rw [HWN.out], rfl⟩
          case rest =>
            obtain ⟨rfl, rfl⟩ := hcut
            go_wp2_with (go_at_call 10; refine H9.out.mono ?_; rintro r wy ⟨rfl, oy, -⟩)
            go_ret
            exact ⟨by simp, HOW.out.trans (offF HL8.out.off oy HL8.out.fresh)⟩
      · rw [if_neg hk4] at hh
        have HH := Lib.hid hh
        clear hh
        have HK := Lib.hid hk4
        clear hk4
        go_upto_region 15 with (go_at_call 10; refine HH.out.mono ?_; rintro r w8 ⟨rfl, -, F8, -, -, h8⟩)
        have HO8 := Lib.hid (h8 (by decide)).2
        obtain ⟨d0, d1, d2⟩ := three_cell (HO8.out.blk HOP.out (by simp))
        clear HH h8 c0 c1 c2
        by_cases k1 : k < 1
        · have dk : decide (k < 1) = true := by simpa using k1
          clear k1 HK
          go_wp2_with fail
          go_ret
          exact ⟨rfl, HOW.out.trans HO8.out⟩
        · have dk : decide (k < 1) = false := by simpa using k1
          have dk4 : decide (4 < k) = true := by have := HK.out; simp; omega
          clear k1 HK
          go_wp2_with fail
          go_ret
          exact ⟨rfl, HOW.out.trans HO8.out⟩
    · have b16 : (a == 16) = false := by simpa using h16
      have H16 := Lib.hid h16
      clear h16
      have HS := Lib.hid sB_is
      obtain ⟨c0, c1, c2⟩ := three_cell (HLJ.out.off.blk HOP.out (by simp))
      have HTH : Hid ((atF sB.l a).isSome = false) := Lib.hid (by rw [just_one HS.out.2.1 a, decide_eq_false H16.out])
      have hh := con_hear HC.out HLJ.out (inv k a n) HI.out.1
      rw [inv_why HS.out.1 HS.out.2.2.1 HS.out.2.2.2] at hh
      by_cases hk4 : 1 ≤ k ∧ k ≤ 4
      · rw [if_pos hk4] at hh
        have HH := Lib.hid hh
        have HK := Lib.hid hk4
        clear hh
        have HANS := Lib.hid (fun (r : Int) (hr : 0 ≤ r ∧ r ≤ 8) => ans_why (s := sB) (n := n) HS.out.1 HK.out hr HTH.out)
        go_upto_region 16 with (go_at_call 10; refine HH.out.mono ?_; rintro r w8 ⟨rfl, -, F8, -, h8, -⟩)
        have HL8 := Lib.hid (h8 (by first | trivial | rfl))
        obtain ⟨d0, d1, d2⟩ := three_cell (HL8.out.off.blk HOP.out (by simp))
        have h9 := con_hear HC.out HL8.out (ans k a n y) (HI.out.2 _ ⟨by omega, by omega⟩)
        rw [HANS.out y (by omega)] at h9
        have H9 := Lib.hid h9
        clear h8 h9 HH c0 c1 c2 HANS
        clear HTH
        cases hfi : lengthB n
        · skip
          have HFI := Lib.hid hfi
          rw [hfi] at H9
          clear hfi
          go_upto_block 0 with (go_at_call 15; refine (rlength_any _ _).mono ?_; rintro r w9 ⟨rfl, rfl⟩; rw [HFI.out])
          go_cut [14] from 71 to 121 (fun v wx => v = .bool (wantB k y false false) ∧ wx = w8)
          case first =>
            clear H9 HL8 HI HFI HOP HOW HC
            obtain ⟨h1, h4⟩ := HK.out
            clear HK
            have e4 : k = 1 ∨ k = 2 ∨ k = 3 ∨ k = 4 := by omega
            clear h1 h4 hy9 hy1 ht hy hx
            rcases e4 with rfl | rfl | rfl | rfl
            · by_cases y3 : y = 3
              · subst y3
                go_wp2_with fail
                go_meet
                case rel => exact ⟨rfl, rfl⟩
              by_cases y1 : y = 1
              · subst y1
                go_wp2_with fail
                go_meet
                case rel => exact ⟨rfl, rfl⟩
              have f3 : ((y : Int) == 3) = false := by simp; omega
              have f1 : ((y : Int) == 1) = false := by simp; omega
              have HWN := Lib.hid (want1 y3 y1 false false)
              clear y3 y1
              go_wp2_with fail
              go_meet
              case rel => exact ⟨by rw [HWN.out], rfl⟩
            · by_cases y1 : y = 1
              · subst y1
                go_wp2_with fail
                go_meet
                case rel => exact ⟨rfl, rfl⟩
              have f1 : ((y : Int) == 1) = false := by simp; omega
              have HWN := Lib.hid (want2 y1 false false)
              clear y1
              go_wp2_with fail
              go_meet
              case rel => exact ⟨by rw [HWN.out], rfl⟩
            · by_cases y3 : y = 3
              · subst y3
                go_wp2_with fail
                go_meet
                case rel => exact ⟨rfl, rfl⟩
              by_cases y1 : y = 1
              · subst y1
                go_wp2_with fail
                go_meet
                case rel => exact ⟨rfl, rfl⟩
              have f3 : ((y : Int) == 3) = false := by simp; omega
              have f1 : ((y : Int) == 1) = false := by simp; omega
              have HWN := Lib.hid (want3 y3 y1 false false)
              clear y3 y1
              go_wp2_with fail
              go_meet
              case rel => exact ⟨by rw [HWN.out], rfl⟩
            · by_cases y0 : y = 0
              · subst y0
                go_wp2_with fail
                go_meet
                case rel => exact ⟨rfl, rfl⟩
              by_cases y1 : y = 1
              · subst y1
                go_wp2_with fail
                go_meet
                case rel => exact ⟨rfl, rfl⟩
              by_cases y4 : y = 4
              · subst y4
                go_wp2_with fail
                go_meet
                case rel => exact ⟨rfl, rfl⟩
              by_cases y5 : y = 5
              · subst y5
                go_wp2_with fail
                go_meet
                case rel => exact ⟨rfl, rfl⟩
              have f0 : ((y : Int) == 0) = false := by simp; omega
              have f1 : ((y : Int) == 1) = false := by simp; omega
              have f4 : ((y : Int) == 4) = false := by simp; omega
              have f5 : ((y : Int) == 5) = false := by simp; omega
              have HWN := Lib.hid (want4 y0 y1 y4 y5 false false)
              clear y0 y1 y4 y5
              go_wp2_with fail
              go_meet
              case rel => exact ⟨by rw [HWN.out], rfl⟩
          case rest =>
            obtain ⟨rfl, rfl⟩ := hcut
            go_wp2_with (go_at_call 10; refine H9.out.mono ?_; rintro r wy ⟨rfl, oy, -⟩)
            go_ret
            exact ⟨by simp, HOW.out.trans (offF HL8.out.off oy HL8.out.fresh)⟩
        · skip
          have HFI := Lib.hid hfi
          rw [hfi] at H9
          clear hfi
          go_upto_block 0 with (go_at_call 15; refine (rlength_any _ _).mono ?_; rintro r w9 ⟨rfl, rfl⟩; rw [HFI.out])
          go_cut [14] from 71 to 121 (fun v wx => v = .bool (wantB k y true false) ∧ wx = w8)
          case first =>
            clear H9 HL8 HI HFI HOP HOW HC
            obtain ⟨h1, h4⟩ := HK.out
            clear HK
            have e4 : k = 1 ∨ k = 2 ∨ k = 3 ∨ k = 4 := by omega
            clear h1 h4 hy9 hy1 ht hy hx
            rcases e4 with rfl | rfl | rfl | rfl
            · by_cases y3 : y = 3
              · subst y3
                go_wp2_with fail
                go_meet
                case rel => exact ⟨rfl, rfl⟩
              by_cases y1 : y = 1
              · subst y1
                go_wp2_with fail
                go_meet
                case rel => exact ⟨rfl, rfl⟩
              have f3 : ((y : Int) == 3) = false := by simp; omega
              have f1 : ((y : Int) == 1) = false := by simp; omega
              have HWN := Lib.hid (want1 y3 y1 true false)
              clear y3 y1
              go_wp2_with fail
              go_meet
              case rel => exact ⟨by rw [HWN.out], rfl⟩
            · by_cases y1 : y = 1
              · subst y1
                go_wp2_with fail
                go_meet
                case rel => exact ⟨rfl, rfl⟩
              have f1 : ((y : Int) == 1) = false := by simp; omega
              have HWN := Lib.hid (want2 y1 true false)
              clear y1
              go_wp2_with fail
              go_meet
              case rel => exact ⟨by rw [HWN.out], rfl⟩
            · by_cases y3 : y = 3
              · subst y3
                go_wp2_with fail
                go_meet
                case rel => exact ⟨rfl, rfl⟩
              by_cases y1 : y = 1
              · subst y1
                go_wp2_with fail
                go_meet
                case rel => exact ⟨rfl, rfl⟩
              have f3 : ((y : Int) == 3) = false := by simp; omega
              have f1 : ((y : Int) == 1) = false := by simp; omega
              have HWN := Lib.hid (want3 y3 y1 true false)
              clear y3 y1
              go_wp2_with fail
              go_meet
              case rel => exact ⟨by rw [HWN.out], rfl⟩
            · by_cases y0 : y = 0
              · subst y0
                go_wp2_with fail
                go_meet
                case rel => exact ⟨rfl, rfl⟩
              by_cases y1 : y = 1
              · subst y1
                go_wp2_with fail
                go_meet
                case rel => exact ⟨rfl, rfl⟩
              by_cases y4 : y = 4
              · subst y4
                go_wp2_with fail
                go_meet
                case rel => exact ⟨rfl, rfl⟩
              by_cases y5 : y = 5
              · subst y5
                go_wp2_with fail
                go_meet
                case rel => exact ⟨rfl, rfl⟩
              have f0 : ((y : Int) == 0) = false := by simp; omega
              have f1 : ((y : Int) == 1) = false := by simp; omega
              have f4 : ((y : Int) == 4) = false := by simp; omega
              have f5 : ((y : Int) == 5) = false := by simp; omega
              have HWN := Lib.hid (want4 y0 y1 y4 y5 true false)
              clear y0 y1 y4 y5
              go_wp2_with fail
              go_meet
              case rel => exact ⟨by rw [HWN.out], rfl⟩
          case rest =>
            obtain ⟨rfl, rfl⟩ := hcut
            go_wp2_with (go_at_call 10; refine H9.out.mono ?_; rintro r wy ⟨rfl, oy, -⟩)
            go_ret
            exact ⟨by simp, HOW.out.trans (offF HL8.out.off oy HL8.out.fresh)⟩
      · rw [if_neg hk4] at hh
        have HH := Lib.hid hh
        clear hh
        have HK := Lib.hid hk4
        clear hk4
        go_upto_region 15 with (go_at_call 10; refine HH.out.mono ?_; rintro r w8 ⟨rfl, -, F8, -, -, h8⟩)
        have HO8 := Lib.hid (h8 (by decide)).2
        obtain ⟨d0, d1, d2⟩ := three_cell (HO8.out.blk HOP.out (by simp))
        clear HH h8 c0 c1 c2
        by_cases k1 : k < 1
        · have dk : decide (k < 1) = true := by simpa using k1
          clear k1 HK
          go_wp2_with fail
          go_ret
          exact ⟨rfl, HOW.out.trans HO8.out⟩
        · have dk : decide (k < 1) = false := by simpa using k1
          have dk4 : decide (4 < k) = true := by have := HK.out; simp; omega
          clear k1 HK
          go_wp2_with fail
          go_ret
          exact ⟨rfl, HOW.out.trans HO8.out⟩

end Go.Proofs.Ytfgkjfneeggbjaa.Jud
