/- WordsPlays: the walk. (Written by wip/tools/plays_gen.py.) -/
import Derived.Test.YtaegjkpodhkogaaPlaysA
import Derived.Test.YtaegjkpodhkogaaAccEq
import Derived.Deep.RegionHeld3
import Derived.BigQuiet
import Derived.Deep.QuietTactic
namespace Go.Proofs.Ytaegjkpodhkogaa.Words
open Go.RowKit Mem Go.Proofs.Ytaegjkpodhkogaa.Open

set_option maxRecDepth 100000 in
set_option maxHeartbeats 40000000 in
theorem plays_some (a b : Option Addr) (len cap nd capd : Nat) (z : Nat → Int) (zd : Nat → Five) (W : World) (hrow : IsRowU W a len cap z) (hd : IsRowD W b nd capd zd) (h1 : len ≤ 100) (h2 : nd ≤ 60) :
    Calls Try.prog 4 #[.slice a len cap, .slice b nd capd] W fun e w' => e = .returned (.bool true) ∧ Below W.heap.size W w' := by
  have hd1 : decide (100 < (len : Int)) = false := by simp; omega
  have hd2 : decide (60 < (nd : Int)) = false := by simp; omega
  have HR := Lib.hid hrow
  have HD := Lib.hid hd
  clear hrow hd
  go_enter Try.func4, Try.ntmps4
  go_wp2_with (first
    | (go_at_call 8; refine (awake_any _).mono ?_; rintro e w0 ⟨rfl, ho0⟩; have R0 := HR.out.off ho0)
    | (go_at_call 21; refine (fill_any _ len cap z _ R0 (by omega)).mono ?_; rintro e w1 ⟨g, h, rfl, hw1, ho1, hg, hh⟩; have R1 := R0.off ho1; have hlo1 : W.heap.size ≤ w1.heap.size := Nat.le_trans ho0.size ho1.size)
    | (go_at_call 22; refine (model_any W.heap.size _ len cap z _ R1 (by omega) hlo1).mono ?_; rintro e w2 ⟨gm, hm, rfl, hm2, ho2, hgm, hhm⟩))
  have hlh := hw1.row.lt
  have hA0 := ho0.size
  obtain ⟨q5, hq5⟩ : ∃ q5, q5 = w2.heap.size := ⟨_, rfl⟩
  obtain ⟨q6, hq6⟩ : ∃ q6, q6 = w2.heap.size + 1 := ⟨_, rfl⟩
  rw [← hq6, ← hq5]
  have B5 : Blk ((w2.alloc (.cells #[.pointer (some ⟨g, 0, none⟩)] 23)).alloc (.cells #[.pointer (some ⟨gm, 0, none⟩)] 38)) q5 23 #[.pointer (some ⟨g, 0, none⟩)] := by rw [hq5]; exact (Blk.new w2 _ _).alloc _
  have B6 : Blk ((w2.alloc (.cells #[.pointer (some ⟨g, 0, none⟩)] 23)).alloc (.cells #[.pointer (some ⟨gm, 0, none⟩)] 38)) q6 38 #[.pointer (some ⟨gm, 0, none⟩)] := by rw [hq6]; exact new_past _ _ _ _
  clear hq5 hq6
  have HB0 : Play W len g h gm hm q5 q6 0 (St.fill z len len) ((w2.alloc (.cells #[.pointer (some ⟨g, 0, none⟩)] 23)).alloc (.cells #[.pointer (some ⟨gm, 0, none⟩)] 38)) :=
    ⟨Both.off0 ⟨hw1.off ho2 (by simp) (by simp), hm2, by omega, by omega, by omega⟩ (((Off.refl _ _).alloc _).alloc _), filled_length z len len, Int.le_refl 0, Int.le_refl 0, B5, B6, ((((ho0.trans ho1).trans ho2).alloc _).alloc _).nil_below⟩
  have H0 := Lib.hid HB0
  clear HB0 B5 B6
  go_loopw [7] (fun i wr => PlayRel W len nd g h gm hm q5 q6 i wr) (fun i _ => nd - (intOf i).toNat)
  case atStart => exact ⟨0, _, Nat.zero_le _, rfl, H0.out⟩
  case round =>
    clear H0 hw1 hm2 ho0 ho1 ho2 R0 R1 hlo1 hg hh hgm hhm hlh hA0
    obtain ⟨j, s, hj, rfl, hp⟩ := hrel
    by_cases hlt : j < nd
    · obtain ⟨bd, offd, rfl, hbd, hcapd, hmaxd, hcd⟩ := HD.out.some_ (by omega)
      obtain ⟨hwf, hcell⟩ := hcd j hlt
      obtain ⟨⟨o, c, p, u, x⟩, hz⟩ : ∃ d, d = zd j := ⟨_, rfl⟩
      rw [← hz] at hwf hcell
      obtain ⟨d0, d1, d2, d3, d4⟩ := deed_at hbd hcell hp.below
      simp only at d0 d1 d2 d3 d4
      clear hcd hz hcell
      have hji : (j : Int) < (nd : Int) := by omega
      have hjm : nd ≤ 9223372036854775807 := by omega
      have HP := Lib.hid hp
      have c5 := hp.b5.cell 0
      have c6 := hp.b6.cell 0
      clear hp
      by_cases h50 : 5 < o
      · have ho5 : decide (5 < o) = true := by simp; omega
        by_cases h6 : o = 6
        · have ho6 : (o == 6) = true := by simp [h6]
          clear h6
          by_cases hin0 : 0 ≤ p
          · by_cases hin1 : p < (len : Int)
            · as_aux_lemma =>
                obtain ⟨k, rfl⟩ : ∃ k : Nat, p = (k : Int) := ⟨p.toNat, by omega⟩
                have hi0 : decide (0 ≤ (k : Int)) = true := by simp
                have hi1 : decide ((k : Int) < (len : Int)) = true := by simp; omega
                have hkl : k < s.row.length := by rw [HP.out.len]; omega
                go_wp2_with fail
                obtain ⟨w4, h4⟩ : ∃ w4, w4 = ((wr.alloc (.cells #[.int .i64 o, .int .i64 c, .int .i64 (k : Int), .int .u64 u, .int .u64 x] 41)).alloc (.cells #[.bool true] 4)) := ⟨_, rfl⟩
                obtain ⟨q9, h9⟩ : ∃ q, q = wr.heap.size + 1 := ⟨_, rfl⟩
                obtain ⟨q8, h8⟩ : ∃ q, q = wr.heap.size := ⟨_, rfl⟩
                have E4 : Env2 w4 q5 q6 q8 q9 g gm o c (k : Int) u x true := by
                  rw [h4, h8, h9]
                  exact env2_new HP.out.b5 HP.out.b6 o c (k : Int) u x true
                have O4 : Off [] wr w4 := by rw [h4]; exact ((Off.refl _ _).alloc _).alloc _
                have B4 := HP.out.both.off0 O4
                rw [← h4, ← h9, ← h8]
                clear h4 h8 h9
                have e5 := E4.b5.cell 0
                have e6 := E4.b6.cell 0
                have e9 := E4.b9.cell 0
                obtain ⟨l0, l1, l2, l3, l4⟩ := deed_cells E4.b8
                obtain ⟨m0, m1, m2, m3, m4, m5, m6, m7⟩ := B4.ism.cells
                clear m1 m2 m3 m4 m5 m6 m7 d0 d1 d2 d3 d4
                go_region_held3 (fun w' => w'.cell? ⟨q5, 0, none⟩ = some (.pointer (some ⟨g, 0, none⟩)) ∧ w'.cell? ⟨q8, 0, none⟩ = some (.int .i64 o) ∧ w'.cell? ⟨q8, 2, none⟩ = some (.int .i64 (k : Int)) ∧ w'.cell? ⟨q8, 4, none⟩ = some (.int .u64 x) ∧ w'.cell? ⟨q9, 0, none⟩ = some (.bool true)) (first | exact ⟨e5, l0, l2, l4, e9⟩ | exact ⟨f5, k0, k2, k4, f9⟩)
                  (first | (go_at_call 19; refine (put_in (B4.isw.drewN _) k x hkl).mono ?_; rintro e w5 ⟨rfl, hw5, o5'⟩; have O5 : Off [h] w4 w5 := ((Off.refl _ _).drewN _).trans o5'; have E5 := E4.off O5 (by intro k m; simp at m; subst m; exact ⟨_, B4.isw.row⟩); have hm5 := B4.left (by simp) O5; have f5 := E5.b5.cell 0; have f6 := E5.b6.cell 0; have f9 := E5.b9.cell 0; obtain ⟨k0, k1, k2, k3, k4⟩ := deed_cells E5.b8))
                obtain ⟨n0, n1, n2, n3, n4, n5, n6, n7⟩ := hm5.cells
                clear n1 n2 n3 n4 n5 n6 n7
                have nk := hm5.cell_at k hkl
                have nz := hm5.row.free k
                have hkl2 : (k : Int) < (s.row.length : Int) := by omega
                have hap := B4.apart
                have hmn : hm ∉ [h] := by simp; omega
                have hro : ∀ i, i ∈ [hm] → ∃ cs, Blk w5 i 25 cs := by intro i m; simp at m; subst m; exact ⟨_, hm5.row⟩
                have hgm : gm ≠ hm := hm5.ne
                have KP := Lib.hid (fun (W : World) (ho : Off [hm] w5 W) => (⟨(E5.off ho hro).b6.cell 0, (ho.cell (p := ⟨gm, 0, none⟩) (by obtain ⟨cs, hk⟩ := hm5.blk; exact hk.lt) (by simpa using hgm)).trans n0, (deed_cells (E5.off ho hro).b8).2.2.1, (deed_cells (E5.off ho hro).b8).2.2.2.2⟩ :
                  W.cell? ⟨q6, 0, none⟩ = some (.pointer (some ⟨gm, 0, none⟩)) ∧ W.cell? ⟨gm, 0, none⟩ = some (.slice (some ⟨hm, 0, none⟩) s.row.length s.row.length) ∧ W.cell? ⟨q8, 2, none⟩ = some (.int .i64 (k : Int)) ∧ W.cell? ⟨q8, 4, none⟩ = some (.int .u64 x)))
                clear hro
                go_wp2_with fail
                go_region_held3 (fun w' => w'.cell? ⟨q6, 0, none⟩ = some (.pointer (some ⟨gm, 0, none⟩)) ∧ w'.cell? ⟨gm, 0, none⟩ = some (.slice (some ⟨hm, 0, none⟩) s.row.length s.row.length) ∧ w'.cell? ⟨q8, 2, none⟩ = some (.int .i64 (k : Int)) ∧ w'.cell? ⟨q8, 4, none⟩ = some (.int .u64 x)) (first | exact KP.out _ (Off.refl _ _).drew | exact KP.out _ ((Off.refl _ _).drew.set (.inl (by simp)) _) | exact KP.out _ ((Off.refl _ _).set (.inl (by simp)) _).drew)
                  (fail)
                generalize hW6 : World.setCell _ _ _ = w6
                have O6 : Off [hm] w5 w6 := by rw [← hW6]; first | exact (Off.refl _ _).set (.inl (by simp)) _ | exact (Off.refl _ _).drew.set (.inl (by simp)) _
                have M6 : IsM w6 W.heap.size gm hm (s.lay k x) := by rw [← hW6]; first | exact hm5.lay k x | exact (hm5.drewN 1).lay k x
                have B6 : Both w6 W.heap.size g h gm hm (s.lay k x) := ⟨hw5.off O6 (by simp; omega) (by simp; omega), M6, B4.ne, B4.bg, B4.bh⟩
                have E6 := E5.off O6 (by intro i m; simp at m; subst m; exact ⟨_, hm5.row⟩)
                clear hW6 n0 nk nz
                have hkl6 : k < (s.lay k x).row.length := by rw [length_lay]; exact hkl
                have hkl7 : (k : Int) < ((s.lay k x).row.length : Int) := by omega
                have g5 := E6.b5.cell 0
                have g6 := E6.b6.cell 0
                have g9 := E6.b9.cell 0
                obtain ⟨p0, p1, p2, p3, p4⟩ := deed_cells E6.b8
                obtain ⟨n0, n1, n2, n3, n4, n5, n6, n7⟩ := B6.ism.cells
                clear n1 n2 n3 n4 n5 n6 n7
                have nk := B6.ism.cell_at k hkl6
                go_wp2_with fail
                go_quiet ((go_at_call 18; first | exact quiet_al (look_in (B6.isw.drewN _) k hkl6) | exact quiet_l (look_in (B6.isw.drewN _) k hkl6)))
                go_wp2_with fail
                go_roundw
                case rel => exact ⟨j + 1, s.lay k x, by omega, by go_num, play_still HP.out O4 (B6.off0 ((Off.refl _ _).drewN _)) (E6.off (S := []) ((Off.refl _ _).drewN _) (by intro k m; cases m)) (length_lay _ _ _) rfl (((O5.more (by simp)).trans (O6.more (by simp))).trans ((Off.refl _ _).drewN _))⟩
                case measure => simp [intOf]; omega
            · as_aux_lemma =>
                have hi0 : decide (0 ≤ p) = true := by simp; omega
                have hi1 : decide (p < (len : Int)) = false := by simp; omega
                have hpl : ¬ (0 ≤ p ∧ p < (s.row.length : Int)) := by rw [HP.out.len]; omega
                go_wp2_with fail
                obtain ⟨w4, h4⟩ : ∃ w4, w4 = ((wr.alloc (.cells #[.int .i64 o, .int .i64 c, .int .i64 p, .int .u64 u, .int .u64 x] 41)).alloc (.cells #[.bool false] 4)) := ⟨_, rfl⟩
                obtain ⟨q9, h9⟩ : ∃ q, q = wr.heap.size + 1 := ⟨_, rfl⟩
                obtain ⟨q8, h8⟩ : ∃ q, q = wr.heap.size := ⟨_, rfl⟩
                have E4 : Env2 w4 q5 q6 q8 q9 g gm o c p u x false := by
                  rw [h4, h8, h9]
                  exact env2_new HP.out.b5 HP.out.b6 o c p u x false
                have O4 : Off [] wr w4 := by rw [h4]; exact ((Off.refl _ _).alloc _).alloc _
                have B4 := HP.out.both.off0 O4
                rw [← h4, ← h9, ← h8]
                clear h4 h8 h9
                have e5 := E4.b5.cell 0
                have e6 := E4.b6.cell 0
                have e9 := E4.b9.cell 0
                obtain ⟨l0, l1, l2, l3, l4⟩ := deed_cells E4.b8
                obtain ⟨m0, m1, m2, m3, m4, m5, m6, m7⟩ := B4.ism.cells
                clear m1 m2 m3 m4 m5 m6 m7 d0 d1 d2 d3 d4
                go_quiet ((go_at_call 19; exact quiet_l (put_out (B4.isw.drewN _) _ _ hpl)))
                go_wp2_with fail
                go_quiet ((go_at_call 18; first | exact quiet_al (look_out (B4.isw.drewN _) _ hpl) | exact quiet_l (look_out (B4.isw.drewN _) _ hpl)))
                go_wp2_with fail
                go_roundw
                case rel => exact ⟨j + 1, s, by omega, by go_num, play_still HP.out O4 (B4.off0 ((Off.refl _ _).drewN _)) (E4.off (S := []) ((Off.refl _ _).drewN _) (by intro k m; cases m)) rfl rfl ((Off.refl _ _).drewN _)⟩
                case measure => simp [intOf]; omega
          · as_aux_lemma =>
              have hi0 : decide (0 ≤ p) = false := by simp; omega
              have hpl : ¬ (0 ≤ p ∧ p < (s.row.length : Int)) := by omega
              go_wp2_with fail
              obtain ⟨w4, h4⟩ : ∃ w4, w4 = ((wr.alloc (.cells #[.int .i64 o, .int .i64 c, .int .i64 p, .int .u64 u, .int .u64 x] 41)).alloc (.cells #[.bool false] 4)) := ⟨_, rfl⟩
              obtain ⟨q9, h9⟩ : ∃ q, q = wr.heap.size + 1 := ⟨_, rfl⟩
              obtain ⟨q8, h8⟩ : ∃ q, q = wr.heap.size := ⟨_, rfl⟩
              have E4 : Env2 w4 q5 q6 q8 q9 g gm o c p u x false := by
                rw [h4, h8, h9]
                exact env2_new HP.out.b5 HP.out.b6 o c p u x false
              have O4 : Off [] wr w4 := by rw [h4]; exact ((Off.refl _ _).alloc _).alloc _
              have B4 := HP.out.both.off0 O4
              rw [← h4, ← h9, ← h8]
              clear h4 h8 h9
              have e5 := E4.b5.cell 0
              have e6 := E4.b6.cell 0
              have e9 := E4.b9.cell 0
              obtain ⟨l0, l1, l2, l3, l4⟩ := deed_cells E4.b8
              obtain ⟨m0, m1, m2, m3, m4, m5, m6, m7⟩ := B4.ism.cells
              clear m1 m2 m3 m4 m5 m6 m7 d0 d1 d2 d3 d4
              go_quiet ((go_at_call 19; exact quiet_l (put_out (B4.isw.drewN _) _ _ hpl)))
              go_wp2_with fail
              go_quiet ((go_at_call 18; first | exact quiet_al (look_out (B4.isw.drewN _) _ hpl) | exact quiet_l (look_out (B4.isw.drewN _) _ hpl)))
              go_wp2_with fail
              go_roundw
              case rel => exact ⟨j + 1, s, by omega, by go_num, play_still HP.out O4 (B4.off0 ((Off.refl _ _).drewN _)) (E4.off (S := []) ((Off.refl _ _).drewN _) (by intro k m; cases m)) rfl rfl ((Off.refl _ _).drewN _)⟩
              case measure => simp [intOf]; omega
        · have ho6 : (o == 6) = false := by simp [h6]
          clear h6
          by_cases hin0 : 0 ≤ p
          · by_cases hin1 : p < (len : Int)
            · as_aux_lemma =>
                obtain ⟨k, rfl⟩ : ∃ k : Nat, p = (k : Int) := ⟨p.toNat, by omega⟩
                have hi0 : decide (0 ≤ (k : Int)) = true := by simp
                have hi1 : decide ((k : Int) < (len : Int)) = true := by simp; omega
                have hkl : k < s.row.length := by rw [HP.out.len]; omega
                go_wp2_with fail
                obtain ⟨w4, h4⟩ : ∃ w4, w4 = ((wr.alloc (.cells #[.int .i64 o, .int .i64 c, .int .i64 (k : Int), .int .u64 u, .int .u64 x] 41)).alloc (.cells #[.bool true] 4)) := ⟨_, rfl⟩
                obtain ⟨q9, h9⟩ : ∃ q, q = wr.heap.size + 1 := ⟨_, rfl⟩
                obtain ⟨q8, h8⟩ : ∃ q, q = wr.heap.size := ⟨_, rfl⟩
                have E4 : Env2 w4 q5 q6 q8 q9 g gm o c (k : Int) u x true := by
                  rw [h4, h8, h9]
                  exact env2_new HP.out.b5 HP.out.b6 o c (k : Int) u x true
                have O4 : Off [] wr w4 := by rw [h4]; exact ((Off.refl _ _).alloc _).alloc _
                have B4 := HP.out.both.off0 O4
                rw [← h4, ← h9, ← h8]
                clear h4 h8 h9
                have e5 := E4.b5.cell 0
                have e6 := E4.b6.cell 0
                have e9 := E4.b9.cell 0
                obtain ⟨l0, l1, l2, l3, l4⟩ := deed_cells E4.b8
                obtain ⟨m0, m1, m2, m3, m4, m5, m6, m7⟩ := B4.ism.cells
                clear m1 m2 m3 m4 m5 m6 m7 d0 d1 d2 d3 d4
                go_quiet (fail)
                have mk := B4.ism.cell_at k hkl
                have hkl2 : (k : Int) < (s.row.length : Int) := by omega
                go_wp2_with fail
                go_quiet ((go_at_call 18; first | exact quiet_al (look_in (B4.isw.drewN _) k hkl) | exact quiet_l (look_in (B4.isw.drewN _) k hkl)))
                go_wp2_with fail
                go_roundw
                case rel => exact ⟨j + 1, s, by omega, by go_num, play_still HP.out O4 (B4.off0 ((Off.refl _ _).drewN _)) (E4.off (S := []) ((Off.refl _ _).drewN _) (by intro k m; cases m)) rfl rfl ((Off.refl _ _).drewN _)⟩
                case measure => simp [intOf]; omega
            · as_aux_lemma =>
                have hi0 : decide (0 ≤ p) = true := by simp; omega
                have hi1 : decide (p < (len : Int)) = false := by simp; omega
                have hpl : ¬ (0 ≤ p ∧ p < (s.row.length : Int)) := by rw [HP.out.len]; omega
                go_wp2_with fail
                obtain ⟨w4, h4⟩ : ∃ w4, w4 = ((wr.alloc (.cells #[.int .i64 o, .int .i64 c, .int .i64 p, .int .u64 u, .int .u64 x] 41)).alloc (.cells #[.bool false] 4)) := ⟨_, rfl⟩
                obtain ⟨q9, h9⟩ : ∃ q, q = wr.heap.size + 1 := ⟨_, rfl⟩
                obtain ⟨q8, h8⟩ : ∃ q, q = wr.heap.size := ⟨_, rfl⟩
                have E4 : Env2 w4 q5 q6 q8 q9 g gm o c p u x false := by
                  rw [h4, h8, h9]
                  exact env2_new HP.out.b5 HP.out.b6 o c p u x false
                have O4 : Off [] wr w4 := by rw [h4]; exact ((Off.refl _ _).alloc _).alloc _
                have B4 := HP.out.both.off0 O4
                rw [← h4, ← h9, ← h8]
                clear h4 h8 h9
                have e5 := E4.b5.cell 0
                have e6 := E4.b6.cell 0
                have e9 := E4.b9.cell 0
                obtain ⟨l0, l1, l2, l3, l4⟩ := deed_cells E4.b8
                obtain ⟨m0, m1, m2, m3, m4, m5, m6, m7⟩ := B4.ism.cells
                clear m1 m2 m3 m4 m5 m6 m7 d0 d1 d2 d3 d4
                go_quiet (fail)
                go_wp2_with fail
                go_quiet ((go_at_call 18; first | exact quiet_al (look_out (B4.isw.drewN _) _ hpl) | exact quiet_l (look_out (B4.isw.drewN _) _ hpl)))
                go_wp2_with fail
                go_roundw
                case rel => exact ⟨j + 1, s, by omega, by go_num, play_still HP.out O4 (B4.off0 ((Off.refl _ _).drewN _)) (E4.off (S := []) ((Off.refl _ _).drewN _) (by intro k m; cases m)) rfl rfl ((Off.refl _ _).drewN _)⟩
                case measure => simp [intOf]; omega
          · as_aux_lemma =>
              have hi0 : decide (0 ≤ p) = false := by simp; omega
              have hpl : ¬ (0 ≤ p ∧ p < (s.row.length : Int)) := by omega
              go_wp2_with fail
              obtain ⟨w4, h4⟩ : ∃ w4, w4 = ((wr.alloc (.cells #[.int .i64 o, .int .i64 c, .int .i64 p, .int .u64 u, .int .u64 x] 41)).alloc (.cells #[.bool false] 4)) := ⟨_, rfl⟩
              obtain ⟨q9, h9⟩ : ∃ q, q = wr.heap.size + 1 := ⟨_, rfl⟩
              obtain ⟨q8, h8⟩ : ∃ q, q = wr.heap.size := ⟨_, rfl⟩
              have E4 : Env2 w4 q5 q6 q8 q9 g gm o c p u x false := by
                rw [h4, h8, h9]
                exact env2_new HP.out.b5 HP.out.b6 o c p u x false
              have O4 : Off [] wr w4 := by rw [h4]; exact ((Off.refl _ _).alloc _).alloc _
              have B4 := HP.out.both.off0 O4
              rw [← h4, ← h9, ← h8]
              clear h4 h8 h9
              have e5 := E4.b5.cell 0
              have e6 := E4.b6.cell 0
              have e9 := E4.b9.cell 0
              obtain ⟨l0, l1, l2, l3, l4⟩ := deed_cells E4.b8
              obtain ⟨m0, m1, m2, m3, m4, m5, m6, m7⟩ := B4.ism.cells
              clear m1 m2 m3 m4 m5 m6 m7 d0 d1 d2 d3 d4
              go_quiet (fail)
              go_wp2_with fail
              go_quiet ((go_at_call 18; first | exact quiet_al (look_out (B4.isw.drewN _) _ hpl) | exact quiet_l (look_out (B4.isw.drewN _) _ hpl)))
              go_wp2_with fail
              go_roundw
              case rel => exact ⟨j + 1, s, by omega, by go_num, play_still HP.out O4 (B4.off0 ((Off.refl _ _).drewN _)) (E4.off (S := []) ((Off.refl _ _).drewN _) (by intro k m; cases m)) rfl rfl ((Off.refl _ _).drewN _)⟩
              case measure => simp [intOf]; omega
      · by_cases hin0 : 0 ≤ p
        · by_cases hin1 : p < (len : Int)
          · as_aux_lemma =>
              obtain ⟨k, rfl⟩ : ∃ k : Nat, p = (k : Int) := ⟨p.toNat, by omega⟩
              have hi0 : decide (0 ≤ (k : Int)) = true := by simp
              have hi1 : decide ((k : Int) < (len : Int)) = true := by simp; omega
              have ho5 : decide (5 < o) = false := by simp; omega
              have hkl : k < s.row.length := by rw [HP.out.len]; omega
              go_wp2_with fail
              obtain ⟨w4, h4⟩ : ∃ w4, w4 = (((wr.alloc (.cells #[.int .i64 o, .int .i64 c, .int .i64 (k : Int), .int .u64 u, .int .u64 x] 41)).alloc (.cells #[.bool true] 4)).alloc (.cells #[.bool true] 4)) := ⟨_, rfl⟩
              obtain ⟨q10, h10⟩ : ∃ q, q = wr.heap.size + 1 + 1 := ⟨_, rfl⟩
              obtain ⟨q9, h9⟩ : ∃ q, q = wr.heap.size + 1 := ⟨_, rfl⟩
              obtain ⟨q8, h8⟩ : ∃ q, q = wr.heap.size := ⟨_, rfl⟩
              have E4 : Env w4 q5 q6 q8 q9 q10 g gm o c (k : Int) u x true := by
                rw [h4, h8, h9, h10]
                exact env_new HP.out.b5 HP.out.b6 o c (k : Int) u x true
              have O4 : Off [] wr w4 := by rw [h4]; exact (((Off.refl _ _).alloc _).alloc _).alloc _
              have B4 := HP.out.both.off0 O4
              rw [← h4, ← h10, ← h9, ← h8]
              have hge : W.heap.size ≤ q10 := by have := HP.out.both.ism.lo; omega
              clear h4 h8 h9 h10
              have e5 := E4.b5.cell 0
              have e6 := E4.b6.cell 0
              have e9 := E4.b9.cell 0
              have e10 := E4.b10.cell 0
              have hlo := HP.out.lo
              have hhi := HP.out.hi
              have hneq := fun (c k p u x : Int) (b : Bool) (w : World) => neq_access c k p u x b w
              have heg : Try.prog.eqGuardType Try.prog.depth 30 = false := by kernel_rfl
              refine wp_region_noPanic ?_
              refine wp_region_held_drew (S := (fun w' => w'.cell? ⟨q5, 0, none⟩ = some (.pointer (some ⟨g, 0, none⟩)) ∧ w'.cell? ⟨q6, 0, none⟩ = some (.pointer (some ⟨gm, 0, none⟩)) ∧ w'.cell? ⟨q9, 0, none⟩ = some (.bool true) ∧ w'.cell? ⟨q10, 0, none⟩ = some (.bool true))) (by kernel_rfl) ⟨e5, e6, e9, e10⟩ (fun hHeld => ?_)
              refine wpAnyH_take (i := 0) (v := ?_) rfl (by kernel_rfl) (by kernel_rfl) (by kernel_rfl) (fun _ _ _ h => h) (Or.inl ⟨by rfl, ?_⟩) (by assumption) ?_
              rotate_left
              · intro w hSw
                try dsimp only at hSw
                go_simp
                first | done | with_reducible rfl
              try simp only [List.getElem_toArray, List.getElem_cons_zero, Act.put, List.setIfInBounds_toArray, List.set_cons_zero, List.set_cons_succ]
              refine wpAnyH_take (i := 2) (v := ?_) rfl (by kernel_rfl) (by kernel_rfl) (by kernel_rfl) (fun _ _ _ h => h) (Or.inl ⟨by rfl, ?_⟩) (by assumption) ?_
              rotate_left
              · intro w hSw
                try dsimp only at hSw
                go_simp
                first | done | with_reducible rfl
              try simp only [List.getElem_toArray, List.getElem_cons_succ, List.getElem_cons_zero, Act.put, List.setIfInBounds_toArray, List.set_cons_zero, List.set_cons_succ]
              refine wpAnyH_ready (rs := [1]) (by kernel_rfl) (by simp) (AllReadyH.cons rfl (fun K hK => ?_) AllReadyH.nil)
              go_simp
              go_wp2_with (go_at_call 15; refine (guard_plays_in (E4.off0 ((Off.refl _ _).drewN _)) (B4.drewN _) hkl hlo (by omega)).mono ?_; rintro e w5 ⟨rfl, s5, P5⟩; obtain ⟨m0, m1, m2, m3, m4, m5, m6, m7⟩ := P5.both.ism.cells; have f5 := P5.env.b5.cell 0; have f6 := P5.env.b6.cell 0; have f9 := P5.env.b9.cell 0; have f10 := P5.env.b10.cell 0)
              refine hK.out _ _ ⟨f5, f6, f9, f10⟩ (fun hHeld => ?_)
              clear hK K
              try simp only [List.getElem_toArray, List.getElem_cons_succ, List.getElem_cons_zero, Act.put, List.setIfInBounds_toArray, List.set_cons_zero, List.set_cons_succ]
              clear hHeld
              refine held_weaken (S' := (fun w' => w'.cell? ⟨q5, 0, none⟩ = some (.pointer (some ⟨g, 0, none⟩)) ∧ w'.cell? ⟨q6, 0, none⟩ = some (.pointer (some ⟨gm, 0, none⟩)) ∧ w'.cell? ⟨q9, 0, none⟩ = some (.bool true) ∧ w'.cell? ⟨q10, 0, none⟩ = some (.bool true) ∧ w'.cell? ⟨gm, 0, none⟩ = some (.slice (some ⟨hm, 0, none⟩) s5.row.length s5.row.length) ∧ w'.cell? ⟨gm, 1, none⟩ = some (.int .i64 s5.steps) ∧ w'.cell? ⟨gm, 2, none⟩ = some (.int .i64 s5.last.client) ∧ w'.cell? ⟨gm, 3, none⟩ = some (.int .i64 s5.last.kind) ∧ w'.cell? ⟨gm, 4, none⟩ = some (.int .i64 s5.last.place) ∧ w'.cell? ⟨gm, 5, none⟩ = some (.int .u64 s5.last.was) ∧ w'.cell? ⟨gm, 6, none⟩ = some (.int .u64 s5.last.put) ∧ w'.cell? ⟨gm, 7, none⟩ = some (.bool s5.last.ok))) (fun w h => ⟨h.1, h.2.1, h.2.2.1, h.2.2.2.1⟩) _ _ _ _ ?_
              have hHeld : (fun w' => w'.cell? ⟨q5, 0, none⟩ = some (.pointer (some ⟨g, 0, none⟩)) ∧ w'.cell? ⟨q6, 0, none⟩ = some (.pointer (some ⟨gm, 0, none⟩)) ∧ w'.cell? ⟨q9, 0, none⟩ = some (.bool true) ∧ w'.cell? ⟨q10, 0, none⟩ = some (.bool true) ∧ w'.cell? ⟨gm, 0, none⟩ = some (.slice (some ⟨hm, 0, none⟩) s5.row.length s5.row.length) ∧ w'.cell? ⟨gm, 1, none⟩ = some (.int .i64 s5.steps) ∧ w'.cell? ⟨gm, 2, none⟩ = some (.int .i64 s5.last.client) ∧ w'.cell? ⟨gm, 3, none⟩ = some (.int .i64 s5.last.kind) ∧ w'.cell? ⟨gm, 4, none⟩ = some (.int .i64 s5.last.place) ∧ w'.cell? ⟨gm, 5, none⟩ = some (.int .u64 s5.last.was) ∧ w'.cell? ⟨gm, 6, none⟩ = some (.int .u64 s5.last.put) ∧ w'.cell? ⟨gm, 7, none⟩ = some (.bool s5.last.ok)) w5 := ⟨f5, f6, f9, f10, m0, m1, m2, m3, m4, m5, m6, m7⟩
              refine wpAnyH_take (i := 3) (v := ?_) rfl (by kernel_rfl) (by kernel_rfl) (by kernel_rfl) (fun _ _ _ h => h) (Or.inl ⟨by rfl, ?_⟩) (by assumption) ?_
              rotate_left
              · intro w hSw
                try dsimp only at hSw
                go_simp
                first | done | with_reducible rfl
              try simp only [List.getElem_toArray, List.getElem_cons_succ, List.getElem_cons_zero, Act.put, List.setIfInBounds_toArray, List.set_cons_zero, List.set_cons_succ]
              refine wpAnyH_take (i := 4) (v := ?_) rfl (by kernel_rfl) (by kernel_rfl) (by kernel_rfl) (fun _ _ _ h => h) (Or.inl ⟨by rfl, ?_⟩) (by assumption) ?_
              rotate_left
              · intro w hSw
                try dsimp only at hSw
                go_simp
                first | done | with_reducible rfl
              try simp only [List.getElem_toArray, List.getElem_cons_succ, List.getElem_cons_zero, Act.put, List.setIfInBounds_toArray, List.set_cons_zero, List.set_cons_succ]
              refine wpAnyH_take (i := 5) (v := ?_) rfl (by kernel_rfl) (by kernel_rfl) (by kernel_rfl) (fun _ _ _ h => h) (Or.inl ⟨by rfl, ?_⟩) (by assumption) ?_
              rotate_left
              · intro w hSw
                try dsimp only at hSw
                go_simp
                first | done | with_reducible rfl
              try simp only [List.getElem_toArray, List.getElem_cons_succ, List.getElem_cons_zero, Act.put, List.setIfInBounds_toArray, List.set_cons_zero, List.set_cons_succ]
              refine wpAnyH_take (i := 6) (v := ?_) rfl (by kernel_rfl) (by kernel_rfl) (by kernel_rfl) (fun _ _ _ h => h) (Or.inl ⟨by rfl, ?_⟩) (by assumption) ?_
              rotate_left
              · intro w hSw
                try dsimp only at hSw
                go_simp
                first | done | with_reducible rfl
              try simp only [List.getElem_toArray, List.getElem_cons_succ, List.getElem_cons_zero, Act.put, List.setIfInBounds_toArray, List.set_cons_zero, List.set_cons_succ]
              refine wpAnyH_take (i := 7) (v := ?_) rfl (by kernel_rfl) (by kernel_rfl) (by kernel_rfl) (fun _ _ _ h => h) (Or.inl ⟨by rfl, ?_⟩) (by assumption) ?_
              rotate_left
              · intro w hSw
                try dsimp only at hSw
                go_simp
                first | done | with_reducible rfl
              try simp only [List.getElem_toArray, List.getElem_cons_succ, List.getElem_cons_zero, Act.put, List.setIfInBounds_toArray, List.set_cons_zero, List.set_cons_succ]
              refine wpAnyH_take (i := 8) (v := ?_) rfl (by kernel_rfl) (by kernel_rfl) (by kernel_rfl) (fun _ _ _ h => h) (Or.inl ⟨by rfl, ?_⟩) (by assumption) ?_
              rotate_left
              · intro w hSw
                try dsimp only at hSw
                go_simp
                first | done | with_reducible rfl
              try simp only [List.getElem_toArray, List.getElem_cons_succ, List.getElem_cons_zero, Act.put, List.setIfInBounds_toArray, List.set_cons_zero, List.set_cons_succ]
              refine wpAnyH_take (i := 9) (v := ?_) rfl (by kernel_rfl) (by kernel_rfl) (by kernel_rfl) (fun _ _ _ h => h) (Or.inl ⟨by rfl, ?_⟩) (by assumption) ?_
              rotate_left
              · intro w hSw
                try dsimp only at hSw
                go_simp
                first | done | with_reducible rfl
              try simp only [List.getElem_toArray, List.getElem_cons_succ, List.getElem_cons_zero, Act.put, List.setIfInBounds_toArray, List.set_cons_zero, List.set_cons_succ]
              refine wpAnyH_take (i := 10) (v := ?_) rfl (by kernel_rfl) (by kernel_rfl) (by kernel_rfl) (fun _ _ _ h => h) (Or.inl ⟨by rfl, ?_⟩) (by assumption) ?_
              rotate_left
              · intro w hSw
                try dsimp only at hSw
                go_simp
                first | done | with_reducible rfl
              try simp only [List.getElem_toArray, List.getElem_cons_succ, List.getElem_cons_zero, Act.put, List.setIfInBounds_toArray, List.set_cons_zero, List.set_cons_succ]
              refine wpAnyH_take (i := 11) (v := ?_) rfl (by kernel_rfl) (by kernel_rfl) (by kernel_rfl) (fun _ _ _ h => h) (Or.inl ⟨by rfl, ?_⟩) (by assumption) ?_
              rotate_left
              · intro w hSw
                try dsimp only at hSw
                go_simp
                first | done | with_reducible rfl
              try simp only [List.getElem_toArray, List.getElem_cons_succ, List.getElem_cons_zero, Act.put, List.setIfInBounds_toArray, List.set_cons_zero, List.set_cons_succ]
              refine wpAnyH_take (i := 12) (v := ?_) rfl (by kernel_rfl) (by kernel_rfl) (by kernel_rfl) (fun _ _ _ h => h) (Or.inl ⟨by rfl, ?_⟩) (by assumption) ?_
              rotate_left
              · intro w hSw
                try dsimp only at hSw
                go_simp
                first | done | with_reducible rfl
              try simp only [List.getElem_toArray, List.getElem_cons_succ, List.getElem_cons_zero, Act.put, List.setIfInBounds_toArray, List.set_cons_zero, List.set_cons_succ]
              refine wpAnyH_take (i := 14) (v := ?_) rfl (by kernel_rfl) (by kernel_rfl) (by kernel_rfl) (fun _ _ _ h => h) (Or.inl ⟨by rfl, ?_⟩) (by assumption) ?_
              rotate_left
              · intro w hSw
                try dsimp only at hSw
                go_simp
                first | done | with_reducible rfl
              try simp only [List.getElem_toArray, List.getElem_cons_succ, List.getElem_cons_zero, Act.put, List.setIfInBounds_toArray, List.set_cons_zero, List.set_cons_succ]
              refine wpAnyH_take (i := 15) (v := ?_) rfl (by kernel_rfl) (by kernel_rfl) (by kernel_rfl) (fun _ _ _ h => h) (Or.inl ⟨by rfl, ?_⟩) (by assumption) ?_
              rotate_left
              · intro w hSw
                try dsimp only at hSw
                go_simp
                first | done | with_reducible rfl
              try simp only [List.getElem_toArray, List.getElem_cons_succ, List.getElem_cons_zero, Act.put, List.setIfInBounds_toArray, List.set_cons_zero, List.set_cons_succ]
              refine wpAnyH_take (i := 16) (v := ?_) rfl (by kernel_rfl) (by kernel_rfl) (by kernel_rfl) (fun _ _ _ h => h) (Or.inl ⟨by rfl, ?_⟩) (by assumption) ?_
              rotate_left
              · intro w hSw
                try dsimp only at hSw
                go_simp
                first | done | with_reducible rfl
              try simp only [List.getElem_toArray, List.getElem_cons_succ, List.getElem_cons_zero, Act.put, List.setIfInBounds_toArray, List.set_cons_zero, List.set_cons_succ]
              refine wpAnyH_take (i := 17) (v := ?_) rfl (by kernel_rfl) (by kernel_rfl) (by kernel_rfl) (fun _ _ _ h => h) (Or.inl ⟨by rfl, ?_⟩) (by assumption) ?_
              rotate_left
              · intro w hSw
                try dsimp only at hSw
                go_simp
                first | done | with_reducible rfl
              try simp only [List.getElem_toArray, List.getElem_cons_succ, List.getElem_cons_zero, Act.put, List.setIfInBounds_toArray, List.set_cons_zero, List.set_cons_succ]
              refine wpAnyH_ready (rs := [13]) (by kernel_rfl) (by simp) (AllReadyH.cons rfl (fun K hK => ?_) AllReadyH.nil)
              go_simp
              go_wp2_with (go_at_call 17; refine (steps_any P5.both.isw).mono ?_; rintro e w' ⟨rfl, rfl⟩)
              refine hK.out _ _ ⟨f5, f6, f9, f10, m0, m1, m2, m3, m4, m5, m6, m7⟩ (fun hHeld => ?_)
              clear hK K
              try simp only [List.getElem_toArray, List.getElem_cons_succ, List.getElem_cons_zero, Act.put, List.setIfInBounds_toArray, List.set_cons_zero, List.set_cons_succ]
              refine wpAnyH_take (i := 18) (v := ?_) rfl (by kernel_rfl) (by kernel_rfl) (by kernel_rfl) (fun _ _ _ h => h) (Or.inl ⟨by rfl, ?_⟩) (by assumption) ?_
              rotate_left
              · intro w hSw
                try dsimp only at hSw
                go_simp
                first | done | with_reducible rfl
              try simp only [List.getElem_toArray, List.getElem_cons_succ, List.getElem_cons_zero, Act.put, List.setIfInBounds_toArray, List.set_cons_zero, List.set_cons_succ]
              refine wpAnyH_take (i := 19) (v := ?_) rfl (by kernel_rfl) (by kernel_rfl) (by kernel_rfl) (fun _ _ _ h => h) (Or.inl ⟨by rfl, ?_⟩) (by assumption) ?_
              rotate_left
              · intro w hSw
                try dsimp only at hSw
                go_simp
                first | done | with_reducible rfl
              try simp only [List.getElem_toArray, List.getElem_cons_succ, List.getElem_cons_zero, Act.put, List.setIfInBounds_toArray, List.set_cons_zero, List.set_cons_succ]
              refine wpAnyH_take (i := 20) (v := ?_) rfl (by kernel_rfl) (by kernel_rfl) (by kernel_rfl) (fun _ _ _ h => h) (Or.inl ⟨by rfl, ?_⟩) (by assumption) ?_
              rotate_left
              · intro w hSw
                try dsimp only at hSw
                go_simp
                first | done | with_reducible rfl
              try simp only [List.getElem_toArray, List.getElem_cons_succ, List.getElem_cons_zero, Act.put, List.setIfInBounds_toArray, List.set_cons_zero, List.set_cons_succ]
              refine wpAnyH_take (i := 21) (v := ?_) rfl (by kernel_rfl) (by kernel_rfl) (by kernel_rfl) (fun _ _ _ h => h) (Or.inl ⟨by rfl, ?_⟩) (by assumption) ?_
              rotate_left
              · intro w hSw
                try dsimp only at hSw
                go_simp
                first | done | with_reducible rfl
              try simp only [List.getElem_toArray, List.getElem_cons_succ, List.getElem_cons_zero, Act.put, List.setIfInBounds_toArray, List.set_cons_zero, List.set_cons_succ]
              refine wpAnyH_take (i := 23) (v := ?_) rfl (by kernel_rfl) (by kernel_rfl) (by kernel_rfl) (fun _ _ _ h => h) (Or.inl ⟨by rfl, ?_⟩) (by assumption) ?_
              rotate_left
              · intro w hSw
                try dsimp only at hSw
                go_simp
                first | done | with_reducible rfl
              try simp only [List.getElem_toArray, List.getElem_cons_succ, List.getElem_cons_zero, Act.put, List.setIfInBounds_toArray, List.set_cons_zero, List.set_cons_succ]
              refine wpAnyH_take (i := 24) (v := ?_) rfl (by kernel_rfl) (by kernel_rfl) (by kernel_rfl) (fun _ _ _ h => h) (Or.inl ⟨by rfl, ?_⟩) (by assumption) ?_
              rotate_left
              · intro w hSw
                try dsimp only at hSw
                go_simp
                first | done | with_reducible rfl
              try simp only [List.getElem_toArray, List.getElem_cons_succ, List.getElem_cons_zero, Act.put, List.setIfInBounds_toArray, List.set_cons_zero, List.set_cons_succ]
              refine wpAnyH_take (i := 25) (v := ?_) rfl (by kernel_rfl) (by kernel_rfl) (by kernel_rfl) (fun _ _ _ h => h) (Or.inl ⟨by rfl, ?_⟩) (by assumption) ?_
              rotate_left
              · intro w hSw
                try dsimp only at hSw
                go_simp
                first | done | with_reducible rfl
              try simp only [List.getElem_toArray, List.getElem_cons_succ, List.getElem_cons_zero, Act.put, List.setIfInBounds_toArray, List.set_cons_zero, List.set_cons_succ]
              refine wpAnyH_take (i := 26) (v := ?_) rfl (by kernel_rfl) (by kernel_rfl) (by kernel_rfl) (fun _ _ _ h => h) (Or.inl ⟨by rfl, ?_⟩) (by assumption) ?_
              rotate_left
              · intro w hSw
                try dsimp only at hSw
                go_simp
                first | done | with_reducible rfl
              try simp only [List.getElem_toArray, List.getElem_cons_succ, List.getElem_cons_zero, Act.put, List.setIfInBounds_toArray, List.set_cons_zero, List.set_cons_succ]
              refine wpAnyH_ready (rs := [22]) (by kernel_rfl) (by simp) (AllReadyH.cons rfl (fun K hK => ?_) AllReadyH.nil)
              go_simp
              go_wp2_with (go_at_call 16; refine (last_any P5.both.isw).mono ?_; rintro e w6 ⟨he, O6⟩; obtain rfl : e = .returned (.agg #[.int .i64 s5.last.client, .int .i64 s5.last.kind, .int .i64 s5.last.place, .int .u64 s5.last.was, .int .u64 s5.last.put, .bool s5.last.ok]) := he; have B6 := P5.both.off0 O6; obtain ⟨n0, n1, n2, n3, n4, n5, n6, n7⟩ := B6.ism.cells; have E6 := P5.env.off0 O6; have g5 := E6.b5.cell 0; have g6 := E6.b6.cell 0; have g9 := E6.b9.cell 0; have g10 := E6.b10.cell 0)
              refine hK.out _ _ ⟨g5, g6, g9, g10, n0, n1, n2, n3, n4, n5, n6, n7⟩ (fun hHeld => ?_)
              clear hK K
              try simp only [List.getElem_toArray, List.getElem_cons_succ, List.getElem_cons_zero, Act.put, List.setIfInBounds_toArray, List.set_cons_zero, List.set_cons_succ]
              refine wpAnyH_take (i := 27) (v := ?_) rfl (by kernel_rfl) (by kernel_rfl) (by kernel_rfl) (fun _ _ _ h => h) (Or.inl ⟨by rfl, ?_⟩) (by assumption) ?_
              rotate_left
              · intro w hSw
                try dsimp only at hSw
                go_simp
                first | done | with_reducible rfl
              try simp only [List.getElem_toArray, List.getElem_cons_succ, List.getElem_cons_zero, Act.put, List.setIfInBounds_toArray, List.set_cons_zero, List.set_cons_succ]
              refine wpAnyH_take (i := 28) (v := ?_) rfl (by kernel_rfl) (by kernel_rfl) (by kernel_rfl) (fun _ _ _ h => h) (Or.inl ⟨by rfl, ?_⟩) (by assumption) ?_
              rotate_left
              · intro w hSw
                try dsimp only at hSw
                go_simp
                first | done | with_reducible rfl
              try simp only [List.getElem_toArray, List.getElem_cons_succ, List.getElem_cons_zero, Act.put, List.setIfInBounds_toArray, List.set_cons_zero, List.set_cons_succ]
              refine wpAnyH_take (i := 29) (v := ?_) rfl (by kernel_rfl) (by kernel_rfl) (by kernel_rfl) (fun _ _ _ h => h) (Or.inl ⟨by rfl, ?_⟩) (by assumption) ?_
              rotate_left
              · intro w hSw
                try dsimp only at hSw
                go_simp
                first | done | with_reducible rfl
              try simp only [List.getElem_toArray, List.getElem_cons_succ, List.getElem_cons_zero, Act.put, List.setIfInBounds_toArray, List.set_cons_zero, List.set_cons_succ]
              refine wpAnyH_take (i := 30) (v := ?_) rfl (by kernel_rfl) (by kernel_rfl) (by kernel_rfl) (fun _ _ _ h => h) (Or.inl ⟨by rfl, ?_⟩) (by assumption) ?_
              rotate_left
              · intro w hSw
                try dsimp only at hSw
                go_simp
                first | done | with_reducible rfl
              try simp only [List.getElem_toArray, List.getElem_cons_succ, List.getElem_cons_zero, Act.put, List.setIfInBounds_toArray, List.set_cons_zero, List.set_cons_succ]
              refine wpAnyH_take (i := 32) (v := ?_) rfl (by kernel_rfl) (by kernel_rfl) (by kernel_rfl) (fun _ _ _ h => h) (Or.inl ⟨by rfl, ?_⟩) (by assumption) ?_
              rotate_left
              · intro w hSw
                try dsimp only at hSw
                go_simp
                first | done | with_reducible rfl
              try simp only [List.getElem_toArray, List.getElem_cons_succ, List.getElem_cons_zero, Act.put, List.setIfInBounds_toArray, List.set_cons_zero, List.set_cons_succ]
              refine wpAnyH_take (i := 33) (v := ?_) rfl (by kernel_rfl) (by kernel_rfl) (by kernel_rfl) (fun _ _ _ h => h) (Or.inl ⟨by rfl, ?_⟩) (by assumption) ?_
              rotate_left
              · intro w hSw
                try dsimp only at hSw
                go_simp
                first | done | with_reducible rfl
              try simp only [List.getElem_toArray, List.getElem_cons_succ, List.getElem_cons_zero, Act.put, List.setIfInBounds_toArray, List.set_cons_zero, List.set_cons_succ]
              refine wpAnyH_take (i := 34) (v := ?_) rfl (by kernel_rfl) (by kernel_rfl) (by kernel_rfl) (fun _ _ _ h => h) (Or.inl ⟨by rfl, ?_⟩) (by assumption) ?_
              rotate_left
              · intro w hSw
                try dsimp only at hSw
                go_simp
                first | done | with_reducible rfl
              try simp only [List.getElem_toArray, List.getElem_cons_succ, List.getElem_cons_zero, Act.put, List.setIfInBounds_toArray, List.set_cons_zero, List.set_cons_succ]
              refine wpAnyH_take (i := 35) (v := ?_) rfl (by kernel_rfl) (by kernel_rfl) (by kernel_rfl) (fun _ _ _ h => h) (Or.inl ⟨by rfl, ?_⟩) (by assumption) ?_
              rotate_left
              · intro w hSw
                try dsimp only at hSw
                go_simp
                first | done | with_reducible rfl
              try simp only [List.getElem_toArray, List.getElem_cons_succ, List.getElem_cons_zero, Act.put, List.setIfInBounds_toArray, List.set_cons_zero, List.set_cons_succ]
              refine wpAnyH_ready (rs := [31]) (by kernel_rfl) (by simp) (AllReadyH.cons rfl (fun K hK => ?_) AllReadyH.nil)
              go_simp
              go_wp2_with (go_at_call 26; refine (all_any B6.isw).mono ?_; rintro e w7 ⟨ga, ca, rfl, hca, hcm, hal, O7, hga⟩; have HAL := Lib.hid hal; clear hal; have B7 := B6.off0 O7; obtain ⟨r0, r1, r2, r3, r4, r5, r6, r7⟩ := B7.ism.cells; have E7 := E6.off0 O7; have i5 := E7.b5.cell 0; have i6 := E7.b6.cell 0; have i9 := E7.b9.cell 0; have i10 := E7.b10.cell 0)
              refine hK.out _ _ ⟨i5, i6, i9, i10, r0, r1, r2, r3, r4, r5, r6, r7⟩ (fun hHeld => ?_)
              clear hK K
              try simp only [List.getElem_toArray, List.getElem_cons_succ, List.getElem_cons_zero, Act.put, List.setIfInBounds_toArray, List.set_cons_zero, List.set_cons_succ]
              refine wpAnyH_ready (rs := [36]) (by kernel_rfl) (by simp) (AllReadyH.cons rfl (fun K hK => ?_) AllReadyH.nil)
              go_simp
              go_wp2_with (go_at_call 25; refine (same_words ga hm ca _ s5.row _ hca (Nat.le_refl _) B7.isw.small HAL.out (fun k hk => B7.ism.cell_at k hk)).mono ?_; rintro e w8 ⟨rfl, O8⟩; have B8 := B7.off0 O8; obtain ⟨t0, t1, t2, t3, t4, t5, t6, t7⟩ := B8.ism.cells; have E8 := E7.off0 O8; have j5 := E8.b5.cell 0; have j6 := E8.b6.cell 0; have j9 := E8.b9.cell 0; have j10 := E8.b10.cell 0)
              refine hK.out _ _ ⟨j5, j6, j9, j10, t0, t1, t2, t3, t4, t5, t6, t7⟩ (fun hHeld => ?_)
              clear hK K
              try simp only [List.getElem_toArray, List.getElem_cons_succ, List.getElem_cons_zero, Act.put, List.setIfInBounds_toArray, List.set_cons_zero, List.set_cons_succ]
              refine wpAnyH_take (i := 37) (v := ?_) rfl (by kernel_rfl) (by kernel_rfl) (by kernel_rfl) (fun _ _ _ h => h) (Or.inl ⟨by rfl, ?_⟩) (by assumption) ?_
              rotate_left
              · intro w hSw
                try dsimp only at hSw
                go_simp
                first | done | with_reducible rfl
              try simp only [List.getElem_toArray, List.getElem_cons_succ, List.getElem_cons_zero, Act.put, List.setIfInBounds_toArray, List.set_cons_zero, List.set_cons_succ]
              refine wpAnyH_take (i := 38) (v := ?_) rfl (by kernel_rfl) (by kernel_rfl) (by kernel_rfl) (fun _ _ _ h => h) (Or.inl ⟨by rfl, ?_⟩) (by assumption) ?_
              rotate_left
              · intro w hSw
                try dsimp only at hSw
                go_simp
                first | done | with_reducible rfl
              try simp only [List.getElem_toArray, List.getElem_cons_succ, List.getElem_cons_zero, Act.put, List.setIfInBounds_toArray, List.set_cons_zero, List.set_cons_succ]
              refine wpAnyH_done (by kernel_rfl) ?_ _
              refine NoPanic.normal ?_

              all_goals
                go_wp2_with fail
                go_roundw
                case rel => exact ⟨j + 1, s5, by omega, by go_num, play_next HP.out O4 P5 hge ((O6.trans O7).trans O8) ((Off.refl _ _).drewN _)⟩
                case measure => simp [intOf]; omega
          · as_aux_lemma =>
              have hi0 : decide (0 ≤ p) = true := by simp; omega
              have hi1 : decide (p < (len : Int)) = false := by simp; omega
              have ho5 : decide (5 < o) = false := by simp; omega
              have hpl : ¬ (0 ≤ p ∧ p < (s.row.length : Int)) := by rw [HP.out.len]; omega
              go_wp2_with fail
              obtain ⟨w4, h4⟩ : ∃ w4, w4 = (((wr.alloc (.cells #[.int .i64 o, .int .i64 c, .int .i64 p, .int .u64 u, .int .u64 x] 41)).alloc (.cells #[.bool false] 4)).alloc (.cells #[.bool true] 4)) := ⟨_, rfl⟩
              obtain ⟨q10, h10⟩ : ∃ q, q = wr.heap.size + 1 + 1 := ⟨_, rfl⟩
              obtain ⟨q9, h9⟩ : ∃ q, q = wr.heap.size + 1 := ⟨_, rfl⟩
              obtain ⟨q8, h8⟩ : ∃ q, q = wr.heap.size := ⟨_, rfl⟩
              have E4 : Env w4 q5 q6 q8 q9 q10 g gm o c p u x false := by
                rw [h4, h8, h9, h10]
                exact env_new HP.out.b5 HP.out.b6 o c p u x false
              have O4 : Off [] wr w4 := by rw [h4]; exact (((Off.refl _ _).alloc _).alloc _).alloc _
              have B4 := HP.out.both.off0 O4
              rw [← h4, ← h10, ← h9, ← h8]
              have hge : W.heap.size ≤ q10 := by have := HP.out.both.ism.lo; omega
              clear h4 h8 h9 h10
              have e5 := E4.b5.cell 0
              have e6 := E4.b6.cell 0
              have e9 := E4.b9.cell 0
              have e10 := E4.b10.cell 0
              have hlo := HP.out.lo
              have hhi := HP.out.hi
              have hneq := fun (c k p u x : Int) (b : Bool) (w : World) => neq_access c k p u x b w
              have heg : Try.prog.eqGuardType Try.prog.depth 30 = false := by kernel_rfl
              refine wp_region_noPanic ?_
              refine wp_region_held_drew (S := (fun w' => w'.cell? ⟨q5, 0, none⟩ = some (.pointer (some ⟨g, 0, none⟩)) ∧ w'.cell? ⟨q6, 0, none⟩ = some (.pointer (some ⟨gm, 0, none⟩)) ∧ w'.cell? ⟨q9, 0, none⟩ = some (.bool false) ∧ w'.cell? ⟨q10, 0, none⟩ = some (.bool true))) (by kernel_rfl) ⟨e5, e6, e9, e10⟩ (fun hHeld => ?_)
              refine wpAnyH_take (i := 0) (v := ?_) rfl (by kernel_rfl) (by kernel_rfl) (by kernel_rfl) (fun _ _ _ h => h) (Or.inl ⟨by rfl, ?_⟩) (by assumption) ?_
              rotate_left
              · intro w hSw
                try dsimp only at hSw
                go_simp
                first | done | with_reducible rfl
              try simp only [List.getElem_toArray, List.getElem_cons_zero, Act.put, List.setIfInBounds_toArray, List.set_cons_zero, List.set_cons_succ]
              refine wpAnyH_take (i := 2) (v := ?_) rfl (by kernel_rfl) (by kernel_rfl) (by kernel_rfl) (fun _ _ _ h => h) (Or.inl ⟨by rfl, ?_⟩) (by assumption) ?_
              rotate_left
              · intro w hSw
                try dsimp only at hSw
                go_simp
                first | done | with_reducible rfl
              try simp only [List.getElem_toArray, List.getElem_cons_succ, List.getElem_cons_zero, Act.put, List.setIfInBounds_toArray, List.set_cons_zero, List.set_cons_succ]
              refine wpAnyH_ready (rs := [1]) (by kernel_rfl) (by simp) (AllReadyH.cons rfl (fun K hK => ?_) AllReadyH.nil)
              go_simp
              go_wp2_with (go_at_call 15; refine (guard_plays_out (E4.off0 ((Off.refl _ _).drewN _)) (B4.drewN _) hpl).mono ?_; rintro e w5 ⟨rfl, s5, P5⟩; obtain ⟨m0, m1, m2, m3, m4, m5, m6, m7⟩ := P5.both.ism.cells; have f5 := P5.env.b5.cell 0; have f6 := P5.env.b6.cell 0; have f9 := P5.env.b9.cell 0; have f10 := P5.env.b10.cell 0)
              refine hK.out _ _ ⟨f5, f6, f9, f10⟩ (fun hHeld => ?_)
              clear hK K
              try simp only [List.getElem_toArray, List.getElem_cons_succ, List.getElem_cons_zero, Act.put, List.setIfInBounds_toArray, List.set_cons_zero, List.set_cons_succ]
              clear hHeld
              refine held_weaken (S' := (fun w' => w'.cell? ⟨q5, 0, none⟩ = some (.pointer (some ⟨g, 0, none⟩)) ∧ w'.cell? ⟨q6, 0, none⟩ = some (.pointer (some ⟨gm, 0, none⟩)) ∧ w'.cell? ⟨q9, 0, none⟩ = some (.bool false) ∧ w'.cell? ⟨q10, 0, none⟩ = some (.bool true) ∧ w'.cell? ⟨gm, 0, none⟩ = some (.slice (some ⟨hm, 0, none⟩) s5.row.length s5.row.length) ∧ w'.cell? ⟨gm, 1, none⟩ = some (.int .i64 s5.steps) ∧ w'.cell? ⟨gm, 2, none⟩ = some (.int .i64 s5.last.client) ∧ w'.cell? ⟨gm, 3, none⟩ = some (.int .i64 s5.last.kind) ∧ w'.cell? ⟨gm, 4, none⟩ = some (.int .i64 s5.last.place) ∧ w'.cell? ⟨gm, 5, none⟩ = some (.int .u64 s5.last.was) ∧ w'.cell? ⟨gm, 6, none⟩ = some (.int .u64 s5.last.put) ∧ w'.cell? ⟨gm, 7, none⟩ = some (.bool s5.last.ok))) (fun w h => ⟨h.1, h.2.1, h.2.2.1, h.2.2.2.1⟩) _ _ _ _ ?_
              have hHeld : (fun w' => w'.cell? ⟨q5, 0, none⟩ = some (.pointer (some ⟨g, 0, none⟩)) ∧ w'.cell? ⟨q6, 0, none⟩ = some (.pointer (some ⟨gm, 0, none⟩)) ∧ w'.cell? ⟨q9, 0, none⟩ = some (.bool false) ∧ w'.cell? ⟨q10, 0, none⟩ = some (.bool true) ∧ w'.cell? ⟨gm, 0, none⟩ = some (.slice (some ⟨hm, 0, none⟩) s5.row.length s5.row.length) ∧ w'.cell? ⟨gm, 1, none⟩ = some (.int .i64 s5.steps) ∧ w'.cell? ⟨gm, 2, none⟩ = some (.int .i64 s5.last.client) ∧ w'.cell? ⟨gm, 3, none⟩ = some (.int .i64 s5.last.kind) ∧ w'.cell? ⟨gm, 4, none⟩ = some (.int .i64 s5.last.place) ∧ w'.cell? ⟨gm, 5, none⟩ = some (.int .u64 s5.last.was) ∧ w'.cell? ⟨gm, 6, none⟩ = some (.int .u64 s5.last.put) ∧ w'.cell? ⟨gm, 7, none⟩ = some (.bool s5.last.ok)) w5 := ⟨f5, f6, f9, f10, m0, m1, m2, m3, m4, m5, m6, m7⟩
              refine wpAnyH_take (i := 3) (v := ?_) rfl (by kernel_rfl) (by kernel_rfl) (by kernel_rfl) (fun _ _ _ h => h) (Or.inl ⟨by rfl, ?_⟩) (by assumption) ?_
              rotate_left
              · intro w hSw
                try dsimp only at hSw
                go_simp
                first | done | with_reducible rfl
              try simp only [List.getElem_toArray, List.getElem_cons_succ, List.getElem_cons_zero, Act.put, List.setIfInBounds_toArray, List.set_cons_zero, List.set_cons_succ]
              refine wpAnyH_take (i := 4) (v := ?_) rfl (by kernel_rfl) (by kernel_rfl) (by kernel_rfl) (fun _ _ _ h => h) (Or.inl ⟨by rfl, ?_⟩) (by assumption) ?_
              rotate_left
              · intro w hSw
                try dsimp only at hSw
                go_simp
                first | done | with_reducible rfl
              try simp only [List.getElem_toArray, List.getElem_cons_succ, List.getElem_cons_zero, Act.put, List.setIfInBounds_toArray, List.set_cons_zero, List.set_cons_succ]
              refine wpAnyH_take (i := 5) (v := ?_) rfl (by kernel_rfl) (by kernel_rfl) (by kernel_rfl) (fun _ _ _ h => h) (Or.inl ⟨by rfl, ?_⟩) (by assumption) ?_
              rotate_left
              · intro w hSw
                try dsimp only at hSw
                go_simp
                first | done | with_reducible rfl
              try simp only [List.getElem_toArray, List.getElem_cons_succ, List.getElem_cons_zero, Act.put, List.setIfInBounds_toArray, List.set_cons_zero, List.set_cons_succ]
              refine wpAnyH_take (i := 6) (v := ?_) rfl (by kernel_rfl) (by kernel_rfl) (by kernel_rfl) (fun _ _ _ h => h) (Or.inl ⟨by rfl, ?_⟩) (by assumption) ?_
              rotate_left
              · intro w hSw
                try dsimp only at hSw
                go_simp
                first | done | with_reducible rfl
              try simp only [List.getElem_toArray, List.getElem_cons_succ, List.getElem_cons_zero, Act.put, List.setIfInBounds_toArray, List.set_cons_zero, List.set_cons_succ]
              refine wpAnyH_take (i := 7) (v := undef) rfl (by kernel_rfl) (by kernel_rfl) (by kernel_rfl) (fun _ _ _ h => h) (Or.inr ⟨by rfl, rfl⟩) (by assumption) ?_
              try simp only [List.getElem_toArray, List.getElem_cons_succ, List.getElem_cons_zero, Act.put, List.setIfInBounds_toArray, List.set_cons_zero, List.set_cons_succ]
              refine wpAnyH_take (i := 8) (v := undef) rfl (by kernel_rfl) (by kernel_rfl) (by kernel_rfl) (fun _ _ _ h => h) (Or.inr ⟨by rfl, rfl⟩) (by assumption) ?_
              try simp only [List.getElem_toArray, List.getElem_cons_succ, List.getElem_cons_zero, Act.put, List.setIfInBounds_toArray, List.set_cons_zero, List.set_cons_succ]
              refine wpAnyH_take (i := 9) (v := ?_) rfl (by kernel_rfl) (by kernel_rfl) (by kernel_rfl) (fun _ _ _ h => h) (Or.inl ⟨by rfl, ?_⟩) (by assumption) ?_
              rotate_left
              · intro w hSw
                try dsimp only at hSw
                go_simp
                first | done | with_reducible rfl
              try simp only [List.getElem_toArray, List.getElem_cons_succ, List.getElem_cons_zero, Act.put, List.setIfInBounds_toArray, List.set_cons_zero, List.set_cons_succ]
              refine wpAnyH_take (i := 10) (v := ?_) rfl (by kernel_rfl) (by kernel_rfl) (by kernel_rfl) (fun _ _ _ h => h) (Or.inl ⟨by rfl, ?_⟩) (by assumption) ?_
              rotate_left
              · intro w hSw
                try dsimp only at hSw
                go_simp
                first | done | with_reducible rfl
              try simp only [List.getElem_toArray, List.getElem_cons_succ, List.getElem_cons_zero, Act.put, List.setIfInBounds_toArray, List.set_cons_zero, List.set_cons_succ]
              refine wpAnyH_take (i := 11) (v := ?_) rfl (by kernel_rfl) (by kernel_rfl) (by kernel_rfl) (fun _ _ _ h => h) (Or.inl ⟨by rfl, ?_⟩) (by assumption) ?_
              rotate_left
              · intro w hSw
                try dsimp only at hSw
                go_simp
                first | done | with_reducible rfl
              try simp only [List.getElem_toArray, List.getElem_cons_succ, List.getElem_cons_zero, Act.put, List.setIfInBounds_toArray, List.set_cons_zero, List.set_cons_succ]
              refine wpAnyH_take (i := 12) (v := ?_) rfl (by kernel_rfl) (by kernel_rfl) (by kernel_rfl) (fun _ _ _ h => h) (Or.inl ⟨by rfl, ?_⟩) (by assumption) ?_
              rotate_left
              · intro w hSw
                try dsimp only at hSw
                go_simp
                first | done | with_reducible rfl
              try simp only [List.getElem_toArray, List.getElem_cons_succ, List.getElem_cons_zero, Act.put, List.setIfInBounds_toArray, List.set_cons_zero, List.set_cons_succ]
              refine wpAnyH_take (i := 14) (v := ?_) rfl (by kernel_rfl) (by kernel_rfl) (by kernel_rfl) (fun _ _ _ h => h) (Or.inl ⟨by rfl, ?_⟩) (by assumption) ?_
              rotate_left
              · intro w hSw
                try dsimp only at hSw
                go_simp
                first | done | with_reducible rfl
              try simp only [List.getElem_toArray, List.getElem_cons_succ, List.getElem_cons_zero, Act.put, List.setIfInBounds_toArray, List.set_cons_zero, List.set_cons_succ]
              refine wpAnyH_take (i := 15) (v := ?_) rfl (by kernel_rfl) (by kernel_rfl) (by kernel_rfl) (fun _ _ _ h => h) (Or.inl ⟨by rfl, ?_⟩) (by assumption) ?_
              rotate_left
              · intro w hSw
                try dsimp only at hSw
                go_simp
                first | done | with_reducible rfl
              try simp only [List.getElem_toArray, List.getElem_cons_succ, List.getElem_cons_zero, Act.put, List.setIfInBounds_toArray, List.set_cons_zero, List.set_cons_succ]
              refine wpAnyH_take (i := 16) (v := ?_) rfl (by kernel_rfl) (by kernel_rfl) (by kernel_rfl) (fun _ _ _ h => h) (Or.inl ⟨by rfl, ?_⟩) (by assumption) ?_
              rotate_left
              · intro w hSw
                try dsimp only at hSw
                go_simp
                first | done | with_reducible rfl
              try simp only [List.getElem_toArray, List.getElem_cons_succ, List.getElem_cons_zero, Act.put, List.setIfInBounds_toArray, List.set_cons_zero, List.set_cons_succ]
              refine wpAnyH_take (i := 17) (v := ?_) rfl (by kernel_rfl) (by kernel_rfl) (by kernel_rfl) (fun _ _ _ h => h) (Or.inl ⟨by rfl, ?_⟩) (by assumption) ?_
              rotate_left
              · intro w hSw
                try dsimp only at hSw
                go_simp
                first | done | with_reducible rfl
              try simp only [List.getElem_toArray, List.getElem_cons_succ, List.getElem_cons_zero, Act.put, List.setIfInBounds_toArray, List.set_cons_zero, List.set_cons_succ]
              refine wpAnyH_ready (rs := [13]) (by kernel_rfl) (by simp) (AllReadyH.cons rfl (fun K hK => ?_) AllReadyH.nil)
              go_simp
              go_wp2_with (go_at_call 17; refine (steps_any P5.both.isw).mono ?_; rintro e w' ⟨rfl, rfl⟩)
              refine hK.out _ _ ⟨f5, f6, f9, f10, m0, m1, m2, m3, m4, m5, m6, m7⟩ (fun hHeld => ?_)
              clear hK K
              try simp only [List.getElem_toArray, List.getElem_cons_succ, List.getElem_cons_zero, Act.put, List.setIfInBounds_toArray, List.set_cons_zero, List.set_cons_succ]
              refine wpAnyH_take (i := 18) (v := ?_) rfl (by kernel_rfl) (by kernel_rfl) (by kernel_rfl) (fun _ _ _ h => h) (Or.inl ⟨by rfl, ?_⟩) (by assumption) ?_
              rotate_left
              · intro w hSw
                try dsimp only at hSw
                go_simp
                first | done | with_reducible rfl
              try simp only [List.getElem_toArray, List.getElem_cons_succ, List.getElem_cons_zero, Act.put, List.setIfInBounds_toArray, List.set_cons_zero, List.set_cons_succ]
              refine wpAnyH_take (i := 19) (v := ?_) rfl (by kernel_rfl) (by kernel_rfl) (by kernel_rfl) (fun _ _ _ h => h) (Or.inl ⟨by rfl, ?_⟩) (by assumption) ?_
              rotate_left
              · intro w hSw
                try dsimp only at hSw
                go_simp
                first | done | with_reducible rfl
              try simp only [List.getElem_toArray, List.getElem_cons_succ, List.getElem_cons_zero, Act.put, List.setIfInBounds_toArray, List.set_cons_zero, List.set_cons_succ]
              refine wpAnyH_take (i := 20) (v := ?_) rfl (by kernel_rfl) (by kernel_rfl) (by kernel_rfl) (fun _ _ _ h => h) (Or.inl ⟨by rfl, ?_⟩) (by assumption) ?_
              rotate_left
              · intro w hSw
                try dsimp only at hSw
                go_simp
                first | done | with_reducible rfl
              try simp only [List.getElem_toArray, List.getElem_cons_succ, List.getElem_cons_zero, Act.put, List.setIfInBounds_toArray, List.set_cons_zero, List.set_cons_succ]
              refine wpAnyH_take (i := 21) (v := ?_) rfl (by kernel_rfl) (by kernel_rfl) (by kernel_rfl) (fun _ _ _ h => h) (Or.inl ⟨by rfl, ?_⟩) (by assumption) ?_
              rotate_left
              · intro w hSw
                try dsimp only at hSw
                go_simp
                first | done | with_reducible rfl
              try simp only [List.getElem_toArray, List.getElem_cons_succ, List.getElem_cons_zero, Act.put, List.setIfInBounds_toArray, List.set_cons_zero, List.set_cons_succ]
              refine wpAnyH_take (i := 23) (v := ?_) rfl (by kernel_rfl) (by kernel_rfl) (by kernel_rfl) (fun _ _ _ h => h) (Or.inl ⟨by rfl, ?_⟩) (by assumption) ?_
              rotate_left
              · intro w hSw
                try dsimp only at hSw
                go_simp
                first | done | with_reducible rfl
              try simp only [List.getElem_toArray, List.getElem_cons_succ, List.getElem_cons_zero, Act.put, List.setIfInBounds_toArray, List.set_cons_zero, List.set_cons_succ]
              refine wpAnyH_take (i := 24) (v := ?_) rfl (by kernel_rfl) (by kernel_rfl) (by kernel_rfl) (fun _ _ _ h => h) (Or.inl ⟨by rfl, ?_⟩) (by assumption) ?_
              rotate_left
              · intro w hSw
                try dsimp only at hSw
                go_simp
                first | done | with_reducible rfl
              try simp only [List.getElem_toArray, List.getElem_cons_succ, List.getElem_cons_zero, Act.put, List.setIfInBounds_toArray, List.set_cons_zero, List.set_cons_succ]
              refine wpAnyH_take (i := 25) (v := ?_) rfl (by kernel_rfl) (by kernel_rfl) (by kernel_rfl) (fun _ _ _ h => h) (Or.inl ⟨by rfl, ?_⟩) (by assumption) ?_
              rotate_left
              · intro w hSw
                try dsimp only at hSw
                go_simp
                first | done | with_reducible rfl
              try simp only [List.getElem_toArray, List.getElem_cons_succ, List.getElem_cons_zero, Act.put, List.setIfInBounds_toArray, List.set_cons_zero, List.set_cons_succ]
              refine wpAnyH_take (i := 26) (v := ?_) rfl (by kernel_rfl) (by kernel_rfl) (by kernel_rfl) (fun _ _ _ h => h) (Or.inl ⟨by rfl, ?_⟩) (by assumption) ?_
              rotate_left
              · intro w hSw
                try dsimp only at hSw
                go_simp
                first | done | with_reducible rfl
              try simp only [List.getElem_toArray, List.getElem_cons_succ, List.getElem_cons_zero, Act.put, List.setIfInBounds_toArray, List.set_cons_zero, List.set_cons_succ]
              refine wpAnyH_ready (rs := [22]) (by kernel_rfl) (by simp) (AllReadyH.cons rfl (fun K hK => ?_) AllReadyH.nil)
              go_simp
              go_wp2_with (go_at_call 16; refine (last_any P5.both.isw).mono ?_; rintro e w6 ⟨he, O6⟩; obtain rfl : e = .returned (.agg #[.int .i64 s5.last.client, .int .i64 s5.last.kind, .int .i64 s5.last.place, .int .u64 s5.last.was, .int .u64 s5.last.put, .bool s5.last.ok]) := he; have B6 := P5.both.off0 O6; obtain ⟨n0, n1, n2, n3, n4, n5, n6, n7⟩ := B6.ism.cells; have E6 := P5.env.off0 O6; have g5 := E6.b5.cell 0; have g6 := E6.b6.cell 0; have g9 := E6.b9.cell 0; have g10 := E6.b10.cell 0)
              refine hK.out _ _ ⟨g5, g6, g9, g10, n0, n1, n2, n3, n4, n5, n6, n7⟩ (fun hHeld => ?_)
              clear hK K
              try simp only [List.getElem_toArray, List.getElem_cons_succ, List.getElem_cons_zero, Act.put, List.setIfInBounds_toArray, List.set_cons_zero, List.set_cons_succ]
              refine wpAnyH_take (i := 27) (v := ?_) rfl (by kernel_rfl) (by kernel_rfl) (by kernel_rfl) (fun _ _ _ h => h) (Or.inl ⟨by rfl, ?_⟩) (by assumption) ?_
              rotate_left
              · intro w hSw
                try dsimp only at hSw
                go_simp
                first | done | with_reducible rfl
              try simp only [List.getElem_toArray, List.getElem_cons_succ, List.getElem_cons_zero, Act.put, List.setIfInBounds_toArray, List.set_cons_zero, List.set_cons_succ]
              refine wpAnyH_take (i := 28) (v := ?_) rfl (by kernel_rfl) (by kernel_rfl) (by kernel_rfl) (fun _ _ _ h => h) (Or.inl ⟨by rfl, ?_⟩) (by assumption) ?_
              rotate_left
              · intro w hSw
                try dsimp only at hSw
                go_simp
                first | done | with_reducible rfl
              try simp only [List.getElem_toArray, List.getElem_cons_succ, List.getElem_cons_zero, Act.put, List.setIfInBounds_toArray, List.set_cons_zero, List.set_cons_succ]
              refine wpAnyH_take (i := 29) (v := ?_) rfl (by kernel_rfl) (by kernel_rfl) (by kernel_rfl) (fun _ _ _ h => h) (Or.inl ⟨by rfl, ?_⟩) (by assumption) ?_
              rotate_left
              · intro w hSw
                try dsimp only at hSw
                go_simp
                first | done | with_reducible rfl
              try simp only [List.getElem_toArray, List.getElem_cons_succ, List.getElem_cons_zero, Act.put, List.setIfInBounds_toArray, List.set_cons_zero, List.set_cons_succ]
              refine wpAnyH_take (i := 30) (v := ?_) rfl (by kernel_rfl) (by kernel_rfl) (by kernel_rfl) (fun _ _ _ h => h) (Or.inl ⟨by rfl, ?_⟩) (by assumption) ?_
              rotate_left
              · intro w hSw
                try dsimp only at hSw
                go_simp
                first | done | with_reducible rfl
              try simp only [List.getElem_toArray, List.getElem_cons_succ, List.getElem_cons_zero, Act.put, List.setIfInBounds_toArray, List.set_cons_zero, List.set_cons_succ]
              refine wpAnyH_take (i := 32) (v := ?_) rfl (by kernel_rfl) (by kernel_rfl) (by kernel_rfl) (fun _ _ _ h => h) (Or.inl ⟨by rfl, ?_⟩) (by assumption) ?_
              rotate_left
              · intro w hSw
                try dsimp only at hSw
                go_simp
                first | done | with_reducible rfl
              try simp only [List.getElem_toArray, List.getElem_cons_succ, List.getElem_cons_zero, Act.put, List.setIfInBounds_toArray, List.set_cons_zero, List.set_cons_succ]
              refine wpAnyH_take (i := 33) (v := ?_) rfl (by kernel_rfl) (by kernel_rfl) (by kernel_rfl) (fun _ _ _ h => h) (Or.inl ⟨by rfl, ?_⟩) (by assumption) ?_
              rotate_left
              · intro w hSw
                try dsimp only at hSw
                go_simp
                first | done | with_reducible rfl
              try simp only [List.getElem_toArray, List.getElem_cons_succ, List.getElem_cons_zero, Act.put, List.setIfInBounds_toArray, List.set_cons_zero, List.set_cons_succ]
              refine wpAnyH_take (i := 34) (v := ?_) rfl (by kernel_rfl) (by kernel_rfl) (by kernel_rfl) (fun _ _ _ h => h) (Or.inl ⟨by rfl, ?_⟩) (by assumption) ?_
              rotate_left
              · intro w hSw
                try dsimp only at hSw
                go_simp
                first | done | with_reducible rfl
              try simp only [List.getElem_toArray, List.getElem_cons_succ, List.getElem_cons_zero, Act.put, List.setIfInBounds_toArray, List.set_cons_zero, List.set_cons_succ]
              refine wpAnyH_take (i := 35) (v := ?_) rfl (by kernel_rfl) (by kernel_rfl) (by kernel_rfl) (fun _ _ _ h => h) (Or.inl ⟨by rfl, ?_⟩) (by assumption) ?_
              rotate_left
              · intro w hSw
                try dsimp only at hSw
                go_simp
                first | done | with_reducible rfl
              try simp only [List.getElem_toArray, List.getElem_cons_succ, List.getElem_cons_zero, Act.put, List.setIfInBounds_toArray, List.set_cons_zero, List.set_cons_succ]
              refine wpAnyH_ready (rs := [31]) (by kernel_rfl) (by simp) (AllReadyH.cons rfl (fun K hK => ?_) AllReadyH.nil)
              go_simp
              go_wp2_with (go_at_call 26; refine (all_any B6.isw).mono ?_; rintro e w7 ⟨ga, ca, rfl, hca, hcm, hal, O7, hga⟩; have HAL := Lib.hid hal; clear hal; have B7 := B6.off0 O7; obtain ⟨r0, r1, r2, r3, r4, r5, r6, r7⟩ := B7.ism.cells; have E7 := E6.off0 O7; have i5 := E7.b5.cell 0; have i6 := E7.b6.cell 0; have i9 := E7.b9.cell 0; have i10 := E7.b10.cell 0)
              refine hK.out _ _ ⟨i5, i6, i9, i10, r0, r1, r2, r3, r4, r5, r6, r7⟩ (fun hHeld => ?_)
              clear hK K
              try simp only [List.getElem_toArray, List.getElem_cons_succ, List.getElem_cons_zero, Act.put, List.setIfInBounds_toArray, List.set_cons_zero, List.set_cons_succ]
              refine wpAnyH_ready (rs := [36]) (by kernel_rfl) (by simp) (AllReadyH.cons rfl (fun K hK => ?_) AllReadyH.nil)
              go_simp
              go_wp2_with (go_at_call 25; refine (same_words ga hm ca _ s5.row _ hca (Nat.le_refl _) B7.isw.small HAL.out (fun k hk => B7.ism.cell_at k hk)).mono ?_; rintro e w8 ⟨rfl, O8⟩; have B8 := B7.off0 O8; obtain ⟨t0, t1, t2, t3, t4, t5, t6, t7⟩ := B8.ism.cells; have E8 := E7.off0 O8; have j5 := E8.b5.cell 0; have j6 := E8.b6.cell 0; have j9 := E8.b9.cell 0; have j10 := E8.b10.cell 0)
              refine hK.out _ _ ⟨j5, j6, j9, j10, t0, t1, t2, t3, t4, t5, t6, t7⟩ (fun hHeld => ?_)
              clear hK K
              try simp only [List.getElem_toArray, List.getElem_cons_succ, List.getElem_cons_zero, Act.put, List.setIfInBounds_toArray, List.set_cons_zero, List.set_cons_succ]
              refine wpAnyH_take (i := 37) (v := ?_) rfl (by kernel_rfl) (by kernel_rfl) (by kernel_rfl) (fun _ _ _ h => h) (Or.inl ⟨by rfl, ?_⟩) (by assumption) ?_
              rotate_left
              · intro w hSw
                try dsimp only at hSw
                go_simp
                first | done | with_reducible rfl
              try simp only [List.getElem_toArray, List.getElem_cons_succ, List.getElem_cons_zero, Act.put, List.setIfInBounds_toArray, List.set_cons_zero, List.set_cons_succ]
              refine wpAnyH_take (i := 38) (v := ?_) rfl (by kernel_rfl) (by kernel_rfl) (by kernel_rfl) (fun _ _ _ h => h) (Or.inl ⟨by rfl, ?_⟩) (by assumption) ?_
              rotate_left
              · intro w hSw
                try dsimp only at hSw
                go_simp
                first | done | with_reducible rfl
              try simp only [List.getElem_toArray, List.getElem_cons_succ, List.getElem_cons_zero, Act.put, List.setIfInBounds_toArray, List.set_cons_zero, List.set_cons_succ]
              refine wpAnyH_done (by kernel_rfl) ?_ _
              refine NoPanic.normal ?_

              all_goals
                go_wp2_with fail
                go_roundw
                case rel => exact ⟨j + 1, s5, by omega, by go_num, play_next HP.out O4 P5 hge ((O6.trans O7).trans O8) ((Off.refl _ _).drewN _)⟩
                case measure => simp [intOf]; omega
        · as_aux_lemma =>
            have hi0 : decide (0 ≤ p) = false := by simp; omega
            have ho5 : decide (5 < o) = false := by simp; omega
            have hpl : ¬ (0 ≤ p ∧ p < (s.row.length : Int)) := by omega
            go_wp2_with fail
            obtain ⟨w4, h4⟩ : ∃ w4, w4 = (((wr.alloc (.cells #[.int .i64 o, .int .i64 c, .int .i64 p, .int .u64 u, .int .u64 x] 41)).alloc (.cells #[.bool false] 4)).alloc (.cells #[.bool true] 4)) := ⟨_, rfl⟩
            obtain ⟨q10, h10⟩ : ∃ q, q = wr.heap.size + 1 + 1 := ⟨_, rfl⟩
            obtain ⟨q9, h9⟩ : ∃ q, q = wr.heap.size + 1 := ⟨_, rfl⟩
            obtain ⟨q8, h8⟩ : ∃ q, q = wr.heap.size := ⟨_, rfl⟩
            have E4 : Env w4 q5 q6 q8 q9 q10 g gm o c p u x false := by
              rw [h4, h8, h9, h10]
              exact env_new HP.out.b5 HP.out.b6 o c p u x false
            have O4 : Off [] wr w4 := by rw [h4]; exact (((Off.refl _ _).alloc _).alloc _).alloc _
            have B4 := HP.out.both.off0 O4
            rw [← h4, ← h10, ← h9, ← h8]
            have hge : W.heap.size ≤ q10 := by have := HP.out.both.ism.lo; omega
            clear h4 h8 h9 h10
            have e5 := E4.b5.cell 0
            have e6 := E4.b6.cell 0
            have e9 := E4.b9.cell 0
            have e10 := E4.b10.cell 0
            have hlo := HP.out.lo
            have hhi := HP.out.hi
            have hneq := fun (c k p u x : Int) (b : Bool) (w : World) => neq_access c k p u x b w
            have heg : Try.prog.eqGuardType Try.prog.depth 30 = false := by kernel_rfl
            refine wp_region_noPanic ?_
            refine wp_region_held_drew (S := (fun w' => w'.cell? ⟨q5, 0, none⟩ = some (.pointer (some ⟨g, 0, none⟩)) ∧ w'.cell? ⟨q6, 0, none⟩ = some (.pointer (some ⟨gm, 0, none⟩)) ∧ w'.cell? ⟨q9, 0, none⟩ = some (.bool false) ∧ w'.cell? ⟨q10, 0, none⟩ = some (.bool true))) (by kernel_rfl) ⟨e5, e6, e9, e10⟩ (fun hHeld => ?_)
            refine wpAnyH_take (i := 0) (v := ?_) rfl (by kernel_rfl) (by kernel_rfl) (by kernel_rfl) (fun _ _ _ h => h) (Or.inl ⟨by rfl, ?_⟩) (by assumption) ?_
            rotate_left
            · intro w hSw
              try dsimp only at hSw
              go_simp
              first | done | with_reducible rfl
            try simp only [List.getElem_toArray, List.getElem_cons_zero, Act.put, List.setIfInBounds_toArray, List.set_cons_zero, List.set_cons_succ]
            refine wpAnyH_take (i := 2) (v := ?_) rfl (by kernel_rfl) (by kernel_rfl) (by kernel_rfl) (fun _ _ _ h => h) (Or.inl ⟨by rfl, ?_⟩) (by assumption) ?_
            rotate_left
            · intro w hSw
              try dsimp only at hSw
              go_simp
              first | done | with_reducible rfl
            try simp only [List.getElem_toArray, List.getElem_cons_succ, List.getElem_cons_zero, Act.put, List.setIfInBounds_toArray, List.set_cons_zero, List.set_cons_succ]
            refine wpAnyH_ready (rs := [1]) (by kernel_rfl) (by simp) (AllReadyH.cons rfl (fun K hK => ?_) AllReadyH.nil)
            go_simp
            go_wp2_with (go_at_call 15; refine (guard_plays_out (E4.off0 ((Off.refl _ _).drewN _)) (B4.drewN _) hpl).mono ?_; rintro e w5 ⟨rfl, s5, P5⟩; obtain ⟨m0, m1, m2, m3, m4, m5, m6, m7⟩ := P5.both.ism.cells; have f5 := P5.env.b5.cell 0; have f6 := P5.env.b6.cell 0; have f9 := P5.env.b9.cell 0; have f10 := P5.env.b10.cell 0)
            refine hK.out _ _ ⟨f5, f6, f9, f10⟩ (fun hHeld => ?_)
            clear hK K
            try simp only [List.getElem_toArray, List.getElem_cons_succ, List.getElem_cons_zero, Act.put, List.setIfInBounds_toArray, List.set_cons_zero, List.set_cons_succ]
            clear hHeld
            refine held_weaken (S' := (fun w' => w'.cell? ⟨q5, 0, none⟩ = some (.pointer (some ⟨g, 0, none⟩)) ∧ w'.cell? ⟨q6, 0, none⟩ = some (.pointer (some ⟨gm, 0, none⟩)) ∧ w'.cell? ⟨q9, 0, none⟩ = some (.bool false) ∧ w'.cell? ⟨q10, 0, none⟩ = some (.bool true) ∧ w'.cell? ⟨gm, 0, none⟩ = some (.slice (some ⟨hm, 0, none⟩) s5.row.length s5.row.length) ∧ w'.cell? ⟨gm, 1, none⟩ = some (.int .i64 s5.steps) ∧ w'.cell? ⟨gm, 2, none⟩ = some (.int .i64 s5.last.client) ∧ w'.cell? ⟨gm, 3, none⟩ = some (.int .i64 s5.last.kind) ∧ w'.cell? ⟨gm, 4, none⟩ = some (.int .i64 s5.last.place) ∧ w'.cell? ⟨gm, 5, none⟩ = some (.int .u64 s5.last.was) ∧ w'.cell? ⟨gm, 6, none⟩ = some (.int .u64 s5.last.put) ∧ w'.cell? ⟨gm, 7, none⟩ = some (.bool s5.last.ok))) (fun w h => ⟨h.1, h.2.1, h.2.2.1, h.2.2.2.1⟩) _ _ _ _ ?_
            have hHeld : (fun w' => w'.cell? ⟨q5, 0, none⟩ = some (.pointer (some ⟨g, 0, none⟩)) ∧ w'.cell? ⟨q6, 0, none⟩ = some (.pointer (some ⟨gm, 0, none⟩)) ∧ w'.cell? ⟨q9, 0, none⟩ = some (.bool false) ∧ w'.cell? ⟨q10, 0, none⟩ = some (.bool true) ∧ w'.cell? ⟨gm, 0, none⟩ = some (.slice (some ⟨hm, 0, none⟩) s5.row.length s5.row.length) ∧ w'.cell? ⟨gm, 1, none⟩ = some (.int .i64 s5.steps) ∧ w'.cell? ⟨gm, 2, none⟩ = some (.int .i64 s5.last.client) ∧ w'.cell? ⟨gm, 3, none⟩ = some (.int .i64 s5.last.kind) ∧ w'.cell? ⟨gm, 4, none⟩ = some (.int .i64 s5.last.place) ∧ w'.cell? ⟨gm, 5, none⟩ = some (.int .u64 s5.last.was) ∧ w'.cell? ⟨gm, 6, none⟩ = some (.int .u64 s5.last.put) ∧ w'.cell? ⟨gm, 7, none⟩ = some (.bool s5.last.ok)) w5 := ⟨f5, f6, f9, f10, m0, m1, m2, m3, m4, m5, m6, m7⟩
            refine wpAnyH_take (i := 3) (v := ?_) rfl (by kernel_rfl) (by kernel_rfl) (by kernel_rfl) (fun _ _ _ h => h) (Or.inl ⟨by rfl, ?_⟩) (by assumption) ?_
            rotate_left
            · intro w hSw
              try dsimp only at hSw
              go_simp
              first | done | with_reducible rfl
            try simp only [List.getElem_toArray, List.getElem_cons_succ, List.getElem_cons_zero, Act.put, List.setIfInBounds_toArray, List.set_cons_zero, List.set_cons_succ]
            refine wpAnyH_take (i := 4) (v := ?_) rfl (by kernel_rfl) (by kernel_rfl) (by kernel_rfl) (fun _ _ _ h => h) (Or.inl ⟨by rfl, ?_⟩) (by assumption) ?_
            rotate_left
            · intro w hSw
              try dsimp only at hSw
              go_simp
              first | done | with_reducible rfl
            try simp only [List.getElem_toArray, List.getElem_cons_succ, List.getElem_cons_zero, Act.put, List.setIfInBounds_toArray, List.set_cons_zero, List.set_cons_succ]
            refine wpAnyH_take (i := 5) (v := ?_) rfl (by kernel_rfl) (by kernel_rfl) (by kernel_rfl) (fun _ _ _ h => h) (Or.inl ⟨by rfl, ?_⟩) (by assumption) ?_
            rotate_left
            · intro w hSw
              try dsimp only at hSw
              go_simp
              first | done | with_reducible rfl
            try simp only [List.getElem_toArray, List.getElem_cons_succ, List.getElem_cons_zero, Act.put, List.setIfInBounds_toArray, List.set_cons_zero, List.set_cons_succ]
            refine wpAnyH_take (i := 6) (v := ?_) rfl (by kernel_rfl) (by kernel_rfl) (by kernel_rfl) (fun _ _ _ h => h) (Or.inl ⟨by rfl, ?_⟩) (by assumption) ?_
            rotate_left
            · intro w hSw
              try dsimp only at hSw
              go_simp
              first | done | with_reducible rfl
            try simp only [List.getElem_toArray, List.getElem_cons_succ, List.getElem_cons_zero, Act.put, List.setIfInBounds_toArray, List.set_cons_zero, List.set_cons_succ]
            refine wpAnyH_take (i := 7) (v := undef) rfl (by kernel_rfl) (by kernel_rfl) (by kernel_rfl) (fun _ _ _ h => h) (Or.inr ⟨by rfl, rfl⟩) (by assumption) ?_
            try simp only [List.getElem_toArray, List.getElem_cons_succ, List.getElem_cons_zero, Act.put, List.setIfInBounds_toArray, List.set_cons_zero, List.set_cons_succ]
            refine wpAnyH_take (i := 8) (v := undef) rfl (by kernel_rfl) (by kernel_rfl) (by kernel_rfl) (fun _ _ _ h => h) (Or.inr ⟨by rfl, rfl⟩) (by assumption) ?_
            try simp only [List.getElem_toArray, List.getElem_cons_succ, List.getElem_cons_zero, Act.put, List.setIfInBounds_toArray, List.set_cons_zero, List.set_cons_succ]
            refine wpAnyH_take (i := 9) (v := ?_) rfl (by kernel_rfl) (by kernel_rfl) (by kernel_rfl) (fun _ _ _ h => h) (Or.inl ⟨by rfl, ?_⟩) (by assumption) ?_
            rotate_left
            · intro w hSw
              try dsimp only at hSw
              go_simp
              first | done | with_reducible rfl
            try simp only [List.getElem_toArray, List.getElem_cons_succ, List.getElem_cons_zero, Act.put, List.setIfInBounds_toArray, List.set_cons_zero, List.set_cons_succ]
            refine wpAnyH_take (i := 10) (v := ?_) rfl (by kernel_rfl) (by kernel_rfl) (by kernel_rfl) (fun _ _ _ h => h) (Or.inl ⟨by rfl, ?_⟩) (by assumption) ?_
            rotate_left
            · intro w hSw
              try dsimp only at hSw
              go_simp
              first | done | with_reducible rfl
            try simp only [List.getElem_toArray, List.getElem_cons_succ, List.getElem_cons_zero, Act.put, List.setIfInBounds_toArray, List.set_cons_zero, List.set_cons_succ]
            refine wpAnyH_take (i := 11) (v := ?_) rfl (by kernel_rfl) (by kernel_rfl) (by kernel_rfl) (fun _ _ _ h => h) (Or.inl ⟨by rfl, ?_⟩) (by assumption) ?_
            rotate_left
            · intro w hSw
              try dsimp only at hSw
              go_simp
              first | done | with_reducible rfl
            try simp only [List.getElem_toArray, List.getElem_cons_succ, List.getElem_cons_zero, Act.put, List.setIfInBounds_toArray, List.set_cons_zero, List.set_cons_succ]
            refine wpAnyH_take (i := 12) (v := ?_) rfl (by kernel_rfl) (by kernel_rfl) (by kernel_rfl) (fun _ _ _ h => h) (Or.inl ⟨by rfl, ?_⟩) (by assumption) ?_
            rotate_left
            · intro w hSw
              try dsimp only at hSw
              go_simp
              first | done | with_reducible rfl
            try simp only [List.getElem_toArray, List.getElem_cons_succ, List.getElem_cons_zero, Act.put, List.setIfInBounds_toArray, List.set_cons_zero, List.set_cons_succ]
            refine wpAnyH_take (i := 14) (v := ?_) rfl (by kernel_rfl) (by kernel_rfl) (by kernel_rfl) (fun _ _ _ h => h) (Or.inl ⟨by rfl, ?_⟩) (by assumption) ?_
            rotate_left
            · intro w hSw
              try dsimp only at hSw
              go_simp
              first | done | with_reducible rfl
            try simp only [List.getElem_toArray, List.getElem_cons_succ, List.getElem_cons_zero, Act.put, List.setIfInBounds_toArray, List.set_cons_zero, List.set_cons_succ]
            refine wpAnyH_take (i := 15) (v := ?_) rfl (by kernel_rfl) (by kernel_rfl) (by kernel_rfl) (fun _ _ _ h => h) (Or.inl ⟨by rfl, ?_⟩) (by assumption) ?_
            rotate_left
            · intro w hSw
              try dsimp only at hSw
              go_simp
              first | done | with_reducible rfl
            try simp only [List.getElem_toArray, List.getElem_cons_succ, List.getElem_cons_zero, Act.put, List.setIfInBounds_toArray, List.set_cons_zero, List.set_cons_succ]
            refine wpAnyH_take (i := 16) (v := ?_) rfl (by kernel_rfl) (by kernel_rfl) (by kernel_rfl) (fun _ _ _ h => h) (Or.inl ⟨by rfl, ?_⟩) (by assumption) ?_
            rotate_left
            · intro w hSw
              try dsimp only at hSw
              go_simp
              first | done | with_reducible rfl
            try simp only [List.getElem_toArray, List.getElem_cons_succ, List.getElem_cons_zero, Act.put, List.setIfInBounds_toArray, List.set_cons_zero, List.set_cons_succ]
            refine wpAnyH_take (i := 17) (v := ?_) rfl (by kernel_rfl) (by kernel_rfl) (by kernel_rfl) (fun _ _ _ h => h) (Or.inl ⟨by rfl, ?_⟩) (by assumption) ?_
            rotate_left
            · intro w hSw
              try dsimp only at hSw
              go_simp
              first | done | with_reducible rfl
            try simp only [List.getElem_toArray, List.getElem_cons_succ, List.getElem_cons_zero, Act.put, List.setIfInBounds_toArray, List.set_cons_zero, List.set_cons_succ]
            refine wpAnyH_ready (rs := [13]) (by kernel_rfl) (by simp) (AllReadyH.cons rfl (fun K hK => ?_) AllReadyH.nil)
            go_simp
            go_wp2_with (go_at_call 17; refine (steps_any P5.both.isw).mono ?_; rintro e w' ⟨rfl, rfl⟩)
            refine hK.out _ _ ⟨f5, f6, f9, f10, m0, m1, m2, m3, m4, m5, m6, m7⟩ (fun hHeld => ?_)
            clear hK K
            try simp only [List.getElem_toArray, List.getElem_cons_succ, List.getElem_cons_zero, Act.put, List.setIfInBounds_toArray, List.set_cons_zero, List.set_cons_succ]
            refine wpAnyH_take (i := 18) (v := ?_) rfl (by kernel_rfl) (by kernel_rfl) (by kernel_rfl) (fun _ _ _ h => h) (Or.inl ⟨by rfl, ?_⟩) (by assumption) ?_
            rotate_left
            · intro w hSw
              try dsimp only at hSw
              go_simp
              first | done | with_reducible rfl
            try simp only [List.getElem_toArray, List.getElem_cons_succ, List.getElem_cons_zero, Act.put, List.setIfInBounds_toArray, List.set_cons_zero, List.set_cons_succ]
            refine wpAnyH_take (i := 19) (v := ?_) rfl (by kernel_rfl) (by kernel_rfl) (by kernel_rfl) (fun _ _ _ h => h) (Or.inl ⟨by rfl, ?_⟩) (by assumption) ?_
            rotate_left
            · intro w hSw
              try dsimp only at hSw
              go_simp
              first | done | with_reducible rfl
            try simp only [List.getElem_toArray, List.getElem_cons_succ, List.getElem_cons_zero, Act.put, List.setIfInBounds_toArray, List.set_cons_zero, List.set_cons_succ]
            refine wpAnyH_take (i := 20) (v := ?_) rfl (by kernel_rfl) (by kernel_rfl) (by kernel_rfl) (fun _ _ _ h => h) (Or.inl ⟨by rfl, ?_⟩) (by assumption) ?_
            rotate_left
            · intro w hSw
              try dsimp only at hSw
              go_simp
              first | done | with_reducible rfl
            try simp only [List.getElem_toArray, List.getElem_cons_succ, List.getElem_cons_zero, Act.put, List.setIfInBounds_toArray, List.set_cons_zero, List.set_cons_succ]
            refine wpAnyH_take (i := 21) (v := ?_) rfl (by kernel_rfl) (by kernel_rfl) (by kernel_rfl) (fun _ _ _ h => h) (Or.inl ⟨by rfl, ?_⟩) (by assumption) ?_
            rotate_left
            · intro w hSw
              try dsimp only at hSw
              go_simp
              first | done | with_reducible rfl
            try simp only [List.getElem_toArray, List.getElem_cons_succ, List.getElem_cons_zero, Act.put, List.setIfInBounds_toArray, List.set_cons_zero, List.set_cons_succ]
            refine wpAnyH_take (i := 23) (v := ?_) rfl (by kernel_rfl) (by kernel_rfl) (by kernel_rfl) (fun _ _ _ h => h) (Or.inl ⟨by rfl, ?_⟩) (by assumption) ?_
            rotate_left
            · intro w hSw
              try dsimp only at hSw
              go_simp
              first | done | with_reducible rfl
            try simp only [List.getElem_toArray, List.getElem_cons_succ, List.getElem_cons_zero, Act.put, List.setIfInBounds_toArray, List.set_cons_zero, List.set_cons_succ]
            refine wpAnyH_take (i := 24) (v := ?_) rfl (by kernel_rfl) (by kernel_rfl) (by kernel_rfl) (fun _ _ _ h => h) (Or.inl ⟨by rfl, ?_⟩) (by assumption) ?_
            rotate_left
            · intro w hSw
              try dsimp only at hSw
              go_simp
              first | done | with_reducible rfl
            try simp only [List.getElem_toArray, List.getElem_cons_succ, List.getElem_cons_zero, Act.put, List.setIfInBounds_toArray, List.set_cons_zero, List.set_cons_succ]
            refine wpAnyH_take (i := 25) (v := ?_) rfl (by kernel_rfl) (by kernel_rfl) (by kernel_rfl) (fun _ _ _ h => h) (Or.inl ⟨by rfl, ?_⟩) (by assumption) ?_
            rotate_left
            · intro w hSw
              try dsimp only at hSw
              go_simp
              first | done | with_reducible rfl
            try simp only [List.getElem_toArray, List.getElem_cons_succ, List.getElem_cons_zero, Act.put, List.setIfInBounds_toArray, List.set_cons_zero, List.set_cons_succ]
            refine wpAnyH_take (i := 26) (v := ?_) rfl (by kernel_rfl) (by kernel_rfl) (by kernel_rfl) (fun _ _ _ h => h) (Or.inl ⟨by rfl, ?_⟩) (by assumption) ?_
            rotate_left
            · intro w hSw
              try dsimp only at hSw
              go_simp
              first | done | with_reducible rfl
            try simp only [List.getElem_toArray, List.getElem_cons_succ, List.getElem_cons_zero, Act.put, List.setIfInBounds_toArray, List.set_cons_zero, List.set_cons_succ]
            refine wpAnyH_ready (rs := [22]) (by kernel_rfl) (by simp) (AllReadyH.cons rfl (fun K hK => ?_) AllReadyH.nil)
            go_simp
            go_wp2_with (go_at_call 16; refine (last_any P5.both.isw).mono ?_; rintro e w6 ⟨he, O6⟩; obtain rfl : e = .returned (.agg #[.int .i64 s5.last.client, .int .i64 s5.last.kind, .int .i64 s5.last.place, .int .u64 s5.last.was, .int .u64 s5.last.put, .bool s5.last.ok]) := he; have B6 := P5.both.off0 O6; obtain ⟨n0, n1, n2, n3, n4, n5, n6, n7⟩ := B6.ism.cells; have E6 := P5.env.off0 O6; have g5 := E6.b5.cell 0; have g6 := E6.b6.cell 0; have g9 := E6.b9.cell 0; have g10 := E6.b10.cell 0)
            refine hK.out _ _ ⟨g5, g6, g9, g10, n0, n1, n2, n3, n4, n5, n6, n7⟩ (fun hHeld => ?_)
            clear hK K
            try simp only [List.getElem_toArray, List.getElem_cons_succ, List.getElem_cons_zero, Act.put, List.setIfInBounds_toArray, List.set_cons_zero, List.set_cons_succ]
            refine wpAnyH_take (i := 27) (v := ?_) rfl (by kernel_rfl) (by kernel_rfl) (by kernel_rfl) (fun _ _ _ h => h) (Or.inl ⟨by rfl, ?_⟩) (by assumption) ?_
            rotate_left
            · intro w hSw
              try dsimp only at hSw
              go_simp
              first | done | with_reducible rfl
            try simp only [List.getElem_toArray, List.getElem_cons_succ, List.getElem_cons_zero, Act.put, List.setIfInBounds_toArray, List.set_cons_zero, List.set_cons_succ]
            refine wpAnyH_take (i := 28) (v := ?_) rfl (by kernel_rfl) (by kernel_rfl) (by kernel_rfl) (fun _ _ _ h => h) (Or.inl ⟨by rfl, ?_⟩) (by assumption) ?_
            rotate_left
            · intro w hSw
              try dsimp only at hSw
              go_simp
              first | done | with_reducible rfl
            try simp only [List.getElem_toArray, List.getElem_cons_succ, List.getElem_cons_zero, Act.put, List.setIfInBounds_toArray, List.set_cons_zero, List.set_cons_succ]
            refine wpAnyH_take (i := 29) (v := ?_) rfl (by kernel_rfl) (by kernel_rfl) (by kernel_rfl) (fun _ _ _ h => h) (Or.inl ⟨by rfl, ?_⟩) (by assumption) ?_
            rotate_left
            · intro w hSw
              try dsimp only at hSw
              go_simp
              first | done | with_reducible rfl
            try simp only [List.getElem_toArray, List.getElem_cons_succ, List.getElem_cons_zero, Act.put, List.setIfInBounds_toArray, List.set_cons_zero, List.set_cons_succ]
            refine wpAnyH_take (i := 30) (v := ?_) rfl (by kernel_rfl) (by kernel_rfl) (by kernel_rfl) (fun _ _ _ h => h) (Or.inl ⟨by rfl, ?_⟩) (by assumption) ?_
            rotate_left
            · intro w hSw
              try dsimp only at hSw
              go_simp
              first | done | with_reducible rfl
            try simp only [List.getElem_toArray, List.getElem_cons_succ, List.getElem_cons_zero, Act.put, List.setIfInBounds_toArray, List.set_cons_zero, List.set_cons_succ]
            refine wpAnyH_take (i := 32) (v := ?_) rfl (by kernel_rfl) (by kernel_rfl) (by kernel_rfl) (fun _ _ _ h => h) (Or.inl ⟨by rfl, ?_⟩) (by assumption) ?_
            rotate_left
            · intro w hSw
              try dsimp only at hSw
              go_simp
              first | done | with_reducible rfl
            try simp only [List.getElem_toArray, List.getElem_cons_succ, List.getElem_cons_zero, Act.put, List.setIfInBounds_toArray, List.set_cons_zero, List.set_cons_succ]
            refine wpAnyH_take (i := 33) (v := ?_) rfl (by kernel_rfl) (by kernel_rfl) (by kernel_rfl) (fun _ _ _ h => h) (Or.inl ⟨by rfl, ?_⟩) (by assumption) ?_
            rotate_left
            · intro w hSw
              try dsimp only at hSw
              go_simp
              first | done | with_reducible rfl
            try simp only [List.getElem_toArray, List.getElem_cons_succ, List.getElem_cons_zero, Act.put, List.setIfInBounds_toArray, List.set_cons_zero, List.set_cons_succ]
            refine wpAnyH_take (i := 34) (v := ?_) rfl (by kernel_rfl) (by kernel_rfl) (by kernel_rfl) (fun _ _ _ h => h) (Or.inl ⟨by rfl, ?_⟩) (by assumption) ?_
            rotate_left
            · intro w hSw
              try dsimp only at hSw
              go_simp
              first | done | with_reducible rfl
            try simp only [List.getElem_toArray, List.getElem_cons_succ, List.getElem_cons_zero, Act.put, List.setIfInBounds_toArray, List.set_cons_zero, List.set_cons_succ]
            refine wpAnyH_take (i := 35) (v := ?_) rfl (by kernel_rfl) (by kernel_rfl) (by kernel_rfl) (fun _ _ _ h => h) (Or.inl ⟨by rfl, ?_⟩) (by assumption) ?_
            rotate_left
            · intro w hSw
              try dsimp only at hSw
              go_simp
              first | done | with_reducible rfl
            try simp only [List.getElem_toArray, List.getElem_cons_succ, List.getElem_cons_zero, Act.put, List.setIfInBounds_toArray, List.set_cons_zero, List.set_cons_succ]
            refine wpAnyH_ready (rs := [31]) (by kernel_rfl) (by simp) (AllReadyH.cons rfl (fun K hK => ?_) AllReadyH.nil)
            go_simp
            go_wp2_with (go_at_call 26; refine (all_any B6.isw).mono ?_; rintro e w7 ⟨ga, ca, rfl, hca, hcm, hal, O7, hga⟩; have HAL := Lib.hid hal; clear hal; have B7 := B6.off0 O7; obtain ⟨r0, r1, r2, r3, r4, r5, r6, r7⟩ := B7.ism.cells; have E7 := E6.off0 O7; have i5 := E7.b5.cell 0; have i6 := E7.b6.cell 0; have i9 := E7.b9.cell 0; have i10 := E7.b10.cell 0)
            refine hK.out _ _ ⟨i5, i6, i9, i10, r0, r1, r2, r3, r4, r5, r6, r7⟩ (fun hHeld => ?_)
            clear hK K
            try simp only [List.getElem_toArray, List.getElem_cons_succ, List.getElem_cons_zero, Act.put, List.setIfInBounds_toArray, List.set_cons_zero, List.set_cons_succ]
            refine wpAnyH_ready (rs := [36]) (by kernel_rfl) (by simp) (AllReadyH.cons rfl (fun K hK => ?_) AllReadyH.nil)
            go_simp
            go_wp2_with (go_at_call 25; refine (same_words ga hm ca _ s5.row _ hca (Nat.le_refl _) B7.isw.small HAL.out (fun k hk => B7.ism.cell_at k hk)).mono ?_; rintro e w8 ⟨rfl, O8⟩; have B8 := B7.off0 O8; obtain ⟨t0, t1, t2, t3, t4, t5, t6, t7⟩ := B8.ism.cells; have E8 := E7.off0 O8; have j5 := E8.b5.cell 0; have j6 := E8.b6.cell 0; have j9 := E8.b9.cell 0; have j10 := E8.b10.cell 0)
            refine hK.out _ _ ⟨j5, j6, j9, j10, t0, t1, t2, t3, t4, t5, t6, t7⟩ (fun hHeld => ?_)
            clear hK K
            try simp only [List.getElem_toArray, List.getElem_cons_succ, List.getElem_cons_zero, Act.put, List.setIfInBounds_toArray, List.set_cons_zero, List.set_cons_succ]
            refine wpAnyH_take (i := 37) (v := ?_) rfl (by kernel_rfl) (by kernel_rfl) (by kernel_rfl) (fun _ _ _ h => h) (Or.inl ⟨by rfl, ?_⟩) (by assumption) ?_
            rotate_left
            · intro w hSw
              try dsimp only at hSw
              go_simp
              first | done | with_reducible rfl
            try simp only [List.getElem_toArray, List.getElem_cons_succ, List.getElem_cons_zero, Act.put, List.setIfInBounds_toArray, List.set_cons_zero, List.set_cons_succ]
            refine wpAnyH_take (i := 38) (v := ?_) rfl (by kernel_rfl) (by kernel_rfl) (by kernel_rfl) (fun _ _ _ h => h) (Or.inl ⟨by rfl, ?_⟩) (by assumption) ?_
            rotate_left
            · intro w hSw
              try dsimp only at hSw
              go_simp
              first | done | with_reducible rfl
            try simp only [List.getElem_toArray, List.getElem_cons_succ, List.getElem_cons_zero, Act.put, List.setIfInBounds_toArray, List.set_cons_zero, List.set_cons_succ]
            refine wpAnyH_done (by kernel_rfl) ?_ _
            refine NoPanic.normal ?_

            all_goals
              go_wp2_with fail
              go_roundw
              case rel => exact ⟨j + 1, s5, by omega, by go_num, play_next HP.out O4 P5 hge ((O6.trans O7).trans O8) ((Off.refl _ _).drewN _)⟩
              case measure => simp [intOf]; omega
    · obtain rfl : j = nd := by omega
      go_wp2_with fail
      go_ret
      exact ⟨rfl, hp.below⟩

end Go.Proofs.Ytaegjkpodhkogaa.Words
