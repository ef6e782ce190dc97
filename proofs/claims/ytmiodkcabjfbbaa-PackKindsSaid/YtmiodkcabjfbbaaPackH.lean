/- PackKinds: the walk. -/
import Derived.Test.YtmiodkcabjfbbaaPackG
import Derived.Deep.QuietTactic
import Derived.BigQuiet
import Derived.Deep.RegionWith
import Derived.Deep.RegionHeld3
namespace Go.Proofs.Ytmiodkcabjfbbaa.Pack
open Go.RowKit Mem Plan

/-- A page, a slot, an entry and whether it was read: in memory of its own. -/
def Made (W : World) (t : TypeId) (cs : Array Value) (b : Bool) (x y : Value) (wx : World) : Prop :=
  ∃ g : Nat, x = .pointer (some ⟨g, 0, none⟩) ∧ y = .bool b ∧ Blk wx g t cs ∧ Off [] W wx

theorem slot_eq (w : World) : (binOp .eql 27 (.agg #[.int .i64 0, .int .i64 0]) (.agg #[.int .i64 0, .int .i64 0])).run Try.prog w = .ok (.bool true) w := by kernel_rfl

set_option maxHeartbeats 8000000 in
set_option maxRecDepth 100000 in
theorem kinds_walk (P C M n0 n1 n2 bit : Int) (w : World) (hn0 : (Lit.int .u8 n0).wf = true) (hn1 : (Lit.int .u8 n1).wf = true) (hn2 : (Lit.int .u8 n2).wf = true) (hbit : (Lit.int .u8 bit).wf = true) :
    Calls Try.prog 4 #[.agg #[.int .i64 P, .int .i64 C, .int .i64 M], .agg #[.int .u8 n0, .int .u8 n1, .int .u8 n2], .int .u8 bit] w fun e w' => e = .returned (.bool true) ∧ Below w.heap.size w w' := by
  obtain ⟨n00, n01⟩ := u8_bd hn0
  obtain ⟨n10, n11⟩ := u8_bd hn1
  obtain ⟨n20, n21⟩ := u8_bd hn2
  obtain ⟨b0, b1⟩ := u8_bd hbit
  clear hn0 hn1 hn2 hbit
  obtain ⟨h1, h0, hof⟩ := box_two w 37 22 #[.int .i64 P, .int .i64 C, .int .i64 M] #[.int .u8 n0, .int .u8 n1, .int .u8 n2]
  have HO := Lib.hid hof
  have HS := Lib.hid h0
  have HN := Lib.hid h1
  clear h0 h1 hof
  have hoff := Off.refl [] ((w.alloc (.cells #[.int .i64 P, .int .i64 C, .int .i64 M] 37)).alloc (.cells #[.int .u8 n0, .int .u8 n1, .int .u8 n2] 22))
  have HC := Lib.hid (show ∀ w', Off [] ((w.alloc (.cells #[.int .i64 P, .int .i64 C, .int .i64 M] 37)).alloc (.cells #[.int .u8 n0, .int .u8 n1, .int .u8 n2] 22)) w' → w'.cell? ⟨w.heap.size, 0, none⟩ = some (.int .i64 P) ∧ w'.cell? ⟨w.heap.size, 1, none⟩ = some (.int .i64 C) ∧ w'.cell? ⟨w.heap.size, 2, none⟩ = some (.int .i64 M) ∧ w'.cell? ⟨w.heap.size + 1, 0, none⟩ = some (.int .u8 n0) ∧ w'.cell? ⟨w.heap.size + 1, 1, none⟩ = some (.int .u8 n1) ∧ w'.cell? ⟨w.heap.size + 1, 2, none⟩ = some (.int .u8 n2) from fun w' h =>
    have a := shp_cells (h.blk HS.out (by simp))
    have b := h.blk HN.out (by simp)
    ⟨a.1, a.2.1, a.2.2, b.cell 0, b.cell 1, b.cell 2⟩)
  rcases fit_cases P C M with hf | hf
  · have hm := mayB_t hf
    have HF := Lib.hid hf
    obtain ⟨p1, p2, c1, c2, m1, m2⟩ := hf
    go_enter Try.func4, Try.ntmps4
    go_upto_region 5 with (first | (go_at_call 5; refine (awake4 _).mono ?_; rintro e w1 ⟨rfl, ho⟩; replace hoff := hoff.trans ho; clear ho; obtain ⟨d0, d1, d2, g0, g1, g2⟩ := HC.out _ hoff) | (go_at_call 10; refine (rmay_any _ _ _ _).mono ?_; rintro e w2 ⟨rfl, ho⟩; replace hoff := hoff.trans ho; clear ho; obtain ⟨d0, d1, d2, g0, g1, g2⟩ := HC.out _ hoff))
    have tc : n0.tmod C = n0 % C := Int.tmod_eq_emod_of_nonneg n00
    have tp : n1.tmod P = n1 % P := Int.tmod_eq_emod_of_nonneg n10
    go_quiet (fail)
    go_upto_region 6 with fail
    have hc0 : 0 ≤ n0 % C := Int.emod_nonneg _ (by omega)
    have hc1 : n0 % C < C := Int.emod_lt_of_pos _ (by omega)
    have hq0 : 0 ≤ n1 % P := Int.emod_nonneg _ (by omega)
    have hq1 : n1 % P < P := Int.emod_lt_of_pos _ (by omega)
    have hk0 : 0 ≤ n2 % 4 := Int.emod_nonneg _ (by omega)
    have hk1 : n2 % 4 < 4 := Int.emod_lt_of_pos _ (by omega)
    have ho3 := hoff.drewN nq
    clear tc tp hoff d0 d1 d2 g0 g1 g2
    generalize w2.drewN nq = w3 at *
    generalize n0 % C = c at *
    generalize n1 % P = p at *
    generalize n2 % 4 = k at *
    clear n00 n01 n10 n11 n20 n21
    obtain ⟨⟨⟨i1, s1⟩, i2, s2⟩, ⟨⟨i3, s3⟩, i4, s4⟩, i5, s5, s6⟩ := kinds_stand HF.out hc0 hc1 hq0 hq1 hk0 hk1
    have R1 := Lib.hid (fun W => readPage_put i1 s1 W)
    have R2 := Lib.hid (fun W => readPage_put i2 s2 W)
    have R3 := Lib.hid (fun W => readPage_put i3 s3 W)
    have R4 := Lib.hid (fun W => readPage_put i4 s4 W)
    have R5 := Lib.hid (fun W => readEntry_put (M := M) i5 s5 s6 W)
    clear i1 s1 i2 s2 i3 s3 i4 s4 i5 s5 s6
    have HB := Lib.hid HC
    have HO3 := Lib.hid ho3
    clear ho3
    have HC3 := Lib.hid (show ∀ w', Off [] w3 w' → w'.cell? ⟨w.heap.size, 0, none⟩ = some (.int .i64 P) ∧ w'.cell? ⟨w.heap.size, 1, none⟩ = some (.int .i64 C) ∧ w'.cell? ⟨w.heap.size, 2, none⟩ = some (.int .i64 M) from fun w' h => by
      obtain ⟨a, b, c, -, -, -⟩ := HC.out _ (HO3.out.trans h)
      exact ⟨a, b, c⟩)
    have hq := Off.refl [] w3
    obtain ⟨d0, d1, d2⟩ := HC3.out _ hq
    go_cut [10, 11] (fun x y wx => Made w3 25 #[.int .i64 1, .int .i64 c, .int .i64 0] true x y wx)
    case first =>
      as_aux_lemma =>
        refine wp_region_noPanic ?_
        refine wp_region_held_drew (S := (fun w' => w'.cell? ⟨w.heap.size, 0, none⟩ = some (.int .i64 P) ∧ w'.cell? ⟨w.heap.size, 1, none⟩ = some (.int .i64 C) ∧ w'.cell? ⟨w.heap.size, 2, none⟩ = some (.int .i64 M))) (by kernel_rfl) ⟨d0, d1, d2⟩ (fun hHeld => ?_)
        refine wpAnyH_take (i := 0) (v := ?_) rfl (by kernel_rfl) (by kernel_rfl) (by kernel_rfl) (fun _ _ _ h => h) (Or.inl ⟨by rfl, ?_⟩) (by assumption) ?_
        rotate_left
        · intro w hSw
          try dsimp only at hSw
          go_simp
          first | done | with_reducible rfl
        try simp only [List.getElem_toArray, List.getElem_cons_zero, Act.put, List.setIfInBounds_toArray, List.set_cons_zero, List.set_cons_succ]
        refine wpAnyH_take (i := 1) (v := ?_) rfl (by kernel_rfl) (by kernel_rfl) (by kernel_rfl) (fun _ _ _ h => h) (Or.inl ⟨by rfl, ?_⟩) (by assumption) ?_
        rotate_left
        · intro w hSw
          try dsimp only at hSw
          go_simp
          first | done | with_reducible rfl
        try simp only [List.getElem_toArray, List.getElem_cons_succ, List.getElem_cons_zero, Act.put, List.setIfInBounds_toArray, List.set_cons_zero, List.set_cons_succ]
        refine wpAnyH_take (i := 2) (v := ?_) rfl (by kernel_rfl) (by kernel_rfl) (by kernel_rfl) (fun _ _ _ h => h) (Or.inl ⟨by rfl, ?_⟩) (by assumption) ?_
        rotate_left
        · intro w hSw
          try dsimp only at hSw
          go_simp
          first | done | with_reducible rfl
        try simp only [List.getElem_toArray, List.getElem_cons_succ, List.getElem_cons_zero, Act.put, List.setIfInBounds_toArray, List.set_cons_zero, List.set_cons_succ]
        refine wpAnyH_take (i := 3) (v := ?_) rfl (by kernel_rfl) (by kernel_rfl) (by kernel_rfl) (fun _ _ _ h => h) (Or.inl ⟨by rfl, ?_⟩) (by assumption) ?_
        rotate_left
        · intro w hSw
          try dsimp only at hSw
          go_simp
          first | done | with_reducible rfl
        try simp only [List.getElem_toArray, List.getElem_cons_succ, List.getElem_cons_zero, Act.put, List.setIfInBounds_toArray, List.set_cons_zero, List.set_cons_succ]
        refine wpAnyH_ready (rs := [4, 9]) (by kernel_rfl) (by simp) (AllReadyH.cons rfl (fun K hK => ?_) (AllReadyH.cons rfl (fun K hK => ?_) AllReadyH.nil))
        · as_aux_lemma =>
            go_simp
            go_wp2_with ((go_at_call 6; refine (putPage_any _ _ _ _).mono ?_; rintro e w4 ⟨rfl, ho⟩; (first | (have hz' := ho.blk hz (by simp); replace hz := hz'; clear hz'; replace hq := hq.trans ho) | (replace hq := hq.drew.trans ho)); have hqs := hq.size; clear ho))
            refine hK.out _ _ ?_ (fun hHeld => ?_)
            · (first | exact HC3.out _ hq | exact HC3.out _ hq.drew | exact HC3.out _ (hq.alloc _) | exact HC3.out _ (hq.alloc _).drew | exact HC3.out _ (hq.drew.alloc _))
            clear hK K
            try simp only [List.getElem_toArray, List.getElem_cons_succ, List.getElem_cons_zero, Act.put, List.setIfInBounds_toArray, List.set_cons_zero, List.set_cons_succ]
            refine wpAnyH_ready (rs := [5, 9]) (by kernel_rfl) (by simp) (AllReadyH.cons rfl (fun K hK => ?_) (AllReadyH.cons rfl (fun K hK => ?_) AllReadyH.nil))
            · as_aux_lemma =>
                go_simp
                go_wp2_with ((go_at_call 11; refine (R1.out _).mono ?_; rintro e w5 ⟨rfl, ho⟩; (first | (have hz' := ho.blk hz (by simp); replace hz := hz'; clear hz'; obtain ⟨z0, z1, z2⟩ := shp_cells hz; obtain ⟨f0, f1, f2⟩ := shp_free hz) | skip); replace hq := hq.trans ho; clear ho))
                refine hK.out _ _ ?_ (fun hHeld => ?_)
                · (first | exact HC3.out _ hq | exact HC3.out _ hq.drew | exact HC3.out _ (hq.alloc _) | exact HC3.out _ (hq.alloc _).drew | exact HC3.out _ (hq.drew.alloc _))
                clear hK K
                try simp only [List.getElem_toArray, List.getElem_cons_succ, List.getElem_cons_zero, Act.put, List.setIfInBounds_toArray, List.set_cons_zero, List.set_cons_succ]
                refine wpAnyH_take (i := 6) (v := ?_) rfl (by kernel_rfl) (by kernel_rfl) (by kernel_rfl) (fun _ _ _ h => h) (Or.inl ⟨by rfl, ?_⟩) (by assumption) ?_
                rotate_left
                · intro w hSw
                  try dsimp only at hSw
                  go_simp
                  first | done | with_reducible rfl
                try simp only [List.getElem_toArray, List.getElem_cons_succ, List.getElem_cons_zero, Act.put, List.setIfInBounds_toArray, List.set_cons_zero, List.set_cons_succ]
                refine wpAnyH_take (i := 7) (v := ?_) rfl (by kernel_rfl) (by kernel_rfl) (by kernel_rfl) (fun _ _ _ h => h) (Or.inl ⟨by rfl, ?_⟩) (by assumption) ?_
                rotate_left
                · intro w hSw
                  try dsimp only at hSw
                  go_simp
                  first | done | with_reducible rfl
                try simp only [List.getElem_toArray, List.getElem_cons_succ, List.getElem_cons_zero, Act.put, List.setIfInBounds_toArray, List.set_cons_zero, List.set_cons_succ]
                refine wpAnyH_take (i := 8) (v := ?_) rfl (by kernel_rfl) (by kernel_rfl) (by kernel_rfl) (fun _ _ _ h => h) (Or.inl ⟨by rfl, ?_⟩) (by assumption) ?_
                rotate_left
                · intro w hSw
                  try dsimp only at hSw
                  go_simp
                  first | done | with_reducible rfl
                try simp only [List.getElem_toArray, List.getElem_cons_succ, List.getElem_cons_zero, Act.put, List.setIfInBounds_toArray, List.set_cons_zero, List.set_cons_succ]
                refine wpAnyH_ready (rs := [9]) (by kernel_rfl) (by simp) (AllReadyH.cons rfl (fun K hK => ?_) AllReadyH.nil)
                go_simp
                refine hK.out _ _ ?_ (fun hHeld => ?_)
                · (first | exact HC3.out _ hq | exact HC3.out _ hq.drew | exact HC3.out _ (hq.alloc _) | exact HC3.out _ (hq.alloc _).drew | exact HC3.out _ (hq.drew.alloc _))
                clear hK K
                try simp only [List.getElem_toArray, List.getElem_cons_succ, List.getElem_cons_zero, Act.put, List.setIfInBounds_toArray, List.set_cons_zero, List.set_cons_succ]
                skip
                refine wpAnyH_ready (rs := [10]) (by kernel_rfl) (by simp) (AllReadyH.cons rfl (fun K hK => ?_) AllReadyH.nil)
                go_simp
                refine hK.out _ _ ?_ (fun hHeld => ?_)
                · exact HC3.out _ (hq.alloc _)
                clear hK K
                try simp only [List.getElem_toArray, List.getElem_cons_succ, List.getElem_cons_zero, Act.put, List.setIfInBounds_toArray, List.set_cons_zero, List.set_cons_succ]
                refine wpAnyH_take (i := 11) (v := ?_) rfl (by kernel_rfl) (by kernel_rfl) (by kernel_rfl) (fun _ _ _ h => h) (Or.inl ⟨by rfl, ?_⟩) (by assumption) ?_
                rotate_left
                · intro w hSw
                  try dsimp only at hSw
                  go_simp
                  first | done | with_reducible rfl
                try simp only [List.getElem_toArray, List.getElem_cons_succ, List.getElem_cons_zero, Act.put, List.setIfInBounds_toArray, List.set_cons_zero, List.set_cons_succ]
                refine wpAnyH_done (by kernel_rfl) ?_ _
                refine NoPanic.normal ?_
                go_wp2_with fail
                go_meet
                case rel => exact ⟨_, rfl, rfl, Blk.new _ _ _, hq.alloc _⟩
            · as_aux_lemma =>
                go_simp
                refine hK.out _ _ ?_ (fun hHeld => ?_)
                · (first | exact HC3.out _ hq | exact HC3.out _ hq.drew | exact HC3.out _ (hq.alloc _) | exact HC3.out _ (hq.alloc _).drew | exact HC3.out _ (hq.drew.alloc _))
                clear hK K
                try simp only [List.getElem_toArray, List.getElem_cons_succ, List.getElem_cons_zero, Act.put, List.setIfInBounds_toArray, List.set_cons_zero, List.set_cons_succ]
                have hz := Blk.new w4 25 #[.int .i64 0, .int .i64 0, .int .i64 0]
                replace hq := hq.alloc (.cells #[.int .i64 0, .int .i64 0, .int .i64 0] 25)
                refine wpAnyH_ready (rs := [5]) (by kernel_rfl) (by simp) (AllReadyH.cons rfl (fun K hK => ?_) AllReadyH.nil)
                go_simp
                go_wp2_with ((go_at_call 11; refine (R1.out _).mono ?_; rintro e w5 ⟨rfl, ho⟩; (first | (have hz' := ho.blk hz (by simp); replace hz := hz'; clear hz'; obtain ⟨z0, z1, z2⟩ := shp_cells hz; obtain ⟨f0, f1, f2⟩ := shp_free hz) | skip); replace hq := hq.trans ho; clear ho))
                refine hK.out _ _ ?_ (fun hHeld => ?_)
                · (first | exact HC3.out _ hq | exact HC3.out _ hq.drew | exact HC3.out _ (hq.alloc _) | exact HC3.out _ (hq.alloc _).drew | exact HC3.out _ (hq.drew.alloc _))
                clear hK K
                try simp only [List.getElem_toArray, List.getElem_cons_succ, List.getElem_cons_zero, Act.put, List.setIfInBounds_toArray, List.set_cons_zero, List.set_cons_succ]
                refine wpAnyH_take (i := 6) (v := ?_) rfl (by kernel_rfl) (by kernel_rfl) (by kernel_rfl) (fun _ _ _ h => h) (Or.inl ⟨by rfl, ?_⟩) (by assumption) ?_
                rotate_left
                · intro w hSw
                  try dsimp only at hSw
                  go_simp
                  first | done | with_reducible rfl
                try simp only [List.getElem_toArray, List.getElem_cons_succ, List.getElem_cons_zero, Act.put, List.setIfInBounds_toArray, List.set_cons_zero, List.set_cons_succ]
                refine wpAnyH_take (i := 7) (v := ?_) rfl (by kernel_rfl) (by kernel_rfl) (by kernel_rfl) (fun _ _ _ h => h) (Or.inl ⟨by rfl, ?_⟩) (by assumption) ?_
                rotate_left
                · intro w hSw
                  try dsimp only at hSw
                  go_simp
                  first | done | with_reducible rfl
                try simp only [List.getElem_toArray, List.getElem_cons_succ, List.getElem_cons_zero, Act.put, List.setIfInBounds_toArray, List.set_cons_zero, List.set_cons_succ]
                refine wpAnyH_take (i := 8) (v := ?_) rfl (by kernel_rfl) (by kernel_rfl) (by kernel_rfl) (fun _ _ _ h => h) (Or.inl ⟨by rfl, ?_⟩) (by assumption) ?_
                rotate_left
                · intro w hSw
                  try dsimp only at hSw
                  go_simp
                  first | done | with_reducible rfl
                try simp only [List.getElem_toArray, List.getElem_cons_succ, List.getElem_cons_zero, Act.put, List.setIfInBounds_toArray, List.set_cons_zero, List.set_cons_succ]
                refine wpAnyH_ready (rs := [10]) (by kernel_rfl) (by simp) (AllReadyH.cons rfl (fun K hK => ?_) AllReadyH.nil)
                go_simp
                refine hK.out _ _ ?_ (fun hHeld => ?_)
                · exact HC3.out _ (((hq.set (.inr (by simp; try omega)) _).set (.inr (by simp; try omega)) _).set (.inr (by simp; try omega)) _)
                clear hK K
                try simp only [List.getElem_toArray, List.getElem_cons_succ, List.getElem_cons_zero, Act.put, List.setIfInBounds_toArray, List.set_cons_zero, List.set_cons_succ]
                refine wpAnyH_take (i := 11) (v := ?_) rfl (by kernel_rfl) (by kernel_rfl) (by kernel_rfl) (fun _ _ _ h => h) (Or.inl ⟨by rfl, ?_⟩) (by assumption) ?_
                rotate_left
                · intro w hSw
                  try dsimp only at hSw
                  go_simp
                  first | done | with_reducible rfl
                try simp only [List.getElem_toArray, List.getElem_cons_succ, List.getElem_cons_zero, Act.put, List.setIfInBounds_toArray, List.set_cons_zero, List.set_cons_succ]
                refine wpAnyH_done (by kernel_rfl) ?_ _
                refine NoPanic.normal ?_
                go_wp2_with fail
                go_meet
                case rel => exact ⟨_, rfl, rfl, (((hz.set 0 _).set 1 _).set 2 _).to (by simp), ((hq.set (.inr (by simp; try omega)) _).set (.inr (by simp; try omega)) _).set (.inr (by simp; try omega)) _⟩
        · as_aux_lemma =>
            go_simp
            refine hK.out _ _ ?_ (fun hHeld => ?_)
            · (first | exact HC3.out _ hq | exact HC3.out _ hq.drew | exact HC3.out _ (hq.alloc _) | exact HC3.out _ (hq.alloc _).drew | exact HC3.out _ (hq.drew.alloc _))
            clear hK K
            try simp only [List.getElem_toArray, List.getElem_cons_succ, List.getElem_cons_zero, Act.put, List.setIfInBounds_toArray, List.set_cons_zero, List.set_cons_succ]
            have hz := blk_drew (Blk.new w3 25 #[.int .i64 0, .int .i64 0, .int .i64 0])
            replace hq := (hq.alloc (.cells #[.int .i64 0, .int .i64 0, .int .i64 0] 25)).drew
            refine wpAnyH_ready (rs := [4]) (by kernel_rfl) (by simp) (AllReadyH.cons rfl (fun K hK => ?_) AllReadyH.nil)
            go_simp
            go_wp2_with ((go_at_call 6; refine (putPage_any _ _ _ _).mono ?_; rintro e w4 ⟨rfl, ho⟩; (first | (have hz' := ho.blk hz (by simp); replace hz := hz'; clear hz'; replace hq := hq.trans ho) | (replace hq := hq.drew.trans ho)); have hqs := hq.size; clear ho))
            refine hK.out _ _ ?_ (fun hHeld => ?_)
            · (first | exact HC3.out _ hq | exact HC3.out _ hq.drew | exact HC3.out _ (hq.alloc _) | exact HC3.out _ (hq.alloc _).drew | exact HC3.out _ (hq.drew.alloc _))
            clear hK K
            try simp only [List.getElem_toArray, List.getElem_cons_succ, List.getElem_cons_zero, Act.put, List.setIfInBounds_toArray, List.set_cons_zero, List.set_cons_succ]
            refine wpAnyH_ready (rs := [5]) (by kernel_rfl) (by simp) (AllReadyH.cons rfl (fun K hK => ?_) AllReadyH.nil)
            go_simp
            go_wp2_with ((go_at_call 11; refine (R1.out _).mono ?_; rintro e w5 ⟨rfl, ho⟩; (first | (have hz' := ho.blk hz (by simp); replace hz := hz'; clear hz'; obtain ⟨z0, z1, z2⟩ := shp_cells hz; obtain ⟨f0, f1, f2⟩ := shp_free hz) | skip); replace hq := hq.trans ho; clear ho))
            refine hK.out _ _ ?_ (fun hHeld => ?_)
            · (first | exact HC3.out _ hq | exact HC3.out _ hq.drew | exact HC3.out _ (hq.alloc _) | exact HC3.out _ (hq.alloc _).drew | exact HC3.out _ (hq.drew.alloc _))
            clear hK K
            try simp only [List.getElem_toArray, List.getElem_cons_succ, List.getElem_cons_zero, Act.put, List.setIfInBounds_toArray, List.set_cons_zero, List.set_cons_succ]
            refine wpAnyH_take (i := 6) (v := ?_) rfl (by kernel_rfl) (by kernel_rfl) (by kernel_rfl) (fun _ _ _ h => h) (Or.inl ⟨by rfl, ?_⟩) (by assumption) ?_
            rotate_left
            · intro w hSw
              try dsimp only at hSw
              go_simp
              first | done | with_reducible rfl
            try simp only [List.getElem_toArray, List.getElem_cons_succ, List.getElem_cons_zero, Act.put, List.setIfInBounds_toArray, List.set_cons_zero, List.set_cons_succ]
            refine wpAnyH_take (i := 7) (v := ?_) rfl (by kernel_rfl) (by kernel_rfl) (by kernel_rfl) (fun _ _ _ h => h) (Or.inl ⟨by rfl, ?_⟩) (by assumption) ?_
            rotate_left
            · intro w hSw
              try dsimp only at hSw
              go_simp
              first | done | with_reducible rfl
            try simp only [List.getElem_toArray, List.getElem_cons_succ, List.getElem_cons_zero, Act.put, List.setIfInBounds_toArray, List.set_cons_zero, List.set_cons_succ]
            refine wpAnyH_take (i := 8) (v := ?_) rfl (by kernel_rfl) (by kernel_rfl) (by kernel_rfl) (fun _ _ _ h => h) (Or.inl ⟨by rfl, ?_⟩) (by assumption) ?_
            rotate_left
            · intro w hSw
              try dsimp only at hSw
              go_simp
              first | done | with_reducible rfl
            try simp only [List.getElem_toArray, List.getElem_cons_succ, List.getElem_cons_zero, Act.put, List.setIfInBounds_toArray, List.set_cons_zero, List.set_cons_succ]
            refine wpAnyH_ready (rs := [10]) (by kernel_rfl) (by simp) (AllReadyH.cons rfl (fun K hK => ?_) AllReadyH.nil)
            go_simp
            refine hK.out _ _ ?_ (fun hHeld => ?_)
            · exact HC3.out _ (((hq.set (.inr (by simp; try omega)) _).set (.inr (by simp; try omega)) _).set (.inr (by simp; try omega)) _)
            clear hK K
            try simp only [List.getElem_toArray, List.getElem_cons_succ, List.getElem_cons_zero, Act.put, List.setIfInBounds_toArray, List.set_cons_zero, List.set_cons_succ]
            refine wpAnyH_take (i := 11) (v := ?_) rfl (by kernel_rfl) (by kernel_rfl) (by kernel_rfl) (fun _ _ _ h => h) (Or.inl ⟨by rfl, ?_⟩) (by assumption) ?_
            rotate_left
            · intro w hSw
              try dsimp only at hSw
              go_simp
              first | done | with_reducible rfl
            try simp only [List.getElem_toArray, List.getElem_cons_succ, List.getElem_cons_zero, Act.put, List.setIfInBounds_toArray, List.set_cons_zero, List.set_cons_succ]
            refine wpAnyH_done (by kernel_rfl) ?_ _
            refine NoPanic.normal ?_
            go_wp2_with fail
            go_meet
            case rel => exact ⟨_, rfl, rfl, (((hz.set 0 _).set 1 _).set 2 _).to (by simp), ((hq.set (.inr (by simp; try omega)) _).set (.inr (by simp; try omega)) _).set (.inr (by simp; try omega)) _⟩
    case rest =>
      obtain ⟨ga, rfl, rfl, gaB, o1⟩ := hcut
      have Hga := Lib.hid gaB
      replace HO3 := Lib.hid (HO3.out.trans o1)
      clear o1 gaB HC3 hq d0 d1 d2
      clear w3
      generalize wc = w3 at *
      go_upto_region 7 with fail
      have HC3 := Lib.hid (show ∀ w', Off [] w3 w' → w'.cell? ⟨w.heap.size, 0, none⟩ = some (.int .i64 P) ∧ w'.cell? ⟨w.heap.size, 1, none⟩ = some (.int .i64 C) ∧ w'.cell? ⟨w.heap.size, 2, none⟩ = some (.int .i64 M) from fun w' h => by
        obtain ⟨a, b, c, -, -, -⟩ := HC.out _ (HO3.out.trans h)
        exact ⟨a, b, c⟩)
      have hq := Off.refl [] w3
      obtain ⟨d0, d1, d2⟩ := HC3.out _ hq
      go_cut [12, 13] (fun x y wx => Made w3 25 #[.int .i64 2, .int .i64 k, .int .i64 c] true x y wx)
      case first =>
        as_aux_lemma =>
          refine wp_region_noPanic ?_
          refine wp_region_held_drew (S := (fun w' => w'.cell? ⟨w.heap.size, 0, none⟩ = some (.int .i64 P) ∧ w'.cell? ⟨w.heap.size, 1, none⟩ = some (.int .i64 C) ∧ w'.cell? ⟨w.heap.size, 2, none⟩ = some (.int .i64 M))) (by kernel_rfl) ⟨d0, d1, d2⟩ (fun hHeld => ?_)
          refine wpAnyH_take (i := 0) (v := ?_) rfl (by kernel_rfl) (by kernel_rfl) (by kernel_rfl) (fun _ _ _ h => h) (Or.inl ⟨by rfl, ?_⟩) (by assumption) ?_
          rotate_left
          · intro w hSw
            try dsimp only at hSw
            go_simp
            first | done | with_reducible rfl
          try simp only [List.getElem_toArray, List.getElem_cons_zero, Act.put, List.setIfInBounds_toArray, List.set_cons_zero, List.set_cons_succ]
          refine wpAnyH_take (i := 1) (v := ?_) rfl (by kernel_rfl) (by kernel_rfl) (by kernel_rfl) (fun _ _ _ h => h) (Or.inl ⟨by rfl, ?_⟩) (by assumption) ?_
          rotate_left
          · intro w hSw
            try dsimp only at hSw
            go_simp
            first | done | with_reducible rfl
          try simp only [List.getElem_toArray, List.getElem_cons_succ, List.getElem_cons_zero, Act.put, List.setIfInBounds_toArray, List.set_cons_zero, List.set_cons_succ]
          refine wpAnyH_take (i := 2) (v := ?_) rfl (by kernel_rfl) (by kernel_rfl) (by kernel_rfl) (fun _ _ _ h => h) (Or.inl ⟨by rfl, ?_⟩) (by assumption) ?_
          rotate_left
          · intro w hSw
            try dsimp only at hSw
            go_simp
            first | done | with_reducible rfl
          try simp only [List.getElem_toArray, List.getElem_cons_succ, List.getElem_cons_zero, Act.put, List.setIfInBounds_toArray, List.set_cons_zero, List.set_cons_succ]
          refine wpAnyH_take (i := 3) (v := ?_) rfl (by kernel_rfl) (by kernel_rfl) (by kernel_rfl) (fun _ _ _ h => h) (Or.inl ⟨by rfl, ?_⟩) (by assumption) ?_
          rotate_left
          · intro w hSw
            try dsimp only at hSw
            go_simp
            first | done | with_reducible rfl
          try simp only [List.getElem_toArray, List.getElem_cons_succ, List.getElem_cons_zero, Act.put, List.setIfInBounds_toArray, List.set_cons_zero, List.set_cons_succ]
          refine wpAnyH_take (i := 4) (v := ?_) rfl (by kernel_rfl) (by kernel_rfl) (by kernel_rfl) (fun _ _ _ h => h) (Or.inl ⟨by rfl, ?_⟩) (by assumption) ?_
          rotate_left
          · intro w hSw
            try dsimp only at hSw
            go_simp
            first | done | with_reducible rfl
          try simp only [List.getElem_toArray, List.getElem_cons_succ, List.getElem_cons_zero, Act.put, List.setIfInBounds_toArray, List.set_cons_zero, List.set_cons_succ]
          refine wpAnyH_ready (rs := [5, 10]) (by kernel_rfl) (by simp) (AllReadyH.cons rfl (fun K hK => ?_) (AllReadyH.cons rfl (fun K hK => ?_) AllReadyH.nil))
          · as_aux_lemma =>
              go_simp
              go_wp2_with ((go_at_call 6; refine (putPage_any _ _ _ _).mono ?_; rintro e w4 ⟨rfl, ho⟩; (first | (have hz' := ho.blk hz (by simp); replace hz := hz'; clear hz'; replace hq := hq.trans ho) | (replace hq := hq.drew.trans ho)); have hqs := hq.size; clear ho))
              refine hK.out _ _ ?_ (fun hHeld => ?_)
              · (first | exact HC3.out _ hq | exact HC3.out _ hq.drew | exact HC3.out _ (hq.alloc _) | exact HC3.out _ (hq.alloc _).drew | exact HC3.out _ (hq.drew.alloc _))
              clear hK K
              try simp only [List.getElem_toArray, List.getElem_cons_succ, List.getElem_cons_zero, Act.put, List.setIfInBounds_toArray, List.set_cons_zero, List.set_cons_succ]
              refine wpAnyH_ready (rs := [6, 10]) (by kernel_rfl) (by simp) (AllReadyH.cons rfl (fun K hK => ?_) (AllReadyH.cons rfl (fun K hK => ?_) AllReadyH.nil))
              · as_aux_lemma =>
                  go_simp
                  go_wp2_with ((go_at_call 11; refine (R2.out _).mono ?_; rintro e w5 ⟨rfl, ho⟩; (first | (have hz' := ho.blk hz (by simp); replace hz := hz'; clear hz'; obtain ⟨z0, z1, z2⟩ := shp_cells hz; obtain ⟨f0, f1, f2⟩ := shp_free hz) | skip); replace hq := hq.trans ho; clear ho))
                  refine hK.out _ _ ?_ (fun hHeld => ?_)
                  · (first | exact HC3.out _ hq | exact HC3.out _ hq.drew | exact HC3.out _ (hq.alloc _) | exact HC3.out _ (hq.alloc _).drew | exact HC3.out _ (hq.drew.alloc _))
                  clear hK K
                  try simp only [List.getElem_toArray, List.getElem_cons_succ, List.getElem_cons_zero, Act.put, List.setIfInBounds_toArray, List.set_cons_zero, List.set_cons_succ]
                  refine wpAnyH_take (i := 7) (v := ?_) rfl (by kernel_rfl) (by kernel_rfl) (by kernel_rfl) (fun _ _ _ h => h) (Or.inl ⟨by rfl, ?_⟩) (by assumption) ?_
                  rotate_left
                  · intro w hSw
                    try dsimp only at hSw
                    go_simp
                    first | done | with_reducible rfl
                  try simp only [List.getElem_toArray, List.getElem_cons_succ, List.getElem_cons_zero, Act.put, List.setIfInBounds_toArray, List.set_cons_zero, List.set_cons_succ]
                  refine wpAnyH_take (i := 8) (v := ?_) rfl (by kernel_rfl) (by kernel_rfl) (by kernel_rfl) (fun _ _ _ h => h) (Or.inl ⟨by rfl, ?_⟩) (by assumption) ?_
                  rotate_left
                  · intro w hSw
                    try dsimp only at hSw
                    go_simp
                    first | done | with_reducible rfl
                  try simp only [List.getElem_toArray, List.getElem_cons_succ, List.getElem_cons_zero, Act.put, List.setIfInBounds_toArray, List.set_cons_zero, List.set_cons_succ]
                  refine wpAnyH_take (i := 9) (v := ?_) rfl (by kernel_rfl) (by kernel_rfl) (by kernel_rfl) (fun _ _ _ h => h) (Or.inl ⟨by rfl, ?_⟩) (by assumption) ?_
                  rotate_left
                  · intro w hSw
                    try dsimp only at hSw
                    go_simp
                    first | done | with_reducible rfl
                  try simp only [List.getElem_toArray, List.getElem_cons_succ, List.getElem_cons_zero, Act.put, List.setIfInBounds_toArray, List.set_cons_zero, List.set_cons_succ]
                  refine wpAnyH_ready (rs := [10]) (by kernel_rfl) (by simp) (AllReadyH.cons rfl (fun K hK => ?_) AllReadyH.nil)
                  go_simp
                  refine hK.out _ _ ?_ (fun hHeld => ?_)
                  · (first | exact HC3.out _ hq | exact HC3.out _ hq.drew | exact HC3.out _ (hq.alloc _) | exact HC3.out _ (hq.alloc _).drew | exact HC3.out _ (hq.drew.alloc _))
                  clear hK K
                  try simp only [List.getElem_toArray, List.getElem_cons_succ, List.getElem_cons_zero, Act.put, List.setIfInBounds_toArray, List.set_cons_zero, List.set_cons_succ]
                  skip
                  refine wpAnyH_ready (rs := [11]) (by kernel_rfl) (by simp) (AllReadyH.cons rfl (fun K hK => ?_) AllReadyH.nil)
                  go_simp
                  refine hK.out _ _ ?_ (fun hHeld => ?_)
                  · exact HC3.out _ (hq.alloc _)
                  clear hK K
                  try simp only [List.getElem_toArray, List.getElem_cons_succ, List.getElem_cons_zero, Act.put, List.setIfInBounds_toArray, List.set_cons_zero, List.set_cons_succ]
                  refine wpAnyH_take (i := 12) (v := ?_) rfl (by kernel_rfl) (by kernel_rfl) (by kernel_rfl) (fun _ _ _ h => h) (Or.inl ⟨by rfl, ?_⟩) (by assumption) ?_
                  rotate_left
                  · intro w hSw
                    try dsimp only at hSw
                    go_simp
                    first | done | with_reducible rfl
                  try simp only [List.getElem_toArray, List.getElem_cons_succ, List.getElem_cons_zero, Act.put, List.setIfInBounds_toArray, List.set_cons_zero, List.set_cons_succ]
                  refine wpAnyH_done (by kernel_rfl) ?_ _
                  refine NoPanic.normal ?_
                  go_wp2_with fail
                  go_meet
                  case rel => exact ⟨_, rfl, rfl, Blk.new _ _ _, hq.alloc _⟩
              · as_aux_lemma =>
                  go_simp
                  refine hK.out _ _ ?_ (fun hHeld => ?_)
                  · (first | exact HC3.out _ hq | exact HC3.out _ hq.drew | exact HC3.out _ (hq.alloc _) | exact HC3.out _ (hq.alloc _).drew | exact HC3.out _ (hq.drew.alloc _))
                  clear hK K
                  try simp only [List.getElem_toArray, List.getElem_cons_succ, List.getElem_cons_zero, Act.put, List.setIfInBounds_toArray, List.set_cons_zero, List.set_cons_succ]
                  have hz := Blk.new w4 25 #[.int .i64 0, .int .i64 0, .int .i64 0]
                  replace hq := hq.alloc (.cells #[.int .i64 0, .int .i64 0, .int .i64 0] 25)
                  refine wpAnyH_ready (rs := [6]) (by kernel_rfl) (by simp) (AllReadyH.cons rfl (fun K hK => ?_) AllReadyH.nil)
                  go_simp
                  go_wp2_with ((go_at_call 11; refine (R2.out _).mono ?_; rintro e w5 ⟨rfl, ho⟩; (first | (have hz' := ho.blk hz (by simp); replace hz := hz'; clear hz'; obtain ⟨z0, z1, z2⟩ := shp_cells hz; obtain ⟨f0, f1, f2⟩ := shp_free hz) | skip); replace hq := hq.trans ho; clear ho))
                  refine hK.out _ _ ?_ (fun hHeld => ?_)
                  · (first | exact HC3.out _ hq | exact HC3.out _ hq.drew | exact HC3.out _ (hq.alloc _) | exact HC3.out _ (hq.alloc _).drew | exact HC3.out _ (hq.drew.alloc _))
                  clear hK K
                  try simp only [List.getElem_toArray, List.getElem_cons_succ, List.getElem_cons_zero, Act.put, List.setIfInBounds_toArray, List.set_cons_zero, List.set_cons_succ]
                  refine wpAnyH_take (i := 7) (v := ?_) rfl (by kernel_rfl) (by kernel_rfl) (by kernel_rfl) (fun _ _ _ h => h) (Or.inl ⟨by rfl, ?_⟩) (by assumption) ?_
                  rotate_left
                  · intro w hSw
                    try dsimp only at hSw
                    go_simp
                    first | done | with_reducible rfl
                  try simp only [List.getElem_toArray, List.getElem_cons_succ, List.getElem_cons_zero, Act.put, List.setIfInBounds_toArray, List.set_cons_zero, List.set_cons_succ]
                  refine wpAnyH_take (i := 8) (v := ?_) rfl (by kernel_rfl) (by kernel_rfl) (by kernel_rfl) (fun _ _ _ h => h) (Or.inl ⟨by rfl, ?_⟩) (by assumption) ?_
                  rotate_left
                  · intro w hSw
                    try dsimp only at hSw
                    go_simp
                    first | done | with_reducible rfl
                  try simp only [List.getElem_toArray, List.getElem_cons_succ, List.getElem_cons_zero, Act.put, List.setIfInBounds_toArray, List.set_cons_zero, List.set_cons_succ]
                  refine wpAnyH_take (i := 9) (v := ?_) rfl (by kernel_rfl) (by kernel_rfl) (by kernel_rfl) (fun _ _ _ h => h) (Or.inl ⟨by rfl, ?_⟩) (by assumption) ?_
                  rotate_left
                  · intro w hSw
                    try dsimp only at hSw
                    go_simp
                    first | done | with_reducible rfl
                  try simp only [List.getElem_toArray, List.getElem_cons_succ, List.getElem_cons_zero, Act.put, List.setIfInBounds_toArray, List.set_cons_zero, List.set_cons_succ]
                  refine wpAnyH_ready (rs := [11]) (by kernel_rfl) (by simp) (AllReadyH.cons rfl (fun K hK => ?_) AllReadyH.nil)
                  go_simp
                  refine hK.out _ _ ?_ (fun hHeld => ?_)
                  · exact HC3.out _ (((hq.set (.inr (by simp; try omega)) _).set (.inr (by simp; try omega)) _).set (.inr (by simp; try omega)) _)
                  clear hK K
                  try simp only [List.getElem_toArray, List.getElem_cons_succ, List.getElem_cons_zero, Act.put, List.setIfInBounds_toArray, List.set_cons_zero, List.set_cons_succ]
                  refine wpAnyH_take (i := 12) (v := ?_) rfl (by kernel_rfl) (by kernel_rfl) (by kernel_rfl) (fun _ _ _ h => h) (Or.inl ⟨by rfl, ?_⟩) (by assumption) ?_
                  rotate_left
                  · intro w hSw
                    try dsimp only at hSw
                    go_simp
                    first | done | with_reducible rfl
                  try simp only [List.getElem_toArray, List.getElem_cons_succ, List.getElem_cons_zero, Act.put, List.setIfInBounds_toArray, List.set_cons_zero, List.set_cons_succ]
                  refine wpAnyH_done (by kernel_rfl) ?_ _
                  refine NoPanic.normal ?_
                  go_wp2_with fail
                  go_meet
                  case rel => exact ⟨_, rfl, rfl, (((hz.set 0 _).set 1 _).set 2 _).to (by simp), ((hq.set (.inr (by simp; try omega)) _).set (.inr (by simp; try omega)) _).set (.inr (by simp; try omega)) _⟩
          · as_aux_lemma =>
              go_simp
              refine hK.out _ _ ?_ (fun hHeld => ?_)
              · (first | exact HC3.out _ hq | exact HC3.out _ hq.drew | exact HC3.out _ (hq.alloc _) | exact HC3.out _ (hq.alloc _).drew | exact HC3.out _ (hq.drew.alloc _))
              clear hK K
              try simp only [List.getElem_toArray, List.getElem_cons_succ, List.getElem_cons_zero, Act.put, List.setIfInBounds_toArray, List.set_cons_zero, List.set_cons_succ]
              have hz := blk_drew (Blk.new w3 25 #[.int .i64 0, .int .i64 0, .int .i64 0])
              replace hq := (hq.alloc (.cells #[.int .i64 0, .int .i64 0, .int .i64 0] 25)).drew
              refine wpAnyH_ready (rs := [5]) (by kernel_rfl) (by simp) (AllReadyH.cons rfl (fun K hK => ?_) AllReadyH.nil)
              go_simp
              go_wp2_with ((go_at_call 6; refine (putPage_any _ _ _ _).mono ?_; rintro e w4 ⟨rfl, ho⟩; (first | (have hz' := ho.blk hz (by simp); replace hz := hz'; clear hz'; replace hq := hq.trans ho) | (replace hq := hq.drew.trans ho)); have hqs := hq.size; clear ho))
              refine hK.out _ _ ?_ (fun hHeld => ?_)
              · (first | exact HC3.out _ hq | exact HC3.out _ hq.drew | exact HC3.out _ (hq.alloc _) | exact HC3.out _ (hq.alloc _).drew | exact HC3.out _ (hq.drew.alloc _))
              clear hK K
              try simp only [List.getElem_toArray, List.getElem_cons_succ, List.getElem_cons_zero, Act.put, List.setIfInBounds_toArray, List.set_cons_zero, List.set_cons_succ]
              refine wpAnyH_ready (rs := [6]) (by kernel_rfl) (by simp) (AllReadyH.cons rfl (fun K hK => ?_) AllReadyH.nil)
              go_simp
              go_wp2_with ((go_at_call 11; refine (R2.out _).mono ?_; rintro e w5 ⟨rfl, ho⟩; (first | (have hz' := ho.blk hz (by simp); replace hz := hz'; clear hz'; obtain ⟨z0, z1, z2⟩ := shp_cells hz; obtain ⟨f0, f1, f2⟩ := shp_free hz) | skip); replace hq := hq.trans ho; clear ho))
              refine hK.out _ _ ?_ (fun hHeld => ?_)
              · (first | exact HC3.out _ hq | exact HC3.out _ hq.drew | exact HC3.out _ (hq.alloc _) | exact HC3.out _ (hq.alloc _).drew | exact HC3.out _ (hq.drew.alloc _))
              clear hK K
              try simp only [List.getElem_toArray, List.getElem_cons_succ, List.getElem_cons_zero, Act.put, List.setIfInBounds_toArray, List.set_cons_zero, List.set_cons_succ]
              refine wpAnyH_take (i := 7) (v := ?_) rfl (by kernel_rfl) (by kernel_rfl) (by kernel_rfl) (fun _ _ _ h => h) (Or.inl ⟨by rfl, ?_⟩) (by assumption) ?_
              rotate_left
              · intro w hSw
                try dsimp only at hSw
                go_simp
                first | done | with_reducible rfl
              try simp only [List.getElem_toArray, List.getElem_cons_succ, List.getElem_cons_zero, Act.put, List.setIfInBounds_toArray, List.set_cons_zero, List.set_cons_succ]
              refine wpAnyH_take (i := 8) (v := ?_) rfl (by kernel_rfl) (by kernel_rfl) (by kernel_rfl) (fun _ _ _ h => h) (Or.inl ⟨by rfl, ?_⟩) (by assumption) ?_
              rotate_left
              · intro w hSw
                try dsimp only at hSw
                go_simp
                first | done | with_reducible rfl
              try simp only [List.getElem_toArray, List.getElem_cons_succ, List.getElem_cons_zero, Act.put, List.setIfInBounds_toArray, List.set_cons_zero, List.set_cons_succ]
              refine wpAnyH_take (i := 9) (v := ?_) rfl (by kernel_rfl) (by kernel_rfl) (by kernel_rfl) (fun _ _ _ h => h) (Or.inl ⟨by rfl, ?_⟩) (by assumption) ?_
              rotate_left
              · intro w hSw
                try dsimp only at hSw
                go_simp
                first | done | with_reducible rfl
              try simp only [List.getElem_toArray, List.getElem_cons_succ, List.getElem_cons_zero, Act.put, List.setIfInBounds_toArray, List.set_cons_zero, List.set_cons_succ]
              refine wpAnyH_ready (rs := [11]) (by kernel_rfl) (by simp) (AllReadyH.cons rfl (fun K hK => ?_) AllReadyH.nil)
              go_simp
              refine hK.out _ _ ?_ (fun hHeld => ?_)
              · exact HC3.out _ (((hq.set (.inr (by simp; try omega)) _).set (.inr (by simp; try omega)) _).set (.inr (by simp; try omega)) _)
              clear hK K
              try simp only [List.getElem_toArray, List.getElem_cons_succ, List.getElem_cons_zero, Act.put, List.setIfInBounds_toArray, List.set_cons_zero, List.set_cons_succ]
              refine wpAnyH_take (i := 12) (v := ?_) rfl (by kernel_rfl) (by kernel_rfl) (by kernel_rfl) (fun _ _ _ h => h) (Or.inl ⟨by rfl, ?_⟩) (by assumption) ?_
              rotate_left
              · intro w hSw
                try dsimp only at hSw
                go_simp
                first | done | with_reducible rfl
              try simp only [List.getElem_toArray, List.getElem_cons_succ, List.getElem_cons_zero, Act.put, List.setIfInBounds_toArray, List.set_cons_zero, List.set_cons_succ]
              refine wpAnyH_done (by kernel_rfl) ?_ _
              refine NoPanic.normal ?_
              go_wp2_with fail
              go_meet
              case rel => exact ⟨_, rfl, rfl, (((hz.set 0 _).set 1 _).set 2 _).to (by simp), ((hq.set (.inr (by simp; try omega)) _).set (.inr (by simp; try omega)) _).set (.inr (by simp; try omega)) _⟩
      case rest =>
        obtain ⟨gb, rfl, rfl, gbB, o1⟩ := hcut
        replace Hga := Lib.hid (o1.blk Hga.out (by simp))
        have Hgb := Lib.hid gbB
        replace HO3 := Lib.hid (HO3.out.trans o1)
        clear o1 gbB HC3 hq d0 d1 d2
        clear w3
        generalize wc = w3 at *
        go_upto_region 8 with fail
        have HC3 := Lib.hid (show ∀ w', Off [] w3 w' → w'.cell? ⟨w.heap.size, 0, none⟩ = some (.int .i64 P) ∧ w'.cell? ⟨w.heap.size, 1, none⟩ = some (.int .i64 C) ∧ w'.cell? ⟨w.heap.size, 2, none⟩ = some (.int .i64 M) from fun w' h => by
          obtain ⟨a, b, c, -, -, -⟩ := HC.out _ (HO3.out.trans h)
          exact ⟨a, b, c⟩)
        have hq := Off.refl [] w3
        obtain ⟨d0, d1, d2⟩ := HC3.out _ hq
        go_cut [14, 15] (fun x y wx => Made w3 25 #[.int .i64 3, .int .i64 1, .int .i64 0] true x y wx)
        case first =>
          as_aux_lemma =>
            refine wp_region_noPanic ?_
            refine wp_region_held_drew (S := (fun w' => w'.cell? ⟨w.heap.size, 0, none⟩ = some (.int .i64 P) ∧ w'.cell? ⟨w.heap.size, 1, none⟩ = some (.int .i64 C) ∧ w'.cell? ⟨w.heap.size, 2, none⟩ = some (.int .i64 M))) (by kernel_rfl) ⟨d0, d1, d2⟩ (fun hHeld => ?_)
            refine wpAnyH_take (i := 0) (v := ?_) rfl (by kernel_rfl) (by kernel_rfl) (by kernel_rfl) (fun _ _ _ h => h) (Or.inl ⟨by rfl, ?_⟩) (by assumption) ?_
            rotate_left
            · intro w hSw
              try dsimp only at hSw
              go_simp
              first | done | with_reducible rfl
            try simp only [List.getElem_toArray, List.getElem_cons_zero, Act.put, List.setIfInBounds_toArray, List.set_cons_zero, List.set_cons_succ]
            refine wpAnyH_take (i := 1) (v := ?_) rfl (by kernel_rfl) (by kernel_rfl) (by kernel_rfl) (fun _ _ _ h => h) (Or.inl ⟨by rfl, ?_⟩) (by assumption) ?_
            rotate_left
            · intro w hSw
              try dsimp only at hSw
              go_simp
              first | done | with_reducible rfl
            try simp only [List.getElem_toArray, List.getElem_cons_succ, List.getElem_cons_zero, Act.put, List.setIfInBounds_toArray, List.set_cons_zero, List.set_cons_succ]
            refine wpAnyH_take (i := 2) (v := ?_) rfl (by kernel_rfl) (by kernel_rfl) (by kernel_rfl) (fun _ _ _ h => h) (Or.inl ⟨by rfl, ?_⟩) (by assumption) ?_
            rotate_left
            · intro w hSw
              try dsimp only at hSw
              go_simp
              first | done | with_reducible rfl
            try simp only [List.getElem_toArray, List.getElem_cons_succ, List.getElem_cons_zero, Act.put, List.setIfInBounds_toArray, List.set_cons_zero, List.set_cons_succ]
            refine wpAnyH_ready (rs := [3, 8]) (by kernel_rfl) (by simp) (AllReadyH.cons rfl (fun K hK => ?_) (AllReadyH.cons rfl (fun K hK => ?_) AllReadyH.nil))
            · as_aux_lemma =>
                go_simp
                go_wp2_with ((go_at_call 6; refine (putPage_any _ _ _ _).mono ?_; rintro e w4 ⟨rfl, ho⟩; (first | (have hz' := ho.blk hz (by simp); replace hz := hz'; clear hz'; replace hq := hq.trans ho) | (replace hq := hq.drew.trans ho)); have hqs := hq.size; clear ho))
                refine hK.out _ _ ?_ (fun hHeld => ?_)
                · (first | exact HC3.out _ hq | exact HC3.out _ hq.drew | exact HC3.out _ (hq.alloc _) | exact HC3.out _ (hq.alloc _).drew | exact HC3.out _ (hq.drew.alloc _))
                clear hK K
                try simp only [List.getElem_toArray, List.getElem_cons_succ, List.getElem_cons_zero, Act.put, List.setIfInBounds_toArray, List.set_cons_zero, List.set_cons_succ]
                refine wpAnyH_ready (rs := [4, 8]) (by kernel_rfl) (by simp) (AllReadyH.cons rfl (fun K hK => ?_) (AllReadyH.cons rfl (fun K hK => ?_) AllReadyH.nil))
                · as_aux_lemma =>
                    go_simp
                    go_wp2_with ((go_at_call 11; refine (R3.out _).mono ?_; rintro e w5 ⟨rfl, ho⟩; (first | (have hz' := ho.blk hz (by simp); replace hz := hz'; clear hz'; obtain ⟨z0, z1, z2⟩ := shp_cells hz; obtain ⟨f0, f1, f2⟩ := shp_free hz) | skip); replace hq := hq.trans ho; clear ho))
                    refine hK.out _ _ ?_ (fun hHeld => ?_)
                    · (first | exact HC3.out _ hq | exact HC3.out _ hq.drew | exact HC3.out _ (hq.alloc _) | exact HC3.out _ (hq.alloc _).drew | exact HC3.out _ (hq.drew.alloc _))
                    clear hK K
                    try simp only [List.getElem_toArray, List.getElem_cons_succ, List.getElem_cons_zero, Act.put, List.setIfInBounds_toArray, List.set_cons_zero, List.set_cons_succ]
                    refine wpAnyH_take (i := 5) (v := ?_) rfl (by kernel_rfl) (by kernel_rfl) (by kernel_rfl) (fun _ _ _ h => h) (Or.inl ⟨by rfl, ?_⟩) (by assumption) ?_
                    rotate_left
                    · intro w hSw
                      try dsimp only at hSw
                      go_simp
                      first | done | with_reducible rfl
                    try simp only [List.getElem_toArray, List.getElem_cons_succ, List.getElem_cons_zero, Act.put, List.setIfInBounds_toArray, List.set_cons_zero, List.set_cons_succ]
                    refine wpAnyH_take (i := 6) (v := ?_) rfl (by kernel_rfl) (by kernel_rfl) (by kernel_rfl) (fun _ _ _ h => h) (Or.inl ⟨by rfl, ?_⟩) (by assumption) ?_
                    rotate_left
                    · intro w hSw
                      try dsimp only at hSw
                      go_simp
                      first | done | with_reducible rfl
                    try simp only [List.getElem_toArray, List.getElem_cons_succ, List.getElem_cons_zero, Act.put, List.setIfInBounds_toArray, List.set_cons_zero, List.set_cons_succ]
                    refine wpAnyH_take (i := 7) (v := ?_) rfl (by kernel_rfl) (by kernel_rfl) (by kernel_rfl) (fun _ _ _ h => h) (Or.inl ⟨by rfl, ?_⟩) (by assumption) ?_
                    rotate_left
                    · intro w hSw
                      try dsimp only at hSw
                      go_simp
                      first | done | with_reducible rfl
                    try simp only [List.getElem_toArray, List.getElem_cons_succ, List.getElem_cons_zero, Act.put, List.setIfInBounds_toArray, List.set_cons_zero, List.set_cons_succ]
                    refine wpAnyH_ready (rs := [8]) (by kernel_rfl) (by simp) (AllReadyH.cons rfl (fun K hK => ?_) AllReadyH.nil)
                    go_simp
                    refine hK.out _ _ ?_ (fun hHeld => ?_)
                    · (first | exact HC3.out _ hq | exact HC3.out _ hq.drew | exact HC3.out _ (hq.alloc _) | exact HC3.out _ (hq.alloc _).drew | exact HC3.out _ (hq.drew.alloc _))
                    clear hK K
                    try simp only [List.getElem_toArray, List.getElem_cons_succ, List.getElem_cons_zero, Act.put, List.setIfInBounds_toArray, List.set_cons_zero, List.set_cons_succ]
                    skip
                    refine wpAnyH_ready (rs := [9]) (by kernel_rfl) (by simp) (AllReadyH.cons rfl (fun K hK => ?_) AllReadyH.nil)
                    go_simp
                    refine hK.out _ _ ?_ (fun hHeld => ?_)
                    · exact HC3.out _ (hq.alloc _)
                    clear hK K
                    try simp only [List.getElem_toArray, List.getElem_cons_succ, List.getElem_cons_zero, Act.put, List.setIfInBounds_toArray, List.set_cons_zero, List.set_cons_succ]
                    refine wpAnyH_take (i := 10) (v := ?_) rfl (by kernel_rfl) (by kernel_rfl) (by kernel_rfl) (fun _ _ _ h => h) (Or.inl ⟨by rfl, ?_⟩) (by assumption) ?_
                    rotate_left
                    · intro w hSw
                      try dsimp only at hSw
                      go_simp
                      first | done | with_reducible rfl
                    try simp only [List.getElem_toArray, List.getElem_cons_succ, List.getElem_cons_zero, Act.put, List.setIfInBounds_toArray, List.set_cons_zero, List.set_cons_succ]
                    refine wpAnyH_done (by kernel_rfl) ?_ _
                    refine NoPanic.normal ?_
                    go_wp2_with fail
                    go_meet
                    case rel => exact ⟨_, rfl, rfl, Blk.new _ _ _, hq.alloc _⟩
                · as_aux_lemma =>
                    go_simp
                    refine hK.out _ _ ?_ (fun hHeld => ?_)
                    · (first | exact HC3.out _ hq | exact HC3.out _ hq.drew | exact HC3.out _ (hq.alloc _) | exact HC3.out _ (hq.alloc _).drew | exact HC3.out _ (hq.drew.alloc _))
                    clear hK K
                    try simp only [List.getElem_toArray, List.getElem_cons_succ, List.getElem_cons_zero, Act.put, List.setIfInBounds_toArray, List.set_cons_zero, List.set_cons_succ]
                    have hz := Blk.new w4 25 #[.int .i64 0, .int .i64 0, .int .i64 0]
                    replace hq := hq.alloc (.cells #[.int .i64 0, .int .i64 0, .int .i64 0] 25)
                    refine wpAnyH_ready (rs := [4]) (by kernel_rfl) (by simp) (AllReadyH.cons rfl (fun K hK => ?_) AllReadyH.nil)
                    go_simp
                    go_wp2_with ((go_at_call 11; refine (R3.out _).mono ?_; rintro e w5 ⟨rfl, ho⟩; (first | (have hz' := ho.blk hz (by simp); replace hz := hz'; clear hz'; obtain ⟨z0, z1, z2⟩ := shp_cells hz; obtain ⟨f0, f1, f2⟩ := shp_free hz) | skip); replace hq := hq.trans ho; clear ho))
                    refine hK.out _ _ ?_ (fun hHeld => ?_)
                    · (first | exact HC3.out _ hq | exact HC3.out _ hq.drew | exact HC3.out _ (hq.alloc _) | exact HC3.out _ (hq.alloc _).drew | exact HC3.out _ (hq.drew.alloc _))
                    clear hK K
                    try simp only [List.getElem_toArray, List.getElem_cons_succ, List.getElem_cons_zero, Act.put, List.setIfInBounds_toArray, List.set_cons_zero, List.set_cons_succ]
                    refine wpAnyH_take (i := 5) (v := ?_) rfl (by kernel_rfl) (by kernel_rfl) (by kernel_rfl) (fun _ _ _ h => h) (Or.inl ⟨by rfl, ?_⟩) (by assumption) ?_
                    rotate_left
                    · intro w hSw
                      try dsimp only at hSw
                      go_simp
                      first | done | with_reducible rfl
                    try simp only [List.getElem_toArray, List.getElem_cons_succ, List.getElem_cons_zero, Act.put, List.setIfInBounds_toArray, List.set_cons_zero, List.set_cons_succ]
                    refine wpAnyH_take (i := 6) (v := ?_) rfl (by kernel_rfl) (by kernel_rfl) (by kernel_rfl) (fun _ _ _ h => h) (Or.inl ⟨by rfl, ?_⟩) (by assumption) ?_
                    rotate_left
                    · intro w hSw
                      try dsimp only at hSw
                      go_simp
                      first | done | with_reducible rfl
                    try simp only [List.getElem_toArray, List.getElem_cons_succ, List.getElem_cons_zero, Act.put, List.setIfInBounds_toArray, List.set_cons_zero, List.set_cons_succ]
                    refine wpAnyH_take (i := 7) (v := ?_) rfl (by kernel_rfl) (by kernel_rfl) (by kernel_rfl) (fun _ _ _ h => h) (Or.inl ⟨by rfl, ?_⟩) (by assumption) ?_
                    rotate_left
                    · intro w hSw
                      try dsimp only at hSw
                      go_simp
                      first | done | with_reducible rfl
                    try simp only [List.getElem_toArray, List.getElem_cons_succ, List.getElem_cons_zero, Act.put, List.setIfInBounds_toArray, List.set_cons_zero, List.set_cons_succ]
                    refine wpAnyH_ready (rs := [9]) (by kernel_rfl) (by simp) (AllReadyH.cons rfl (fun K hK => ?_) AllReadyH.nil)
                    go_simp
                    refine hK.out _ _ ?_ (fun hHeld => ?_)
                    · exact HC3.out _ (((hq.set (.inr (by simp; try omega)) _).set (.inr (by simp; try omega)) _).set (.inr (by simp; try omega)) _)
                    clear hK K
                    try simp only [List.getElem_toArray, List.getElem_cons_succ, List.getElem_cons_zero, Act.put, List.setIfInBounds_toArray, List.set_cons_zero, List.set_cons_succ]
                    refine wpAnyH_take (i := 10) (v := ?_) rfl (by kernel_rfl) (by kernel_rfl) (by kernel_rfl) (fun _ _ _ h => h) (Or.inl ⟨by rfl, ?_⟩) (by assumption) ?_
                    rotate_left
                    · intro w hSw
                      try dsimp only at hSw
                      go_simp
                      first | done | with_reducible rfl
                    try simp only [List.getElem_toArray, List.getElem_cons_succ, List.getElem_cons_zero, Act.put, List.setIfInBounds_toArray, List.set_cons_zero, List.set_cons_succ]
                    refine wpAnyH_done (by kernel_rfl) ?_ _
                    refine NoPanic.normal ?_
                    go_wp2_with fail
                    go_meet
                    case rel => exact ⟨_, rfl, rfl, (((hz.set 0 _).set 1 _).set 2 _).to (by simp), ((hq.set (.inr (by simp; try omega)) _).set (.inr (by simp; try omega)) _).set (.inr (by simp; try omega)) _⟩
            · as_aux_lemma =>
                go_simp
                refine hK.out _ _ ?_ (fun hHeld => ?_)
                · (first | exact HC3.out _ hq | exact HC3.out _ hq.drew | exact HC3.out _ (hq.alloc _) | exact HC3.out _ (hq.alloc _).drew | exact HC3.out _ (hq.drew.alloc _))
                clear hK K
                try simp only [List.getElem_toArray, List.getElem_cons_succ, List.getElem_cons_zero, Act.put, List.setIfInBounds_toArray, List.set_cons_zero, List.set_cons_succ]
                have hz := blk_drew (Blk.new w3 25 #[.int .i64 0, .int .i64 0, .int .i64 0])
                replace hq := (hq.alloc (.cells #[.int .i64 0, .int .i64 0, .int .i64 0] 25)).drew
                refine wpAnyH_ready (rs := [3]) (by kernel_rfl) (by simp) (AllReadyH.cons rfl (fun K hK => ?_) AllReadyH.nil)
                go_simp
                go_wp2_with ((go_at_call 6; refine (putPage_any _ _ _ _).mono ?_; rintro e w4 ⟨rfl, ho⟩; (first | (have hz' := ho.blk hz (by simp); replace hz := hz'; clear hz'; replace hq := hq.trans ho) | (replace hq := hq.drew.trans ho)); have hqs := hq.size; clear ho))
                refine hK.out _ _ ?_ (fun hHeld => ?_)
                · (first | exact HC3.out _ hq | exact HC3.out _ hq.drew | exact HC3.out _ (hq.alloc _) | exact HC3.out _ (hq.alloc _).drew | exact HC3.out _ (hq.drew.alloc _))
                clear hK K
                try simp only [List.getElem_toArray, List.getElem_cons_succ, List.getElem_cons_zero, Act.put, List.setIfInBounds_toArray, List.set_cons_zero, List.set_cons_succ]
                refine wpAnyH_ready (rs := [4]) (by kernel_rfl) (by simp) (AllReadyH.cons rfl (fun K hK => ?_) AllReadyH.nil)
                go_simp
                go_wp2_with ((go_at_call 11; refine (R3.out _).mono ?_; rintro e w5 ⟨rfl, ho⟩; (first | (have hz' := ho.blk hz (by simp); replace hz := hz'; clear hz'; obtain ⟨z0, z1, z2⟩ := shp_cells hz; obtain ⟨f0, f1, f2⟩ := shp_free hz) | skip); replace hq := hq.trans ho; clear ho))
                refine hK.out _ _ ?_ (fun hHeld => ?_)
                · (first | exact HC3.out _ hq | exact HC3.out _ hq.drew | exact HC3.out _ (hq.alloc _) | exact HC3.out _ (hq.alloc _).drew | exact HC3.out _ (hq.drew.alloc _))
                clear hK K
                try simp only [List.getElem_toArray, List.getElem_cons_succ, List.getElem_cons_zero, Act.put, List.setIfInBounds_toArray, List.set_cons_zero, List.set_cons_succ]
                refine wpAnyH_take (i := 5) (v := ?_) rfl (by kernel_rfl) (by kernel_rfl) (by kernel_rfl) (fun _ _ _ h => h) (Or.inl ⟨by rfl, ?_⟩) (by assumption) ?_
                rotate_left
                · intro w hSw
                  try dsimp only at hSw
                  go_simp
                  first | done | with_reducible rfl
                try simp only [List.getElem_toArray, List.getElem_cons_succ, List.getElem_cons_zero, Act.put, List.setIfInBounds_toArray, List.set_cons_zero, List.set_cons_succ]
                refine wpAnyH_take (i := 6) (v := ?_) rfl (by kernel_rfl) (by kernel_rfl) (by kernel_rfl) (fun _ _ _ h => h) (Or.inl ⟨by rfl, ?_⟩) (by assumption) ?_
                rotate_left
                · intro w hSw
                  try dsimp only at hSw
                  go_simp
                  first | done | with_reducible rfl
                try simp only [List.getElem_toArray, List.getElem_cons_succ, List.getElem_cons_zero, Act.put, List.setIfInBounds_toArray, List.set_cons_zero, List.set_cons_succ]
                refine wpAnyH_take (i := 7) (v := ?_) rfl (by kernel_rfl) (by kernel_rfl) (by kernel_rfl) (fun _ _ _ h => h) (Or.inl ⟨by rfl, ?_⟩) (by assumption) ?_
                rotate_left
                · intro w hSw
                  try dsimp only at hSw
                  go_simp
                  first | done | with_reducible rfl
                try simp only [List.getElem_toArray, List.getElem_cons_succ, List.getElem_cons_zero, Act.put, List.setIfInBounds_toArray, List.set_cons_zero, List.set_cons_succ]
                refine wpAnyH_ready (rs := [9]) (by kernel_rfl) (by simp) (AllReadyH.cons rfl (fun K hK => ?_) AllReadyH.nil)
                go_simp
                refine hK.out _ _ ?_ (fun hHeld => ?_)
                · exact HC3.out _ (((hq.set (.inr (by simp; try omega)) _).set (.inr (by simp; try omega)) _).set (.inr (by simp; try omega)) _)
                clear hK K
                try simp only [List.getElem_toArray, List.getElem_cons_succ, List.getElem_cons_zero, Act.put, List.setIfInBounds_toArray, List.set_cons_zero, List.set_cons_succ]
                refine wpAnyH_take (i := 10) (v := ?_) rfl (by kernel_rfl) (by kernel_rfl) (by kernel_rfl) (fun _ _ _ h => h) (Or.inl ⟨by rfl, ?_⟩) (by assumption) ?_
                rotate_left
                · intro w hSw
                  try dsimp only at hSw
                  go_simp
                  first | done | with_reducible rfl
                try simp only [List.getElem_toArray, List.getElem_cons_succ, List.getElem_cons_zero, Act.put, List.setIfInBounds_toArray, List.set_cons_zero, List.set_cons_succ]
                refine wpAnyH_done (by kernel_rfl) ?_ _
                refine NoPanic.normal ?_
                go_wp2_with fail
                go_meet
                case rel => exact ⟨_, rfl, rfl, (((hz.set 0 _).set 1 _).set 2 _).to (by simp), ((hq.set (.inr (by simp; try omega)) _).set (.inr (by simp; try omega)) _).set (.inr (by simp; try omega)) _⟩
        case rest =>
          obtain ⟨gc, rfl, rfl, gcB, o1⟩ := hcut
          replace Hga := Lib.hid (o1.blk Hga.out (by simp))
          replace Hgb := Lib.hid (o1.blk Hgb.out (by simp))
          have Hgc := Lib.hid gcB
          replace HO3 := Lib.hid (HO3.out.trans o1)
          clear o1 gcB HC3 hq d0 d1 d2
          clear w3
          generalize wc = w3 at *
          have HC3 := Lib.hid (show ∀ w', Off [] w3 w' → w'.cell? ⟨w.heap.size, 0, none⟩ = some (.int .i64 P) ∧ w'.cell? ⟨w.heap.size, 1, none⟩ = some (.int .i64 C) ∧ w'.cell? ⟨w.heap.size, 2, none⟩ = some (.int .i64 M) from fun w' h => by
            obtain ⟨a, b, c, -, -, -⟩ := HC.out _ (HO3.out.trans h)
            exact ⟨a, b, c⟩)
          have hq := Off.refl [] w3
          obtain ⟨d0, d1, d2⟩ := HC3.out _ hq
          go_upto_region 10 with (go_at_call 11; refine (R4.out _).mono ?_; rintro e w4 ⟨rfl, ho⟩; replace hq := hq.trans ho; clear ho)
          have H4 := Lib.hid (Blk.new w4 25 #[.int .i64 0, .int .i64 0, .int .i64 0])
          replace Hga := Lib.hid ((hq.alloc (.cells #[.int .i64 0, .int .i64 0, .int .i64 0] 25)).blk Hga.out (by simp))
          replace Hgb := Lib.hid ((hq.alloc (.cells #[.int .i64 0, .int .i64 0, .int .i64 0] 25)).blk Hgb.out (by simp))
          replace Hgc := Lib.hid ((hq.alloc (.cells #[.int .i64 0, .int .i64 0, .int .i64 0] 25)).blk Hgc.out (by simp))
          replace HO3 := Lib.hid (HO3.out.trans (hq.alloc (.cells #[.int .i64 0, .int .i64 0, .int .i64 0] 25)))
          clear HC3 hq d0 d1 d2
          clear w3
          generalize w4.alloc (.cells #[.int .i64 0, .int .i64 0, .int .i64 0] 25) = w3 at *
          generalize w4.heap.size = gd at *
          clear w4
          go_upto_region 10 with fail
          have HC3 := Lib.hid (show ∀ w', Off [] w3 w' → w'.cell? ⟨w.heap.size, 0, none⟩ = some (.int .i64 P) ∧ w'.cell? ⟨w.heap.size, 1, none⟩ = some (.int .i64 C) ∧ w'.cell? ⟨w.heap.size, 2, none⟩ = some (.int .i64 M) from fun w' h => by
            obtain ⟨a, b, c, -, -, -⟩ := HC.out _ (HO3.out.trans h)
            exact ⟨a, b, c⟩)
          have hq := Off.refl [] w3
          obtain ⟨d0, d1, d2⟩ := HC3.out _ hq
          go_cut [18, 19] (fun x y wx => Made w3 29 #[.int .i64 p, .int .i64 1, .int .i64 k] true x y wx)
          case first =>
            as_aux_lemma =>
              refine wp_region_noPanic ?_
              refine wp_region_held_drew (S := (fun w' => w'.cell? ⟨w.heap.size, 0, none⟩ = some (.int .i64 P) ∧ w'.cell? ⟨w.heap.size, 1, none⟩ = some (.int .i64 C) ∧ w'.cell? ⟨w.heap.size, 2, none⟩ = some (.int .i64 M))) (by kernel_rfl) ⟨d0, d1, d2⟩ (fun hHeld => ?_)
              refine wpAnyH_take (i := 0) (v := ?_) rfl (by kernel_rfl) (by kernel_rfl) (by kernel_rfl) (fun _ _ _ h => h) (Or.inl ⟨by rfl, ?_⟩) (by assumption) ?_
              rotate_left
              · intro w hSw
                try dsimp only at hSw
                go_simp
                first | done | with_reducible rfl
              try simp only [List.getElem_toArray, List.getElem_cons_zero, Act.put, List.setIfInBounds_toArray, List.set_cons_zero, List.set_cons_succ]
              refine wpAnyH_take (i := 1) (v := ?_) rfl (by kernel_rfl) (by kernel_rfl) (by kernel_rfl) (fun _ _ _ h => h) (Or.inl ⟨by rfl, ?_⟩) (by assumption) ?_
              rotate_left
              · intro w hSw
                try dsimp only at hSw
                go_simp
                first | done | with_reducible rfl
              try simp only [List.getElem_toArray, List.getElem_cons_succ, List.getElem_cons_zero, Act.put, List.setIfInBounds_toArray, List.set_cons_zero, List.set_cons_succ]
              refine wpAnyH_take (i := 2) (v := ?_) rfl (by kernel_rfl) (by kernel_rfl) (by kernel_rfl) (fun _ _ _ h => h) (Or.inl ⟨by rfl, ?_⟩) (by assumption) ?_
              rotate_left
              · intro w hSw
                try dsimp only at hSw
                go_simp
                first | done | with_reducible rfl
              try simp only [List.getElem_toArray, List.getElem_cons_succ, List.getElem_cons_zero, Act.put, List.setIfInBounds_toArray, List.set_cons_zero, List.set_cons_succ]
              refine wpAnyH_take (i := 3) (v := ?_) rfl (by kernel_rfl) (by kernel_rfl) (by kernel_rfl) (fun _ _ _ h => h) (Or.inl ⟨by rfl, ?_⟩) (by assumption) ?_
              rotate_left
              · intro w hSw
                try dsimp only at hSw
                go_simp
                first | done | with_reducible rfl
              try simp only [List.getElem_toArray, List.getElem_cons_succ, List.getElem_cons_zero, Act.put, List.setIfInBounds_toArray, List.set_cons_zero, List.set_cons_succ]
              refine wpAnyH_ready (rs := [4, 9]) (by kernel_rfl) (by simp) (AllReadyH.cons rfl (fun K hK => ?_) (AllReadyH.cons rfl (fun K hK => ?_) AllReadyH.nil))
              · as_aux_lemma =>
                  go_simp
                  go_wp2_with ((go_at_call 8; refine (putEntry_any _ _ _ _).mono ?_; rintro e w4 ⟨rfl, ho⟩; (first | (have hz' := ho.blk hz (by simp); replace hz := hz'; clear hz'; replace hq := hq.trans ho) | (replace hq := hq.drew.trans ho)); have hqs := hq.size; clear ho))
                  refine hK.out _ _ ?_ (fun hHeld => ?_)
                  · (first | exact HC3.out _ hq | exact HC3.out _ hq.drew | exact HC3.out _ (hq.alloc _) | exact HC3.out _ (hq.alloc _).drew | exact HC3.out _ (hq.drew.alloc _))
                  clear hK K
                  try simp only [List.getElem_toArray, List.getElem_cons_succ, List.getElem_cons_zero, Act.put, List.setIfInBounds_toArray, List.set_cons_zero, List.set_cons_succ]
                  refine wpAnyH_ready (rs := [5, 9]) (by kernel_rfl) (by simp) (AllReadyH.cons rfl (fun K hK => ?_) (AllReadyH.cons rfl (fun K hK => ?_) AllReadyH.nil))
                  · as_aux_lemma =>
                      go_simp
                      go_wp2_with ((go_at_call 12; refine (R5.out _).mono ?_; rintro e w5 ⟨rfl, ho⟩; (first | (have hz' := ho.blk hz (by simp); replace hz := hz'; clear hz'; obtain ⟨z0, z1, z2⟩ := shp_cells hz; obtain ⟨f0, f1, f2⟩ := shp_free hz) | skip); replace hq := hq.trans ho; clear ho))
                      refine hK.out _ _ ?_ (fun hHeld => ?_)
                      · (first | exact HC3.out _ hq | exact HC3.out _ hq.drew | exact HC3.out _ (hq.alloc _) | exact HC3.out _ (hq.alloc _).drew | exact HC3.out _ (hq.drew.alloc _))
                      clear hK K
                      try simp only [List.getElem_toArray, List.getElem_cons_succ, List.getElem_cons_zero, Act.put, List.setIfInBounds_toArray, List.set_cons_zero, List.set_cons_succ]
                      refine wpAnyH_take (i := 6) (v := ?_) rfl (by kernel_rfl) (by kernel_rfl) (by kernel_rfl) (fun _ _ _ h => h) (Or.inl ⟨by rfl, ?_⟩) (by assumption) ?_
                      rotate_left
                      · intro w hSw
                        try dsimp only at hSw
                        go_simp
                        first | done | with_reducible rfl
                      try simp only [List.getElem_toArray, List.getElem_cons_succ, List.getElem_cons_zero, Act.put, List.setIfInBounds_toArray, List.set_cons_zero, List.set_cons_succ]
                      refine wpAnyH_take (i := 7) (v := ?_) rfl (by kernel_rfl) (by kernel_rfl) (by kernel_rfl) (fun _ _ _ h => h) (Or.inl ⟨by rfl, ?_⟩) (by assumption) ?_
                      rotate_left
                      · intro w hSw
                        try dsimp only at hSw
                        go_simp
                        first | done | with_reducible rfl
                      try simp only [List.getElem_toArray, List.getElem_cons_succ, List.getElem_cons_zero, Act.put, List.setIfInBounds_toArray, List.set_cons_zero, List.set_cons_succ]
                      refine wpAnyH_take (i := 8) (v := ?_) rfl (by kernel_rfl) (by kernel_rfl) (by kernel_rfl) (fun _ _ _ h => h) (Or.inl ⟨by rfl, ?_⟩) (by assumption) ?_
                      rotate_left
                      · intro w hSw
                        try dsimp only at hSw
                        go_simp
                        first | done | with_reducible rfl
                      try simp only [List.getElem_toArray, List.getElem_cons_succ, List.getElem_cons_zero, Act.put, List.setIfInBounds_toArray, List.set_cons_zero, List.set_cons_succ]
                      refine wpAnyH_ready (rs := [9]) (by kernel_rfl) (by simp) (AllReadyH.cons rfl (fun K hK => ?_) AllReadyH.nil)
                      go_simp
                      refine hK.out _ _ ?_ (fun hHeld => ?_)
                      · (first | exact HC3.out _ hq | exact HC3.out _ hq.drew | exact HC3.out _ (hq.alloc _) | exact HC3.out _ (hq.alloc _).drew | exact HC3.out _ (hq.drew.alloc _))
                      clear hK K
                      try simp only [List.getElem_toArray, List.getElem_cons_succ, List.getElem_cons_zero, Act.put, List.setIfInBounds_toArray, List.set_cons_zero, List.set_cons_succ]
                      skip
                      refine wpAnyH_ready (rs := [10]) (by kernel_rfl) (by simp) (AllReadyH.cons rfl (fun K hK => ?_) AllReadyH.nil)
                      go_simp
                      refine hK.out _ _ ?_ (fun hHeld => ?_)
                      · exact HC3.out _ (hq.alloc _)
                      clear hK K
                      try simp only [List.getElem_toArray, List.getElem_cons_succ, List.getElem_cons_zero, Act.put, List.setIfInBounds_toArray, List.set_cons_zero, List.set_cons_succ]
                      refine wpAnyH_take (i := 11) (v := ?_) rfl (by kernel_rfl) (by kernel_rfl) (by kernel_rfl) (fun _ _ _ h => h) (Or.inl ⟨by rfl, ?_⟩) (by assumption) ?_
                      rotate_left
                      · intro w hSw
                        try dsimp only at hSw
                        go_simp
                        first | done | with_reducible rfl
                      try simp only [List.getElem_toArray, List.getElem_cons_succ, List.getElem_cons_zero, Act.put, List.setIfInBounds_toArray, List.set_cons_zero, List.set_cons_succ]
                      refine wpAnyH_done (by kernel_rfl) ?_ _
                      refine NoPanic.normal ?_
                      go_wp2_with fail
                      go_meet
                      case rel => exact ⟨_, rfl, rfl, Blk.new _ _ _, hq.alloc _⟩
                  · as_aux_lemma =>
                      go_simp
                      refine hK.out _ _ ?_ (fun hHeld => ?_)
                      · (first | exact HC3.out _ hq | exact HC3.out _ hq.drew | exact HC3.out _ (hq.alloc _) | exact HC3.out _ (hq.alloc _).drew | exact HC3.out _ (hq.drew.alloc _))
                      clear hK K
                      try simp only [List.getElem_toArray, List.getElem_cons_succ, List.getElem_cons_zero, Act.put, List.setIfInBounds_toArray, List.set_cons_zero, List.set_cons_succ]
                      have hz := Blk.new w4 29 #[.int .i64 0, .int .i64 0, .int .i64 0]
                      replace hq := hq.alloc (.cells #[.int .i64 0, .int .i64 0, .int .i64 0] 29)
                      refine wpAnyH_ready (rs := [5]) (by kernel_rfl) (by simp) (AllReadyH.cons rfl (fun K hK => ?_) AllReadyH.nil)
                      go_simp
                      go_wp2_with ((go_at_call 12; refine (R5.out _).mono ?_; rintro e w5 ⟨rfl, ho⟩; (first | (have hz' := ho.blk hz (by simp); replace hz := hz'; clear hz'; obtain ⟨z0, z1, z2⟩ := shp_cells hz; obtain ⟨f0, f1, f2⟩ := shp_free hz) | skip); replace hq := hq.trans ho; clear ho))
                      refine hK.out _ _ ?_ (fun hHeld => ?_)
                      · (first | exact HC3.out _ hq | exact HC3.out _ hq.drew | exact HC3.out _ (hq.alloc _) | exact HC3.out _ (hq.alloc _).drew | exact HC3.out _ (hq.drew.alloc _))
                      clear hK K
                      try simp only [List.getElem_toArray, List.getElem_cons_succ, List.getElem_cons_zero, Act.put, List.setIfInBounds_toArray, List.set_cons_zero, List.set_cons_succ]
                      refine wpAnyH_take (i := 6) (v := ?_) rfl (by kernel_rfl) (by kernel_rfl) (by kernel_rfl) (fun _ _ _ h => h) (Or.inl ⟨by rfl, ?_⟩) (by assumption) ?_
                      rotate_left
                      · intro w hSw
                        try dsimp only at hSw
                        go_simp
                        first | done | with_reducible rfl
                      try simp only [List.getElem_toArray, List.getElem_cons_succ, List.getElem_cons_zero, Act.put, List.setIfInBounds_toArray, List.set_cons_zero, List.set_cons_succ]
                      refine wpAnyH_take (i := 7) (v := ?_) rfl (by kernel_rfl) (by kernel_rfl) (by kernel_rfl) (fun _ _ _ h => h) (Or.inl ⟨by rfl, ?_⟩) (by assumption) ?_
                      rotate_left
                      · intro w hSw
                        try dsimp only at hSw
                        go_simp
                        first | done | with_reducible rfl
                      try simp only [List.getElem_toArray, List.getElem_cons_succ, List.getElem_cons_zero, Act.put, List.setIfInBounds_toArray, List.set_cons_zero, List.set_cons_succ]
                      refine wpAnyH_take (i := 8) (v := ?_) rfl (by kernel_rfl) (by kernel_rfl) (by kernel_rfl) (fun _ _ _ h => h) (Or.inl ⟨by rfl, ?_⟩) (by assumption) ?_
                      rotate_left
                      · intro w hSw
                        try dsimp only at hSw
                        go_simp
                        first | done | with_reducible rfl
                      try simp only [List.getElem_toArray, List.getElem_cons_succ, List.getElem_cons_zero, Act.put, List.setIfInBounds_toArray, List.set_cons_zero, List.set_cons_succ]
                      refine wpAnyH_ready (rs := [10]) (by kernel_rfl) (by simp) (AllReadyH.cons rfl (fun K hK => ?_) AllReadyH.nil)
                      go_simp
                      refine hK.out _ _ ?_ (fun hHeld => ?_)
                      · exact HC3.out _ (((hq.set (.inr (by simp; try omega)) _).set (.inr (by simp; try omega)) _).set (.inr (by simp; try omega)) _)
                      clear hK K
                      try simp only [List.getElem_toArray, List.getElem_cons_succ, List.getElem_cons_zero, Act.put, List.setIfInBounds_toArray, List.set_cons_zero, List.set_cons_succ]
                      refine wpAnyH_take (i := 11) (v := ?_) rfl (by kernel_rfl) (by kernel_rfl) (by kernel_rfl) (fun _ _ _ h => h) (Or.inl ⟨by rfl, ?_⟩) (by assumption) ?_
                      rotate_left
                      · intro w hSw
                        try dsimp only at hSw
                        go_simp
                        first | done | with_reducible rfl
                      try simp only [List.getElem_toArray, List.getElem_cons_succ, List.getElem_cons_zero, Act.put, List.setIfInBounds_toArray, List.set_cons_zero, List.set_cons_succ]
                      refine wpAnyH_done (by kernel_rfl) ?_ _
                      refine NoPanic.normal ?_
                      go_wp2_with fail
                      go_meet
                      case rel => exact ⟨_, rfl, rfl, (((hz.set 0 _).set 1 _).set 2 _).to (by simp), ((hq.set (.inr (by simp; try omega)) _).set (.inr (by simp; try omega)) _).set (.inr (by simp; try omega)) _⟩
              · as_aux_lemma =>
                  go_simp
                  refine hK.out _ _ ?_ (fun hHeld => ?_)
                  · (first | exact HC3.out _ hq | exact HC3.out _ hq.drew | exact HC3.out _ (hq.alloc _) | exact HC3.out _ (hq.alloc _).drew | exact HC3.out _ (hq.drew.alloc _))
                  clear hK K
                  try simp only [List.getElem_toArray, List.getElem_cons_succ, List.getElem_cons_zero, Act.put, List.setIfInBounds_toArray, List.set_cons_zero, List.set_cons_succ]
                  have hz := blk_drew (Blk.new w3 29 #[.int .i64 0, .int .i64 0, .int .i64 0])
                  replace hq := (hq.alloc (.cells #[.int .i64 0, .int .i64 0, .int .i64 0] 29)).drew
                  refine wpAnyH_ready (rs := [4]) (by kernel_rfl) (by simp) (AllReadyH.cons rfl (fun K hK => ?_) AllReadyH.nil)
                  go_simp
                  go_wp2_with ((go_at_call 8; refine (putEntry_any _ _ _ _).mono ?_; rintro e w4 ⟨rfl, ho⟩; (first | (have hz' := ho.blk hz (by simp); replace hz := hz'; clear hz'; replace hq := hq.trans ho) | (replace hq := hq.drew.trans ho)); have hqs := hq.size; clear ho))
                  refine hK.out _ _ ?_ (fun hHeld => ?_)
                  · (first | exact HC3.out _ hq | exact HC3.out _ hq.drew | exact HC3.out _ (hq.alloc _) | exact HC3.out _ (hq.alloc _).drew | exact HC3.out _ (hq.drew.alloc _))
                  clear hK K
                  try simp only [List.getElem_toArray, List.getElem_cons_succ, List.getElem_cons_zero, Act.put, List.setIfInBounds_toArray, List.set_cons_zero, List.set_cons_succ]
                  refine wpAnyH_ready (rs := [5]) (by kernel_rfl) (by simp) (AllReadyH.cons rfl (fun K hK => ?_) AllReadyH.nil)
                  go_simp
                  go_wp2_with ((go_at_call 12; refine (R5.out _).mono ?_; rintro e w5 ⟨rfl, ho⟩; (first | (have hz' := ho.blk hz (by simp); replace hz := hz'; clear hz'; obtain ⟨z0, z1, z2⟩ := shp_cells hz; obtain ⟨f0, f1, f2⟩ := shp_free hz) | skip); replace hq := hq.trans ho; clear ho))
                  refine hK.out _ _ ?_ (fun hHeld => ?_)
                  · (first | exact HC3.out _ hq | exact HC3.out _ hq.drew | exact HC3.out _ (hq.alloc _) | exact HC3.out _ (hq.alloc _).drew | exact HC3.out _ (hq.drew.alloc _))
                  clear hK K
                  try simp only [List.getElem_toArray, List.getElem_cons_succ, List.getElem_cons_zero, Act.put, List.setIfInBounds_toArray, List.set_cons_zero, List.set_cons_succ]
                  refine wpAnyH_take (i := 6) (v := ?_) rfl (by kernel_rfl) (by kernel_rfl) (by kernel_rfl) (fun _ _ _ h => h) (Or.inl ⟨by rfl, ?_⟩) (by assumption) ?_
                  rotate_left
                  · intro w hSw
                    try dsimp only at hSw
                    go_simp
                    first | done | with_reducible rfl
                  try simp only [List.getElem_toArray, List.getElem_cons_succ, List.getElem_cons_zero, Act.put, List.setIfInBounds_toArray, List.set_cons_zero, List.set_cons_succ]
                  refine wpAnyH_take (i := 7) (v := ?_) rfl (by kernel_rfl) (by kernel_rfl) (by kernel_rfl) (fun _ _ _ h => h) (Or.inl ⟨by rfl, ?_⟩) (by assumption) ?_
                  rotate_left
                  · intro w hSw
                    try dsimp only at hSw
                    go_simp
                    first | done | with_reducible rfl
                  try simp only [List.getElem_toArray, List.getElem_cons_succ, List.getElem_cons_zero, Act.put, List.setIfInBounds_toArray, List.set_cons_zero, List.set_cons_succ]
                  refine wpAnyH_take (i := 8) (v := ?_) rfl (by kernel_rfl) (by kernel_rfl) (by kernel_rfl) (fun _ _ _ h => h) (Or.inl ⟨by rfl, ?_⟩) (by assumption) ?_
                  rotate_left
                  · intro w hSw
                    try dsimp only at hSw
                    go_simp
                    first | done | with_reducible rfl
                  try simp only [List.getElem_toArray, List.getElem_cons_succ, List.getElem_cons_zero, Act.put, List.setIfInBounds_toArray, List.set_cons_zero, List.set_cons_succ]
                  refine wpAnyH_ready (rs := [10]) (by kernel_rfl) (by simp) (AllReadyH.cons rfl (fun K hK => ?_) AllReadyH.nil)
                  go_simp
                  refine hK.out _ _ ?_ (fun hHeld => ?_)
                  · exact HC3.out _ (((hq.set (.inr (by simp; try omega)) _).set (.inr (by simp; try omega)) _).set (.inr (by simp; try omega)) _)
                  clear hK K
                  try simp only [List.getElem_toArray, List.getElem_cons_succ, List.getElem_cons_zero, Act.put, List.setIfInBounds_toArray, List.set_cons_zero, List.set_cons_succ]
                  refine wpAnyH_take (i := 11) (v := ?_) rfl (by kernel_rfl) (by kernel_rfl) (by kernel_rfl) (fun _ _ _ h => h) (Or.inl ⟨by rfl, ?_⟩) (by assumption) ?_
                  rotate_left
                  · intro w hSw
                    try dsimp only at hSw
                    go_simp
                    first | done | with_reducible rfl
                  try simp only [List.getElem_toArray, List.getElem_cons_succ, List.getElem_cons_zero, Act.put, List.setIfInBounds_toArray, List.set_cons_zero, List.set_cons_succ]
                  refine wpAnyH_done (by kernel_rfl) ?_ _
                  refine NoPanic.normal ?_
                  go_wp2_with fail
                  go_meet
                  case rel => exact ⟨_, rfl, rfl, (((hz.set 0 _).set 1 _).set 2 _).to (by simp), ((hq.set (.inr (by simp; try omega)) _).set (.inr (by simp; try omega)) _).set (.inr (by simp; try omega)) _⟩
          case rest =>
            obtain ⟨ge, rfl, rfl, geB, o1⟩ := hcut
            replace Hga := Lib.hid (o1.blk Hga.out (by simp))
            replace Hgb := Lib.hid (o1.blk Hgb.out (by simp))
            replace Hgc := Lib.hid (o1.blk Hgc.out (by simp))
            replace H4 := Lib.hid (o1.blk H4.out (by simp))
            have Hge := Lib.hid geB
            replace HO3 := Lib.hid (HO3.out.trans o1)
            clear o1 geB HC3 hq d0 d1 d2
            clear w3
            generalize wc = w3 at *
            have HC3 := Lib.hid (show ∀ w', Off [] w3 w' → w'.cell? ⟨w.heap.size, 0, none⟩ = some (.int .i64 P) ∧ w'.cell? ⟨w.heap.size, 1, none⟩ = some (.int .i64 C) ∧ w'.cell? ⟨w.heap.size, 2, none⟩ = some (.int .i64 M) from fun w' h => by
              obtain ⟨a, b, c, -, -, -⟩ := HC.out _ (HO3.out.trans h)
              exact ⟨a, b, c⟩)
            have hq := Off.refl [] w3
            obtain ⟨d0, d1, d2⟩ := HC3.out _ hq
            have e0 : 0 ≤ bit % 36 := Int.emod_nonneg _ (by omega)
            have e1 : bit % 36 < 36 := Int.emod_lt_of_pos _ (by omega)
            have v6 := or_bit 28 (pageW_bd 2 k c).1 (pageW_bd 2 k c).2 (n := 28 + bit % 36) (by omega) (by omega)
            have v7 := or_bit 28 (entryW_bd p 1 k).1 (entryW_bd p 1 k).2 (n := 28 + bit % 36) (by omega) (by omega)
            have R6 := Lib.hid (fun W => readPage_far (P := P) (C := C) (M := M) (at_ := p) v6.1 v6.2 W)
            have R7 := Lib.hid (fun W => readEntry_far (P := P) (C := C) (M := M) v7.1 v7.2 W)
            clear v6 v7
            go_upto_region 13 with (first | (go_at_call 6; refine (putPage_any _ _ _ _).mono ?_; rintro e w4 ⟨rfl, ho⟩; replace hq := hq.trans ho; clear ho; clear d0 d1 d2; obtain ⟨d0, d1, d2⟩ := HC3.out _ hq) | (go_at_call 11; refine (R6.out _).mono ?_; rintro e w5 ⟨rfl, ho⟩; replace hq := hq.trans ho; clear ho))
            replace Hga := Lib.hid ((hq.alloc (.cells #[.int .i64 0, .int .i64 0, .int .i64 0] 25)).blk Hga.out (by simp))
            replace Hgb := Lib.hid ((hq.alloc (.cells #[.int .i64 0, .int .i64 0, .int .i64 0] 25)).blk Hgb.out (by simp))
            replace Hgc := Lib.hid ((hq.alloc (.cells #[.int .i64 0, .int .i64 0, .int .i64 0] 25)).blk Hgc.out (by simp))
            replace H4 := Lib.hid ((hq.alloc (.cells #[.int .i64 0, .int .i64 0, .int .i64 0] 25)).blk H4.out (by simp))
            replace Hge := Lib.hid ((hq.alloc (.cells #[.int .i64 0, .int .i64 0, .int .i64 0] 25)).blk Hge.out (by simp))
            replace HO3 := Lib.hid (HO3.out.trans (hq.alloc (.cells #[.int .i64 0, .int .i64 0, .int .i64 0] 25)))
            clear HC3 hq d0 d1 d2
            clear w3 w4
            generalize w5.alloc (.cells #[.int .i64 0, .int .i64 0, .int .i64 0] 25) = w3 at *
            generalize w5.heap.size = gx at *
            clear w5
            have tm : bit.tmod 36 = bit % 36 := Int.tmod_eq_emod_of_nonneg b0
            have wr1 : IntKind.u8.wrap (bit % 36) = bit % 36 := by rw [IntKind.wrap_u8]; omega
            have wr2 : IntKind.u8.wrap (28 + bit % 36) = 28 + bit % 36 := by rw [IntKind.wrap_u8]; omega
            have wr3 : IntKind.u64.wrap (28 + bit % 36) = 28 + bit % 36 := wraps_u64 _ (by omega) (by omega)
            have HC3 := Lib.hid (show ∀ w', Off [] w3 w' → w'.cell? ⟨w.heap.size, 0, none⟩ = some (.int .i64 P) ∧ w'.cell? ⟨w.heap.size, 1, none⟩ = some (.int .i64 C) ∧ w'.cell? ⟨w.heap.size, 2, none⟩ = some (.int .i64 M) from fun w' h => by
              obtain ⟨a, b, c, -, -, -⟩ := HC.out _ (HO3.out.trans h)
              exact ⟨a, b, c⟩)
            have hq := Off.refl [] w3
            obtain ⟨d0, d1, d2⟩ := HC3.out _ hq
            go_cut [23, 24] (fun x y wx => Made w3 29 #[.int .i64 0, .int .i64 0, .int .i64 0] false x y wx)
            case first =>
              as_aux_lemma =>
                refine wp_region_noPanic ?_
                refine wp_region_held_drew (S := (fun w' => w'.cell? ⟨w.heap.size, 0, none⟩ = some (.int .i64 P) ∧ w'.cell? ⟨w.heap.size, 1, none⟩ = some (.int .i64 C) ∧ w'.cell? ⟨w.heap.size, 2, none⟩ = some (.int .i64 M))) (by kernel_rfl) ⟨d0, d1, d2⟩ (fun hHeld => ?_)
                refine wpAnyH_take (i := 0) (v := ?_) rfl (by kernel_rfl) (by kernel_rfl) (by kernel_rfl) (fun _ _ _ h => h) (Or.inl ⟨by rfl, ?_⟩) (by assumption) ?_
                rotate_left
                · intro w hSw
                  try dsimp only at hSw
                  go_simp
                  first | done | with_reducible rfl
                try simp only [List.getElem_toArray, List.getElem_cons_zero, Act.put, List.setIfInBounds_toArray, List.set_cons_zero, List.set_cons_succ]
                refine wpAnyH_take (i := 1) (v := ?_) rfl (by kernel_rfl) (by kernel_rfl) (by kernel_rfl) (fun _ _ _ h => h) (Or.inl ⟨by rfl, ?_⟩) (by assumption) ?_
                rotate_left
                · intro w hSw
                  try dsimp only at hSw
                  go_simp
                  first | done | with_reducible rfl
                try simp only [List.getElem_toArray, List.getElem_cons_succ, List.getElem_cons_zero, Act.put, List.setIfInBounds_toArray, List.set_cons_zero, List.set_cons_succ]
                refine wpAnyH_take (i := 2) (v := ?_) rfl (by kernel_rfl) (by kernel_rfl) (by kernel_rfl) (fun _ _ _ h => h) (Or.inl ⟨by rfl, ?_⟩) (by assumption) ?_
                rotate_left
                · intro w hSw
                  try dsimp only at hSw
                  go_simp
                  first | done | with_reducible rfl
                try simp only [List.getElem_toArray, List.getElem_cons_succ, List.getElem_cons_zero, Act.put, List.setIfInBounds_toArray, List.set_cons_zero, List.set_cons_succ]
                refine wpAnyH_take (i := 3) (v := ?_) rfl (by kernel_rfl) (by kernel_rfl) (by kernel_rfl) (fun _ _ _ h => h) (Or.inl ⟨by rfl, ?_⟩) (by assumption) ?_
                rotate_left
                · intro w hSw
                  try dsimp only at hSw
                  go_simp
                  first | done | with_reducible rfl
                try simp only [List.getElem_toArray, List.getElem_cons_succ, List.getElem_cons_zero, Act.put, List.setIfInBounds_toArray, List.set_cons_zero, List.set_cons_succ]
                refine wpAnyH_take (i := 5) (v := ?_) rfl (by kernel_rfl) (by kernel_rfl) (by kernel_rfl) (fun _ _ _ h => h) (Or.inl ⟨by rfl, ?_⟩) (by assumption) ?_
                rotate_left
                · intro w hSw
                  try dsimp only at hSw
                  go_simp
                  first | done | with_reducible rfl
                try simp only [List.getElem_toArray, List.getElem_cons_succ, List.getElem_cons_zero, Act.put, List.setIfInBounds_toArray, List.set_cons_zero, List.set_cons_succ]
                refine wpAnyH_take (i := 6) (v := ?_) rfl (by kernel_rfl) (by kernel_rfl) (by kernel_rfl) (fun _ _ _ h => h) (Or.inl ⟨by rfl, ?_⟩) (by assumption) ?_
                rotate_left
                · intro w hSw
                  try dsimp only at hSw
                  go_simp
                  first | done | with_reducible rfl
                try simp only [List.getElem_toArray, List.getElem_cons_succ, List.getElem_cons_zero, Act.put, List.setIfInBounds_toArray, List.set_cons_zero, List.set_cons_succ]
                refine wpAnyH_take (i := 7) (v := ?_) rfl (by kernel_rfl) (by kernel_rfl) (by kernel_rfl) (fun _ _ _ h => h) (Or.inl ⟨by rfl, ?_⟩) (by assumption) ?_
                rotate_left
                · intro w hSw
                  try dsimp only at hSw
                  go_simp
                  first | done | with_reducible rfl
                try simp only [List.getElem_toArray, List.getElem_cons_succ, List.getElem_cons_zero, Act.put, List.setIfInBounds_toArray, List.set_cons_zero, List.set_cons_succ]
                refine wpAnyH_take (i := 8) (v := ?_) rfl (by kernel_rfl) (by kernel_rfl) (by kernel_rfl) (fun _ _ _ h => h) (Or.inl ⟨by rfl, ?_⟩) (by assumption) ?_
                rotate_left
                · intro w hSw
                  try dsimp only at hSw
                  go_simp
                  first | done | with_reducible rfl
                try simp only [List.getElem_toArray, List.getElem_cons_succ, List.getElem_cons_zero, Act.put, List.setIfInBounds_toArray, List.set_cons_zero, List.set_cons_succ]
                refine wpAnyH_take (i := 9) (v := ?_) rfl (by kernel_rfl) (by kernel_rfl) (by kernel_rfl) (fun _ _ _ h => h) (Or.inl ⟨by rfl, ?_⟩) (by assumption) ?_
                rotate_left
                · intro w hSw
                  try dsimp only at hSw
                  go_simp
                  first | done | with_reducible rfl
                try simp only [List.getElem_toArray, List.getElem_cons_succ, List.getElem_cons_zero, Act.put, List.setIfInBounds_toArray, List.set_cons_zero, List.set_cons_succ]
                refine wpAnyH_ready (rs := [4, 15]) (by kernel_rfl) (by simp) (AllReadyH.cons rfl (fun K hK => ?_) (AllReadyH.cons rfl (fun K hK => ?_) AllReadyH.nil))
                · as_aux_lemma =>
                    go_simp
                    go_wp2_with ((go_at_call 8; refine (putEntry_any _ _ _ _).mono ?_; rintro e w4 ⟨rfl, ho⟩; (first | (have hz' := ho.blk hz (by simp); replace hz := hz'; clear hz'; replace hq := hq.trans ho) | (replace hq := hq.drew.trans ho)); have hqs := hq.size; clear ho))
                    refine hK.out _ _ ?_ (fun hHeld => ?_)
                    · (first | exact HC3.out _ hq | exact HC3.out _ hq.drew | exact HC3.out _ (hq.alloc _) | exact HC3.out _ (hq.alloc _).drew | exact HC3.out _ (hq.drew.alloc _))
                    clear hK K
                    try simp only [List.getElem_toArray, List.getElem_cons_succ, List.getElem_cons_zero, Act.put, List.setIfInBounds_toArray, List.set_cons_zero, List.set_cons_succ]
                    refine wpAnyH_take (i := 10) (v := ?_) rfl (by kernel_rfl) (by kernel_rfl) (by kernel_rfl) (fun _ _ _ h => h) (Or.inl ⟨by rfl, ?_⟩) (by assumption) ?_
                    rotate_left
                    · intro w hSw
                      try dsimp only at hSw
                      go_simp
                      first | done | with_reducible rfl
                    try simp only [List.getElem_toArray, List.getElem_cons_succ, List.getElem_cons_zero, Act.put, List.setIfInBounds_toArray, List.set_cons_zero, List.set_cons_succ]
                    refine wpAnyH_ready (rs := [11, 15]) (by kernel_rfl) (by simp) (AllReadyH.cons rfl (fun K hK => ?_) (AllReadyH.cons rfl (fun K hK => ?_) AllReadyH.nil))
                    · as_aux_lemma =>
                        go_simp
                        go_wp2_with ((go_at_call 12; refine (R7.out _).mono ?_; rintro e w5 ⟨rfl, ho⟩; (first | (have hz' := ho.blk hz (by simp); replace hz := hz'; clear hz'; obtain ⟨z0, z1, z2⟩ := shp_cells hz; obtain ⟨f0, f1, f2⟩ := shp_free hz) | skip); replace hq := hq.trans ho; clear ho))
                        refine hK.out _ _ ?_ (fun hHeld => ?_)
                        · (first | exact HC3.out _ hq | exact HC3.out _ hq.drew | exact HC3.out _ (hq.alloc _) | exact HC3.out _ (hq.alloc _).drew | exact HC3.out _ (hq.drew.alloc _))
                        clear hK K
                        try simp only [List.getElem_toArray, List.getElem_cons_succ, List.getElem_cons_zero, Act.put, List.setIfInBounds_toArray, List.set_cons_zero, List.set_cons_succ]
                        refine wpAnyH_take (i := 12) (v := ?_) rfl (by kernel_rfl) (by kernel_rfl) (by kernel_rfl) (fun _ _ _ h => h) (Or.inl ⟨by rfl, ?_⟩) (by assumption) ?_
                        rotate_left
                        · intro w hSw
                          try dsimp only at hSw
                          go_simp
                          first | done | with_reducible rfl
                        try simp only [List.getElem_toArray, List.getElem_cons_succ, List.getElem_cons_zero, Act.put, List.setIfInBounds_toArray, List.set_cons_zero, List.set_cons_succ]
                        refine wpAnyH_take (i := 13) (v := ?_) rfl (by kernel_rfl) (by kernel_rfl) (by kernel_rfl) (fun _ _ _ h => h) (Or.inl ⟨by rfl, ?_⟩) (by assumption) ?_
                        rotate_left
                        · intro w hSw
                          try dsimp only at hSw
                          go_simp
                          first | done | with_reducible rfl
                        try simp only [List.getElem_toArray, List.getElem_cons_succ, List.getElem_cons_zero, Act.put, List.setIfInBounds_toArray, List.set_cons_zero, List.set_cons_succ]
                        refine wpAnyH_take (i := 14) (v := ?_) rfl (by kernel_rfl) (by kernel_rfl) (by kernel_rfl) (fun _ _ _ h => h) (Or.inl ⟨by rfl, ?_⟩) (by assumption) ?_
                        rotate_left
                        · intro w hSw
                          try dsimp only at hSw
                          go_simp
                          first | done | with_reducible rfl
                        try simp only [List.getElem_toArray, List.getElem_cons_succ, List.getElem_cons_zero, Act.put, List.setIfInBounds_toArray, List.set_cons_zero, List.set_cons_succ]
                        refine wpAnyH_ready (rs := [15]) (by kernel_rfl) (by simp) (AllReadyH.cons rfl (fun K hK => ?_) AllReadyH.nil)
                        go_simp
                        refine hK.out _ _ ?_ (fun hHeld => ?_)
                        · (first | exact HC3.out _ hq | exact HC3.out _ hq.drew | exact HC3.out _ (hq.alloc _) | exact HC3.out _ (hq.alloc _).drew | exact HC3.out _ (hq.drew.alloc _))
                        clear hK K
                        try simp only [List.getElem_toArray, List.getElem_cons_succ, List.getElem_cons_zero, Act.put, List.setIfInBounds_toArray, List.set_cons_zero, List.set_cons_succ]
                        skip
                        refine wpAnyH_ready (rs := [16]) (by kernel_rfl) (by simp) (AllReadyH.cons rfl (fun K hK => ?_) AllReadyH.nil)
                        go_simp
                        refine hK.out _ _ ?_ (fun hHeld => ?_)
                        · exact HC3.out _ (hq.alloc _)
                        clear hK K
                        try simp only [List.getElem_toArray, List.getElem_cons_succ, List.getElem_cons_zero, Act.put, List.setIfInBounds_toArray, List.set_cons_zero, List.set_cons_succ]
                        refine wpAnyH_take (i := 17) (v := ?_) rfl (by kernel_rfl) (by kernel_rfl) (by kernel_rfl) (fun _ _ _ h => h) (Or.inl ⟨by rfl, ?_⟩) (by assumption) ?_
                        rotate_left
                        · intro w hSw
                          try dsimp only at hSw
                          go_simp
                          first | done | with_reducible rfl
                        try simp only [List.getElem_toArray, List.getElem_cons_succ, List.getElem_cons_zero, Act.put, List.setIfInBounds_toArray, List.set_cons_zero, List.set_cons_succ]
                        refine wpAnyH_done (by kernel_rfl) ?_ _
                        refine NoPanic.normal ?_
                        go_wp2_with fail
                        go_meet
                        case rel => exact ⟨_, rfl, rfl, Blk.new _ _ _, hq.alloc _⟩
                    · as_aux_lemma =>
                        go_simp
                        refine hK.out _ _ ?_ (fun hHeld => ?_)
                        · (first | exact HC3.out _ hq | exact HC3.out _ hq.drew | exact HC3.out _ (hq.alloc _) | exact HC3.out _ (hq.alloc _).drew | exact HC3.out _ (hq.drew.alloc _))
                        clear hK K
                        try simp only [List.getElem_toArray, List.getElem_cons_succ, List.getElem_cons_zero, Act.put, List.setIfInBounds_toArray, List.set_cons_zero, List.set_cons_succ]
                        have hz := Blk.new w4 29 #[.int .i64 0, .int .i64 0, .int .i64 0]
                        replace hq := hq.alloc (.cells #[.int .i64 0, .int .i64 0, .int .i64 0] 29)
                        refine wpAnyH_ready (rs := [11]) (by kernel_rfl) (by simp) (AllReadyH.cons rfl (fun K hK => ?_) AllReadyH.nil)
                        go_simp
                        go_wp2_with ((go_at_call 12; refine (R7.out _).mono ?_; rintro e w5 ⟨rfl, ho⟩; (first | (have hz' := ho.blk hz (by simp); replace hz := hz'; clear hz'; obtain ⟨z0, z1, z2⟩ := shp_cells hz; obtain ⟨f0, f1, f2⟩ := shp_free hz) | skip); replace hq := hq.trans ho; clear ho))
                        refine hK.out _ _ ?_ (fun hHeld => ?_)
                        · (first | exact HC3.out _ hq | exact HC3.out _ hq.drew | exact HC3.out _ (hq.alloc _) | exact HC3.out _ (hq.alloc _).drew | exact HC3.out _ (hq.drew.alloc _))
                        clear hK K
                        try simp only [List.getElem_toArray, List.getElem_cons_succ, List.getElem_cons_zero, Act.put, List.setIfInBounds_toArray, List.set_cons_zero, List.set_cons_succ]
                        refine wpAnyH_take (i := 12) (v := ?_) rfl (by kernel_rfl) (by kernel_rfl) (by kernel_rfl) (fun _ _ _ h => h) (Or.inl ⟨by rfl, ?_⟩) (by assumption) ?_
                        rotate_left
                        · intro w hSw
                          try dsimp only at hSw
                          go_simp
                          first | done | with_reducible rfl
                        try simp only [List.getElem_toArray, List.getElem_cons_succ, List.getElem_cons_zero, Act.put, List.setIfInBounds_toArray, List.set_cons_zero, List.set_cons_succ]
                        refine wpAnyH_take (i := 13) (v := ?_) rfl (by kernel_rfl) (by kernel_rfl) (by kernel_rfl) (fun _ _ _ h => h) (Or.inl ⟨by rfl, ?_⟩) (by assumption) ?_
                        rotate_left
                        · intro w hSw
                          try dsimp only at hSw
                          go_simp
                          first | done | with_reducible rfl
                        try simp only [List.getElem_toArray, List.getElem_cons_succ, List.getElem_cons_zero, Act.put, List.setIfInBounds_toArray, List.set_cons_zero, List.set_cons_succ]
                        refine wpAnyH_take (i := 14) (v := ?_) rfl (by kernel_rfl) (by kernel_rfl) (by kernel_rfl) (fun _ _ _ h => h) (Or.inl ⟨by rfl, ?_⟩) (by assumption) ?_
                        rotate_left
                        · intro w hSw
                          try dsimp only at hSw
                          go_simp
                          first | done | with_reducible rfl
                        try simp only [List.getElem_toArray, List.getElem_cons_succ, List.getElem_cons_zero, Act.put, List.setIfInBounds_toArray, List.set_cons_zero, List.set_cons_succ]
                        refine wpAnyH_ready (rs := [16]) (by kernel_rfl) (by simp) (AllReadyH.cons rfl (fun K hK => ?_) AllReadyH.nil)
                        go_simp
                        refine hK.out _ _ ?_ (fun hHeld => ?_)
                        · exact HC3.out _ (((hq.set (.inr (by simp; try omega)) _).set (.inr (by simp; try omega)) _).set (.inr (by simp; try omega)) _)
                        clear hK K
                        try simp only [List.getElem_toArray, List.getElem_cons_succ, List.getElem_cons_zero, Act.put, List.setIfInBounds_toArray, List.set_cons_zero, List.set_cons_succ]
                        refine wpAnyH_take (i := 17) (v := ?_) rfl (by kernel_rfl) (by kernel_rfl) (by kernel_rfl) (fun _ _ _ h => h) (Or.inl ⟨by rfl, ?_⟩) (by assumption) ?_
                        rotate_left
                        · intro w hSw
                          try dsimp only at hSw
                          go_simp
                          first | done | with_reducible rfl
                        try simp only [List.getElem_toArray, List.getElem_cons_succ, List.getElem_cons_zero, Act.put, List.setIfInBounds_toArray, List.set_cons_zero, List.set_cons_succ]
                        refine wpAnyH_done (by kernel_rfl) ?_ _
                        refine NoPanic.normal ?_
                        go_wp2_with fail
                        go_meet
                        case rel => exact ⟨_, rfl, rfl, (((hz.set 0 _).set 1 _).set 2 _).to (by simp), ((hq.set (.inr (by simp; try omega)) _).set (.inr (by simp; try omega)) _).set (.inr (by simp; try omega)) _⟩
                · as_aux_lemma =>
                    go_simp
                    refine hK.out _ _ ?_ (fun hHeld => ?_)
                    · (first | exact HC3.out _ hq | exact HC3.out _ hq.drew | exact HC3.out _ (hq.alloc _) | exact HC3.out _ (hq.alloc _).drew | exact HC3.out _ (hq.drew.alloc _))
                    clear hK K
                    try simp only [List.getElem_toArray, List.getElem_cons_succ, List.getElem_cons_zero, Act.put, List.setIfInBounds_toArray, List.set_cons_zero, List.set_cons_succ]
                    have hz := blk_drew (Blk.new w3 29 #[.int .i64 0, .int .i64 0, .int .i64 0])
                    replace hq := (hq.alloc (.cells #[.int .i64 0, .int .i64 0, .int .i64 0] 29)).drew
                    refine wpAnyH_ready (rs := [4]) (by kernel_rfl) (by simp) (AllReadyH.cons rfl (fun K hK => ?_) AllReadyH.nil)
                    go_simp
                    go_wp2_with ((go_at_call 8; refine (putEntry_any _ _ _ _).mono ?_; rintro e w4 ⟨rfl, ho⟩; (first | (have hz' := ho.blk hz (by simp); replace hz := hz'; clear hz'; replace hq := hq.trans ho) | (replace hq := hq.drew.trans ho)); have hqs := hq.size; clear ho))
                    refine hK.out _ _ ?_ (fun hHeld => ?_)
                    · (first | exact HC3.out _ hq | exact HC3.out _ hq.drew | exact HC3.out _ (hq.alloc _) | exact HC3.out _ (hq.alloc _).drew | exact HC3.out _ (hq.drew.alloc _))
                    clear hK K
                    try simp only [List.getElem_toArray, List.getElem_cons_succ, List.getElem_cons_zero, Act.put, List.setIfInBounds_toArray, List.set_cons_zero, List.set_cons_succ]
                    refine wpAnyH_take (i := 10) (v := ?_) rfl (by kernel_rfl) (by kernel_rfl) (by kernel_rfl) (fun _ _ _ h => h) (Or.inl ⟨by rfl, ?_⟩) (by assumption) ?_
                    rotate_left
                    · intro w hSw
                      try dsimp only at hSw
                      go_simp
                      first | done | with_reducible rfl
                    try simp only [List.getElem_toArray, List.getElem_cons_succ, List.getElem_cons_zero, Act.put, List.setIfInBounds_toArray, List.set_cons_zero, List.set_cons_succ]
                    refine wpAnyH_ready (rs := [11]) (by kernel_rfl) (by simp) (AllReadyH.cons rfl (fun K hK => ?_) AllReadyH.nil)
                    go_simp
                    go_wp2_with ((go_at_call 12; refine (R7.out _).mono ?_; rintro e w5 ⟨rfl, ho⟩; (first | (have hz' := ho.blk hz (by simp); replace hz := hz'; clear hz'; obtain ⟨z0, z1, z2⟩ := shp_cells hz; obtain ⟨f0, f1, f2⟩ := shp_free hz) | skip); replace hq := hq.trans ho; clear ho))
                    refine hK.out _ _ ?_ (fun hHeld => ?_)
                    · (first | exact HC3.out _ hq | exact HC3.out _ hq.drew | exact HC3.out _ (hq.alloc _) | exact HC3.out _ (hq.alloc _).drew | exact HC3.out _ (hq.drew.alloc _))
                    clear hK K
                    try simp only [List.getElem_toArray, List.getElem_cons_succ, List.getElem_cons_zero, Act.put, List.setIfInBounds_toArray, List.set_cons_zero, List.set_cons_succ]
                    refine wpAnyH_take (i := 12) (v := ?_) rfl (by kernel_rfl) (by kernel_rfl) (by kernel_rfl) (fun _ _ _ h => h) (Or.inl ⟨by rfl, ?_⟩) (by assumption) ?_
                    rotate_left
                    · intro w hSw
                      try dsimp only at hSw
                      go_simp
                      first | done | with_reducible rfl
                    try simp only [List.getElem_toArray, List.getElem_cons_succ, List.getElem_cons_zero, Act.put, List.setIfInBounds_toArray, List.set_cons_zero, List.set_cons_succ]
                    refine wpAnyH_take (i := 13) (v := ?_) rfl (by kernel_rfl) (by kernel_rfl) (by kernel_rfl) (fun _ _ _ h => h) (Or.inl ⟨by rfl, ?_⟩) (by assumption) ?_
                    rotate_left
                    · intro w hSw
                      try dsimp only at hSw
                      go_simp
                      first | done | with_reducible rfl
                    try simp only [List.getElem_toArray, List.getElem_cons_succ, List.getElem_cons_zero, Act.put, List.setIfInBounds_toArray, List.set_cons_zero, List.set_cons_succ]
                    refine wpAnyH_take (i := 14) (v := ?_) rfl (by kernel_rfl) (by kernel_rfl) (by kernel_rfl) (fun _ _ _ h => h) (Or.inl ⟨by rfl, ?_⟩) (by assumption) ?_
                    rotate_left
                    · intro w hSw
                      try dsimp only at hSw
                      go_simp
                      first | done | with_reducible rfl
                    try simp only [List.getElem_toArray, List.getElem_cons_succ, List.getElem_cons_zero, Act.put, List.setIfInBounds_toArray, List.set_cons_zero, List.set_cons_succ]
                    refine wpAnyH_ready (rs := [16]) (by kernel_rfl) (by simp) (AllReadyH.cons rfl (fun K hK => ?_) AllReadyH.nil)
                    go_simp
                    refine hK.out _ _ ?_ (fun hHeld => ?_)
                    · exact HC3.out _ (((hq.set (.inr (by simp; try omega)) _).set (.inr (by simp; try omega)) _).set (.inr (by simp; try omega)) _)
                    clear hK K
                    try simp only [List.getElem_toArray, List.getElem_cons_succ, List.getElem_cons_zero, Act.put, List.setIfInBounds_toArray, List.set_cons_zero, List.set_cons_succ]
                    refine wpAnyH_take (i := 17) (v := ?_) rfl (by kernel_rfl) (by kernel_rfl) (by kernel_rfl) (fun _ _ _ h => h) (Or.inl ⟨by rfl, ?_⟩) (by assumption) ?_
                    rotate_left
                    · intro w hSw
                      try dsimp only at hSw
                      go_simp
                      first | done | with_reducible rfl
                    try simp only [List.getElem_toArray, List.getElem_cons_succ, List.getElem_cons_zero, Act.put, List.setIfInBounds_toArray, List.set_cons_zero, List.set_cons_succ]
                    refine wpAnyH_done (by kernel_rfl) ?_ _
                    refine NoPanic.normal ?_
                    go_wp2_with fail
                    go_meet
                    case rel => exact ⟨_, rfl, rfl, (((hz.set 0 _).set 1 _).set 2 _).to (by simp), ((hq.set (.inr (by simp; try omega)) _).set (.inr (by simp; try omega)) _).set (.inr (by simp; try omega)) _⟩
            case rest =>
              obtain ⟨gf, rfl, rfl, gfB, o1⟩ := hcut
              replace Hga := Lib.hid (o1.blk Hga.out (by simp))
              replace Hgb := Lib.hid (o1.blk Hgb.out (by simp))
              replace Hgc := Lib.hid (o1.blk Hgc.out (by simp))
              replace H4 := Lib.hid (o1.blk H4.out (by simp))
              replace Hge := Lib.hid (o1.blk Hge.out (by simp))
              have Hgf := Lib.hid gfB
              replace HO3 := Lib.hid (HO3.out.trans o1)
              clear o1 gfB HC3 hq d0 d1 d2
              clear w3
              generalize wc = w3 at *
              clear tm wr1 wr2 wr3 R1 R2 R3 R4 R5 R6 R7
              have HC3 := Lib.hid (show ∀ w', Off [] w3 w' → w'.cell? ⟨w.heap.size, 0, none⟩ = some (.int .i64 P) ∧ w'.cell? ⟨w.heap.size, 1, none⟩ = some (.int .i64 C) ∧ w'.cell? ⟨w.heap.size, 2, none⟩ = some (.int .i64 M) from fun w' h => by
                obtain ⟨a, b, c, -, -, -⟩ := HC.out _ (HO3.out.trans h)
                exact ⟨a, b, c⟩)
              have hq := Off.refl [] w3
              obtain ⟨d0, d1, d2⟩ := HC3.out _ hq
              have e2 : 0 ≤ bit % 52 := Int.emod_nonneg _ (by omega)
              have e3 : bit % 52 < 52 := Int.emod_lt_of_pos _ (by omega)
              have v8 := or_bit 12 (slotW_bd 2 c).1 (slotW_bd 2 c).2 (n := 12 + bit % 52) (by omega) (by omega)
              have R8 := Lib.hid (fun W => readSlot_far v8.1 v8.2 W)
              clear v8
              have es := fun w : World => slot_eq w
              go_wp2_with (first | (go_at_call 7; refine (putSlot_any _ _ _).mono ?_; rintro e w4 ⟨rfl, ho⟩; replace hq := hq.trans ho; clear ho) | (go_at_call 13; refine (R8.out _).mono ?_; rintro e w5 ⟨rfl, ho⟩; replace hq := hq.trans ho; clear ho; have u0 := fun A : Obj => shp_cells ((hq.blk Hga.out (by simp)).alloc A); have u1 := fun A : Obj => shp_cells ((hq.blk Hgb.out (by simp)).alloc A); have u2 := fun A : Obj => shp_cells ((hq.blk Hgc.out (by simp)).alloc A); have u3 := fun A : Obj => shp_cells ((hq.blk H4.out (by simp)).alloc A); have u4 := fun A : Obj => shp_cells ((hq.blk Hge.out (by simp)).alloc A)))
              go_ret
              exact ⟨rfl, ((HO.out.trans (HO3.out.trans hq)).alloc _).nil_below⟩
  · have hm := mayB_f hf
    clear hf
    go_enter Try.func4, Try.ntmps4
    go_wp2_with (first | (go_at_call 5; refine (awake4 _).mono ?_; rintro e w1 ⟨rfl, ho⟩; replace hoff := hoff.trans ho; clear ho; obtain ⟨d0, d1, d2, g0, g1, g2⟩ := HC.out _ hoff) | (go_at_call 10; refine (rmay_any _ _ _ _).mono ?_; rintro e w2 ⟨rfl, ho⟩; replace hoff := hoff.trans ho; clear ho))
    go_ret
    exact ⟨rfl, (HO.out.trans hoff).nil_below⟩

end Go.Proofs.Ytmiodkcabjfbbaa.Pack
