/- Stage 7: awake, over the contracts of the program's judge. -/
import Derived.Test.YtfgkjfneeggbjaaJudC
import Derived.Deep.CutBlock
import Derived.Deep.RegionHeld3
namespace Go.Proofs.Ytfgkjfneeggbjaa.Jud
open Go.RowKit Mem Go.Proofs.Ytfgkjfneeggbjaa.Mod Go.Proofs.Ytfgkjfneeggbjaa.Plan

def ev (k c o a n at_ m e : Int) : Ev := ⟨k, c, o, a, n, at_, m, e⟩
def evs4 : List Ev := [ev 0 0 0 0 0 0 0 0, ev 2 0 1 0 4 0 0 0, ev 3 0 0 0 0 0 4 0, ev 5 0 1 0 4 0 0 0]
theorem evs4_run : runS (st0 1 1 0) evs4 = (-1, 0) := by decide +kernel
theorem evs3_run : runS (st0 1 1 0) (evs4.drop 1) = (0, 1) := by decide +kernel
theorem evs4_wf : ∀ e ∈ evs4, e.wf := by
  intro e he
  simp only [evs4, List.mem_cons, List.not_mem_nil, or_false] at he
  rcases he with rfl | rfl | rfl | rfl <;> exact ⟨by unfold inI; decide, by unfold inI; decide, by unfold inI; decide, by unfold inI; decide, by unfold inI; decide, by unfold inI; decide, by unfold inI; decide, by unfold inI; decide⟩

theorem blk_drewJ {w : World} {g : Nat} {t : TypeId} {cs : Array Value} (h : Blk w g t cs) : Blk w.drew g t cs := ⟨h.eq⟩
theorem three_cell {w : World} {b : Nat} {t : TypeId} {x y z : Value} (h : Blk w b t #[x, y, z]) : w.cell? ⟨b, 0, none⟩ = some x ∧ w.cell? ⟨b, 1, none⟩ = some y ∧ w.cell? ⟨b, 2, none⟩ = some z := ⟨h.cell 0, h.cell 1, h.cell 2⟩
theorem size_two (w : World) (c d : Array Value) (t u : TypeId) : ((w.alloc (.cells c t)).alloc (.cells d u)).heap.size = w.heap.size + 1 + 1 := by simp
theorem at_worldJ {P : Program} {c : Code} {Q : Exit → Act → World → Prop} {a : Act} {w : World} {R : World → Prop} (h : R w) (k : ∀ W, R W → Code.wp P c Q a W) : Code.wp P c Q a w := k w h
theorem anyH_world {P : Program} {md : Region.Mode} {ops : Array Oper} {Q : Exit → Act → World → Prop} {S : World → Prop} {fuel : Nat} {listed : Array Bool} {a : Act} {w : World} {R : World → Prop} (h : R w) (k : ∀ W, R W → wpAnyH P md ops Q S fuel listed a W) : wpAnyH P md ops Q S fuel listed a w := k w h
/-- Two rulings, each in a block of its own. -/
def RulRel (w : World) (a0 a1 b0 b1 : Int) (a b : Value) (wx : World) : Prop := ∃ ga gb, a = .pointer (some ⟨ga, 0, none⟩) ∧ b = .pointer (some ⟨gb, 0, none⟩) ∧ Blk wx ga 27 #[.int .i64 a0, .int .i64 a1] ∧ Blk wx gb 27 #[.int .i64 b0, .int .i64 b1] ∧ Off [] w wx

set_option maxRecDepth 100000 in
set_option maxHeartbeats 4000000 in
theorem awake_any {J : HoldJ} {B : HoldB} (C : ConJ J B) (w : World) :
    Calls Try.prog 7 #[] w fun e w' => e = .returned (.bool true) ∧ Off [] w w' := by
  have HC := Lib.hid C
  clear C
  go_enter Try.func7, Try.ntmps7
  go_upto_region 4 with fail
  refine at_worldJ (R := fun W' => Off [] w W' ∧ Blk W' w.heap.size 23 #[.int .i64 1, .int .i64 1, .int .i64 0] ∧ Blk W' (w.heap.size + 1 + 1) 41 (evs4.flatMap evL).toArray) ⟨(((Off.refl _ _).alloc _).alloc _).alloc _, ((Blk.new w _ _).alloc _).alloc _, (size_two w _ _ _ _) ▸ Blk.new _ _ _⟩ ?_
  rintro W1 ⟨oW, hs, he⟩
  have HOW := Lib.hid oW
  have HA : Hid (∀ W, Off [] W1 W → Calls Try.prog 8 #[.agg #[.int .i64 1, .int .i64 1, .int .i64 0], .slice (some ⟨w.heap.size + 1 + 1, 0, none⟩) 4 4] W fun e w' => e = .returned (.agg #[.int .i64 (-1), .int .i64 0]) ∧ Off [] W w') := Lib.hid (fun W o => by
    have h := HC.out.rule 1 1 0 W _ evs4 ((rdE_blk he 0 4 (by decide)).off o (by simp)) (by decide) evs4_wf
    rw [evs4_run] at h
    exact h)
  have HB : Hid (∀ W, Off [] W1 W → Calls Try.prog 8 #[.agg #[.int .i64 1, .int .i64 1, .int .i64 0], .slice (some ⟨w.heap.size + 1 + 1, 8, none⟩) 3 3] W fun e w' => e = .returned (.agg #[.int .i64 0, .int .i64 1]) ∧ Off [] W w') := Lib.hid (fun W o => by
    have h := HC.out.rule 1 1 0 W _ (evs4.drop 1) ((rdE_blk he 1 3 (by decide)).off o (by simp)) (by decide) (fun e k => evs4_wf e (List.mem_of_mem_drop k))
    rw [evs3_run] at h
    exact h)
  have HF : Hid (∀ W, Off [] W1 W → W.cell? ⟨w.heap.size, 0, none⟩ = some (.int .i64 1) ∧ W.cell? ⟨w.heap.size, 1, none⟩ = some (.int .i64 1) ∧ W.cell? ⟨w.heap.size, 2, none⟩ = some (.int .i64 0)) := Lib.hid (fun W o => three_cell (o.blk hs (by simp)))
  clear oW hs he
  go_cut [4, 5] from 15 to 21 (fun a b wx => RulRel W1 (-1) 0 0 1 a b wx)
  case first =>
    refine wp_region_noPanic ?_
    refine wp_region_held_drew (S := fun w' => w'.cell? ⟨w.heap.size, 0, none⟩ = some (.int .i64 1) ∧ w'.cell? ⟨w.heap.size, 1, none⟩ = some (.int .i64 1) ∧ w'.cell? ⟨w.heap.size, 2, none⟩ = some (.int .i64 0)) (by kernel_rfl) (HF.out _ (Off.refl [] W1).drew) (fun hHeld => ?_)
    have o := (Off.refl [] W1).drew
    refine wpAnyH_take (i := 0) (v := ?_) rfl (by kernel_rfl) (by kernel_rfl) (by kernel_rfl) (fun _ _ _ h => h) (Or.inl ⟨by rfl, ?_⟩) (by assumption) ?_
    rotate_left
    · intro w hSw
      try dsimp only at hSw
      go_simp
      first | done | with_reducible rfl
    try simp only [List.getElem_toArray, List.getElem_cons_zero, Act.put, List.setIfInBounds_toArray, List.set_cons_zero, List.set_cons_succ]
    refine wpAnyH_take (i := 1) (v := ?_) rfl (by kernel_rfl) (by kernel_rfl) (by kernel_rfl) (fun _ _ _ h => h) (Or.inl ⟨by rfl, ?_⟩) (by assumption) ?_
    rotate_left
    · intro w hSw
      try dsimp only at hSw
      go_simp
      first | done | with_reducible rfl
    try simp only [List.getElem_toArray, List.getElem_cons_succ, List.getElem_cons_zero, Act.put, List.setIfInBounds_toArray, List.set_cons_zero, List.set_cons_succ]
    refine wpAnyH_take (i := 3) (v := ?_) rfl (by kernel_rfl) (by kernel_rfl) (by kernel_rfl) (fun _ _ _ h => h) (Or.inl ⟨by rfl, ?_⟩) (by assumption) ?_
    rotate_left
    · intro w hSw
      try dsimp only at hSw
      go_simp
      first | done | with_reducible rfl
    try simp only [List.getElem_toArray, List.getElem_cons_succ, List.getElem_cons_zero, Act.put, List.setIfInBounds_toArray, List.set_cons_zero, List.set_cons_succ]
    refine wpAnyH_take (i := 4) (v := ?_) rfl (by kernel_rfl) (by kernel_rfl) (by kernel_rfl) (fun _ _ _ h => h) (Or.inl ⟨by rfl, ?_⟩) (by assumption) ?_
    rotate_left
    · intro w hSw
      try dsimp only at hSw
      go_simp
      first | done | with_reducible rfl
    try simp only [List.getElem_toArray, List.getElem_cons_succ, List.getElem_cons_zero, Act.put, List.setIfInBounds_toArray, List.set_cons_zero, List.set_cons_succ]
    refine wpAnyH_take (i := 5) (v := ?_) rfl (by kernel_rfl) (by kernel_rfl) (by kernel_rfl) (fun _ _ _ h => h) (Or.inl ⟨by rfl, ?_⟩) (by assumption) ?_
    rotate_left
    · intro w hSw
      try dsimp only at hSw
      go_simp
      first | done | with_reducible rfl
    try simp only [List.getElem_toArray, List.getElem_cons_succ, List.getElem_cons_zero, Act.put, List.setIfInBounds_toArray, List.set_cons_zero, List.set_cons_succ]
    refine wpAnyH_ready (rs := [2, 7, 8]) (by kernel_rfl) (by simp) (AllReadyH.cons rfl (fun K hK => ?_) (AllReadyH.cons rfl (fun K hK => ?_) (AllReadyH.cons rfl (fun K hK => ?_) AllReadyH.nil)))
    · as_aux_lemma =>
        go_simp
        go_wp2_with ((go_at_call 8; refine (HA.out _ o).mono ?_; rintro e W_1 ⟨rfl, oc⟩))
        refine hK.out _ _ (HF.out _ (o.trans oc)) (fun hHeld => ?_)
        clear hK K
        try simp only [List.getElem_toArray, List.getElem_cons_succ, List.getElem_cons_zero, Act.put, List.setIfInBounds_toArray, List.set_cons_zero, List.set_cons_succ]
        replace o := o.trans oc
        clear oc
        refine wpAnyH_ready (rs := [6, 7, 8]) (by kernel_rfl) (by simp) (AllReadyH.cons rfl (fun K hK => ?_) (AllReadyH.cons rfl (fun K hK => ?_) (AllReadyH.cons rfl (fun K hK => ?_) AllReadyH.nil)))
        · as_aux_lemma =>
            go_simp
            go_wp2_with ((go_at_call 8; refine (HB.out _ o).mono ?_; rintro e W_2 ⟨rfl, oc⟩))
            refine hK.out _ _ (HF.out _ (o.trans oc)) (fun hHeld => ?_)
            clear hK K
            try simp only [List.getElem_toArray, List.getElem_cons_succ, List.getElem_cons_zero, Act.put, List.setIfInBounds_toArray, List.set_cons_zero, List.set_cons_succ]
            replace o := o.trans oc
            clear oc
            refine wpAnyH_ready (rs := [7, 8]) (by kernel_rfl) (by simp) (AllReadyH.cons rfl (fun K hK => ?_) (AllReadyH.cons rfl (fun K hK => ?_) AllReadyH.nil))
            · as_aux_lemma =>
                go_simp
                refine hK.out _ _ (HF.out _ (o.alloc _)) (fun hHeld => ?_)
                clear hK K
                try simp only [List.getElem_toArray, List.getElem_cons_succ, List.getElem_cons_zero, Act.put, List.setIfInBounds_toArray, List.set_cons_zero, List.set_cons_succ]
                have hgx : W1.heap.size ≤ W_2.heap.size := o.size
                refine anyH_world (R := fun W' => (fun w' => w'.cell? ⟨w.heap.size, 0, none⟩ = some (.int .i64 1) ∧ w'.cell? ⟨w.heap.size, 1, none⟩ = some (.int .i64 1) ∧ w'.cell? ⟨w.heap.size, 2, none⟩ = some (.int .i64 0)) W' ∧ Off [] W1 W' ∧ Blk W' (W_2.heap.size) 27 #[.int .i64 0, .int .i64 0]) ⟨hHeld, o.alloc _, (by first | exact Blk.new _ _ _ | exact blk_drewJ (Blk.new _ _ _))⟩ ?_
                clear hHeld o
                rintro W_3 ⟨hHeld, o, hx⟩
                refine wpAnyH_ready (rs := [8]) (by kernel_rfl) (by simp) (AllReadyH.cons rfl (fun K hK => ?_) AllReadyH.nil)
                go_simp
                refine hK.out _ _ (HF.out _ (o.alloc _)) (fun hHeld => ?_)
                clear hK K
                try simp only [List.getElem_toArray, List.getElem_cons_succ, List.getElem_cons_zero, Act.put, List.setIfInBounds_toArray, List.set_cons_zero, List.set_cons_succ]
                have hgy : W1.heap.size ≤ W_3.heap.size := o.size
                have hxy : W_2.heap.size ≠ W_3.heap.size := by have := hx.lt; omega
                refine anyH_world (R := fun W' => (fun w' => w'.cell? ⟨w.heap.size, 0, none⟩ = some (.int .i64 1) ∧ w'.cell? ⟨w.heap.size, 1, none⟩ = some (.int .i64 1) ∧ w'.cell? ⟨w.heap.size, 2, none⟩ = some (.int .i64 0)) W' ∧ Off [] W1 W' ∧ Blk W' (W_2.heap.size) 27 #[.int .i64 0, .int .i64 0] ∧ Blk W' (W_3.heap.size) 27 #[.int .i64 0, .int .i64 0]) ⟨hHeld, o.alloc _, hx.alloc _, (by first | exact Blk.new _ _ _ | exact blk_drewJ (Blk.new _ _ _))⟩ ?_
                clear hHeld o hx
                rintro W_4 ⟨hHeld, o, hx, hy⟩
                obtain ⟨f0, x0, x1⟩ := two_cells hx
                refine wpAnyH_ready (rs := [9]) (by kernel_rfl) (by simp) (AllReadyH.cons rfl (fun K hK => ?_) AllReadyH.nil)
                go_simp
                refine hK.out _ _ (HF.out _ ((o.set (.inr hgx) _).set (.inr hgx) _)) (fun hHeld => ?_)
                clear hK K
                try simp only [List.getElem_toArray, List.getElem_cons_succ, List.getElem_cons_zero, Act.put, List.setIfInBounds_toArray, List.set_cons_zero, List.set_cons_succ]
                refine anyH_world (R := fun W' => (fun w' => w'.cell? ⟨w.heap.size, 0, none⟩ = some (.int .i64 1) ∧ w'.cell? ⟨w.heap.size, 1, none⟩ = some (.int .i64 1) ∧ w'.cell? ⟨w.heap.size, 2, none⟩ = some (.int .i64 0)) W' ∧ Off [] W1 W' ∧ Blk W' W_2.heap.size 27 #[.int .i64 (-1), .int .i64 0] ∧ Blk W' W_3.heap.size 27 #[.int .i64 0, .int .i64 0]) ⟨hHeld, ((o.set (.inr hgx) _).set (.inr hgx) _), ((hx.set 0 _).set 1 _).to (by simp), (hy.far (Ne.symm hxy) _ _).far (Ne.symm hxy) _ _⟩ ?_
                clear o hx hy f0 x0 x1 hHeld
                rintro W_a ⟨hHeld, o, hx, hy⟩
                obtain ⟨f1, y0, y1⟩ := two_cells hy
                refine wpAnyH_ready (rs := [10]) (by kernel_rfl) (by simp) (AllReadyH.cons rfl (fun K hK => ?_) AllReadyH.nil)
                go_simp
                refine hK.out _ _ (HF.out _ ((o.set (.inr hgy) _).set (.inr hgy) _)) (fun hHeld => ?_)
                clear hK K
                try simp only [List.getElem_toArray, List.getElem_cons_succ, List.getElem_cons_zero, Act.put, List.setIfInBounds_toArray, List.set_cons_zero, List.set_cons_succ]
                refine anyH_world (R := fun W' => Off [] W1 W' ∧ Blk W' W_2.heap.size 27 #[.int .i64 (-1), .int .i64 0] ∧ Blk W' W_3.heap.size 27 #[.int .i64 0, .int .i64 1]) ⟨((o.set (.inr hgy) _).set (.inr hgy) _), (hx.far hxy _ _).far hxy _ _, ((hy.set 0 _).set 1 _).to (by simp)⟩ ?_
                clear o hx hy f1 y0 y1 hHeld
                rintro W_b ⟨o, hx, hy⟩
                refine wpAnyH_done (by kernel_rfl) ?_ _
                refine NoPanic.normal ?_
                go_wp2_with fail
                go_meet
                case rel => exact ⟨_, _, rfl, rfl, hx, hy, o⟩
            · as_aux_lemma =>
                go_simp
                refine hK.out _ _ (HF.out _ (o.alloc _)) (fun hHeld => ?_)
                clear hK K
                try simp only [List.getElem_toArray, List.getElem_cons_succ, List.getElem_cons_zero, Act.put, List.setIfInBounds_toArray, List.set_cons_zero, List.set_cons_succ]
                have hgy : W1.heap.size ≤ W_2.heap.size := o.size
                refine anyH_world (R := fun W' => (fun w' => w'.cell? ⟨w.heap.size, 0, none⟩ = some (.int .i64 1) ∧ w'.cell? ⟨w.heap.size, 1, none⟩ = some (.int .i64 1) ∧ w'.cell? ⟨w.heap.size, 2, none⟩ = some (.int .i64 0)) W' ∧ Off [] W1 W' ∧ Blk W' (W_2.heap.size) 27 #[.int .i64 0, .int .i64 0]) ⟨hHeld, o.alloc _, (by first | exact Blk.new _ _ _ | exact blk_drewJ (Blk.new _ _ _))⟩ ?_
                clear hHeld o
                rintro W_5 ⟨hHeld, o, hy⟩
                refine wpAnyH_ready (rs := [7]) (by kernel_rfl) (by simp) (AllReadyH.cons rfl (fun K hK => ?_) AllReadyH.nil)
                go_simp
                refine hK.out _ _ (HF.out _ (o.alloc _)) (fun hHeld => ?_)
                clear hK K
                try simp only [List.getElem_toArray, List.getElem_cons_succ, List.getElem_cons_zero, Act.put, List.setIfInBounds_toArray, List.set_cons_zero, List.set_cons_succ]
                have hgx : W1.heap.size ≤ W_5.heap.size := o.size
                have hxy : W_5.heap.size ≠ W_2.heap.size := by have := hy.lt; omega
                refine anyH_world (R := fun W' => (fun w' => w'.cell? ⟨w.heap.size, 0, none⟩ = some (.int .i64 1) ∧ w'.cell? ⟨w.heap.size, 1, none⟩ = some (.int .i64 1) ∧ w'.cell? ⟨w.heap.size, 2, none⟩ = some (.int .i64 0)) W' ∧ Off [] W1 W' ∧ Blk W' (W_5.heap.size) 27 #[.int .i64 0, .int .i64 0] ∧ Blk W' (W_2.heap.size) 27 #[.int .i64 0, .int .i64 0]) ⟨hHeld, o.alloc _, (by first | exact Blk.new _ _ _ | exact blk_drewJ (Blk.new _ _ _)), hy.alloc _⟩ ?_
                clear hHeld o hy
                rintro W_6 ⟨hHeld, o, hx, hy⟩
                obtain ⟨f0, x0, x1⟩ := two_cells hx
                refine wpAnyH_ready (rs := [9]) (by kernel_rfl) (by simp) (AllReadyH.cons rfl (fun K hK => ?_) AllReadyH.nil)
                go_simp
                refine hK.out _ _ (HF.out _ ((o.set (.inr hgx) _).set (.inr hgx) _)) (fun hHeld => ?_)
                clear hK K
                try simp only [List.getElem_toArray, List.getElem_cons_succ, List.getElem_cons_zero, Act.put, List.setIfInBounds_toArray, List.set_cons_zero, List.set_cons_succ]
                refine anyH_world (R := fun W' => (fun w' => w'.cell? ⟨w.heap.size, 0, none⟩ = some (.int .i64 1) ∧ w'.cell? ⟨w.heap.size, 1, none⟩ = some (.int .i64 1) ∧ w'.cell? ⟨w.heap.size, 2, none⟩ = some (.int .i64 0)) W' ∧ Off [] W1 W' ∧ Blk W' W_5.heap.size 27 #[.int .i64 (-1), .int .i64 0] ∧ Blk W' W_2.heap.size 27 #[.int .i64 0, .int .i64 0]) ⟨hHeld, ((o.set (.inr hgx) _).set (.inr hgx) _), ((hx.set 0 _).set 1 _).to (by simp), (hy.far (Ne.symm hxy) _ _).far (Ne.symm hxy) _ _⟩ ?_
                clear o hx hy f0 x0 x1 hHeld
                rintro W_a ⟨hHeld, o, hx, hy⟩
                obtain ⟨f1, y0, y1⟩ := two_cells hy
                refine wpAnyH_ready (rs := [10]) (by kernel_rfl) (by simp) (AllReadyH.cons rfl (fun K hK => ?_) AllReadyH.nil)
                go_simp
                refine hK.out _ _ (HF.out _ ((o.set (.inr hgy) _).set (.inr hgy) _)) (fun hHeld => ?_)
                clear hK K
                try simp only [List.getElem_toArray, List.getElem_cons_succ, List.getElem_cons_zero, Act.put, List.setIfInBounds_toArray, List.set_cons_zero, List.set_cons_succ]
                refine anyH_world (R := fun W' => Off [] W1 W' ∧ Blk W' W_5.heap.size 27 #[.int .i64 (-1), .int .i64 0] ∧ Blk W' W_2.heap.size 27 #[.int .i64 0, .int .i64 1]) ⟨((o.set (.inr hgy) _).set (.inr hgy) _), (hx.far hxy _ _).far hxy _ _, ((hy.set 0 _).set 1 _).to (by simp)⟩ ?_
                clear o hx hy f1 y0 y1 hHeld
                rintro W_b ⟨o, hx, hy⟩
                refine wpAnyH_done (by kernel_rfl) ?_ _
                refine NoPanic.normal ?_
                go_wp2_with fail
                go_meet
                case rel => exact ⟨_, _, rfl, rfl, hx, hy, o⟩
        · as_aux_lemma =>
            go_simp
            refine hK.out _ _ (HF.out _ (o.alloc _)) (fun hHeld => ?_)
            clear hK K
            try simp only [List.getElem_toArray, List.getElem_cons_succ, List.getElem_cons_zero, Act.put, List.setIfInBounds_toArray, List.set_cons_zero, List.set_cons_succ]
            have hgx : W1.heap.size ≤ W_1.heap.size := o.size
            refine anyH_world (R := fun W' => (fun w' => w'.cell? ⟨w.heap.size, 0, none⟩ = some (.int .i64 1) ∧ w'.cell? ⟨w.heap.size, 1, none⟩ = some (.int .i64 1) ∧ w'.cell? ⟨w.heap.size, 2, none⟩ = some (.int .i64 0)) W' ∧ Off [] W1 W' ∧ Blk W' (W_1.heap.size) 27 #[.int .i64 0, .int .i64 0]) ⟨hHeld, o.alloc _, (by first | exact Blk.new _ _ _ | exact blk_drewJ (Blk.new _ _ _))⟩ ?_
            clear hHeld o
            rintro W_7 ⟨hHeld, o, hx⟩
            refine wpAnyH_ready (rs := [6, 8]) (by kernel_rfl) (by simp) (AllReadyH.cons rfl (fun K hK => ?_) (AllReadyH.cons rfl (fun K hK => ?_) AllReadyH.nil))
            · as_aux_lemma =>
                go_simp
                go_wp2_with ((go_at_call 8; refine (HB.out _ o).mono ?_; rintro e W_8 ⟨rfl, oc⟩))
                refine hK.out _ _ (HF.out _ (o.trans oc)) (fun hHeld => ?_)
                clear hK K
                try simp only [List.getElem_toArray, List.getElem_cons_succ, List.getElem_cons_zero, Act.put, List.setIfInBounds_toArray, List.set_cons_zero, List.set_cons_succ]
                replace o := o.trans oc
                replace hx := oc.blk hx (by simp)
                clear oc
                refine wpAnyH_ready (rs := [8]) (by kernel_rfl) (by simp) (AllReadyH.cons rfl (fun K hK => ?_) AllReadyH.nil)
                go_simp
                refine hK.out _ _ (HF.out _ (o.alloc _)) (fun hHeld => ?_)
                clear hK K
                try simp only [List.getElem_toArray, List.getElem_cons_succ, List.getElem_cons_zero, Act.put, List.setIfInBounds_toArray, List.set_cons_zero, List.set_cons_succ]
                have hgy : W1.heap.size ≤ W_8.heap.size := o.size
                have hxy : W_1.heap.size ≠ W_8.heap.size := by have := hx.lt; omega
                refine anyH_world (R := fun W' => (fun w' => w'.cell? ⟨w.heap.size, 0, none⟩ = some (.int .i64 1) ∧ w'.cell? ⟨w.heap.size, 1, none⟩ = some (.int .i64 1) ∧ w'.cell? ⟨w.heap.size, 2, none⟩ = some (.int .i64 0)) W' ∧ Off [] W1 W' ∧ Blk W' (W_1.heap.size) 27 #[.int .i64 0, .int .i64 0] ∧ Blk W' (W_8.heap.size) 27 #[.int .i64 0, .int .i64 0]) ⟨hHeld, o.alloc _, hx.alloc _, (by first | exact Blk.new _ _ _ | exact blk_drewJ (Blk.new _ _ _))⟩ ?_
                clear hHeld o hx
                rintro W_9 ⟨hHeld, o, hx, hy⟩
                obtain ⟨f0, x0, x1⟩ := two_cells hx
                refine wpAnyH_ready (rs := [9]) (by kernel_rfl) (by simp) (AllReadyH.cons rfl (fun K hK => ?_) AllReadyH.nil)
                go_simp
                refine hK.out _ _ (HF.out _ ((o.set (.inr hgx) _).set (.inr hgx) _)) (fun hHeld => ?_)
                clear hK K
                try simp only [List.getElem_toArray, List.getElem_cons_succ, List.getElem_cons_zero, Act.put, List.setIfInBounds_toArray, List.set_cons_zero, List.set_cons_succ]
                refine anyH_world (R := fun W' => (fun w' => w'.cell? ⟨w.heap.size, 0, none⟩ = some (.int .i64 1) ∧ w'.cell? ⟨w.heap.size, 1, none⟩ = some (.int .i64 1) ∧ w'.cell? ⟨w.heap.size, 2, none⟩ = some (.int .i64 0)) W' ∧ Off [] W1 W' ∧ Blk W' W_1.heap.size 27 #[.int .i64 (-1), .int .i64 0] ∧ Blk W' W_8.heap.size 27 #[.int .i64 0, .int .i64 0]) ⟨hHeld, ((o.set (.inr hgx) _).set (.inr hgx) _), ((hx.set 0 _).set 1 _).to (by simp), (hy.far (Ne.symm hxy) _ _).far (Ne.symm hxy) _ _⟩ ?_
                clear o hx hy f0 x0 x1 hHeld
                rintro W_a ⟨hHeld, o, hx, hy⟩
                obtain ⟨f1, y0, y1⟩ := two_cells hy
                refine wpAnyH_ready (rs := [10]) (by kernel_rfl) (by simp) (AllReadyH.cons rfl (fun K hK => ?_) AllReadyH.nil)
                go_simp
                refine hK.out _ _ (HF.out _ ((o.set (.inr hgy) _).set (.inr hgy) _)) (fun hHeld => ?_)
                clear hK K
                try simp only [List.getElem_toArray, List.getElem_cons_succ, List.getElem_cons_zero, Act.put, List.setIfInBounds_toArray, List.set_cons_zero, List.set_cons_succ]
                refine anyH_world (R := fun W' => Off [] W1 W' ∧ Blk W' W_1.heap.size 27 #[.int .i64 (-1), .int .i64 0] ∧ Blk W' W_8.heap.size 27 #[.int .i64 0, .int .i64 1]) ⟨((o.set (.inr hgy) _).set (.inr hgy) _), (hx.far hxy _ _).far hxy _ _, ((hy.set 0 _).set 1 _).to (by simp)⟩ ?_
                clear o hx hy f1 y0 y1 hHeld
                rintro W_b ⟨o, hx, hy⟩
                refine wpAnyH_done (by kernel_rfl) ?_ _
                refine NoPanic.normal ?_
                go_wp2_with fail
                go_meet
                case rel => exact ⟨_, _, rfl, rfl, hx, hy, o⟩
            · as_aux_lemma =>
                go_simp
                refine hK.out _ _ (HF.out _ (o.alloc _)) (fun hHeld => ?_)
                clear hK K
                try simp only [List.getElem_toArray, List.getElem_cons_succ, List.getElem_cons_zero, Act.put, List.setIfInBounds_toArray, List.set_cons_zero, List.set_cons_succ]
                have hgy : W1.heap.size ≤ W_7.heap.size := o.size
                have hxy : W_1.heap.size ≠ W_7.heap.size := by have := hx.lt; omega
                refine anyH_world (R := fun W' => (fun w' => w'.cell? ⟨w.heap.size, 0, none⟩ = some (.int .i64 1) ∧ w'.cell? ⟨w.heap.size, 1, none⟩ = some (.int .i64 1) ∧ w'.cell? ⟨w.heap.size, 2, none⟩ = some (.int .i64 0)) W' ∧ Off [] W1 W' ∧ Blk W' (W_1.heap.size) 27 #[.int .i64 0, .int .i64 0] ∧ Blk W' (W_7.heap.size) 27 #[.int .i64 0, .int .i64 0]) ⟨hHeld, o.alloc _, hx.alloc _, (by first | exact Blk.new _ _ _ | exact blk_drewJ (Blk.new _ _ _))⟩ ?_
                clear hHeld o hx
                rintro W_10 ⟨hHeld, o, hx, hy⟩
                refine wpAnyH_ready (rs := [6]) (by kernel_rfl) (by simp) (AllReadyH.cons rfl (fun K hK => ?_) AllReadyH.nil)
                go_simp
                go_wp2_with ((go_at_call 8; refine (HB.out _ o).mono ?_; rintro e W_11 ⟨rfl, oc⟩))
                refine hK.out _ _ (HF.out _ (o.trans oc)) (fun hHeld => ?_)
                clear hK K
                try simp only [List.getElem_toArray, List.getElem_cons_succ, List.getElem_cons_zero, Act.put, List.setIfInBounds_toArray, List.set_cons_zero, List.set_cons_succ]
                replace o := o.trans oc
                replace hx := oc.blk hx (by simp)
                replace hy := oc.blk hy (by simp)
                clear oc
                obtain ⟨f0, x0, x1⟩ := two_cells hx
                refine wpAnyH_ready (rs := [9]) (by kernel_rfl) (by simp) (AllReadyH.cons rfl (fun K hK => ?_) AllReadyH.nil)
                go_simp
                refine hK.out _ _ (HF.out _ ((o.set (.inr hgx) _).set (.inr hgx) _)) (fun hHeld => ?_)
                clear hK K
                try simp only [List.getElem_toArray, List.getElem_cons_succ, List.getElem_cons_zero, Act.put, List.setIfInBounds_toArray, List.set_cons_zero, List.set_cons_succ]
                refine anyH_world (R := fun W' => (fun w' => w'.cell? ⟨w.heap.size, 0, none⟩ = some (.int .i64 1) ∧ w'.cell? ⟨w.heap.size, 1, none⟩ = some (.int .i64 1) ∧ w'.cell? ⟨w.heap.size, 2, none⟩ = some (.int .i64 0)) W' ∧ Off [] W1 W' ∧ Blk W' W_1.heap.size 27 #[.int .i64 (-1), .int .i64 0] ∧ Blk W' W_7.heap.size 27 #[.int .i64 0, .int .i64 0]) ⟨hHeld, ((o.set (.inr hgx) _).set (.inr hgx) _), ((hx.set 0 _).set 1 _).to (by simp), (hy.far (Ne.symm hxy) _ _).far (Ne.symm hxy) _ _⟩ ?_
                clear o hx hy f0 x0 x1 hHeld
                rintro W_a ⟨hHeld, o, hx, hy⟩
                obtain ⟨f1, y0, y1⟩ := two_cells hy
                refine wpAnyH_ready (rs := [10]) (by kernel_rfl) (by simp) (AllReadyH.cons rfl (fun K hK => ?_) AllReadyH.nil)
                go_simp
                refine hK.out _ _ (HF.out _ ((o.set (.inr hgy) _).set (.inr hgy) _)) (fun hHeld => ?_)
                clear hK K
                try simp only [List.getElem_toArray, List.getElem_cons_succ, List.getElem_cons_zero, Act.put, List.setIfInBounds_toArray, List.set_cons_zero, List.set_cons_succ]
                refine anyH_world (R := fun W' => Off [] W1 W' ∧ Blk W' W_1.heap.size 27 #[.int .i64 (-1), .int .i64 0] ∧ Blk W' W_7.heap.size 27 #[.int .i64 0, .int .i64 1]) ⟨((o.set (.inr hgy) _).set (.inr hgy) _), (hx.far hxy _ _).far hxy _ _, ((hy.set 0 _).set 1 _).to (by simp)⟩ ?_
                clear o hx hy f1 y0 y1 hHeld
                rintro W_b ⟨o, hx, hy⟩
                refine wpAnyH_done (by kernel_rfl) ?_ _
                refine NoPanic.normal ?_
                go_wp2_with fail
                go_meet
                case rel => exact ⟨_, _, rfl, rfl, hx, hy, o⟩
        · as_aux_lemma =>
            go_simp
            refine hK.out _ _ (HF.out _ (o.alloc _)) (fun hHeld => ?_)
            clear hK K
            try simp only [List.getElem_toArray, List.getElem_cons_succ, List.getElem_cons_zero, Act.put, List.setIfInBounds_toArray, List.set_cons_zero, List.set_cons_succ]
            have hgy : W1.heap.size ≤ W_1.heap.size := o.size
            refine anyH_world (R := fun W' => (fun w' => w'.cell? ⟨w.heap.size, 0, none⟩ = some (.int .i64 1) ∧ w'.cell? ⟨w.heap.size, 1, none⟩ = some (.int .i64 1) ∧ w'.cell? ⟨w.heap.size, 2, none⟩ = some (.int .i64 0)) W' ∧ Off [] W1 W' ∧ Blk W' (W_1.heap.size) 27 #[.int .i64 0, .int .i64 0]) ⟨hHeld, o.alloc _, (by first | exact Blk.new _ _ _ | exact blk_drewJ (Blk.new _ _ _))⟩ ?_
            clear hHeld o
            rintro W_12 ⟨hHeld, o, hy⟩
            refine wpAnyH_ready (rs := [6, 7]) (by kernel_rfl) (by simp) (AllReadyH.cons rfl (fun K hK => ?_) (AllReadyH.cons rfl (fun K hK => ?_) AllReadyH.nil))
            · as_aux_lemma =>
                go_simp
                go_wp2_with ((go_at_call 8; refine (HB.out _ o).mono ?_; rintro e W_13 ⟨rfl, oc⟩))
                refine hK.out _ _ (HF.out _ (o.trans oc)) (fun hHeld => ?_)
                clear hK K
                try simp only [List.getElem_toArray, List.getElem_cons_succ, List.getElem_cons_zero, Act.put, List.setIfInBounds_toArray, List.set_cons_zero, List.set_cons_succ]
                replace o := o.trans oc
                replace hy := oc.blk hy (by simp)
                clear oc
                refine wpAnyH_ready (rs := [7]) (by kernel_rfl) (by simp) (AllReadyH.cons rfl (fun K hK => ?_) AllReadyH.nil)
                go_simp
                refine hK.out _ _ (HF.out _ (o.alloc _)) (fun hHeld => ?_)
                clear hK K
                try simp only [List.getElem_toArray, List.getElem_cons_succ, List.getElem_cons_zero, Act.put, List.setIfInBounds_toArray, List.set_cons_zero, List.set_cons_succ]
                have hgx : W1.heap.size ≤ W_13.heap.size := o.size
                have hxy : W_13.heap.size ≠ W_1.heap.size := by have := hy.lt; omega
                refine anyH_world (R := fun W' => (fun w' => w'.cell? ⟨w.heap.size, 0, none⟩ = some (.int .i64 1) ∧ w'.cell? ⟨w.heap.size, 1, none⟩ = some (.int .i64 1) ∧ w'.cell? ⟨w.heap.size, 2, none⟩ = some (.int .i64 0)) W' ∧ Off [] W1 W' ∧ Blk W' (W_13.heap.size) 27 #[.int .i64 0, .int .i64 0] ∧ Blk W' (W_1.heap.size) 27 #[.int .i64 0, .int .i64 0]) ⟨hHeld, o.alloc _, (by first | exact Blk.new _ _ _ | exact blk_drewJ (Blk.new _ _ _)), hy.alloc _⟩ ?_
                clear hHeld o hy
                rintro W_14 ⟨hHeld, o, hx, hy⟩
                obtain ⟨f0, x0, x1⟩ := two_cells hx
                refine wpAnyH_ready (rs := [9]) (by kernel_rfl) (by simp) (AllReadyH.cons rfl (fun K hK => ?_) AllReadyH.nil)
                go_simp
                refine hK.out _ _ (HF.out _ ((o.set (.inr hgx) _).set (.inr hgx) _)) (fun hHeld => ?_)
                clear hK K
                try simp only [List.getElem_toArray, List.getElem_cons_succ, List.getElem_cons_zero, Act.put, List.setIfInBounds_toArray, List.set_cons_zero, List.set_cons_succ]
                refine anyH_world (R := fun W' => (fun w' => w'.cell? ⟨w.heap.size, 0, none⟩ = some (.int .i64 1) ∧ w'.cell? ⟨w.heap.size, 1, none⟩ = some (.int .i64 1) ∧ w'.cell? ⟨w.heap.size, 2, none⟩ = some (.int .i64 0)) W' ∧ Off [] W1 W' ∧ Blk W' W_13.heap.size 27 #[.int .i64 (-1), .int .i64 0] ∧ Blk W' W_1.heap.size 27 #[.int .i64 0, .int .i64 0]) ⟨hHeld, ((o.set (.inr hgx) _).set (.inr hgx) _), ((hx.set 0 _).set 1 _).to (by simp), (hy.far (Ne.symm hxy) _ _).far (Ne.symm hxy) _ _⟩ ?_
                clear o hx hy f0 x0 x1 hHeld
                rintro W_a ⟨hHeld, o, hx, hy⟩
                obtain ⟨f1, y0, y1⟩ := two_cells hy
                refine wpAnyH_ready (rs := [10]) (by kernel_rfl) (by simp) (AllReadyH.cons rfl (fun K hK => ?_) AllReadyH.nil)
                go_simp
                refine hK.out _ _ (HF.out _ ((o.set (.inr hgy) _).set (.inr hgy) _)) (fun hHeld => ?_)
                clear hK K
                try simp only [List.getElem_toArray, List.getElem_cons_succ, List.getElem_cons_zero, Act.put, List.setIfInBounds_toArray, List.set_cons_zero, List.set_cons_succ]
                refine anyH_world (R := fun W' => Off [] W1 W' ∧ Blk W' W_13.heap.size 27 #[.int .i64 (-1), .int .i64 0] ∧ Blk W' W_1.heap.size 27 #[.int .i64 0, .int .i64 1]) ⟨((o.set (.inr hgy) _).set (.inr hgy) _), (hx.far hxy _ _).far hxy _ _, ((hy.set 0 _).set 1 _).to (by simp)⟩ ?_
                clear o hx hy f1 y0 y1 hHeld
                rintro W_b ⟨o, hx, hy⟩
                refine wpAnyH_done (by kernel_rfl) ?_ _
                refine NoPanic.normal ?_
                go_wp2_with fail
                go_meet
                case rel => exact ⟨_, _, rfl, rfl, hx, hy, o⟩
            · as_aux_lemma =>
                go_simp
                refine hK.out _ _ (HF.out _ (o.alloc _)) (fun hHeld => ?_)
                clear hK K
                try simp only [List.getElem_toArray, List.getElem_cons_succ, List.getElem_cons_zero, Act.put, List.setIfInBounds_toArray, List.set_cons_zero, List.set_cons_succ]
                have hgx : W1.heap.size ≤ W_12.heap.size := o.size
                have hxy : W_12.heap.size ≠ W_1.heap.size := by have := hy.lt; omega
                refine anyH_world (R := fun W' => (fun w' => w'.cell? ⟨w.heap.size, 0, none⟩ = some (.int .i64 1) ∧ w'.cell? ⟨w.heap.size, 1, none⟩ = some (.int .i64 1) ∧ w'.cell? ⟨w.heap.size, 2, none⟩ = some (.int .i64 0)) W' ∧ Off [] W1 W' ∧ Blk W' (W_12.heap.size) 27 #[.int .i64 0, .int .i64 0] ∧ Blk W' (W_1.heap.size) 27 #[.int .i64 0, .int .i64 0]) ⟨hHeld, o.alloc _, (by first | exact Blk.new _ _ _ | exact blk_drewJ (Blk.new _ _ _)), hy.alloc _⟩ ?_
                clear hHeld o hy
                rintro W_15 ⟨hHeld, o, hx, hy⟩
                refine wpAnyH_ready (rs := [6]) (by kernel_rfl) (by simp) (AllReadyH.cons rfl (fun K hK => ?_) AllReadyH.nil)
                go_simp
                go_wp2_with ((go_at_call 8; refine (HB.out _ o).mono ?_; rintro e W_16 ⟨rfl, oc⟩))
                refine hK.out _ _ (HF.out _ (o.trans oc)) (fun hHeld => ?_)
                clear hK K
                try simp only [List.getElem_toArray, List.getElem_cons_succ, List.getElem_cons_zero, Act.put, List.setIfInBounds_toArray, List.set_cons_zero, List.set_cons_succ]
                replace o := o.trans oc
                replace hx := oc.blk hx (by simp)
                replace hy := oc.blk hy (by simp)
                clear oc
                obtain ⟨f0, x0, x1⟩ := two_cells hx
                refine wpAnyH_ready (rs := [9]) (by kernel_rfl) (by simp) (AllReadyH.cons rfl (fun K hK => ?_) AllReadyH.nil)
                go_simp
                refine hK.out _ _ (HF.out _ ((o.set (.inr hgx) _).set (.inr hgx) _)) (fun hHeld => ?_)
                clear hK K
                try simp only [List.getElem_toArray, List.getElem_cons_succ, List.getElem_cons_zero, Act.put, List.setIfInBounds_toArray, List.set_cons_zero, List.set_cons_succ]
                refine anyH_world (R := fun W' => (fun w' => w'.cell? ⟨w.heap.size, 0, none⟩ = some (.int .i64 1) ∧ w'.cell? ⟨w.heap.size, 1, none⟩ = some (.int .i64 1) ∧ w'.cell? ⟨w.heap.size, 2, none⟩ = some (.int .i64 0)) W' ∧ Off [] W1 W' ∧ Blk W' W_12.heap.size 27 #[.int .i64 (-1), .int .i64 0] ∧ Blk W' W_1.heap.size 27 #[.int .i64 0, .int .i64 0]) ⟨hHeld, ((o.set (.inr hgx) _).set (.inr hgx) _), ((hx.set 0 _).set 1 _).to (by simp), (hy.far (Ne.symm hxy) _ _).far (Ne.symm hxy) _ _⟩ ?_
                clear o hx hy f0 x0 x1 hHeld
                rintro W_a ⟨hHeld, o, hx, hy⟩
                obtain ⟨f1, y0, y1⟩ := two_cells hy
                refine wpAnyH_ready (rs := [10]) (by kernel_rfl) (by simp) (AllReadyH.cons rfl (fun K hK => ?_) AllReadyH.nil)
                go_simp
                refine hK.out _ _ (HF.out _ ((o.set (.inr hgy) _).set (.inr hgy) _)) (fun hHeld => ?_)
                clear hK K
                try simp only [List.getElem_toArray, List.getElem_cons_succ, List.getElem_cons_zero, Act.put, List.setIfInBounds_toArray, List.set_cons_zero, List.set_cons_succ]
                refine anyH_world (R := fun W' => Off [] W1 W' ∧ Blk W' W_12.heap.size 27 #[.int .i64 (-1), .int .i64 0] ∧ Blk W' W_1.heap.size 27 #[.int .i64 0, .int .i64 1]) ⟨((o.set (.inr hgy) _).set (.inr hgy) _), (hx.far hxy _ _).far hxy _ _, ((hy.set 0 _).set 1 _).to (by simp)⟩ ?_
                clear o hx hy f1 y0 y1 hHeld
                rintro W_b ⟨o, hx, hy⟩
                refine wpAnyH_done (by kernel_rfl) ?_ _
                refine NoPanic.normal ?_
                go_wp2_with fail
                go_meet
                case rel => exact ⟨_, _, rfl, rfl, hx, hy, o⟩
    · as_aux_lemma =>
        go_simp
        refine hK.out _ _ (HF.out _ (o.alloc _)) (fun hHeld => ?_)
        clear hK K
        try simp only [List.getElem_toArray, List.getElem_cons_succ, List.getElem_cons_zero, Act.put, List.setIfInBounds_toArray, List.set_cons_zero, List.set_cons_succ]
        have hgx : W1.heap.size ≤ W1.heap.size := o.size
        refine anyH_world (R := fun W' => (fun w' => w'.cell? ⟨w.heap.size, 0, none⟩ = some (.int .i64 1) ∧ w'.cell? ⟨w.heap.size, 1, none⟩ = some (.int .i64 1) ∧ w'.cell? ⟨w.heap.size, 2, none⟩ = some (.int .i64 0)) W' ∧ Off [] W1 W' ∧ Blk W' (W1.heap.size) 27 #[.int .i64 0, .int .i64 0]) ⟨hHeld, o.alloc _, (by first | exact Blk.new _ _ _ | exact blk_drewJ (Blk.new _ _ _))⟩ ?_
        clear hHeld o
        rintro W_17 ⟨hHeld, o, hx⟩
        refine wpAnyH_ready (rs := [2, 8]) (by kernel_rfl) (by simp) (AllReadyH.cons rfl (fun K hK => ?_) (AllReadyH.cons rfl (fun K hK => ?_) AllReadyH.nil))
        · as_aux_lemma =>
            go_simp
            go_wp2_with ((go_at_call 8; refine (HA.out _ o).mono ?_; rintro e W_18 ⟨rfl, oc⟩))
            refine hK.out _ _ (HF.out _ (o.trans oc)) (fun hHeld => ?_)
            clear hK K
            try simp only [List.getElem_toArray, List.getElem_cons_succ, List.getElem_cons_zero, Act.put, List.setIfInBounds_toArray, List.set_cons_zero, List.set_cons_succ]
            replace o := o.trans oc
            replace hx := oc.blk hx (by simp)
            clear oc
            refine wpAnyH_ready (rs := [6, 8]) (by kernel_rfl) (by simp) (AllReadyH.cons rfl (fun K hK => ?_) (AllReadyH.cons rfl (fun K hK => ?_) AllReadyH.nil))
            · as_aux_lemma =>
                go_simp
                go_wp2_with ((go_at_call 8; refine (HB.out _ o).mono ?_; rintro e W_19 ⟨rfl, oc⟩))
                refine hK.out _ _ (HF.out _ (o.trans oc)) (fun hHeld => ?_)
                clear hK K
                try simp only [List.getElem_toArray, List.getElem_cons_succ, List.getElem_cons_zero, Act.put, List.setIfInBounds_toArray, List.set_cons_zero, List.set_cons_succ]
                replace o := o.trans oc
                replace hx := oc.blk hx (by simp)
                clear oc
                refine wpAnyH_ready (rs := [8]) (by kernel_rfl) (by simp) (AllReadyH.cons rfl (fun K hK => ?_) AllReadyH.nil)
                go_simp
                refine hK.out _ _ (HF.out _ (o.alloc _)) (fun hHeld => ?_)
                clear hK K
                try simp only [List.getElem_toArray, List.getElem_cons_succ, List.getElem_cons_zero, Act.put, List.setIfInBounds_toArray, List.set_cons_zero, List.set_cons_succ]
                have hgy : W1.heap.size ≤ W_19.heap.size := o.size
                have hxy : W1.heap.size ≠ W_19.heap.size := by have := hx.lt; omega
                refine anyH_world (R := fun W' => (fun w' => w'.cell? ⟨w.heap.size, 0, none⟩ = some (.int .i64 1) ∧ w'.cell? ⟨w.heap.size, 1, none⟩ = some (.int .i64 1) ∧ w'.cell? ⟨w.heap.size, 2, none⟩ = some (.int .i64 0)) W' ∧ Off [] W1 W' ∧ Blk W' (W1.heap.size) 27 #[.int .i64 0, .int .i64 0] ∧ Blk W' (W_19.heap.size) 27 #[.int .i64 0, .int .i64 0]) ⟨hHeld, o.alloc _, hx.alloc _, (by first | exact Blk.new _ _ _ | exact blk_drewJ (Blk.new _ _ _))⟩ ?_
                clear hHeld o hx
                rintro W_20 ⟨hHeld, o, hx, hy⟩
                obtain ⟨f0, x0, x1⟩ := two_cells hx
                refine wpAnyH_ready (rs := [9]) (by kernel_rfl) (by simp) (AllReadyH.cons rfl (fun K hK => ?_) AllReadyH.nil)
                go_simp
                refine hK.out _ _ (HF.out _ ((o.set (.inr hgx) _).set (.inr hgx) _)) (fun hHeld => ?_)
                clear hK K
                try simp only [List.getElem_toArray, List.getElem_cons_succ, List.getElem_cons_zero, Act.put, List.setIfInBounds_toArray, List.set_cons_zero, List.set_cons_succ]
                refine anyH_world (R := fun W' => (fun w' => w'.cell? ⟨w.heap.size, 0, none⟩ = some (.int .i64 1) ∧ w'.cell? ⟨w.heap.size, 1, none⟩ = some (.int .i64 1) ∧ w'.cell? ⟨w.heap.size, 2, none⟩ = some (.int .i64 0)) W' ∧ Off [] W1 W' ∧ Blk W' W1.heap.size 27 #[.int .i64 (-1), .int .i64 0] ∧ Blk W' W_19.heap.size 27 #[.int .i64 0, .int .i64 0]) ⟨hHeld, ((o.set (.inr hgx) _).set (.inr hgx) _), ((hx.set 0 _).set 1 _).to (by simp), (hy.far (Ne.symm hxy) _ _).far (Ne.symm hxy) _ _⟩ ?_
                clear o hx hy f0 x0 x1 hHeld
                rintro W_a ⟨hHeld, o, hx, hy⟩
                obtain ⟨f1, y0, y1⟩ := two_cells hy
                refine wpAnyH_ready (rs := [10]) (by kernel_rfl) (by simp) (AllReadyH.cons rfl (fun K hK => ?_) AllReadyH.nil)
                go_simp
                refine hK.out _ _ (HF.out _ ((o.set (.inr hgy) _).set (.inr hgy) _)) (fun hHeld => ?_)
                clear hK K
                try simp only [List.getElem_toArray, List.getElem_cons_succ, List.getElem_cons_zero, Act.put, List.setIfInBounds_toArray, List.set_cons_zero, List.set_cons_succ]
                refine anyH_world (R := fun W' => Off [] W1 W' ∧ Blk W' W1.heap.size 27 #[.int .i64 (-1), .int .i64 0] ∧ Blk W' W_19.heap.size 27 #[.int .i64 0, .int .i64 1]) ⟨((o.set (.inr hgy) _).set (.inr hgy) _), (hx.far hxy _ _).far hxy _ _, ((hy.set 0 _).set 1 _).to (by simp)⟩ ?_
                clear o hx hy f1 y0 y1 hHeld
                rintro W_b ⟨o, hx, hy⟩
                refine wpAnyH_done (by kernel_rfl) ?_ _
                refine NoPanic.normal ?_
                go_wp2_with fail
                go_meet
                case rel => exact ⟨_, _, rfl, rfl, hx, hy, o⟩
            · as_aux_lemma =>
                go_simp
                refine hK.out _ _ (HF.out _ (o.alloc _)) (fun hHeld => ?_)
                clear hK K
                try simp only [List.getElem_toArray, List.getElem_cons_succ, List.getElem_cons_zero, Act.put, List.setIfInBounds_toArray, List.set_cons_zero, List.set_cons_succ]
                have hgy : W1.heap.size ≤ W_18.heap.size := o.size
                have hxy : W1.heap.size ≠ W_18.heap.size := by have := hx.lt; omega
                refine anyH_world (R := fun W' => (fun w' => w'.cell? ⟨w.heap.size, 0, none⟩ = some (.int .i64 1) ∧ w'.cell? ⟨w.heap.size, 1, none⟩ = some (.int .i64 1) ∧ w'.cell? ⟨w.heap.size, 2, none⟩ = some (.int .i64 0)) W' ∧ Off [] W1 W' ∧ Blk W' (W1.heap.size) 27 #[.int .i64 0, .int .i64 0] ∧ Blk W' (W_18.heap.size) 27 #[.int .i64 0, .int .i64 0]) ⟨hHeld, o.alloc _, hx.alloc _, (by first | exact Blk.new _ _ _ | exact blk_drewJ (Blk.new _ _ _))⟩ ?_
                clear hHeld o hx
                rintro W_21 ⟨hHeld, o, hx, hy⟩
                refine wpAnyH_ready (rs := [6]) (by kernel_rfl) (by simp) (AllReadyH.cons rfl (fun K hK => ?_) AllReadyH.nil)
                go_simp
                go_wp2_with ((go_at_call 8; refine (HB.out _ o).mono ?_; rintro e W_22 ⟨rfl, oc⟩))
                refine hK.out _ _ (HF.out _ (o.trans oc)) (fun hHeld => ?_)
                clear hK K
                try simp only [List.getElem_toArray, List.getElem_cons_succ, List.getElem_cons_zero, Act.put, List.setIfInBounds_toArray, List.set_cons_zero, List.set_cons_succ]
                replace o := o.trans oc
                replace hx := oc.blk hx (by simp)
                replace hy := oc.blk hy (by simp)
                clear oc
                obtain ⟨f0, x0, x1⟩ := two_cells hx
                refine wpAnyH_ready (rs := [9]) (by kernel_rfl) (by simp) (AllReadyH.cons rfl (fun K hK => ?_) AllReadyH.nil)
                go_simp
                refine hK.out _ _ (HF.out _ ((o.set (.inr hgx) _).set (.inr hgx) _)) (fun hHeld => ?_)
                clear hK K
                try simp only [List.getElem_toArray, List.getElem_cons_succ, List.getElem_cons_zero, Act.put, List.setIfInBounds_toArray, List.set_cons_zero, List.set_cons_succ]
                refine anyH_world (R := fun W' => (fun w' => w'.cell? ⟨w.heap.size, 0, none⟩ = some (.int .i64 1) ∧ w'.cell? ⟨w.heap.size, 1, none⟩ = some (.int .i64 1) ∧ w'.cell? ⟨w.heap.size, 2, none⟩ = some (.int .i64 0)) W' ∧ Off [] W1 W' ∧ Blk W' W1.heap.size 27 #[.int .i64 (-1), .int .i64 0] ∧ Blk W' W_18.heap.size 27 #[.int .i64 0, .int .i64 0]) ⟨hHeld, ((o.set (.inr hgx) _).set (.inr hgx) _), ((hx.set 0 _).set 1 _).to (by simp), (hy.far (Ne.symm hxy) _ _).far (Ne.symm hxy) _ _⟩ ?_
                clear o hx hy f0 x0 x1 hHeld
                rintro W_a ⟨hHeld, o, hx, hy⟩
                obtain ⟨f1, y0, y1⟩ := two_cells hy
                refine wpAnyH_ready (rs := [10]) (by kernel_rfl) (by simp) (AllReadyH.cons rfl (fun K hK => ?_) AllReadyH.nil)
                go_simp
                refine hK.out _ _ (HF.out _ ((o.set (.inr hgy) _).set (.inr hgy) _)) (fun hHeld => ?_)
                clear hK K
                try simp only [List.getElem_toArray, List.getElem_cons_succ, List.getElem_cons_zero, Act.put, List.setIfInBounds_toArray, List.set_cons_zero, List.set_cons_succ]
                refine anyH_world (R := fun W' => Off [] W1 W' ∧ Blk W' W1.heap.size 27 #[.int .i64 (-1), .int .i64 0] ∧ Blk W' W_18.heap.size 27 #[.int .i64 0, .int .i64 1]) ⟨((o.set (.inr hgy) _).set (.inr hgy) _), (hx.far hxy _ _).far hxy _ _, ((hy.set 0 _).set 1 _).to (by simp)⟩ ?_
                clear o hx hy f1 y0 y1 hHeld
                rintro W_b ⟨o, hx, hy⟩
                refine wpAnyH_done (by kernel_rfl) ?_ _
                refine NoPanic.normal ?_
                go_wp2_with fail
                go_meet
                case rel => exact ⟨_, _, rfl, rfl, hx, hy, o⟩
        · as_aux_lemma =>
            go_simp
            refine hK.out _ _ (HF.out _ (o.alloc _)) (fun hHeld => ?_)
            clear hK K
            try simp only [List.getElem_toArray, List.getElem_cons_succ, List.getElem_cons_zero, Act.put, List.setIfInBounds_toArray, List.set_cons_zero, List.set_cons_succ]
            have hgy : W1.heap.size ≤ W_17.heap.size := o.size
            have hxy : W1.heap.size ≠ W_17.heap.size := by have := hx.lt; omega
            refine anyH_world (R := fun W' => (fun w' => w'.cell? ⟨w.heap.size, 0, none⟩ = some (.int .i64 1) ∧ w'.cell? ⟨w.heap.size, 1, none⟩ = some (.int .i64 1) ∧ w'.cell? ⟨w.heap.size, 2, none⟩ = some (.int .i64 0)) W' ∧ Off [] W1 W' ∧ Blk W' (W1.heap.size) 27 #[.int .i64 0, .int .i64 0] ∧ Blk W' (W_17.heap.size) 27 #[.int .i64 0, .int .i64 0]) ⟨hHeld, o.alloc _, hx.alloc _, (by first | exact Blk.new _ _ _ | exact blk_drewJ (Blk.new _ _ _))⟩ ?_
            clear hHeld o hx
            rintro W_23 ⟨hHeld, o, hx, hy⟩
            refine wpAnyH_ready (rs := [2]) (by kernel_rfl) (by simp) (AllReadyH.cons rfl (fun K hK => ?_) AllReadyH.nil)
            go_simp
            go_wp2_with ((go_at_call 8; refine (HA.out _ o).mono ?_; rintro e W_24 ⟨rfl, oc⟩))
            refine hK.out _ _ (HF.out _ (o.trans oc)) (fun hHeld => ?_)
            clear hK K
            try simp only [List.getElem_toArray, List.getElem_cons_succ, List.getElem_cons_zero, Act.put, List.setIfInBounds_toArray, List.set_cons_zero, List.set_cons_succ]
            replace o := o.trans oc
            replace hx := oc.blk hx (by simp)
            replace hy := oc.blk hy (by simp)
            clear oc
            refine wpAnyH_ready (rs := [6]) (by kernel_rfl) (by simp) (AllReadyH.cons rfl (fun K hK => ?_) AllReadyH.nil)
            go_simp
            go_wp2_with ((go_at_call 8; refine (HB.out _ o).mono ?_; rintro e W_25 ⟨rfl, oc⟩))
            refine hK.out _ _ (HF.out _ (o.trans oc)) (fun hHeld => ?_)
            clear hK K
            try simp only [List.getElem_toArray, List.getElem_cons_succ, List.getElem_cons_zero, Act.put, List.setIfInBounds_toArray, List.set_cons_zero, List.set_cons_succ]
            replace o := o.trans oc
            replace hx := oc.blk hx (by simp)
            replace hy := oc.blk hy (by simp)
            clear oc
            obtain ⟨f0, x0, x1⟩ := two_cells hx
            refine wpAnyH_ready (rs := [9]) (by kernel_rfl) (by simp) (AllReadyH.cons rfl (fun K hK => ?_) AllReadyH.nil)
            go_simp
            refine hK.out _ _ (HF.out _ ((o.set (.inr hgx) _).set (.inr hgx) _)) (fun hHeld => ?_)
            clear hK K
            try simp only [List.getElem_toArray, List.getElem_cons_succ, List.getElem_cons_zero, Act.put, List.setIfInBounds_toArray, List.set_cons_zero, List.set_cons_succ]
            refine anyH_world (R := fun W' => (fun w' => w'.cell? ⟨w.heap.size, 0, none⟩ = some (.int .i64 1) ∧ w'.cell? ⟨w.heap.size, 1, none⟩ = some (.int .i64 1) ∧ w'.cell? ⟨w.heap.size, 2, none⟩ = some (.int .i64 0)) W' ∧ Off [] W1 W' ∧ Blk W' W1.heap.size 27 #[.int .i64 (-1), .int .i64 0] ∧ Blk W' W_17.heap.size 27 #[.int .i64 0, .int .i64 0]) ⟨hHeld, ((o.set (.inr hgx) _).set (.inr hgx) _), ((hx.set 0 _).set 1 _).to (by simp), (hy.far (Ne.symm hxy) _ _).far (Ne.symm hxy) _ _⟩ ?_
            clear o hx hy f0 x0 x1 hHeld
            rintro W_a ⟨hHeld, o, hx, hy⟩
            obtain ⟨f1, y0, y1⟩ := two_cells hy
            refine wpAnyH_ready (rs := [10]) (by kernel_rfl) (by simp) (AllReadyH.cons rfl (fun K hK => ?_) AllReadyH.nil)
            go_simp
            refine hK.out _ _ (HF.out _ ((o.set (.inr hgy) _).set (.inr hgy) _)) (fun hHeld => ?_)
            clear hK K
            try simp only [List.getElem_toArray, List.getElem_cons_succ, List.getElem_cons_zero, Act.put, List.setIfInBounds_toArray, List.set_cons_zero, List.set_cons_succ]
            refine anyH_world (R := fun W' => Off [] W1 W' ∧ Blk W' W1.heap.size 27 #[.int .i64 (-1), .int .i64 0] ∧ Blk W' W_17.heap.size 27 #[.int .i64 0, .int .i64 1]) ⟨((o.set (.inr hgy) _).set (.inr hgy) _), (hx.far hxy _ _).far hxy _ _, ((hy.set 0 _).set 1 _).to (by simp)⟩ ?_
            clear o hx hy f1 y0 y1 hHeld
            rintro W_b ⟨o, hx, hy⟩
            refine wpAnyH_done (by kernel_rfl) ?_ _
            refine NoPanic.normal ?_
            go_wp2_with fail
            go_meet
            case rel => exact ⟨_, _, rfl, rfl, hx, hy, o⟩
    · as_aux_lemma =>
        go_simp
        refine hK.out _ _ (HF.out _ (o.alloc _)) (fun hHeld => ?_)
        clear hK K
        try simp only [List.getElem_toArray, List.getElem_cons_succ, List.getElem_cons_zero, Act.put, List.setIfInBounds_toArray, List.set_cons_zero, List.set_cons_succ]
        have hgy : W1.heap.size ≤ W1.heap.size := o.size
        refine anyH_world (R := fun W' => (fun w' => w'.cell? ⟨w.heap.size, 0, none⟩ = some (.int .i64 1) ∧ w'.cell? ⟨w.heap.size, 1, none⟩ = some (.int .i64 1) ∧ w'.cell? ⟨w.heap.size, 2, none⟩ = some (.int .i64 0)) W' ∧ Off [] W1 W' ∧ Blk W' (W1.heap.size) 27 #[.int .i64 0, .int .i64 0]) ⟨hHeld, o.alloc _, (by first | exact Blk.new _ _ _ | exact blk_drewJ (Blk.new _ _ _))⟩ ?_
        clear hHeld o
        rintro W_26 ⟨hHeld, o, hy⟩
        refine wpAnyH_ready (rs := [2, 7]) (by kernel_rfl) (by simp) (AllReadyH.cons rfl (fun K hK => ?_) (AllReadyH.cons rfl (fun K hK => ?_) AllReadyH.nil))
        · as_aux_lemma =>
            go_simp
            go_wp2_with ((go_at_call 8; refine (HA.out _ o).mono ?_; rintro e W_27 ⟨rfl, oc⟩))
            refine hK.out _ _ (HF.out _ (o.trans oc)) (fun hHeld => ?_)
            clear hK K
            try simp only [List.getElem_toArray, List.getElem_cons_succ, List.getElem_cons_zero, Act.put, List.setIfInBounds_toArray, List.set_cons_zero, List.set_cons_succ]
            replace o := o.trans oc
            replace hy := oc.blk hy (by simp)
            clear oc
            refine wpAnyH_ready (rs := [6, 7]) (by kernel_rfl) (by simp) (AllReadyH.cons rfl (fun K hK => ?_) (AllReadyH.cons rfl (fun K hK => ?_) AllReadyH.nil))
            · as_aux_lemma =>
                go_simp
                go_wp2_with ((go_at_call 8; refine (HB.out _ o).mono ?_; rintro e W_28 ⟨rfl, oc⟩))
                refine hK.out _ _ (HF.out _ (o.trans oc)) (fun hHeld => ?_)
                clear hK K
                try simp only [List.getElem_toArray, List.getElem_cons_succ, List.getElem_cons_zero, Act.put, List.setIfInBounds_toArray, List.set_cons_zero, List.set_cons_succ]
                replace o := o.trans oc
                replace hy := oc.blk hy (by simp)
                clear oc
                refine wpAnyH_ready (rs := [7]) (by kernel_rfl) (by simp) (AllReadyH.cons rfl (fun K hK => ?_) AllReadyH.nil)
                go_simp
                refine hK.out _ _ (HF.out _ (o.alloc _)) (fun hHeld => ?_)
                clear hK K
                try simp only [List.getElem_toArray, List.getElem_cons_succ, List.getElem_cons_zero, Act.put, List.setIfInBounds_toArray, List.set_cons_zero, List.set_cons_succ]
                have hgx : W1.heap.size ≤ W_28.heap.size := o.size
                have hxy : W_28.heap.size ≠ W1.heap.size := by have := hy.lt; omega
                refine anyH_world (R := fun W' => (fun w' => w'.cell? ⟨w.heap.size, 0, none⟩ = some (.int .i64 1) ∧ w'.cell? ⟨w.heap.size, 1, none⟩ = some (.int .i64 1) ∧ w'.cell? ⟨w.heap.size, 2, none⟩ = some (.int .i64 0)) W' ∧ Off [] W1 W' ∧ Blk W' (W_28.heap.size) 27 #[.int .i64 0, .int .i64 0] ∧ Blk W' (W1.heap.size) 27 #[.int .i64 0, .int .i64 0]) ⟨hHeld, o.alloc _, (by first | exact Blk.new _ _ _ | exact blk_drewJ (Blk.new _ _ _)), hy.alloc _⟩ ?_
                clear hHeld o hy
                rintro W_29 ⟨hHeld, o, hx, hy⟩
                obtain ⟨f0, x0, x1⟩ := two_cells hx
                refine wpAnyH_ready (rs := [9]) (by kernel_rfl) (by simp) (AllReadyH.cons rfl (fun K hK => ?_) AllReadyH.nil)
                go_simp
                refine hK.out _ _ (HF.out _ ((o.set (.inr hgx) _).set (.inr hgx) _)) (fun hHeld => ?_)
                clear hK K
                try simp only [List.getElem_toArray, List.getElem_cons_succ, List.getElem_cons_zero, Act.put, List.setIfInBounds_toArray, List.set_cons_zero, List.set_cons_succ]
                refine anyH_world (R := fun W' => (fun w' => w'.cell? ⟨w.heap.size, 0, none⟩ = some (.int .i64 1) ∧ w'.cell? ⟨w.heap.size, 1, none⟩ = some (.int .i64 1) ∧ w'.cell? ⟨w.heap.size, 2, none⟩ = some (.int .i64 0)) W' ∧ Off [] W1 W' ∧ Blk W' W_28.heap.size 27 #[.int .i64 (-1), .int .i64 0] ∧ Blk W' W1.heap.size 27 #[.int .i64 0, .int .i64 0]) ⟨hHeld, ((o.set (.inr hgx) _).set (.inr hgx) _), ((hx.set 0 _).set 1 _).to (by simp), (hy.far (Ne.symm hxy) _ _).far (Ne.symm hxy) _ _⟩ ?_
                clear o hx hy f0 x0 x1 hHeld
                rintro W_a ⟨hHeld, o, hx, hy⟩
                obtain ⟨f1, y0, y1⟩ := two_cells hy
                refine wpAnyH_ready (rs := [10]) (by kernel_rfl) (by simp) (AllReadyH.cons rfl (fun K hK => ?_) AllReadyH.nil)
                go_simp
                refine hK.out _ _ (HF.out _ ((o.set (.inr hgy) _).set (.inr hgy) _)) (fun hHeld => ?_)
                clear hK K
                try simp only [List.getElem_toArray, List.getElem_cons_succ, List.getElem_cons_zero, Act.put, List.setIfInBounds_toArray, List.set_cons_zero, List.set_cons_succ]
                refine anyH_world (R := fun W' => Off [] W1 W' ∧ Blk W' W_28.heap.size 27 #[.int .i64 (-1), .int .i64 0] ∧ Blk W' W1.heap.size 27 #[.int .i64 0, .int .i64 1]) ⟨((o.set (.inr hgy) _).set (.inr hgy) _), (hx.far hxy _ _).far hxy _ _, ((hy.set 0 _).set 1 _).to (by simp)⟩ ?_
                clear o hx hy f1 y0 y1 hHeld
                rintro W_b ⟨o, hx, hy⟩
                refine wpAnyH_done (by kernel_rfl) ?_ _
                refine NoPanic.normal ?_
                go_wp2_with fail
                go_meet
                case rel => exact ⟨_, _, rfl, rfl, hx, hy, o⟩
            · as_aux_lemma =>
                go_simp
                refine hK.out _ _ (HF.out _ (o.alloc _)) (fun hHeld => ?_)
                clear hK K
                try simp only [List.getElem_toArray, List.getElem_cons_succ, List.getElem_cons_zero, Act.put, List.setIfInBounds_toArray, List.set_cons_zero, List.set_cons_succ]
                have hgx : W1.heap.size ≤ W_27.heap.size := o.size
                have hxy : W_27.heap.size ≠ W1.heap.size := by have := hy.lt; omega
                refine anyH_world (R := fun W' => (fun w' => w'.cell? ⟨w.heap.size, 0, none⟩ = some (.int .i64 1) ∧ w'.cell? ⟨w.heap.size, 1, none⟩ = some (.int .i64 1) ∧ w'.cell? ⟨w.heap.size, 2, none⟩ = some (.int .i64 0)) W' ∧ Off [] W1 W' ∧ Blk W' (W_27.heap.size) 27 #[.int .i64 0, .int .i64 0] ∧ Blk W' (W1.heap.size) 27 #[.int .i64 0, .int .i64 0]) ⟨hHeld, o.alloc _, (by first | exact Blk.new _ _ _ | exact blk_drewJ (Blk.new _ _ _)), hy.alloc _⟩ ?_
                clear hHeld o hy
                rintro W_30 ⟨hHeld, o, hx, hy⟩
                refine wpAnyH_ready (rs := [6]) (by kernel_rfl) (by simp) (AllReadyH.cons rfl (fun K hK => ?_) AllReadyH.nil)
                go_simp
                go_wp2_with ((go_at_call 8; refine (HB.out _ o).mono ?_; rintro e W_31 ⟨rfl, oc⟩))
                refine hK.out _ _ (HF.out _ (o.trans oc)) (fun hHeld => ?_)
                clear hK K
                try simp only [List.getElem_toArray, List.getElem_cons_succ, List.getElem_cons_zero, Act.put, List.setIfInBounds_toArray, List.set_cons_zero, List.set_cons_succ]
                replace o := o.trans oc
                replace hx := oc.blk hx (by simp)
                replace hy := oc.blk hy (by simp)
                clear oc
                obtain ⟨f0, x0, x1⟩ := two_cells hx
                refine wpAnyH_ready (rs := [9]) (by kernel_rfl) (by simp) (AllReadyH.cons rfl (fun K hK => ?_) AllReadyH.nil)
                go_simp
                refine hK.out _ _ (HF.out _ ((o.set (.inr hgx) _).set (.inr hgx) _)) (fun hHeld => ?_)
                clear hK K
                try simp only [List.getElem_toArray, List.getElem_cons_succ, List.getElem_cons_zero, Act.put, List.setIfInBounds_toArray, List.set_cons_zero, List.set_cons_succ]
                refine anyH_world (R := fun W' => (fun w' => w'.cell? ⟨w.heap.size, 0, none⟩ = some (.int .i64 1) ∧ w'.cell? ⟨w.heap.size, 1, none⟩ = some (.int .i64 1) ∧ w'.cell? ⟨w.heap.size, 2, none⟩ = some (.int .i64 0)) W' ∧ Off [] W1 W' ∧ Blk W' W_27.heap.size 27 #[.int .i64 (-1), .int .i64 0] ∧ Blk W' W1.heap.size 27 #[.int .i64 0, .int .i64 0]) ⟨hHeld, ((o.set (.inr hgx) _).set (.inr hgx) _), ((hx.set 0 _).set 1 _).to (by simp), (hy.far (Ne.symm hxy) _ _).far (Ne.symm hxy) _ _⟩ ?_
                clear o hx hy f0 x0 x1 hHeld
                rintro W_a ⟨hHeld, o, hx, hy⟩
                obtain ⟨f1, y0, y1⟩ := two_cells hy
                refine wpAnyH_ready (rs := [10]) (by kernel_rfl) (by simp) (AllReadyH.cons rfl (fun K hK => ?_) AllReadyH.nil)
                go_simp
                refine hK.out _ _ (HF.out _ ((o.set (.inr hgy) _).set (.inr hgy) _)) (fun hHeld => ?_)
                clear hK K
                try simp only [List.getElem_toArray, List.getElem_cons_succ, List.getElem_cons_zero, Act.put, List.setIfInBounds_toArray, List.set_cons_zero, List.set_cons_succ]
                refine anyH_world (R := fun W' => Off [] W1 W' ∧ Blk W' W_27.heap.size 27 #[.int .i64 (-1), .int .i64 0] ∧ Blk W' W1.heap.size 27 #[.int .i64 0, .int .i64 1]) ⟨((o.set (.inr hgy) _).set (.inr hgy) _), (hx.far hxy _ _).far hxy _ _, ((hy.set 0 _).set 1 _).to (by simp)⟩ ?_
                clear o hx hy f1 y0 y1 hHeld
                rintro W_b ⟨o, hx, hy⟩
                refine wpAnyH_done (by kernel_rfl) ?_ _
                refine NoPanic.normal ?_
                go_wp2_with fail
                go_meet
                case rel => exact ⟨_, _, rfl, rfl, hx, hy, o⟩
        · as_aux_lemma =>
            go_simp
            refine hK.out _ _ (HF.out _ (o.alloc _)) (fun hHeld => ?_)
            clear hK K
            try simp only [List.getElem_toArray, List.getElem_cons_succ, List.getElem_cons_zero, Act.put, List.setIfInBounds_toArray, List.set_cons_zero, List.set_cons_succ]
            have hgx : W1.heap.size ≤ W_26.heap.size := o.size
            have hxy : W_26.heap.size ≠ W1.heap.size := by have := hy.lt; omega
            refine anyH_world (R := fun W' => (fun w' => w'.cell? ⟨w.heap.size, 0, none⟩ = some (.int .i64 1) ∧ w'.cell? ⟨w.heap.size, 1, none⟩ = some (.int .i64 1) ∧ w'.cell? ⟨w.heap.size, 2, none⟩ = some (.int .i64 0)) W' ∧ Off [] W1 W' ∧ Blk W' (W_26.heap.size) 27 #[.int .i64 0, .int .i64 0] ∧ Blk W' (W1.heap.size) 27 #[.int .i64 0, .int .i64 0]) ⟨hHeld, o.alloc _, (by first | exact Blk.new _ _ _ | exact blk_drewJ (Blk.new _ _ _)), hy.alloc _⟩ ?_
            clear hHeld o hy
            rintro W_32 ⟨hHeld, o, hx, hy⟩
            refine wpAnyH_ready (rs := [2]) (by kernel_rfl) (by simp) (AllReadyH.cons rfl (fun K hK => ?_) AllReadyH.nil)
            go_simp
            go_wp2_with ((go_at_call 8; refine (HA.out _ o).mono ?_; rintro e W_33 ⟨rfl, oc⟩))
            refine hK.out _ _ (HF.out _ (o.trans oc)) (fun hHeld => ?_)
            clear hK K
            try simp only [List.getElem_toArray, List.getElem_cons_succ, List.getElem_cons_zero, Act.put, List.setIfInBounds_toArray, List.set_cons_zero, List.set_cons_succ]
            replace o := o.trans oc
            replace hx := oc.blk hx (by simp)
            replace hy := oc.blk hy (by simp)
            clear oc
            refine wpAnyH_ready (rs := [6]) (by kernel_rfl) (by simp) (AllReadyH.cons rfl (fun K hK => ?_) AllReadyH.nil)
            go_simp
            go_wp2_with ((go_at_call 8; refine (HB.out _ o).mono ?_; rintro e W_34 ⟨rfl, oc⟩))
            refine hK.out _ _ (HF.out _ (o.trans oc)) (fun hHeld => ?_)
            clear hK K
            try simp only [List.getElem_toArray, List.getElem_cons_succ, List.getElem_cons_zero, Act.put, List.setIfInBounds_toArray, List.set_cons_zero, List.set_cons_succ]
            replace o := o.trans oc
            replace hx := oc.blk hx (by simp)
            replace hy := oc.blk hy (by simp)
            clear oc
            obtain ⟨f0, x0, x1⟩ := two_cells hx
            refine wpAnyH_ready (rs := [9]) (by kernel_rfl) (by simp) (AllReadyH.cons rfl (fun K hK => ?_) AllReadyH.nil)
            go_simp
            refine hK.out _ _ (HF.out _ ((o.set (.inr hgx) _).set (.inr hgx) _)) (fun hHeld => ?_)
            clear hK K
            try simp only [List.getElem_toArray, List.getElem_cons_succ, List.getElem_cons_zero, Act.put, List.setIfInBounds_toArray, List.set_cons_zero, List.set_cons_succ]
            refine anyH_world (R := fun W' => (fun w' => w'.cell? ⟨w.heap.size, 0, none⟩ = some (.int .i64 1) ∧ w'.cell? ⟨w.heap.size, 1, none⟩ = some (.int .i64 1) ∧ w'.cell? ⟨w.heap.size, 2, none⟩ = some (.int .i64 0)) W' ∧ Off [] W1 W' ∧ Blk W' W_26.heap.size 27 #[.int .i64 (-1), .int .i64 0] ∧ Blk W' W1.heap.size 27 #[.int .i64 0, .int .i64 0]) ⟨hHeld, ((o.set (.inr hgx) _).set (.inr hgx) _), ((hx.set 0 _).set 1 _).to (by simp), (hy.far (Ne.symm hxy) _ _).far (Ne.symm hxy) _ _⟩ ?_
            clear o hx hy f0 x0 x1 hHeld
            rintro W_a ⟨hHeld, o, hx, hy⟩
            obtain ⟨f1, y0, y1⟩ := two_cells hy
            refine wpAnyH_ready (rs := [10]) (by kernel_rfl) (by simp) (AllReadyH.cons rfl (fun K hK => ?_) AllReadyH.nil)
            go_simp
            refine hK.out _ _ (HF.out _ ((o.set (.inr hgy) _).set (.inr hgy) _)) (fun hHeld => ?_)
            clear hK K
            try simp only [List.getElem_toArray, List.getElem_cons_succ, List.getElem_cons_zero, Act.put, List.setIfInBounds_toArray, List.set_cons_zero, List.set_cons_succ]
            refine anyH_world (R := fun W' => Off [] W1 W' ∧ Blk W' W_26.heap.size 27 #[.int .i64 (-1), .int .i64 0] ∧ Blk W' W1.heap.size 27 #[.int .i64 0, .int .i64 1]) ⟨((o.set (.inr hgy) _).set (.inr hgy) _), (hx.far hxy _ _).far hxy _ _, ((hy.set 0 _).set 1 _).to (by simp)⟩ ?_
            clear o hx hy f1 y0 y1 hHeld
            rintro W_b ⟨o, hx, hy⟩
            refine wpAnyH_done (by kernel_rfl) ?_ _
            refine NoPanic.normal ?_
            go_wp2_with fail
            go_meet
            case rel => exact ⟨_, _, rfl, rfl, hx, hy, o⟩
  case rest =>
    obtain ⟨ga, gb, rfl, rfl, ha, hb, ho⟩ := hcut
    obtain ⟨-, a0, a1⟩ := two_cells ha
    obtain ⟨-, b0, b1⟩ := two_cells hb
    have HO := Lib.hid (HOW.out.trans ho)
    clear ho ha hb
    go_wp2_with fail
    go_ret
    exact ⟨rfl, HO.out⟩

end Go.Proofs.Ytfgkjfneeggbjaa.Jud
