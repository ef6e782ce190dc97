/- Stage 7: JudgeFirst, over the contracts of the program's judge. -/
import Derived.Test.YtfgkjfneeggbjaaJudA
import Derived.Laws.StructEq
namespace Go.Proofs.Ytfgkjfneeggbjaa.Jud
open Go.RowKit Mem Go.Proofs.Ytfgkjfneeggbjaa.Mod Go.Proofs.Ytfgkjfneeggbjaa.Plan

theorem RdE.parts {w : World} {v : Value} {L : List Ev} (h : RdE w v L) : ∃ a c, v = .slice a L.length c ∧ L.length ≤ c := by
  rcases h with ⟨⟨a, c, rfl⟩, rfl⟩ | ⟨g, o, c, hv, hl, _⟩
  · exact ⟨a, c, rfl, Nat.zero_le _⟩
  · exact ⟨_, c, hv, hl⟩
theorem eq_ruling (x y : Int) (w : World) : (binOp .eql 27 (.agg #[.int .i64 x, .int .i64 y]) (.agg #[.int .i64 x, .int .i64 y])).run Try.prog w = .ok (.bool true) w := by
  have h1 : Try.prog.underlying 27 = some (.struct (Try.prog.fieldsOf 27)) := by kernel_rfl
  have h2 : Try.prog.stoodInHeld 27 = false := by kernel_rfl
  rw [run_eql_struct, run_equalIn_agg _ _ _ _ _ h1 h2]
  have h3 := Try.underlying27
  rw [h1] at h3
  injection h3 with h3
  injection h3 with h3
  rw [h3]
  simp [Op.eqFields, go_sem, Try.underlying3]

/-- What JudgeFirst tells, of the two rulings. -/
structure Tells (n : Nat) (a0 a1 b0 b1 : Int) : Prop where
  bad : b1 ≠ 0 → a0 = b0 ∧ a1 = b1 ∧ a0 < n ∧ 0 ≤ a0
  good : b1 = 0 → b0 = -1 ∧ (a1 = 0 ∨ (n : Int) ≤ a0)
theorem tells (P C M : Int) (L : List Ev) (n : Nat) (hn : n ≤ L.length) : Tells n (runS (st0 P C M) L).1 (runS (st0 P C M) L).2 (runS (st0 P C M) (L.take n)).1 (runS (st0 P C M) (L.take n)).2 := by
  have h := run_first (st0 P C M) (by unfold st0; split <;> rfl) L n hn
  refine ⟨fun hb => ?_, fun hb => h.2 hb⟩
  obtain ⟨h1, h2, h3⟩ := h.1 hb
  exact ⟨by rw [h1], by rw [h1], h2, h3⟩

set_option maxRecDepth 100000 in
set_option maxHeartbeats 4000000 in
theorem first_walk {J : HoldJ} {B : HoldB} (C0 : ConJ J B) (P C M : Int) (v : Value) (L : List Ev) (k : Nat) (hk : k < 256) (w : World) (hv : RdE w v L) (hwf : ∀ e ∈ L, e.wf) (hcap : ∀ a l c, v = .slice a l c → c ≤ 9223372036854775807) :
    Calls Try.prog 3 #[.agg #[.int .i64 P, .int .i64 C, .int .i64 M], v, .int .u8 k] w fun e w' => e = .returned (.bool true) ∧ Off [] w w' := by
  have HC := Lib.hid C0
  have HV := Lib.hid hv
  have HWF := Lib.hid hwf
  obtain ⟨va, vc, rfl, hvc⟩ := hv.parts
  have hvm := hcap _ _ _ rfl
  clear C0 hv hwf hcap
  by_cases hlen : 200 < L.length
  · have hl1 : decide (200 < L.length) = true := by simpa using hlen
    go_enter Try.func3, Try.ntmps3
    go_wp2_with (go_at_call 7; refine (awake_any HC.out _).mono ?_; rintro e w1 ⟨rfl, o1⟩; have O1 := Lib.hid (((Off.refl [] w).alloc _).trans o1); clear o1)
    go_ret
    exact ⟨rfl, O1.out⟩
  · have hl0 : decide (200 < L.length) = false := by simpa using hlen
    obtain ⟨n, hn⟩ : ∃ n, (if 0 < L.length then k % (L.length + 1) else 0) = n := ⟨_, rfl⟩
    have hnl : n ≤ L.length := by
      rw [← hn]
      split
      · have := Nat.mod_lt k (show L.length + 1 > 0 by omega)
        omega
      · omega
    have HTL := Lib.hid (tells P C M L n hnl)
    have hA : Hid (∀ W, Off [] w W → Calls Try.prog 8 #[.agg #[.int .i64 P, .int .i64 C, .int .i64 M], .slice va L.length vc] W fun e w' => e = .returned (.agg #[.int .i64 (runS (st0 P C M) L).1, .int .i64 (runS (st0 P C M) L).2]) ∧ Off [] W w') :=
      Lib.hid (fun W o => HC.out.rule P C M W _ L (HV.out.off o (by simp)) (by omega) HWF.out)
    have hB : Hid (∀ W, Off [] w W → Calls Try.prog 8 #[.agg #[.int .i64 P, .int .i64 C, .int .i64 M], .slice va n vc] W fun e w' => e = .returned (.agg #[.int .i64 (runS (st0 P C M) (L.take n)).1, .int .i64 (runS (st0 P C M) (L.take n)).2]) ∧ Off [] W w') :=
      Lib.hid (fun W o => HC.out.rule P C M W _ (L.take n) ((HV.out.off o (by simp)).first n hnl) (by rw [List.length_take]; omega) (fun e he => HWF.out e (List.mem_of_mem_take he)))
    generalize (runS (st0 P C M) L).1 = a0 at *
    generalize (runS (st0 P C M) L).2 = a1 at *
    generalize (runS (st0 P C M) (L.take n)).1 = b0 at *
    generalize (runS (st0 P C M) (L.take n)).2 = b1 at *
    have HEQ := Lib.hid (fun w => eq_ruling a0 a1 w)
    generalize L.length = len at *
    have g1 : (n : Int) ≤ (vc : Int) := by omega
    have g2 : (k : Int) < 256 := by omega
    have w1 : IntKind.i64.wrap ((len : Int) + 1) = (len : Int) + 1 := IntWalk.i64_in _ (by omega)
    have w2 : ¬ ((len : Int) + 1 = 0) := by omega
    go_enter Try.func3, Try.ntmps3
    go_upto_if 17 with (go_at_call 7; refine (awake_any HC.out _).mono ?_; rintro e w1 ⟨rfl, o1⟩)
    refine at_worldJ (R := fun W' => Off [] w W' ∧ Blk W' w.heap.size 23 #[.int .i64 P, .int .i64 C, .int .i64 M]) ⟨((Off.refl _ _).alloc _).trans o1, o1.blk (Blk.new _ _ _) (by simp)⟩ ?_
    rintro W1 ⟨oW, hs⟩
    have HOW := Lib.hid oW
    have HF : Hid (∀ W, Off [] W1 W → W.cell? ⟨w.heap.size, 0, none⟩ = some (.int .i64 P) ∧ W.cell? ⟨w.heap.size, 1, none⟩ = some (.int .i64 C) ∧ W.cell? ⟨w.heap.size, 2, none⟩ = some (.int .i64 M)) := Lib.hid (fun W o => three_cell (o.blk hs (by simp)))
    have HA : Hid (∀ W, Off [] W1 W → _) := Lib.hid (fun W o => hA.out W (HOW.out.trans o))
    have HB : Hid (∀ W, Off [] W1 W → _) := Lib.hid (fun W o => hB.out W (HOW.out.trans o))
    clear oW hs o1 hA hB
    go_cut [7] from 18 to 23 (fun x wx => wx = W1 ∧ x = .int .i64 n)
    case first =>
      by_cases h0 : 0 < len
      · have d0 : decide (0 < len) = true := by simpa using h0
        go_wp2_with fail
        go_meet
        case rel => exact ⟨rfl, by rw [← hn, if_pos h0]; rfl⟩
      · obtain rfl : len = 0 := by omega
        go_wp2_with fail
        go_meet
        case rel => exact ⟨rfl, by rw [← hn]; rfl⟩
    case rest =>
      obtain ⟨hwc, rfl⟩ := hcut
      subst hwc
      clear w1 w2 hn
      go_upto_region 8 with fail
      go_cut [8, 9] from 24 to 31 (fun a b wx => RulRel wc a0 a1 b0 b1 a b wx)
      case first =>
        refine wp_region_noPanic ?_
        refine wp_region_held_drew (S := fun w' => w'.cell? ⟨w.heap.size, 0, none⟩ = some (.int .i64 P) ∧ w'.cell? ⟨w.heap.size, 1, none⟩ = some (.int .i64 C) ∧ w'.cell? ⟨w.heap.size, 2, none⟩ = some (.int .i64 M)) (by kernel_rfl) (HF.out _ (Off.refl [] wc).drew) (fun hHeld => ?_)
        have o := (Off.refl [] wc).drew
        refine wpAnyH_take (i := 0) (v := ?_) rfl (by kernel_rfl) (by kernel_rfl) (by kernel_rfl) (fun _ _ _ h => h) (Or.inl ⟨by rfl, ?_⟩) (by assumption) ?_
        rotate_left
        · intro w hSw
          try dsimp only at hSw
          go_simp
          first | done | with_reducible rfl
        try simp only [List.getElem_toArray, List.getElem_cons_zero, Act.put, List.setIfInBounds_toArray, List.set_cons_zero, List.set_cons_succ]
        refine wpAnyH_take (i := 1) (v := ?_) rfl (by kernel_rfl) (by kernel_rfl) (by kernel_rfl) (fun _ _ _ h => h) (Or.inl ⟨by rfl, ?_⟩) (by assumption) ?_
        rotate_left
        · intro w hSw
          try dsimp only at hSw
          go_simp
          first | done | with_reducible rfl
        try simp only [List.getElem_toArray, List.getElem_cons_succ, List.getElem_cons_zero, Act.put, List.setIfInBounds_toArray, List.set_cons_zero, List.set_cons_succ]
        refine wpAnyH_take (i := 3) (v := ?_) rfl (by kernel_rfl) (by kernel_rfl) (by kernel_rfl) (fun _ _ _ h => h) (Or.inl ⟨by rfl, ?_⟩) (by assumption) ?_
        rotate_left
        · intro w hSw
          try dsimp only at hSw
          go_simp
          first | done | with_reducible rfl
        try simp only [List.getElem_toArray, List.getElem_cons_succ, List.getElem_cons_zero, Act.put, List.setIfInBounds_toArray, List.set_cons_zero, List.set_cons_succ]
        refine wpAnyH_take (i := 4) (v := ?_) rfl (by kernel_rfl) (by kernel_rfl) (by kernel_rfl) (fun _ _ _ h => h) (Or.inl ⟨by rfl, ?_⟩) (by assumption) ?_
        rotate_left
        · intro w hSw
          try dsimp only at hSw
          go_simp
          first | done | with_reducible rfl
        try simp only [List.getElem_toArray, List.getElem_cons_succ, List.getElem_cons_zero, Act.put, List.setIfInBounds_toArray, List.set_cons_zero, List.set_cons_succ]
        refine wpAnyH_take (i := 5) (v := ?_) rfl (by kernel_rfl) (by kernel_rfl) (by kernel_rfl) (fun _ _ _ h => h) (Or.inl ⟨by rfl, ?_⟩) (by assumption) ?_
        rotate_left
        · intro w hSw
          try dsimp only at hSw
          go_simp
          first | done | with_reducible rfl
        try simp only [List.getElem_toArray, List.getElem_cons_succ, List.getElem_cons_zero, Act.put, List.setIfInBounds_toArray, List.set_cons_zero, List.set_cons_succ]
        refine wpAnyH_take (i := 6) (v := ?_) rfl (by kernel_rfl) (by kernel_rfl) (by kernel_rfl) (fun _ _ _ h => h) (Or.inl ⟨by rfl, ?_⟩) (by assumption) ?_
        rotate_left
        · intro w hSw
          try dsimp only at hSw
          go_simp
          first | done | with_reducible rfl
        try simp only [List.getElem_toArray, List.getElem_cons_succ, List.getElem_cons_zero, Act.put, List.setIfInBounds_toArray, List.set_cons_zero, List.set_cons_succ]
        refine wpAnyH_ready (rs := [2, 8, 9]) (by kernel_rfl) (by simp) (AllReadyH.cons rfl (fun K hK => ?_) (AllReadyH.cons rfl (fun K hK => ?_) (AllReadyH.cons rfl (fun K hK => ?_) AllReadyH.nil)))
        · as_aux_lemma =>
            go_simp
            go_wp2_with ((go_at_call 8; refine (HA.out _ o).mono ?_; rintro e W_1 ⟨rfl, oc⟩))
            refine hK.out _ _ (HF.out _ (o.trans oc)) (fun hHeld => ?_)
            clear hK K
            try simp only [List.getElem_toArray, List.getElem_cons_succ, List.getElem_cons_zero, Act.put, List.setIfInBounds_toArray, List.set_cons_zero, List.set_cons_succ]
            replace o := o.trans oc
            clear oc
            refine wpAnyH_ready (rs := [7, 8, 9]) (by kernel_rfl) (by simp) (AllReadyH.cons rfl (fun K hK => ?_) (AllReadyH.cons rfl (fun K hK => ?_) (AllReadyH.cons rfl (fun K hK => ?_) AllReadyH.nil)))
            · as_aux_lemma =>
                go_simp
                go_wp2_with ((go_at_call 8; refine (HB.out _ o).mono ?_; rintro e W_2 ⟨rfl, oc⟩))
                refine hK.out _ _ (HF.out _ (o.trans oc)) (fun hHeld => ?_)
                clear hK K
                try simp only [List.getElem_toArray, List.getElem_cons_succ, List.getElem_cons_zero, Act.put, List.setIfInBounds_toArray, List.set_cons_zero, List.set_cons_succ]
                replace o := o.trans oc
                clear oc
                refine wpAnyH_ready (rs := [8, 9]) (by kernel_rfl) (by simp) (AllReadyH.cons rfl (fun K hK => ?_) (AllReadyH.cons rfl (fun K hK => ?_) AllReadyH.nil))
                · as_aux_lemma =>
                    go_simp
                    refine hK.out _ _ (HF.out _ (o.alloc _)) (fun hHeld => ?_)
                    clear hK K
                    try simp only [List.getElem_toArray, List.getElem_cons_succ, List.getElem_cons_zero, Act.put, List.setIfInBounds_toArray, List.set_cons_zero, List.set_cons_succ]
                    have hgx : wc.heap.size ≤ W_2.heap.size := o.size
                    refine anyH_world (R := fun W' => (fun w' => w'.cell? ⟨w.heap.size, 0, none⟩ = some (.int .i64 P) ∧ w'.cell? ⟨w.heap.size, 1, none⟩ = some (.int .i64 C) ∧ w'.cell? ⟨w.heap.size, 2, none⟩ = some (.int .i64 M)) W' ∧ Off [] wc W' ∧ Blk W' (W_2.heap.size) 27 #[.int .i64 0, .int .i64 0]) ⟨hHeld, o.alloc _, (by first | exact Blk.new _ _ _ | exact blk_drewJ (Blk.new _ _ _))⟩ ?_
                    clear hHeld o
                    rintro W_3 ⟨hHeld, o, hx⟩
                    refine wpAnyH_ready (rs := [9]) (by kernel_rfl) (by simp) (AllReadyH.cons rfl (fun K hK => ?_) AllReadyH.nil)
                    go_simp
                    refine hK.out _ _ (HF.out _ (o.alloc _)) (fun hHeld => ?_)
                    clear hK K
                    try simp only [List.getElem_toArray, List.getElem_cons_succ, List.getElem_cons_zero, Act.put, List.setIfInBounds_toArray, List.set_cons_zero, List.set_cons_succ]
                    have hgy : wc.heap.size ≤ W_3.heap.size := o.size
                    have hxy : W_2.heap.size ≠ W_3.heap.size := by have := hx.lt; omega
                    refine anyH_world (R := fun W' => (fun w' => w'.cell? ⟨w.heap.size, 0, none⟩ = some (.int .i64 P) ∧ w'.cell? ⟨w.heap.size, 1, none⟩ = some (.int .i64 C) ∧ w'.cell? ⟨w.heap.size, 2, none⟩ = some (.int .i64 M)) W' ∧ Off [] wc W' ∧ Blk W' (W_2.heap.size) 27 #[.int .i64 0, .int .i64 0] ∧ Blk W' (W_3.heap.size) 27 #[.int .i64 0, .int .i64 0]) ⟨hHeld, o.alloc _, hx.alloc _, (by first | exact Blk.new _ _ _ | exact blk_drewJ (Blk.new _ _ _))⟩ ?_
                    clear hHeld o hx
                    rintro W_4 ⟨hHeld, o, hx, hy⟩
                    obtain ⟨f0, x0, x1⟩ := two_cells hx
                    refine wpAnyH_ready (rs := [10]) (by kernel_rfl) (by simp) (AllReadyH.cons rfl (fun K hK => ?_) AllReadyH.nil)
                    go_simp
                    refine hK.out _ _ (HF.out _ ((o.set (.inr hgx) _).set (.inr hgx) _)) (fun hHeld => ?_)
                    clear hK K
                    try simp only [List.getElem_toArray, List.getElem_cons_succ, List.getElem_cons_zero, Act.put, List.setIfInBounds_toArray, List.set_cons_zero, List.set_cons_succ]
                    refine anyH_world (R := fun W' => (fun w' => w'.cell? ⟨w.heap.size, 0, none⟩ = some (.int .i64 P) ∧ w'.cell? ⟨w.heap.size, 1, none⟩ = some (.int .i64 C) ∧ w'.cell? ⟨w.heap.size, 2, none⟩ = some (.int .i64 M)) W' ∧ Off [] wc W' ∧ Blk W' W_2.heap.size 27 #[.int .i64 a0, .int .i64 a1] ∧ Blk W' W_3.heap.size 27 #[.int .i64 0, .int .i64 0]) ⟨hHeld, ((o.set (.inr hgx) _).set (.inr hgx) _), ((hx.set 0 _).set 1 _).to (by simp), (hy.far (Ne.symm hxy) _ _).far (Ne.symm hxy) _ _⟩ ?_
                    clear o hx hy f0 x0 x1 hHeld
                    rintro W_a ⟨hHeld, o, hx, hy⟩
                    obtain ⟨f1, y0, y1⟩ := two_cells hy
                    refine wpAnyH_ready (rs := [11]) (by kernel_rfl) (by simp) (AllReadyH.cons rfl (fun K hK => ?_) AllReadyH.nil)
                    go_simp
                    refine hK.out _ _ (HF.out _ ((o.set (.inr hgy) _).set (.inr hgy) _)) (fun hHeld => ?_)
                    clear hK K
                    try simp only [List.getElem_toArray, List.getElem_cons_succ, List.getElem_cons_zero, Act.put, List.setIfInBounds_toArray, List.set_cons_zero, List.set_cons_succ]
                    refine anyH_world (R := fun W' => Off [] wc W' ∧ Blk W' W_2.heap.size 27 #[.int .i64 a0, .int .i64 a1] ∧ Blk W' W_3.heap.size 27 #[.int .i64 b0, .int .i64 b1]) ⟨((o.set (.inr hgy) _).set (.inr hgy) _), (hx.far hxy _ _).far hxy _ _, ((hy.set 0 _).set 1 _).to (by simp)⟩ ?_
                    clear o hx hy f1 y0 y1 hHeld
                    rintro W_b ⟨o, hx, hy⟩
                    refine wpAnyH_done (by kernel_rfl) ?_ _
                    refine NoPanic.normal ?_
                    go_wp2_with fail
                    go_meet
                    case rel => exact ⟨_, _, rfl, rfl, hx, hy, o⟩
                · as_aux_lemma =>
                    go_simp
                    refine hK.out _ _ (HF.out _ (o.alloc _)) (fun hHeld => ?_)
                    clear hK K
                    try simp only [List.getElem_toArray, List.getElem_cons_succ, List.getElem_cons_zero, Act.put, List.setIfInBounds_toArray, List.set_cons_zero, List.set_cons_succ]
                    have hgy : wc.heap.size ≤ W_2.heap.size := o.size
                    refine anyH_world (R := fun W' => (fun w' => w'.cell? ⟨w.heap.size, 0, none⟩ = some (.int .i64 P) ∧ w'.cell? ⟨w.heap.size, 1, none⟩ = some (.int .i64 C) ∧ w'.cell? ⟨w.heap.size, 2, none⟩ = some (.int .i64 M)) W' ∧ Off [] wc W' ∧ Blk W' (W_2.heap.size) 27 #[.int .i64 0, .int .i64 0]) ⟨hHeld, o.alloc _, (by first | exact Blk.new _ _ _ | exact blk_drewJ (Blk.new _ _ _))⟩ ?_
                    clear hHeld o
                    rintro W_5 ⟨hHeld, o, hy⟩
                    refine wpAnyH_ready (rs := [8]) (by kernel_rfl) (by simp) (AllReadyH.cons rfl (fun K hK => ?_) AllReadyH.nil)
                    go_simp
                    refine hK.out _ _ (HF.out _ (o.alloc _)) (fun hHeld => ?_)
                    clear hK K
                    try simp only [List.getElem_toArray, List.getElem_cons_succ, List.getElem_cons_zero, Act.put, List.setIfInBounds_toArray, List.set_cons_zero, List.set_cons_succ]
                    have hgx : wc.heap.size ≤ W_5.heap.size := o.size
                    have hxy : W_5.heap.size ≠ W_2.heap.size := by have := hy.lt; omega
                    refine anyH_world (R := fun W' => (fun w' => w'.cell? ⟨w.heap.size, 0, none⟩ = some (.int .i64 P) ∧ w'.cell? ⟨w.heap.size, 1, none⟩ = some (.int .i64 C) ∧ w'.cell? ⟨w.heap.size, 2, none⟩ = some (.int .i64 M)) W' ∧ Off [] wc W' ∧ Blk W' (W_5.heap.size) 27 #[.int .i64 0, .int .i64 0] ∧ Blk W' (W_2.heap.size) 27 #[.int .i64 0, .int .i64 0]) ⟨hHeld, o.alloc _, (by first | exact Blk.new _ _ _ | exact blk_drewJ (Blk.new _ _ _)), hy.alloc _⟩ ?_
                    clear hHeld o hy
                    rintro W_6 ⟨hHeld, o, hx, hy⟩
                    obtain ⟨f0, x0, x1⟩ := two_cells hx
                    refine wpAnyH_ready (rs := [10]) (by kernel_rfl) (by simp) (AllReadyH.cons rfl (fun K hK => ?_) AllReadyH.nil)
                    go_simp
                    refine hK.out _ _ (HF.out _ ((o.set (.inr hgx) _).set (.inr hgx) _)) (fun hHeld => ?_)
                    clear hK K
                    try simp only [List.getElem_toArray, List.getElem_cons_succ, List.getElem_cons_zero, Act.put, List.setIfInBounds_toArray, List.set_cons_zero, List.set_cons_succ]
                    refine anyH_world (R := fun W' => (fun w' => w'.cell? ⟨w.heap.size, 0, none⟩ = some (.int .i64 P) ∧ w'.cell? ⟨w.heap.size, 1, none⟩ = some (.int .i64 C) ∧ w'.cell? ⟨w.heap.size, 2, none⟩ = some (.int .i64 M)) W' ∧ Off [] wc W' ∧ Blk W' W_5.heap.size 27 #[.int .i64 a0, .int .i64 a1] ∧ Blk W' W_2.heap.size 27 #[.int .i64 0, .int .i64 0]) ⟨hHeld, ((o.set (.inr hgx) _).set (.inr hgx) _), ((hx.set 0 _).set 1 _).to (by simp), (hy.far (Ne.symm hxy) _ _).far (Ne.symm hxy) _ _⟩ ?_
                    clear o hx hy f0 x0 x1 hHeld
                    rintro W_a ⟨hHeld, o, hx, hy⟩
                    obtain ⟨f1, y0, y1⟩ := two_cells hy
                    refine wpAnyH_ready (rs := [11]) (by kernel_rfl) (by simp) (AllReadyH.cons rfl (fun K hK => ?_) AllReadyH.nil)
                    go_simp
                    refine hK.out _ _ (HF.out _ ((o.set (.inr hgy) _).set (.inr hgy) _)) (fun hHeld => ?_)
                    clear hK K
                    try simp only [List.getElem_toArray, List.getElem_cons_succ, List.getElem_cons_zero, Act.put, List.setIfInBounds_toArray, List.set_cons_zero, List.set_cons_succ]
                    refine anyH_world (R := fun W' => Off [] wc W' ∧ Blk W' W_5.heap.size 27 #[.int .i64 a0, .int .i64 a1] ∧ Blk W' W_2.heap.size 27 #[.int .i64 b0, .int .i64 b1]) ⟨((o.set (.inr hgy) _).set (.inr hgy) _), (hx.far hxy _ _).far hxy _ _, ((hy.set 0 _).set 1 _).to (by simp)⟩ ?_
                    clear o hx hy f1 y0 y1 hHeld
                    rintro W_b ⟨o, hx, hy⟩
                    refine wpAnyH_done (by kernel_rfl) ?_ _
                    refine NoPanic.normal ?_
                    go_wp2_with fail
                    go_meet
                    case rel => exact ⟨_, _, rfl, rfl, hx, hy, o⟩
            · as_aux_lemma =>
                go_simp
                refine hK.out _ _ (HF.out _ (o.alloc _)) (fun hHeld => ?_)
                clear hK K
                try simp only [List.getElem_toArray, List.getElem_cons_succ, List.getElem_cons_zero, Act.put, List.setIfInBounds_toArray, List.set_cons_zero, List.set_cons_succ]
                have hgx : wc.heap.size ≤ W_1.heap.size := o.size
                refine anyH_world (R := fun W' => (fun w' => w'.cell? ⟨w.heap.size, 0, none⟩ = some (.int .i64 P) ∧ w'.cell? ⟨w.heap.size, 1, none⟩ = some (.int .i64 C) ∧ w'.cell? ⟨w.heap.size, 2, none⟩ = some (.int .i64 M)) W' ∧ Off [] wc W' ∧ Blk W' (W_1.heap.size) 27 #[.int .i64 0, .int .i64 0]) ⟨hHeld, o.alloc _, (by first | exact Blk.new _ _ _ | exact blk_drewJ (Blk.new _ _ _))⟩ ?_
                clear hHeld o
                rintro W_7 ⟨hHeld, o, hx⟩
                refine wpAnyH_ready (rs := [7, 9]) (by kernel_rfl) (by simp) (AllReadyH.cons rfl (fun K hK => ?_) (AllReadyH.cons rfl (fun K hK => ?_) AllReadyH.nil))
                · as_aux_lemma =>
                    go_simp
                    go_wp2_with ((go_at_call 8; refine (HB.out _ o).mono ?_; rintro e W_8 ⟨rfl, oc⟩))
                    refine hK.out _ _ (HF.out _ (o.trans oc)) (fun hHeld => ?_)
                    clear hK K
                    try simp only [List.getElem_toArray, List.getElem_cons_succ, List.getElem_cons_zero, Act.put, List.setIfInBounds_toArray, List.set_cons_zero, List.set_cons_succ]
                    replace o := o.trans oc
                    replace hx := oc.blk hx (by simp)
                    clear oc
                    refine wpAnyH_ready (rs := [9]) (by kernel_rfl) (by simp) (AllReadyH.cons rfl (fun K hK => ?_) AllReadyH.nil)
                    go_simp
                    refine hK.out _ _ (HF.out _ (o.alloc _)) (fun hHeld => ?_)
                    clear hK K
                    try simp only [List.getElem_toArray, List.getElem_cons_succ, List.getElem_cons_zero, Act.put, List.setIfInBounds_toArray, List.set_cons_zero, List.set_cons_succ]
                    have hgy : wc.heap.size ≤ W_8.heap.size := o.size
                    have hxy : W_1.heap.size ≠ W_8.heap.size := by have := hx.lt; omega
                    refine anyH_world (R := fun W' => (fun w' => w'.cell? ⟨w.heap.size, 0, none⟩ = some (.int .i64 P) ∧ w'.cell? ⟨w.heap.size, 1, none⟩ = some (.int .i64 C) ∧ w'.cell? ⟨w.heap.size, 2, none⟩ = some (.int .i64 M)) W' ∧ Off [] wc W' ∧ Blk W' (W_1.heap.size) 27 #[.int .i64 0, .int .i64 0] ∧ Blk W' (W_8.heap.size) 27 #[.int .i64 0, .int .i64 0]) ⟨hHeld, o.alloc _, hx.alloc _, (by first | exact Blk.new _ _ _ | exact blk_drewJ (Blk.new _ _ _))⟩ ?_
                    clear hHeld o hx
                    rintro W_9 ⟨hHeld, o, hx, hy⟩
                    obtain ⟨f0, x0, x1⟩ := two_cells hx
                    refine wpAnyH_ready (rs := [10]) (by kernel_rfl) (by simp) (AllReadyH.cons rfl (fun K hK => ?_) AllReadyH.nil)
                    go_simp
                    refine hK.out _ _ (HF.out _ ((o.set (.inr hgx) _).set (.inr hgx) _)) (fun hHeld => ?_)
                    clear hK K
                    try simp only [List.getElem_toArray, List.getElem_cons_succ, List.getElem_cons_zero, Act.put, List.setIfInBounds_toArray, List.set_cons_zero, List.set_cons_succ]
                    refine anyH_world (R := fun W' => (fun w' => w'.cell? ⟨w.heap.size, 0, none⟩ = some (.int .i64 P) ∧ w'.cell? ⟨w.heap.size, 1, none⟩ = some (.int .i64 C) ∧ w'.cell? ⟨w.heap.size, 2, none⟩ = some (.int .i64 M)) W' ∧ Off [] wc W' ∧ Blk W' W_1.heap.size 27 #[.int .i64 a0, .int .i64 a1] ∧ Blk W' W_8.heap.size 27 #[.int .i64 0, .int .i64 0]) ⟨hHeld, ((o.set (.inr hgx) _).set (.inr hgx) _), ((hx.set 0 _).set 1 _).to (by simp), (hy.far (Ne.symm hxy) _ _).far (Ne.symm hxy) _ _⟩ ?_
                    clear o hx hy f0 x0 x1 hHeld
                    rintro W_a ⟨hHeld, o, hx, hy⟩
                    obtain ⟨f1, y0, y1⟩ := two_cells hy
                    refine wpAnyH_ready (rs := [11]) (by kernel_rfl) (by simp) (AllReadyH.cons rfl (fun K hK => ?_) AllReadyH.nil)
                    go_simp
                    refine hK.out _ _ (HF.out _ ((o.set (.inr hgy) _).set (.inr hgy) _)) (fun hHeld => ?_)
                    clear hK K
                    try simp only [List.getElem_toArray, List.getElem_cons_succ, List.getElem_cons_zero, Act.put, List.setIfInBounds_toArray, List.set_cons_zero, List.set_cons_succ]
                    refine anyH_world (R := fun W' => Off [] wc W' ∧ Blk W' W_1.heap.size 27 #[.int .i64 a0, .int .i64 a1] ∧ Blk W' W_8.heap.size 27 #[.int .i64 b0, .int .i64 b1]) ⟨((o.set (.inr hgy) _).set (.inr hgy) _), (hx.far hxy _ _).far hxy _ _, ((hy.set 0 _).set 1 _).to (by simp)⟩ ?_
                    clear o hx hy f1 y0 y1 hHeld
                    rintro W_b ⟨o, hx, hy⟩
                    refine wpAnyH_done (by kernel_rfl) ?_ _
                    refine NoPanic.normal ?_
                    go_wp2_with fail
                    go_meet
                    case rel => exact ⟨_, _, rfl, rfl, hx, hy, o⟩
                · as_aux_lemma =>
                    go_simp
                    refine hK.out _ _ (HF.out _ (o.alloc _)) (fun hHeld => ?_)
                    clear hK K
                    try simp only [List.getElem_toArray, List.getElem_cons_succ, List.getElem_cons_zero, Act.put, List.setIfInBounds_toArray, List.set_cons_zero, List.set_cons_succ]
                    have hgy : wc.heap.size ≤ W_7.heap.size := o.size
                    have hxy : W_1.heap.size ≠ W_7.heap.size := by have := hx.lt; omega
                    refine anyH_world (R := fun W' => (fun w' => w'.cell? ⟨w.heap.size, 0, none⟩ = some (.int .i64 P) ∧ w'.cell? ⟨w.heap.size, 1, none⟩ = some (.int .i64 C) ∧ w'.cell? ⟨w.heap.size, 2, none⟩ = some (.int .i64 M)) W' ∧ Off [] wc W' ∧ Blk W' (W_1.heap.size) 27 #[.int .i64 0, .int .i64 0] ∧ Blk W' (W_7.heap.size) 27 #[.int .i64 0, .int .i64 0]) ⟨hHeld, o.alloc _, hx.alloc _, (by first | exact Blk.new _ _ _ | exact blk_drewJ (Blk.new _ _ _))⟩ ?_
                    clear hHeld o hx
                    rintro W_10 ⟨hHeld, o, hx, hy⟩
                    refine wpAnyH_ready (rs := [7]) (by kernel_rfl) (by simp) (AllReadyH.cons rfl (fun K hK => ?_) AllReadyH.nil)
                    go_simp
                    go_wp2_with ((go_at_call 8; refine (HB.out _ o).mono ?_; rintro e W_11 ⟨rfl, oc⟩))
                    refine hK.out _ _ (HF.out _ (o.trans oc)) (fun hHeld => ?_)
                    clear hK K
                    try simp only [List.getElem_toArray, List.getElem_cons_succ, List.getElem_cons_zero, Act.put, List.setIfInBounds_toArray, List.set_cons_zero, List.set_cons_succ]
                    replace o := o.trans oc
                    replace hx := oc.blk hx (by simp)
                    replace hy := oc.blk hy (by simp)
                    clear oc
                    obtain ⟨f0, x0, x1⟩ := two_cells hx
                    refine wpAnyH_ready (rs := [10]) (by kernel_rfl) (by simp) (AllReadyH.cons rfl (fun K hK => ?_) AllReadyH.nil)
                    go_simp
                    refine hK.out _ _ (HF.out _ ((o.set (.inr hgx) _).set (.inr hgx) _)) (fun hHeld => ?_)
                    clear hK K
                    try simp only [List.getElem_toArray, List.getElem_cons_succ, List.getElem_cons_zero, Act.put, List.setIfInBounds_toArray, List.set_cons_zero, List.set_cons_succ]
                    refine anyH_world (R := fun W' => (fun w' => w'.cell? ⟨w.heap.size, 0, none⟩ = some (.int .i64 P) ∧ w'.cell? ⟨w.heap.size, 1, none⟩ = some (.int .i64 C) ∧ w'.cell? ⟨w.heap.size, 2, none⟩ = some (.int .i64 M)) W' ∧ Off [] wc W' ∧ Blk W' W_1.heap.size 27 #[.int .i64 a0, .int .i64 a1] ∧ Blk W' W_7.heap.size 27 #[.int .i64 0, .int .i64 0]) ⟨hHeld, ((o.set (.inr hgx) _).set (.inr hgx) _), ((hx.set 0 _).set 1 _).to (by simp), (hy.far (Ne.symm hxy) _ _).far (Ne.symm hxy) _ _⟩ ?_
                    clear o hx hy f0 x0 x1 hHeld
                    rintro W_a ⟨hHeld, o, hx, hy⟩
                    obtain ⟨f1, y0, y1⟩ := two_cells hy
                    refine wpAnyH_ready (rs := [11]) (by kernel_rfl) (by simp) (AllReadyH.cons rfl (fun K hK => ?_) AllReadyH.nil)
                    go_simp
                    refine hK.out _ _ (HF.out _ ((o.set (.inr hgy) _).set (.inr hgy) _)) (fun hHeld => ?_)
                    clear hK K
                    try simp only [List.getElem_toArray, List.getElem_cons_succ, List.getElem_cons_zero, Act.put, List.setIfInBounds_toArray, List.set_cons_zero, List.set_cons_succ]
                    refine anyH_world (R := fun W' => Off [] wc W' ∧ Blk W' W_1.heap.size 27 #[.int .i64 a0, .int .i64 a1] ∧ Blk W' W_7.heap.size 27 #[.int .i64 b0, .int .i64 b1]) ⟨((o.set (.inr hgy) _).set (.inr hgy) _), (hx.far hxy _ _).far hxy _ _, ((hy.set 0 _).set 1 _).to (by simp)⟩ ?_
                    clear o hx hy f1 y0 y1 hHeld
                    rintro W_b ⟨o, hx, hy⟩
                    refine wpAnyH_done (by kernel_rfl) ?_ _
                    refine NoPanic.normal ?_
                    go_wp2_with fail
                    go_meet
                    case rel => exact ⟨_, _, rfl, rfl, hx, hy, o⟩
            · as_aux_lemma =>
                go_simp
                refine hK.out _ _ (HF.out _ (o.alloc _)) (fun hHeld => ?_)
                clear hK K
                try simp only [List.getElem_toArray, List.getElem_cons_succ, List.getElem_cons_zero, Act.put, List.setIfInBounds_toArray, List.set_cons_zero, List.set_cons_succ]
                have hgy : wc.heap.size ≤ W_1.heap.size := o.size
                refine anyH_world (R := fun W' => (fun w' => w'.cell? ⟨w.heap.size, 0, none⟩ = some (.int .i64 P) ∧ w'.cell? ⟨w.heap.size, 1, none⟩ = some (.int .i64 C) ∧ w'.cell? ⟨w.heap.size, 2, none⟩ = some (.int .i64 M)) W' ∧ Off [] wc W' ∧ Blk W' (W_1.heap.size) 27 #[.int .i64 0, .int .i64 0]) ⟨hHeld, o.alloc _, (by first | exact Blk.new _ _ _ | exact blk_drewJ (Blk.new _ _ _))⟩ ?_
                clear hHeld o
                rintro W_12 ⟨hHeld, o, hy⟩
                refine wpAnyH_ready (rs := [7, 8]) (by kernel_rfl) (by simp) (AllReadyH.cons rfl (fun K hK => ?_) (AllReadyH.cons rfl (fun K hK => ?_) AllReadyH.nil))
                · as_aux_lemma =>
                    go_simp
                    go_wp2_with ((go_at_call 8; refine (HB.out _ o).mono ?_; rintro e W_13 ⟨rfl, oc⟩))
                    refine hK.out _ _ (HF.out _ (o.trans oc)) (fun hHeld => ?_)
                    clear hK K
                    try simp only [List.getElem_toArray, List.getElem_cons_succ, List.getElem_cons_zero, Act.put, List.setIfInBounds_toArray, List.set_cons_zero, List.set_cons_succ]
                    replace o := o.trans oc
                    replace hy := oc.blk hy (by simp)
                    clear oc
                    refine wpAnyH_ready (rs := [8]) (by kernel_rfl) (by simp) (AllReadyH.cons rfl (fun K hK => ?_) AllReadyH.nil)
                    go_simp
                    refine hK.out _ _ (HF.out _ (o.alloc _)) (fun hHeld => ?_)
                    clear hK K
                    try simp only [List.getElem_toArray, List.getElem_cons_succ, List.getElem_cons_zero, Act.put, List.setIfInBounds_toArray, List.set_cons_zero, List.set_cons_succ]
                    have hgx : wc.heap.size ≤ W_13.heap.size := o.size
                    have hxy : W_13.heap.size ≠ W_1.heap.size := by have := hy.lt; omega
                    refine anyH_world (R := fun W' => (fun w' => w'.cell? ⟨w.heap.size, 0, none⟩ = some (.int .i64 P) ∧ w'.cell? ⟨w.heap.size, 1, none⟩ = some (.int .i64 C) ∧ w'.cell? ⟨w.heap.size, 2, none⟩ = some (.int .i64 M)) W' ∧ Off [] wc W' ∧ Blk W' (W_13.heap.size) 27 #[.int .i64 0, .int .i64 0] ∧ Blk W' (W_1.heap.size) 27 #[.int .i64 0, .int .i64 0]) ⟨hHeld, o.alloc _, (by first | exact Blk.new _ _ _ | exact blk_drewJ (Blk.new _ _ _)), hy.alloc _⟩ ?_
                    clear hHeld o hy
                    rintro W_14 ⟨hHeld, o, hx, hy⟩
                    obtain ⟨f0, x0, x1⟩ := two_cells hx
                    refine wpAnyH_ready (rs := [10]) (by kernel_rfl) (by simp) (AllReadyH.cons rfl (fun K hK => ?_) AllReadyH.nil)
                    go_simp
                    refine hK.out _ _ (HF.out _ ((o.set (.inr hgx) _).set (.inr hgx) _)) (fun hHeld => ?_)
                    clear hK K
                    try simp only [List.getElem_toArray, List.getElem_cons_succ, List.getElem_cons_zero, Act.put, List.setIfInBounds_toArray, List.set_cons_zero, List.set_cons_succ]
                    refine anyH_world (R := fun W' => (fun w' => w'.cell? ⟨w.heap.size, 0, none⟩ = some (.int .i64 P) ∧ w'.cell? ⟨w.heap.size, 1, none⟩ = some (.int .i64 C) ∧ w'.cell? ⟨w.heap.size, 2, none⟩ = some (.int .i64 M)) W' ∧ Off [] wc W' ∧ Blk W' W_13.heap.size 27 #[.int .i64 a0, .int .i64 a1] ∧ Blk W' W_1.heap.size 27 #[.int .i64 0, .int .i64 0]) ⟨hHeld, ((o.set (.inr hgx) _).set (.inr hgx) _), ((hx.set 0 _).set 1 _).to (by simp), (hy.far (Ne.symm hxy) _ _).far (Ne.symm hxy) _ _⟩ ?_
                    clear o hx hy f0 x0 x1 hHeld
                    rintro W_a ⟨hHeld, o, hx, hy⟩
                    obtain ⟨f1, y0, y1⟩ := two_cells hy
                    refine wpAnyH_ready (rs := [11]) (by kernel_rfl) (by simp) (AllReadyH.cons rfl (fun K hK => ?_) AllReadyH.nil)
                    go_simp
                    refine hK.out _ _ (HF.out _ ((o.set (.inr hgy) _).set (.inr hgy) _)) (fun hHeld => ?_)
                    clear hK K
                    try simp only [List.getElem_toArray, List.getElem_cons_succ, List.getElem_cons_zero, Act.put, List.setIfInBounds_toArray, List.set_cons_zero, List.set_cons_succ]
                    refine anyH_world (R := fun W' => Off [] wc W' ∧ Blk W' W_13.heap.size 27 #[.int .i64 a0, .int .i64 a1] ∧ Blk W' W_1.heap.size 27 #[.int .i64 b0, .int .i64 b1]) ⟨((o.set (.inr hgy) _).set (.inr hgy) _), (hx.far hxy _ _).far hxy _ _, ((hy.set 0 _).set 1 _).to (by simp)⟩ ?_
                    clear o hx hy f1 y0 y1 hHeld
                    rintro W_b ⟨o, hx, hy⟩
                    refine wpAnyH_done (by kernel_rfl) ?_ _
                    refine NoPanic.normal ?_
                    go_wp2_with fail
                    go_meet
                    case rel => exact ⟨_, _, rfl, rfl, hx, hy, o⟩
                · as_aux_lemma =>
                    go_simp
                    refine hK.out _ _ (HF.out _ (o.alloc _)) (fun hHeld => ?_)
                    clear hK K
                    try simp only [List.getElem_toArray, List.getElem_cons_succ, List.getElem_cons_zero, Act.put, List.setIfInBounds_toArray, List.set_cons_zero, List.set_cons_succ]
                    have hgx : wc.heap.size ≤ W_12.heap.size := o.size
                    have hxy : W_12.heap.size ≠ W_1.heap.size := by have := hy.lt; omega
                    refine anyH_world (R := fun W' => (fun w' => w'.cell? ⟨w.heap.size, 0, none⟩ = some (.int .i64 P) ∧ w'.cell? ⟨w.heap.size, 1, none⟩ = some (.int .i64 C) ∧ w'.cell? ⟨w.heap.size, 2, none⟩ = some (.int .i64 M)) W' ∧ Off [] wc W' ∧ Blk W' (W_12.heap.size) 27 #[.int .i64 0, .int .i64 0] ∧ Blk W' (W_1.heap.size) 27 #[.int .i64 0, .int .i64 0]) ⟨hHeld, o.alloc _, (by first | exact Blk.new _ _ _ | exact blk_drewJ (Blk.new _ _ _)), hy.alloc _⟩ ?_
                    clear hHeld o hy
                    rintro W_15 ⟨hHeld, o, hx, hy⟩
                    refine wpAnyH_ready (rs := [7]) (by kernel_rfl) (by simp) (AllReadyH.cons rfl (fun K hK => ?_) AllReadyH.nil)
                    go_simp
                    go_wp2_with ((go_at_call 8; refine (HB.out _ o).mono ?_; rintro e W_16 ⟨rfl, oc⟩))
                    refine hK.out _ _ (HF.out _ (o.trans oc)) (fun hHeld => ?_)
                    clear hK K
                    try simp only [List.getElem_toArray, List.getElem_cons_succ, List.getElem_cons_zero, Act.put, List.setIfInBounds_toArray, List.set_cons_zero, List.set_cons_succ]
                    replace o := o.trans oc
                    replace hx := oc.blk hx (by simp)
                    replace hy := oc.blk hy (by simp)
                    clear oc
                    obtain ⟨f0, x0, x1⟩ := two_cells hx
                    refine wpAnyH_ready (rs := [10]) (by kernel_rfl) (by simp) (AllReadyH.cons rfl (fun K hK => ?_) AllReadyH.nil)
                    go_simp
                    refine hK.out _ _ (HF.out _ ((o.set (.inr hgx) _).set (.inr hgx) _)) (fun hHeld => ?_)
                    clear hK K
                    try simp only [List.getElem_toArray, List.getElem_cons_succ, List.getElem_cons_zero, Act.put, List.setIfInBounds_toArray, List.set_cons_zero, List.set_cons_succ]
                    refine anyH_world (R := fun W' => (fun w' => w'.cell? ⟨w.heap.size, 0, none⟩ = some (.int .i64 P) ∧ w'.cell? ⟨w.heap.size, 1, none⟩ = some (.int .i64 C) ∧ w'.cell? ⟨w.heap.size, 2, none⟩ = some (.int .i64 M)) W' ∧ Off [] wc W' ∧ Blk W' W_12.heap.size 27 #[.int .i64 a0, .int .i64 a1] ∧ Blk W' W_1.heap.size 27 #[.int .i64 0, .int .i64 0]) ⟨hHeld, ((o.set (.inr hgx) _).set (.inr hgx) _), ((hx.set 0 _).set 1 _).to (by simp), (hy.far (Ne.symm hxy) _ _).far (Ne.symm hxy) _ _⟩ ?_
                    clear o hx hy f0 x0 x1 hHeld
                    rintro W_a ⟨hHeld, o, hx, hy⟩
                    obtain ⟨f1, y0, y1⟩ := two_cells hy
                    refine wpAnyH_ready (rs := [11]) (by kernel_rfl) (by simp) (AllReadyH.cons rfl (fun K hK => ?_) AllReadyH.nil)
                    go_simp
                    refine hK.out _ _ (HF.out _ ((o.set (.inr hgy) _).set (.inr hgy) _)) (fun hHeld => ?_)
                    clear hK K
                    try simp only [List.getElem_toArray, List.getElem_cons_succ, List.getElem_cons_zero, Act.put, List.setIfInBounds_toArray, List.set_cons_zero, List.set_cons_succ]
                    refine anyH_world (R := fun W' => Off [] wc W' ∧ Blk W' W_12.heap.size 27 #[.int .i64 a0, .int .i64 a1] ∧ Blk W' W_1.heap.size 27 #[.int .i64 b0, .int .i64 b1]) ⟨((o.set (.inr hgy) _).set (.inr hgy) _), (hx.far hxy _ _).far hxy _ _, ((hy.set 0 _).set 1 _).to (by simp)⟩ ?_
                    clear o hx hy f1 y0 y1 hHeld
                    rintro W_b ⟨o, hx, hy⟩
                    refine wpAnyH_done (by kernel_rfl) ?_ _
                    refine NoPanic.normal ?_
                    go_wp2_with fail
                    go_meet
                    case rel => exact ⟨_, _, rfl, rfl, hx, hy, o⟩
        · as_aux_lemma =>
            go_simp
            refine hK.out _ _ (HF.out _ (o.alloc _)) (fun hHeld => ?_)
            clear hK K
            try simp only [List.getElem_toArray, List.getElem_cons_succ, List.getElem_cons_zero, Act.put, List.setIfInBounds_toArray, List.set_cons_zero, List.set_cons_succ]
            have hgx : wc.heap.size ≤ wc.heap.size := o.size
            refine anyH_world (R := fun W' => (fun w' => w'.cell? ⟨w.heap.size, 0, none⟩ = some (.int .i64 P) ∧ w'.cell? ⟨w.heap.size, 1, none⟩ = some (.int .i64 C) ∧ w'.cell? ⟨w.heap.size, 2, none⟩ = some (.int .i64 M)) W' ∧ Off [] wc W' ∧ Blk W' (wc.heap.size) 27 #[.int .i64 0, .int .i64 0]) ⟨hHeld, o.alloc _, (by first | exact Blk.new _ _ _ | exact blk_drewJ (Blk.new _ _ _))⟩ ?_
            clear hHeld o
            rintro W_17 ⟨hHeld, o, hx⟩
            refine wpAnyH_ready (rs := [2, 9]) (by kernel_rfl) (by simp) (AllReadyH.cons rfl (fun K hK => ?_) (AllReadyH.cons rfl (fun K hK => ?_) AllReadyH.nil))
            · as_aux_lemma =>
                go_simp
                go_wp2_with ((go_at_call 8; refine (HA.out _ o).mono ?_; rintro e W_18 ⟨rfl, oc⟩))
                refine hK.out _ _ (HF.out _ (o.trans oc)) (fun hHeld => ?_)
                clear hK K
                try simp only [List.getElem_toArray, List.getElem_cons_succ, List.getElem_cons_zero, Act.put, List.setIfInBounds_toArray, List.set_cons_zero, List.set_cons_succ]
                replace o := o.trans oc
                replace hx := oc.blk hx (by simp)
                clear oc
                refine wpAnyH_ready (rs := [7, 9]) (by kernel_rfl) (by simp) (AllReadyH.cons rfl (fun K hK => ?_) (AllReadyH.cons rfl (fun K hK => ?_) AllReadyH.nil))
                · as_aux_lemma =>
                    go_simp
                    go_wp2_with ((go_at_call 8; refine (HB.out _ o).mono ?_; rintro e W_19 ⟨rfl, oc⟩))
                    refine hK.out _ _ (HF.out _ (o.trans oc)) (fun hHeld => ?_)
                    clear hK K
                    try simp only [List.getElem_toArray, List.getElem_cons_succ, List.getElem_cons_zero, Act.put, List.setIfInBounds_toArray, List.set_cons_zero, List.set_cons_succ]
                    replace o := o.trans oc
                    replace hx := oc.blk hx (by simp)
                    clear oc
                    refine wpAnyH_ready (rs := [9]) (by kernel_rfl) (by simp) (AllReadyH.cons rfl (fun K hK => ?_) AllReadyH.nil)
                    go_simp
                    refine hK.out _ _ (HF.out _ (o.alloc _)) (fun hHeld => ?_)
                    clear hK K
                    try simp only [List.getElem_toArray, List.getElem_cons_succ, List.getElem_cons_zero, Act.put, List.setIfInBounds_toArray, List.set_cons_zero, List.set_cons_succ]
                    have hgy : wc.heap.size ≤ W_19.heap.size := o.size
                    have hxy : wc.heap.size ≠ W_19.heap.size := by have := hx.lt; omega
                    refine anyH_world (R := fun W' => (fun w' => w'.cell? ⟨w.heap.size, 0, none⟩ = some (.int .i64 P) ∧ w'.cell? ⟨w.heap.size, 1, none⟩ = some (.int .i64 C) ∧ w'.cell? ⟨w.heap.size, 2, none⟩ = some (.int .i64 M)) W' ∧ Off [] wc W' ∧ Blk W' (wc.heap.size) 27 #[.int .i64 0, .int .i64 0] ∧ Blk W' (W_19.heap.size) 27 #[.int .i64 0, .int .i64 0]) ⟨hHeld, o.alloc _, hx.alloc _, (by first | exact Blk.new _ _ _ | exact blk_drewJ (Blk.new _ _ _))⟩ ?_
                    clear hHeld o hx
                    rintro W_20 ⟨hHeld, o, hx, hy⟩
                    obtain ⟨f0, x0, x1⟩ := two_cells hx
                    refine wpAnyH_ready (rs := [10]) (by kernel_rfl) (by simp) (AllReadyH.cons rfl (fun K hK => ?_) AllReadyH.nil)
                    go_simp
                    refine hK.out _ _ (HF.out _ ((o.set (.inr hgx) _).set (.inr hgx) _)) (fun hHeld => ?_)
                    clear hK K
                    try simp only [List.getElem_toArray, List.getElem_cons_succ, List.getElem_cons_zero, Act.put, List.setIfInBounds_toArray, List.set_cons_zero, List.set_cons_succ]
                    refine anyH_world (R := fun W' => (fun w' => w'.cell? ⟨w.heap.size, 0, none⟩ = some (.int .i64 P) ∧ w'.cell? ⟨w.heap.size, 1, none⟩ = some (.int .i64 C) ∧ w'.cell? ⟨w.heap.size, 2, none⟩ = some (.int .i64 M)) W' ∧ Off [] wc W' ∧ Blk W' wc.heap.size 27 #[.int .i64 a0, .int .i64 a1] ∧ Blk W' W_19.heap.size 27 #[.int .i64 0, .int .i64 0]) ⟨hHeld, ((o.set (.inr hgx) _).set (.inr hgx) _), ((hx.set 0 _).set 1 _).to (by simp), (hy.far (Ne.symm hxy) _ _).far (Ne.symm hxy) _ _⟩ ?_
                    clear o hx hy f0 x0 x1 hHeld
                    rintro W_a ⟨hHeld, o, hx, hy⟩
                    obtain ⟨f1, y0, y1⟩ := two_cells hy
                    refine wpAnyH_ready (rs := [11]) (by kernel_rfl) (by simp) (AllReadyH.cons rfl (fun K hK => ?_) AllReadyH.nil)
                    go_simp
                    refine hK.out _ _ (HF.out _ ((o.set (.inr hgy) _).set (.inr hgy) _)) (fun hHeld => ?_)
                    clear hK K
                    try simp only [List.getElem_toArray, List.getElem_cons_succ, List.getElem_cons_zero, Act.put, List.setIfInBounds_toArray, List.set_cons_zero, List.set_cons_succ]
                    refine anyH_world (R := fun W' => Off [] wc W' ∧ Blk W' wc.heap.size 27 #[.int .i64 a0, .int .i64 a1] ∧ Blk W' W_19.heap.size 27 #[.int .i64 b0, .int .i64 b1]) ⟨((o.set (.inr hgy) _).set (.inr hgy) _), (hx.far hxy _ _).far hxy _ _, ((hy.set 0 _).set 1 _).to (by simp)⟩ ?_
                    clear o hx hy f1 y0 y1 hHeld
                    rintro W_b ⟨o, hx, hy⟩
                    refine wpAnyH_done (by kernel_rfl) ?_ _
                    refine NoPanic.normal ?_
                    go_wp2_with fail
                    go_meet
                    case rel => exact ⟨_, _, rfl, rfl, hx, hy, o⟩
                · as_aux_lemma =>
                    go_simp
                    refine hK.out _ _ (HF.out _ (o.alloc _)) (fun hHeld => ?_)
                    clear hK K
                    try simp only [List.getElem_toArray, List.getElem_cons_succ, List.getElem_cons_zero, Act.put, List.setIfInBounds_toArray, List.set_cons_zero, List.set_cons_succ]
                    have hgy : wc.heap.size ≤ W_18.heap.size := o.size
                    have hxy : wc.heap.size ≠ W_18.heap.size := by have := hx.lt; omega
                    refine anyH_world (R := fun W' => (fun w' => w'.cell? ⟨w.heap.size, 0, none⟩ = some (.int .i64 P) ∧ w'.cell? ⟨w.heap.size, 1, none⟩ = some (.int .i64 C) ∧ w'.cell? ⟨w.heap.size, 2, none⟩ = some (.int .i64 M)) W' ∧ Off [] wc W' ∧ Blk W' (wc.heap.size) 27 #[.int .i64 0, .int .i64 0] ∧ Blk W' (W_18.heap.size) 27 #[.int .i64 0, .int .i64 0]) ⟨hHeld, o.alloc _, hx.alloc _, (by first | exact Blk.new _ _ _ | exact blk_drewJ (Blk.new _ _ _))⟩ ?_
                    clear hHeld o hx
                    rintro W_21 ⟨hHeld, o, hx, hy⟩
                    refine wpAnyH_ready (rs := [7]) (by kernel_rfl) (by simp) (AllReadyH.cons rfl (fun K hK => ?_) AllReadyH.nil)
                    go_simp
                    go_wp2_with ((go_at_call 8; refine (HB.out _ o).mono ?_; rintro e W_22 ⟨rfl, oc⟩))
                    refine hK.out _ _ (HF.out _ (o.trans oc)) (fun hHeld => ?_)
                    clear hK K
                    try simp only [List.getElem_toArray, List.getElem_cons_succ, List.getElem_cons_zero, Act.put, List.setIfInBounds_toArray, List.set_cons_zero, List.set_cons_succ]
                    replace o := o.trans oc
                    replace hx := oc.blk hx (by simp)
                    replace hy := oc.blk hy (by simp)
                    clear oc
                    obtain ⟨f0, x0, x1⟩ := two_cells hx
                    refine wpAnyH_ready (rs := [10]) (by kernel_rfl) (by simp) (AllReadyH.cons rfl (fun K hK => ?_) AllReadyH.nil)
                    go_simp
                    refine hK.out _ _ (HF.out _ ((o.set (.inr hgx) _).set (.inr hgx) _)) (fun hHeld => ?_)
                    clear hK K
                    try simp only [List.getElem_toArray, List.getElem_cons_succ, List.getElem_cons_zero, Act.put, List.setIfInBounds_toArray, List.set_cons_zero, List.set_cons_succ]
                    refine anyH_world (R := fun W' => (fun w' => w'.cell? ⟨w.heap.size, 0, none⟩ = some (.int .i64 P) ∧ w'.cell? ⟨w.heap.size, 1, none⟩ = some (.int .i64 C) ∧ w'.cell? ⟨w.heap.size, 2, none⟩ = some (.int .i64 M)) W' ∧ Off [] wc W' ∧ Blk W' wc.heap.size 27 #[.int .i64 a0, .int .i64 a1] ∧ Blk W' W_18.heap.size 27 #[.int .i64 0, .int .i64 0]) ⟨hHeld, ((o.set (.inr hgx) _).set (.inr hgx) _), ((hx.set 0 _).set 1 _).to (by simp), (hy.far (Ne.symm hxy) _ _).far (Ne.symm hxy) _ _⟩ ?_
                    clear o hx hy f0 x0 x1 hHeld
                    rintro W_a ⟨hHeld, o, hx, hy⟩
                    obtain ⟨f1, y0, y1⟩ := two_cells hy
                    refine wpAnyH_ready (rs := [11]) (by kernel_rfl) (by simp) (AllReadyH.cons rfl (fun K hK => ?_) AllReadyH.nil)
                    go_simp
                    refine hK.out _ _ (HF.out _ ((o.set (.inr hgy) _).set (.inr hgy) _)) (fun hHeld => ?_)
                    clear hK K
                    try simp only [List.getElem_toArray, List.getElem_cons_succ, List.getElem_cons_zero, Act.put, List.setIfInBounds_toArray, List.set_cons_zero, List.set_cons_succ]
                    refine anyH_world (R := fun W' => Off [] wc W' ∧ Blk W' wc.heap.size 27 #[.int .i64 a0, .int .i64 a1] ∧ Blk W' W_18.heap.size 27 #[.int .i64 b0, .int .i64 b1]) ⟨((o.set (.inr hgy) _).set (.inr hgy) _), (hx.far hxy _ _).far hxy _ _, ((hy.set 0 _).set 1 _).to (by simp)⟩ ?_
                    clear o hx hy f1 y0 y1 hHeld
                    rintro W_b ⟨o, hx, hy⟩
                    refine wpAnyH_done (by kernel_rfl) ?_ _
                    refine NoPanic.normal ?_
                    go_wp2_with fail
                    go_meet
                    case rel => exact ⟨_, _, rfl, rfl, hx, hy, o⟩
            · as_aux_lemma =>
                go_simp
                refine hK.out _ _ (HF.out _ (o.alloc _)) (fun hHeld => ?_)
                clear hK K
                try simp only [List.getElem_toArray, List.getElem_cons_succ, List.getElem_cons_zero, Act.put, List.setIfInBounds_toArray, List.set_cons_zero, List.set_cons_succ]
                have hgy : wc.heap.size ≤ W_17.heap.size := o.size
                have hxy : wc.heap.size ≠ W_17.heap.size := by have := hx.lt; omega
                refine anyH_world (R := fun W' => (fun w' => w'.cell? ⟨w.heap.size, 0, none⟩ = some (.int .i64 P) ∧ w'.cell? ⟨w.heap.size, 1, none⟩ = some (.int .i64 C) ∧ w'.cell? ⟨w.heap.size, 2, none⟩ = some (.int .i64 M)) W' ∧ Off [] wc W' ∧ Blk W' (wc.heap.size) 27 #[.int .i64 0, .int .i64 0] ∧ Blk W' (W_17.heap.size) 27 #[.int .i64 0, .int .i64 0]) ⟨hHeld, o.alloc _, hx.alloc _, (by first | exact Blk.new _ _ _ | exact blk_drewJ (Blk.new _ _ _))⟩ ?_
                clear hHeld o hx
                rintro W_23 ⟨hHeld, o, hx, hy⟩
                refine wpAnyH_ready (rs := [2]) (by kernel_rfl) (by simp) (AllReadyH.cons rfl (fun K hK => ?_) AllReadyH.nil)
                go_simp
                go_wp2_with ((go_at_call 8; refine (HA.out _ o).mono ?_; rintro e W_24 ⟨rfl, oc⟩))
                refine hK.out _ _ (HF.out _ (o.trans oc)) (fun hHeld => ?_)
                clear hK K
                try simp only [List.getElem_toArray, List.getElem_cons_succ, List.getElem_cons_zero, Act.put, List.setIfInBounds_toArray, List.set_cons_zero, List.set_cons_succ]
                replace o := o.trans oc
                replace hx := oc.blk hx (by simp)
                replace hy := oc.blk hy (by simp)
                clear oc
                refine wpAnyH_ready (rs := [7]) (by kernel_rfl) (by simp) (AllReadyH.cons rfl (fun K hK => ?_) AllReadyH.nil)
                go_simp
                go_wp2_with ((go_at_call 8; refine (HB.out _ o).mono ?_; rintro e W_25 ⟨rfl, oc⟩))
                refine hK.out _ _ (HF.out _ (o.trans oc)) (fun hHeld => ?_)
                clear hK K
                try simp only [List.getElem_toArray, List.getElem_cons_succ, List.getElem_cons_zero, Act.put, List.setIfInBounds_toArray, List.set_cons_zero, List.set_cons_succ]
                replace o := o.trans oc
                replace hx := oc.blk hx (by simp)
                replace hy := oc.blk hy (by simp)
                clear oc
                obtain ⟨f0, x0, x1⟩ := two_cells hx
                refine wpAnyH_ready (rs := [10]) (by kernel_rfl) (by simp) (AllReadyH.cons rfl (fun K hK => ?_) AllReadyH.nil)
                go_simp
                refine hK.out _ _ (HF.out _ ((o.set (.inr hgx) _).set (.inr hgx) _)) (fun hHeld => ?_)
                clear hK K
                try simp only [List.getElem_toArray, List.getElem_cons_succ, List.getElem_cons_zero, Act.put, List.setIfInBounds_toArray, List.set_cons_zero, List.set_cons_succ]
                refine anyH_world (R := fun W' => (fun w' => w'.cell? ⟨w.heap.size, 0, none⟩ = some (.int .i64 P) ∧ w'.cell? ⟨w.heap.size, 1, none⟩ = some (.int .i64 C) ∧ w'.cell? ⟨w.heap.size, 2, none⟩ = some (.int .i64 M)) W' ∧ Off [] wc W' ∧ Blk W' wc.heap.size 27 #[.int .i64 a0, .int .i64 a1] ∧ Blk W' W_17.heap.size 27 #[.int .i64 0, .int .i64 0]) ⟨hHeld, ((o.set (.inr hgx) _).set (.inr hgx) _), ((hx.set 0 _).set 1 _).to (by simp), (hy.far (Ne.symm hxy) _ _).far (Ne.symm hxy) _ _⟩ ?_
                clear o hx hy f0 x0 x1 hHeld
                rintro W_a ⟨hHeld, o, hx, hy⟩
                obtain ⟨f1, y0, y1⟩ := two_cells hy
                refine wpAnyH_ready (rs := [11]) (by kernel_rfl) (by simp) (AllReadyH.cons rfl (fun K hK => ?_) AllReadyH.nil)
                go_simp
                refine hK.out _ _ (HF.out _ ((o.set (.inr hgy) _).set (.inr hgy) _)) (fun hHeld => ?_)
                clear hK K
                try simp only [List.getElem_toArray, List.getElem_cons_succ, List.getElem_cons_zero, Act.put, List.setIfInBounds_toArray, List.set_cons_zero, List.set_cons_succ]
                refine anyH_world (R := fun W' => Off [] wc W' ∧ Blk W' wc.heap.size 27 #[.int .i64 a0, .int .i64 a1] ∧ Blk W' W_17.heap.size 27 #[.int .i64 b0, .int .i64 b1]) ⟨((o.set (.inr hgy) _).set (.inr hgy) _), (hx.far hxy _ _).far hxy _ _, ((hy.set 0 _).set 1 _).to (by simp)⟩ ?_
                clear o hx hy f1 y0 y1 hHeld
                rintro W_b ⟨o, hx, hy⟩
                refine wpAnyH_done (by kernel_rfl) ?_ _
                refine NoPanic.normal ?_
                go_wp2_with fail
                go_meet
                case rel => exact ⟨_, _, rfl, rfl, hx, hy, o⟩
        · as_aux_lemma =>
            go_simp
            refine hK.out _ _ (HF.out _ (o.alloc _)) (fun hHeld => ?_)
            clear hK K
            try simp only [List.getElem_toArray, List.getElem_cons_succ, List.getElem_cons_zero, Act.put, List.setIfInBounds_toArray, List.set_cons_zero, List.set_cons_succ]
            have hgy : wc.heap.size ≤ wc.heap.size := o.size
            refine anyH_world (R := fun W' => (fun w' => w'.cell? ⟨w.heap.size, 0, none⟩ = some (.int .i64 P) ∧ w'.cell? ⟨w.heap.size, 1, none⟩ = some (.int .i64 C) ∧ w'.cell? ⟨w.heap.size, 2, none⟩ = some (.int .i64 M)) W' ∧ Off [] wc W' ∧ Blk W' (wc.heap.size) 27 #[.int .i64 0, .int .i64 0]) ⟨hHeld, o.alloc _, (by first | exact Blk.new _ _ _ | exact blk_drewJ (Blk.new _ _ _))⟩ ?_
            clear hHeld o
            rintro W_26 ⟨hHeld, o, hy⟩
            refine wpAnyH_ready (rs := [2, 8]) (by kernel_rfl) (by simp) (AllReadyH.cons rfl (fun K hK => ?_) (AllReadyH.cons rfl (fun K hK => ?_) AllReadyH.nil))
            · as_aux_lemma =>
                go_simp
                go_wp2_with ((go_at_call 8; refine (HA.out _ o).mono ?_; rintro e W_27 ⟨rfl, oc⟩))
                refine hK.out _ _ (HF.out _ (o.trans oc)) (fun hHeld => ?_)
                clear hK K
                try simp only [List.getElem_toArray, List.getElem_cons_succ, List.getElem_cons_zero, Act.put, List.setIfInBounds_toArray, List.set_cons_zero, List.set_cons_succ]
                replace o := o.trans oc
                replace hy := oc.blk hy (by simp)
                clear oc
                refine wpAnyH_ready (rs := [7, 8]) (by kernel_rfl) (by simp) (AllReadyH.cons rfl (fun K hK => ?_) (AllReadyH.cons rfl (fun K hK => ?_) AllReadyH.nil))
                · as_aux_lemma =>
                    go_simp
                    go_wp2_with ((go_at_call 8; refine (HB.out _ o).mono ?_; rintro e W_28 ⟨rfl, oc⟩))
                    refine hK.out _ _ (HF.out _ (o.trans oc)) (fun hHeld => ?_)
                    clear hK K
                    try simp only [List.getElem_toArray, List.getElem_cons_succ, List.getElem_cons_zero, Act.put, List.setIfInBounds_toArray, List.set_cons_zero, List.set_cons_succ]
                    replace o := o.trans oc
                    replace hy := oc.blk hy (by simp)
                    clear oc
                    refine wpAnyH_ready (rs := [8]) (by kernel_rfl) (by simp) (AllReadyH.cons rfl (fun K hK => ?_) AllReadyH.nil)
                    go_simp
                    refine hK.out _ _ (HF.out _ (o.alloc _)) (fun hHeld => ?_)
                    clear hK K
                    try simp only [List.getElem_toArray, List.getElem_cons_succ, List.getElem_cons_zero, Act.put, List.setIfInBounds_toArray, List.set_cons_zero, List.set_cons_succ]
                    have hgx : wc.heap.size ≤ W_28.heap.size := o.size
                    have hxy : W_28.heap.size ≠ wc.heap.size := by have := hy.lt; omega
                    refine anyH_world (R := fun W' => (fun w' => w'.cell? ⟨w.heap.size, 0, none⟩ = some (.int .i64 P) ∧ w'.cell? ⟨w.heap.size, 1, none⟩ = some (.int .i64 C) ∧ w'.cell? ⟨w.heap.size, 2, none⟩ = some (.int .i64 M)) W' ∧ Off [] wc W' ∧ Blk W' (W_28.heap.size) 27 #[.int .i64 0, .int .i64 0] ∧ Blk W' (wc.heap.size) 27 #[.int .i64 0, .int .i64 0]) ⟨hHeld, o.alloc _, (by first | exact Blk.new _ _ _ | exact blk_drewJ (Blk.new _ _ _)), hy.alloc _⟩ ?_
                    clear hHeld o hy
                    rintro W_29 ⟨hHeld, o, hx, hy⟩
                    obtain ⟨f0, x0, x1⟩ := two_cells hx
                    refine wpAnyH_ready (rs := [10]) (by kernel_rfl) (by simp) (AllReadyH.cons rfl (fun K hK => ?_) AllReadyH.nil)
                    go_simp
                    refine hK.out _ _ (HF.out _ ((o.set (.inr hgx) _).set (.inr hgx) _)) (fun hHeld => ?_)
                    clear hK K
                    try simp only [List.getElem_toArray, List.getElem_cons_succ, List.getElem_cons_zero, Act.put, List.setIfInBounds_toArray, List.set_cons_zero, List.set_cons_succ]
                    refine anyH_world (R := fun W' => (fun w' => w'.cell? ⟨w.heap.size, 0, none⟩ = some (.int .i64 P) ∧ w'.cell? ⟨w.heap.size, 1, none⟩ = some (.int .i64 C) ∧ w'.cell? ⟨w.heap.size, 2, none⟩ = some (.int .i64 M)) W' ∧ Off [] wc W' ∧ Blk W' W_28.heap.size 27 #[.int .i64 a0, .int .i64 a1] ∧ Blk W' wc.heap.size 27 #[.int .i64 0, .int .i64 0]) ⟨hHeld, ((o.set (.inr hgx) _).set (.inr hgx) _), ((hx.set 0 _).set 1 _).to (by simp), (hy.far (Ne.symm hxy) _ _).far (Ne.symm hxy) _ _⟩ ?_
                    clear o hx hy f0 x0 x1 hHeld
                    rintro W_a ⟨hHeld, o, hx, hy⟩
                    obtain ⟨f1, y0, y1⟩ := two_cells hy
                    refine wpAnyH_ready (rs := [11]) (by kernel_rfl) (by simp) (AllReadyH.cons rfl (fun K hK => ?_) AllReadyH.nil)
                    go_simp
                    refine hK.out _ _ (HF.out _ ((o.set (.inr hgy) _).set (.inr hgy) _)) (fun hHeld => ?_)
                    clear hK K
                    try simp only [List.getElem_toArray, List.getElem_cons_succ, List.getElem_cons_zero, Act.put, List.setIfInBounds_toArray, List.set_cons_zero, List.set_cons_succ]
                    refine anyH_world (R := fun W' => Off [] wc W' ∧ Blk W' W_28.heap.size 27 #[.int .i64 a0, .int .i64 a1] ∧ Blk W' wc.heap.size 27 #[.int .i64 b0, .int .i64 b1]) ⟨((o.set (.inr hgy) _).set (.inr hgy) _), (hx.far hxy _ _).far hxy _ _, ((hy.set 0 _).set 1 _).to (by simp)⟩ ?_
                    clear o hx hy f1 y0 y1 hHeld
                    rintro W_b ⟨o, hx, hy⟩
                    refine wpAnyH_done (by kernel_rfl) ?_ _
                    refine NoPanic.normal ?_
                    go_wp2_with fail
                    go_meet
                    case rel => exact ⟨_, _, rfl, rfl, hx, hy, o⟩
                · as_aux_lemma =>
                    go_simp
                    refine hK.out _ _ (HF.out _ (o.alloc _)) (fun hHeld => ?_)
                    clear hK K
                    try simp only [List.getElem_toArray, List.getElem_cons_succ, List.getElem_cons_zero, Act.put, List.setIfInBounds_toArray, List.set_cons_zero, List.set_cons_succ]
                    have hgx : wc.heap.size ≤ W_27.heap.size := o.size
                    have hxy : W_27.heap.size ≠ wc.heap.size := by have := hy.lt; omega
                    refine anyH_world (R := fun W' => (fun w' => w'.cell? ⟨w.heap.size, 0, none⟩ = some (.int .i64 P) ∧ w'.cell? ⟨w.heap.size, 1, none⟩ = some (.int .i64 C) ∧ w'.cell? ⟨w.heap.size, 2, none⟩ = some (.int .i64 M)) W' ∧ Off [] wc W' ∧ Blk W' (W_27.heap.size) 27 #[.int .i64 0, .int .i64 0] ∧ Blk W' (wc.heap.size) 27 #[.int .i64 0, .int .i64 0]) ⟨hHeld, o.alloc _, (by first | exact Blk.new _ _ _ | exact blk_drewJ (Blk.new _ _ _)), hy.alloc _⟩ ?_
                    clear hHeld o hy
                    rintro W_30 ⟨hHeld, o, hx, hy⟩
                    refine wpAnyH_ready (rs := [7]) (by kernel_rfl) (by simp) (AllReadyH.cons rfl (fun K hK => ?_) AllReadyH.nil)
                    go_simp
                    go_wp2_with ((go_at_call 8; refine (HB.out _ o).mono ?_; rintro e W_31 ⟨rfl, oc⟩))
                    refine hK.out _ _ (HF.out _ (o.trans oc)) (fun hHeld => ?_)
                    clear hK K
                    try simp only [List.getElem_toArray, List.getElem_cons_succ, List.getElem_cons_zero, Act.put, List.setIfInBounds_toArray, List.set_cons_zero, List.set_cons_succ]
                    replace o := o.trans oc
                    replace hx := oc.blk hx (by simp)
                    replace hy := oc.blk hy (by simp)
                    clear oc
                    obtain ⟨f0, x0, x1⟩ := two_cells hx
                    refine wpAnyH_ready (rs := [10]) (by kernel_rfl) (by simp) (AllReadyH.cons rfl (fun K hK => ?_) AllReadyH.nil)
                    go_simp
                    refine hK.out _ _ (HF.out _ ((o.set (.inr hgx) _).set (.inr hgx) _)) (fun hHeld => ?_)
                    clear hK K
                    try simp only [List.getElem_toArray, List.getElem_cons_succ, List.getElem_cons_zero, Act.put, List.setIfInBounds_toArray, List.set_cons_zero, List.set_cons_succ]
                    refine anyH_world (R := fun W' => (fun w' => w'.cell? ⟨w.heap.size, 0, none⟩ = some (.int .i64 P) ∧ w'.cell? ⟨w.heap.size, 1, none⟩ = some (.int .i64 C) ∧ w'.cell? ⟨w.heap.size, 2, none⟩ = some (.int .i64 M)) W' ∧ Off [] wc W' ∧ Blk W' W_27.heap.size 27 #[.int .i64 a0, .int .i64 a1] ∧ Blk W' wc.heap.size 27 #[.int .i64 0, .int .i64 0]) ⟨hHeld, ((o.set (.inr hgx) _).set (.inr hgx) _), ((hx.set 0 _).set 1 _).to (by simp), (hy.far (Ne.symm hxy) _ _).far (Ne.symm hxy) _ _⟩ ?_
                    clear o hx hy f0 x0 x1 hHeld
                    rintro W_a ⟨hHeld, o, hx, hy⟩
                    obtain ⟨f1, y0, y1⟩ := two_cells hy
                    refine wpAnyH_ready (rs := [11]) (by kernel_rfl) (by simp) (AllReadyH.cons rfl (fun K hK => ?_) AllReadyH.nil)
                    go_simp
                    refine hK.out _ _ (HF.out _ ((o.set (.inr hgy) _).set (.inr hgy) _)) (fun hHeld => ?_)
                    clear hK K
                    try simp only [List.getElem_toArray, List.getElem_cons_succ, List.getElem_cons_zero, Act.put, List.setIfInBounds_toArray, List.set_cons_zero, List.set_cons_succ]
                    refine anyH_world (R := fun W' => Off [] wc W' ∧ Blk W' W_27.heap.size 27 #[.int .i64 a0, .int .i64 a1] ∧ Blk W' wc.heap.size 27 #[.int .i64 b0, .int .i64 b1]) ⟨((o.set (.inr hgy) _).set (.inr hgy) _), (hx.far hxy _ _).far hxy _ _, ((hy.set 0 _).set 1 _).to (by simp)⟩ ?_
                    clear o hx hy f1 y0 y1 hHeld
                    rintro W_b ⟨o, hx, hy⟩
                    refine wpAnyH_done (by kernel_rfl) ?_ _
                    refine NoPanic.normal ?_
                    go_wp2_with fail
                    go_meet
                    case rel => exact ⟨_, _, rfl, rfl, hx, hy, o⟩
            · as_aux_lemma =>
                go_simp
                refine hK.out _ _ (HF.out _ (o.alloc _)) (fun hHeld => ?_)
                clear hK K
                try simp only [List.getElem_toArray, List.getElem_cons_succ, List.getElem_cons_zero, Act.put, List.setIfInBounds_toArray, List.set_cons_zero, List.set_cons_succ]
                have hgx : wc.heap.size ≤ W_26.heap.size := o.size
                have hxy : W_26.heap.size ≠ wc.heap.size := by have := hy.lt; omega
                refine anyH_world (R := fun W' => (fun w' => w'.cell? ⟨w.heap.size, 0, none⟩ = some (.int .i64 P) ∧ w'.cell? ⟨w.heap.size, 1, none⟩ = some (.int .i64 C) ∧ w'.cell? ⟨w.heap.size, 2, none⟩ = some (.int .i64 M)) W' ∧ Off [] wc W' ∧ Blk W' (W_26.heap.size) 27 #[.int .i64 0, .int .i64 0] ∧ Blk W' (wc.heap.size) 27 #[.int .i64 0, .int .i64 0]) ⟨hHeld, o.alloc _, (by first | exact Blk.new _ _ _ | exact blk_drewJ (Blk.new _ _ _)), hy.alloc _⟩ ?_
                clear hHeld o hy
                rintro W_32 ⟨hHeld, o, hx, hy⟩
                refine wpAnyH_ready (rs := [2]) (by kernel_rfl) (by simp) (AllReadyH.cons rfl (fun K hK => ?_) AllReadyH.nil)
                go_simp
                go_wp2_with ((go_at_call 8; refine (HA.out _ o).mono ?_; rintro e W_33 ⟨rfl, oc⟩))
                refine hK.out _ _ (HF.out _ (o.trans oc)) (fun hHeld => ?_)
                clear hK K
                try simp only [List.getElem_toArray, List.getElem_cons_succ, List.getElem_cons_zero, Act.put, List.setIfInBounds_toArray, List.set_cons_zero, List.set_cons_succ]
                replace o := o.trans oc
                replace hx := oc.blk hx (by simp)
                replace hy := oc.blk hy (by simp)
                clear oc
                refine wpAnyH_ready (rs := [7]) (by kernel_rfl) (by simp) (AllReadyH.cons rfl (fun K hK => ?_) AllReadyH.nil)
                go_simp
                go_wp2_with ((go_at_call 8; refine (HB.out _ o).mono ?_; rintro e W_34 ⟨rfl, oc⟩))
                refine hK.out _ _ (HF.out _ (o.trans oc)) (fun hHeld => ?_)
                clear hK K
                try simp only [List.getElem_toArray, List.getElem_cons_succ, List.getElem_cons_zero, Act.put, List.setIfInBounds_toArray, List.set_cons_zero, List.set_cons_succ]
                replace o := o.trans oc
                replace hx := oc.blk hx (by simp)
                replace hy := oc.blk hy (by simp)
                clear oc
                obtain ⟨f0, x0, x1⟩ := two_cells hx
                refine wpAnyH_ready (rs := [10]) (by kernel_rfl) (by simp) (AllReadyH.cons rfl (fun K hK => ?_) AllReadyH.nil)
                go_simp
                refine hK.out _ _ (HF.out _ ((o.set (.inr hgx) _).set (.inr hgx) _)) (fun hHeld => ?_)
                clear hK K
                try simp only [List.getElem_toArray, List.getElem_cons_succ, List.getElem_cons_zero, Act.put, List.setIfInBounds_toArray, List.set_cons_zero, List.set_cons_succ]
                refine anyH_world (R := fun W' => (fun w' => w'.cell? ⟨w.heap.size, 0, none⟩ = some (.int .i64 P) ∧ w'.cell? ⟨w.heap.size, 1, none⟩ = some (.int .i64 C) ∧ w'.cell? ⟨w.heap.size, 2, none⟩ = some (.int .i64 M)) W' ∧ Off [] wc W' ∧ Blk W' W_26.heap.size 27 #[.int .i64 a0, .int .i64 a1] ∧ Blk W' wc.heap.size 27 #[.int .i64 0, .int .i64 0]) ⟨hHeld, ((o.set (.inr hgx) _).set (.inr hgx) _), ((hx.set 0 _).set 1 _).to (by simp), (hy.far (Ne.symm hxy) _ _).far (Ne.symm hxy) _ _⟩ ?_
                clear o hx hy f0 x0 x1 hHeld
                rintro W_a ⟨hHeld, o, hx, hy⟩
                obtain ⟨f1, y0, y1⟩ := two_cells hy
                refine wpAnyH_ready (rs := [11]) (by kernel_rfl) (by simp) (AllReadyH.cons rfl (fun K hK => ?_) AllReadyH.nil)
                go_simp
                refine hK.out _ _ (HF.out _ ((o.set (.inr hgy) _).set (.inr hgy) _)) (fun hHeld => ?_)
                clear hK K
                try simp only [List.getElem_toArray, List.getElem_cons_succ, List.getElem_cons_zero, Act.put, List.setIfInBounds_toArray, List.set_cons_zero, List.set_cons_succ]
                refine anyH_world (R := fun W' => Off [] wc W' ∧ Blk W' W_26.heap.size 27 #[.int .i64 a0, .int .i64 a1] ∧ Blk W' wc.heap.size 27 #[.int .i64 b0, .int .i64 b1]) ⟨((o.set (.inr hgy) _).set (.inr hgy) _), (hx.far hxy _ _).far hxy _ _, ((hy.set 0 _).set 1 _).to (by simp)⟩ ?_
                clear o hx hy f1 y0 y1 hHeld
                rintro W_b ⟨o, hx, hy⟩
                refine wpAnyH_done (by kernel_rfl) ?_ _
                refine NoPanic.normal ?_
                go_wp2_with fail
                go_meet
                case rel => exact ⟨_, _, rfl, rfl, hx, hy, o⟩
      case rest =>
        obtain ⟨ga, gb, rfl, rfl, ha, hb, ho⟩ := hcut
        obtain ⟨-, x0, x1⟩ := two_cells ha
        obtain ⟨-, y0, y1⟩ := two_cells hb
        have HO := Lib.hid (HOW.out.trans ho)
        clear ho ha hb
        by_cases hb1 : b1 = 0
        · obtain ⟨h1, h2⟩ := HTL.out.good hb1
          subst hb1 h1
          rcases h2 with h2 | h2
          · subst h2
            go_wp2_with fail
            go_ret
            exact ⟨rfl, HO.out⟩
          · have d1 : decide ((n : Int) ≤ a0) = true := by simpa using h2
            by_cases ha1 : a1 = 0
            · subst ha1
              go_wp2_with fail
              go_ret
              exact ⟨rfl, HO.out⟩
            · have d2 : (a1 == 0) = false := by simpa using ha1
              go_wp2_with fail
              go_ret
              exact ⟨rfl, HO.out⟩
        · obtain ⟨h1, h2, h3, h4⟩ := HTL.out.bad hb1
          subst h1 h2
          have d1 : decide (a0 < (n : Int)) = true := by simpa using h3
          have d2 : decide (0 ≤ a0) = true := by simpa using h4
          have d3 : (a1 == 0) = false := by simpa using hb1
          have he := HEQ.out
          go_wp2_with fail
          go_ret
          exact ⟨rfl, HO.out⟩

end Go.Proofs.Ytfgkjfneeggbjaa.Jud
