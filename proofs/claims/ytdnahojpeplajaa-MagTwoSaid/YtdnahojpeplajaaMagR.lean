/- The document's own Taker (allotmentref8): New, Step: a contract each. (Written by tools/magref_gen.py over tools/XMagR.src.) -/
import Derived.Test.YtdnahojpeplajaaMagM
import Derived.Test.YtdnahojpeplajaaRefQ
import Derived.Test.YtdnahojpeplajaaRefB
import Derived.StillTailTactics
import Derived.Deep.CutBlock
namespace Go.Proofs.Ytdnahojpeplajaa.Mag
open Go.RowKit Mem Go.Proofs.Ytdnahojpeplajaa.Words Go.Proofs.Ytdnahojpeplajaa.Plan Go.Proofs.Ytdnahojpeplajaa.Pack
set_option maxRecDepth 100000
set_option maxHeartbeats 4000000

theorem at_worldM {P : Program} {c : Code} {Q : Exit → Act → World → Prop} {a : Act} {w : World} {R : World → Prop} (h : R w) (k : ∀ W, R W → Code.wp P c Q a W) : Code.wp P c Q a w := k w h
theorem anyH_worldM {P : Program} {md : Region.Mode} {ops : Array Oper} {Q : Exit → Act → World → Prop} {S : World → Prop} {fuel : Nat} {listed : Array Bool} {a : Act} {w : World} {R : World → Prop} (h : R w) (k : ∀ W, R W → wpAnyH P md ops Q S fuel listed a W) : wpAnyH P md ops Q S fuel listed a w := k w h
theorem blk_drewM {w : World} {g : Nat} {t : TypeId} {cs : Array Value} (h : Blk w g t cs) : Blk w.drew g t cs := ⟨h.eq⟩
theorem three_free {w : World} {b : Nat} {t : TypeId} {cs : Array Value} (h : Blk w b t cs) : w.frozen? ⟨b, 0, none⟩ = false ∧ w.frozen? ⟨b, 1, none⟩ = false ∧ w.frozen? ⟨b, 2, none⟩ = false := ⟨h.free 0, h.free 1, h.free 2⟩

/-- The document's taker, in twelve cells. -/
def rtCells (t : Tk) : Array Value := #[.int .i64 t.P, .int .i64 t.C, .int .i64 t.M, .int .i64 t.c, .int .i64 t.k, .int .i64 t.i, .int .i64 t.page, .int .i64 t.slot, .int .i64 (if t.hit = true then t.k else 0), .bool t.found, .bool t.over, .bool t.hit]
abbrev IsRT (w : World) (g : Nat) (t : Tk) : Prop := Blk w g 49 (rtCells t)

theorem good_any (P C M c : Int) (w : World) :
    Calls Try.prog 42 #[.agg #[.int .i64 P, .int .i64 C, .int .i64 M], .int .i64 c] w fun e w' => e = .returned (.bool (decide (0 ≤ statusI P C M c))) ∧ Off [] w w' := by
  go_enter Try.func42, Try.ntmps42
  go_wp2_with (go_at_call 50; refine (rstatus_any _ _ _ _ _).mono ?_; rintro e w3 ⟨rfl, o3⟩)
  go_ret
  exact ⟨rfl, ((Off.refl _ _).alloc _).trans o3⟩

def NewRT (w : World) (t : Tk) (e : Ending) (w' : World) : Prop := (∃ g, e = .returned (.pointer (some ⟨g, 0, none⟩)) ∧ IsRT w' g t ∧ w.heap.size ≤ g) ∧ Off [] w w'
theorem rtaker_new (P C M c k : Int) (w : World) :
    Calls Try.prog 22 #[.agg #[.int .i64 P, .int .i64 C, .int .i64 M], .int .i64 c, .int .i64 k] w (NewRT w (tk0 P C M c k)) := by
  unfold tk0
  obtain ⟨ov, hov⟩ : ∃ ov, overT P C M c k = ov := ⟨_, rfl⟩
  rw [hov]
  unfold overT at hov
  go_enter Try.func22, Try.ntmps22
  go_upto_region 1 with fail
  refine at_worldM (R := fun W' => Off [] w W' ∧ Blk W' w.heap.size 24 #[.int .i64 P, .int .i64 C, .int .i64 M]) ⟨(Off.refl _ _).alloc _, Blk.new _ _ _⟩ ?_
  rintro W1 ⟨oW, hs⟩
  have HOW := Lib.hid oW
  have HF : Hid (∀ W, Off [] W1 W → W.cell? ⟨w.heap.size, 0, none⟩ = some (.int .i64 P) ∧ W.cell? ⟨w.heap.size, 1, none⟩ = some (.int .i64 C) ∧ W.cell? ⟨w.heap.size, 2, none⟩ = some (.int .i64 M)) := Lib.hid (fun W o => shp_cells (o.blk hs (by simp)))
  clear oW hs
  by_cases h1 : statusI P C M c < 0
  · have HG := Lib.hid (decide_eq_false (show ¬ 0 ≤ statusI P C M c by omega))
    rw [decide_eq_true h1] at hov
    have HV := Lib.hid hov.symm
    clear hov h1
    refine wp_region_noPanic ?_
    refine wp_region_held_drew (S := fun w' => w'.cell? ⟨w.heap.size, 0, none⟩ = some (.int .i64 P) ∧ w'.cell? ⟨w.heap.size, 1, none⟩ = some (.int .i64 C) ∧ w'.cell? ⟨w.heap.size, 2, none⟩ = some (.int .i64 M)) (by kernel_rfl) (HF.out _ (Off.refl [] W1).drew) (fun hHeld => ?_)
    have o := (Off.refl [] W1).drew
    refine wpAnyH_take (i := 0) (v := ?_) rfl (by kernel_rfl) (by kernel_rfl) (by kernel_rfl) (fun _ _ _ h => h) (Or.inl ⟨by rfl, ?_⟩) (by assumption) ?_
    rotate_left
    · intro w hSw
      try dsimp only at hSw
      go_simp
      first | done | with_reducible rfl
    try simp only [List.getElem_toArray, List.getElem_cons_zero, Act.put, List.setIfInBounds_toArray, List.set_cons_zero, List.set_cons_succ]
    refine wpAnyH_take (i := 1) (v := ?_) rfl (by kernel_rfl) (by kernel_rfl) (by kernel_rfl) (fun _ _ _ h => h) (Or.inl ⟨by rfl, ?_⟩) (by assumption) ?_
    rotate_left
    · intro w hSw
      try dsimp only at hSw
      go_simp
      first | done | with_reducible rfl
    try simp only [List.getElem_toArray, List.getElem_cons_succ, List.getElem_cons_zero, Act.put, List.setIfInBounds_toArray, List.set_cons_zero, List.set_cons_succ]
    refine wpAnyH_take (i := 2) (v := ?_) rfl (by kernel_rfl) (by kernel_rfl) (by kernel_rfl) (fun _ _ _ h => h) (Or.inl ⟨by rfl, ?_⟩) (by assumption) ?_
    rotate_left
    · intro w hSw
      try dsimp only at hSw
      go_simp
      first | done | with_reducible rfl
    try simp only [List.getElem_toArray, List.getElem_cons_succ, List.getElem_cons_zero, Act.put, List.setIfInBounds_toArray, List.set_cons_zero, List.set_cons_succ]
    refine wpAnyH_take (i := 3) (v := ?_) rfl (by kernel_rfl) (by kernel_rfl) (by kernel_rfl) (fun _ _ _ h => h) (Or.inl ⟨by rfl, ?_⟩) (by assumption) ?_
    rotate_left
    · intro w hSw
      try dsimp only at hSw
      go_simp
      first | done | with_reducible rfl
    try simp only [List.getElem_toArray, List.getElem_cons_succ, List.getElem_cons_zero, Act.put, List.setIfInBounds_toArray, List.set_cons_zero, List.set_cons_succ]
    refine wpAnyH_take (i := 4) (v := ?_) rfl (by kernel_rfl) (by kernel_rfl) (by kernel_rfl) (fun _ _ _ h => h) (Or.inl ⟨by rfl, ?_⟩) (by assumption) ?_
    rotate_left
    · intro w hSw
      try dsimp only at hSw
      go_simp
      first | done | with_reducible rfl
    try simp only [List.getElem_toArray, List.getElem_cons_succ, List.getElem_cons_zero, Act.put, List.setIfInBounds_toArray, List.set_cons_zero, List.set_cons_succ]
    refine wpAnyH_ready (rs := [5]) (by kernel_rfl) (by simp) (AllReadyH.cons rfl (fun K hK => ?_) AllReadyH.nil)
    go_simp
    go_wp2_with (go_at_call 42; refine (good_any _ _ _ _ _).mono ?_; rintro e W2 ⟨rfl, oc⟩; rw [HG.out])
    refine hK.out _ _ (HF.out _ (o.trans oc)) (fun hHeld => ?_)
    clear hK K
    try simp only [List.getElem_toArray, List.getElem_cons_succ, List.getElem_cons_zero, Act.put, List.setIfInBounds_toArray, List.set_cons_zero, List.set_cons_succ]
    replace o := o.trans oc
    clear oc
    refine wpAnyH_take (i := 6) (v := ?_) rfl (by kernel_rfl) (by kernel_rfl) (by kernel_rfl) (fun _ _ _ h => h) (Or.inl ⟨by rfl, ?_⟩) (by assumption) ?_
    rotate_left
    · intro w hSw
      try dsimp only at hSw
      go_simp
      first | done | with_reducible rfl
    try simp only [List.getElem_toArray, List.getElem_cons_succ, List.getElem_cons_zero, Act.put, List.setIfInBounds_toArray, List.set_cons_zero, List.set_cons_succ]
    refine wpAnyH_take (i := 7) (v := ?_) rfl (by kernel_rfl) (by kernel_rfl) (by kernel_rfl) (fun _ _ _ h => h) (Or.inl ⟨by rfl, ?_⟩) (by assumption) ?_
    rotate_left
    · intro w hSw
      try dsimp only at hSw
      go_simp
      first | done | with_reducible rfl
    try simp only [List.getElem_toArray, List.getElem_cons_succ, List.getElem_cons_zero, Act.put, List.setIfInBounds_toArray, List.set_cons_zero, List.set_cons_succ]
    refine wpAnyH_take (i := 8) (v := undef) rfl (by kernel_rfl) (by kernel_rfl) (by kernel_rfl) (fun _ _ _ h => h) (Or.inr ⟨by rfl, rfl⟩) (by assumption) ?_
    try simp only [List.getElem_toArray, List.getElem_cons_succ, List.getElem_cons_zero, Act.put, List.setIfInBounds_toArray, List.set_cons_zero, List.set_cons_succ]
    refine wpAnyH_ready (rs := [9]) (by kernel_rfl) (by simp) (AllReadyH.cons rfl (fun K hK => ?_) AllReadyH.nil)
    go_simp
    refine hK.out _ _ hHeld (fun hHeld => ?_)
    clear hK K
    try simp only [List.getElem_toArray, List.getElem_cons_succ, List.getElem_cons_zero, Act.put, List.setIfInBounds_toArray, List.set_cons_zero, List.set_cons_succ]
    refine wpAnyH_take (i := 10) (v := undef) rfl (by kernel_rfl) (by kernel_rfl) (by kernel_rfl) (fun _ _ _ h => h) (Or.inr ⟨by rfl, rfl⟩) (by assumption) ?_
    try simp only [List.getElem_toArray, List.getElem_cons_succ, List.getElem_cons_zero, Act.put, List.setIfInBounds_toArray, List.set_cons_zero, List.set_cons_succ]
    refine wpAnyH_take (i := 11) (v := ?_) rfl (by kernel_rfl) (by kernel_rfl) (by kernel_rfl) (fun _ _ _ h => h) (Or.inl ⟨by rfl, ?_⟩) (by assumption) ?_
    rotate_left
    · intro w hSw
      try dsimp only at hSw
      go_simp
      first | done | with_reducible rfl
    try simp only [List.getElem_toArray, List.getElem_cons_succ, List.getElem_cons_zero, Act.put, List.setIfInBounds_toArray, List.set_cons_zero, List.set_cons_succ]
    refine wpAnyH_take (i := 12) (v := ?_) rfl (by kernel_rfl) (by kernel_rfl) (by kernel_rfl) (fun _ _ _ h => h) (Or.inl ⟨by rfl, ?_⟩) (by assumption) ?_
    rotate_left
    · intro w hSw
      try dsimp only at hSw
      go_simp
      first | done | with_reducible rfl
    try simp only [List.getElem_toArray, List.getElem_cons_succ, List.getElem_cons_zero, Act.put, List.setIfInBounds_toArray, List.set_cons_zero, List.set_cons_succ]
    refine wpAnyH_take (i := 13) (v := undef) rfl (by kernel_rfl) (by kernel_rfl) (by kernel_rfl) (fun _ _ _ h => h) (Or.inr ⟨by rfl, rfl⟩) (by assumption) ?_
    try simp only [List.getElem_toArray, List.getElem_cons_succ, List.getElem_cons_zero, Act.put, List.setIfInBounds_toArray, List.set_cons_zero, List.set_cons_succ]
    refine wpAnyH_take (i := 14) (v := undef) rfl (by kernel_rfl) (by kernel_rfl) (by kernel_rfl) (fun _ _ _ h => h) (Or.inr ⟨by rfl, rfl⟩) (by assumption) ?_
    try simp only [List.getElem_toArray, List.getElem_cons_succ, List.getElem_cons_zero, Act.put, List.setIfInBounds_toArray, List.set_cons_zero, List.set_cons_succ]
    refine wpAnyH_take (i := 15) (v := undef) rfl (by kernel_rfl) (by kernel_rfl) (by kernel_rfl) (fun _ _ _ h => h) (Or.inr ⟨by rfl, rfl⟩) (by assumption) ?_
    try simp only [List.getElem_toArray, List.getElem_cons_succ, List.getElem_cons_zero, Act.put, List.setIfInBounds_toArray, List.set_cons_zero, List.set_cons_succ]
    refine wpAnyH_take (i := 16) (v := ?_) rfl (by kernel_rfl) (by kernel_rfl) (by kernel_rfl) (fun _ _ _ h => h) (Or.inl ⟨by rfl, ?_⟩) (by assumption) ?_
    rotate_left
    · intro w hSw
      try dsimp only at hSw
      go_simp
      first | done | with_reducible rfl
    try simp only [List.getElem_toArray, List.getElem_cons_succ, List.getElem_cons_zero, Act.put, List.setIfInBounds_toArray, List.set_cons_zero, List.set_cons_succ]
    refine wpAnyH_take (i := 17) (v := ?_) rfl (by kernel_rfl) (by kernel_rfl) (by kernel_rfl) (fun _ _ _ h => h) (Or.inl ⟨by rfl, ?_⟩) (by assumption) ?_
    rotate_left
    · intro w hSw
      try dsimp only at hSw
      go_simp
      first | done | with_reducible rfl
    try simp only [List.getElem_toArray, List.getElem_cons_succ, List.getElem_cons_zero, Act.put, List.setIfInBounds_toArray, List.set_cons_zero, List.set_cons_succ]
    refine wpAnyH_ready (rs := [18]) (by kernel_rfl) (by simp) (AllReadyH.cons rfl (fun K hK => ?_) AllReadyH.nil)
    go_simp
    refine hK.out _ _ (HF.out _ (o.alloc _)) (fun hHeld => ?_)
    clear hK K
    try simp only [List.getElem_toArray, List.getElem_cons_succ, List.getElem_cons_zero, Act.put, List.setIfInBounds_toArray, List.set_cons_zero, List.set_cons_succ]
    refine wpAnyH_take (i := 19) (v := ?_) rfl (by kernel_rfl) (by kernel_rfl) (by kernel_rfl) (fun _ _ _ h => h) (Or.inl ⟨by rfl, ?_⟩) (by assumption) ?_
    rotate_left
    · intro w hSw
      try dsimp only at hSw
      go_simp
      first | done | with_reducible rfl
    try simp only [List.getElem_toArray, List.getElem_cons_succ, List.getElem_cons_zero, Act.put, List.setIfInBounds_toArray, List.set_cons_zero, List.set_cons_succ]
    refine wpAnyH_done (by kernel_rfl) ?_ _
    refine NoPanic.normal ?_
    go_wp2_with fail
    go_ret
    exact ⟨⟨_, rfl, (Blk.new _ _ _).to (by rw [HV.out]; rfl), by have := HOW.out.size; have := o.size; omega⟩, (HOW.out.trans o).alloc _⟩
  · have HG := Lib.hid (decide_eq_true (show 0 ≤ statusI P C M c by omega))
    rw [decide_eq_false h1] at hov
    clear h1
    by_cases h2 : slotsI k = 0
    · have d2 : (slotsI k == 0) = true := by simpa using h2
      rw [decide_eq_true h2] at hov
      have HV := Lib.hid hov.symm
      clear hov h2
      refine wp_region_noPanic ?_
      refine wp_region_held_drew (S := fun w' => w'.cell? ⟨w.heap.size, 0, none⟩ = some (.int .i64 P) ∧ w'.cell? ⟨w.heap.size, 1, none⟩ = some (.int .i64 C) ∧ w'.cell? ⟨w.heap.size, 2, none⟩ = some (.int .i64 M)) (by kernel_rfl) (HF.out _ (Off.refl [] W1).drew) (fun hHeld => ?_)
      have o := (Off.refl [] W1).drew
      refine wpAnyH_take (i := 0) (v := ?_) rfl (by kernel_rfl) (by kernel_rfl) (by kernel_rfl) (fun _ _ _ h => h) (Or.inl ⟨by rfl, ?_⟩) (by assumption) ?_
      rotate_left
      · intro w hSw
        try dsimp only at hSw
        go_simp
        first | done | with_reducible rfl
      try simp only [List.getElem_toArray, List.getElem_cons_zero, Act.put, List.setIfInBounds_toArray, List.set_cons_zero, List.set_cons_succ]
      refine wpAnyH_take (i := 1) (v := ?_) rfl (by kernel_rfl) (by kernel_rfl) (by kernel_rfl) (fun _ _ _ h => h) (Or.inl ⟨by rfl, ?_⟩) (by assumption) ?_
      rotate_left
      · intro w hSw
        try dsimp only at hSw
        go_simp
        first | done | with_reducible rfl
      try simp only [List.getElem_toArray, List.getElem_cons_succ, List.getElem_cons_zero, Act.put, List.setIfInBounds_toArray, List.set_cons_zero, List.set_cons_succ]
      refine wpAnyH_take (i := 2) (v := ?_) rfl (by kernel_rfl) (by kernel_rfl) (by kernel_rfl) (fun _ _ _ h => h) (Or.inl ⟨by rfl, ?_⟩) (by assumption) ?_
      rotate_left
      · intro w hSw
        try dsimp only at hSw
        go_simp
        first | done | with_reducible rfl
      try simp only [List.getElem_toArray, List.getElem_cons_succ, List.getElem_cons_zero, Act.put, List.setIfInBounds_toArray, List.set_cons_zero, List.set_cons_succ]
      refine wpAnyH_take (i := 3) (v := ?_) rfl (by kernel_rfl) (by kernel_rfl) (by kernel_rfl) (fun _ _ _ h => h) (Or.inl ⟨by rfl, ?_⟩) (by assumption) ?_
      rotate_left
      · intro w hSw
        try dsimp only at hSw
        go_simp
        first | done | with_reducible rfl
      try simp only [List.getElem_toArray, List.getElem_cons_succ, List.getElem_cons_zero, Act.put, List.setIfInBounds_toArray, List.set_cons_zero, List.set_cons_succ]
      refine wpAnyH_take (i := 4) (v := ?_) rfl (by kernel_rfl) (by kernel_rfl) (by kernel_rfl) (fun _ _ _ h => h) (Or.inl ⟨by rfl, ?_⟩) (by assumption) ?_
      rotate_left
      · intro w hSw
        try dsimp only at hSw
        go_simp
        first | done | with_reducible rfl
      try simp only [List.getElem_toArray, List.getElem_cons_succ, List.getElem_cons_zero, Act.put, List.setIfInBounds_toArray, List.set_cons_zero, List.set_cons_succ]
      refine wpAnyH_ready (rs := [5]) (by kernel_rfl) (by simp) (AllReadyH.cons rfl (fun K hK => ?_) AllReadyH.nil)
      go_simp
      go_wp2_with (go_at_call 42; refine (good_any _ _ _ _ _).mono ?_; rintro e W2 ⟨rfl, oc⟩; rw [HG.out])
      refine hK.out _ _ (HF.out _ (o.trans oc)) (fun hHeld => ?_)
      clear hK K
      try simp only [List.getElem_toArray, List.getElem_cons_succ, List.getElem_cons_zero, Act.put, List.setIfInBounds_toArray, List.set_cons_zero, List.set_cons_succ]
      replace o := o.trans oc
      clear oc
      refine wpAnyH_take (i := 6) (v := ?_) rfl (by kernel_rfl) (by kernel_rfl) (by kernel_rfl) (fun _ _ _ h => h) (Or.inl ⟨by rfl, ?_⟩) (by assumption) ?_
      rotate_left
      · intro w hSw
        try dsimp only at hSw
        go_simp
        first | done | with_reducible rfl
      try simp only [List.getElem_toArray, List.getElem_cons_succ, List.getElem_cons_zero, Act.put, List.setIfInBounds_toArray, List.set_cons_zero, List.set_cons_succ]
      refine wpAnyH_take (i := 7) (v := ?_) rfl (by kernel_rfl) (by kernel_rfl) (by kernel_rfl) (fun _ _ _ h => h) (Or.inl ⟨by rfl, ?_⟩) (by assumption) ?_
      rotate_left
      · intro w hSw
        try dsimp only at hSw
        go_simp
        first | done | with_reducible rfl
      try simp only [List.getElem_toArray, List.getElem_cons_succ, List.getElem_cons_zero, Act.put, List.setIfInBounds_toArray, List.set_cons_zero, List.set_cons_succ]
      refine wpAnyH_take (i := 8) (v := ?_) rfl (by kernel_rfl) (by kernel_rfl) (by kernel_rfl) (fun _ _ _ h => h) (Or.inl ⟨by rfl, ?_⟩) (by assumption) ?_
      rotate_left
      · intro w hSw
        try dsimp only at hSw
        go_simp
        first | done | with_reducible rfl
      try simp only [List.getElem_toArray, List.getElem_cons_succ, List.getElem_cons_zero, Act.put, List.setIfInBounds_toArray, List.set_cons_zero, List.set_cons_succ]
      refine wpAnyH_ready (rs := [9]) (by kernel_rfl) (by simp) (AllReadyH.cons rfl (fun K hK => ?_) AllReadyH.nil)
      go_simp
      go_wp2_with (go_at_call 43; refine (rslots_any _ _).mono ?_; rintro e W3 ⟨rfl, rfl⟩)
      refine hK.out _ _ (HF.out _ o) (fun hHeld => ?_)
      clear hK K
      try simp only [List.getElem_toArray, List.getElem_cons_succ, List.getElem_cons_zero, Act.put, List.setIfInBounds_toArray, List.set_cons_zero, List.set_cons_succ]
      refine wpAnyH_take (i := 10) (v := ?_) rfl (by kernel_rfl) (by kernel_rfl) (by kernel_rfl) (fun _ _ _ h => h) (Or.inl ⟨by rfl, ?_⟩) (by assumption) ?_
      rotate_left
      · intro w hSw
        try dsimp only at hSw
        go_simp
        first | done | with_reducible rfl
      try simp only [List.getElem_toArray, List.getElem_cons_succ, List.getElem_cons_zero, Act.put, List.setIfInBounds_toArray, List.set_cons_zero, List.set_cons_succ]
      refine wpAnyH_take (i := 11) (v := ?_) rfl (by kernel_rfl) (by kernel_rfl) (by kernel_rfl) (fun _ _ _ h => h) (Or.inl ⟨by rfl, ?_⟩) (by assumption) ?_
      rotate_left
      · intro w hSw
        try dsimp only at hSw
        go_simp
        first | done | with_reducible rfl
      try simp only [List.getElem_toArray, List.getElem_cons_succ, List.getElem_cons_zero, Act.put, List.setIfInBounds_toArray, List.set_cons_zero, List.set_cons_succ]
      refine wpAnyH_take (i := 12) (v := ?_) rfl (by kernel_rfl) (by kernel_rfl) (by kernel_rfl) (fun _ _ _ h => h) (Or.inl ⟨by rfl, ?_⟩) (by assumption) ?_
      rotate_left
      · intro w hSw
        try dsimp only at hSw
        go_simp
        first | done | with_reducible rfl
      try simp only [List.getElem_toArray, List.getElem_cons_succ, List.getElem_cons_zero, Act.put, List.setIfInBounds_toArray, List.set_cons_zero, List.set_cons_succ]
      refine wpAnyH_take (i := 13) (v := undef) rfl (by kernel_rfl) (by kernel_rfl) (by kernel_rfl) (fun _ _ _ h => h) (Or.inr ⟨by rfl, rfl⟩) (by assumption) ?_
      try simp only [List.getElem_toArray, List.getElem_cons_succ, List.getElem_cons_zero, Act.put, List.setIfInBounds_toArray, List.set_cons_zero, List.set_cons_succ]
      refine wpAnyH_take (i := 14) (v := undef) rfl (by kernel_rfl) (by kernel_rfl) (by kernel_rfl) (fun _ _ _ h => h) (Or.inr ⟨by rfl, rfl⟩) (by assumption) ?_
      try simp only [List.getElem_toArray, List.getElem_cons_succ, List.getElem_cons_zero, Act.put, List.setIfInBounds_toArray, List.set_cons_zero, List.set_cons_succ]
      refine wpAnyH_take (i := 15) (v := undef) rfl (by kernel_rfl) (by kernel_rfl) (by kernel_rfl) (fun _ _ _ h => h) (Or.inr ⟨by rfl, rfl⟩) (by assumption) ?_
      try simp only [List.getElem_toArray, List.getElem_cons_succ, List.getElem_cons_zero, Act.put, List.setIfInBounds_toArray, List.set_cons_zero, List.set_cons_succ]
      refine wpAnyH_take (i := 16) (v := ?_) rfl (by kernel_rfl) (by kernel_rfl) (by kernel_rfl) (fun _ _ _ h => h) (Or.inl ⟨by rfl, ?_⟩) (by assumption) ?_
      rotate_left
      · intro w hSw
        try dsimp only at hSw
        go_simp
        first | done | with_reducible rfl
      try simp only [List.getElem_toArray, List.getElem_cons_succ, List.getElem_cons_zero, Act.put, List.setIfInBounds_toArray, List.set_cons_zero, List.set_cons_succ]
      refine wpAnyH_take (i := 17) (v := ?_) rfl (by kernel_rfl) (by kernel_rfl) (by kernel_rfl) (fun _ _ _ h => h) (Or.inl ⟨by rfl, ?_⟩) (by assumption) ?_
      rotate_left
      · intro w hSw
        try dsimp only at hSw
        go_simp
        first | done | with_reducible rfl
      try simp only [List.getElem_toArray, List.getElem_cons_succ, List.getElem_cons_zero, Act.put, List.setIfInBounds_toArray, List.set_cons_zero, List.set_cons_succ]
      refine wpAnyH_ready (rs := [18]) (by kernel_rfl) (by simp) (AllReadyH.cons rfl (fun K hK => ?_) AllReadyH.nil)
      go_simp
      refine hK.out _ _ (HF.out _ (o.alloc _)) (fun hHeld => ?_)
      clear hK K
      try simp only [List.getElem_toArray, List.getElem_cons_succ, List.getElem_cons_zero, Act.put, List.setIfInBounds_toArray, List.set_cons_zero, List.set_cons_succ]
      refine wpAnyH_take (i := 19) (v := ?_) rfl (by kernel_rfl) (by kernel_rfl) (by kernel_rfl) (fun _ _ _ h => h) (Or.inl ⟨by rfl, ?_⟩) (by assumption) ?_
      rotate_left
      · intro w hSw
        try dsimp only at hSw
        go_simp
        first | done | with_reducible rfl
      try simp only [List.getElem_toArray, List.getElem_cons_succ, List.getElem_cons_zero, Act.put, List.setIfInBounds_toArray, List.set_cons_zero, List.set_cons_succ]
      refine wpAnyH_done (by kernel_rfl) ?_ _
      refine NoPanic.normal ?_
      go_wp2_with fail
      go_ret
      exact ⟨⟨_, rfl, (Blk.new _ _ _).to (by rw [HV.out]; rfl), by have := HOW.out.size; have := o.size; omega⟩, (HOW.out.trans o).alloc _⟩
    · have d2 : (slotsI k == 0) = false := by simpa using h2
      rw [decide_eq_false h2] at hov
      have HV := Lib.hid hov.symm
      clear hov h2
      refine wp_region_noPanic ?_
      refine wp_region_held_drew (S := fun w' => w'.cell? ⟨w.heap.size, 0, none⟩ = some (.int .i64 P) ∧ w'.cell? ⟨w.heap.size, 1, none⟩ = some (.int .i64 C) ∧ w'.cell? ⟨w.heap.size, 2, none⟩ = some (.int .i64 M)) (by kernel_rfl) (HF.out _ (Off.refl [] W1).drew) (fun hHeld => ?_)
      have o := (Off.refl [] W1).drew
      refine wpAnyH_take (i := 0) (v := ?_) rfl (by kernel_rfl) (by kernel_rfl) (by kernel_rfl) (fun _ _ _ h => h) (Or.inl ⟨by rfl, ?_⟩) (by assumption) ?_
      rotate_left
      · intro w hSw
        try dsimp only at hSw
        go_simp
        first | done | with_reducible rfl
      try simp only [List.getElem_toArray, List.getElem_cons_zero, Act.put, List.setIfInBounds_toArray, List.set_cons_zero, List.set_cons_succ]
      refine wpAnyH_take (i := 1) (v := ?_) rfl (by kernel_rfl) (by kernel_rfl) (by kernel_rfl) (fun _ _ _ h => h) (Or.inl ⟨by rfl, ?_⟩) (by assumption) ?_
      rotate_left
      · intro w hSw
        try dsimp only at hSw
        go_simp
        first | done | with_reducible rfl
      try simp only [List.getElem_toArray, List.getElem_cons_succ, List.getElem_cons_zero, Act.put, List.setIfInBounds_toArray, List.set_cons_zero, List.set_cons_succ]
      refine wpAnyH_take (i := 2) (v := ?_) rfl (by kernel_rfl) (by kernel_rfl) (by kernel_rfl) (fun _ _ _ h => h) (Or.inl ⟨by rfl, ?_⟩) (by assumption) ?_
      rotate_left
      · intro w hSw
        try dsimp only at hSw
        go_simp
        first | done | with_reducible rfl
      try simp only [List.getElem_toArray, List.getElem_cons_succ, List.getElem_cons_zero, Act.put, List.setIfInBounds_toArray, List.set_cons_zero, List.set_cons_succ]
      refine wpAnyH_take (i := 3) (v := ?_) rfl (by kernel_rfl) (by kernel_rfl) (by kernel_rfl) (fun _ _ _ h => h) (Or.inl ⟨by rfl, ?_⟩) (by assumption) ?_
      rotate_left
      · intro w hSw
        try dsimp only at hSw
        go_simp
        first | done | with_reducible rfl
      try simp only [List.getElem_toArray, List.getElem_cons_succ, List.getElem_cons_zero, Act.put, List.setIfInBounds_toArray, List.set_cons_zero, List.set_cons_succ]
      refine wpAnyH_take (i := 4) (v := ?_) rfl (by kernel_rfl) (by kernel_rfl) (by kernel_rfl) (fun _ _ _ h => h) (Or.inl ⟨by rfl, ?_⟩) (by assumption) ?_
      rotate_left
      · intro w hSw
        try dsimp only at hSw
        go_simp
        first | done | with_reducible rfl
      try simp only [List.getElem_toArray, List.getElem_cons_succ, List.getElem_cons_zero, Act.put, List.setIfInBounds_toArray, List.set_cons_zero, List.set_cons_succ]
      refine wpAnyH_ready (rs := [5]) (by kernel_rfl) (by simp) (AllReadyH.cons rfl (fun K hK => ?_) AllReadyH.nil)
      go_simp
      go_wp2_with (go_at_call 42; refine (good_any _ _ _ _ _).mono ?_; rintro e W2 ⟨rfl, oc⟩; rw [HG.out])
      refine hK.out _ _ (HF.out _ (o.trans oc)) (fun hHeld => ?_)
      clear hK K
      try simp only [List.getElem_toArray, List.getElem_cons_succ, List.getElem_cons_zero, Act.put, List.setIfInBounds_toArray, List.set_cons_zero, List.set_cons_succ]
      replace o := o.trans oc
      clear oc
      refine wpAnyH_take (i := 6) (v := ?_) rfl (by kernel_rfl) (by kernel_rfl) (by kernel_rfl) (fun _ _ _ h => h) (Or.inl ⟨by rfl, ?_⟩) (by assumption) ?_
      rotate_left
      · intro w hSw
        try dsimp only at hSw
        go_simp
        first | done | with_reducible rfl
      try simp only [List.getElem_toArray, List.getElem_cons_succ, List.getElem_cons_zero, Act.put, List.setIfInBounds_toArray, List.set_cons_zero, List.set_cons_succ]
      refine wpAnyH_take (i := 7) (v := ?_) rfl (by kernel_rfl) (by kernel_rfl) (by kernel_rfl) (fun _ _ _ h => h) (Or.inl ⟨by rfl, ?_⟩) (by assumption) ?_
      rotate_left
      · intro w hSw
        try dsimp only at hSw
        go_simp
        first | done | with_reducible rfl
      try simp only [List.getElem_toArray, List.getElem_cons_succ, List.getElem_cons_zero, Act.put, List.setIfInBounds_toArray, List.set_cons_zero, List.set_cons_succ]
      refine wpAnyH_take (i := 8) (v := ?_) rfl (by kernel_rfl) (by kernel_rfl) (by kernel_rfl) (fun _ _ _ h => h) (Or.inl ⟨by rfl, ?_⟩) (by assumption) ?_
      rotate_left
      · intro w hSw
        try dsimp only at hSw
        go_simp
        first | done | with_reducible rfl
      try simp only [List.getElem_toArray, List.getElem_cons_succ, List.getElem_cons_zero, Act.put, List.setIfInBounds_toArray, List.set_cons_zero, List.set_cons_succ]
      refine wpAnyH_ready (rs := [9]) (by kernel_rfl) (by simp) (AllReadyH.cons rfl (fun K hK => ?_) AllReadyH.nil)
      go_simp
      go_wp2_with (go_at_call 43; refine (rslots_any _ _).mono ?_; rintro e W3 ⟨rfl, rfl⟩)
      refine hK.out _ _ (HF.out _ o) (fun hHeld => ?_)
      clear hK K
      try simp only [List.getElem_toArray, List.getElem_cons_succ, List.getElem_cons_zero, Act.put, List.setIfInBounds_toArray, List.set_cons_zero, List.set_cons_succ]
      refine wpAnyH_take (i := 10) (v := ?_) rfl (by kernel_rfl) (by kernel_rfl) (by kernel_rfl) (fun _ _ _ h => h) (Or.inl ⟨by rfl, ?_⟩) (by assumption) ?_
      rotate_left
      · intro w hSw
        try dsimp only at hSw
        go_simp
        first | done | with_reducible rfl
      try simp only [List.getElem_toArray, List.getElem_cons_succ, List.getElem_cons_zero, Act.put, List.setIfInBounds_toArray, List.set_cons_zero, List.set_cons_succ]
      refine wpAnyH_take (i := 11) (v := ?_) rfl (by kernel_rfl) (by kernel_rfl) (by kernel_rfl) (fun _ _ _ h => h) (Or.inl ⟨by rfl, ?_⟩) (by assumption) ?_
      rotate_left
      · intro w hSw
        try dsimp only at hSw
        go_simp
        first | done | with_reducible rfl
      try simp only [List.getElem_toArray, List.getElem_cons_succ, List.getElem_cons_zero, Act.put, List.setIfInBounds_toArray, List.set_cons_zero, List.set_cons_succ]
      refine wpAnyH_take (i := 12) (v := ?_) rfl (by kernel_rfl) (by kernel_rfl) (by kernel_rfl) (fun _ _ _ h => h) (Or.inl ⟨by rfl, ?_⟩) (by assumption) ?_
      rotate_left
      · intro w hSw
        try dsimp only at hSw
        go_simp
        first | done | with_reducible rfl
      try simp only [List.getElem_toArray, List.getElem_cons_succ, List.getElem_cons_zero, Act.put, List.setIfInBounds_toArray, List.set_cons_zero, List.set_cons_succ]
      refine wpAnyH_take (i := 13) (v := ?_) rfl (by kernel_rfl) (by kernel_rfl) (by kernel_rfl) (fun _ _ _ h => h) (Or.inl ⟨by rfl, ?_⟩) (by assumption) ?_
      rotate_left
      · intro w hSw
        try dsimp only at hSw
        go_simp
        first | done | with_reducible rfl
      try simp only [List.getElem_toArray, List.getElem_cons_succ, List.getElem_cons_zero, Act.put, List.setIfInBounds_toArray, List.set_cons_zero, List.set_cons_succ]
      refine wpAnyH_take (i := 14) (v := ?_) rfl (by kernel_rfl) (by kernel_rfl) (by kernel_rfl) (fun _ _ _ h => h) (Or.inl ⟨by rfl, ?_⟩) (by assumption) ?_
      rotate_left
      · intro w hSw
        try dsimp only at hSw
        go_simp
        first | done | with_reducible rfl
      try simp only [List.getElem_toArray, List.getElem_cons_succ, List.getElem_cons_zero, Act.put, List.setIfInBounds_toArray, List.set_cons_zero, List.set_cons_succ]
      refine wpAnyH_take (i := 15) (v := ?_) rfl (by kernel_rfl) (by kernel_rfl) (by kernel_rfl) (fun _ _ _ h => h) (Or.inl ⟨by rfl, ?_⟩) (by assumption) ?_
      rotate_left
      · intro w hSw
        try dsimp only at hSw
        go_simp
        first | done | with_reducible rfl
      try simp only [List.getElem_toArray, List.getElem_cons_succ, List.getElem_cons_zero, Act.put, List.setIfInBounds_toArray, List.set_cons_zero, List.set_cons_succ]
      refine wpAnyH_take (i := 16) (v := ?_) rfl (by kernel_rfl) (by kernel_rfl) (by kernel_rfl) (fun _ _ _ h => h) (Or.inl ⟨by rfl, ?_⟩) (by assumption) ?_
      rotate_left
      · intro w hSw
        try dsimp only at hSw
        go_simp
        first | done | with_reducible rfl
      try simp only [List.getElem_toArray, List.getElem_cons_succ, List.getElem_cons_zero, Act.put, List.setIfInBounds_toArray, List.set_cons_zero, List.set_cons_succ]
      refine wpAnyH_take (i := 17) (v := ?_) rfl (by kernel_rfl) (by kernel_rfl) (by kernel_rfl) (fun _ _ _ h => h) (Or.inl ⟨by rfl, ?_⟩) (by assumption) ?_
      rotate_left
      · intro w hSw
        try dsimp only at hSw
        go_simp
        first | done | with_reducible rfl
      try simp only [List.getElem_toArray, List.getElem_cons_succ, List.getElem_cons_zero, Act.put, List.setIfInBounds_toArray, List.set_cons_zero, List.set_cons_succ]
      refine wpAnyH_ready (rs := [18]) (by kernel_rfl) (by simp) (AllReadyH.cons rfl (fun K hK => ?_) AllReadyH.nil)
      go_simp
      refine hK.out _ _ (HF.out _ (o.alloc _)) (fun hHeld => ?_)
      clear hK K
      try simp only [List.getElem_toArray, List.getElem_cons_succ, List.getElem_cons_zero, Act.put, List.setIfInBounds_toArray, List.set_cons_zero, List.set_cons_succ]
      refine wpAnyH_take (i := 19) (v := ?_) rfl (by kernel_rfl) (by kernel_rfl) (by kernel_rfl) (fun _ _ _ h => h) (Or.inl ⟨by rfl, ?_⟩) (by assumption) ?_
      rotate_left
      · intro w hSw
        try dsimp only at hSw
        go_simp
        first | done | with_reducible rfl
      try simp only [List.getElem_toArray, List.getElem_cons_succ, List.getElem_cons_zero, Act.put, List.setIfInBounds_toArray, List.set_cons_zero, List.set_cons_succ]
      refine wpAnyH_done (by kernel_rfl) ?_ _
      refine NoPanic.normal ?_
      go_wp2_with fail
      go_ret
      exact ⟨⟨_, rfl, (Blk.new _ _ _).to (by rw [HV.out]; rfl), by have := HOW.out.size; have := o.size; omega⟩, (HOW.out.trans o).alloc _⟩

/-- The document's words and its taker, while it steps. -/
structure RP (w : World) (base gm hm gt : Nat) (t : Tk) (s : St) (W : World) : Prop where
  m : IsM W base gm hm s
  b : IsRT W gt t
  sv : Save [gm, hm] base w W
section
variable {w W W' : World} {base gm hm gt : Nat} {t : Tk} {s s' : St}
theorem RP.off (h : RP w base gm hm gt t s W) (o : Off [] W W') : RP w base gm hm gt t s W' := ⟨h.m.off0 o, o.blk h.b (by simp), h.sv.trans ((Save.of_off o base).more (by simp))⟩
theorem RP.ne (h : RP w base gm hm gt t s W) : gt ∉ [gm, hm] := by
  obtain ⟨cs, hb⟩ := h.m.blk
  have h1 := h.b.ne hb (by decide)
  have h2 := h.b.ne h.m.row (by decide)
  simp [h1, h2]
theorem RP.load (h : RP w base gm hm gt t s W) (hm' : IsM W' base gm hm s') (hs : Save [gm, hm] base W W') : RP w base gm hm gt t s' W' := ⟨hm', hs.blk h.b h.ne (by decide), h.sv.trans hs⟩
theorem RP.fresh (h : RP w base gm hm gt t s W) : gm < W.heap.size ∧ hm < W.heap.size ∧ gt < W.heap.size ∧ w.heap.size ≤ W.heap.size := by
  obtain ⟨cs, hb⟩ := h.m.blk
  exact ⟨hb.lt, h.m.row.lt, h.b.lt, h.sv.size⟩
theorem RP.set3 (h : RP w base gm hm gt t s W) {x : Nat} {cs : Array Value} (hx : Blk W x 30 cs) (hg : gm < x ∧ hm < x ∧ gt < x ∧ w.heap.size ≤ x) {u0 u1 u2 : Value} :
    RP w base gm hm gt t s (((W.setCell ⟨x, 0, none⟩ u0).setCell ⟨x, 1, none⟩ u1).setCell ⟨x, 2, none⟩ u2) := by
  have o : Off [x] W (((W.setCell ⟨x, 0, none⟩ u0).setCell ⟨x, 1, none⟩ u1).setCell ⟨x, 2, none⟩ u2) := (((Off.refl _ _).set (.inl (by simp)) _).set (.inl (by simp)) _).set (.inl (by simp)) _
  refine ⟨h.m.off o (by simp; omega) (by simp; omega) (fun k hk => ?_), o.blk h.b (by simp; omega), ?_⟩
  · simp only [List.mem_singleton] at hk
    subst hk
    exact ⟨_, _, hx, by decide⟩
  · refine ⟨o.os.trans h.sv.os, o.tape.trans h.sv.tape, o.output.trans h.sv.output, Nat.le_trans h.sv.size o.size, fun k hk hn hb => ?_⟩
    exact (o.block k (Nat.lt_of_lt_of_le hk h.sv.size) (by simp; omega)).trans (h.sv.block k hk hn hb)
theorem RP.cells (h : RP w base gm hm gt t s W) : (W.cell? ⟨gt, 0, none⟩ = some (.int .i64 t.P) ∧ W.cell? ⟨gt, 1, none⟩ = some (.int .i64 t.C) ∧ W.cell? ⟨gt, 2, none⟩ = some (.int .i64 t.M)) ∧ W.cell? ⟨gt, 3, none⟩ = some (.int .i64 t.c) ∧ W.cell? ⟨gt, 5, none⟩ = some (.int .i64 t.i) :=
  ⟨⟨h.b.cell 0, h.b.cell 1, h.b.cell 2⟩, h.b.cell 3, h.b.cell 5⟩
end

theorem rt_cells {w : World} {g : Nat} {t : Tk} (h : IsRT w g t) : (w.cell? ⟨g, 0, none⟩ = some (.int .i64 t.P) ∧ w.cell? ⟨g, 1, none⟩ = some (.int .i64 t.C) ∧ w.cell? ⟨g, 2, none⟩ = some (.int .i64 t.M)) ∧ w.cell? ⟨g, 3, none⟩ = some (.int .i64 t.c) ∧ w.cell? ⟨g, 4, none⟩ = some (.int .i64 t.k) ∧
    w.cell? ⟨g, 5, none⟩ = some (.int .i64 t.i) ∧ (w.cell? ⟨g, 6, none⟩ = some (.int .i64 t.page) ∧ w.cell? ⟨g, 7, none⟩ = some (.int .i64 t.slot) ∧ w.cell? ⟨g, 8, none⟩ = some (.int .i64 (if t.hit = true then t.k else 0))) ∧
    w.cell? ⟨g, 9, none⟩ = some (.bool t.found) ∧ w.cell? ⟨g, 10, none⟩ = some (.bool t.over) ∧ w.cell? ⟨g, 11, none⟩ = some (.bool t.hit) :=
  ⟨⟨h.cell 0, h.cell 1, h.cell 2⟩, h.cell 3, h.cell 4, h.cell 5, ⟨h.cell 6, h.cell 7, h.cell 8⟩, h.cell 9, h.cell 10, h.cell 11⟩

theorem rtaker_over {w : World} {gt gm : Nat} {t : Tk} (hT : IsRT w gt t) (ho : t.over = true) :
    Calls Try.prog 24 #[.pointer (some ⟨gt, 0, none⟩), .pointer (some ⟨gm, 0, none⟩)] w fun e w' => e = .returned (.tuple #[]) ∧ w = w' := by
  obtain ⟨-, -, -, -, -, -, c10, -⟩ := rt_cells hT
  rw [ho] at c10
  clear hT ho
  go_enter Try.func24, Try.ntmps24
  go_wp2
  go_end0
  exact ⟨rfl, rfl⟩

theorem rtaker_hit {w : World} {base gt gm hm k : Nat} {t : Tk} {s : St} (hp : RP w base gm hm gt t s w) (ho : t.over = false) (hh : t.hit = true) (hat : magI t.P t.C t.M t.c t.i = (k : Int)) (hk : k < s.row.length) (hs0 : 0 ≤ s.steps) (hs1 : s.steps < 900) :
    Calls Try.prog 24 #[.pointer (some ⟨gt, 0, none⟩), .pointer (some ⟨gm, 0, none⟩)] w fun e w' => e = .returned (.tuple #[]) ∧ ∃ w3, RP w base gm hm gt t ((s.note ⟨t.c, 1, k, s.at k, 0, true⟩).lay k 0) w3 ∧ w' = (w3.setCell ⟨gt, 9, none⟩ (.bool true)).setCell ⟨gt, 10, none⟩ (.bool true) := by
  obtain ⟨⟨c0, c1, c2⟩, c3, -, c5, -, -, c10, c11⟩ := rt_cells hp.b
  rw [ho] at c10
  rw [hh] at c11
  have HAT := Lib.hid hat
  have HP := Lib.hid hp
  clear hp ho hh hat c0 c1 c2 c3 c5
  go_enter Try.func24, Try.ntmps24
  go_upto_region 7 with fail
  refine wp_region_noPanic ?_
  refine wp_region_held_drew (S := fun w' => (w'.cell? ⟨gt, 0, none⟩ = some (.int .i64 t.P) ∧ w'.cell? ⟨gt, 1, none⟩ = some (.int .i64 t.C) ∧ w'.cell? ⟨gt, 2, none⟩ = some (.int .i64 t.M)) ∧ w'.cell? ⟨gt, 3, none⟩ = some (.int .i64 t.c) ∧ w'.cell? ⟨gt, 5, none⟩ = some (.int .i64 t.i)) (by kernel_rfl) (HP.out.off (Off.refl [] w).drew).cells (fun hHeld => ?_)
  have hp := HP.out.off (Off.refl [] w).drew
  refine wpAnyH_take (i := 0) (v := ?_) rfl (by kernel_rfl) (by kernel_rfl) (by kernel_rfl) (fun _ _ _ h => h) (Or.inl ⟨by rfl, ?_⟩) (by assumption) ?_
  rotate_left
  · intro w hSw
    try dsimp only at hSw
    go_simp
    first | done | with_reducible rfl
  try simp only [List.getElem_toArray, List.getElem_cons_zero, Act.put, List.setIfInBounds_toArray, List.set_cons_zero, List.set_cons_succ]
  refine wpAnyH_take (i := 1) (v := ?_) rfl (by kernel_rfl) (by kernel_rfl) (by kernel_rfl) (fun _ _ _ h => h) (Or.inl ⟨by rfl, ?_⟩) (by assumption) ?_
  rotate_left
  · intro w hSw
    try dsimp only at hSw
    go_simp
    first | done | with_reducible rfl
  try simp only [List.getElem_toArray, List.getElem_cons_succ, List.getElem_cons_zero, Act.put, List.setIfInBounds_toArray, List.set_cons_zero, List.set_cons_succ]
  refine wpAnyH_take (i := 2) (v := ?_) rfl (by kernel_rfl) (by kernel_rfl) (by kernel_rfl) (fun _ _ _ h => h) (Or.inl ⟨by rfl, ?_⟩) (by assumption) ?_
  rotate_left
  · intro w hSw
    try dsimp only at hSw
    go_simp
    first | done | with_reducible rfl
  try simp only [List.getElem_toArray, List.getElem_cons_succ, List.getElem_cons_zero, Act.put, List.setIfInBounds_toArray, List.set_cons_zero, List.set_cons_succ]
  refine wpAnyH_take (i := 3) (v := ?_) rfl (by kernel_rfl) (by kernel_rfl) (by kernel_rfl) (fun _ _ _ h => h) (Or.inl ⟨by rfl, ?_⟩) (by assumption) ?_
  rotate_left
  · intro w hSw
    try dsimp only at hSw
    go_simp
    first | done | with_reducible rfl
  try simp only [List.getElem_toArray, List.getElem_cons_succ, List.getElem_cons_zero, Act.put, List.setIfInBounds_toArray, List.set_cons_zero, List.set_cons_succ]
  refine wpAnyH_take (i := 4) (v := ?_) rfl (by kernel_rfl) (by kernel_rfl) (by kernel_rfl) (fun _ _ _ h => h) (Or.inl ⟨by rfl, ?_⟩) (by assumption) ?_
  rotate_left
  · intro w hSw
    try dsimp only at hSw
    go_simp
    first | done | with_reducible rfl
  try simp only [List.getElem_toArray, List.getElem_cons_succ, List.getElem_cons_zero, Act.put, List.setIfInBounds_toArray, List.set_cons_zero, List.set_cons_succ]
  refine wpAnyH_take (i := 5) (v := ?_) rfl (by kernel_rfl) (by kernel_rfl) (by kernel_rfl) (fun _ _ _ h => h) (Or.inl ⟨by rfl, ?_⟩) (by assumption) ?_
  rotate_left
  · intro w hSw
    try dsimp only at hSw
    go_simp
    first | done | with_reducible rfl
  try simp only [List.getElem_toArray, List.getElem_cons_succ, List.getElem_cons_zero, Act.put, List.setIfInBounds_toArray, List.set_cons_zero, List.set_cons_succ]
  refine wpAnyH_take (i := 6) (v := ?_) rfl (by kernel_rfl) (by kernel_rfl) (by kernel_rfl) (fun _ _ _ h => h) (Or.inl ⟨by rfl, ?_⟩) (by assumption) ?_
  rotate_left
  · intro w hSw
    try dsimp only at hSw
    go_simp
    first | done | with_reducible rfl
  try simp only [List.getElem_toArray, List.getElem_cons_succ, List.getElem_cons_zero, Act.put, List.setIfInBounds_toArray, List.set_cons_zero, List.set_cons_succ]
  refine wpAnyH_take (i := 7) (v := ?_) rfl (by kernel_rfl) (by kernel_rfl) (by kernel_rfl) (fun _ _ _ h => h) (Or.inl ⟨by rfl, ?_⟩) (by assumption) ?_
  rotate_left
  · intro w hSw
    try dsimp only at hSw
    go_simp
    first | done | with_reducible rfl
  try simp only [List.getElem_toArray, List.getElem_cons_succ, List.getElem_cons_zero, Act.put, List.setIfInBounds_toArray, List.set_cons_zero, List.set_cons_succ]
  refine wpAnyH_take (i := 8) (v := ?_) rfl (by kernel_rfl) (by kernel_rfl) (by kernel_rfl) (fun _ _ _ h => h) (Or.inl ⟨by rfl, ?_⟩) (by assumption) ?_
  rotate_left
  · intro w hSw
    try dsimp only at hSw
    go_simp
    first | done | with_reducible rfl
  try simp only [List.getElem_toArray, List.getElem_cons_succ, List.getElem_cons_zero, Act.put, List.setIfInBounds_toArray, List.set_cons_zero, List.set_cons_succ]
  refine wpAnyH_take (i := 9) (v := ?_) rfl (by kernel_rfl) (by kernel_rfl) (by kernel_rfl) (fun _ _ _ h => h) (Or.inl ⟨by rfl, ?_⟩) (by assumption) ?_
  rotate_left
  · intro w hSw
    try dsimp only at hSw
    go_simp
    first | done | with_reducible rfl
  try simp only [List.getElem_toArray, List.getElem_cons_succ, List.getElem_cons_zero, Act.put, List.setIfInBounds_toArray, List.set_cons_zero, List.set_cons_succ]
  refine wpAnyH_take (i := 10) (v := ?_) rfl (by kernel_rfl) (by kernel_rfl) (by kernel_rfl) (fun _ _ _ h => h) (Or.inl ⟨by rfl, ?_⟩) (by assumption) ?_
  rotate_left
  · intro w hSw
    try dsimp only at hSw
    go_simp
    first | done | with_reducible rfl
  try simp only [List.getElem_toArray, List.getElem_cons_succ, List.getElem_cons_zero, Act.put, List.setIfInBounds_toArray, List.set_cons_zero, List.set_cons_succ]
  refine wpAnyH_take (i := 11) (v := ?_) rfl (by kernel_rfl) (by kernel_rfl) (by kernel_rfl) (fun _ _ _ h => h) (Or.inl ⟨by rfl, ?_⟩) (by assumption) ?_
  rotate_left
  · intro w hSw
    try dsimp only at hSw
    go_simp
    first | done | with_reducible rfl
  try simp only [List.getElem_toArray, List.getElem_cons_succ, List.getElem_cons_zero, Act.put, List.setIfInBounds_toArray, List.set_cons_zero, List.set_cons_succ]
  refine wpAnyH_take (i := 12) (v := ?_) rfl (by kernel_rfl) (by kernel_rfl) (by kernel_rfl) (fun _ _ _ h => h) (Or.inl ⟨by rfl, ?_⟩) (by assumption) ?_
  rotate_left
  · intro w hSw
    try dsimp only at hSw
    go_simp
    first | done | with_reducible rfl
  try simp only [List.getElem_toArray, List.getElem_cons_succ, List.getElem_cons_zero, Act.put, List.setIfInBounds_toArray, List.set_cons_zero, List.set_cons_succ]
  refine wpAnyH_take (i := 13) (v := ?_) rfl (by kernel_rfl) (by kernel_rfl) (by kernel_rfl) (fun _ _ _ h => h) (Or.inl ⟨by rfl, ?_⟩) (by assumption) ?_
  rotate_left
  · intro w hSw
    try dsimp only at hSw
    go_simp
    first | done | with_reducible rfl
  try simp only [List.getElem_toArray, List.getElem_cons_succ, List.getElem_cons_zero, Act.put, List.setIfInBounds_toArray, List.set_cons_zero, List.set_cons_succ]
  refine wpAnyH_take (i := 14) (v := ?_) rfl (by kernel_rfl) (by kernel_rfl) (by kernel_rfl) (fun _ _ _ h => h) (Or.inl ⟨by rfl, ?_⟩) (by assumption) ?_
  rotate_left
  · intro w hSw
    try dsimp only at hSw
    go_simp
    first | done | with_reducible rfl
  try simp only [List.getElem_toArray, List.getElem_cons_succ, List.getElem_cons_zero, Act.put, List.setIfInBounds_toArray, List.set_cons_zero, List.set_cons_succ]
  refine wpAnyH_take (i := 15) (v := ?_) rfl (by kernel_rfl) (by kernel_rfl) (by kernel_rfl) (fun _ _ _ h => h) (Or.inl ⟨by rfl, ?_⟩) (by assumption) ?_
  rotate_left
  · intro w hSw
    try dsimp only at hSw
    go_simp
    first | done | with_reducible rfl
  try simp only [List.getElem_toArray, List.getElem_cons_succ, List.getElem_cons_zero, Act.put, List.setIfInBounds_toArray, List.set_cons_zero, List.set_cons_succ]
  refine wpAnyH_take (i := 16) (v := ?_) rfl (by kernel_rfl) (by kernel_rfl) (by kernel_rfl) (fun _ _ _ h => h) (Or.inl ⟨by rfl, ?_⟩) (by assumption) ?_
  rotate_left
  · intro w hSw
    try dsimp only at hSw
    go_simp
    first | done | with_reducible rfl
  try simp only [List.getElem_toArray, List.getElem_cons_succ, List.getElem_cons_zero, Act.put, List.setIfInBounds_toArray, List.set_cons_zero, List.set_cons_succ]
  refine wpAnyH_ready (rs := [17]) (by kernel_rfl) (by simp) (AllReadyH.cons rfl (fun K hK => ?_) AllReadyH.nil)
  go_simp
  go_wp2_with (go_at_call 27; refine (rmag_any _ _ _ _ _ _).mono ?_; rintro e W_1 ⟨rfl, oc⟩; rw [HAT.out])
  refine hK.out _ _ (hp.off oc).cells (fun hHeld => ?_)
  clear hK K
  try simp only [List.getElem_toArray, List.getElem_cons_succ, List.getElem_cons_zero, Act.put, List.setIfInBounds_toArray, List.set_cons_zero, List.set_cons_succ]
  replace hp := hp.off oc
  clear oc
  refine wpAnyH_ready (rs := [18]) (by kernel_rfl) (by simp) (AllReadyH.cons rfl (fun K hK => ?_) AllReadyH.nil)
  go_simp
  go_wp2_with (go_at_call 44; refine (rstore_in hp.m t.c 0 k hk hs0 hs1).mono ?_; rintro e W_2 ⟨rfl, hmn, hsv⟩)
  refine hK.out _ _ (hp.load hmn hsv).cells (fun hHeld => ?_)
  clear hK K
  try simp only [List.getElem_toArray, List.getElem_cons_succ, List.getElem_cons_zero, Act.put, List.setIfInBounds_toArray, List.set_cons_zero, List.set_cons_succ]
  replace hp := hp.load hmn hsv
  clear hmn hsv
  refine wpAnyH_done (by kernel_rfl) ?_ _
  refine NoPanic.normal ?_
  have HP3 := Lib.hid hp
  have c9 := HP3.out.b.cell 9
  have z9 := HP3.out.b.free 9
  have c10 := HP3.out.b.cell 10
  have z10 := HP3.out.b.free 10
  clear hp
  go_wp2_with fail
  go_end0
  exact ⟨rfl, _, HP3.out, rfl⟩

/-- What is stored behind the load. -/
def RtEnd (t : Tk) (x : Int) (gt : Nat) (w3 w' : World) : Prop :=
  (t.hits x = true → w' = (((w3.setCell ⟨gt, 6, none⟩ (.int .i64 (aI x))).setCell ⟨gt, 7, none⟩ (.int .i64 (bI x))).setCell ⟨gt, 8, none⟩ (.int .i64 t.k)).setCell ⟨gt, 11, none⟩ (.bool true)) ∧
  (t.hits x = false → w' = (w3.setCell ⟨gt, 5, none⟩ (.int .i64 ((t.i : Int) + 1))).setCell ⟨gt, 10, none⟩ (.bool ((t.i : Int) + 1 == t.M)))
theorem rtaker_load {w : World} {base gt gm hm k : Nat} {t : Tk} {s : St} (hp : RP w base gm hm gt t s w) (ho : t.over = false) (hh : t.hit = false) (hat : magI t.P t.C t.M t.c t.i = (k : Int)) (hk : k < s.row.length) (hs0 : 0 ≤ s.steps) (hs1 : s.steps < 900)
    (hx : 0 ≤ s.at k ∧ s.at k < 18446744073709551616) (hi : (t.i : Int) < 8) :
    Calls Try.prog 24 #[.pointer (some ⟨gt, 0, none⟩), .pointer (some ⟨gm, 0, none⟩)] w fun e w' => e = .returned (.tuple #[]) ∧ ∃ w3, RP w base gm hm gt t (s.note ⟨t.c, 0, k, s.at k, 0, true⟩) w3 ∧
      RtEnd t (s.at k) gt w3 w' := by
  obtain ⟨-, -, -, -, -, -, c10, c11⟩ := rt_cells hp.b
  rw [ho] at c10
  rw [hh] at c11
  have HAT := Lib.hid hat
  have HX := Lib.hid hx
  obtain ⟨p0, p1, p2, rb, hE⟩ : ∃ p0 p1 p2 rb, entryV t.P t.C t.M (s.at k) = .agg #[.int .i64 p0, .int .i64 p1, .int .i64 p2] ∧ readEntryB t.P t.C t.M (s.at k) = rb ∧ (rb = true → p0 = aI (s.at k) ∧ p1 = bI (s.at k) ∧ p2 = cI (s.at k)) := by
    unfold entryV
    cases h : readEntryB t.P t.C t.M (s.at k)
    · exact ⟨0, 0, 0, false, rfl, rfl, fun h => (by cases h)⟩
    · exact ⟨_, _, _, true, rfl, rfl, fun _ => ⟨rfl, rfl, rfl⟩⟩
  have HE := Lib.hid (And.intro hE.1 hE.2.1)
  have HPP := Lib.hid hE.2.2
  have HH := Lib.hid hh
  clear hE hx hat ho hh
  go_enter Try.func24, Try.ntmps24
  go_upto_region 0 with fail
  clear c10 c11
  refine at_worldM (R := fun W' => RP w base gm hm gt t s W') hp ?_
  clear hp
  rintro W1 hp
  go_cut [4, 5] from 6 to 33 (fun bp ok wx => ∃ x, bp = .pointer (some ⟨x, 0, none⟩) ∧ ok = .bool rb ∧ Blk wx x 30 #[.int .i64 p0, .int .i64 p1, .int .i64 p2] ∧ RP w base gm hm gt t (s.note ⟨t.c, 0, k, s.at k, 0, true⟩) wx)
  case first =>
    replace hp := hp.off (Off.refl [] W1).drew
    refine wp_region_noPanic ?_
    refine wp_region_held_drew (S := fun w' => (w'.cell? ⟨gt, 0, none⟩ = some (.int .i64 t.P) ∧ w'.cell? ⟨gt, 1, none⟩ = some (.int .i64 t.C) ∧ w'.cell? ⟨gt, 2, none⟩ = some (.int .i64 t.M)) ∧ w'.cell? ⟨gt, 3, none⟩ = some (.int .i64 t.c) ∧ w'.cell? ⟨gt, 5, none⟩ = some (.int .i64 t.i)) (by kernel_rfl) hp.cells (fun hHeld => ?_)
    refine wpAnyH_take (i := 0) (v := ?_) rfl (by kernel_rfl) (by kernel_rfl) (by kernel_rfl) (fun _ _ _ h => h) (Or.inl ⟨by rfl, ?_⟩) (by assumption) ?_
    rotate_left
    · intro w hSw
      try dsimp only at hSw
      go_simp
      first | done | with_reducible rfl
    try simp only [List.getElem_toArray, List.getElem_cons_zero, Act.put, List.setIfInBounds_toArray, List.set_cons_zero, List.set_cons_succ]
    refine wpAnyH_take (i := 1) (v := ?_) rfl (by kernel_rfl) (by kernel_rfl) (by kernel_rfl) (fun _ _ _ h => h) (Or.inl ⟨by rfl, ?_⟩) (by assumption) ?_
    rotate_left
    · intro w hSw
      try dsimp only at hSw
      go_simp
      first | done | with_reducible rfl
    try simp only [List.getElem_toArray, List.getElem_cons_succ, List.getElem_cons_zero, Act.put, List.setIfInBounds_toArray, List.set_cons_zero, List.set_cons_succ]
    refine wpAnyH_take (i := 2) (v := ?_) rfl (by kernel_rfl) (by kernel_rfl) (by kernel_rfl) (fun _ _ _ h => h) (Or.inl ⟨by rfl, ?_⟩) (by assumption) ?_
    rotate_left
    · intro w hSw
      try dsimp only at hSw
      go_simp
      first | done | with_reducible rfl
    try simp only [List.getElem_toArray, List.getElem_cons_succ, List.getElem_cons_zero, Act.put, List.setIfInBounds_toArray, List.set_cons_zero, List.set_cons_succ]
    refine wpAnyH_take (i := 3) (v := ?_) rfl (by kernel_rfl) (by kernel_rfl) (by kernel_rfl) (fun _ _ _ h => h) (Or.inl ⟨by rfl, ?_⟩) (by assumption) ?_
    rotate_left
    · intro w hSw
      try dsimp only at hSw
      go_simp
      first | done | with_reducible rfl
    try simp only [List.getElem_toArray, List.getElem_cons_succ, List.getElem_cons_zero, Act.put, List.setIfInBounds_toArray, List.set_cons_zero, List.set_cons_succ]
    refine wpAnyH_take (i := 4) (v := ?_) rfl (by kernel_rfl) (by kernel_rfl) (by kernel_rfl) (fun _ _ _ h => h) (Or.inl ⟨by rfl, ?_⟩) (by assumption) ?_
    rotate_left
    · intro w hSw
      try dsimp only at hSw
      go_simp
      first | done | with_reducible rfl
    try simp only [List.getElem_toArray, List.getElem_cons_succ, List.getElem_cons_zero, Act.put, List.setIfInBounds_toArray, List.set_cons_zero, List.set_cons_succ]
    refine wpAnyH_take (i := 5) (v := ?_) rfl (by kernel_rfl) (by kernel_rfl) (by kernel_rfl) (fun _ _ _ h => h) (Or.inl ⟨by rfl, ?_⟩) (by assumption) ?_
    rotate_left
    · intro w hSw
      try dsimp only at hSw
      go_simp
      first | done | with_reducible rfl
    try simp only [List.getElem_toArray, List.getElem_cons_succ, List.getElem_cons_zero, Act.put, List.setIfInBounds_toArray, List.set_cons_zero, List.set_cons_succ]
    refine wpAnyH_take (i := 6) (v := ?_) rfl (by kernel_rfl) (by kernel_rfl) (by kernel_rfl) (fun _ _ _ h => h) (Or.inl ⟨by rfl, ?_⟩) (by assumption) ?_
    rotate_left
    · intro w hSw
      try dsimp only at hSw
      go_simp
      first | done | with_reducible rfl
    try simp only [List.getElem_toArray, List.getElem_cons_succ, List.getElem_cons_zero, Act.put, List.setIfInBounds_toArray, List.set_cons_zero, List.set_cons_succ]
    refine wpAnyH_take (i := 7) (v := ?_) rfl (by kernel_rfl) (by kernel_rfl) (by kernel_rfl) (fun _ _ _ h => h) (Or.inl ⟨by rfl, ?_⟩) (by assumption) ?_
    rotate_left
    · intro w hSw
      try dsimp only at hSw
      go_simp
      first | done | with_reducible rfl
    try simp only [List.getElem_toArray, List.getElem_cons_succ, List.getElem_cons_zero, Act.put, List.setIfInBounds_toArray, List.set_cons_zero, List.set_cons_succ]
    refine wpAnyH_take (i := 8) (v := ?_) rfl (by kernel_rfl) (by kernel_rfl) (by kernel_rfl) (fun _ _ _ h => h) (Or.inl ⟨by rfl, ?_⟩) (by assumption) ?_
    rotate_left
    · intro w hSw
      try dsimp only at hSw
      go_simp
      first | done | with_reducible rfl
    try simp only [List.getElem_toArray, List.getElem_cons_succ, List.getElem_cons_zero, Act.put, List.setIfInBounds_toArray, List.set_cons_zero, List.set_cons_succ]
    refine wpAnyH_take (i := 9) (v := ?_) rfl (by kernel_rfl) (by kernel_rfl) (by kernel_rfl) (fun _ _ _ h => h) (Or.inl ⟨by rfl, ?_⟩) (by assumption) ?_
    rotate_left
    · intro w hSw
      try dsimp only at hSw
      go_simp
      first | done | with_reducible rfl
    try simp only [List.getElem_toArray, List.getElem_cons_succ, List.getElem_cons_zero, Act.put, List.setIfInBounds_toArray, List.set_cons_zero, List.set_cons_succ]
    refine wpAnyH_take (i := 10) (v := ?_) rfl (by kernel_rfl) (by kernel_rfl) (by kernel_rfl) (fun _ _ _ h => h) (Or.inl ⟨by rfl, ?_⟩) (by assumption) ?_
    rotate_left
    · intro w hSw
      try dsimp only at hSw
      go_simp
      first | done | with_reducible rfl
    try simp only [List.getElem_toArray, List.getElem_cons_succ, List.getElem_cons_zero, Act.put, List.setIfInBounds_toArray, List.set_cons_zero, List.set_cons_succ]
    refine wpAnyH_take (i := 11) (v := ?_) rfl (by kernel_rfl) (by kernel_rfl) (by kernel_rfl) (fun _ _ _ h => h) (Or.inl ⟨by rfl, ?_⟩) (by assumption) ?_
    rotate_left
    · intro w hSw
      try dsimp only at hSw
      go_simp
      first | done | with_reducible rfl
    try simp only [List.getElem_toArray, List.getElem_cons_succ, List.getElem_cons_zero, Act.put, List.setIfInBounds_toArray, List.set_cons_zero, List.set_cons_succ]
    refine wpAnyH_take (i := 12) (v := ?_) rfl (by kernel_rfl) (by kernel_rfl) (by kernel_rfl) (fun _ _ _ h => h) (Or.inl ⟨by rfl, ?_⟩) (by assumption) ?_
    rotate_left
    · intro w hSw
      try dsimp only at hSw
      go_simp
      first | done | with_reducible rfl
    try simp only [List.getElem_toArray, List.getElem_cons_succ, List.getElem_cons_zero, Act.put, List.setIfInBounds_toArray, List.set_cons_zero, List.set_cons_succ]
    refine wpAnyH_take (i := 13) (v := ?_) rfl (by kernel_rfl) (by kernel_rfl) (by kernel_rfl) (fun _ _ _ h => h) (Or.inl ⟨by rfl, ?_⟩) (by assumption) ?_
    rotate_left
    · intro w hSw
      try dsimp only at hSw
      go_simp
      first | done | with_reducible rfl
    try simp only [List.getElem_toArray, List.getElem_cons_succ, List.getElem_cons_zero, Act.put, List.setIfInBounds_toArray, List.set_cons_zero, List.set_cons_succ]
    refine wpAnyH_take (i := 14) (v := ?_) rfl (by kernel_rfl) (by kernel_rfl) (by kernel_rfl) (fun _ _ _ h => h) (Or.inl ⟨by rfl, ?_⟩) (by assumption) ?_
    rotate_left
    · intro w hSw
      try dsimp only at hSw
      go_simp
      first | done | with_reducible rfl
    try simp only [List.getElem_toArray, List.getElem_cons_succ, List.getElem_cons_zero, Act.put, List.setIfInBounds_toArray, List.set_cons_zero, List.set_cons_succ]
    refine wpAnyH_take (i := 15) (v := ?_) rfl (by kernel_rfl) (by kernel_rfl) (by kernel_rfl) (fun _ _ _ h => h) (Or.inl ⟨by rfl, ?_⟩) (by assumption) ?_
    rotate_left
    · intro w hSw
      try dsimp only at hSw
      go_simp
      first | done | with_reducible rfl
    try simp only [List.getElem_toArray, List.getElem_cons_succ, List.getElem_cons_zero, Act.put, List.setIfInBounds_toArray, List.set_cons_zero, List.set_cons_succ]
    refine wpAnyH_take (i := 16) (v := ?_) rfl (by kernel_rfl) (by kernel_rfl) (by kernel_rfl) (fun _ _ _ h => h) (Or.inl ⟨by rfl, ?_⟩) (by assumption) ?_
    rotate_left
    · intro w hSw
      try dsimp only at hSw
      go_simp
      first | done | with_reducible rfl
    try simp only [List.getElem_toArray, List.getElem_cons_succ, List.getElem_cons_zero, Act.put, List.setIfInBounds_toArray, List.set_cons_zero, List.set_cons_succ]
    refine wpAnyH_take (i := 17) (v := ?_) rfl (by kernel_rfl) (by kernel_rfl) (by kernel_rfl) (fun _ _ _ h => h) (Or.inl ⟨by rfl, ?_⟩) (by assumption) ?_
    rotate_left
    · intro w hSw
      try dsimp only at hSw
      go_simp
      first | done | with_reducible rfl
    try simp only [List.getElem_toArray, List.getElem_cons_succ, List.getElem_cons_zero, Act.put, List.setIfInBounds_toArray, List.set_cons_zero, List.set_cons_succ]
    refine wpAnyH_take (i := 18) (v := ?_) rfl (by kernel_rfl) (by kernel_rfl) (by kernel_rfl) (fun _ _ _ h => h) (Or.inl ⟨by rfl, ?_⟩) (by assumption) ?_
    rotate_left
    · intro w hSw
      try dsimp only at hSw
      go_simp
      first | done | with_reducible rfl
    try simp only [List.getElem_toArray, List.getElem_cons_succ, List.getElem_cons_zero, Act.put, List.setIfInBounds_toArray, List.set_cons_zero, List.set_cons_succ]
    refine wpAnyH_take (i := 19) (v := ?_) rfl (by kernel_rfl) (by kernel_rfl) (by kernel_rfl) (fun _ _ _ h => h) (Or.inl ⟨by rfl, ?_⟩) (by assumption) ?_
    rotate_left
    · intro w hSw
      try dsimp only at hSw
      go_simp
      first | done | with_reducible rfl
    try simp only [List.getElem_toArray, List.getElem_cons_succ, List.getElem_cons_zero, Act.put, List.setIfInBounds_toArray, List.set_cons_zero, List.set_cons_succ]
    refine wpAnyH_take (i := 20) (v := ?_) rfl (by kernel_rfl) (by kernel_rfl) (by kernel_rfl) (fun _ _ _ h => h) (Or.inl ⟨by rfl, ?_⟩) (by assumption) ?_
    rotate_left
    · intro w hSw
      try dsimp only at hSw
      go_simp
      first | done | with_reducible rfl
    try simp only [List.getElem_toArray, List.getElem_cons_succ, List.getElem_cons_zero, Act.put, List.setIfInBounds_toArray, List.set_cons_zero, List.set_cons_succ]
    refine wpAnyH_ready (rs := [21, 27]) (by kernel_rfl) (by simp) (AllReadyH.cons rfl (fun K hK => ?_) (AllReadyH.cons rfl (fun K hK => ?_) AllReadyH.nil))
    · as_aux_lemma =>
        go_simp
        go_wp2_with (go_at_call 27; refine (rmag_any _ _ _ _ _ _).mono ?_; rintro e W_1 ⟨rfl, oc⟩; rw [HAT.out])
        refine hK.out _ _ (hp.off oc).cells (fun hHeld => ?_)
        clear hK K
        try simp only [List.getElem_toArray, List.getElem_cons_succ, List.getElem_cons_zero, Act.put, List.setIfInBounds_toArray, List.set_cons_zero, List.set_cons_succ]
        replace hp := hp.off oc
        clear oc
        refine wpAnyH_ready (rs := [22, 27]) (by kernel_rfl) (by simp) (AllReadyH.cons rfl (fun K hK => ?_) (AllReadyH.cons rfl (fun K hK => ?_) AllReadyH.nil))
        · as_aux_lemma =>
            go_simp
            go_wp2_with (go_at_call 46; refine (rload_in hp.m t.c k hk hs0 hs1).mono ?_; rintro e W_2 ⟨rfl, hmn, hsv⟩)
            have hq := hp.load hmn hsv
            refine hK.out _ _ hq.cells (fun hHeld => ?_)
            clear hK K
            try simp only [List.getElem_toArray, List.getElem_cons_succ, List.getElem_cons_zero, Act.put, List.setIfInBounds_toArray, List.set_cons_zero, List.set_cons_succ]
            replace hp := hq
            clear hq hmn hsv
            refine wpAnyH_ready (rs := [23, 27]) (by kernel_rfl) (by simp) (AllReadyH.cons rfl (fun K hK => ?_) (AllReadyH.cons rfl (fun K hK => ?_) AllReadyH.nil))
            · as_aux_lemma =>
                go_simp
                go_wp2_with (go_at_call 45; refine (rreadEntry_any _ _ _ _ HX.out.1 HX.out.2 _).mono ?_; rintro e W_3 ⟨rfl, oc⟩; rw [HE.out.1, HE.out.2])
                refine hK.out _ _ (hp.off oc).cells (fun hHeld => ?_)
                clear hK K
                try simp only [List.getElem_toArray, List.getElem_cons_succ, List.getElem_cons_zero, Act.put, List.setIfInBounds_toArray, List.set_cons_zero, List.set_cons_succ]
                replace hp := hp.off oc
                clear oc
                refine wpAnyH_take (i := 24) (v := ?_) rfl (by kernel_rfl) (by kernel_rfl) (by kernel_rfl) (fun _ _ _ h => h) (Or.inl ⟨by rfl, ?_⟩) (by assumption) ?_
                rotate_left
                · intro w hSw
                  try dsimp only at hSw
                  go_simp
                  first | done | with_reducible rfl
                try simp only [List.getElem_toArray, List.getElem_cons_succ, List.getElem_cons_zero, Act.put, List.setIfInBounds_toArray, List.set_cons_zero, List.set_cons_succ]
                refine wpAnyH_take (i := 25) (v := ?_) rfl (by kernel_rfl) (by kernel_rfl) (by kernel_rfl) (fun _ _ _ h => h) (Or.inl ⟨by rfl, ?_⟩) (by assumption) ?_
                rotate_left
                · intro w hSw
                  try dsimp only at hSw
                  go_simp
                  first | done | with_reducible rfl
                try simp only [List.getElem_toArray, List.getElem_cons_succ, List.getElem_cons_zero, Act.put, List.setIfInBounds_toArray, List.set_cons_zero, List.set_cons_succ]
                refine wpAnyH_take (i := 26) (v := ?_) rfl (by kernel_rfl) (by kernel_rfl) (by kernel_rfl) (fun _ _ _ h => h) (Or.inl ⟨by rfl, ?_⟩) (by assumption) ?_
                rotate_left
                · intro w hSw
                  try dsimp only at hSw
                  go_simp
                  first | done | with_reducible rfl
                try simp only [List.getElem_toArray, List.getElem_cons_succ, List.getElem_cons_zero, Act.put, List.setIfInBounds_toArray, List.set_cons_zero, List.set_cons_succ]
                refine wpAnyH_ready (rs := [27]) (by kernel_rfl) (by simp) (AllReadyH.cons rfl (fun K hK => ?_) AllReadyH.nil)
                go_simp
                refine hK.out _ _ (hp.off ((Off.refl [] _).alloc _)).cells (fun hHeld => ?_)
                clear hK K
                try simp only [List.getElem_toArray, List.getElem_cons_succ, List.getElem_cons_zero, Act.put, List.setIfInBounds_toArray, List.set_cons_zero, List.set_cons_succ]
                have hgx : gm < W_3.heap.size ∧ hm < W_3.heap.size ∧ gt < W_3.heap.size ∧ w.heap.size ≤ W_3.heap.size := hp.fresh
                refine anyH_worldM (R := fun W' => RP w base gm hm gt t (s.note ⟨t.c, 0, k, s.at k, 0, true⟩) W' ∧ Blk W' (W_3.heap.size) 30 #[.int .i64 0, .int .i64 0, .int .i64 0]) ⟨hp.off ((Off.refl [] _).alloc _), (by first | exact Blk.new _ _ _ | exact blk_drewM (Blk.new _ _ _))⟩ ?_
                clear hHeld hp
                rintro W_4 ⟨hp, hx⟩
                obtain ⟨f0, f1, f2⟩ := three_free hx
                obtain ⟨x0, x1, x2⟩ := shp_cells hx
                refine wpAnyH_ready (rs := [28]) (by kernel_rfl) (by simp) (AllReadyH.cons rfl (fun K hK => ?_) AllReadyH.nil)
                go_simp
                refine hK.out _ _ ((hp.set3 hx hgx).cells) (fun hHeld => ?_)
                clear hK K
                try simp only [List.getElem_toArray, List.getElem_cons_succ, List.getElem_cons_zero, Act.put, List.setIfInBounds_toArray, List.set_cons_zero, List.set_cons_succ]
                refine anyH_worldM (R := fun W' => RP w base gm hm gt t (s.note ⟨t.c, 0, k, s.at k, 0, true⟩) W' ∧ Blk W' W_3.heap.size 30 #[.int .i64 p0, .int .i64 p1, .int .i64 p2]) ⟨hp.set3 hx hgx, (((hx.set 0 _).set 1 _).set 2 _).to (by simp)⟩ ?_
                clear hp hx f0 f1 f2 x0 x1 x2 hHeld
                rintro W_a ⟨hp, hx⟩
                have hHeld : (fun w' => (w'.cell? ⟨gt, 0, none⟩ = some (.int .i64 t.P) ∧ w'.cell? ⟨gt, 1, none⟩ = some (.int .i64 t.C) ∧ w'.cell? ⟨gt, 2, none⟩ = some (.int .i64 t.M)) ∧ w'.cell? ⟨gt, 3, none⟩ = some (.int .i64 t.c) ∧ w'.cell? ⟨gt, 5, none⟩ = some (.int .i64 t.i)) W_a := hp.cells
                refine wpAnyH_take (i := 29) (v := ?_) rfl (by kernel_rfl) (by kernel_rfl) (by kernel_rfl) (fun _ _ _ h => h) (Or.inl ⟨by rfl, ?_⟩) (by assumption) ?_
                rotate_left
                · intro w hSw
                  try dsimp only at hSw
                  go_simp
                  first | done | with_reducible rfl
                try simp only [List.getElem_toArray, List.getElem_cons_succ, List.getElem_cons_zero, Act.put, List.setIfInBounds_toArray, List.set_cons_zero, List.set_cons_succ]
                refine wpAnyH_done (by kernel_rfl) ?_ _
                refine NoPanic.normal ?_
                go_wp2_with fail
                go_meet
                case rel => exact ⟨_, rfl, rfl, hx, hp⟩
            · as_aux_lemma =>
                go_simp
                refine hK.out _ _ (hp.off ((Off.refl [] _).alloc _)).cells (fun hHeld => ?_)
                clear hK K
                try simp only [List.getElem_toArray, List.getElem_cons_succ, List.getElem_cons_zero, Act.put, List.setIfInBounds_toArray, List.set_cons_zero, List.set_cons_succ]
                have hgx : gm < W_2.heap.size ∧ hm < W_2.heap.size ∧ gt < W_2.heap.size ∧ w.heap.size ≤ W_2.heap.size := hp.fresh
                refine anyH_worldM (R := fun W' => RP w base gm hm gt t (s.note ⟨t.c, 0, k, s.at k, 0, true⟩) W' ∧ Blk W' (W_2.heap.size) 30 #[.int .i64 0, .int .i64 0, .int .i64 0]) ⟨hp.off ((Off.refl [] _).alloc _), (by first | exact Blk.new _ _ _ | exact blk_drewM (Blk.new _ _ _))⟩ ?_
                clear hHeld hp
                rintro W_5 ⟨hp, hx⟩
                refine wpAnyH_ready (rs := [23]) (by kernel_rfl) (by simp) (AllReadyH.cons rfl (fun K hK => ?_) AllReadyH.nil)
                go_simp
                go_wp2_with (go_at_call 45; refine (rreadEntry_any _ _ _ _ HX.out.1 HX.out.2 _).mono ?_; rintro e W_6 ⟨rfl, oc⟩; rw [HE.out.1, HE.out.2])
                refine hK.out _ _ (hp.off oc).cells (fun hHeld => ?_)
                clear hK K
                try simp only [List.getElem_toArray, List.getElem_cons_succ, List.getElem_cons_zero, Act.put, List.setIfInBounds_toArray, List.set_cons_zero, List.set_cons_succ]
                replace hp := hp.off oc
                replace hx := oc.blk hx (by simp)
                clear oc
                refine wpAnyH_take (i := 24) (v := ?_) rfl (by kernel_rfl) (by kernel_rfl) (by kernel_rfl) (fun _ _ _ h => h) (Or.inl ⟨by rfl, ?_⟩) (by assumption) ?_
                rotate_left
                · intro w hSw
                  try dsimp only at hSw
                  go_simp
                  first | done | with_reducible rfl
                try simp only [List.getElem_toArray, List.getElem_cons_succ, List.getElem_cons_zero, Act.put, List.setIfInBounds_toArray, List.set_cons_zero, List.set_cons_succ]
                refine wpAnyH_take (i := 25) (v := ?_) rfl (by kernel_rfl) (by kernel_rfl) (by kernel_rfl) (fun _ _ _ h => h) (Or.inl ⟨by rfl, ?_⟩) (by assumption) ?_
                rotate_left
                · intro w hSw
                  try dsimp only at hSw
                  go_simp
                  first | done | with_reducible rfl
                try simp only [List.getElem_toArray, List.getElem_cons_succ, List.getElem_cons_zero, Act.put, List.setIfInBounds_toArray, List.set_cons_zero, List.set_cons_succ]
                refine wpAnyH_take (i := 26) (v := ?_) rfl (by kernel_rfl) (by kernel_rfl) (by kernel_rfl) (fun _ _ _ h => h) (Or.inl ⟨by rfl, ?_⟩) (by assumption) ?_
                rotate_left
                · intro w hSw
                  try dsimp only at hSw
                  go_simp
                  first | done | with_reducible rfl
                try simp only [List.getElem_toArray, List.getElem_cons_succ, List.getElem_cons_zero, Act.put, List.setIfInBounds_toArray, List.set_cons_zero, List.set_cons_succ]
                obtain ⟨f0, f1, f2⟩ := three_free hx
                obtain ⟨x0, x1, x2⟩ := shp_cells hx
                refine wpAnyH_ready (rs := [28]) (by kernel_rfl) (by simp) (AllReadyH.cons rfl (fun K hK => ?_) AllReadyH.nil)
                go_simp
                refine hK.out _ _ ((hp.set3 hx hgx).cells) (fun hHeld => ?_)
                clear hK K
                try simp only [List.getElem_toArray, List.getElem_cons_succ, List.getElem_cons_zero, Act.put, List.setIfInBounds_toArray, List.set_cons_zero, List.set_cons_succ]
                refine anyH_worldM (R := fun W' => RP w base gm hm gt t (s.note ⟨t.c, 0, k, s.at k, 0, true⟩) W' ∧ Blk W' W_2.heap.size 30 #[.int .i64 p0, .int .i64 p1, .int .i64 p2]) ⟨hp.set3 hx hgx, (((hx.set 0 _).set 1 _).set 2 _).to (by simp)⟩ ?_
                clear hp hx f0 f1 f2 x0 x1 x2 hHeld
                rintro W_a ⟨hp, hx⟩
                have hHeld : (fun w' => (w'.cell? ⟨gt, 0, none⟩ = some (.int .i64 t.P) ∧ w'.cell? ⟨gt, 1, none⟩ = some (.int .i64 t.C) ∧ w'.cell? ⟨gt, 2, none⟩ = some (.int .i64 t.M)) ∧ w'.cell? ⟨gt, 3, none⟩ = some (.int .i64 t.c) ∧ w'.cell? ⟨gt, 5, none⟩ = some (.int .i64 t.i)) W_a := hp.cells
                refine wpAnyH_take (i := 29) (v := ?_) rfl (by kernel_rfl) (by kernel_rfl) (by kernel_rfl) (fun _ _ _ h => h) (Or.inl ⟨by rfl, ?_⟩) (by assumption) ?_
                rotate_left
                · intro w hSw
                  try dsimp only at hSw
                  go_simp
                  first | done | with_reducible rfl
                try simp only [List.getElem_toArray, List.getElem_cons_succ, List.getElem_cons_zero, Act.put, List.setIfInBounds_toArray, List.set_cons_zero, List.set_cons_succ]
                refine wpAnyH_done (by kernel_rfl) ?_ _
                refine NoPanic.normal ?_
                go_wp2_with fail
                go_meet
                case rel => exact ⟨_, rfl, rfl, hx, hp⟩
        · as_aux_lemma =>
            go_simp
            refine hK.out _ _ (hp.off ((Off.refl [] _).alloc _)).cells (fun hHeld => ?_)
            clear hK K
            try simp only [List.getElem_toArray, List.getElem_cons_succ, List.getElem_cons_zero, Act.put, List.setIfInBounds_toArray, List.set_cons_zero, List.set_cons_succ]
            have hgx : gm < W_1.heap.size ∧ hm < W_1.heap.size ∧ gt < W_1.heap.size ∧ w.heap.size ≤ W_1.heap.size := hp.fresh
            refine anyH_worldM (R := fun W' => RP w base gm hm gt t s W' ∧ Blk W' (W_1.heap.size) 30 #[.int .i64 0, .int .i64 0, .int .i64 0]) ⟨hp.off ((Off.refl [] _).alloc _), (by first | exact Blk.new _ _ _ | exact blk_drewM (Blk.new _ _ _))⟩ ?_
            clear hHeld hp
            rintro W_7 ⟨hp, hx⟩
            refine wpAnyH_ready (rs := [22]) (by kernel_rfl) (by simp) (AllReadyH.cons rfl (fun K hK => ?_) AllReadyH.nil)
            go_simp
            go_wp2_with (go_at_call 46; refine (rload_in hp.m t.c k hk hs0 hs1).mono ?_; rintro e W_8 ⟨rfl, hmn, hsv⟩)
            have hq := hp.load hmn hsv
            refine hK.out _ _ hq.cells (fun hHeld => ?_)
            clear hK K
            try simp only [List.getElem_toArray, List.getElem_cons_succ, List.getElem_cons_zero, Act.put, List.setIfInBounds_toArray, List.set_cons_zero, List.set_cons_succ]
            replace hx := hsv.blk hx (by have := hgx; simp; omega) (by decide)
            replace hp := hq
            clear hq hmn hsv
            refine wpAnyH_ready (rs := [23]) (by kernel_rfl) (by simp) (AllReadyH.cons rfl (fun K hK => ?_) AllReadyH.nil)
            go_simp
            go_wp2_with (go_at_call 45; refine (rreadEntry_any _ _ _ _ HX.out.1 HX.out.2 _).mono ?_; rintro e W_9 ⟨rfl, oc⟩; rw [HE.out.1, HE.out.2])
            refine hK.out _ _ (hp.off oc).cells (fun hHeld => ?_)
            clear hK K
            try simp only [List.getElem_toArray, List.getElem_cons_succ, List.getElem_cons_zero, Act.put, List.setIfInBounds_toArray, List.set_cons_zero, List.set_cons_succ]
            replace hp := hp.off oc
            replace hx := oc.blk hx (by simp)
            clear oc
            refine wpAnyH_take (i := 24) (v := ?_) rfl (by kernel_rfl) (by kernel_rfl) (by kernel_rfl) (fun _ _ _ h => h) (Or.inl ⟨by rfl, ?_⟩) (by assumption) ?_
            rotate_left
            · intro w hSw
              try dsimp only at hSw
              go_simp
              first | done | with_reducible rfl
            try simp only [List.getElem_toArray, List.getElem_cons_succ, List.getElem_cons_zero, Act.put, List.setIfInBounds_toArray, List.set_cons_zero, List.set_cons_succ]
            refine wpAnyH_take (i := 25) (v := ?_) rfl (by kernel_rfl) (by kernel_rfl) (by kernel_rfl) (fun _ _ _ h => h) (Or.inl ⟨by rfl, ?_⟩) (by assumption) ?_
            rotate_left
            · intro w hSw
              try dsimp only at hSw
              go_simp
              first | done | with_reducible rfl
            try simp only [List.getElem_toArray, List.getElem_cons_succ, List.getElem_cons_zero, Act.put, List.setIfInBounds_toArray, List.set_cons_zero, List.set_cons_succ]
            refine wpAnyH_take (i := 26) (v := ?_) rfl (by kernel_rfl) (by kernel_rfl) (by kernel_rfl) (fun _ _ _ h => h) (Or.inl ⟨by rfl, ?_⟩) (by assumption) ?_
            rotate_left
            · intro w hSw
              try dsimp only at hSw
              go_simp
              first | done | with_reducible rfl
            try simp only [List.getElem_toArray, List.getElem_cons_succ, List.getElem_cons_zero, Act.put, List.setIfInBounds_toArray, List.set_cons_zero, List.set_cons_succ]
            obtain ⟨f0, f1, f2⟩ := three_free hx
            obtain ⟨x0, x1, x2⟩ := shp_cells hx
            refine wpAnyH_ready (rs := [28]) (by kernel_rfl) (by simp) (AllReadyH.cons rfl (fun K hK => ?_) AllReadyH.nil)
            go_simp
            refine hK.out _ _ ((hp.set3 hx hgx).cells) (fun hHeld => ?_)
            clear hK K
            try simp only [List.getElem_toArray, List.getElem_cons_succ, List.getElem_cons_zero, Act.put, List.setIfInBounds_toArray, List.set_cons_zero, List.set_cons_succ]
            refine anyH_worldM (R := fun W' => RP w base gm hm gt t (s.note ⟨t.c, 0, k, s.at k, 0, true⟩) W' ∧ Blk W' W_1.heap.size 30 #[.int .i64 p0, .int .i64 p1, .int .i64 p2]) ⟨hp.set3 hx hgx, (((hx.set 0 _).set 1 _).set 2 _).to (by simp)⟩ ?_
            clear hp hx f0 f1 f2 x0 x1 x2 hHeld
            rintro W_a ⟨hp, hx⟩
            have hHeld : (fun w' => (w'.cell? ⟨gt, 0, none⟩ = some (.int .i64 t.P) ∧ w'.cell? ⟨gt, 1, none⟩ = some (.int .i64 t.C) ∧ w'.cell? ⟨gt, 2, none⟩ = some (.int .i64 t.M)) ∧ w'.cell? ⟨gt, 3, none⟩ = some (.int .i64 t.c) ∧ w'.cell? ⟨gt, 5, none⟩ = some (.int .i64 t.i)) W_a := hp.cells
            refine wpAnyH_take (i := 29) (v := ?_) rfl (by kernel_rfl) (by kernel_rfl) (by kernel_rfl) (fun _ _ _ h => h) (Or.inl ⟨by rfl, ?_⟩) (by assumption) ?_
            rotate_left
            · intro w hSw
              try dsimp only at hSw
              go_simp
              first | done | with_reducible rfl
            try simp only [List.getElem_toArray, List.getElem_cons_succ, List.getElem_cons_zero, Act.put, List.setIfInBounds_toArray, List.set_cons_zero, List.set_cons_succ]
            refine wpAnyH_done (by kernel_rfl) ?_ _
            refine NoPanic.normal ?_
            go_wp2_with fail
            go_meet
            case rel => exact ⟨_, rfl, rfl, hx, hp⟩
    · as_aux_lemma =>
        go_simp
        refine hK.out _ _ (hp.off ((Off.refl [] _).alloc _)).cells (fun hHeld => ?_)
        clear hK K
        try simp only [List.getElem_toArray, List.getElem_cons_succ, List.getElem_cons_zero, Act.put, List.setIfInBounds_toArray, List.set_cons_zero, List.set_cons_succ]
        have hgx : gm < W1.heap.size ∧ hm < W1.heap.size ∧ gt < W1.heap.size ∧ w.heap.size ≤ W1.heap.size := hp.fresh
        refine anyH_worldM (R := fun W' => RP w base gm hm gt t s W' ∧ Blk W' (W1.heap.size) 30 #[.int .i64 0, .int .i64 0, .int .i64 0]) ⟨hp.off ((Off.refl [] _).alloc _), (by first | exact Blk.new _ _ _ | exact blk_drewM (Blk.new _ _ _))⟩ ?_
        clear hHeld hp
        rintro W_10 ⟨hp, hx⟩
        refine wpAnyH_ready (rs := [21]) (by kernel_rfl) (by simp) (AllReadyH.cons rfl (fun K hK => ?_) AllReadyH.nil)
        go_simp
        go_wp2_with (go_at_call 27; refine (rmag_any _ _ _ _ _ _).mono ?_; rintro e W_11 ⟨rfl, oc⟩; rw [HAT.out])
        refine hK.out _ _ (hp.off oc).cells (fun hHeld => ?_)
        clear hK K
        try simp only [List.getElem_toArray, List.getElem_cons_succ, List.getElem_cons_zero, Act.put, List.setIfInBounds_toArray, List.set_cons_zero, List.set_cons_succ]
        replace hp := hp.off oc
        replace hx := oc.blk hx (by simp)
        clear oc
        refine wpAnyH_ready (rs := [22]) (by kernel_rfl) (by simp) (AllReadyH.cons rfl (fun K hK => ?_) AllReadyH.nil)
        go_simp
        go_wp2_with (go_at_call 46; refine (rload_in hp.m t.c k hk hs0 hs1).mono ?_; rintro e W_12 ⟨rfl, hmn, hsv⟩)
        have hq := hp.load hmn hsv
        refine hK.out _ _ hq.cells (fun hHeld => ?_)
        clear hK K
        try simp only [List.getElem_toArray, List.getElem_cons_succ, List.getElem_cons_zero, Act.put, List.setIfInBounds_toArray, List.set_cons_zero, List.set_cons_succ]
        replace hx := hsv.blk hx (by have := hgx; simp; omega) (by decide)
        replace hp := hq
        clear hq hmn hsv
        refine wpAnyH_ready (rs := [23]) (by kernel_rfl) (by simp) (AllReadyH.cons rfl (fun K hK => ?_) AllReadyH.nil)
        go_simp
        go_wp2_with (go_at_call 45; refine (rreadEntry_any _ _ _ _ HX.out.1 HX.out.2 _).mono ?_; rintro e W_13 ⟨rfl, oc⟩; rw [HE.out.1, HE.out.2])
        refine hK.out _ _ (hp.off oc).cells (fun hHeld => ?_)
        clear hK K
        try simp only [List.getElem_toArray, List.getElem_cons_succ, List.getElem_cons_zero, Act.put, List.setIfInBounds_toArray, List.set_cons_zero, List.set_cons_succ]
        replace hp := hp.off oc
        replace hx := oc.blk hx (by simp)
        clear oc
        refine wpAnyH_take (i := 24) (v := ?_) rfl (by kernel_rfl) (by kernel_rfl) (by kernel_rfl) (fun _ _ _ h => h) (Or.inl ⟨by rfl, ?_⟩) (by assumption) ?_
        rotate_left
        · intro w hSw
          try dsimp only at hSw
          go_simp
          first | done | with_reducible rfl
        try simp only [List.getElem_toArray, List.getElem_cons_succ, List.getElem_cons_zero, Act.put, List.setIfInBounds_toArray, List.set_cons_zero, List.set_cons_succ]
        refine wpAnyH_take (i := 25) (v := ?_) rfl (by kernel_rfl) (by kernel_rfl) (by kernel_rfl) (fun _ _ _ h => h) (Or.inl ⟨by rfl, ?_⟩) (by assumption) ?_
        rotate_left
        · intro w hSw
          try dsimp only at hSw
          go_simp
          first | done | with_reducible rfl
        try simp only [List.getElem_toArray, List.getElem_cons_succ, List.getElem_cons_zero, Act.put, List.setIfInBounds_toArray, List.set_cons_zero, List.set_cons_succ]
        refine wpAnyH_take (i := 26) (v := ?_) rfl (by kernel_rfl) (by kernel_rfl) (by kernel_rfl) (fun _ _ _ h => h) (Or.inl ⟨by rfl, ?_⟩) (by assumption) ?_
        rotate_left
        · intro w hSw
          try dsimp only at hSw
          go_simp
          first | done | with_reducible rfl
        try simp only [List.getElem_toArray, List.getElem_cons_succ, List.getElem_cons_zero, Act.put, List.setIfInBounds_toArray, List.set_cons_zero, List.set_cons_succ]
        obtain ⟨f0, f1, f2⟩ := three_free hx
        obtain ⟨x0, x1, x2⟩ := shp_cells hx
        refine wpAnyH_ready (rs := [28]) (by kernel_rfl) (by simp) (AllReadyH.cons rfl (fun K hK => ?_) AllReadyH.nil)
        go_simp
        refine hK.out _ _ ((hp.set3 hx hgx).cells) (fun hHeld => ?_)
        clear hK K
        try simp only [List.getElem_toArray, List.getElem_cons_succ, List.getElem_cons_zero, Act.put, List.setIfInBounds_toArray, List.set_cons_zero, List.set_cons_succ]
        refine anyH_worldM (R := fun W' => RP w base gm hm gt t (s.note ⟨t.c, 0, k, s.at k, 0, true⟩) W' ∧ Blk W' W1.heap.size 30 #[.int .i64 p0, .int .i64 p1, .int .i64 p2]) ⟨hp.set3 hx hgx, (((hx.set 0 _).set 1 _).set 2 _).to (by simp)⟩ ?_
        clear hp hx f0 f1 f2 x0 x1 x2 hHeld
        rintro W_a ⟨hp, hx⟩
        have hHeld : (fun w' => (w'.cell? ⟨gt, 0, none⟩ = some (.int .i64 t.P) ∧ w'.cell? ⟨gt, 1, none⟩ = some (.int .i64 t.C) ∧ w'.cell? ⟨gt, 2, none⟩ = some (.int .i64 t.M)) ∧ w'.cell? ⟨gt, 3, none⟩ = some (.int .i64 t.c) ∧ w'.cell? ⟨gt, 5, none⟩ = some (.int .i64 t.i)) W_a := hp.cells
        refine wpAnyH_take (i := 29) (v := ?_) rfl (by kernel_rfl) (by kernel_rfl) (by kernel_rfl) (fun _ _ _ h => h) (Or.inl ⟨by rfl, ?_⟩) (by assumption) ?_
        rotate_left
        · intro w hSw
          try dsimp only at hSw
          go_simp
          first | done | with_reducible rfl
        try simp only [List.getElem_toArray, List.getElem_cons_succ, List.getElem_cons_zero, Act.put, List.setIfInBounds_toArray, List.set_cons_zero, List.set_cons_succ]
        refine wpAnyH_done (by kernel_rfl) ?_ _
        refine NoPanic.normal ?_
        go_wp2_with fail
        go_meet
        case rel => exact ⟨_, rfl, rfl, hx, hp⟩
  case rest =>
    obtain ⟨b, rfl, rfl, hb, hp⟩ := hcut
    obtain ⟨x0, x1, x2⟩ := shp_cells hb
    obtain ⟨⟨-, -, d2⟩, -, d4, d5, ⟨d6, d7, d8⟩, -, d10, d11⟩ := rt_cells hp.b
    rw [if_neg (by rw [HH.out]; decide)] at d8
    have z5 := hp.b.free 5
    have z6 := hp.b.free 6
    have z7 := hp.b.free 7
    have z8 := hp.b.free 8
    have z10 := hp.b.free 10
    have z11 := hp.b.free 11
    have HP := Lib.hid hp
    clear hp hb
    have wi : IntKind.i64.wrap ((t.i : Int) + 1) = (t.i : Int) + 1 := IntWalk.i64_in _ (by omega)
    have wj : wrap64 ((t.i : Int) + 1) = (t.i : Int) + 1 := IntWalk.wrap64_in _ (by omega)
    have miss : t.hits (s.at k) = false → ∀ W, RP w base gm hm gt t (s.note ⟨t.c, 0, k, s.at k, 0, true⟩) W → RP w base gm hm gt t (s.note ⟨t.c, 0, k, s.at k, 0, true⟩) W.drew ∧ RtEnd t (s.at k) gt W.drew (((W.setCell ⟨gt, 5, none⟩ (.int .i64 ((t.i : Int) + 1))).drew).setCell ⟨gt, 10, none⟩ (.bool ((t.i : Int) + 1 == t.M))) := fun h W hp => ⟨hp.off (Off.refl [] W).drew, fun h2 => absurd (h.symm.trans h2) (by decide), fun _ => rfl⟩
    have HMI := Lib.hid miss
    clear miss
    cases rb
    · have HNO := Lib.hid (show t.hits (s.at k) = false by unfold Tk.hits; rw [HE.out.2]; rfl)
      clear d6 d7 d8 d11 z6 z7 z8 z11
      go_upto_region 1 with fail
      go_quiet (fail)
      go_upto_region 4 with fail
      refine at_worldM (R := fun W' => ∃ W'', RP w base gm hm gt t (s.note ⟨t.c, 0, k, s.at k, 0, true⟩) W'' ∧ W' = W''.setCell ⟨gt, 5, none⟩ (.int .i64 ((t.i : Int) + 1))) ⟨_, HP.out.off ((Off.refl [] _).drewN _), rfl⟩ ?_
      clear d2 d5 d10 z5 z10 x0 x1 x2 d4 HP
      rintro W2 ⟨W3, hp, rfl⟩
      have hb := (hp.b.set 5 (.int .i64 ((t.i : Int) + 1)))
      have y2 := hb.cell 2
      have y5 := hb.cell 5
      have y10 := hb.cell 10
      have z10 := hb.free 10
      have HP := Lib.hid hp
      clear hb hp
      refine at_worldM (R := fun W' => W' = W3.setCell ⟨gt, 5, none⟩ (.int .i64 ((t.i : Int) + 1)) ∧ W'.cell? ⟨gt, 2, none⟩ = some (.int .i64 t.M) ∧ W'.cell? ⟨gt, 5, none⟩ = some (.int .i64 ((t.i : Int) + 1)) ∧ W'.cell? ⟨gt, 10, none⟩ = some (.bool t.over) ∧ W'.frozen? ⟨gt, 10, none⟩ = false) ⟨rfl, y2.trans (by simp [rtCells]), y5.trans (by simp [rtCells]), y10.trans (by simp [rtCells]), z10⟩ ?_
      clear y2 y5 y10 z10
      rintro W4 ⟨hw4, y2, y5, y10, z10⟩
      have HW4 := Lib.hid hw4
      clear hw4
      go_region
      go_wp2_with fail
      go_end0
      have hq := HMI.out HNO.out W3 HP.out
      rw [← HW4.out] at hq
      exact ⟨rfl, _, hq⟩
    · have HPQ := Lib.hid (HPP.out rfl)
      clear HPP
      have hk2 : p2 = cI (s.at k) := HPQ.out.2.2
      by_cases hcl : p2 = t.k
      · have dc : (p2 == t.k) = true := by simpa using hcl
        have HYES := Lib.hid (show t.hits (s.at k) = true by unfold Tk.hits; rw [HE.out.2, ← hk2, decide_eq_true hcl]; rfl)
        have HCL := Lib.hid hcl
        clear hk2 hcl d5 d10 z5 z10
        go_upto_region 1 with fail
        go_quiet (fail)
        go_wp2_with fail
        refine bodyPost_ret (v := .tuple #[]) (by simp [results, Try.results24, go_sem]) rfl ?_
        refine ⟨rfl, wc.drewN nq, HP.out.off ((Off.refl [] _).drewN nq), ?_, fun h => absurd (HYES.out.symm.trans h) (by decide)⟩
        intro _
        rw [← HPQ.out.1, ← HPQ.out.2.1, ← HCL.out]
      · have dc : (p2 == t.k) = false := by simpa using hcl
        have HNO := Lib.hid (show t.hits (s.at k) = false by unfold Tk.hits; rw [HE.out.2, ← hk2, decide_eq_false hcl]; rfl)
        clear hk2 hcl d6 d7 d8 d11 z6 z7 z8 z11
        go_upto_region 1 with fail
        go_quiet (fail)
        go_upto_region 4 with fail
        refine at_worldM (R := fun W' => ∃ W'', RP w base gm hm gt t (s.note ⟨t.c, 0, k, s.at k, 0, true⟩) W'' ∧ W' = W''.setCell ⟨gt, 5, none⟩ (.int .i64 ((t.i : Int) + 1))) ⟨_, HP.out.off ((Off.refl [] _).drewN _), rfl⟩ ?_
        clear d2 d5 d10 z5 z10 x0 x1 x2 d4 HP
        rintro W2 ⟨W3, hp, rfl⟩
        have hb := (hp.b.set 5 (.int .i64 ((t.i : Int) + 1)))
        have y2 := hb.cell 2
        have y5 := hb.cell 5
        have y10 := hb.cell 10
        have z10 := hb.free 10
        have HP := Lib.hid hp
        clear hb hp
        refine at_worldM (R := fun W' => W' = W3.setCell ⟨gt, 5, none⟩ (.int .i64 ((t.i : Int) + 1)) ∧ W'.cell? ⟨gt, 2, none⟩ = some (.int .i64 t.M) ∧ W'.cell? ⟨gt, 5, none⟩ = some (.int .i64 ((t.i : Int) + 1)) ∧ W'.cell? ⟨gt, 10, none⟩ = some (.bool t.over) ∧ W'.frozen? ⟨gt, 10, none⟩ = false) ⟨rfl, y2.trans (by simp [rtCells]), y5.trans (by simp [rtCells]), y10.trans (by simp [rtCells]), z10⟩ ?_
        clear y2 y5 y10 z10
        rintro W4 ⟨hw4, y2, y5, y10, z10⟩
        have HW4 := Lib.hid hw4
        clear hw4
        go_region
        go_wp2_with fail
        go_end0
        have hq := HMI.out HNO.out W3 HP.out
        rw [← HW4.out] at hq
        exact ⟨rfl, _, hq⟩

/-- The words and the taker behind a step, whichever. -/
theorem rtaker_step {w : World} {base gt gm hm : Nat} {t : Tk} {s : St} (hT : IsRT w gt t) (hM : IsM w base gm hm s) (hok : t.Ok) (hlen : t.over = false → (s.row.length : Int) = wordsI t.P t.C t.M) (hrow : RowOk s) (hs0 : 0 ≤ s.steps) (hs1 : s.steps < 900) :
    Calls Try.prog 24 #[.pointer (some ⟨gt, 0, none⟩), .pointer (some ⟨gm, 0, none⟩)] w fun e w' => e = .returned (.tuple #[]) ∧ IsRT w' gt (t.next s) ∧ IsM w' base gm hm (t.words s) ∧ Save [gm, hm, gt] base w w' := by
  have hp : RP w base gm hm gt t s w := ⟨hM, hT, Save.refl _ _ _⟩
  cases ho : t.over
  · obtain ⟨h1, h2⟩ := hok.at ho
    have hk : t.at < s.row.length := by have := hlen ho; omega
    have hi : (t.i : Int) < 8 := by
      obtain ⟨hf, -, h3⟩ := hok.run ho
      have := hf.m2
      omega
    have upd : ∀ {W : World} {s' : St} {t' : Tk} {W' : World}, RP w base gm hm gt t s' W → Off [gt] W W' → IsRT W' gt t' → IsRT W' gt t' ∧ IsM W' base gm hm s' ∧ Save [gm, hm, gt] base w W' := fun {W s' t' W'} hp o hb => by
      have hne := hp.ne
      simp only [List.mem_cons, List.not_mem_nil, or_false, not_or] at hne
      refine ⟨hb, hp.m.off o (by simpa using Ne.symm hne.1) (by simpa using Ne.symm hne.2) (fun k hk => ?_), (hp.sv.more (by simp)).trans ((Save.of_off o base).more (by simp))⟩
      simp only [List.mem_singleton] at hk
      subst hk
      exact ⟨_, _, hp.b, by decide⟩
    cases hh : t.hit
    · refine (rtaker_load hp ho hh h1.symm hk hs0 hs1 (hrow.at _) hi).mono ?_
      rintro e w' ⟨rfl, w3, hp3, hE⟩
      have hw : t.words s = s.note ⟨t.c, 0, t.at, s.at t.at, 0, true⟩ := by unfold Tk.words; rw [if_neg (by rw [ho]; decide), if_neg (by rw [hh]; decide)]
      rw [hw]
      refine ⟨rfl, ?_⟩
      cases hq : t.hits (s.at t.at)
      · have hn : t.next s = { t with i := t.i + 1, over := decide (((t.i + 1 : Nat) : Int) = t.M) } := by unfold Tk.next; rw [if_neg (by rw [ho]; decide), if_neg (by rw [hh]; decide), if_neg (by rw [hq]; decide)]
        rw [hE.2 hq, hn]
        refine upd hp3 (((Off.refl _ _).set (.inl (by simp)) _).set (.inl (by simp)) _) (((hp3.b.set 5 _).set 10 _).to ?_)
        simp [rtCells]
        rfl
      · have hn : t.next s = { t with hit := true, page := aI (s.at t.at), slot := bI (s.at t.at) } := by unfold Tk.next; rw [if_neg (by rw [ho]; decide), if_neg (by rw [hh]; decide), if_pos hq]
        rw [hE.1 hq, hn]
        refine upd hp3 (((((Off.refl _ _).set (.inl (by simp)) _).set (.inl (by simp)) _).set (.inl (by simp)) _).set (.inl (by simp)) _) (((((hp3.b.set 6 _).set 7 _).set 8 _).set 11 _).to ?_)
        simp [rtCells]
    · refine (rtaker_hit hp ho hh h1.symm hk hs0 hs1).mono ?_
      rintro e w' ⟨rfl, w3, hp3, rfl⟩
      have hw : t.words s = (s.note ⟨t.c, 1, t.at, s.at t.at, 0, true⟩).lay t.at 0 := by unfold Tk.words; rw [if_neg (by rw [ho]; decide), if_pos hh]
      have hn : t.next s = { t with found := true, over := true } := by unfold Tk.next; rw [if_neg (by rw [ho]; decide), if_pos hh]
      rw [hw, hn]
      refine ⟨rfl, upd hp3 (((Off.refl _ _).set (.inl (by simp)) _).set (.inl (by simp)) _) (((hp3.b.set 9 _).set 10 _).to ?_)⟩
      simp [rtCells]
  · refine (rtaker_over hT ho).mono ?_
    rintro e w' ⟨rfl, rfl⟩
    have hw : t.words s = s := by unfold Tk.words; rw [if_pos ho]
    have hn : t.next s = t := by unfold Tk.next; rw [if_pos ho]
    rw [hw, hn]
    exact ⟨rfl, hT, hM, Save.refl _ _ _⟩

end Go.Proofs.Ytdnahojpeplajaa.Mag
