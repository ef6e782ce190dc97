/- The program's judge: New. (Written by tools/jgnew_gen.py over tools/XJgG.src.) -/
import Derived.Test.YtfgkjfneeggbjaaJgF
import Derived.Deep.CutBlock
import Derived.Deep.RegionHeld3
namespace Go.Proofs.Ytfgkjfneeggbjaa.Jud
open Go.RowKit Mem Go.Proofs.Ytfgkjfneeggbjaa.Mod Go.Proofs.Ytfgkjfneeggbjaa.Plan
set_option maxRecDepth 100000
set_option maxHeartbeats 4000000

theorem client_info : (Try.prog.info? 70).map (fun i => (i.zero, i.size, i.bytes)) = some (some (.agg #[.bool false, .bool false, .pointer none]), 3, 16) := by kernel_rfl
/-- Clients that never were. -/
def cliZ (n : Nat) : Array Value := madeCells (Value.cells (.agg #[.bool false, .bool false, .pointer none])) (n * 3)
theorem make_clients (n : Nat) (hn : n ≤ 12) (w : World) :
    (Instr.makeSlice 33 (.int .i64 (n : Int)) (.int .i64 (n : Int))).run Try.prog w = .ok (.slice (some ⟨w.heap.size, 0, none⟩) n n) (w.alloc (.cells (cliZ n) 70)) := by
  obtain ⟨i, hi, hz0, hz1, hz2⟩ := info_parts client_info
  have hr := run_make (P := Try.prog) w 33 70 i _ Try.underlying33 hi hz0 .i64 .i64 n n (by omega) (by omega) (by rw [hz2]; omega) (by omega)
  simp only [Int.toNat_natCast] at hr
  rw [hr, hz1, cliZ]
theorem cliZ_row {w : World} {b n : Nat} (h : Blk w b 70 (cliZ n)) : Row w b n (fun _ => pty0) (fun _ => 0) := by
  refine ⟨_, h, by simp [cliZ, madeCells], fun i hi => ?_⟩
  have h0 : i * 3 < n * 3 := by omega
  have h1 : i * 3 + 1 < n * 3 := by omega
  have h2 : i * 3 + 2 < n * 3 := by omega
  have m0 : i * 3 % 3 = 0 := by omega
  have m1 : (i * 3 + 1) % 3 = 1 := by omega
  have m2 : (i * 3 + 2) % 3 = 2 := by omega
  refine ⟨?_, ?_, ?_⟩ <;> simp [cliZ, madeCells, Value.cells, h0, h1, h2, m0, m1, m2, pty0, tkV]

def NewQ (w : World) (s : St) (e : Ending) (w' : World) : Prop := (∃ g F, e = .returned (.pointer (some ⟨g, 0, none⟩)) ∧ Full w' g F s 0 0 ∧ ∀ k ∈ F, w.heap.size ≤ k) ∧ Off [] w w'
/-- What is there at the end. -/
theorem new_end {w W : World} {h b n : Nat} {m : Int} (o : Off [] w W) (hd : IsD W h [h] m []) (hb : Blk W b 70 (cliZ n)) (hn : n ≤ 12) (h1 : w.heap.size ≤ h) (h2 : w.heap.size ≤ b) :
    NewQ w ⟨m, n, [], fun _ => pty0, 0⟩ (.returned (.pointer (some ⟨W.heap.size, 0, none⟩))) (W.alloc (.cells #[.pointer (some ⟨h, 0, none⟩), .slice (some ⟨b, 0, none⟩) n n, .int .i64 0, .int .i64 0, .int .i64 0] 35)) := by
  have ho := (Off.refl [] W).alloc (.cells #[.pointer (some ⟨h, 0, none⟩), .slice (some ⟨b, 0, none⟩) n n, .int .i64 0, .int .i64 0, .int .i64 0] 35)
  have hB : Body (W.alloc (.cells #[.pointer (some ⟨h, 0, none⟩), .slice (some ⟨b, 0, none⟩) n n, .int .i64 0, .int .i64 0, .int .i64 0] 35)) W.heap.size h b [h] (fun _ => 0) ⟨m, n, [], fun _ => pty0, 0⟩ 0 0 :=
    ⟨(Blk.new _ _ _).to (by show _ = #[_, _, Value.int .i64 (wrap64 0), _, _]; rw [IntWalk.wrap64_in 0 (by decide)]), (cliZ_row hb).off ho (by simp), hd.off0 ho, fun _ _ ha => (by cases ha), fun _ _ _ _ ha => (by cases ha), hn, fun _ _ ha => (by cases ha)⟩
  refine ⟨⟨_, _, rfl, Full.of hB, fun k hk => ?_⟩, o.trans ho⟩
  rcases mem_allF.1 hk with rfl | rfl | hk | ⟨j, hj, ha, rfl⟩
  · exact o.size
  · exact h2
  · simp only [List.mem_singleton] at hk
    omega
  · cases ha

theorem newj_yes {P M : Int} {n : Nat} (hm : mayB P n M = true) (w : World) : Calls Try.prog 9 #[.agg #[.int .i64 P, .int .i64 (n : Int), .int .i64 M]] w (NewQ w ⟨clampW (P * 64), n, [], fun _ => pty0, 0⟩) := by
  have hf := mayB_iff.1 hm
  obtain ⟨p1, p2, c1, c2, -, -⟩ := hf
  have hn : n ≤ 12 := by omega
  have HM := Lib.hid hm
  have w0 : IntKind.i64.wrap (P * 64) = P * 64 := IntWalk.i64_in _ (by omega)
  have w1 : wrap64 (P * 64) = P * 64 := IntWalk.wrap64_in _ (by omega)
  have hmk := make_clients n hn
  clear hm p1 p2 c1 c2
  go_enter Try.func9, Try.ntmps9
  go_upto_region 3 with (go_at_call 17; refine (may_any _ _ _ _).mono ?_; rintro e w3 ⟨rfl, o3⟩; rw [HM.out])
  refine at_worldJ (R := fun W' => Off [] w W' ∧ Blk W' w.heap.size 23 #[.int .i64 P, .int .i64 (n : Int), .int .i64 M]) ⟨((Off.refl _ _).alloc _).trans o3, o3.blk (Blk.new _ _ _) (by simp)⟩ ?_
  rintro W1 ⟨oW, hs⟩
  have HO := Lib.hid oW
  have HF : Hid (∀ W, Off [] W1 W → W.cell? ⟨w.heap.size, 0, none⟩ = some (.int .i64 P) ∧ W.cell? ⟨w.heap.size, 1, none⟩ = some (.int .i64 (n : Int))) := Lib.hid (fun W o => ⟨(o.blk hs (by simp)).cell 0, (o.blk hs (by simp)).cell 1⟩)
  clear oW hs o3
  refine wp_region_noPanic ?_
  refine wp_region_held_drew (S := fun w' => w'.cell? ⟨w.heap.size, 0, none⟩ = some (.int .i64 (P)) ∧ w'.cell? ⟨w.heap.size, 1, none⟩ = some (.int .i64 ((n : Nat) : Int))) (by kernel_rfl) (HF.out _ (Off.refl [] W1).drew) (fun hHeld => ?_)
  have o := (Off.refl [] W1).drew
  refine wpAnyH_take (i := 0) (v := ?_) rfl (by kernel_rfl) (by kernel_rfl) (by kernel_rfl) (fun _ _ _ h => h) (Or.inl ⟨by rfl, ?_⟩) (by assumption) ?_
  rotate_left
  · intro w hSw
    try dsimp only at hSw
    go_simp
    first | done | with_reducible rfl
  try simp only [List.getElem_toArray, List.getElem_cons_zero, Act.put, List.setIfInBounds_toArray, List.set_cons_zero, List.set_cons_succ]
  refine wpAnyH_take (i := 1) (v := ?_) rfl (by kernel_rfl) (by kernel_rfl) (by kernel_rfl) (fun _ _ _ h => h) (Or.inl ⟨by rfl, ?_⟩) (by assumption) ?_
  rotate_left
  · intro w hSw
    try dsimp only at hSw
    go_simp
    first | done | with_reducible rfl
  try simp only [List.getElem_toArray, List.getElem_cons_succ, List.getElem_cons_zero, Act.put, List.setIfInBounds_toArray, List.set_cons_zero, List.set_cons_succ]
  refine wpAnyH_take (i := 2) (v := ?_) rfl (by kernel_rfl) (by kernel_rfl) (by kernel_rfl) (fun _ _ _ h => h) (Or.inl ⟨by rfl, ?_⟩) (by assumption) ?_
  rotate_left
  · intro w hSw
    try dsimp only at hSw
    go_simp
    first | done | with_reducible rfl
  try simp only [List.getElem_toArray, List.getElem_cons_succ, List.getElem_cons_zero, Act.put, List.setIfInBounds_toArray, List.set_cons_zero, List.set_cons_succ]
  refine wpAnyH_take (i := 4) (v := ?_) rfl (by kernel_rfl) (by kernel_rfl) (by kernel_rfl) (fun _ _ _ h => h) (Or.inl ⟨by rfl, ?_⟩) (by assumption) ?_
  rotate_left
  · intro w hSw
    try dsimp only at hSw
    go_simp
    first | done | with_reducible rfl
  try simp only [List.getElem_toArray, List.getElem_cons_succ, List.getElem_cons_zero, Act.put, List.setIfInBounds_toArray, List.set_cons_zero, List.set_cons_succ]
  refine wpAnyH_take (i := 5) (v := ?_) rfl (by kernel_rfl) (by kernel_rfl) (by kernel_rfl) (fun _ _ _ h => h) (Or.inl ⟨by rfl, ?_⟩) (by assumption) ?_
  rotate_left
  · intro w hSw
    try dsimp only at hSw
    go_simp
    first | done | with_reducible rfl
  try simp only [List.getElem_toArray, List.getElem_cons_succ, List.getElem_cons_zero, Act.put, List.setIfInBounds_toArray, List.set_cons_zero, List.set_cons_succ]
  refine wpAnyH_ready (rs := [3, 6]) (by kernel_rfl) (by simp) (AllReadyH.cons rfl (fun K hK => ?_) (AllReadyH.cons rfl (fun K hK => ?_) AllReadyH.nil))
  · as_aux_lemma =>
      go_simp
      go_wp2_with (go_at_call 18; refine (new_any _ _).mono ?_; rintro e W_1 ⟨rfl, hd, oc⟩)
      refine hK.out _ _ (HF.out _ (o.trans oc)) (fun hHeld => ?_)
      clear hK K
      try simp only [List.getElem_toArray, List.getElem_cons_succ, List.getElem_cons_zero, Act.put, List.setIfInBounds_toArray, List.set_cons_zero, List.set_cons_succ]
      have hgh := o.size
      replace o := o.trans oc
      clear oc
      refine wpAnyH_ready (rs := [6]) (by kernel_rfl) (by simp) (AllReadyH.cons rfl (fun K hK => ?_) AllReadyH.nil)
      go_simp
      refine hK.out _ _ (HF.out _ (o.alloc _)) (fun hHeld => ?_)
      clear hK K
      try simp only [List.getElem_toArray, List.getElem_cons_succ, List.getElem_cons_zero, Act.put, List.setIfInBounds_toArray, List.set_cons_zero, List.set_cons_succ]
      have hgb : W1.heap.size ≤ W_1.heap.size := o.size
      refine anyH_world (R := fun W' => (fun w' => w'.cell? ⟨w.heap.size, 0, none⟩ = some (.int .i64 (P)) ∧ w'.cell? ⟨w.heap.size, 1, none⟩ = some (.int .i64 ((n : Nat) : Int))) W' ∧ Off [] W1 W' ∧ Blk W' W_1.heap.size 70 (cliZ n) ∧ IsD W' W1.heap.size [W1.heap.size] (clampW (P * 64)) []) ⟨hHeld, o.alloc _, (by first | exact Blk.new _ _ _ | exact blk_drewJ (Blk.new _ _ _)), hd.off0 ((Off.refl _ _).alloc _)⟩ ?_
      clear hHeld o hd
      rintro W_2 ⟨hHeld, o, hb, hd⟩
      refine wpAnyH_take (i := 7) (v := ?_) rfl (by kernel_rfl) (by kernel_rfl) (by kernel_rfl) (fun _ _ _ h => h) (Or.inl ⟨by rfl, ?_⟩) (by assumption) ?_
      rotate_left
      · intro w hSw
        try dsimp only at hSw
        go_simp
        first | done | with_reducible rfl
      try simp only [List.getElem_toArray, List.getElem_cons_succ, List.getElem_cons_zero, Act.put, List.setIfInBounds_toArray, List.set_cons_zero, List.set_cons_succ]
      refine wpAnyH_ready (rs := [8]) (by kernel_rfl) (by simp) (AllReadyH.cons rfl (fun K hK => ?_) AllReadyH.nil)
      go_simp
      refine hK.out _ _ (HF.out _ (o.alloc _)) (fun hHeld => ?_)
      clear hK K
      try simp only [List.getElem_toArray, List.getElem_cons_succ, List.getElem_cons_zero, Act.put, List.setIfInBounds_toArray, List.set_cons_zero, List.set_cons_succ]
      refine wpAnyH_take (i := 9) (v := ?_) rfl (by kernel_rfl) (by kernel_rfl) (by kernel_rfl) (fun _ _ _ h => h) (Or.inl ⟨by rfl, ?_⟩) (by assumption) ?_
      rotate_left
      · intro w hSw
        try dsimp only at hSw
        go_simp
        first | done | with_reducible rfl
      try simp only [List.getElem_toArray, List.getElem_cons_succ, List.getElem_cons_zero, Act.put, List.setIfInBounds_toArray, List.set_cons_zero, List.set_cons_succ]
      refine wpAnyH_done (by kernel_rfl) ?_ _
      refine NoPanic.normal ?_
      go_wp2_with fail
      go_ret
      exact new_end (HO.out.trans o) hd hb (by omega) (by have := HO.out.size; omega) (by have := HO.out.size; omega)
  · as_aux_lemma =>
      go_simp
      refine hK.out _ _ (HF.out _ (o.alloc _)) (fun hHeld => ?_)
      clear hK K
      try simp only [List.getElem_toArray, List.getElem_cons_succ, List.getElem_cons_zero, Act.put, List.setIfInBounds_toArray, List.set_cons_zero, List.set_cons_succ]
      have hgb : W1.heap.size ≤ W1.heap.size := o.size
      refine anyH_world (R := fun W' => (fun w' => w'.cell? ⟨w.heap.size, 0, none⟩ = some (.int .i64 (P)) ∧ w'.cell? ⟨w.heap.size, 1, none⟩ = some (.int .i64 ((n : Nat) : Int))) W' ∧ Off [] W1 W' ∧ Blk W' W1.heap.size 70 (cliZ n)) ⟨hHeld, o.alloc _, (by first | exact Blk.new _ _ _ | exact blk_drewJ (Blk.new _ _ _))⟩ ?_
      clear hHeld o
      rintro W_1 ⟨hHeld, o, hb⟩
      refine wpAnyH_ready (rs := [3]) (by kernel_rfl) (by simp) (AllReadyH.cons rfl (fun K hK => ?_) AllReadyH.nil)
      go_simp
      go_wp2_with (go_at_call 18; refine (new_any _ _).mono ?_; rintro e W_2 ⟨rfl, hd, oc⟩)
      refine hK.out _ _ (HF.out _ (o.trans oc)) (fun hHeld => ?_)
      clear hK K
      try simp only [List.getElem_toArray, List.getElem_cons_succ, List.getElem_cons_zero, Act.put, List.setIfInBounds_toArray, List.set_cons_zero, List.set_cons_succ]
      have hgh := o.size
      replace o := o.trans oc
      replace hb := oc.blk hb (by simp)
      clear oc
      refine wpAnyH_take (i := 7) (v := ?_) rfl (by kernel_rfl) (by kernel_rfl) (by kernel_rfl) (fun _ _ _ h => h) (Or.inl ⟨by rfl, ?_⟩) (by assumption) ?_
      rotate_left
      · intro w hSw
        try dsimp only at hSw
        go_simp
        first | done | with_reducible rfl
      try simp only [List.getElem_toArray, List.getElem_cons_succ, List.getElem_cons_zero, Act.put, List.setIfInBounds_toArray, List.set_cons_zero, List.set_cons_succ]
      refine wpAnyH_ready (rs := [8]) (by kernel_rfl) (by simp) (AllReadyH.cons rfl (fun K hK => ?_) AllReadyH.nil)
      go_simp
      refine hK.out _ _ (HF.out _ (o.alloc _)) (fun hHeld => ?_)
      clear hK K
      try simp only [List.getElem_toArray, List.getElem_cons_succ, List.getElem_cons_zero, Act.put, List.setIfInBounds_toArray, List.set_cons_zero, List.set_cons_succ]
      refine wpAnyH_take (i := 9) (v := ?_) rfl (by kernel_rfl) (by kernel_rfl) (by kernel_rfl) (fun _ _ _ h => h) (Or.inl ⟨by rfl, ?_⟩) (by assumption) ?_
      rotate_left
      · intro w hSw
        try dsimp only at hSw
        go_simp
        first | done | with_reducible rfl
      try simp only [List.getElem_toArray, List.getElem_cons_succ, List.getElem_cons_zero, Act.put, List.setIfInBounds_toArray, List.set_cons_zero, List.set_cons_succ]
      refine wpAnyH_done (by kernel_rfl) ?_ _
      refine NoPanic.normal ?_
      go_wp2_with fail
      go_ret
      exact new_end (HO.out.trans o) hd hb (by omega) (by have := HO.out.size; omega) (by have := HO.out.size; omega)

theorem newj_no {P C M : Int} (hm : mayB P C M = false) (w : World) : Calls Try.prog 9 #[.agg #[.int .i64 P, .int .i64 C, .int .i64 M]] w (NewQ w ⟨clampW 0, 0, [], fun _ => pty0, 0⟩) := by
  have HM := Lib.hid hm
  have hmk : ∀ W, (Instr.makeSlice 33 (.int .i64 0) (.int .i64 0)).run Try.prog W = .ok (.slice (some ⟨W.heap.size, 0, none⟩) 0 0) (W.alloc (.cells (cliZ 0) 70)) := fun W => make_clients 0 (by decide) W
  have hn : 0 ≤ 12 := by decide
  clear hm
  go_enter Try.func9, Try.ntmps9
  go_upto_region 3 with (go_at_call 17; refine (may_any _ _ _ _).mono ?_; rintro e w3 ⟨rfl, o3⟩; rw [HM.out]; have s3 : Blk w3 w.heap.size 23 #[.int .i64 P, .int .i64 C, .int .i64 M] := o3.blk (Blk.new _ _ _) (by simp); have HO3 := Lib.hid (((Off.refl [] w).alloc (.cells #[.int .i64 P, .int .i64 C, .int .i64 M] 23)).trans o3); obtain ⟨x0, x1, x2⟩ := three_cell s3; have f0 := s3.free 0; have f1 := s3.free 1; have f2 := s3.free 2; have S3 := Lib.hid s3; clear s3 o3)
  refine at_worldJ (R := fun W' => Off [] w W' ∧ Blk W' w.heap.size 23 #[.int .i64 0, .int .i64 0, .int .i64 0]) ⟨((HO3.out.set (.inr (Nat.le_refl _)) _).set (.inr (Nat.le_refl _)) _).set (.inr (Nat.le_refl _)) _, (((S3.out.set 0 _).set 1 _).set 2 _).to (by simp)⟩ ?_
  clear x0 x1 x2 f0 f1 f2 S3 HO3
  rintro W1 ⟨oW, hs⟩
  have HO := Lib.hid oW
  have HF : Hid (∀ W, Off [] W1 W → W.cell? ⟨w.heap.size, 0, none⟩ = some (.int .i64 0) ∧ W.cell? ⟨w.heap.size, 1, none⟩ = some (.int .i64 (0 : Int))) := Lib.hid (fun W o => ⟨(o.blk hs (by simp)).cell 0, (o.blk hs (by simp)).cell 1⟩)
  clear oW hs
  refine wp_region_noPanic ?_
  refine wp_region_held_drew (S := fun w' => w'.cell? ⟨w.heap.size, 0, none⟩ = some (.int .i64 (0)) ∧ w'.cell? ⟨w.heap.size, 1, none⟩ = some (.int .i64 (0 : Int))) (by kernel_rfl) (HF.out _ (Off.refl [] W1).drew) (fun hHeld => ?_)
  have o := (Off.refl [] W1).drew
  refine wpAnyH_take (i := 0) (v := ?_) rfl (by kernel_rfl) (by kernel_rfl) (by kernel_rfl) (fun _ _ _ h => h) (Or.inl ⟨by rfl, ?_⟩) (by assumption) ?_
  rotate_left
  · intro w hSw
    try dsimp only at hSw
    go_simp
    first | done | with_reducible rfl
  try simp only [List.getElem_toArray, List.getElem_cons_zero, Act.put, List.setIfInBounds_toArray, List.set_cons_zero, List.set_cons_succ]
  refine wpAnyH_take (i := 1) (v := ?_) rfl (by kernel_rfl) (by kernel_rfl) (by kernel_rfl) (fun _ _ _ h => h) (Or.inl ⟨by rfl, ?_⟩) (by assumption) ?_
  rotate_left
  · intro w hSw
    try dsimp only at hSw
    go_simp
    first | done | with_reducible rfl
  try simp only [List.getElem_toArray, List.getElem_cons_succ, List.getElem_cons_zero, Act.put, List.setIfInBounds_toArray, List.set_cons_zero, List.set_cons_succ]
  refine wpAnyH_take (i := 2) (v := ?_) rfl (by kernel_rfl) (by kernel_rfl) (by kernel_rfl) (fun _ _ _ h => h) (Or.inl ⟨by rfl, ?_⟩) (by assumption) ?_
  rotate_left
  · intro w hSw
    try dsimp only at hSw
    go_simp
    first | done | with_reducible rfl
  try simp only [List.getElem_toArray, List.getElem_cons_succ, List.getElem_cons_zero, Act.put, List.setIfInBounds_toArray, List.set_cons_zero, List.set_cons_succ]
  refine wpAnyH_take (i := 4) (v := ?_) rfl (by kernel_rfl) (by kernel_rfl) (by kernel_rfl) (fun _ _ _ h => h) (Or.inl ⟨by rfl, ?_⟩) (by assumption) ?_
  rotate_left
  · intro w hSw
    try dsimp only at hSw
    go_simp
    first | done | with_reducible rfl
  try simp only [List.getElem_toArray, List.getElem_cons_succ, List.getElem_cons_zero, Act.put, List.setIfInBounds_toArray, List.set_cons_zero, List.set_cons_succ]
  refine wpAnyH_take (i := 5) (v := ?_) rfl (by kernel_rfl) (by kernel_rfl) (by kernel_rfl) (fun _ _ _ h => h) (Or.inl ⟨by rfl, ?_⟩) (by assumption) ?_
  rotate_left
  · intro w hSw
    try dsimp only at hSw
    go_simp
    first | done | with_reducible rfl
  try simp only [List.getElem_toArray, List.getElem_cons_succ, List.getElem_cons_zero, Act.put, List.setIfInBounds_toArray, List.set_cons_zero, List.set_cons_succ]
  refine wpAnyH_ready (rs := [3, 6]) (by kernel_rfl) (by simp) (AllReadyH.cons rfl (fun K hK => ?_) (AllReadyH.cons rfl (fun K hK => ?_) AllReadyH.nil))
  · as_aux_lemma =>
      go_simp
      go_wp2_with (go_at_call 18; refine (new_any _ _).mono ?_; rintro e W_1 ⟨rfl, hd, oc⟩)
      refine hK.out _ _ (HF.out _ (o.trans oc)) (fun hHeld => ?_)
      clear hK K
      try simp only [List.getElem_toArray, List.getElem_cons_succ, List.getElem_cons_zero, Act.put, List.setIfInBounds_toArray, List.set_cons_zero, List.set_cons_succ]
      have hgh := o.size
      replace o := o.trans oc
      clear oc
      refine wpAnyH_ready (rs := [6]) (by kernel_rfl) (by simp) (AllReadyH.cons rfl (fun K hK => ?_) AllReadyH.nil)
      go_simp
      refine hK.out _ _ (HF.out _ (o.alloc _)) (fun hHeld => ?_)
      clear hK K
      try simp only [List.getElem_toArray, List.getElem_cons_succ, List.getElem_cons_zero, Act.put, List.setIfInBounds_toArray, List.set_cons_zero, List.set_cons_succ]
      have hgb : W1.heap.size ≤ W_1.heap.size := o.size
      refine anyH_world (R := fun W' => (fun w' => w'.cell? ⟨w.heap.size, 0, none⟩ = some (.int .i64 (0)) ∧ w'.cell? ⟨w.heap.size, 1, none⟩ = some (.int .i64 (0 : Int))) W' ∧ Off [] W1 W' ∧ Blk W' W_1.heap.size 70 (cliZ 0) ∧ IsD W' W1.heap.size [W1.heap.size] (clampW (0)) []) ⟨hHeld, o.alloc _, (by first | exact Blk.new _ _ _ | exact blk_drewJ (Blk.new _ _ _)), hd.off0 ((Off.refl _ _).alloc _)⟩ ?_
      clear hHeld o hd
      rintro W_2 ⟨hHeld, o, hb, hd⟩
      refine wpAnyH_take (i := 7) (v := ?_) rfl (by kernel_rfl) (by kernel_rfl) (by kernel_rfl) (fun _ _ _ h => h) (Or.inl ⟨by rfl, ?_⟩) (by assumption) ?_
      rotate_left
      · intro w hSw
        try dsimp only at hSw
        go_simp
        first | done | with_reducible rfl
      try simp only [List.getElem_toArray, List.getElem_cons_succ, List.getElem_cons_zero, Act.put, List.setIfInBounds_toArray, List.set_cons_zero, List.set_cons_succ]
      refine wpAnyH_ready (rs := [8]) (by kernel_rfl) (by simp) (AllReadyH.cons rfl (fun K hK => ?_) AllReadyH.nil)
      go_simp
      refine hK.out _ _ (HF.out _ (o.alloc _)) (fun hHeld => ?_)
      clear hK K
      try simp only [List.getElem_toArray, List.getElem_cons_succ, List.getElem_cons_zero, Act.put, List.setIfInBounds_toArray, List.set_cons_zero, List.set_cons_succ]
      refine wpAnyH_take (i := 9) (v := ?_) rfl (by kernel_rfl) (by kernel_rfl) (by kernel_rfl) (fun _ _ _ h => h) (Or.inl ⟨by rfl, ?_⟩) (by assumption) ?_
      rotate_left
      · intro w hSw
        try dsimp only at hSw
        go_simp
        first | done | with_reducible rfl
      try simp only [List.getElem_toArray, List.getElem_cons_succ, List.getElem_cons_zero, Act.put, List.setIfInBounds_toArray, List.set_cons_zero, List.set_cons_succ]
      refine wpAnyH_done (by kernel_rfl) ?_ _
      refine NoPanic.normal ?_
      go_wp2_with fail
      go_ret
      exact new_end (HO.out.trans o) hd hb (by omega) (by have := HO.out.size; omega) (by have := HO.out.size; omega)
  · as_aux_lemma =>
      go_simp
      refine hK.out _ _ (HF.out _ (o.alloc _)) (fun hHeld => ?_)
      clear hK K
      try simp only [List.getElem_toArray, List.getElem_cons_succ, List.getElem_cons_zero, Act.put, List.setIfInBounds_toArray, List.set_cons_zero, List.set_cons_succ]
      have hgb : W1.heap.size ≤ W1.heap.size := o.size
      refine anyH_world (R := fun W' => (fun w' => w'.cell? ⟨w.heap.size, 0, none⟩ = some (.int .i64 (0)) ∧ w'.cell? ⟨w.heap.size, 1, none⟩ = some (.int .i64 (0 : Int))) W' ∧ Off [] W1 W' ∧ Blk W' W1.heap.size 70 (cliZ 0)) ⟨hHeld, o.alloc _, (by first | exact Blk.new _ _ _ | exact blk_drewJ (Blk.new _ _ _))⟩ ?_
      clear hHeld o
      rintro W_1 ⟨hHeld, o, hb⟩
      refine wpAnyH_ready (rs := [3]) (by kernel_rfl) (by simp) (AllReadyH.cons rfl (fun K hK => ?_) AllReadyH.nil)
      go_simp
      go_wp2_with (go_at_call 18; refine (new_any _ _).mono ?_; rintro e W_2 ⟨rfl, hd, oc⟩)
      refine hK.out _ _ (HF.out _ (o.trans oc)) (fun hHeld => ?_)
      clear hK K
      try simp only [List.getElem_toArray, List.getElem_cons_succ, List.getElem_cons_zero, Act.put, List.setIfInBounds_toArray, List.set_cons_zero, List.set_cons_succ]
      have hgh := o.size
      replace o := o.trans oc
      replace hb := oc.blk hb (by simp)
      clear oc
      refine wpAnyH_take (i := 7) (v := ?_) rfl (by kernel_rfl) (by kernel_rfl) (by kernel_rfl) (fun _ _ _ h => h) (Or.inl ⟨by rfl, ?_⟩) (by assumption) ?_
      rotate_left
      · intro w hSw
        try dsimp only at hSw
        go_simp
        first | done | with_reducible rfl
      try simp only [List.getElem_toArray, List.getElem_cons_succ, List.getElem_cons_zero, Act.put, List.setIfInBounds_toArray, List.set_cons_zero, List.set_cons_succ]
      refine wpAnyH_ready (rs := [8]) (by kernel_rfl) (by simp) (AllReadyH.cons rfl (fun K hK => ?_) AllReadyH.nil)
      go_simp
      refine hK.out _ _ (HF.out _ (o.alloc _)) (fun hHeld => ?_)
      clear hK K
      try simp only [List.getElem_toArray, List.getElem_cons_succ, List.getElem_cons_zero, Act.put, List.setIfInBounds_toArray, List.set_cons_zero, List.set_cons_succ]
      refine wpAnyH_take (i := 9) (v := ?_) rfl (by kernel_rfl) (by kernel_rfl) (by kernel_rfl) (fun _ _ _ h => h) (Or.inl ⟨by rfl, ?_⟩) (by assumption) ?_
      rotate_left
      · intro w hSw
        try dsimp only at hSw
        go_simp
        first | done | with_reducible rfl
      try simp only [List.getElem_toArray, List.getElem_cons_succ, List.getElem_cons_zero, Act.put, List.setIfInBounds_toArray, List.set_cons_zero, List.set_cons_succ]
      refine wpAnyH_done (by kernel_rfl) ?_ _
      refine NoPanic.normal ?_
      go_wp2_with fail
      go_ret
      exact new_end (HO.out.trans o) hd hb (by omega) (by have := HO.out.size; omega) (by have := HO.out.size; omega)

end Go.Proofs.Ytfgkjfneeggbjaa.Jud
