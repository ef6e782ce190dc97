/- Stage 8: the program's own magazine machines: where a walk stands in memory; at, stop, on, begin. (Written by tools/mga_gen.py over tools/XMgA.src.) -/
import Derived.Test.YtdnahojpeplajaaMagM
import Derived.Test.YtdnahojpeplajaaTold
namespace Go.Proofs.Ytdnahojpeplajaa.Mag
open Go.RowKit Mem Go.Proofs.Ytdnahojpeplajaa.Words Go.Proofs.Ytdnahojpeplajaa.Plan Go.Proofs.Ytdnahojpeplajaa.Pack Go.Proofs.Ytdnahojpeplajaa.Told
set_option maxRecDepth 100000
set_option maxHeartbeats 4000000

/-- The cells of a walk, and those behind it. -/
def wk (P C M c i n : Int) (r : List Value) : Array Value := ⟨.int .i64 P :: .int .i64 C :: .int .i64 M :: .int .i64 c :: .int .i64 i :: .int .i64 n :: r⟩
section
variable {w w' : World} {g : Nat} {ty : TypeId} {P C M c i n : Int} {r : List Value}
theorem wk_cells (h : Blk w g ty (wk P C M c i n r)) : w.cell? ⟨g, 0, none⟩ = some (.int .i64 P) ∧ w.cell? ⟨g, 1, none⟩ = some (.int .i64 C) ∧ w.cell? ⟨g, 2, none⟩ = some (.int .i64 M) ∧ w.cell? ⟨g, 3, none⟩ = some (.int .i64 c) ∧ w.cell? ⟨g, 4, none⟩ = some (.int .i64 i) ∧ w.cell? ⟨g, 5, none⟩ = some (.int .i64 n) :=
  ⟨h.cell 0, h.cell 1, h.cell 2, h.cell 3, h.cell 4, h.cell 5⟩
theorem wk_next (x : Int) : (wk P C M c i n r).setIfInBounds 5 (.int .i64 x) = wk P C M c i x r := rfl
theorem wk_i (x : Int) : (wk P C M c i n r).setIfInBounds 4 (.int .i64 x) = wk P C M c x n r := rfl

theorem walk_at (h : Blk w g ty (wk P C M c i n r)) :
    Calls Try.prog 38 #[.pointer (some ⟨g, 0, none⟩)] w fun e w' => e = .returned (.int .i64 (magI P C M c i)) ∧ Off [] w w' := by
  have HB := Lib.hid h
  clear h
  go_enter Try.func38, Try.ntmps38
  go_upto_region 1 with fail
  refine told_region (S := fun w' => (w'.cell? ⟨g, 0, none⟩ = some (.int .i64 P) ∧ w'.cell? ⟨g, 1, none⟩ = some (.int .i64 C) ∧ w'.cell? ⟨g, 2, none⟩ = some (.int .i64 M) ∧ w'.cell? ⟨g, 3, none⟩ = some (.int .i64 c) ∧ w'.cell? ⟨g, 4, none⟩ = some (.int .i64 i) ∧ w'.cell? ⟨g, 5, none⟩ = some (.int .i64 n)) ∧ Off [] w w') (by kernel_rfl) (by kernel_rfl) ⟨wk_cells ((Off.refl [] w).drew.blk HB.out (by simp)), (Off.refl [] w).drew⟩ ?_
  refine told_take (i := 0) (v := ?_) rfl (by kernel_rfl) (by kernel_rfl) (Or.inl ⟨by rfl, ?_⟩) ?_
  rotate_left
  · intro w hSw
    try dsimp only at hSw
    go_simp
    first | done | with_reducible rfl
  try simp only [List.getElem_toArray, List.getElem_cons_zero, Act.put, List.setIfInBounds_toArray, List.set_cons_zero, List.set_cons_succ]
  refine told_take (i := 1) (v := ?_) rfl (by kernel_rfl) (by kernel_rfl) (Or.inl ⟨by rfl, ?_⟩) ?_
  rotate_left
  · intro w hSw
    try dsimp only at hSw
    go_simp
    first | done | with_reducible rfl
  try simp only [List.getElem_toArray, List.getElem_cons_succ, List.getElem_cons_zero, Act.put, List.setIfInBounds_toArray, List.set_cons_zero, List.set_cons_succ]
  refine told_take (i := 2) (v := ?_) rfl (by kernel_rfl) (by kernel_rfl) (Or.inl ⟨by rfl, ?_⟩) ?_
  rotate_left
  · intro w hSw
    try dsimp only at hSw
    go_simp
    first | done | with_reducible rfl
  try simp only [List.getElem_toArray, List.getElem_cons_succ, List.getElem_cons_zero, Act.put, List.setIfInBounds_toArray, List.set_cons_zero, List.set_cons_succ]
  refine told_take (i := 3) (v := ?_) rfl (by kernel_rfl) (by kernel_rfl) (Or.inl ⟨by rfl, ?_⟩) ?_
  rotate_left
  · intro w hSw
    try dsimp only at hSw
    go_simp
    first | done | with_reducible rfl
  try simp only [List.getElem_toArray, List.getElem_cons_succ, List.getElem_cons_zero, Act.put, List.setIfInBounds_toArray, List.set_cons_zero, List.set_cons_succ]
  refine told_take (i := 4) (v := ?_) rfl (by kernel_rfl) (by kernel_rfl) (Or.inl ⟨by rfl, ?_⟩) ?_
  rotate_left
  · intro w hSw
    try dsimp only at hSw
    go_simp
    first | done | with_reducible rfl
  try simp only [List.getElem_toArray, List.getElem_cons_succ, List.getElem_cons_zero, Act.put, List.setIfInBounds_toArray, List.set_cons_zero, List.set_cons_succ]
  refine told_take (i := 5) (v := ?_) rfl (by kernel_rfl) (by kernel_rfl) (Or.inl ⟨by rfl, ?_⟩) ?_
  rotate_left
  · intro w hSw
    try dsimp only at hSw
    go_simp
    first | done | with_reducible rfl
  try simp only [List.getElem_toArray, List.getElem_cons_succ, List.getElem_cons_zero, Act.put, List.setIfInBounds_toArray, List.set_cons_zero, List.set_cons_succ]
  refine told_take (i := 6) (v := ?_) rfl (by kernel_rfl) (by kernel_rfl) (Or.inl ⟨by rfl, ?_⟩) ?_
  rotate_left
  · intro w hSw
    try dsimp only at hSw
    go_simp
    first | done | with_reducible rfl
  try simp only [List.getElem_toArray, List.getElem_cons_succ, List.getElem_cons_zero, Act.put, List.setIfInBounds_toArray, List.set_cons_zero, List.set_cons_succ]
  refine told_take (i := 7) (v := ?_) rfl (by kernel_rfl) (by kernel_rfl) (Or.inl ⟨by rfl, ?_⟩) ?_
  rotate_left
  · intro w hSw
    try dsimp only at hSw
    go_simp
    first | done | with_reducible rfl
  try simp only [List.getElem_toArray, List.getElem_cons_succ, List.getElem_cons_zero, Act.put, List.setIfInBounds_toArray, List.set_cons_zero, List.set_cons_succ]
  refine told_take (i := 8) (v := ?_) rfl (by kernel_rfl) (by kernel_rfl) (Or.inl ⟨by rfl, ?_⟩) ?_
  rotate_left
  · intro w hSw
    try dsimp only at hSw
    go_simp
    first | done | with_reducible rfl
  try simp only [List.getElem_toArray, List.getElem_cons_succ, List.getElem_cons_zero, Act.put, List.setIfInBounds_toArray, List.set_cons_zero, List.set_cons_succ]
  refine told_take (i := 9) (v := ?_) rfl (by kernel_rfl) (by kernel_rfl) (Or.inl ⟨by rfl, ?_⟩) ?_
  rotate_left
  · intro w hSw
    try dsimp only at hSw
    go_simp
    first | done | with_reducible rfl
  try simp only [List.getElem_toArray, List.getElem_cons_succ, List.getElem_cons_zero, Act.put, List.setIfInBounds_toArray, List.set_cons_zero, List.set_cons_succ]
  refine told_take (i := 10) (v := ?_) rfl (by kernel_rfl) (by kernel_rfl) (Or.inl ⟨by rfl, ?_⟩) ?_
  rotate_left
  · intro w hSw
    try dsimp only at hSw
    go_simp
    first | done | with_reducible rfl
  try simp only [List.getElem_toArray, List.getElem_cons_succ, List.getElem_cons_zero, Act.put, List.setIfInBounds_toArray, List.set_cons_zero, List.set_cons_succ]
  refine told_take (i := 11) (v := ?_) rfl (by kernel_rfl) (by kernel_rfl) (Or.inl ⟨by rfl, ?_⟩) ?_
  rotate_left
  · intro w hSw
    try dsimp only at hSw
    go_simp
    first | done | with_reducible rfl
  try simp only [List.getElem_toArray, List.getElem_cons_succ, List.getElem_cons_zero, Act.put, List.setIfInBounds_toArray, List.set_cons_zero, List.set_cons_succ]
  refine told_call (i := 12) (v := .int .i64 (magI P C M c i)) (f := ?_) (args := ?_) rfl (by kernel_rfl) (by kernel_rfl) (by rfl) ?_ ?_ ?_
  rotate_left 2
  · intro w hSw
    try dsimp only at hSw
    go_simp
    first | done | with_reducible rfl | (refine ⟨?_, ?_⟩ <;> rfl)
  · intro w hSw
    refine (mag_any P C M c i _).mono ?_
    rintro e w2 ⟨rfl, o⟩
    exact ⟨rfl, wk_cells ((hSw.2.trans o).blk HB.out (by simp)), hSw.2.trans o⟩
  try simp only [List.getElem_toArray, List.getElem_cons_succ, List.getElem_cons_zero, Act.put, List.setIfInBounds_toArray, List.set_cons_zero, List.set_cons_succ]
  refine told_take (i := 13) (v := ?_) rfl (by kernel_rfl) (by kernel_rfl) (Or.inl ⟨by rfl, ?_⟩) ?_
  rotate_left
  · intro w hSw
    try dsimp only at hSw
    go_simp
    first | done | with_reducible rfl
  try simp only [List.getElem_toArray, List.getElem_cons_succ, List.getElem_cons_zero, Act.put, List.setIfInBounds_toArray, List.set_cons_zero, List.set_cons_succ]
  refine told_done (by kernel_rfl) ?_
  intro w1 hS1
  have oc := hS1.2
  clear hS1
  go_wp2_with fail
  go_ret
  exact ⟨rfl, oc⟩

/-- Behind the last one it is ended. -/
def nxt (P C M c i n : Int) : Int := if magI P C M c i < 0 then 0 else n
theorem walk_stop (h : Blk w g ty (wk P C M c i n r)) :
    Calls Try.prog 53 #[.pointer (some ⟨g, 0, none⟩)] w fun e w' => e = .returned (.tuple #[]) ∧ Blk w' g ty (wk P C M c i (nxt P C M c i n) r) ∧ Off [g] w w' := by
  have HB := Lib.hid h
  clear h
  unfold nxt
  by_cases hm : magI P C M c i < 0
  · rw [if_pos hm]
    have hd : decide (magI P C M c i < 0) = true := by simpa using hm
    clear hm
    go_enter Try.func53, Try.ntmps53
    go_wp2_with (go_at_call 38; refine (walk_at HB.out).mono ?_; rintro e w1 ⟨rfl, o1⟩; have hb := o1.blk HB.out (by simp); have c5 := hb.cell 5; have z5 := hb.free 5)
    go_end0
    exact ⟨rfl, (hb.set 5 _).to (wk_next _), (o1.more (by simp)).set (.inl (by simp)) _⟩
  · rw [if_neg hm]
    have hd : decide (magI P C M c i < 0) = false := by simpa using hm
    clear hm
    go_enter Try.func53, Try.ntmps53
    go_wp2_with (go_at_call 38; refine (walk_at HB.out).mono ?_; rintro e w1 ⟨rfl, o1⟩; have hb := o1.blk HB.out (by simp))
    go_end0
    exact ⟨rfl, hb, o1.more (by simp)⟩

theorem walk_on (h : Blk w g ty (wk P C M c i n r)) (hi : 0 ≤ i) (hi2 : i < 9223372036854775807) :
    Calls Try.prog 58 #[.pointer (some ⟨g, 0, none⟩)] w fun e w' => e = .returned (.tuple #[]) ∧ Blk w' g ty (wk P C M c (i + 1) (nxt P C M c (i + 1) n) r) ∧ Off [g] w w' := by
  obtain ⟨c0, c1, c2, c3, c4, c5⟩ := wk_cells h
  clear c0 c1 c2 c3 c5
  have z4 := h.free 4
  have HB := Lib.hid h
  clear h
  go_enter Try.func58, Try.ntmps58
  go_wp2_with (go_at_call 53; refine (walk_stop (((HB.out.set 4 _).to (wk_i (i + 1))))).mono ?_; rintro e w1 ⟨rfl, hb, o1⟩)
  go_end0
  exact ⟨rfl, hb, ((Off.refl [g] w).set (.inl (by simp)) _).trans o1⟩
end

theorem blk_one (w : World) (a : Obj) (ty : TypeId) (cs : Array Value) : Blk ((w.alloc a).alloc (.cells cs ty)) (w.heap.size + 1) ty cs := by
  have h := Blk.new (w.alloc a) ty cs
  simpa using h
theorem blk_two (w : World) (a b : Obj) (ty : TypeId) (cs : Array Value) : Blk (((w.alloc a).alloc b).alloc (.cells cs ty)) (w.heap.size + 1 + 1) ty cs := by
  have h := Blk.new ((w.alloc a).alloc b) ty cs
  simpa using h
theorem begin_any (P C M c : Int) (w : World) :
    Calls Try.prog 33 #[.agg #[.int .i64 P, .int .i64 C, .int .i64 M], .int .i64 c] w fun e w' => e = .returned (.agg #[.int .i64 P, .int .i64 C, .int .i64 M, .int .i64 c, .int .i64 0, .int .i64 (nxt P C M c 0 1)]) ∧ Off [] w w' := by
  go_enter Try.func33, Try.ntmps33
  go_upto_region 2 with fail
  refine at_worldT (R := fun W' => Off [] w W' ∧ Blk W' (w.heap.size + 1) 67 (wk 0 0 0 0 0 0 []) ∧ Blk W' (w.heap.size + 1 + 1) 67 (wk P C M c 0 1 [])) ⟨(((Off.refl _ _).alloc _).alloc _).alloc _, (blk_one _ _ _ _).alloc _, blk_two _ _ _ _ _⟩ ?_
  rintro W1 ⟨o, hr, hk⟩
  go_upto_region 3 with (go_at_call 53; refine (walk_stop hk).mono ?_; rintro e w2 ⟨rfl, hb, o2⟩)
  have hr2 := o2.blk hr (by simp)
  refine at_worldT (R := fun W' => Off [] w W' ∧ Blk W' (w.heap.size + 1) 67 (wk 0 0 0 0 0 0 []) ∧ Blk W' (w.heap.size + 1 + 1) 67 (wk P C M c 0 (nxt P C M c 0 1) [])) ⟨o.trans' o2 (by simp; omega), hr2, hb⟩ ?_
  clear o hr hk hb o2 hr2
  rintro W2 ⟨o, hr, hk⟩
  obtain ⟨k0, k1, k2, k3, k4, k5⟩ := wk_cells hk
  obtain ⟨r0, r1, r2, r3, r4, r5⟩ := wk_cells hr
  have z0 := hr.free 0
  have z1 := hr.free 1
  have z2 := hr.free 2
  have z3 := hr.free 3
  have z4 := hr.free 4
  have z5 := hr.free 5
  go_wp2_with fail
  refine bodyPost_ret (v := .agg #[.int .i64 P, .int .i64 C, .int .i64 M, .int .i64 c, .int .i64 0, .int .i64 (nxt P C M c 0 1)]) (by simp [results, Try.results33, go_sem, r0, r1, r2, r3, r4, r5]) rfl ⟨rfl, ?_⟩
  have hb : w.heap.size ≤ w.heap.size + 1 := by omega
  exact (((((o.set (.inr hb) _).set (.inr hb) _).set (.inr hb) _).set (.inr hb) _).set (.inr hb) _).set (.inr hb) _

end Go.Proofs.Ytdnahojpeplajaa.Mag
