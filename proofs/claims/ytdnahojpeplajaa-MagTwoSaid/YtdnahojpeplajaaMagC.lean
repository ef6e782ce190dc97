/- Stage 8: what its laws share: Fair, Steps; the contracts asked of the program's machines, over any predicate. (Written by tools/magc_gen.py over tools/XMagC.src.) -/
import Derived.Test.YtdnahojpeplajaaMagR
import Derived.Test.YtdnahojpeplajaaRefC
import Derived.Laws.StructEq
namespace Go.Proofs.Ytdnahojpeplajaa.Mag
open Go.RowKit Mem Go.Proofs.Ytdnahojpeplajaa.Words Go.Proofs.Ytdnahojpeplajaa.Plan Go.Proofs.Ytdnahojpeplajaa.Pack
set_option maxRecDepth 100000
set_option maxHeartbeats 4000000

theorem eq_access (c k p u x : Int) (b : Bool) (w : World) :
    (binOp .eql 81 (.agg #[.int .i64 c, .int .i64 k, .int .i64 p, .int .u64 u, .int .u64 x, .bool b]) (.agg #[.int .i64 c, .int .i64 k, .int .i64 p, .int .u64 u, .int .u64 x, .bool b])).run Try.prog w = .ok (.bool true) w := by
  have h1 : Try.prog.underlying 81 = some (.struct (Try.prog.fieldsOf 81)) := by kernel_rfl
  have h2 : Try.prog.stoodInHeld 81 = false := by kernel_rfl
  rw [run_eql_struct, run_equalIn_agg _ _ _ _ _ h1 h2]
  have h3 := Try.underlying81
  rw [h1] at h3
  injection h3 with h3
  injection h3 with h3
  rw [h3]
  simp [Op.eqFields, go_sem, Try.underlying3, Try.underlying27, Try.underlying4]

theorem last_cells {w : World} {g h : Nat} {s : St} (hw : IsW w g h s) :
    Calls Try.prog 47 #[.pointer (some ⟨g, 0, none⟩)] w fun e w' => e = .returned (.agg #[.int .i64 s.last.client, .int .i64 s.last.kind, .int .i64 s.last.place, .int .u64 s.last.was, .int .u64 s.last.put, .bool s.last.ok]) ∧ Off [] w w' := last_any hw
/-- The words, and the last step, are the document's. -/
theorem steps_same {w : World} {base g h gm hm : Nat} {s : St} (hw : IsW w g h s) (hmm : IsM w base gm hm s) :
    Calls Try.prog 25 #[.pointer (some ⟨g, 0, none⟩), .pointer (some ⟨gm, 0, none⟩)] w fun e w' => e = .returned (.bool true) ∧ Off [] w w' := by
  have HW : Hid (∀ W, Off [] w W → IsW W g h s) := Lib.hid (fun W o => hw.off o (by simp) (by simp))
  have HM : Hid (∀ W, Off [] w W → IsM W base gm hm s) := Lib.hid (fun W o => hmm.off0 o)
  have heq := eq_access s.last.client s.last.kind s.last.place s.last.was s.last.put s.last.ok
  clear hw hmm
  go_enter Try.func25, Try.ntmps25
  go_upto_region 1 with fail
  refine wp_region_noPanic ?_
  refine wp_region_held_drew (S := fun w' => w'.cell? ⟨gm, 0, none⟩ = some (.slice (some ⟨hm, 0, none⟩) s.row.length s.row.length) ∧ w'.cell? ⟨gm, 1, none⟩ = some (.int .i64 s.steps) ∧ w'.cell? ⟨gm, 2, none⟩ = some (.int .i64 s.last.client) ∧ w'.cell? ⟨gm, 3, none⟩ = some (.int .i64 s.last.kind) ∧ w'.cell? ⟨gm, 4, none⟩ = some (.int .i64 s.last.place) ∧ w'.cell? ⟨gm, 5, none⟩ = some (.int .u64 s.last.was) ∧ w'.cell? ⟨gm, 6, none⟩ = some (.int .u64 s.last.put) ∧ w'.cell? ⟨gm, 7, none⟩ = some (.bool s.last.ok)) (by kernel_rfl) (HM.out _ (Off.refl [] w).drew).cells (fun hHeld => ?_)
  have o := (Off.refl [] w).drew
  refine wpAnyH_take (i := 0) (v := ?_) rfl (by kernel_rfl) (by kernel_rfl) (by kernel_rfl) (fun _ _ _ h => h) (Or.inl ⟨by rfl, ?_⟩) (by assumption) ?_
  rotate_left
  · intro w hSw
    try dsimp only at hSw
    go_simp
    first | done | with_reducible rfl
  try simp only [List.getElem_toArray, List.getElem_cons_zero, Act.put, List.setIfInBounds_toArray, List.set_cons_zero, List.set_cons_succ]
  refine wpAnyH_take (i := 2) (v := ?_) rfl (by kernel_rfl) (by kernel_rfl) (by kernel_rfl) (fun _ _ _ h => h) (Or.inl ⟨by rfl, ?_⟩) (by assumption) ?_
  rotate_left
  · intro w hSw
    try dsimp only at hSw
    go_simp
    first | done | with_reducible rfl
  try simp only [List.getElem_toArray, List.getElem_cons_succ, List.getElem_cons_zero, Act.put, List.setIfInBounds_toArray, List.set_cons_zero, List.set_cons_succ]
  refine wpAnyH_take (i := 3) (v := ?_) rfl (by kernel_rfl) (by kernel_rfl) (by kernel_rfl) (fun _ _ _ h => h) (Or.inl ⟨by rfl, ?_⟩) (by assumption) ?_
  rotate_left
  · intro w hSw
    try dsimp only at hSw
    go_simp
    first | done | with_reducible rfl
  try simp only [List.getElem_toArray, List.getElem_cons_succ, List.getElem_cons_zero, Act.put, List.setIfInBounds_toArray, List.set_cons_zero, List.set_cons_succ]
  refine wpAnyH_take (i := 4) (v := ?_) rfl (by kernel_rfl) (by kernel_rfl) (by kernel_rfl) (fun _ _ _ h => h) (Or.inl ⟨by rfl, ?_⟩) (by assumption) ?_
  rotate_left
  · intro w hSw
    try dsimp only at hSw
    go_simp
    first | done | with_reducible rfl
  try simp only [List.getElem_toArray, List.getElem_cons_succ, List.getElem_cons_zero, Act.put, List.setIfInBounds_toArray, List.set_cons_zero, List.set_cons_succ]
  refine wpAnyH_take (i := 5) (v := ?_) rfl (by kernel_rfl) (by kernel_rfl) (by kernel_rfl) (fun _ _ _ h => h) (Or.inl ⟨by rfl, ?_⟩) (by assumption) ?_
  rotate_left
  · intro w hSw
    try dsimp only at hSw
    go_simp
    first | done | with_reducible rfl
  try simp only [List.getElem_toArray, List.getElem_cons_succ, List.getElem_cons_zero, Act.put, List.setIfInBounds_toArray, List.set_cons_zero, List.set_cons_succ]
  refine wpAnyH_ready (rs := [1]) (by kernel_rfl) (by simp) (AllReadyH.cons rfl (fun K hK => ?_) AllReadyH.nil)
  go_simp
  go_wp2_with (go_at_call 17; refine (steps_any (HW.out _ o)).mono ?_; rintro e W2 ⟨rfl, rfl⟩)
  refine hK.out _ _ (HM.out _ o).cells (fun hHeld => ?_)
  clear hK K
  try simp only [List.getElem_toArray, List.getElem_cons_succ, List.getElem_cons_zero, Act.put, List.setIfInBounds_toArray, List.set_cons_zero, List.set_cons_succ]
  refine wpAnyH_take (i := 6) (v := ?_) rfl (by kernel_rfl) (by kernel_rfl) (by kernel_rfl) (fun _ _ _ h => h) (Or.inl ⟨by rfl, ?_⟩) (by assumption) ?_
  rotate_left
  · intro w hSw
    try dsimp only at hSw
    go_simp
    first | done | with_reducible rfl
  try simp only [List.getElem_toArray, List.getElem_cons_succ, List.getElem_cons_zero, Act.put, List.setIfInBounds_toArray, List.set_cons_zero, List.set_cons_succ]
  refine wpAnyH_take (i := 7) (v := ?_) rfl (by kernel_rfl) (by kernel_rfl) (by kernel_rfl) (fun _ _ _ h => h) (Or.inl ⟨by rfl, ?_⟩) (by assumption) ?_
  rotate_left
  · intro w hSw
    try dsimp only at hSw
    go_simp
    first | done | with_reducible rfl
  try simp only [List.getElem_toArray, List.getElem_cons_succ, List.getElem_cons_zero, Act.put, List.setIfInBounds_toArray, List.set_cons_zero, List.set_cons_succ]
  refine wpAnyH_take (i := 8) (v := ?_) rfl (by kernel_rfl) (by kernel_rfl) (by kernel_rfl) (fun _ _ _ h => h) (Or.inl ⟨by rfl, ?_⟩) (by assumption) ?_
  rotate_left
  · intro w hSw
    try dsimp only at hSw
    go_simp
    first | done | with_reducible rfl
  try simp only [List.getElem_toArray, List.getElem_cons_succ, List.getElem_cons_zero, Act.put, List.setIfInBounds_toArray, List.set_cons_zero, List.set_cons_succ]
  refine wpAnyH_take (i := 10) (v := ?_) rfl (by kernel_rfl) (by kernel_rfl) (by kernel_rfl) (fun _ _ _ h => h) (Or.inl ⟨by rfl, ?_⟩) (by assumption) ?_
  rotate_left
  · intro w hSw
    try dsimp only at hSw
    go_simp
    first | done | with_reducible rfl
  try simp only [List.getElem_toArray, List.getElem_cons_succ, List.getElem_cons_zero, Act.put, List.setIfInBounds_toArray, List.set_cons_zero, List.set_cons_succ]
  refine wpAnyH_take (i := 11) (v := ?_) rfl (by kernel_rfl) (by kernel_rfl) (by kernel_rfl) (fun _ _ _ h => h) (Or.inl ⟨by rfl, ?_⟩) (by assumption) ?_
  rotate_left
  · intro w hSw
    try dsimp only at hSw
    go_simp
    first | done | with_reducible rfl
  try simp only [List.getElem_toArray, List.getElem_cons_succ, List.getElem_cons_zero, Act.put, List.setIfInBounds_toArray, List.set_cons_zero, List.set_cons_succ]
  refine wpAnyH_take (i := 12) (v := ?_) rfl (by kernel_rfl) (by kernel_rfl) (by kernel_rfl) (fun _ _ _ h => h) (Or.inl ⟨by rfl, ?_⟩) (by assumption) ?_
  rotate_left
  · intro w hSw
    try dsimp only at hSw
    go_simp
    first | done | with_reducible rfl
  try simp only [List.getElem_toArray, List.getElem_cons_succ, List.getElem_cons_zero, Act.put, List.setIfInBounds_toArray, List.set_cons_zero, List.set_cons_succ]
  refine wpAnyH_take (i := 13) (v := ?_) rfl (by kernel_rfl) (by kernel_rfl) (by kernel_rfl) (fun _ _ _ h => h) (Or.inl ⟨by rfl, ?_⟩) (by assumption) ?_
  rotate_left
  · intro w hSw
    try dsimp only at hSw
    go_simp
    first | done | with_reducible rfl
  try simp only [List.getElem_toArray, List.getElem_cons_succ, List.getElem_cons_zero, Act.put, List.setIfInBounds_toArray, List.set_cons_zero, List.set_cons_succ]
  refine wpAnyH_ready (rs := [9]) (by kernel_rfl) (by simp) (AllReadyH.cons rfl (fun K hK => ?_) AllReadyH.nil)
  go_simp
  go_wp2_with (go_at_call 47; refine (last_cells (HW.out _ o)).mono ?_; rintro e W3 ⟨rfl, oc⟩)
  refine hK.out _ _ (HM.out _ (o.trans oc)).cells (fun hHeld => ?_)
  clear hK K
  try simp only [List.getElem_toArray, List.getElem_cons_succ, List.getElem_cons_zero, Act.put, List.setIfInBounds_toArray, List.set_cons_zero, List.set_cons_succ]
  replace o := o.trans oc
  clear oc
  refine wpAnyH_take (i := 14) (v := ?_) rfl (by kernel_rfl) (by kernel_rfl) (by kernel_rfl) (fun _ _ _ h => h) (Or.inl ⟨by rfl, ?_⟩) (by assumption) ?_
  rotate_left
  · intro w hSw
    try dsimp only at hSw
    go_simp
    first | done | with_reducible rfl
  try simp only [List.getElem_toArray, List.getElem_cons_succ, List.getElem_cons_zero, Act.put, List.setIfInBounds_toArray, List.set_cons_zero, List.set_cons_succ]
  refine wpAnyH_take (i := 15) (v := ?_) rfl (by kernel_rfl) (by kernel_rfl) (by kernel_rfl) (fun _ _ _ h => h) (Or.inl ⟨by rfl, ?_⟩) (by assumption) ?_
  rotate_left
  · intro w hSw
    try dsimp only at hSw
    go_simp
    first | done | with_reducible rfl
  try simp only [List.getElem_toArray, List.getElem_cons_succ, List.getElem_cons_zero, Act.put, List.setIfInBounds_toArray, List.set_cons_zero, List.set_cons_succ]
  refine wpAnyH_take (i := 16) (v := ?_) rfl (by kernel_rfl) (by kernel_rfl) (by kernel_rfl) (fun _ _ _ h => h) (Or.inl ⟨by rfl, ?_⟩) (by assumption) ?_
  rotate_left
  · intro w hSw
    try dsimp only at hSw
    go_simp
    first | done | with_reducible rfl
  try simp only [List.getElem_toArray, List.getElem_cons_succ, List.getElem_cons_zero, Act.put, List.setIfInBounds_toArray, List.set_cons_zero, List.set_cons_succ]
  refine wpAnyH_take (i := 17) (v := ?_) rfl (by kernel_rfl) (by kernel_rfl) (by kernel_rfl) (fun _ _ _ h => h) (Or.inl ⟨by rfl, ?_⟩) (by assumption) ?_
  rotate_left
  · intro w hSw
    try dsimp only at hSw
    go_simp
    first | done | with_reducible rfl
  try simp only [List.getElem_toArray, List.getElem_cons_succ, List.getElem_cons_zero, Act.put, List.setIfInBounds_toArray, List.set_cons_zero, List.set_cons_succ]
  refine wpAnyH_take (i := 19) (v := ?_) rfl (by kernel_rfl) (by kernel_rfl) (by kernel_rfl) (fun _ _ _ h => h) (Or.inl ⟨by rfl, ?_⟩) (by assumption) ?_
  rotate_left
  · intro w hSw
    try dsimp only at hSw
    go_simp
    first | done | with_reducible rfl
  try simp only [List.getElem_toArray, List.getElem_cons_succ, List.getElem_cons_zero, Act.put, List.setIfInBounds_toArray, List.set_cons_zero, List.set_cons_succ]
  refine wpAnyH_take (i := 20) (v := ?_) rfl (by kernel_rfl) (by kernel_rfl) (by kernel_rfl) (fun _ _ _ h => h) (Or.inl ⟨by rfl, ?_⟩) (by assumption) ?_
  rotate_left
  · intro w hSw
    try dsimp only at hSw
    go_simp
    first | done | with_reducible rfl
  try simp only [List.getElem_toArray, List.getElem_cons_succ, List.getElem_cons_zero, Act.put, List.setIfInBounds_toArray, List.set_cons_zero, List.set_cons_succ]
  refine wpAnyH_take (i := 21) (v := ?_) rfl (by kernel_rfl) (by kernel_rfl) (by kernel_rfl) (fun _ _ _ h => h) (Or.inl ⟨by rfl, ?_⟩) (by assumption) ?_
  rotate_left
  · intro w hSw
    try dsimp only at hSw
    go_simp
    first | done | with_reducible rfl
  try simp only [List.getElem_toArray, List.getElem_cons_succ, List.getElem_cons_zero, Act.put, List.setIfInBounds_toArray, List.set_cons_zero, List.set_cons_succ]
  refine wpAnyH_take (i := 22) (v := ?_) rfl (by kernel_rfl) (by kernel_rfl) (by kernel_rfl) (fun _ _ _ h => h) (Or.inl ⟨by rfl, ?_⟩) (by assumption) ?_
  rotate_left
  · intro w hSw
    try dsimp only at hSw
    go_simp
    first | done | with_reducible rfl
  try simp only [List.getElem_toArray, List.getElem_cons_succ, List.getElem_cons_zero, Act.put, List.setIfInBounds_toArray, List.set_cons_zero, List.set_cons_succ]
  refine wpAnyH_ready (rs := [18]) (by kernel_rfl) (by simp) (AllReadyH.cons rfl (fun K hK => ?_) AllReadyH.nil)
  go_simp
  go_wp2_with (go_at_call 49; refine (all_any (HW.out _ o)).mono ?_; rintro e W4 ⟨gA, cA, rfl, hcA, -, hA, oc, -⟩)
  refine hK.out _ _ (HM.out _ (o.trans oc)).cells (fun hHeld => ?_)
  clear hK K
  try simp only [List.getElem_toArray, List.getElem_cons_succ, List.getElem_cons_zero, Act.put, List.setIfInBounds_toArray, List.set_cons_zero, List.set_cons_succ]
  replace o := o.trans oc
  clear oc
  have HA := Lib.hid hA
  clear hA
  refine wpAnyH_ready (rs := [23]) (by kernel_rfl) (by simp) (AllReadyH.cons rfl (fun K hK => ?_) AllReadyH.nil)
  go_simp
  go_wp2_with (go_at_call 48; refine (same_words gA hm cA _ s.row _ hcA (Nat.le_refl _) (HW.out _ o).small HA.out (fun k hk => (HM.out _ o).cell_at k hk)).mono ?_; rintro e W5 ⟨rfl, oc⟩)
  refine hK.out _ _ (HM.out _ (o.trans oc)).cells (fun hHeld => ?_)
  clear hK K
  try simp only [List.getElem_toArray, List.getElem_cons_succ, List.getElem_cons_zero, Act.put, List.setIfInBounds_toArray, List.set_cons_zero, List.set_cons_succ]
  replace o := o.trans oc
  clear oc
  refine wpAnyH_take (i := 24) (v := ?_) rfl (by kernel_rfl) (by kernel_rfl) (by kernel_rfl) (fun _ _ _ h => h) (Or.inl ⟨by rfl, ?_⟩) (by assumption) ?_
  rotate_left
  · intro w hSw
    try dsimp only at hSw
    go_simp
    first | done | with_reducible rfl
  try simp only [List.getElem_toArray, List.getElem_cons_succ, List.getElem_cons_zero, Act.put, List.setIfInBounds_toArray, List.set_cons_zero, List.set_cons_succ]
  refine wpAnyH_take (i := 25) (v := ?_) rfl (by kernel_rfl) (by kernel_rfl) (by kernel_rfl) (fun _ _ _ h => h) (Or.inl ⟨by rfl, ?_⟩) (by assumption) ?_
  rotate_left
  · intro w hSw
    try dsimp only at hSw
    go_simp
    first | done | with_reducible rfl
  try simp only [List.getElem_toArray, List.getElem_cons_succ, List.getElem_cons_zero, Act.put, List.setIfInBounds_toArray, List.set_cons_zero, List.set_cons_succ]
  refine wpAnyH_done (by kernel_rfl) ?_ _
  refine NoPanic.normal ?_
  go_wp2_with fail
  go_ret
  exact ⟨rfl, o⟩

theorem fair_any (P C M : Int) (a : Option Addr) (len cap : Nat) (w : World) :
    Calls Try.prog 19 #[.agg #[.int .i64 P, .int .i64 C, .int .i64 M], .slice a len cap] w fun e w' => e = .returned (.bool (mayB P C M && decide ((len : Int) = wordsI P C M))) ∧ Off [] w w' := by
  cases hm : mayB P C M
  · have HM := Lib.hid hm
    clear hm
    rw [Bool.false_and]
    go_enter Try.func19, Try.ntmps19
    go_wp2_with (go_at_call 20; refine (rmay_any _ _ _ _).mono ?_; rintro e w3 ⟨rfl, o3⟩; rw [HM.out])
    go_ret
    exact ⟨rfl, ((Off.refl _ _).alloc _).trans o3⟩
  · have HM := Lib.hid hm
    clear hm
    rw [Bool.true_and]
    go_enter Try.func19, Try.ntmps19
    go_wp2_with (first | (go_at_call 20; refine (rmay_any _ _ _ _).mono ?_; rintro e w3 ⟨rfl, o3⟩; rw [HM.out]; obtain ⟨s0, s1, s2⟩ := shp_cells (o3.blk (Blk.new _ _ _) (by simp))) | (go_at_call 8; refine (total_any _ _ _ _).mono ?_; rintro e w4 ⟨rfl, o4⟩))
    go_ret
    exact ⟨rfl, (((Off.refl _ _).alloc _).trans o3).trans o4⟩

abbrev HoldT := World → Nat → List Nat → Tk → Prop
/-- What is asked of the program's taker: its block, all blocks that are its own, what it says. -/
structure ConT (I : HoldT) : Prop where
  lt : ∀ {w g F t}, I w g F t → ∀ k ∈ F, k < w.heap.size
  keep : ∀ {w w' g F t}, I w g F t → (∀ k ∈ F, w'.heap[k]? = w.heap[k]?) → I w' g F t
  typ : ∀ {w g F t}, I w g F t → ∀ k ∈ F, ∃ ty cs, Blk w k ty cs ∧ ty ≠ 81
  new : ∀ P C M c k w, Calls Try.prog 11 #[.agg #[.int .i64 P, .int .i64 C, .int .i64 M], .int .i64 c, .int .i64 k] w fun e w' => (∃ g F, e = .returned (.pointer (some ⟨g, 0, none⟩)) ∧ I w' g F (tk0 P C M c k) ∧ ∀ j ∈ F, w.heap.size ≤ j) ∧ Off [] w w'
  step : ∀ {w g F t gw hw s}, I w g F t → t.Ok → IsW w gw hw s → gw ∉ F → hw ∉ F → (t.over = false → (s.row.length : Int) = wordsI t.P t.C t.M) → RowOk s → 0 ≤ s.steps → s.steps < 9223372036854775807 →
    Calls Try.prog 13 #[.pointer (some ⟨g, 0, none⟩), .pointer (some ⟨gw, 0, none⟩)] w fun e w' => e = .returned (.tuple #[]) ∧ (∃ F', I w' g F' (t.next s) ∧ ∀ j ∈ F', j ∈ F ∨ w.heap.size ≤ j) ∧ IsW w' gw hw (t.words s) ∧ Off (gw :: hw :: F) w w'
  done : ∀ {w g F t}, I w g F t → Calls Try.prog 16 #[.pointer (some ⟨g, 0, none⟩)] w fun e w' => e = .returned (.bool t.over) ∧ Off [] w w'
  found : ∀ {w g F t}, I w g F t → Calls Try.prog 23 #[.pointer (some ⟨g, 0, none⟩)] w fun e w' => (t.found = true → e = .returned (.tuple #[.int .i64 t.page, .int .i64 t.slot, .bool true])) ∧ (t.found = false → e = .returned (.tuple #[.int .i64 0, .int .i64 0, .bool false])) ∧ Off [] w w'

section
variable {I : HoldT} {w W W' : World} {base gT gR gw hw gm hm : Nat} {F : List Nat} {t : Tk} {s : St}
/-- Both takers, both words, side by side. -/
structure Side (I : HoldT) (base gT gR gw hw gm hm : Nat) (F : List Nat) (t : Tk) (s : St) (W : World) : Prop where
  q : I W gT F t
  r : IsRT W gR t
  p : IsW W gw hw s
  m : IsM W base gm hm s
  f : ∀ k ∈ F, base ≤ k
  b : base ≤ gw ∧ base ≤ hw ∧ base ≤ gR
  n : gw ∉ F ∧ hw ∉ F ∧ gR ∉ F ∧ gm ∉ F ∧ hm ∉ F
  d : hw ≠ hm
theorem Side.off0 (C : ConT I) (h : Side I base gT gR gw hw gm hm F t s W) (o : Off [] W W') : Side I base gT gR gw hw gm hm F t s W' :=
  ⟨C.keep h.q (fun k hk => o.block k (C.lt h.q k hk) (by simp)), o.blk h.r (by simp), h.p.off o (by simp) (by simp), h.m.off0 o, h.f, h.b, h.n, h.d⟩
theorem Side.apart (h : Side I base gT gR gw hw gm hm F t s W) : gR ≠ gw ∧ gR ≠ hw ∧ gm ≠ gw ∧ gm ≠ hw ∧ hm ≠ gw ∧ gR ≠ gm ∧ gR ≠ hm := by
  obtain ⟨cm, hbm⟩ := h.m.blk
  exact ⟨h.r.ne h.p.head (by decide), h.r.ne h.p.row (by decide), hbm.ne h.p.head (by decide), hbm.ne h.p.row (by decide), h.m.row.ne h.p.head (by decide), h.r.ne hbm (by decide), h.r.ne h.m.row (by decide)⟩
/-- Behind the program's step, and the document's. -/
theorem Side.both (C : ConT I) (h : Side I base gT gR gw hw gm hm F t s W) {F' : List Nat} {W2 : World} (hi : I W' gT F' (t.next s)) (hf : ∀ j ∈ F', j ∈ F ∨ W.heap.size ≤ j) (hp : IsW W' gw hw (t.words s)) (o : Off (gw :: hw :: F) W W')
    (hr : IsRT W2 gR (t.next s)) (hm2 : IsM W2 base gm hm (t.words s)) (sv : Save [gm, hm, gR] base W' W2) : Side I base gT gR gw hw gm hm F' (t.next s) (t.words s) W2 ∧ Below base W W2 := by
  obtain ⟨a1, a2, a3, a4, a5, a6, a7⟩ := h.apart
  obtain ⟨cm, hbm⟩ := h.m.blk
  have hb0 : base ≤ W.heap.size := h.m.lo
  have hs1 := o.size
  have lt5 : gw < W.heap.size ∧ hw < W.heap.size ∧ gR < W.heap.size ∧ gm < W.heap.size ∧ hm < W.heap.size := ⟨h.p.head.lt, h.p.row.lt, h.r.lt, hbm.lt, h.m.row.lt⟩
  have nf : ∀ x, x < W.heap.size → x ∉ F → x ∉ F' := fun x hx hn hm => by
    rcases hf x hm with h1 | h1
    · exact hn h1
    · omega
  have nn : gw ∉ F' ∧ hw ∉ F' ∧ gR ∉ F' ∧ gm ∉ F' ∧ hm ∉ F' := ⟨nf _ lt5.1 h.n.1, nf _ lt5.2.1 h.n.2.1, nf _ lt5.2.2.1 h.n.2.2.1, nf _ lt5.2.2.2.1 h.n.2.2.2.1, nf _ lt5.2.2.2.2 h.n.2.2.2.2⟩
  refine ⟨⟨C.keep hi (fun k hk => sv.block k (C.lt hi k hk) (fun hm => ?_) (.inr (fun cs e => ?_))), hr, ⟨sv.blk hp.head ?_ (by decide), sv.blk hp.row ?_ (by decide), hp.small⟩, hm2, fun k hk => ?_, h.b, nn, h.d⟩, (o.below hb0 (fun k hk => ?_)).trans (sv.below (by omega) (fun k hk => ?_))⟩
  · simp only [List.mem_cons, List.not_mem_nil, or_false] at hm
    rcases hm with rfl | rfl | rfl
    · exact nn.2.2.2.1 hk
    · exact nn.2.2.2.2 hk
    · exact nn.2.2.1 hk
  · obtain ⟨ty, cs', hb, hne⟩ := C.typ hi k hk
    have e2 := hb.eq.symm.trans e
    injection e2 with e2
    injection e2 with _ e3
    exact hne e3
  · simp [Ne.symm a3, Ne.symm a5, Ne.symm a1]
  · simp [Ne.symm a4, h.d, Ne.symm a2]
  · rcases hf k hk with h1 | h1
    · exact h.f k h1
    · omega
  · simp only [List.mem_cons] at hk
    rcases hk with rfl | rfl | hk
    · exact h.b.1
    · exact h.b.2.1
    · exact h.f k hk
  · simp only [List.mem_cons, List.not_mem_nil, or_false] at hk
    rcases hk with rfl | rfl | rfl
    · exact h.m.hg
    · exact h.m.hh
    · exact h.b.2.2
theorem Side.own (C : ConT I) (h : Side I base gT gR gw hw gm hm F t s W) (o : Off (gw :: hw :: F) W W') : IsRT W' gR t ∧ IsM W' base gm hm s := by
  obtain ⟨a1, a2, a3, a4, a5, -, -⟩ := h.apart
  have e1 : gm ∉ gw :: hw :: F := by simp [a3, a4, h.n.2.2.2.1]
  have e2 : hm ∉ gw :: hw :: F := by simp [a5, Ne.symm h.d, h.n.2.2.2.2]
  refine ⟨o.blk h.r (by simp [a1, a2, h.n.2.2.1]), h.m.off o e1 e2 (fun k hk => ?_)⟩
  simp only [List.mem_cons] at hk
  rcases hk with rfl | rfl | hk
  · exact ⟨_, _, h.p.head, by decide⟩
  · exact ⟨_, _, h.p.row, by decide⟩
  · exact C.typ h.q k hk
end

/-- How far it is behind n steps. -/
def Pos (t : Tk) (n : Nat) : Prop := t.over = true ∨ (t.hit = false ∧ t.i = n) ∨ (t.hit = true ∧ t.i + 1 = n)
theorem pos_next {t : Tk} {n : Nat} (h : Pos t n) (s : St) : Pos (t.next s) (n + 1) := by
  unfold Tk.next
  by_cases h1 : t.over = true
  · rw [if_pos h1]; exact .inl h1
  rw [if_neg h1]
  by_cases h2 : t.hit = true
  · rw [if_pos h2]; exact .inl rfl
  rw [if_neg h2]
  have h2' : t.hit = false := by simpa using h2
  have hi : t.i = n := by
    rcases h with h | ⟨_, h⟩ | ⟨h, _⟩
    · exact absurd h h1
    · exact h
    · exact absurd h h2
  by_cases h3 : t.hits (s.at t.at) = true
  · rw [if_pos h3]; exact .inr (.inr ⟨rfl, by show t.i + 1 = n + 1; omega⟩)
  · rw [if_neg h3]; exact .inr (.inl ⟨h2', by show t.i + 1 = n + 1; omega⟩)
theorem pos_end {t : Tk} {n : Nat} (h : Pos t n) (hok : t.Ok) (hn : t.M + 2 ≤ n) : t.over = true := by
  cases ho : t.over
  · exfalso
    obtain ⟨-, -, h3⟩ := hok.run ho
    rcases h with h | ⟨_, h⟩ | ⟨_, h⟩
    · rw [ho] at h; cases h
    · omega
    · omega
  · rfl

end Go.Proofs.Ytdnahojpeplajaa.Mag
