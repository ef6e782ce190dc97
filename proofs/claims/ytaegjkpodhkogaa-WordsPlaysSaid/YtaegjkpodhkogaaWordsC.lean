/- The shared words: New, All, Guard; the law's own first sentence. -/
import Derived.Test.YtaegjkpodhkogaaWordsB
import Derived.Laws.AppendOwn
import Derived.OwnWalk
namespace Go.Proofs.Ytaegjkpodhkogaa.Words
open Go.RowKit Mem

/-- n words, all nought; no step done. -/
def St.new (n : Nat) : St := ⟨List.replicate n 0, 0, ⟨0, 0, 0, 0, 0, false⟩⟩

theorem word_info : (Try.prog.info? 25).map (fun i => (i.zero, i.size, i.bytes)) = some (some (.int .u64 0), 1, 8) := by kernel_rfl

theorem made_row (n : Nat) : madeCells (Value.cells (.int .u64 0)) (n * 1) = rowCells (List.replicate n 0) := by
  apply Array.ext
  · simp [madeCells, rowCells]
  · intro i h1 h2
    simp [madeCells, rowCells, Value.cells, Nat.mod_one]

theorem make_row (n : Nat) (hn : n ≤ 2000) (w : World) :
    (Instr.makeSlice 35 (.int .i64 (n : Int)) (.int .i64 (n : Int))).run Try.prog w = .ok (.slice (some ⟨w.heap.size, 0, none⟩) n n) (w.alloc (.cells (rowCells (List.replicate n 0)) 25)) := by
  obtain ⟨i, hi, hz0, hz1, hz2⟩ := info_parts word_info
  have hr := run_make (P := Try.prog) w 35 25 i _ Try.underlying35 hi hz0 .i64 .i64 n n (by omega) (by omega) (by rw [hz2]; omega) (by omega)
  simp only [Int.toNat_natCast] at hr
  rw [hr, hz1, made_row]

theorem new_past (w : World) (o : Obj) (t : TypeId) (cs : Array Value) : Blk ((w.alloc o).alloc (.cells cs t)) (w.heap.size + 1) t cs := by
  have h := Blk.new (w.alloc o) t cs
  simpa using h

/-- A new object that says s. -/
def Made (w : World) (s : St) (e : Ending) (w' : World) : Prop := ∃ g h, e = .returned (.pointer (some ⟨g, 0, none⟩)) ∧ IsW w' g h s ∧ Off [] w w' ∧ w.heap.size ≤ g ∧ w.heap.size ≤ h

theorem new_in (n : Nat) (hn : n ≤ 2000) (w : World) :
    Calls Try.prog 9 #[.int .i64 (n : Int)] w (Made w (St.new n)) := by
  have hd : decide (2000 < (n : Int)) = false := by simp; omega
  have hmk := make_row n hn
  go_enter Try.func9, Try.ntmps9
  go_wp2
  go_ret
  refine ⟨_, _, rfl, ⟨(new_past _ _ _ _).to ?_, (Blk.new _ _ _).alloc _, by simpa [St.new] using hn⟩, ((Off.refl _ _).alloc _).alloc _, by simp, Nat.le_refl _⟩
  simp [headCells, St.new]

theorem new_out (n : Int) (hn : ¬ (0 ≤ n ∧ n ≤ 2000)) (w : World) :
    Calls Try.prog 9 #[.int .i64 n] w (Made w (St.new 0)) := by
  have hmk := make_row 0 (by omega)
  simp only [Int.natCast_zero] at hmk
  by_cases h0 : n < 0
  · go_enter Try.func9, Try.ntmps9
    go_wp2
    go_ret
    refine ⟨_, _, rfl, ⟨(new_past _ _ _ _).to ?_, (Blk.new _ _ _).alloc _, by simp [St.new]⟩, ((Off.refl _ _).alloc _).alloc _, by simp, Nat.le_refl _⟩
    simp [headCells, St.new]
  · have h1 : decide (2000 < n) = true := by simp; omega
    go_enter Try.func9, Try.ntmps9
    go_wp2
    go_ret
    refine ⟨_, _, rfl, ⟨(new_past _ _ _ _).to ?_, (Blk.new _ _ _).alloc _, by simp [St.new]⟩, ((Off.refl _ _).alloc _).alloc _, by simp, Nat.le_refl _⟩
    simp [headCells, St.new]

/-- What recover finds: the panic is over. -/
theorem catch_panicking (t : TypeId) (v : Value) (older : List PanicEntry) (w : World) :
    CallsD Try.prog 35 #[] (.panicking ({ v := .iface t v, recovered := false } :: older)) w fun e u' w' =>
      e = .returned (.tuple #[]) ∧ u' = .panicking ({ v := .iface t v, recovered := true } :: older) ∧ w' = w := by
  refine callsD_of_wpS Try.func35 rfl fun c₀ cs hu => ?_
  apply wpS_region
  simp [wpOpsS, go_sem, recoverD, hu, Try.ntmps35, bodyPostS, results, Try.results35]

theorem catch_idle (w : World) :
    CallsD Try.prog 35 #[] .returning w fun e u' w' => e = .returned (.tuple #[]) ∧ u' = .returning ∧ w' = w := by
  refine callsD_of_wpS Try.func35 rfl fun c₀ cs hu => ?_
  apply wpS_region
  simp [wpOpsS, go_sem, recoverD, hu, Try.ntmps35, bodyPostS, results, Try.results35]
  cases c₀
  simp_all

theorem nil_is_nil (w : World) : (binOp .eql 1 .nilFunc .nilFunc).run Try.prog w = .ok (.bool true) w := by kernel_rfl
theorem func_not_nil (fn : Fn) (first cap : Array Value) (w : World) : (binOp .eql 1 (.func fn first cap) .nilFunc).run Try.prog w = .ok (.bool false) w := by kernel_rfl

theorem guard_nil (w : World) :
    Calls Try.prog 15 #[.nilFunc] w fun e w' => e = .returned (.bool true) ∧ w = w' := by
  have hn := nil_is_nil
  go_enter_defers Try.func15, Try.ntmps15
  go_wp2
  simp [bodyPostD, Leaves, results, Try.results15, go_sem]

/-- The guarded function by its number, asked in the world w. -/
def Asks (k : FuncId) (cap : Array Value) : Prop := ∀ w : World, (callFunc k cap).run Try.prog w = .ok (.enter k cap) w

theorem guard_ends (k : FuncId) (cap : Array Value) (hk : Asks k cap) (w : World) (R : World → Prop) (hc : Calls Try.prog k cap w fun e w' => e = .returned (.tuple #[]) ∧ R w') :
    Calls Try.prog 15 #[.func (.func k) #[] cap] w fun e w' => e = .returned (.bool true) ∧ R w' := by
  have hn := func_not_nil
  have HC := Lib.hid hc
  unfold Asks at hk
  clear hc
  go_enter_defers Try.func15, Try.ntmps15
  go_wp2_with (refine (Calls.mono HC.out ?_); rintro e w' ⟨rfl, hr⟩)
  refine leaves_cons (f := 35) (args := #[]) (by simp) (by simp [go_sem]) ?_
  refine (catch_idle _).mono ?_
  rintro e u' w'' ⟨rfl, rfl, rfl⟩
  simp [Leaves, settle, results, Try.results15, go_sem]
  exact hr

theorem guard_panics (k : FuncId) (cap : Array Value) (hk : Asks k cap) (w : World) (R : World → Prop) (hc : Calls Try.prog k cap w fun e w' => R w' ∧ ∃ t v, e = .panicked [{ v := .iface t v, recovered := false }]) :
    Calls Try.prog 15 #[.func (.func k) #[] cap] w fun e w' => e = .returned (.bool false) ∧ R w' := by
  have hn := func_not_nil
  have HC := Lib.hid hc
  unfold Asks at hk
  clear hc
  go_enter_defers Try.func15, Try.ntmps15
  go_wp2_with (refine (Calls.mono HC.out ?_); rintro e w' ⟨hr, t, v, rfl⟩)
  refine leaves_cons (f := 35) (args := #[]) (by simp) (by simp [go_sem]) ?_
  refine (catch_panicking _ _ _ _).mono ?_
  rintro e u' w'' ⟨rfl, rfl, rfl⟩
  simp [Leaves, settle, results, Try.results15, go_sem]
  exact hr

set_option maxRecDepth 100000 in
set_option maxHeartbeats 1000000 in
theorem awake_any (w : World) :
    Calls Try.prog 8 #[] w fun e w' => e = .returned (.bool true) ∧ Off [] w w' := by
  go_enter Try.func8, Try.ntmps8
  go_wp2_with (first
    | (go_at_call 9; refine (new_in 2 (by omega) _).mono ?_; rintro e w1 ⟨g, h, rfl, hw1, ho1, hg, hh⟩)
    | (go_at_call 20; refine (len_any hw1).mono ?_; rintro e w2 ⟨he, rfl⟩; obtain rfl : e = .returned (.int .i64 2) := he)
    | (go_at_call 28; refine (swap_yes hw1 0 0 5 1 (by decide) (by decide) (by decide) (by decide)).mono ?_; rintro e w2 ⟨rfl, hw2, ho2⟩)
    | (go_at_call 27; refine (add_in hw2 0 2 1 (by decide) (by decide) (by decide)).mono ?_; rintro e w3 ⟨he, hw3, ho3⟩; obtain rfl : e = .returned (.int .u64 5) := he)
    | (go_at_call 11; refine (load_in hw3 1 1 (by decide) (by decide) (by decide)).mono ?_; rintro e w4 ⟨he, hw4, ho4⟩; obtain rfl : e = .returned (.int .u64 7) := he)
    | (go_at_call 17; refine (steps_any hw4).mono ?_; rintro e w5 ⟨he, rfl⟩; obtain rfl : e = .returned (.int .i64 3) := he))
  go_ret
  refine ⟨rfl, ho1.trans' ((ho2.trans ho3).trans (ho4.more (by simp))) ?_⟩
  intro k hk
  simp at hk
  omega

end Go.Proofs.Ytaegjkpodhkogaa.Words
