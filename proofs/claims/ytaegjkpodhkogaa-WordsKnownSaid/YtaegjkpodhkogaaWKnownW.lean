/- WordsKnown: the walk. -/
import Derived.Test.YtaegjkpodhkogaaWordsD
import Derived.Test.YtaegjkpodhkogaaCountsW
import Derived.BigQuiet
import Derived.Deep.QuietTactic
import Derived.RegionTactic
namespace Go.Proofs.Ytaegjkpodhkogaa.Words
open Go.RowKit Mem Go.Proofs.Ytaegjkpodhkogaa.Open

/-- A captured variable that holds the object in block g. -/
abbrev Var (w : World) (q g : Nat) : Prop := Blk w q 23 #[.pointer (some ⟨g, 0, none⟩)]

theorem asks_known1 (cap : Array Value) : Asks 10 cap := fun _ => by kernel_rfl
theorem asks_known2 (cap : Array Value) : Asks 12 cap := fun _ => by kernel_rfl
theorem asks_known3 (cap : Array Value) : Asks 14 cap := fun _ => by kernel_rfl

section
variable {g h q : Nat} {s : St} {w : World}
theorem known1 (hq : Var w q g) (hw : IsW w g h s) (hl : s.row.length = 2) :
    Calls Try.prog 10 #[.pointer (some ⟨q, 0, none⟩)] w fun e w' => w = w' ∧ ∃ t v, e = .panicked [{ v := .iface t v, recovered := false }] := by
  have c0 := Blk.cell hq 0
  go_enter Try.func10, Try.ntmps10
  go_wp2_with (go_at_call 11; refine (load_out hw 0 2 (by omega)).mono ?_; rintro e w' ⟨rfl, t, v, rfl⟩)
  exact ⟨rfl, rfl, _, _, rfl⟩

theorem known2 (hq : Var w q g) (hw : IsW w g h s) :
    Calls Try.prog 12 #[.pointer (some ⟨q, 0, none⟩)] w fun e w' => w = w' ∧ ∃ t v, e = .panicked [{ v := .iface t v, recovered := false }] := by
  have c0 := Blk.cell hq 0
  go_enter Try.func12, Try.ntmps12
  go_wp2_with (go_at_call 13; refine (store_out hw 0 5 (-1) (by omega)).mono ?_; rintro e w' ⟨rfl, t, v, rfl⟩)
  exact ⟨rfl, rfl, _, _, rfl⟩

theorem known3 (hq : Var w q g) (hw : IsW w g h s) (hl : s.row.length = 2) (hs0 : 0 ≤ s.steps) (hs1 : s.steps < 9223372036854775807) :
    Calls Try.prog 14 #[.pointer (some ⟨q, 0, none⟩)] w fun e w' => e = .returned (.tuple #[]) ∧ IsW w' g h ((s.note ⟨3, 1, 0, s.at 0, 9, true⟩).lay 0 9) ∧ Off [g, h] w w' := by
  have c0 := Blk.cell hq 0
  go_enter Try.func14, Try.ntmps14
  go_wp2_with (go_at_call 13; refine (store_in hw 3 9 0 (by omega) hs0 hs1).mono ?_; rintro e w' ⟨rfl, hw1, ho1⟩)
  go_end0
  exact ⟨rfl, hw1, ho1⟩

theorem gk1 (hq : Var w q g) (hw : IsW w g h s) (hl : s.row.length = 2) :
    Calls Try.prog 15 #[.func (.func 10) #[] #[.pointer (some ⟨q, 0, none⟩)]] w fun e w' => e = .returned (.bool false) ∧ w = w' :=
  guard_panics _ _ (asks_known1 _) w (fun w' => w = w') (known1 hq hw hl)
theorem gk2 (hq : Var w q g) (hw : IsW w g h s) :
    Calls Try.prog 15 #[.func (.func 12) #[] #[.pointer (some ⟨q, 0, none⟩)]] w fun e w' => e = .returned (.bool false) ∧ w = w' :=
  guard_panics _ _ (asks_known2 _) w (fun w' => w = w') (known2 hq hw)
theorem gk3 (hq : Var w q g) (hw : IsW w g h s) (hl : s.row.length = 2) (hs0 : 0 ≤ s.steps) (hs1 : s.steps < 9223372036854775807) :
    Calls Try.prog 15 #[.func (.func 14) #[] #[.pointer (some ⟨q, 0, none⟩)]] w fun e w' => e = .returned (.bool true) ∧ IsW w' g h ((s.note ⟨3, 1, 0, s.at 0, 9, true⟩).lay 0 9) ∧ Off [g, h] w w' :=
  guard_ends _ _ (asks_known3 _) w (fun w' => IsW w' g h ((s.note ⟨3, 1, 0, s.at 0, 9, true⟩).lay 0 9) ∧ Off [g, h] w w') (known3 hq hw hl hs0 hs1)
end

set_option maxRecDepth 100000 in
set_option maxHeartbeats 4000000 in
theorem known_walk (w : World) :
    Calls Try.prog 3 #[] w fun e w' => e = .returned (.bool true) ∧ Below w.heap.size w w' := by
  have hmf : ∀ (fn : Fn) (first cap : Array Value) (w : World), (Instr.makeFunc fn first cap).run Try.prog w = .ok (.func fn first cap) w := fun _ _ _ _ => rfl
  go_enter Try.func3, Try.ntmps3
  go_wp2_with (first
    | (go_at_call 8; refine (awake_any _).mono ?_; rintro e w0 ⟨rfl, ho0⟩)
    | (go_at_call_of 9 (Value.int .i64 2); refine (new_in 2 (by omega) _).mono ?_; rintro e w1 ⟨g, h, rfl, hw1, ho1, hg, hh⟩; have hv := Blk.new w1 23 #[.pointer (some ⟨g, 0, none⟩)]; have hwa := hw1.alloc (.cells #[.pointer (some ⟨g, 0, none⟩)] 23); have hgl := hw1.head.lt; have hhl := hw1.row.lt)
    | (go_at_call 15; (with_reducible refine (gk1 hv hwa rfl).mono ?_); rintro e w' ⟨rfl, rfl⟩)
    | (go_at_call 15; (with_reducible refine (gk2 hv hwa).mono ?_); rintro e w' ⟨rfl, rfl⟩)
    | (go_at_call 15; (with_reducible refine (gk3 hv hwa rfl (by decide) (by decide)).mono ?_); rintro e w2 ⟨rfl, hw2, ho2⟩; have hv2 := ho2.blk hv (by simp; omega); have c2 := hv2.cell 0; have hl2 := hv2.lt)
    | (go_at_call 15; (with_reducible refine (guard_nil _).mono ?_); rintro e w' ⟨rfl, rfl⟩)
    | (go_at_call 16; refine (last_any hw2).mono ?_; rintro e w3 ⟨he, ho3⟩; obtain rfl : e = .returned (.agg #[.int .i64 3, .int .i64 1, .int .i64 0, .int .u64 0, .int .u64 9, .bool true]) := he; have hv3 := ho3.blk hv2 (by simp); have c3 := hv3.cell 0; have hl3 := hv3.lt; have hw3 := (hw2.off ho3 (by simp) (by simp)).alloc (.cells #[.int .i64 3, .int .i64 1, .int .i64 0, .int .u64 0, .int .u64 9, .bool true] 30); have hn3 : ¬ w1.heap.size = w3.heap.size := (by omega))
    | (go_at_call 17; refine (steps_any hw3).mono ?_; rintro e w' ⟨he, rfl⟩; obtain rfl : e = .returned (.int .i64 1) := he)
    | (go_at_call 18; (with_reducible refine (look_i hw3 0 0 rfl (by decide)).mono ?_); rintro e w' ⟨he, rfl⟩; obtain rfl : e = .returned (.int .u64 9) := he)
    | (go_at_call 18; (with_reducible refine (look_out hw3 7 (by decide)).mono ?_); rintro e w' ⟨rfl, rfl⟩)
    | (go_at_call 19; refine (put_out hw3 2 1 (by decide)).mono ?_; rintro e w' ⟨rfl, rfl⟩)
    | (go_at_call 9; refine (new_out (-1) (by omega) _).mono ?_; rintro e w5 ⟨g5, h5, rfl, hw5, ho5, hg5, hh5⟩)
    | (go_at_call 20; refine (len_any hw5).mono ?_; rintro e w' ⟨he, rfl⟩; obtain rfl : e = .returned (.int .i64 0) := he))
  go_ret
  have hA : Off [] w w2 := ((ho0.trans ho1).alloc _).trans' ho2 (by
    have h5 := ho0.size
    intro i hi
    simp at hi
    omega)
  exact ⟨rfl, (((hA.trans ho3).alloc _).trans ho5).nil_below⟩

end Go.Proofs.Ytaegjkpodhkogaa.Words
