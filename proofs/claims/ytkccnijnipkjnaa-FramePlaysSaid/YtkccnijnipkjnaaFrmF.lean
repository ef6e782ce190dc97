/- Frames are held against each other; what is refused. -/
import Derived.Test.YtkccnijnipkjnaaFrmE
import Derived.Laws.StructEq
import Derived.Laws.AppendOwn
import Derived.OwnWalk
import Derived.KernelRfl
namespace Go.Proofs.Ytkccnijnipkjnaa.Frm
open Go.RowKit Mem

theorem eq_eight (d : Nat) (a0 a1 a2 a3 a4 a5 a6 a7 : Int) (w : World) :
    (Op.equalIn (d + 2) 35 (.agg #[.int .i64 a0, .int .i64 a1, .int .i64 a2, .int .i64 a3, .int .i64 a4, .int .i64 a5, .int .i64 a6, .int .i64 a7]) (.agg #[.int .i64 a0, .int .i64 a1, .int .i64 a2, .int .i64 a3, .int .i64 a4, .int .i64 a5, .int .i64 a6, .int .i64 a7])).run Try.prog w = .ok true w := by
  unfold Op.equalIn
  have hsz : ∀ w, (sizeOf 2).run Try.prog w = .ok 1 w := fun w => by kernel_rfl
  have hag : ∀ w, (isAgg 2).run Try.prog w = .ok false w := fun w => by kernel_rfl
  simp [Sem.run_bind, run_underlying Try.underlying35, Std.Legacy.Range.forIn_eq_forIn_range', Std.Legacy.Range.size, List.range', part, hsz, hag, go_sem, Try.underlying2]

abbrev eightV (f : Nat → Int) : Value := .agg #[.int .i64 (f 2), .int .i64 (f 3), .int .i64 (f 4), .int .i64 (f 5), .int .i64 (f 6), .int .i64 (f 7), .int .i64 (f 8), .int .i64 (f 9)]
theorem eql_eight (f : Nat → Int) (w : World) : (binOp .eql 35 (eightV f) (eightV f)).run Try.prog w = .ok (.bool true) w := by
  rw [run_eql_struct, show (10000 : Nat) = 9998 + 2 from rfl, eq_eight]
  rfl
theorem neq_eight (f : Nat → Int) (w : World) : (binOp .neq 35 (eightV f) (eightV f)).run Try.prog w = .ok (.bool false) w := by
  rw [run_neq_struct, show (10000 : Nat) = 9998 + 2 from rfl, eq_eight]
  rfl
theorem eql_frame (f : Nat → Int) (w : World) : (binOp .eql 37 (frV f) (frV f)).run Try.prog w = .ok (.bool true) w := by
  have h1 : Try.prog.underlying 37 = some (.struct (Try.prog.fieldsOf 37)) := by kernel_rfl
  have h2 : Try.prog.stoodInHeld 37 = false := by kernel_rfl
  rw [run_eql_struct, run_equalIn_agg _ _ _ _ _ h1 h2]
  have h3 := Try.underlying37
  rw [h1] at h3
  injection h3 with h3
  injection h3 with h3
  rw [h3]
  have hs8 : ∀ w, (sizeOf 35).run Try.prog w = .ok 8 w := fun w => by kernel_rfl
  have ha8 : ∀ w, (isAgg 35).run Try.prog w = .ok true w := fun w => by kernel_rfl
  have hai : ∀ w, (isAgg 3).run Try.prog w = .ok false w := fun w => by kernel_rfl
  have he : ∀ w, (Op.equalIn 9999 35 (eightV f) (eightV f)).run Try.prog w = .ok true w := eq_eight 9997 (f 2) (f 3) (f 4) (f 5) (f 6) (f 7) (f 8) (f 9)
  simp [Op.eqFields, part, hs8, ha8, hai, go_sem, Try.underlying3, he]

/-- What is refused: a push onto a full stack, or of too many registers; a register that is none. -/
theorem push_no {w : World} {g m : Nat} {l : List (Nat → Int)} (h : IsS w g l m) (code : Int) (a : Option Addr) (n c : Nat) (hn : l.length = m ∨ 8 < n) :
    Calls Try.prog 9 #[.pointer (some ⟨g, 0, none⟩), .int .i64 code, .slice a n c] w fun e w' => e = .returned (.bool false) ∧ Off [] w w' := by
  by_cases hl : l.length = m
  · exact push_full h hl code a n c
  · exact push_long h (by have := h.le; omega) code a n c (by omega)
theorem set_no {w : World} {g m : Nat} {l : List (Nat → Int)} (h : IsS w g l m) (r x : Int) (hr : r < 0 ∨ 8 ≤ r) :
    Calls Try.prog 14 #[.pointer (some ⟨g, 0, none⟩), .int .i64 r, .int .i64 x] w fun e w' => e = .returned (.bool false) ∧ Off [] w w' := by
  rcases List.eq_nil_or_concat l with rfl | ⟨l0, f, rfl⟩
  · exact set_none h r x
  · exact set_out (by simpa using h) r x hr

theorem off_step {w W W' : World} {g : Nat} (h : Off [] w W) (k : Off [g] W W') (hg : w.heap.size ≤ g) : Off [] w W' := h.trans' k (fun i hi => .inr (by simp at hi; omega))

/-- The last frame, or noughts. -/
def topF (l : List (Nat → Int)) : Nat → Int := l.getLast?.getD zeroF
theorem topF_snoc (l : List (Nat → Int)) (f : Nat → Int) : topF (l ++ [f]) = f := by simp [topF]
theorem top_is {w : World} {g m : Nat} {l : List (Nat → Int)} (h : IsS w g l m) :
    Calls Try.prog 17 #[.pointer (some ⟨g, 0, none⟩)] w fun e w' => e = .returned (.tuple #[frV (topF l), .bool (decide (0 < l.length))]) ∧ Off [] w w' := by
  rcases List.eq_nil_or_concat l with rfl | ⟨l0, f, rfl⟩
  · exact top_none h
  · rw [List.concat_eq_append] at h ⊢
    rw [topF_snoc, show decide (0 < (l0 ++ [f]).length) = true from by simp]
    exact top_some h

theorem reg_info : (Try.prog.info? 2).map (fun i => (i.zero, i.size, i.bytes)) = some (some (.int .i64 0), 1, 8) := by kernel_rfl
theorem make_regs (x : Nat) (hx : x < 20) (w : World) :
    (Instr.makeSlice 30 (.int .i64 (9 + (x : Int))) (.int .i64 (9 + (x : Int)))).run Try.prog w = .ok (.slice (some ⟨w.heap.size, 0, none⟩) (9 + x) (9 + x)) (w.alloc (.cells (madeCells (Value.cells (.int .i64 0)) (9 + x)) 2)) := by
  obtain ⟨i, hi, hz0, hz1, hz2⟩ := info_parts reg_info
  have hr := run_make (P := Try.prog) w 30 2 i _ Try.underlying30 hi hz0 .i64 .i64 (9 + (x : Int)) (9 + (x : Int)) (by omega) (by omega) (by rw [hz2]; omega) (by omega)
  rw [hr, hz1, show (9 + (x : Int)).toNat = 9 + x from by omega, Nat.mul_one]

end Go.Proofs.Ytkccnijnipkjnaa.Frm
