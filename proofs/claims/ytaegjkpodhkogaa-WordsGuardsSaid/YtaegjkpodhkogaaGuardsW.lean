/- WordsGuards: the walk. (Written by wip/tools/guards_gen.py.) -/
import Derived.Test.YtaegjkpodhkogaaGuardsA
namespace Go.Proofs.Ytaegjkpodhkogaa.Words
open Go.RowKit Mem Go.Proofs.Ytaegjkpodhkogaa.Open

set_option maxRecDepth 100000 in
set_option maxHeartbeats 4000000 in
theorem guards_low (n at_ : Int) (text : ByteArray) (k : Nat) (w : World) (hb1 : 0 ≤ n) (hb2 : n ≤ 255) (hk : k < 20) (hkk : n % 20 = (k : Int)) (h0 : decide (0 ≤ at_) = false) (hc : (if 0 ≤ at_ ∧ at_ < 4 then (0 : Int) else 9) = 9) :
    Calls Try.prog 6 #[.int .u8 n, .int .i64 at_, .string text] w fun e w' => e = .returned (.bool true) ∧ Below w.heap.size w w' := by
  have hmf : ∀ (fn : Fn) (first cap : Array Value) (w : World), (Instr.makeFunc fn first cap).run Try.prog w = .ok (.func fn first cap) w := fun _ _ _ _ => rfl
  have hwk : IntKind.u64.wrap (k : Int) = (k : Int) := by rw [wrap_u64]; omega
  have HW := Lib.hid hwk
  have HC := Lib.hid hc
  clear hwk hc
  have A0 := Lib.hid ((Blk.new w 3 #[.int .i64 at_]).alloc (.cells #[.string text] 9))
  have T0 := Lib.hid (new_past w (.cells #[.int .i64 at_] 3) 9 #[.string text])
  have hof0 := Lib.hid (((Off.refl [] w).alloc (.cells #[.int .i64 at_] 3)).alloc (.cells #[.string text] 9))
  go_enter Try.func6, Try.ntmps6
  go_wp2_with (first
    | (go_at_call 8; refine (awake_any _).mono ?_; rintro e w0 ⟨rfl, ho0⟩)
    | (go_at_call 9; refine (new_in 4 (by omega) _).mono ?_; rintro e w1 ⟨g, h, rfl, hw1, ho1, hg, hh⟩; have A1 := ((((ho0.trans ho1).blk A0.out (by simp)).alloc (.cells #[.pointer (some ⟨g, 0, none⟩)] 23)).alloc (.cells #[.int .i64 (k : Int)] 3)); have a1 := A1.cell 0; have Q1 := (Blk.new w1 23 #[.pointer (some ⟨g, 0, none⟩)]).alloc (.cells #[.int .i64 (k : Int)] 3); have K1 := new_past w1 (.cells #[.pointer (some ⟨g, 0, none⟩)] 23) 3 #[.int .i64 (k : Int)]; have T1 := ((((ho0.trans ho1).blk T0.out (by simp)).alloc (.cells #[.pointer (some ⟨g, 0, none⟩)] 23)).alloc (.cells #[.int .i64 (k : Int)] 3)); have D1 : Deeply ((w1.alloc (.cells #[.pointer (some ⟨g, 0, none⟩)] 23)).alloc (.cells #[.int .i64 (k : Int)] 3)) g h (St.new 4) 0 0 0 := ⟨(hw1.alloc _).alloc _, rfl, rfl, rfl, rfl, Int.le_refl 0, (by show (0 : Int) < 1000; omega)⟩; have hgl := hw1.head.lt; have hhl := hw1.row.lt; have hsz := ho0.size)
    | (go_at_call 15; (with_reducible refine (guard_deep hk K1 Q1 A1 D1 rfl).mono ?_); rintro e w3 ⟨rfl, ⟨s3, D3⟩, ho3⟩; rw [HC.out] at D3; have N3 := Blk.new w3 23 #[.pointer none]; have T3 := (ho3.blk T1 (by simp at hsz; simp; omega)).alloc (.cells #[.pointer none] 23); have Q3 := (ho3.blk Q1 (by simp; omega)).alloc (.cells #[.pointer none] 23); have K3 := (ho3.blk K1 (by simp; omega)).alloc (.cells #[.pointer none] 23); have W3 := D3.isw.alloc (.cells #[.pointer none] 23); have L3 := Lib.hid D3.len)
    | (go_at_call 15; (with_reducible refine (guard_nothing N3).mono ?_); rintro e w' ⟨rfl, rfl⟩)
    | (go_at_call 15; (with_reducible refine (guard_empty T3).mono ?_); rintro e w4 ⟨rfl, ho4⟩))
  have q4 := (ho4.blk Q3 (by simp)).cell 0
  have k4 := (ho4.blk K3 (by simp)).cell 0
  have W4 := W3.off ho4 (by simp) (by simp)
  have l1 := Lib.hid (fun n => (look_in (W4.drewN n) 1 (by rw [L3.out]; omega)).mono (fun e w' g => (⟨g.1.trans (congrArg (fun v => Ending.returned (.int .u64 v)) D3.at1), g.2⟩ : e = .returned (.int .u64 (k : Int)) ∧ w4.drewN n = w')))
  have l2 := Lib.hid (fun n => (look_in (W4.drewN n) 2 (by rw [L3.out]; omega)).mono (fun e w' g => (⟨g.1.trans (congrArg (fun v => Ending.returned (.int .u64 v)) D3.at2), g.2⟩ : e = .returned (.int .u64 7) ∧ w4.drewN n = w')))
  have l3 := Lib.hid (fun n => (look_in (W4.drewN n) 3 (by rw [L3.out]; omega)).mono (fun e w' g => (⟨g.1.trans (congrArg (fun v => Ending.returned (.int .u64 v)) D3.at3), g.2⟩ : e = .returned (.int .u64 9) ∧ w4.drewN n = w')))
  have hoff : Off [] w w4 := by
    have hA := ((((hof0.out.trans ho0).trans ho1).alloc (.cells #[.pointer (some ⟨g, 0, none⟩)] 23)).alloc (.cells #[.int .i64 (k : Int)] 3)).trans' ho3 (by
      intro i hi
      simp at hi hsz
      omega)
    exact (hA.alloc _).trans ho4
  have hw2 := HW.out
  go_quiet ((first | (go_at_call 18; with_reducible exact quiet_l (l1.out _)) | (go_at_call 18; with_reducible exact quiet_l (l2.out _)) | (go_at_call 18; with_reducible exact quiet_l (l3.out _))))
  go_wp2_with fail
  go_ret
  exact ⟨rfl, ((hoff.drewN _).nil_below)⟩

set_option maxRecDepth 100000 in
set_option maxHeartbeats 4000000 in
theorem guards_inside (n at_ : Int) (text : ByteArray) (k : Nat) (w : World) (hb1 : 0 ≤ n) (hb2 : n ≤ 255) (hk : k < 20) (hkk : n % 20 = (k : Int)) (h0 : decide (0 ≤ at_) = true) (h1 : decide (at_ < 4) = true) (hc : (if 0 ≤ at_ ∧ at_ < 4 then (0 : Int) else 9) = 0) :
    Calls Try.prog 6 #[.int .u8 n, .int .i64 at_, .string text] w fun e w' => e = .returned (.bool true) ∧ Below w.heap.size w w' := by
  have hmf : ∀ (fn : Fn) (first cap : Array Value) (w : World), (Instr.makeFunc fn first cap).run Try.prog w = .ok (.func fn first cap) w := fun _ _ _ _ => rfl
  have hwk : IntKind.u64.wrap (k : Int) = (k : Int) := by rw [wrap_u64]; omega
  have HW := Lib.hid hwk
  have HC := Lib.hid hc
  clear hwk hc
  have A0 := Lib.hid ((Blk.new w 3 #[.int .i64 at_]).alloc (.cells #[.string text] 9))
  have T0 := Lib.hid (new_past w (.cells #[.int .i64 at_] 3) 9 #[.string text])
  have hof0 := Lib.hid (((Off.refl [] w).alloc (.cells #[.int .i64 at_] 3)).alloc (.cells #[.string text] 9))
  go_enter Try.func6, Try.ntmps6
  go_wp2_with (first
    | (go_at_call 8; refine (awake_any _).mono ?_; rintro e w0 ⟨rfl, ho0⟩)
    | (go_at_call 9; refine (new_in 4 (by omega) _).mono ?_; rintro e w1 ⟨g, h, rfl, hw1, ho1, hg, hh⟩; have A1 := ((((ho0.trans ho1).blk A0.out (by simp)).alloc (.cells #[.pointer (some ⟨g, 0, none⟩)] 23)).alloc (.cells #[.int .i64 (k : Int)] 3)); have a1 := A1.cell 0; have Q1 := (Blk.new w1 23 #[.pointer (some ⟨g, 0, none⟩)]).alloc (.cells #[.int .i64 (k : Int)] 3); have K1 := new_past w1 (.cells #[.pointer (some ⟨g, 0, none⟩)] 23) 3 #[.int .i64 (k : Int)]; have T1 := ((((ho0.trans ho1).blk T0.out (by simp)).alloc (.cells #[.pointer (some ⟨g, 0, none⟩)] 23)).alloc (.cells #[.int .i64 (k : Int)] 3)); have D1 : Deeply ((w1.alloc (.cells #[.pointer (some ⟨g, 0, none⟩)] 23)).alloc (.cells #[.int .i64 (k : Int)] 3)) g h (St.new 4) 0 0 0 := ⟨(hw1.alloc _).alloc _, rfl, rfl, rfl, rfl, Int.le_refl 0, (by show (0 : Int) < 1000; omega)⟩; have hgl := hw1.head.lt; have hhl := hw1.row.lt; have hsz := ho0.size)
    | (go_at_call 15; (with_reducible refine (guard_deep hk K1 Q1 A1 D1 rfl).mono ?_); rintro e w3 ⟨rfl, ⟨s3, D3⟩, ho3⟩; rw [HC.out] at D3; have N3 := Blk.new w3 23 #[.pointer none]; have T3 := (ho3.blk T1 (by simp at hsz; simp; omega)).alloc (.cells #[.pointer none] 23); have Q3 := (ho3.blk Q1 (by simp; omega)).alloc (.cells #[.pointer none] 23); have K3 := (ho3.blk K1 (by simp; omega)).alloc (.cells #[.pointer none] 23); have W3 := D3.isw.alloc (.cells #[.pointer none] 23); have L3 := Lib.hid D3.len)
    | (go_at_call 15; (with_reducible refine (guard_nothing N3).mono ?_); rintro e w' ⟨rfl, rfl⟩)
    | (go_at_call 15; (with_reducible refine (guard_empty T3).mono ?_); rintro e w4 ⟨rfl, ho4⟩))
  have q4 := (ho4.blk Q3 (by simp)).cell 0
  have k4 := (ho4.blk K3 (by simp)).cell 0
  have W4 := W3.off ho4 (by simp) (by simp)
  have l1 := Lib.hid (fun n => (look_in (W4.drewN n) 1 (by rw [L3.out]; omega)).mono (fun e w' g => (⟨g.1.trans (congrArg (fun v => Ending.returned (.int .u64 v)) D3.at1), g.2⟩ : e = .returned (.int .u64 (k : Int)) ∧ w4.drewN n = w')))
  have l2 := Lib.hid (fun n => (look_in (W4.drewN n) 2 (by rw [L3.out]; omega)).mono (fun e w' g => (⟨g.1.trans (congrArg (fun v => Ending.returned (.int .u64 v)) D3.at2), g.2⟩ : e = .returned (.int .u64 7) ∧ w4.drewN n = w')))
  have l3 := Lib.hid (fun n => (look_in (W4.drewN n) 3 (by rw [L3.out]; omega)).mono (fun e w' g => (⟨g.1.trans (congrArg (fun v => Ending.returned (.int .u64 v)) D3.at3), g.2⟩ : e = .returned (.int .u64 0) ∧ w4.drewN n = w')))
  have hoff : Off [] w w4 := by
    have hA := ((((hof0.out.trans ho0).trans ho1).alloc (.cells #[.pointer (some ⟨g, 0, none⟩)] 23)).alloc (.cells #[.int .i64 (k : Int)] 3)).trans' ho3 (by
      intro i hi
      simp at hi hsz
      omega)
    exact (hA.alloc _).trans ho4
  have hw2 := HW.out
  go_quiet ((first | (go_at_call 18; with_reducible exact quiet_l (l1.out _)) | (go_at_call 18; with_reducible exact quiet_l (l2.out _)) | (go_at_call 18; with_reducible exact quiet_l (l3.out _))))
  go_wp2_with fail
  go_ret
  exact ⟨rfl, ((hoff.drewN _).nil_below)⟩

set_option maxRecDepth 100000 in
set_option maxHeartbeats 4000000 in
theorem guards_high (n at_ : Int) (text : ByteArray) (k : Nat) (w : World) (hb1 : 0 ≤ n) (hb2 : n ≤ 255) (hk : k < 20) (hkk : n % 20 = (k : Int)) (h0 : decide (0 ≤ at_) = true) (h1 : decide (at_ < 4) = false) (hc : (if 0 ≤ at_ ∧ at_ < 4 then (0 : Int) else 9) = 9) :
    Calls Try.prog 6 #[.int .u8 n, .int .i64 at_, .string text] w fun e w' => e = .returned (.bool true) ∧ Below w.heap.size w w' := by
  have hmf : ∀ (fn : Fn) (first cap : Array Value) (w : World), (Instr.makeFunc fn first cap).run Try.prog w = .ok (.func fn first cap) w := fun _ _ _ _ => rfl
  have hwk : IntKind.u64.wrap (k : Int) = (k : Int) := by rw [wrap_u64]; omega
  have HW := Lib.hid hwk
  have HC := Lib.hid hc
  clear hwk hc
  have A0 := Lib.hid ((Blk.new w 3 #[.int .i64 at_]).alloc (.cells #[.string text] 9))
  have T0 := Lib.hid (new_past w (.cells #[.int .i64 at_] 3) 9 #[.string text])
  have hof0 := Lib.hid (((Off.refl [] w).alloc (.cells #[.int .i64 at_] 3)).alloc (.cells #[.string text] 9))
  go_enter Try.func6, Try.ntmps6
  go_wp2_with (first
    | (go_at_call 8; refine (awake_any _).mono ?_; rintro e w0 ⟨rfl, ho0⟩)
    | (go_at_call 9; refine (new_in 4 (by omega) _).mono ?_; rintro e w1 ⟨g, h, rfl, hw1, ho1, hg, hh⟩; have A1 := ((((ho0.trans ho1).blk A0.out (by simp)).alloc (.cells #[.pointer (some ⟨g, 0, none⟩)] 23)).alloc (.cells #[.int .i64 (k : Int)] 3)); have a1 := A1.cell 0; have Q1 := (Blk.new w1 23 #[.pointer (some ⟨g, 0, none⟩)]).alloc (.cells #[.int .i64 (k : Int)] 3); have K1 := new_past w1 (.cells #[.pointer (some ⟨g, 0, none⟩)] 23) 3 #[.int .i64 (k : Int)]; have T1 := ((((ho0.trans ho1).blk T0.out (by simp)).alloc (.cells #[.pointer (some ⟨g, 0, none⟩)] 23)).alloc (.cells #[.int .i64 (k : Int)] 3)); have D1 : Deeply ((w1.alloc (.cells #[.pointer (some ⟨g, 0, none⟩)] 23)).alloc (.cells #[.int .i64 (k : Int)] 3)) g h (St.new 4) 0 0 0 := ⟨(hw1.alloc _).alloc _, rfl, rfl, rfl, rfl, Int.le_refl 0, (by show (0 : Int) < 1000; omega)⟩; have hgl := hw1.head.lt; have hhl := hw1.row.lt; have hsz := ho0.size)
    | (go_at_call 15; (with_reducible refine (guard_deep hk K1 Q1 A1 D1 rfl).mono ?_); rintro e w3 ⟨rfl, ⟨s3, D3⟩, ho3⟩; rw [HC.out] at D3; have N3 := Blk.new w3 23 #[.pointer none]; have T3 := (ho3.blk T1 (by simp at hsz; simp; omega)).alloc (.cells #[.pointer none] 23); have Q3 := (ho3.blk Q1 (by simp; omega)).alloc (.cells #[.pointer none] 23); have K3 := (ho3.blk K1 (by simp; omega)).alloc (.cells #[.pointer none] 23); have W3 := D3.isw.alloc (.cells #[.pointer none] 23); have L3 := Lib.hid D3.len)
    | (go_at_call 15; (with_reducible refine (guard_nothing N3).mono ?_); rintro e w' ⟨rfl, rfl⟩)
    | (go_at_call 15; (with_reducible refine (guard_empty T3).mono ?_); rintro e w4 ⟨rfl, ho4⟩))
  have q4 := (ho4.blk Q3 (by simp)).cell 0
  have k4 := (ho4.blk K3 (by simp)).cell 0
  have W4 := W3.off ho4 (by simp) (by simp)
  have l1 := Lib.hid (fun n => (look_in (W4.drewN n) 1 (by rw [L3.out]; omega)).mono (fun e w' g => (⟨g.1.trans (congrArg (fun v => Ending.returned (.int .u64 v)) D3.at1), g.2⟩ : e = .returned (.int .u64 (k : Int)) ∧ w4.drewN n = w')))
  have l2 := Lib.hid (fun n => (look_in (W4.drewN n) 2 (by rw [L3.out]; omega)).mono (fun e w' g => (⟨g.1.trans (congrArg (fun v => Ending.returned (.int .u64 v)) D3.at2), g.2⟩ : e = .returned (.int .u64 7) ∧ w4.drewN n = w')))
  have l3 := Lib.hid (fun n => (look_in (W4.drewN n) 3 (by rw [L3.out]; omega)).mono (fun e w' g => (⟨g.1.trans (congrArg (fun v => Ending.returned (.int .u64 v)) D3.at3), g.2⟩ : e = .returned (.int .u64 9) ∧ w4.drewN n = w')))
  have hoff : Off [] w w4 := by
    have hA := ((((hof0.out.trans ho0).trans ho1).alloc (.cells #[.pointer (some ⟨g, 0, none⟩)] 23)).alloc (.cells #[.int .i64 (k : Int)] 3)).trans' ho3 (by
      intro i hi
      simp at hi hsz
      omega)
    exact (hA.alloc _).trans ho4
  have hw2 := HW.out
  go_quiet ((first | (go_at_call 18; with_reducible exact quiet_l (l1.out _)) | (go_at_call 18; with_reducible exact quiet_l (l2.out _)) | (go_at_call 18; with_reducible exact quiet_l (l3.out _))))
  go_wp2_with fail
  go_ret
  exact ⟨rfl, ((hoff.drewN _).nil_below)⟩

theorem guards_walk (n at_ : Int) (text : ByteArray) (w : World) (hn : (Lit.int .u8 n).wf = true) (_ : (Lit.int .i64 at_).wf = true) (_ : text.size ≤ maxLen) :
    Calls Try.prog 6 #[.int .u8 n, .int .i64 at_, .string text] w fun e w' => e = .returned (.bool true) ∧ Below w.heap.size w w' := by
  have hb1 : 0 ≤ n := by
    have hmin : IntKind.u8.min = 0 := rfl
    simp only [Lit.wf, Bool.and_eq_true, decide_eq_true_eq] at hn; omega
  have hb2 : n ≤ 255 := by
    have hmax : IntKind.u8.max = 255 := rfl
    simp only [Lit.wf, Bool.and_eq_true, decide_eq_true_eq] at hn; omega
  obtain ⟨k, hk, hkk⟩ : ∃ k : Nat, k < 20 ∧ n % 20 = (k : Int) := ⟨(n % 20).toNat, by omega, by omega⟩
  by_cases h0 : 0 ≤ at_
  · by_cases h1 : at_ < 4
    · exact guards_inside n at_ text k w hb1 hb2 hk hkk (by simp; omega) (by simp; omega) (by rw [if_pos ⟨h0, h1⟩])
    · exact guards_high n at_ text k w hb1 hb2 hk hkk (by simp; omega) (by simp; omega) (by rw [if_neg (by omega)])
  · exact guards_low n at_ text k w hb1 hb2 hk hkk (by simp; omega) (by rw [if_neg (by omega)])

end Go.Proofs.Ytaegjkpodhkogaa.Words
