/- Stage 6's law: two rows are held against each other; a row of blocks told anew: contracts of same and Blocks. -/
import Derived.Test.YtpkpkfcboimhnaaModB
import Derived.Laws.StructEq
import Derived.StillTailTactics
namespace Go.Proofs.Ytpkpkfcboimhnaa.Mod
open Go.RowKit Mem

theorem neq_block (b : Bk) (w : World) : (binOp .neq 36 (.agg #[.int .i64 b.p, .int .i64 b.n]) (.agg #[.int .i64 b.p, .int .i64 b.n])).run Try.prog w = .ok (.bool false) w := by
  have h1 : Try.prog.underlying 36 = some (.struct (Try.prog.fieldsOf 36)) := by kernel_rfl
  have h2 : Try.prog.stoodInHeld 36 = false := by kernel_rfl
  rw [run_neq_struct, run_equalIn_agg _ _ _ _ _ h1 h2]
  have h3 := Try.underlying36
  rw [h1] at h3
  injection h3 with h3
  injection h3 with h3
  rw [h3]
  simp [Op.eqFields, go_sem, Try.underlying3]

set_option maxRecDepth 100000 in
theorem same_same {w : World} {v1 v2 : Value} {l : List Bk} (h1 : Rd w v1 l) (h2 : Rd w v2 l) (hl : l.length ≤ 4096) :
    Calls Try.prog 22 #[v1, v2] w fun e w' => e = .returned (.bool true) ∧ Off [] w w' := by
  have H1 := Lib.hid h1
  have H2 := Lib.hid h2
  obtain ⟨a1, c1, rfl⟩ := h1.len
  obtain ⟨a2, c2, rfl⟩ := h2.len
  clear h1 h2
  have HN := Lib.hid (fun b w => neq_block b w)
  go_enter Try.func22, Try.ntmps22
  go_wp2
  go_loopw [5] (fun i wr => Off [] w wr ∧ ∃ j : Nat, j ≤ l.length ∧ i = .int .i64 j) (fun i _ => l.length - (intOf i).toNat)
  case atStart => exact ⟨Off.refl _ _, 0, Nat.zero_le _, rfl⟩
  case round =>
    obtain ⟨ho, j, hj, rfl⟩ := hrel
    have HO := Lib.hid ho
    have R1 := Lib.hid (H1.out.off ho (by simp))
    have R2 := Lib.hid (H2.out.off ho (by simp))
    clear ho
    by_cases hlt : j < l.length
    · obtain ⟨g1, o1, d1, hv1, p1, q1⟩ := R1.out.at j hlt
      obtain ⟨g2, o2, d2, hv2, p2, q2⟩ := R2.out.at j hlt
      injection hv1 with hv1 _ hv1'
      injection hv2 with hv2 _ hv2'
      subst hv1 hv1' hv2 hv2'
      have hji : (j : Int) < (l.length : Int) := by omega
      have hn := HN.out l[j]
      generalize l[j] = x at *
      go_wp2
      go_quiet (fail)
      go_wp2
      go_roundw
      case rel => exact ⟨HO.out.drewN _, j + 1, by omega, by go_num⟩
      case measure => simp [intOf]; omega
    · obtain rfl : j = l.length := by omega
      go_wp2
      go_ret
      exact ⟨rfl, HO.out⟩

def TellRel (w : World) (l : List Bk) (out i : Value) (wr : World) : Prop :=
  Off [] w wr ∧ ∃ j : Nat, j ≤ l.length ∧ i = .int .i64 j ∧ wr.ownsRow w.heap.size 36 2 out j ((l.take j).flatMap bkL)

theorem own_row {w w' : World} {base H0 size n : Nat} {e : TypeId} {v : Value} {xs : List Value} (h : w.ownsRow base e size v n xs) (hb : base = H0) (ho : Off [] w w') : w'.ownsRow H0 e size v n xs :=
  hb ▸ own_keep h (fun c cur hc _ => ho.block c (⟨hc⟩ : Blk w c _ _).lt (by simp))
set_option maxRecDepth 100000 in
set_option maxHeartbeats 4000000 in
theorem blocks_any {w : World} {v : Value} {l : List Bk} (h : Rd w v l) (hl : l.length ≤ 4096) :
    Calls Try.prog 23 #[v] w fun e w' => (∃ u, e = .returned u ∧ Rd w' u l) ∧ Off [] w w' := by
  have H := Lib.hid h
  obtain ⟨a, c, rfl⟩ := h.len
  clear h
  obtain ⟨i0, hi, hz0, hz1, hz2⟩ := info_parts block_info
  have HI := Lib.hid hi
  have HZ0 := Lib.hid hz0
  have HZ1 := Lib.hid hz1
  have HZ2 := Lib.hid hz2
  clear hi hz0 hz1 hz2
  obtain ⟨H0, hH0⟩ : ∃ H0, w.heap.size = H0 := ⟨_, rfl⟩
  have HS0 := Lib.hid hH0
  clear hH0
  go_enter Try.func23, Try.ntmps23
  go_wp2
  go_loopw [3, 4] (fun out i wr => TellRel w l out i wr) (fun _ i _ => l.length - (intOf i).toNat)
  case atStart => exact ⟨Off.refl _ _, 0, Nat.zero_le _, rfl, World.ownsRow_nil _ _ _ _⟩
  case round =>
    obtain ⟨ho, j, hj, rfl, hown⟩ := hrel
    have HO := Lib.hid ho
    have HW := Lib.hid hown
    have hov : ∃ a' c', u3 = .slice a' j c' := by
      rcases hown.2 with ⟨rfl, h0⟩ | ⟨g, cap, cur, rfl, _⟩
      · exact ⟨none, 0, by rw [h0]⟩
      · exact ⟨_, _, rfl⟩
    have R := Lib.hid (H.out.off ho (by simp))
    clear ho hown
    obtain ⟨oa, oc, rfl⟩ := hov
    by_cases hlt : j < l.length
    · obtain ⟨g1, o1, d1, hv1, p1, q1⟩ := R.out.at j hlt
      injection hv1 with hv1 _ hv1'
      subst hv1 hv1'
      have hji : (j : Int) < (l.length : Int) := by omega
      have HT := Lib.hid (List.take_succ_eq_append_getElem hlt)
      generalize l[j] = x at *
      go_upto_region 5 with fail
      go_region_law (refine step_append_any rfl _ _ 41 rfl H0 36 i0 _ 2 16 Try.underlying41 HI.out HZ0.out HZ1.out HZ2.out rfl (by decide) (.slice oa j oc) j ((l.take j).flatMap bkL) rfl (own_row HW.out HS0.out (by first | exact ((Off.refl _ _).drew).alloc _ | exact ((Off.refl _ _).alloc _).drew)) ⟨wr.heap.size, 0, none⟩ 1 1 (bkL x) rfl rfl (World.news_of_block (Blk.new wr 36 (bkL x).toArray).eq) (by simp [Value.oneCell']) (by unfold maxLen; omega) (by omega) (by have h9 := HS0.out; have h8 := HO.out.size; simp; omega) ?_; intro lg lcap w5 HO5 HG5)
      all_goals
        go_wp2
        go_roundw
        case rel =>
          refine ⟨off_grown (v := .slice oa j oc) (by first | exact (HO.out.drew).alloc _ | exact (HO.out.alloc _).drew) HG5.out (own_row HW.out HS0.out (by first | exact ((Off.refl _ _).drew).alloc _ | exact ((Off.refl _ _).alloc _).drew)) (Nat.le_of_eq HS0.out), j + 1, by omega, by go_num, ?_⟩
          rw [HT.out, List.flatMap_append, HS0.out]
          exact HO5.out
        case measure => simp [intOf]; omega
    · obtain rfl : j = l.length := by omega
      go_wp2
      go_ret
      refine ⟨⟨_, rfl, ?_⟩, HO.out⟩
      have h5 := HW.out
      rw [List.take_length] at h5
      exact rd_own h5

end Go.Proofs.Ytpkpkfcboimhnaa.Mod
