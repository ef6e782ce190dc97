/- FramePlays: the walk. -/
import Derived.Test.YtkccnijnipkjnaaFrmK
import Derived.Test.YtkccnijnipkjnaaOpenQ
import Derived.Deep.CutBlock
namespace Go.Proofs.Ytkccnijnipkjnaa.Frm
open Go.RowKit Mem Go.Proofs.Ytkccnijnipkjnaa.Open

/-- Both stacks hold these frames. -/
structure Both (w : World) (g mb : Nat) (M : Nat) (l : List (Nat → Int)) (W : World) : Prop where
  s : IsS W g l M
  m : IsM W w.heap.size mb l M
  off : Off [] w W
def PlRel (w : World) (g mb M len : Nat) (i : Value) (wr : World) : Prop := ∃ (j : Nat) (l : List (Nat → Int)), j ≤ len ∧ i = .int .i64 j ∧ Both w g mb M l wr
def OkRel (w : World) (g mb M : Nat) (v : Value) (wr : World) : Prop := v = .bool true ∧ ∃ l, Both w g mb M l wr
theorem Both.off0 {w W W' : World} {g mb M : Nat} {l : List (Nat → Int)} (h : Both w g mb M l W) (ho : Off [] W W') : Both w g mb M l W' := ⟨h.s.off0 ho, h.m.off0 ho, h.off.trans ho⟩
theorem nil_or_snoc (l : List (Nat → Int)) : l = [] ∨ ∃ l0 f, l = l0 ++ [f] := by
  rcases List.eq_nil_or_concat l with h | ⟨l0, f, h⟩
  · exact .inl h
  · exact .inr ⟨l0, f, by rw [h, List.concat_eq_append]⟩
theorem snoc_len (l : List (Nat → Int)) (f : Nat → Int) : ((l ++ [f]).length : Int) = (l.length : Int) + 1 := by simp
theorem wr3 {k : Nat} (hk : (k : Int) < 16) : IntKind.i64.wrap ((k : Int) + 1 - 1) = (k : Int) ∧ IntKind.i64.wrap (k : Int) = (k : Int) ∧ wrap64 (k : Int) = (k : Int) ∧ (k : Int) < (k : Int) + 1 :=
  ⟨by rw [show (k : Int) + 1 - 1 = (k : Int) from by omega]; exact IntWalk.i64_in _ (by omega), IntWalk.i64_in _ (by omega), IntWalk.wrap64_in _ (by omega), by omega⟩
theorem deed_at {w : World} {b : Nat} {t : TypeId} {v0 v1 v2 v3 : Value} (h : Blk w b t #[v0, v1, v2, v3]) : w.cell? ⟨b, 1, none⟩ = some v1 ∧ w.cell? ⟨b, 3, none⟩ = some v3 := ⟨h.cell 1, h.cell 3⟩
theorem depth_snoc {w : World} {g m : Nat} {l : List (Nat → Int)} {f : Nat → Int} (h : IsS w g (l ++ [f]) m) :
    Calls Try.prog 18 #[.pointer (some ⟨g, 0, none⟩)] w fun e w' => e = .returned (.int .i64 ((l.length : Int) + 1)) ∧ w' = w := (depth_any h.dep1).mono fun _ _ h => ⟨h.1, h.2.symm⟩
theorem Both.lo {w W : World} {g mb M : Nat} {l : List (Nat → Int)} (h : Both w g mb M l W) : w.heap.size ≤ mb := h.m.hb

set_option maxRecDepth 100000 in
set_option maxHeartbeats 8000000 in
theorem plays_walk (most0 : Int) (a : Option Addr) (len cap : Nat) (z : Nat → Dd) (w : World) (hr : IsRowQ w a len cap z) :
    Calls Try.prog 3 #[.int .i64 most0, .slice a len cap] w fun e w' => e = .returned (.bool true) ∧ Off [] w w' := by
  have HR := Lib.hid hr
  clear hr
  by_cases hlen : 100 < len
  · have hl1 : decide (100 < len) = true := by simpa using hlen
    go_enter Try.func3, Try.ntmps3
    go_wp2_with (first | (go_at_call 7; refine (awake_any _).mono ?_; rintro e w1 ⟨rfl, o1⟩))
    go_ret
    exact ⟨rfl, o1⟩
  · have hl0 : decide (100 < len) = false := by simpa using hlen
    obtain ⟨M, hM⟩ : ∃ M, most most0 = M := ⟨_, rfl⟩
    have HM := Lib.hid hM
    clear hM
    go_enter Try.func3, Try.ntmps3
    go_upto_region 6 with (first | (go_at_call 7; refine (awake_any _).mono ?_; rintro e w1 ⟨rfl, o1⟩) | (go_at_call 8; refine (new_any _ _).mono ?_; rintro e w2 ⟨rfl, s2, o2⟩))
    rw [HM.out] at s2
    have hM16 : M ≤ 16 := s2.cap
    have hg : w.heap.size ≤ w1.heap.size := o1.size
    have hgm : w1.heap.size < w2.heap.size := s2.lt
    refine at_world (R := fun W => IsS W w1.heap.size [] M ∧ Off [] w W ∧ Blk W w2.heap.size 29 #[.slice none 0 0, .int .i64 most0]) ⟨s2.off0 ((Off.refl _ _).alloc _), (o1.trans o2).alloc _, Blk.new _ _ _⟩ ?_
    generalize w1.heap.size = g at *
    generalize w2.heap.size = mb at *
    clear s2 o1 o2
    rintro W hA
    have HA := Lib.hid hA
    clear hA
    obtain ⟨t, ht⟩ : ∃ t, decide (most0 < 0 ∨ 16 < most0) = t := ⟨_, rfl⟩
    have HT := Lib.hid ht
    clear ht
    go_cut [34] from 29 to 34 (fun v wx => wx = W ∧ v = .bool t)
    case first =>
      as_aux_lemma =>
        by_cases h0 : most0 < 0
        · have d0 : decide (most0 < 0) = true := by simpa using h0
          go_wp2_with fail
          go_meet
          case rel => exact ⟨rfl, by rw [← HT.out]; simp [h0]⟩
        · have d0 : decide (most0 < 0) = false := by simpa using h0
          by_cases h1 : 16 < most0
          · have d1 : decide (16 < most0) = true := by simpa using h1
            go_wp2_with fail
            go_meet
            case rel => exact ⟨rfl, by rw [← HT.out]; simp [h1]⟩
          · have d1 : decide (16 < most0) = false := by simpa using h1
            go_wp2_with fail
            go_meet
            case rel => exact ⟨rfl, by rw [← HT.out]; simp; omega⟩
    case rest =>
    obtain ⟨rfl, rfl⟩ := hcut
    go_upto_if 34 with fail
    go_cut [] from 35 to 37 (fun wx => Both w g mb M [] wx)
    case first =>
      as_aux_lemma =>
        cases t with
        | false =>
          have h := HT.out
          simp only [decide_eq_false_iff_not] at h
          go_wp2_with fail
          go_meet
          case rel =>
            have e : ((M : Nat) : Int) = most0 := by rw [← HM.out]; exact most_in (by omega) (by omega)
            exact ⟨HA.out.1, ⟨⟨_, by rw [e]; exact HA.out.2.2, World.ownsRow_nil _ _ _ _⟩, HA.out.2.1.size, by omega, Nat.zero_le _, hM16⟩, HA.out.2.1⟩
        | true =>
          have h := HT.out
          simp only [decide_eq_true_eq] at h
          have HH := Lib.hid h
          clear h
          have c1 := HA.out.2.2.cell 1
          have f1 := HA.out.2.2.free 1
          go_wp2_with fail
          go_meet
          case rel =>
            have e : M = 0 := by rw [← HM.out]; exact most_out HH.out
            subst e
            exact ⟨HA.out.1.off ((Off.refl [mb] _).set (.inl (by simp)) _) (by simp; omega), ⟨⟨_, (HA.out.2.2.set 1 (.int .i64 0)).to (by simp), World.ownsRow_nil _ _ _ _⟩, by simpa [World.setCell] using HA.out.2.1.size, by omega, Nat.zero_le _, hM16⟩, HA.out.2.1.set (.inr (by show _ ≤ mb; omega)) _⟩
    case rest =>
      clear HA HT
      have HB0 := Lib.hid hcut
      clear hcut HM
      go_wp2_with fail
      go_loopw [7] (fun i wr => PlRel w g mb M len i wr) (fun i _ => len - (intOf i).toNat)
      case atStart => exact ⟨0, [], Nat.zero_le _, rfl, HB0.out⟩
      case round =>
        clear HB0
        obtain ⟨j, l, hj, rfl, hb⟩ := hrel
        have HB := Lib.hid hb
        clear hb
        by_cases hlt : j < len
        · have dlt : (j : Int) < (len : Int) := by omega
          obtain ⟨b, off, rfl, hbl, hcap, hmax, hcell⟩ := HR.out.some_ (by omega)
          obtain ⟨hok, hzc⟩ := hcell j hlt
          have HOK := Lib.hid hok
          generalize z j = d at *
          have hmem : ∀ i u, d.cells[i]? = some u → wr.cell? ⟨b, off + j * 4 + i, none⟩ = some u := fun i u hu => by rw [HB.out.off.cell hbl (by simp)]; exact hzc i u hu
          have c0 := hmem 0 _ rfl
          have c1 := hmem 1 _ rfl
          have c2 := hmem 2 _ rfl
          have c3 := hmem 3 _ rfl
          rw [Nat.add_zero] at c0
          clear hcell hok hzc hmem
          obtain ⟨op, n, x, v, L⟩ := d
          obtain ⟨va, vc, hv⟩ := HOK.out.reads.len
          dsimp only at hv c0 c1 c2 c3
          subst hv
          go_upto_region 14 with fail
          refine at_world (R := fun W => Both w g mb M l W ∧ Blk W wr.heap.size 32 #[.int .i64 op, .int .i64 n, .int .i64 x, .slice va L.length vc]) ⟨HB.out.off0 ((Off.refl _ _).alloc _), Blk.new _ _ _⟩ ?_
          have hgd : g < wr.heap.size := HB.out.s.lt
          have hmd : mb < wr.heap.size := HB.out.m.lt
          have hwd : w.heap.size ≤ wr.heap.size := HB.out.off.size
          have HRD : Hid (∀ W', Off [] w W' → Reads W' (.slice va L.length vc) L) := Lib.hid (fun W' h => HOK.out.reads.off h (by simp))
          generalize wr.heap.size = db at *
          clear HB HOK c0 c1 c2 c3
          rintro W hA
          have HA := Lib.hid hA
          clear hA
          have e0 := HA.out.2.cell 0
          have e1 := HA.out.2.cell 1
          have e2 := HA.out.2.cell 2
          have e3 := HA.out.2.cell 3
          by_cases h50 : 50 < L.length
          · have d50 : decide (50 < L.length) = true := by simpa using h50
            go_wp2_with fail
            go_ret
            exact ⟨rfl, HA.out.1.off⟩
          · have d50 : decide (50 < L.length) = false := by simpa using h50
            obtain ⟨la, lc, m0, mf⟩ := HA.out.1.m.first
            go_upto_block 2 with fail
            clear d50 m0 mf
            go_cut [9, 10, 11, 12, 13, 14, 15, 16] from 50 to 232 (fun _ ok _ _ _ _ _ _ wx => OkRel w g mb M ok wx)
            case first =>
              by_cases q2 : op ≤ 2
              · as_aux_lemma =>
                  have t2 : decide (op ≤ 2) = true := by simpa using q2
                  clear q2
                  go_upto_region 22 with fail
                  clear t2
                  by_cases hp : l.length < M ∧ L.length ≤ 8
                  · have HP : Hid (∀ W', Save [mb] w.heap.size W W' → IsS W' g l M ∧ Off [] w W') := Lib.hid (fun W' h => ⟨HA.out.1.s.save h (by simp; omega), h.off HA.out.1.off (Nat.le_refl _) (by simp; exact HA.out.1.lo)⟩)
                    have HQ : Hid (∀ W', Off [g] W W' → IsM W' w.heap.size mb l M ∧ Off [] w W') := Lib.hid (fun W' h => ⟨HA.out.1.m.offS HA.out.1.s h, off_step HA.out.1.off h hg⟩)
                    have HN := Lib.hid hp
                    clear hp
                    go_region_held3 (fun w' => w'.cell? ⟨db, 1, none⟩ = some (.int .i64 n) ∧ w'.cell? ⟨db, 3, none⟩ = some (.slice va L.length vc)) (first | exact ⟨e1, e3⟩ | exact ⟨k1, k3⟩ | exact ⟨r1, r3⟩) (first | (go_at_call 9; refine (push_ok (HP.out _ (by first | exact hR | exact Save.of_off ((Off.refl _ _).drewN _) _)).1 HN.out.1 n (HRD.out _ (HP.out _ (by first | exact hR | exact Save.of_off ((Off.refl _ _).drewN _) _)).2) HN.out.2).mono ?_; rintro e wP ⟨rfl, sP, oP⟩; (try have hP : Off [g] W wP := ((Off.refl _ _).drewN _).trans oP); obtain ⟨k1, k3⟩ := deed_at (by first | exact hP.blk HA.out.2 (by simp; omega) | exact oP.blk (hR.blk HA.out.2 (by simp; omega) (by decide)) (by simp; omega))) | (go_at_call 10; refine (rpush_ok (HQ.out _ (by first | exact hP | exact (Off.refl _ _).drewN _)).1 HN.out.1 n (HRD.out _ (HQ.out _ (by first | exact hP | exact (Off.refl _ _).drewN _)).2) HN.out.2).mono ?_; rintro e wR ⟨rfl, mR, sR⟩; (try have hR : Save [mb] w.heap.size W wR := (Save.of_off ((Off.refl _ _).drewN _) _).trans sR); obtain ⟨r1, r3⟩ := deed_at (by first | exact hR.blk HA.out.2 (by simp; omega) (by decide) | exact sR.blk (hP.blk HA.out.2 (by simp; omega)) (by simp; omega) (by decide))))
                    all_goals
                      go_wp2_with fail
                      go_meet
                      case rel => exact ⟨rfl, _, by first | exact ⟨sP.save sR (by simp; omega), mR, sR.off (HQ.out _ hP).2 (Nat.le_refl _) (by simp; exact HA.out.1.lo)⟩ | exact ⟨sP, mR.offS (HP.out _ hR).1 oP, off_step (HP.out _ hR).2 oP hg⟩⟩
                  · have hle := HA.out.1.s.le
                    have HN := Lib.hid (show l.length = M ∨ 8 < L.length by omega)
                    have HK : Hid (∀ W', Off [] W W' → Both w g mb M l W') := Lib.hid (fun W' h => HA.out.1.off0 h)
                    clear hp hle
                    go_region_held3 (fun w' => w'.cell? ⟨db, 1, none⟩ = some (.int .i64 n) ∧ w'.cell? ⟨db, 3, none⟩ = some (.slice va L.length vc)) (first | exact ⟨e1, e3⟩ | exact ⟨k1, k3⟩ | exact ⟨r1, r3⟩) (first | (go_at_call 9; refine (push_no (HK.out _ (by first | exact hR | exact (Off.refl _ _).drewN _)).s n _ _ _ HN.out).mono ?_; rintro e wP ⟨rfl, oP⟩; (try have hP : Off [] W wP := ((Off.refl _ _).drewN _).trans oP); obtain ⟨k1, k3⟩ := deed_at (by first | exact hP.blk HA.out.2 (by simp) | exact oP.blk (hR.blk HA.out.2 (by simp)) (by simp))) | (go_at_call 10; refine (rpush_no (HK.out _ (by first | exact hP | exact (Off.refl _ _).drewN _)).m n _ _ _ HN.out).mono ?_; rintro e wR ⟨rfl, oR⟩; (try have hR : Off [] W wR := ((Off.refl _ _).drewN _).trans oR); obtain ⟨r1, r3⟩ := deed_at (by first | exact hR.blk HA.out.2 (by simp) | exact oR.blk (hP.blk HA.out.2 (by simp)) (by simp))))
                    all_goals
                      go_wp2_with fail
                      go_meet
                      case rel => exact ⟨rfl, l, by first | exact HK.out _ (hP.trans oR) | exact HK.out _ (hR.trans oP)⟩
              · by_cases q3 : op = 3
                · as_aux_lemma =>
                    subst q3
                    clear q2
                    rcases nil_or_snoc l with rfl | ⟨l0, f, rfl⟩
                    · go_wp2_with (go_at_call 11; refine (pop_none HA.out.1.s).mono ?_; rintro e w3 ⟨rfl, o3⟩)
                      go_meet
                      case rel => exact ⟨rfl, [], HA.out.1.off0 (o3.alloc _)⟩
                    · rw [snoc_len]
                      have b0 : (0 : Int) ≤ (l0.length : Int) := by omega
                      have b1 : (l0.length : Int) < 16 := by have := HA.out.1.s.lt16; omega
                      go_upto_region 27 with (go_at_call 11; refine (pop_some HA.out.1.s).mono ?_; rintro e w3 ⟨rfl, s3, o3⟩)
                      refine at_world (R := fun W' => IsS W' g l0 M ∧ IsM W' w.heap.size mb (l0 ++ [f]) M ∧ Off [] w W' ∧ Blk W' w3.heap.size 37 (frL f).toArray) ⟨s3.off0 ((Off.refl _ _).alloc _), (HA.out.1.m.offS HA.out.1.s o3).off0 ((Off.refl _ _).alloc _), (off_step HA.out.1.off o3 hg).alloc _, Blk.new _ _ _⟩ ?_
                      rintro W1 hA1
                      have HA1 := Lib.hid hA1
                      clear hA1 s3 o3 e0 e1 e2 e3
                      obtain ⟨rg, cap', hl⟩ := HA1.out.2.1.last
                      have h0 := hl.head
                      obtain ⟨-, x0, x1, x2, x3, x4, x5, x6, x7, x8, x9⟩ := ten_cells HA1.out.2.2.2
                      have y0 := hl.cells 0 (by decide)
                      have y1 := hl.cells 1 (by decide)
                      have y2 := hl.cells 2 (by decide)
                      have y3 := hl.cells 3 (by decide)
                      have y4 := hl.cells 4 (by decide)
                      have y5 := hl.cells 5 (by decide)
                      have y6 := hl.cells 6 (by decide)
                      have y7 := hl.cells 7 (by decide)
                      have y8 := hl.cells 8 (by decide)
                      have y9 := hl.cells 9 (by decide)
                      rw [Nat.add_zero] at y0
                      clear hl
                      obtain ⟨v1, v2, v3, v4⟩ := wr3 b1
                      go_still_tail 11, (by kernel_rfl)
                      clear v1 v2 v3 v4
                      go_upto_region 28 with (go_at_call 12; refine (same_eq f _).mono ?_; rintro e w5 ⟨rfl, o5⟩)
                      clear h0 x0 x1 x2 x3 x4 x5 x6 x7 x8 x9 y0 y1 y2 y3 y4 y5 y6 y7 y8 y9
                      have o6 : Off [] W1 w5 := (Off.refl _ _).drew.trans o5
                      have HA2 := Lib.hid (show IsS w5 g l0 M ∧ IsM w5 w.heap.size mb (l0 ++ [f]) M ∧ Off [] w w5 from ⟨HA1.out.1.off0 o6, HA1.out.2.1.off0 o6, HA1.out.2.2.1.trans o6⟩)
                      clear o5 o6 HA1
                      obtain ⟨_, _, -, mf⟩ := HA2.out.2.1.first
                      obtain ⟨rg, cap', hl⟩ := HA2.out.2.1.last
                      have h0 := hl.head
                      have hcf : l0.length ≤ cap' := by have := hl.fit; omega
                      have HL := Lib.hid hl
                      clear hl
                      obtain ⟨v1, v2, v3, v4⟩ := wr3 b1
                      go_wp2_with fail
                      go_meet
                      case rel => exact ⟨rfl, l0, ⟨HA2.out.1.off ((Off.refl [mb] _).set (.inl (by simp)) _) (by simp; omega), HL.out.cut, HA2.out.2.2.set (.inr HA.out.1.lo) _⟩⟩
                · by_cases q4 : op = 4
                  · as_aux_lemma =>
                      subst q4
                      clear q2
                      rcases nil_or_snoc l with rfl | ⟨l0, f, rfl⟩
                      · go_wp2_with (go_at_call 13; refine (go_none HA.out.1.s n).mono ?_; rintro e w3 ⟨rfl, o3⟩)
                        go_meet
                        case rel => exact ⟨rfl, [], HA.out.1.off0 o3⟩
                      · rw [snoc_len]
                        have b0 : (0 : Int) ≤ (l0.length : Int) := by omega
                        have b1 : (l0.length : Int) < 16 := by have := HA.out.1.s.lt16; omega
                        go_upto_region 32 with (go_at_call 13; refine (go_some HA.out.1.s n).mono ?_; rintro e w3 ⟨rfl, s3, o3⟩)
                        have HA1 := Lib.hid (show IsS w3 g (l0 ++ [upd f 1 n]) M ∧ IsM w3 w.heap.size mb (l0 ++ [f]) M ∧ Off [] w w3 from ⟨s3, HA.out.1.m.offS HA.out.1.s o3, off_step HA.out.1.off o3 hg⟩)
                        replace e1 := (o3.blk HA.out.2 (by simp; omega)).cell 1
                        clear s3 o3 e0 e2 e3
                        obtain ⟨rg, cap', hl⟩ := HA1.out.2.1.last
                        have h0 := hl.head
                        have y1 := hl.cells 1 (by decide)
                        have fz := hl.free (l0.length * 10 + 1)
                        have HL := Lib.hid hl
                        clear hl
                        obtain ⟨v1, v2, v3, v4⟩ := wr3 b1
                        go_still_tail 10, (by kernel_rfl)
                        go_wp2_with fail
                        go_meet
                        case rel =>
                          obtain ⟨cur, hk⟩ := HL.out.kind
                          obtain ⟨M', hM', -⟩ := HA1.out.1.mem
                          have hne := hM'.blk.ne hk (by decide)
                          exact ⟨rfl, _, ⟨(HA1.out.1.off ((Off.refl [rg] _).set (.inl (by simp)) _) (by simp; omega)).off0 (Off.refl _ _).drew, (HL.out.put 1 n (by decide)).off0 (Off.refl _ _).drew, (HA1.out.2.2.set (.inr HL.out.lo) _).drew⟩⟩
                  · by_cases q6 : op ≤ 6
                    · as_aux_lemma =>
                        have t2 : decide (op ≤ 2) = false := by simpa using q2
                        have t3 : (op == 3) = false := by simpa using q3
                        have t4 : (op == 4) = false := by simpa using q4
                        have t6 : decide (op ≤ 6) = true := by simpa using q6
                        clear q2 q3 q4 q6
                        rcases nil_or_snoc l with rfl | ⟨l0, f, rfl⟩
                        · go_wp2_with (go_at_call 14; refine (set_none HA.out.1.s n x).mono ?_; rintro e w3 ⟨rfl, o3⟩)
                          go_meet
                          case rel => exact ⟨rfl, [], HA.out.1.off0 o3⟩
                        · rw [snoc_len]
                          have b0 : (0 : Int) ≤ (l0.length : Int) := by omega
                          have b1 : (l0.length : Int) < 16 := by have := HA.out.1.s.lt16; omega
                          by_cases hn : 0 ≤ n
                          · obtain ⟨r, rfl⟩ := Int.eq_ofNat_of_zero_le hn
                            by_cases hr : r < 8
                            · have dr : decide ((r : Int) < 8) = true := by simp; omega
                              have br : (r : Int) < 8 := by omega
                              clear hn
                              go_upto_region 37 with (go_at_call 14; refine (set_in HA.out.1.s r hr x).mono ?_; rintro e w3 ⟨rfl, s3, o3⟩; have k1 := (o3.blk HA.out.2 (by simp; omega)).cell 1; have k2 := (o3.blk HA.out.2 (by simp; omega)).cell 2)
                              have HA1 := Lib.hid (show IsS w3 g (l0 ++ [upd f (2 + r) x]) M ∧ IsM w3 w.heap.size mb (l0 ++ [f]) M ∧ Off [] w w3 from ⟨s3, HA.out.1.m.offS HA.out.1.s o3, off_step HA.out.1.off o3 hg⟩)
                              clear s3 o3 e0 e1 e2 e3
                              obtain ⟨rg, cap', hl⟩ := HA1.out.2.1.last
                              have h0 := hl.head
                              have y1 := hl.cells (2 + r) (by omega)
                              have fz := hl.free (l0.length * 10 + (2 + r))
                              rw [← Nat.add_assoc] at y1 fz
                              have HL := Lib.hid hl
                              clear hl
                              obtain ⟨v1, v2, v3, v4⟩ := wr3 b1
                              go_still_tail 13, (by kernel_rfl)
                              go_wp2_with fail
                              go_meet
                              case rel =>
                                obtain ⟨cur, hk⟩ := HL.out.kind
                                obtain ⟨M', hM', -⟩ := HA1.out.1.mem
                                have hne := hM'.blk.ne hk (by decide)
                                have hput := HL.out.put (2 + r) x (by omega)
                                rw [← Nat.add_assoc] at hput
                                exact ⟨rfl, _, ⟨(HA1.out.1.off ((Off.refl [rg] _).set (.inl (by simp)) _) (by simp; omega)).off0 (Off.refl _ _).drew, hput.off0 (Off.refl _ _).drew, (HA1.out.2.2.set (.inr HL.out.lo) _).drew⟩⟩
                            · have dr : decide ((r : Int) < 8) = false := by simp; omega
                              clear hn
                              go_wp2_with (go_at_call 14; refine (set_out HA.out.1.s r x (by omega)).mono ?_; rintro e w3 ⟨rfl, o3⟩)
                              go_meet
                              case rel => exact ⟨rfl, _, HA.out.1.off0 o3⟩
                          · have dr : decide (0 ≤ n) = false := by simpa using hn
                            go_wp2_with (go_at_call 14; refine (set_out HA.out.1.s n x (by omega)).mono ?_; rintro e w3 ⟨rfl, o3⟩)
                            go_meet
                            case rel => exact ⟨rfl, _, HA.out.1.off0 o3⟩
                    · by_cases q7 : op = 7
                      · as_aux_lemma =>
                          subst q7
                          clear q2 q3 q4 q6
                          rcases nil_or_snoc l with rfl | ⟨l0, f, rfl⟩
                          · go_upto_region 41 with (go_at_call 15; refine (get_none HA.out.1.s n).mono ?_; rintro e w3 ⟨rfl, o3⟩)
                            go_quiet (fail)
                            go_wp2_with fail
                            go_meet
                            case rel => exact ⟨rfl, [], (HA.out.1.off0 o3).off0 ((Off.refl _ _).drewN _)⟩
                          · rw [snoc_len]
                            have b0 : (0 : Int) ≤ (l0.length : Int) := by omega
                            have b1 : (l0.length : Int) < 16 := by have := HA.out.1.s.lt16; omega
                            by_cases hn : 0 ≤ n
                            · obtain ⟨r, rfl⟩ := Int.eq_ofNat_of_zero_le hn
                              by_cases hr : r < 8
                              · have dr : decide ((r : Int) < 8) = true := by simp; omega
                                have br : (r : Int) < 8 := by omega
                                clear hn
                                go_upto_region 41 with (go_at_call 15; refine (get_in HA.out.1.s r hr).mono ?_; rintro e w3 ⟨rfl, o3⟩)
                                have HA1 := Lib.hid (HA.out.1.off0 o3)
                                replace e1 := (o3.blk HA.out.2 (by simp)).cell 1
                                obtain ⟨rg, cap', hl⟩ := HA1.out.m.last
                                have h0 := hl.head
                                have y1 := hl.cells (2 + r) (by omega)
                                rw [← Nat.add_assoc] at y1
                                clear hl o3 e0 e2 e3
                                obtain ⟨v1, v2, v3, v4⟩ := wr3 b1
                                go_quiet (fail)
                                go_wp2_with fail
                                go_meet
                                case rel => exact ⟨rfl, _, HA1.out.off0 ((Off.refl _ _).drewN _)⟩
                              · have dr : decide ((r : Int) < 8) = false := by simp; omega
                                clear hn
                                go_upto_region 41 with (go_at_call 15; refine (get_out HA.out.1.s r (by omega)).mono ?_; rintro e w3 ⟨rfl, o3⟩)
                                go_quiet (fail)
                                go_wp2_with fail
                                go_meet
                                case rel => exact ⟨rfl, _, (HA.out.1.off0 o3).off0 ((Off.refl _ _).drewN _)⟩
                            · have dr : decide (0 ≤ n) = false := by simpa using hn
                              go_upto_region 41 with (go_at_call 15; refine (get_out HA.out.1.s n (by omega)).mono ?_; rintro e w3 ⟨rfl, o3⟩)
                              go_quiet (fail)
                              go_wp2_with fail
                              go_meet
                              case rel => exact ⟨rfl, _, (HA.out.1.off0 o3).off0 ((Off.refl _ _).drewN _)⟩
                      · as_aux_lemma =>
                          have t2 : decide (op ≤ 2) = false := by simpa using q2
                          have t3 : (op == 3) = false := by simpa using q3
                          have t4 : (op == 4) = false := by simpa using q4
                          have t6 : decide (op ≤ 6) = false := by simpa using q6
                          have t7 : (op == 7) = false := by simpa using q7
                          clear q2 q3 q4 q6 q7
                          go_wp2_with (go_at_call 16; refine (clear_any HA.out.1.s).mono ?_; rintro e w3 ⟨rfl, s3, o3⟩; have HA1 := Lib.hid (show IsS w3 g [] M ∧ IsM w3 w.heap.size mb l M ∧ Off [] w w3 from ⟨s3, HA.out.1.m.offS HA.out.1.s o3, off_step HA.out.1.off o3 hg⟩); obtain ⟨_, _, h0, mf⟩ := HA1.out.2.1.first; clear s3 o3)
                          go_meet
                          case rel => exact ⟨rfl, [], ⟨HA1.out.1.off ((Off.refl [mb] _).set (.inl (by simp)) _) (by simp; omega), HA1.out.2.1.clear, HA1.out.2.2.set (.inr HA.out.1.lo) _⟩⟩
            case rest =>
              obtain ⟨rfl, l', hB'⟩ := hcut
              clear HA e0 e1 e2 e3
              have HB := Lib.hid hB'
              clear hB'
              rcases nil_or_snoc l' with rfl | ⟨l0, f, rfl⟩
              · as_aux_lemma =>
                  go_upto_region 43 with (go_at_call 17; refine (top_none HB.out.s).mono ?_; rintro e w3 ⟨rfl, o3⟩)
                  refine at_world (R := fun W' => Both w g mb M [] W') (HB.out.off0 (o3.alloc _)) ?_
                  rintro W1 hA1
                  have HA1 := Lib.hid hA1
                  clear hA1 o3
                  obtain ⟨_, _, m0, -⟩ := HA1.out.m.first
                  go_upto_region 44 with fail
                  go_quiet ((go_at_call 18; exact quiet_l (depth_is (HA1.out.s.off0 ((Off.refl _ _).drewN _)))))
                  go_wp2_with fail
                  go_roundw
                  case rel => exact ⟨j + 1, [], by omega, by go_num, HA1.out.off0 ((Off.refl _ _).drewN _)⟩
                  case measure => simp [intOf]; omega
              · as_aux_lemma =>
                  have b0 : (0 : Int) ≤ (l0.length : Int) := by omega
                  have b1 : (l0.length : Int) < 16 := by have := HB.out.s.lt16; omega
                  go_upto_region 43 with (go_at_call 17; refine (top_some HB.out.s).mono ?_; rintro e w3 ⟨rfl, o3⟩)
                  refine at_world (R := fun W' => Both w g mb M (l0 ++ [f]) W' ∧ Blk W' w3.heap.size 37 (frL f).toArray) ⟨HB.out.off0 (o3.alloc _), Blk.new _ _ _⟩ ?_
                  rintro W1 hA1
                  have HA1 := Lib.hid hA1
                  clear hA1 o3
                  obtain ⟨rg, cap', hl⟩ := HA1.out.1.m.last
                  have h0 := hl.head
                  go_upto_region 44 with fail
                  obtain ⟨-, x0, x1, x2, x3, x4, x5, x6, x7, x8, x9⟩ := ten_cells HA1.out.2
                  have y0 := hl.cells 0 (by decide)
                  have y1 := hl.cells 1 (by decide)
                  have y2 := hl.cells 2 (by decide)
                  have y3 := hl.cells 3 (by decide)
                  have y4 := hl.cells 4 (by decide)
                  have y5 := hl.cells 5 (by decide)
                  have y6 := hl.cells 6 (by decide)
                  have y7 := hl.cells 7 (by decide)
                  have y8 := hl.cells 8 (by decide)
                  have y9 := hl.cells 9 (by decide)
                  rw [Nat.add_zero] at y0
                  clear hl
                  obtain ⟨v1, v2, v3, v4⟩ := wr3 b1
                  go_still_tail 26, (by kernel_rfl)
                  still_call (depth_snoc (HA1.out.1.s.off0 (Off.refl _ _).drew))
                  repeat still_step
                  refine wpStill_nil ?_
                  clear v1 v2 v3 v4 h0 x0 x1 x2 x3 x4 x5 x6 x7 x8 x9 y0 y1 y2 y3 y4 y5 y6 y7 y8 y9
                  go_wp2_with (go_at_call 12; refine (same_eq f _).mono ?_; rintro e w5 ⟨rfl, o5⟩)
                  go_roundw
                  case rel => exact ⟨j + 1, l0 ++ [f], by omega, by go_num, HA1.out.1.off0 ((Off.refl _ _).drew.trans o5)⟩
                  case measure => simp [intOf]; omega
        · obtain rfl : j = len := by omega
          go_wp2_with fail
          go_ret
          exact ⟨rfl, HB.out.off⟩

end Go.Proofs.Ytkccnijnipkjnaa.Frm

