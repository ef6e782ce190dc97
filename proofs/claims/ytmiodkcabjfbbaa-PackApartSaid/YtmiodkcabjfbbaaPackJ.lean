/- PackApart: the walk. -/
import Derived.Test.YtmiodkcabjfbbaaPackI
namespace Go.Proofs.Ytmiodkcabjfbbaa.Pack
open Go.RowKit Mem Plan

/-- Two that were made: each in memory of its own. -/
def Two (W : World) (t : TypeId) (cs ds : Array Value) (x y : Value) (wx : World) : Prop :=
  ∃ g h : Nat, x = .pointer (some ⟨g, 0, none⟩) ∧ y = .pointer (some ⟨h, 0, none⟩) ∧ Blk wx g t cs ∧ Blk wx h t ds ∧ Off [] W wx

set_option maxHeartbeats 8000000 in
set_option maxRecDepth 100000 in
theorem apart_walk (a0 a1 a2 b0 b1 b2 : Int) (w : World) (ha0 : (Lit.int .u8 a0).wf = true) (ha1 : (Lit.int .u8 a1).wf = true) (ha2 : (Lit.int .u8 a2).wf = true) (hb0 : (Lit.int .u8 b0).wf = true) (hb1 : (Lit.int .u8 b1).wf = true) (hb2 : (Lit.int .u8 b2).wf = true) :
    Calls Try.prog 3 #[.agg #[.int .u8 a0, .int .u8 a1, .int .u8 a2], .agg #[.int .u8 b0, .int .u8 b1, .int .u8 b2]] w fun e w' => e = .returned (.bool true) ∧ Below w.heap.size w w' := by
  have ha0' := u8_bd ha0
  obtain ⟨a0l, a0h⟩ := u8_bd ha0
  have wa0 := IntWalk.i64_in a0 (by omega)
  have ha1' := u8_bd ha1
  obtain ⟨a1l, a1h⟩ := u8_bd ha1
  have wa1 := IntWalk.i64_in a1 (by omega)
  have ha2' := u8_bd ha2
  obtain ⟨a2l, a2h⟩ := u8_bd ha2
  have wa2 := IntWalk.i64_in a2 (by omega)
  have hb0' := u8_bd hb0
  obtain ⟨b0l, b0h⟩ := u8_bd hb0
  have wb0 := IntWalk.i64_in b0 (by omega)
  have hb1' := u8_bd hb1
  obtain ⟨b1l, b1h⟩ := u8_bd hb1
  have wb1 := IntWalk.i64_in b1 (by omega)
  have hb2' := u8_bd hb2
  obtain ⟨b2l, b2h⟩ := u8_bd hb2
  have wb2 := IntWalk.i64_in b2 (by omega)
  have mA := IntWalk.i64_in (1 + a0 % 3) (by omega)
  have mB := IntWalk.i64_in (1 + b0 % 3) (by omega)
  obtain ⟨x1, E1, F1⟩ := page_alike ha0' ha1' hb0' hb1'
  obtain ⟨x2, E2, F2⟩ := slot_alike (a := 1 + a0 % 3) (x := 1 + b0 % 3) (by omega) ha1' (by omega) hb1'
  obtain ⟨x3, E3, F3⟩ := entry_alike ha0' ha1' ha2' hb0' hb1' hb2'
  obtain ⟨x4, E4, F4⟩ := status_alike ha0' hb0'
  obtain ⟨⟨N3, N1⟩, N2⟩ := some_words (k := 1 + a0 % 3) ha0' ha1' ha2' (by omega)
  have tA : a0.tmod 3 = a0 % 3 := Int.tmod_eq_emod_of_nonneg a0l
  have tB : b0.tmod 3 = b0 % 3 := Int.tmod_eq_emod_of_nonneg b0l
  clear ha0 ha1 ha2 hb0 hb1 hb2 ha0' ha1' ha2' hb0' hb1' hb2'
  have HE := Lib.hid (And.intro E1 (And.intro E2 (And.intro E3 (And.intro E4 F4))))
  have HF := Lib.hid (And.intro F1 (And.intro F2 F3))
  have HN := Lib.hid (And.intro N1 (And.intro N2 N3))
  clear E1 E2 E3 E4 F1 F2 F3 F4 N1 N2 N3
  obtain ⟨h1, h0, hof⟩ := box_two w 22 22 #[.int .u8 a0, .int .u8 a1, .int .u8 a2] #[.int .u8 b0, .int .u8 b1, .int .u8 b2]
  have HO := Lib.hid hof
  have HA := Lib.hid h0
  have HB := Lib.hid h1
  clear h0 h1 hof
  have hoff := Off.refl [] ((w.alloc (.cells #[.int .u8 a0, .int .u8 a1, .int .u8 a2] 22)).alloc (.cells #[.int .u8 b0, .int .u8 b1, .int .u8 b2] 22))
  have HC := Lib.hid (show ∀ w', Off [] ((w.alloc (.cells #[.int .u8 a0, .int .u8 a1, .int .u8 a2] 22)).alloc (.cells #[.int .u8 b0, .int .u8 b1, .int .u8 b2] 22)) w' → w'.cell? ⟨w.heap.size, 0, none⟩ = some (.int .u8 a0) ∧ w'.cell? ⟨w.heap.size, 1, none⟩ = some (.int .u8 a1) ∧ w'.cell? ⟨w.heap.size, 2, none⟩ = some (.int .u8 a2) ∧ w'.cell? ⟨(w.heap.size + 1), 0, none⟩ = some (.int .u8 b0) ∧ w'.cell? ⟨(w.heap.size + 1), 1, none⟩ = some (.int .u8 b1) ∧ w'.cell? ⟨(w.heap.size + 1), 2, none⟩ = some (.int .u8 b2) from fun w' h =>
    have a := h.blk HA.out (by simp)
    have b := h.blk HB.out (by simp)
    ⟨a.cell 0, a.cell 1, a.cell 2, b.cell 0, b.cell 1, b.cell 2⟩)
  go_enter Try.func3, Try.ntmps3
  go_upto_region 3 with (go_at_call 5; refine (awake4 _).mono ?_; rintro e w3 ⟨rfl, ho⟩; replace hoff := hoff.trans ho; clear ho)
  have HO3 := Lib.hid hoff
  clear hoff
  have HC3 := Lib.hid (show ∀ w', Off [] w3 w' → w'.cell? ⟨w.heap.size, 0, none⟩ = some (.int .u8 a0) ∧ w'.cell? ⟨w.heap.size, 1, none⟩ = some (.int .u8 a1) ∧ w'.cell? ⟨w.heap.size, 2, none⟩ = some (.int .u8 a2) ∧ w'.cell? ⟨(w.heap.size + 1), 0, none⟩ = some (.int .u8 b0) ∧ w'.cell? ⟨(w.heap.size + 1), 1, none⟩ = some (.int .u8 b1) ∧ w'.cell? ⟨(w.heap.size + 1), 2, none⟩ = some (.int .u8 b2) from fun w' h => HC.out _ (HO3.out.trans h))
  have hq := Off.refl [] w3
  obtain ⟨d0, d1, d2, d3, d4, d5⟩ := HC3.out _ hq
  go_cut [5, 6] (fun x y wx => Two w3 25 #[.int .i64 2, .int .i64 a0, .int .i64 a1] #[.int .i64 2, .int .i64 b0, .int .i64 b1] x y wx)
  case first =>
    go_region_held3 (fun w' => w'.cell? ⟨w.heap.size, 0, none⟩ = some (.int .u8 a0) ∧ w'.cell? ⟨w.heap.size, 1, none⟩ = some (.int .u8 a1) ∧ w'.cell? ⟨w.heap.size, 2, none⟩ = some (.int .u8 a2) ∧ w'.cell? ⟨(w.heap.size + 1), 0, none⟩ = some (.int .u8 b0) ∧ w'.cell? ⟨(w.heap.size + 1), 1, none⟩ = some (.int .u8 b1) ∧ w'.cell? ⟨(w.heap.size + 1), 2, none⟩ = some (.int .u8 b2)) (first | exact HC3.out _ hq.drew | exact HC3.out _ (hq.alloc _).drew | exact HC3.out _ ((hq.alloc _).alloc _).drew) (fail)
    all_goals
      go_wp2_with fail
      go_meet
      case rel =>
        obtain ⟨m1, m0, mo⟩ := box_two w3 25 25 #[.int .i64 2, .int .i64 a0, .int .i64 a1] #[.int .i64 2, .int .i64 b0, .int .i64 b1]
        obtain ⟨k1, k0, ko⟩ := box_two w3 25 25 #[.int .i64 2, .int .i64 b0, .int .i64 b1] #[.int .i64 2, .int .i64 a0, .int .i64 a1]
        first | exact ⟨_, _, rfl, rfl, blk_drew m0, blk_drew m1, mo.drew⟩ | exact ⟨_, _, rfl, rfl, blk_drew k1, blk_drew k0, ko.drew⟩
  case rest =>
    obtain ⟨gp, gq, rfl, rfl, B1, B2, o1⟩ := hcut
    have Hgp := Lib.hid B1
    have Hgq := Lib.hid B2
    replace HO3 := Lib.hid (HO3.out.trans o1)
    clear o1 B1 B2 HC3 hq d0 d1 d2 d3 d4 d5
    clear w3
    generalize wc = w3 at *
    go_upto_region 4 with fail
    have HC3 := Lib.hid (show ∀ w', Off [] w3 w' → w'.cell? ⟨w.heap.size, 0, none⟩ = some (.int .u8 a0) ∧ w'.cell? ⟨w.heap.size, 1, none⟩ = some (.int .u8 a1) ∧ w'.cell? ⟨w.heap.size, 2, none⟩ = some (.int .u8 a2) ∧ w'.cell? ⟨(w.heap.size + 1), 0, none⟩ = some (.int .u8 b0) ∧ w'.cell? ⟨(w.heap.size + 1), 1, none⟩ = some (.int .u8 b1) ∧ w'.cell? ⟨(w.heap.size + 1), 2, none⟩ = some (.int .u8 b2) from fun w' h => HC.out _ (HO3.out.trans h))
    have hq := Off.refl [] w3
    obtain ⟨d0, d1, d2, d3, d4, d5⟩ := HC3.out _ hq
    go_cut [7, 8] (fun x y wx => Two w3 27 #[.int .i64 (1 + a0 % 3), .int .i64 a1] #[.int .i64 (1 + b0 % 3), .int .i64 b1] x y wx)
    case first =>
      go_region_held3 (fun w' => w'.cell? ⟨w.heap.size, 0, none⟩ = some (.int .u8 a0) ∧ w'.cell? ⟨w.heap.size, 1, none⟩ = some (.int .u8 a1) ∧ w'.cell? ⟨w.heap.size, 2, none⟩ = some (.int .u8 a2) ∧ w'.cell? ⟨(w.heap.size + 1), 0, none⟩ = some (.int .u8 b0) ∧ w'.cell? ⟨(w.heap.size + 1), 1, none⟩ = some (.int .u8 b1) ∧ w'.cell? ⟨(w.heap.size + 1), 2, none⟩ = some (.int .u8 b2)) (first | exact HC3.out _ hq.drew | exact HC3.out _ (hq.alloc _).drew | exact HC3.out _ ((hq.alloc _).alloc _).drew) (fail)
      all_goals
        go_wp2_with fail
        go_meet
        case rel =>
          obtain ⟨m1, m0, mo⟩ := box_two w3 27 27 #[.int .i64 (1 + a0 % 3), .int .i64 a1] #[.int .i64 (1 + b0 % 3), .int .i64 b1]
          obtain ⟨k1, k0, ko⟩ := box_two w3 27 27 #[.int .i64 (1 + b0 % 3), .int .i64 b1] #[.int .i64 (1 + a0 % 3), .int .i64 a1]
          first | exact ⟨_, _, rfl, rfl, blk_drew m0, blk_drew m1, mo.drew⟩ | exact ⟨_, _, rfl, rfl, blk_drew k1, blk_drew k0, ko.drew⟩
    case rest =>
      obtain ⟨gx, gy, rfl, rfl, B1, B2, o1⟩ := hcut
      replace Hgp := Lib.hid (o1.blk Hgp.out (by simp))
      replace Hgq := Lib.hid (o1.blk Hgq.out (by simp))
      have Hgx := Lib.hid B1
      have Hgy := Lib.hid B2
      replace HO3 := Lib.hid (HO3.out.trans o1)
      clear o1 B1 B2 HC3 hq d0 d1 d2 d3 d4 d5
      clear w3
      generalize wc = w3 at *
      go_upto_region 5 with fail
      have HC3 := Lib.hid (show ∀ w', Off [] w3 w' → w'.cell? ⟨w.heap.size, 0, none⟩ = some (.int .u8 a0) ∧ w'.cell? ⟨w.heap.size, 1, none⟩ = some (.int .u8 a1) ∧ w'.cell? ⟨w.heap.size, 2, none⟩ = some (.int .u8 a2) ∧ w'.cell? ⟨(w.heap.size + 1), 0, none⟩ = some (.int .u8 b0) ∧ w'.cell? ⟨(w.heap.size + 1), 1, none⟩ = some (.int .u8 b1) ∧ w'.cell? ⟨(w.heap.size + 1), 2, none⟩ = some (.int .u8 b2) from fun w' h => HC.out _ (HO3.out.trans h))
      have hq := Off.refl [] w3
      obtain ⟨d0, d1, d2, d3, d4, d5⟩ := HC3.out _ hq
      go_cut [9, 10] (fun x y wx => Two w3 29 #[.int .i64 a0, .int .i64 a1, .int .i64 a2] #[.int .i64 b0, .int .i64 b1, .int .i64 b2] x y wx)
      case first =>
        go_region_held3 (fun w' => w'.cell? ⟨w.heap.size, 0, none⟩ = some (.int .u8 a0) ∧ w'.cell? ⟨w.heap.size, 1, none⟩ = some (.int .u8 a1) ∧ w'.cell? ⟨w.heap.size, 2, none⟩ = some (.int .u8 a2) ∧ w'.cell? ⟨(w.heap.size + 1), 0, none⟩ = some (.int .u8 b0) ∧ w'.cell? ⟨(w.heap.size + 1), 1, none⟩ = some (.int .u8 b1) ∧ w'.cell? ⟨(w.heap.size + 1), 2, none⟩ = some (.int .u8 b2)) (first | exact HC3.out _ hq.drew | exact HC3.out _ (hq.alloc _).drew | exact HC3.out _ ((hq.alloc _).alloc _).drew) (fail)
        all_goals
          go_wp2_with fail
          go_meet
          case rel =>
            obtain ⟨m1, m0, mo⟩ := box_two w3 29 29 #[.int .i64 a0, .int .i64 a1, .int .i64 a2] #[.int .i64 b0, .int .i64 b1, .int .i64 b2]
            obtain ⟨k1, k0, ko⟩ := box_two w3 29 29 #[.int .i64 b0, .int .i64 b1, .int .i64 b2] #[.int .i64 a0, .int .i64 a1, .int .i64 a2]
            first | exact ⟨_, _, rfl, rfl, blk_drew m0, blk_drew m1, mo.drew⟩ | exact ⟨_, _, rfl, rfl, blk_drew k1, blk_drew k0, ko.drew⟩
      case rest =>
        obtain ⟨ge, gf, rfl, rfl, B1, B2, o1⟩ := hcut
        replace Hgp := Lib.hid (o1.blk Hgp.out (by simp))
        replace Hgq := Lib.hid (o1.blk Hgq.out (by simp))
        replace Hgx := Lib.hid (o1.blk Hgx.out (by simp))
        replace Hgy := Lib.hid (o1.blk Hgy.out (by simp))
        have Hge := Lib.hid B1
        have Hgf := Lib.hid B2
        replace HO3 := Lib.hid (HO3.out.trans o1)
        clear o1 B1 B2 HC3 hq d0 d1 d2 d3 d4 d5
        clear w3
        generalize wc = w3 at *
        go_upto_region 6 with fail
        have HC3 := Lib.hid (show ∀ w', Off [] w3 w' → w'.cell? ⟨w.heap.size, 0, none⟩ = some (.int .u8 a0) ∧ w'.cell? ⟨w.heap.size, 1, none⟩ = some (.int .u8 a1) ∧ w'.cell? ⟨w.heap.size, 2, none⟩ = some (.int .u8 a2) ∧ w'.cell? ⟨(w.heap.size + 1), 0, none⟩ = some (.int .u8 b0) ∧ w'.cell? ⟨(w.heap.size + 1), 1, none⟩ = some (.int .u8 b1) ∧ w'.cell? ⟨(w.heap.size + 1), 2, none⟩ = some (.int .u8 b2) ∧ w'.cell? ⟨gp, 0, none⟩ = some (.int .i64 2) ∧ w'.cell? ⟨gp, 1, none⟩ = some (.int .i64 a0) ∧ w'.cell? ⟨gp, 2, none⟩ = some (.int .i64 a1) ∧ w'.cell? ⟨gq, 0, none⟩ = some (.int .i64 2) ∧ w'.cell? ⟨gq, 1, none⟩ = some (.int .i64 b0) ∧ w'.cell? ⟨gq, 2, none⟩ = some (.int .i64 b1) ∧ w'.cell? ⟨gx, 0, none⟩ = some (.int .i64 (1 + a0 % 3)) ∧ w'.cell? ⟨gx, 1, none⟩ = some (.int .i64 a1) ∧ w'.cell? ⟨gy, 0, none⟩ = some (.int .i64 (1 + b0 % 3)) ∧ w'.cell? ⟨gy, 1, none⟩ = some (.int .i64 b1) ∧ w'.cell? ⟨ge, 0, none⟩ = some (.int .i64 a0) ∧ w'.cell? ⟨ge, 1, none⟩ = some (.int .i64 a1) ∧ w'.cell? ⟨ge, 2, none⟩ = some (.int .i64 a2) ∧ w'.cell? ⟨gf, 0, none⟩ = some (.int .i64 b0) ∧ w'.cell? ⟨gf, 1, none⟩ = some (.int .i64 b1) ∧ w'.cell? ⟨gf, 2, none⟩ = some (.int .i64 b2) from fun w' h => by
          have a := HC.out _ (HO3.out.trans h)
          have gpB := h.blk Hgp.out (by simp)
          have gqB := h.blk Hgq.out (by simp)
          have gxB := h.blk Hgx.out (by simp)
          have gyB := h.blk Hgy.out (by simp)
          have geB := h.blk Hge.out (by simp)
          have gfB := h.blk Hgf.out (by simp)
          exact ⟨a.1, a.2.1, a.2.2.1, a.2.2.2.1, a.2.2.2.2.1, a.2.2.2.2.2, gpB.cell 0, gpB.cell 1, gpB.cell 2, gqB.cell 0, gqB.cell 1, gqB.cell 2, gxB.cell 0, gxB.cell 1, gyB.cell 0, gyB.cell 1, geB.cell 0, geB.cell 1, geB.cell 2, gfB.cell 0, gfB.cell 1, gfB.cell 2⟩)
        have hq := Off.refl [] w3
        obtain ⟨E1, E2, E3, E4, F4⟩ := HE.out
        obtain ⟨F1, F2, F3⟩ := HF.out
        obtain ⟨N1, N2, N3⟩ := HN.out
        go_region_held3 (fun w' => w'.cell? ⟨w.heap.size, 0, none⟩ = some (.int .u8 a0) ∧ w'.cell? ⟨w.heap.size, 1, none⟩ = some (.int .u8 a1) ∧ w'.cell? ⟨w.heap.size, 2, none⟩ = some (.int .u8 a2) ∧ w'.cell? ⟨(w.heap.size + 1), 0, none⟩ = some (.int .u8 b0) ∧ w'.cell? ⟨(w.heap.size + 1), 1, none⟩ = some (.int .u8 b1) ∧ w'.cell? ⟨(w.heap.size + 1), 2, none⟩ = some (.int .u8 b2) ∧ w'.cell? ⟨gp, 0, none⟩ = some (.int .i64 2) ∧ w'.cell? ⟨gp, 1, none⟩ = some (.int .i64 a0) ∧ w'.cell? ⟨gp, 2, none⟩ = some (.int .i64 a1) ∧ w'.cell? ⟨gq, 0, none⟩ = some (.int .i64 2) ∧ w'.cell? ⟨gq, 1, none⟩ = some (.int .i64 b0) ∧ w'.cell? ⟨gq, 2, none⟩ = some (.int .i64 b1) ∧ w'.cell? ⟨gx, 0, none⟩ = some (.int .i64 (1 + a0 % 3)) ∧ w'.cell? ⟨gx, 1, none⟩ = some (.int .i64 a1) ∧ w'.cell? ⟨gy, 0, none⟩ = some (.int .i64 (1 + b0 % 3)) ∧ w'.cell? ⟨gy, 1, none⟩ = some (.int .i64 b1) ∧ w'.cell? ⟨ge, 0, none⟩ = some (.int .i64 a0) ∧ w'.cell? ⟨ge, 1, none⟩ = some (.int .i64 a1) ∧ w'.cell? ⟨ge, 2, none⟩ = some (.int .i64 a2) ∧ w'.cell? ⟨gf, 0, none⟩ = some (.int .i64 b0) ∧ w'.cell? ⟨gf, 1, none⟩ = some (.int .i64 b1) ∧ w'.cell? ⟨gf, 2, none⟩ = some (.int .i64 b2)) (first | exact HC3.out _ hq | exact HC3.out _ hq.drew) (first | (go_at_call 6; refine (putPage_any _ _ _ _).mono ?_; rintro e w5 ⟨rfl, ho⟩; (first | (replace hq := hq.trans ho) | (replace hq := hq.drew.trans ho)); clear ho) | (go_at_call 7; refine (putSlot_any _ _ _).mono ?_; rintro e w5 ⟨rfl, ho⟩; (first | (replace hq := hq.trans ho) | (replace hq := hq.drew.trans ho)); clear ho) | (go_at_call 8; refine (putEntry_any _ _ _ _).mono ?_; rintro e w5 ⟨rfl, ho⟩; (first | (replace hq := hq.trans ho) | (replace hq := hq.drew.trans ho)); clear ho) | (go_at_call 9; refine (putStatus_any _ _ _).mono ?_; rintro e w5 ⟨rfl, ho⟩; (first | (replace hq := hq.trans ho) | (replace hq := hq.drew.trans ho)); clear ho))
        go_wp2
        go_ret
        exact ⟨rfl, (HO.out.trans (HO3.out.trans hq)).nil_below⟩

end Go.Proofs.Ytmiodkcabjfbbaa.Pack
