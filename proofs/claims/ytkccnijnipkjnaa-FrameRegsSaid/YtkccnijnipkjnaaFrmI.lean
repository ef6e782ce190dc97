/- FrameRegs: the walk. -/
import Derived.Test.YtkccnijnipkjnaaFrmF
import Derived.Test.YtkccnijnipkjnaaOpenP
namespace Go.Proofs.Ytkccnijnipkjnaa.Frm
open Go.RowKit Mem Go.Proofs.Ytkccnijnipkjnaa.Open

/-- The frames that are pushed first. -/
def pl (k : Nat) : List (Nat → Int) := (List.range k).map fun i : Nat => newF (i : Int) [10, 20]
theorem pl_len (k : Nat) : (pl k).length = k := by simp [pl]
theorem pl_succ (k : Nat) : pl (k + 1) = pl k ++ [newF (k : Int) [10, 20]] := by simp [pl, List.range_succ]

abbrev eightL (f : Nat → Int) : Array Value := #[.int .i64 (f 2), .int .i64 (f 3), .int .i64 (f 4), .int .i64 (f 5), .int .i64 (f 6), .int .i64 (f 7), .int .i64 (f 8), .int .i64 (f 9)]
theorem eight_set {w : World} {b : Nat} {t : TypeId} {f : Nat → Int} (h : Blk w b t (eightL f)) (r : Nat) (hr : r < 8) (x : Int) : Blk (w.setCell ⟨b, r, none⟩ (.int .i64 x)) b t (eightL (upd f (2 + r) x)) := by
  refine (h.set r _).to ?_
  match r, hr with
  | 0, _ => simp [upd]
  | 1, _ => simp [upd]
  | 2, _ => simp [upd]
  | 3, _ => simp [upd]
  | 4, _ => simp [upd]
  | 5, _ => simp [upd]
  | 6, _ => simp [upd]
  | 7, _ => simp [upd]

theorem eight_cell {w : World} {b : Nat} {t : TypeId} {f : Nat → Int} (h : Blk w b t (eightL f)) (r : Nat) (hr : r < 8) : w.cell? ⟨b, r, none⟩ = some (.int .i64 (f (2 + r))) := by
  rw [h.cell]
  match r, hr with
  | 0, _ => rfl
  | 1, _ => rfl
  | 2, _ => rfl
  | 3, _ => rfl
  | 4, _ => rfl
  | 5, _ => rfl
  | 6, _ => rfl
  | 7, _ => rfl

def PRel (w : World) (g K : Nat) (i : Value) (wr : World) : Prop := ∃ j : Nat, j ≤ K ∧ i = .int .i64 j ∧ IsS wr g (pl j) K ∧ Off [] w wr
def SRel (w : World) (g d K bw len : Nat) (i : Value) (wr : World) : Prop :=
  ∃ (j : Nat) (f : Nat → Int), j ≤ len ∧ i = .int .i64 j ∧ f 0 = (d : Int) ∧ IsS wr g (pl d ++ [f]) K ∧ Blk wr bw 35 (eightL f) ∧ Off [] w wr
def QRel (w : World) (g d K : Nat) (i : Value) (wr : World) : Prop := ∃ n : Nat, n ≤ d ∧ i = .int .i64 ((n : Int) - 1) ∧ IsS wr g (pl n) K ∧ Off [] w wr

theorem i8_bd {a : Int} (h : (Lit.int .i8 a).wf = true) : -128 ≤ a ∧ a ≤ 127 := by
  have hmin : IntKind.i8.min = -128 := rfl
  have hmax : IntKind.i8.max = 127 := rfl
  simp only [Lit.wf, Bool.and_eq_true, decide_eq_true_eq] at h
  omega

set_option maxRecDepth 100000 in
set_option maxHeartbeats 4000000 in
theorem regs_walk (a : Option Addr) (len cap : Nat) (x y : Nat → Int) (deep : Nat) (hd : deep < 256) (w : World) (hr : IsRowP w a len cap .i8 x y) :
    Calls Try.prog 6 #[.slice a len cap, .int .u8 deep] w fun e w' => e = .returned (.bool true) ∧ Off [] w w' := by
  obtain ⟨d, hd1, hd16⟩ : ∃ d : Nat, (deep : Int) % 16 = d ∧ d < 16 := ⟨deep % 16, by omega, by omega⟩
  have HR := Lib.hid hr
  clear hr
  by_cases hlen : 100 < len
  · have hl1 : decide (100 < len) = true := by simpa using hlen
    clear hd1
    go_enter Try.func6, Try.ntmps6
    go_wp2_with (first | (go_at_call 7; refine (awake_any _).mono ?_; rintro e w1 ⟨rfl, o1⟩))
    go_ret
    exact ⟨rfl, o1⟩
  · have hl0 : decide (100 < len) = false := by simpa using hlen
    have hw1 : IntKind.i64.wrap ((d : Int) + 1) = (d : Int) + 1 := IntWalk.i64_in _ (by omega)
    go_enter Try.func6, Try.ntmps6
    go_upto_region 6 with (first | (go_at_call 7; refine (awake_any _).mono ?_; rintro e w1 ⟨rfl, o1⟩))
    obtain ⟨K, hK⟩ : ∃ K, K = d + 1 := ⟨_, rfl⟩
    rw [show 1 + (d : Int) = (K : Int) from by omega]
    have HK := Lib.hid hK
    clear hK hd1 hw1
    have hK16 : K ≤ 16 := by have := HK.out; omega
    go_wp2_with (first | (go_at_call 8; refine (new_in K hK16 _).mono ?_; rintro e w2 ⟨rfl, s2, o2⟩))
    have hg : w.heap.size ≤ w1.heap.size := o1.size
    generalize w1.heap.size = g at *
    have O2 := Lib.hid (o1.trans o2)
    have S2 := Lib.hid s2
    clear o1 o2 s2
    go_loopw [7] (fun i wr => PRel w g K i wr) (fun i _ => K - (intOf i).toNat)
    case atStart => exact ⟨0, Nat.zero_le _, rfl, S2.out, O2.out⟩
    case round =>
      clear S2 O2
      obtain ⟨j, hj, rfl, hs, ho⟩ := hrel
      have HS := Lib.hid hs
      have HO := Lib.hid ho
      clear hs ho
      by_cases hlt : j < K
      · have dlt : (j : Int) < (K : Int) := by omega
        go_wp2_with (first | (go_at_call 9; refine (push_ok (L := [10, 20]) (HS.out.off0 ((Off.refl _ _).alloc _)) (by rw [pl_len]; omega) (j : Int) (Reads.of_blk (t := 2) (c := 2) [10, 20] (Blk.new _ _ _)) (by decide)).mono ?_; rintro e w3 ⟨rfl, s3, o3⟩))
        go_roundw
        case rel => exact ⟨j + 1, by omega, by go_num, by rw [pl_succ]; exact s3, off_step (HO.out.alloc _) o3 hg⟩
        case measure => simp [intOf]; omega
      · obtain rfl : j = K := by omega
        clear hlt hj
        have HS1 : Hid (IsS wr g (pl d ++ [newF (d : Int) [10, 20]]) j) := Lib.hid (by rw [← pl_succ, ← HK.out]; exact HS.out)
        clear HS
        go_upto_region 15 with fail
        refine at_world (R := fun W => IsS W g (pl d ++ [newF (d : Int) [10, 20]]) j ∧ Off [] w W ∧ Blk W wr.heap.size 35 (eightL (newF (d : Int) [10, 20]))) ⟨HS1.out.off0 ((Off.refl _ _).alloc _), HO.out.alloc _, Blk.new _ _ _⟩ ?_
        have hgb : g < wr.heap.size := HS1.out.lt
        have hwb : w.heap.size ≤ wr.heap.size := HO.out.size
        generalize wr.heap.size = bw at *
        clear HS1 HO
        rintro W hA
        have HA := Lib.hid hA
        clear hA
        go_wp2_with fail
        go_loopw [9] (fun i wr => SRel w g d j bw len i wr) (fun i _ => len - (intOf i).toNat)
        case atStart => exact ⟨0, newF (d : Int) [10, 20], Nat.zero_le _, rfl, rfl, HA.out.1, HA.out.2.2, HA.out.2.1⟩
        case round =>
          clear HA
          obtain ⟨i, f, hi, rfl, hf0, hs, hb, ho⟩ := hrel
          have HF0 := Lib.hid hf0
          have HS := Lib.hid hs
          have HB := Lib.hid hb
          have HO := Lib.hid ho
          clear hs hb ho hf0
          by_cases hlt : i < len
          · have dlt : (i : Int) < (len : Int) := by omega
            obtain ⟨b, off, rfl, hbl, hcap, hmax, hcell⟩ := HR.out.some_ (by omega)
            obtain ⟨wx, wy, hx, hy⟩ := hcell i hlt
            obtain ⟨x1, x2⟩ := i8_bd wx
            obtain ⟨y1, y2⟩ := i8_bd wy
            have cx : wr.cell? ⟨b, off + i * 2, none⟩ = some (.int .i8 (x i)) := by rw [HO.out.cell hbl (by simp)]; exact hx
            have cy : wr.cell? ⟨b, off + i * 2 + 1, none⟩ = some (.int .i8 (y i)) := by rw [HO.out.cell hbl (by simp)]; exact hy
            have HY := Lib.hid hy
            clear hcell wx wy hx hy
            by_cases hin : 0 ≤ x i ∧ x i < 8
            · obtain ⟨hin1, hin2⟩ := hin
              generalize x i = X at *
              generalize y i = Y at *
              obtain ⟨r, rfl⟩ := Int.eq_ofNat_of_zero_le hin1
              have hr8 : r < 8 := by omega
              have dr : decide ((r : Int) < 8) = true := by simp; omega
              go_wp2_with (first | (go_at_call 14; refine (set_in HS.out r hr8 Y).mono ?_; rintro e w3 ⟨rfl, s3, o3⟩; have S3 := Lib.hid s3; have B3 := Lib.hid (o3.blk HB.out (by simp; omega)); have O3 := Lib.hid (off_step HO.out o3 hg); have cy3 : w3.cell? ⟨b, off + i * 2 + 1, none⟩ = some (.int .i8 Y) := (by rw [O3.out.cell hbl (by simp)]; exact HY.out); have fz := B3.out.free r; have cw := eight_cell B3.out r hr8; clear s3 o3))
              go_roundw
              case rel => exact ⟨i + 1, upd f (2 + r) Y, by omega, by go_num, by rw [← HF0.out]; unfold upd; rw [if_neg (by omega)], S3.out.off ((Off.refl [bw] _).set (.inl (by simp)) _) (by simp; omega), eight_set B3.out r hr8 Y, O3.out.set (.inr hwb) _⟩
              case measure => simp [intOf]; omega
            · have hout : x i < 0 ∨ 8 ≤ x i := by omega
              generalize x i = X at *
              generalize y i = Y at *
              by_cases hneg : X < 0
              · have d0 : decide (0 ≤ X) = false := by simp; omega
                go_wp2_with (first | (go_at_call 14; refine (set_no HS.out X Y hout).mono ?_; rintro e w3 ⟨rfl, o3⟩))
                go_roundw
                case rel => exact ⟨i + 1, f, by omega, by go_num, HF0.out, HS.out.off0 o3, o3.blk HB.out (by simp), HO.out.trans o3⟩
                case measure => simp [intOf]; omega
              · have d0 : decide (0 ≤ X) = true := by simp; omega
                have d1 : decide (X < 8) = false := by simp; omega
                go_wp2_with (first | (go_at_call 14; refine (set_no HS.out X Y hout).mono ?_; rintro e w3 ⟨rfl, o3⟩))
                go_roundw
                case rel => exact ⟨i + 1, f, by omega, by go_num, HF0.out, HS.out.off0 o3, o3.blk HB.out (by simp), HO.out.trans o3⟩
                case measure => simp [intOf]; omega
          · obtain rfl : i = len := by omega
            clear hlt hi
            go_upto_region 25 with (go_at_call 11; refine (pop_some HS.out).mono ?_; rintro e w3 ⟨rfl, s3, o3⟩)
            refine at_world (R := fun W => IsS W g (pl d) j ∧ Off [] w W ∧ Blk W bw 35 (eightL f) ∧ Blk W w3.heap.size 37 (frL f).toArray) ⟨s3.off0 ((Off.refl _ _).alloc _), (off_step HO.out o3 hg).alloc _, (o3.blk HB.out (by simp; omega)).alloc _, Blk.new _ _ _⟩ ?_
            generalize w3.heap.size = b12 at *
            clear HS HB HO s3 o3
            rintro W3 hA
            have HA := Lib.hid hA
            obtain ⟨-, x0, x1, x2, x3, x4, x5, x6, x7, x8, x9⟩ := ten_cells hA.2.2.2
            have y0 := eight_cell hA.2.2.1 0 (by decide)
            have y1 := eight_cell hA.2.2.1 1 (by decide)
            have y2 := eight_cell hA.2.2.1 2 (by decide)
            have y3 := eight_cell hA.2.2.1 3 (by decide)
            have y4 := eight_cell hA.2.2.1 4 (by decide)
            have y5 := eight_cell hA.2.2.1 5 (by decide)
            have y6 := eight_cell hA.2.2.1 6 (by decide)
            have y7 := eight_cell hA.2.2.1 7 (by decide)
            clear hA
            have heq := neq_eight f
            rw [HF0.out] at x0
            have g1 : ((d : Int) != (j : Int) - 1) = false := by have := HK.out; simp; omega
            go_upto_region 27 with fail
            clear heq x0 x1 x2 x3 x4 x5 x6 x7 x8 x9 y0 y1 y2 y3 y4 y5 y6 y7 g1
            have hj1 : (1 : Int) ≤ j := by have := HK.out; omega
            go_wp2_with fail
            go_loopw [14] (fun i wr => QRel w g d j i wr) (fun i _ => (intOf i + 1).toNat)
            case atStart => exact ⟨d, Nat.le_refl _, by have := HK.out; congr 1; omega, HA.out.1, HA.out.2.1⟩
            case round =>
              clear HA HF0
              obtain ⟨n, hn, rfl, hs, ho⟩ := hrel
              have HS := Lib.hid hs
              have HO := Lib.hid ho
              clear hs ho
              rcases n with _ | n
              · have HS0 : Hid (IsS wr g [] j) := Lib.hid HS.out
                clear HS
                go_wp2_with (first | (go_at_call 18; refine (depth_is HS0.out).mono ?_; rintro e w4 ⟨rfl, rfl⟩))
                go_ret
                exact ⟨rfl, HO.out⟩
              · rw [show (((n + 1 : Nat) : Int) - 1) = (n : Int) from by omega]
                have HS1 : Hid (IsS wr g (pl n ++ [newF (n : Int) [10, 20]]) j) := Lib.hid (by rw [← pl_succ]; exact HS.out)
                clear HS
                go_upto_region 31 with (go_at_call 11; refine (pop_some HS1.out).mono ?_; rintro e w4 ⟨rfl, s4, o4⟩)
                refine at_world (R := fun W => IsS W g (pl n) j ∧ Off [] w W ∧ Blk W w4.heap.size 37 (frL (newF (n : Int) [10, 20])).toArray) ⟨s4.off0 ((Off.refl _ _).alloc _), (off_step HO.out o4 hg).alloc _, Blk.new _ _ _⟩ ?_
                generalize w4.heap.size = b15 at *
                clear HS1 HO s4 o4
                rintro W4 hA
                have HA := Lib.hid hA
                obtain ⟨-, x0, x1, x2, x3, x4, x5, x6, x7, x8, x9⟩ := ten_cells hA.2.2
                clear hA
                have heq := neq_eight (newF (n : Int) [10, 20])
                have hn15 : (n : Int) < 16 := by omega
                simp only [newF, eightV, List.getD_cons_zero, List.getD_cons_succ, List.getD_nil, reduceIte, Nat.reduceEqDiff, Nat.reduceSub] at x0 x1 x2 x3 x4 x5 x6 x7 x8 x9 heq
                go_wp2_with fail
                go_roundw
                case rel => exact ⟨n, by omega, rfl, HA.out.1, HA.out.2.1⟩
                case measure => simp [intOf]

theorem regs_law (a : Option Addr) (len cap : Nat) (x y : Nat → Int) (deep : Int) (w : World) (hr : IsRowP w a len cap .i8 x y) (hd : (Lit.int .u8 deep).wf = true) :
    Calls Try.prog 6 #[.slice a len cap, .int .u8 deep] w fun e w' => e = .returned (.bool true) ∧ Below w.heap.size w w' := by
  have hmin : IntKind.u8.min = 0 := rfl
  have hmax : IntKind.u8.max = 255 := rfl
  simp only [Lit.wf, Bool.and_eq_true, decide_eq_true_eq] at hd
  obtain ⟨n, rfl⟩ := Int.eq_ofNat_of_zero_le (show 0 ≤ deep by omega)
  exact (regs_walk a len cap x y n (by omega) w hr).mono fun _ _ h => ⟨h.1, h.2.nil_below⟩

end Go.Proofs.Ytkccnijnipkjnaa.Frm
