/- FrameKeeps: the walk. -/
import Derived.Test.YtkccnijnipkjnaaFrmF
import Derived.Test.YtkccnijnipkjnaaOpenI
namespace Go.Proofs.Ytkccnijnipkjnaa.Frm
open Go.RowKit Mem Go.Proofs.Ytkccnijnipkjnaa.Open

/-- The frame that is pushed for l[i], as it is when all is set. -/
def frm (z : Nat → Int) (i : Nat) : Nat → Int := upd (upd (newF (i : Int) [z i, wrap64 (z i + 1)]) 1 ((i : Int) * 3)) (2 + 7) (wrap64 (-z i))
def kl (z : Nat → Int) (k : Nat) : List (Nat → Int) := (List.range k).map (frm z)
theorem kl_len (z : Nat → Int) (k : Nat) : (kl z k).length = k := by simp [kl]
theorem kl_succ (z : Nat → Int) (k : Nat) : kl z (k + 1) = kl z k ++ [frm z k] := by simp [kl, List.range_succ]

def KRel (w : World) (g : Nat) (z : Nat → Int) (K : Nat) (i : Value) (wr : World) : Prop := ∃ j : Nat, j ≤ K ∧ i = .int .i64 j ∧ IsS wr g (kl z j) 16 ∧ Off [] w wr

theorem wrap_64 (n : Int) : IntKind.i64.wrap n = wrap64 n := by rw [IntKind.wrap_i64]; unfold wrap64; rfl
def KBack (w : World) (g : Nat) (z : Nat → Int) (K : Nat) (i : Value) (wr : World) : Prop := ∃ n : Nat, n ≤ K ∧ i = .int .i64 ((n : Int) - 1) ∧ IsS wr g (kl z n) 16 ∧ Off [] w wr

set_option maxRecDepth 100000 in
set_option maxHeartbeats 4000000 in
theorem keeps_walk (a : Option Addr) (len cap : Nat) (z : Nat → Int) (w : World) (hr : IsRowI w a len cap z) :
    Calls Try.prog 4 #[.slice a len cap] w fun e w' => e = .returned (.bool true) ∧ Off [] w w' := by
  have HR := Lib.hid hr
  clear hr
  go_enter Try.func4, Try.ntmps4
  go_upto_region 6 with (first | (go_at_call 7; refine (awake_any _).mono ?_; rintro e w1 ⟨rfl, o1⟩) | (go_at_call 8; refine (new_in 16 (by decide) _).mono ?_; rintro e w2 ⟨rfl, s2, o2⟩))
  have hg : w.heap.size ≤ w1.heap.size := o1.size
  generalize w1.heap.size = g at *
  have O2 := Lib.hid (o1.trans o2)
  have S2 := Lib.hid s2
  clear o1 o2 s2
  obtain ⟨K, hK⟩ : ∃ K, K = min len 16 := ⟨_, rfl⟩
  have HK := Lib.hid hK
  clear hK
  go_cut [4] (fun v wx => wx = w2 ∧ v = .int .i64 (K : Int))
  case first =>
    go_wp2_with fail
    all_goals
      go_meet
      case rel => exact ⟨rfl, by have := HK.out; congr 1; omega⟩
  case rest =>
    obtain ⟨rfl, rfl⟩ := hcut
    have hK16 : K ≤ 16 := by have := HK.out; omega
    have hKl : K ≤ len := by have := HK.out; omega
    go_wp2_with fail
    go_loopw [5] (fun i wr => KRel w g z K i wr) (fun i _ => K - (intOf i).toNat)
    case atStart => exact ⟨0, Nat.zero_le _, rfl, S2.out, O2.out⟩
    case round =>
      obtain ⟨j, hj, rfl, hs, ho⟩ := hrel
      have HS := Lib.hid hs
      have HO := Lib.hid ho
      clear hs ho
      by_cases hlt : j < K
      · have dlt : (j : Int) < (K : Int) := by omega
        obtain ⟨b, off, rfl, hb, hcap, hmax, hcell⟩ := HR.out.some_ (by omega)
        have cj : wr.cell? ⟨b, off + j, none⟩ = some (.int .i64 (z j)) := by rw [HO.out.cell hb (by simp)]; exact hcell j (by omega)
        have hjl : (j : Int) < (len : Int) := by omega
        have HC := Lib.hid hcell
        clear hcell
        go_upto_region 10 with fail
        go_still_tail 9, (by kernel_rfl)
        go_upto_region 11 with fail
        refine at_world (R := fun W => IsS W g (kl z j) 16 ∧ Off [] w W ∧ Blk W wr.heap.size 2 #[.int .i64 (z j), .int .i64 (wrap64 (z j + 1))]) ⟨HS.out.off0 ((Off.refl _ _).alloc _).drew, (HO.out.alloc _).drew, ⟨(Blk.new _ _ _).eq⟩⟩ ?_
        have hgb : g < wr.heap.size := HS.out.lt
        have hwb : w.heap.size ≤ wr.heap.size := HO.out.size
        generalize wr.heap.size = b1 at *
        clear cj HS HO
        rintro W hA
        have HA := Lib.hid hA
        clear hA
        have hgb' : ¬ g = b1 := by omega
        have hj3 : (j : Int) < 16 := by omega
        go_wp2_with (first | (go_at_call 9; refine (push_ok (L := [z j, wrap64 (z j + 1)]) HA.out.1 (by rw [kl_len]; omega) (j : Int) (Reads.of_blk (t := 2) (c := 2) [z j, wrap64 (z j + 1)] HA.out.2.2) (by simp)).mono ?_; rintro e w3 ⟨rfl, s3, o3⟩; have S3 := Lib.hid s3; have O3 := Lib.hid (off_step HA.out.2.1 o3 hg); have B3 := Lib.hid (o3.blk HA.out.2.2 (by simp; omega)); have c99 := B3.out.cell 0; have f99 := B3.out.free 0; clear s3 o3) | (go_at_call 13; refine (go_some (S3.out.off ((Off.refl [b1] _).set (.inl (by simp)) _) (by simp; omega)) _).mono ?_; rintro e w4 ⟨rfl, s4, o4⟩; have S4 := Lib.hid s4; have O4 := Lib.hid (off_step (O3.out.set (.inr hwb) _) o4 hg); have cj : w4.cell? ⟨b, off + j, none⟩ = some (.int .i64 (z j)) := (by rw [O4.out.cell hb (by simp)]; exact HC.out j (by omega)); clear s4 o4) | (go_at_call 14; refine (set_in S4.out 7 (by decide) _).mono ?_; rintro e w5 ⟨rfl, s5, o5⟩; have S5 := Lib.hid s5; have O5 := Lib.hid (off_step O4.out o5 hg); clear s5 o5))
        go_roundw
        case rel => exact ⟨j + 1, by omega, by go_num, by rw [kl_succ]; exact S5.out, O5.out⟩
        case measure => simp [intOf]; omega
      · obtain rfl : j = K := by omega
        clear S2 O2 hj
        go_wp2_with fail
        go_loopw [7] (fun i wr => KBack w g z j i wr) (fun i _ => (intOf i + 1).toNat)
        case atStart => exact ⟨j, Nat.le_refl _, rfl, HS.out, HO.out⟩
        case round =>
          clear HS HO hlt
          obtain ⟨n, hn, rfl, hs, ho⟩ := hrel
          have HS := Lib.hid hs
          have HO := Lib.hid ho
          clear hs ho
          rcases n with _ | n
          · have HS0 : Hid (IsS wr g [] 16) := Lib.hid HS.out
            clear HS
            go_wp2_with (first | (go_at_call 11; refine (pop_none HS0.out).mono ?_; rintro e w3 ⟨rfl, o3⟩; have S3 := Lib.hid (HS0.out.off0 (o3.alloc (.cells (frL zeroF).toArray 37)))) | (go_at_call 18; refine (depth_is S3.out).mono ?_; rintro e w4 ⟨rfl, rfl⟩))
            go_ret
            exact ⟨rfl, (HO.out.trans o3).alloc _⟩
          · rw [show (((n + 1 : Nat) : Int) - 1) = (n : Int) from by omega]
            have HS1 : Hid (IsS wr g (kl z n ++ [frm z n]) 16) := Lib.hid (by rw [← kl_succ]; exact HS.out)
            obtain ⟨b, off, rfl, hb, hcap, hmax, hcell⟩ := HR.out.some_ (by omega)
            have HC := Lib.hid hcell
            clear hcell HS
            go_upto_region 20 with (go_at_call 11; refine (pop_some HS1.out).mono ?_; rintro e w3 ⟨rfl, s3, o3⟩)
            refine at_world (R := fun W => IsS W g (kl z n) 16 ∧ Off [] w W ∧ Blk W w3.heap.size 37 (frL (frm z n)).toArray) ⟨s3.off0 ((Off.refl _ _).alloc _), (off_step HO.out o3 hg).alloc _, Blk.new _ _ _⟩ ?_
            generalize w3.heap.size = b8 at *
            clear HS1 HO s3 o3
            rintro W hA
            have HA := Lib.hid hA
            obtain ⟨-, x0, x1, x2, x3, -, x5, -, -, -, x9⟩ := ten_cells hA.2.2
            have cn : W.cell? ⟨b, off + n, none⟩ = some (.int .i64 (z n)) := by rw [hA.2.1.cell hb (by simp)]; exact HC.out n (by omega)
            clear hA HC
            rw [show frm z n 0 = (n : Int) from rfl] at x0
            rw [show frm z n 1 = (n : Int) * 3 from rfl] at x1
            rw [show frm z n 2 = z n from rfl] at x2
            rw [show frm z n 3 = wrap64 (z n + 1) from rfl] at x3
            rw [show frm z n 5 = 0 from rfl] at x5
            rw [show frm z n 9 = wrap64 (-z n) from rfl] at x9
            have g1 : ((n : Int) * 3 != 3 * (n : Int)) = false := by simp; omega
            have g2 : IntKind.i64.wrap (z n + 1) = wrap64 (z n + 1) := wrap_64 _
            have g3 : IntKind.i64.wrap (-z n) = wrap64 (-z n) := wrap_64 _
            have hnl : (n : Int) < (len : Int) := by omega
            have hn16 : (n : Int) < 16 := by omega
            go_quiet (fail)
            go_wp2_with fail
            go_roundw
            case rel => exact ⟨n, by omega, rfl, HA.out.1.off0 ((Off.refl _ _).drewN _), HA.out.2.1.drewN _⟩
            case measure => simp [intOf]

theorem keeps_law (a : Option Addr) (len cap : Nat) (z : Nat → Int) (w : World) (hr : IsRowI w a len cap z) :
    Calls Try.prog 4 #[.slice a len cap] w fun e w' => e = .returned (.bool true) ∧ Below w.heap.size w w' :=
  (keeps_walk a len cap z w hr).mono fun _ _ h => ⟨h.1, h.2.nil_below⟩

end Go.Proofs.Ytkccnijnipkjnaa.Frm
