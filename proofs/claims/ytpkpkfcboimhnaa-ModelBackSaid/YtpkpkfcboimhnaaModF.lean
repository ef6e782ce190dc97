/- ModelRoom: the walk, over the contracts of the program's model. -/
import Derived.Test.YtpkpkfcboimhnaaModE
import Derived.Test.YtpkpkfcboimhnaaOpenT
import Derived.StillTailTactics
namespace Go.Proofs.Ytpkpkfcboimhnaa.Mod
open Go.RowKit Mem Go.Proofs.Ytpkpkfcboimhnaa.Open

def FillRel (I : Hold) (w : World) (g : Nat) (W : Int) (len : Nat) (i : Value) (wr : World) : Prop := ∃ (j : Nat) (l : List Bk) (F : List Nat), j ≤ len ∧ i = .int .i64 j ∧ Live I w g F W l wr
def FindRel (I : Hold) (w : World) (g : Nat) (l : List Bk) (K : Int) (got i : Value) (wr : World) : Prop :=
  ∃ a : Nat, a ≤ 50 ∧ i = .int .i64 a ∧ ((got = .int .i64 (-1) ∧ (∀ b : Nat, b < a → canB 50 l b K = false) ∧ ∃ F, Live I w g F 50 l wr) ∨
    (∃ b : Nat, b < 50 ∧ got = .int .i64 b ∧ canB 50 l b K = true ∧ ∃ F, Live I w g F 50 (ins l b K) wr))

theorem Live.ok {I : Hold} (C : Con I) {w w1 : World} {g : Nat} {F : List Nat} {W : Int} {l : List Bk} (h : Live I w g F W l w1) : Ok W l := (C.ok h.i).1

set_option maxRecDepth 100000 in
set_option maxHeartbeats 8000000 in
theorem room_walk {I : Hold} (C : Con I) (a : Option Addr) (len cap : Nat) (z : Nat → Tri) (n : Nat) (hn : n < 256) (w : World) (hr : IsRowT w a len cap z) :
    Calls Try.prog 6 #[.slice a len cap, .int .u8 n] w fun e w' => e = .returned (.bool true) ∧ Off [] w w' := by
  have HC := Lib.hid C
  have HR := Lib.hid hr
  clear C hr
  obtain ⟨X, hX, hX50⟩ : ∃ X : Nat, (n : Int) % 50 = X ∧ X < 50 := ⟨n % 50, by omega, by omega⟩
  by_cases hlen : 40 < len
  · have hl1 : decide (40 < len) = true := by simpa using hlen
    clear hX
    go_enter Try.func6, Try.ntmps6
    go_wp2_with (go_at_call 7; refine (awake_any HC.out _).mono ?_; rintro e w1 ⟨rfl, o1⟩)
    go_ret
    exact ⟨rfl, o1⟩
  · have hl0 : decide (40 < len) = false := by simpa using hlen
    go_enter Try.func6, Try.ntmps6
    go_upto_region 7 with (first | (go_at_call 7; refine (awake_any HC.out _).mono ?_; rintro e w1 ⟨rfl, o1⟩; have O1 := Lib.hid o1; clear o1) | (go_at_call 8; refine (HC.out.new 50 _).mono ?_; rintro e w2 ⟨g, F, rfl, hi, ho, hf⟩; have L1 : Hid (Live I w g F 50 [] w2) := Lib.hid ⟨hi, O1.out.trans ho, fun k hk => Nat.le_trans O1.out.size (hf k hk)⟩; clear hi ho hf))
    obtain ⟨K, hK⟩ : ∃ K, K = X + 1 := ⟨_, rfl⟩
    rw [show 1 + (X : Int) = (K : Int) from by omega]
    have hK1 : 1 ≤ K := by omega
    have hK50 : K ≤ 50 := by omega
    clear hK hX hX50
    go_wp2_with fail
    go_loopw [7] (fun i wr => FillRel I w g 50 len i wr) (fun i _ => len - (intOf i).toNat)
    case atStart => exact ⟨0, [], F, Nat.zero_le _, rfl, L1.out⟩
    case round =>
      clear L1
      obtain ⟨j, l, F, hj, rfl, hl⟩ := hrel
      have HL := Lib.hid hl
      clear hl
      by_cases hlt : j < len
      · have dlt : (j : Int) < (len : Int) := by omega
        obtain ⟨b, off, rfl, hbl, hcap, hmax, hcell⟩ := HR.out.some_ (by omega)
        obtain ⟨-, hzc⟩ := hcell j hlt
        have hmem : ∀ i u, (z j).cells[i]? = some u → wr.cell? ⟨b, off + j * 3 + i, none⟩ = some u := fun i u hu => by rw [HL.out.off.cell hbl (by simp)]; exact hzc i u hu
        have c1 := hmem 1 _ rfl
        have c2 := hmem 2 _ rfl
        clear hcell hzc hmem
        generalize z j = d at *
        go_upto_region 12 with fail
        go_still_tail 11, (by kernel_rfl)
        go_wp2_with (go_at_call 10; refine (con_take HC.out (HC.out.off0 HL.out (Off.refl _ _).drew) _ _).mono ?_; rintro e w3 ⟨rfl, F3, h3⟩)
        go_roundw
        case rel => exact ⟨j + 1, _, F3, by omega, by go_num, h3⟩
        case measure => simp [intOf]; omega
      · obtain rfl : j = len := by omega
        clear hlt hj
        obtain ⟨R, hR⟩ : ∃ R, roomB 50 l K = R := ⟨_, rfl⟩
        have HRm := Lib.hid hR
        obtain ⟨u, hu⟩ : ∃ u, used l = u := ⟨_, rfl⟩
        have HU := Lib.hid hu
        clear hR hu
        go_upto_region 15 with (first | (go_at_call 18; refine (HC.out.room HL.out.i _).mono ?_; rintro e w4 ⟨rfl, o4⟩; have L4 := Lib.hid (HC.out.off0 HL.out o4); clear o4) | (go_at_call 20; refine (HC.out.used L4.out.i).mono ?_; rintro e w5 ⟨rfl, o5⟩; have L5 := Lib.hid (HC.out.off0 L4.out o5); clear o5))
        rw [HRm.out, HU.out]
        have HOK := Lib.hid (L5.out.ok HC.out)
        go_wp2_with fail
        go_loopw [10, 11] (fun got i wr => FindRel I w g l K got i wr) (fun _ i _ => 50 - (intOf i).toNat)
        case atStart => exact ⟨0, Nat.zero_le _, rfl, .inl ⟨rfl, fun b hb => by omega, F, L5.out⟩⟩
        case round =>
          clear HL L4 L5
          obtain ⟨t, ht, rfl, hq⟩ := hrel
          rcases hq with ⟨rfl, hno, F2, h2⟩ | ⟨got, hg50, rfl, hyes, F2, h2⟩
          · have HNO := Lib.hid hno
            have H2 := Lib.hid h2
            clear hno h2
            by_cases ht50 : t < 50
            · have dt : (t : Int) < 50 := by omega
              obtain ⟨B, hB⟩ : ∃ B, canB 50 l t K = B := ⟨_, rfl⟩
              have HB := Lib.hid hB
              clear hB
              cases B with
              | true =>
                have T1 : Hid (∀ w1, Live I w g F2 50 l w1 → Calls Try.prog 10 #[.pointer (some ⟨g, 0, none⟩), .int .i64 t, .int .i64 K] w1 (LivePost I w g 50 true (ins l t K))) := Lib.hid (fun w1 h => by
                  have := con_take HC.out h t K
                  rwa [takeL_yes HB.out, HB.out] at this)
                go_wp2_with (go_at_call 10; refine (T1.out _ H2.out).mono ?_; rintro e w6 ⟨rfl, F6, h6⟩)
                go_roundw
                case rel => exact ⟨t + 1, by omega, by go_num, .inr ⟨t, ht50, rfl, HB.out, F6, h6⟩⟩
                case measure => simp [intOf]; omega
              | false =>
                have T1 : Hid (∀ w1, Live I w g F2 50 l w1 → Calls Try.prog 10 #[.pointer (some ⟨g, 0, none⟩), .int .i64 t, .int .i64 K] w1 (LivePost I w g 50 false l)) := Lib.hid (fun w1 h => by
                  have := con_take HC.out h t K
                  rwa [takeL_no HB.out, HB.out] at this)
                go_wp2_with (go_at_call 10; refine (T1.out _ H2.out).mono ?_; rintro e w6 ⟨rfl, F6, h6⟩)
                go_roundw
                case rel => exact ⟨t + 1, by omega, by go_num, .inl ⟨rfl, fun b hb => by rcases Nat.lt_or_ge b t with h7 | h7; exact HNO.out b h7; rw [show b = t from by omega]; exact HB.out, F6, h6⟩⟩
                case measure => simp [intOf]; omega
            · obtain rfl : t = 50 := by omega
              have hRf : R = false := by
                cases R with
                | false => rfl
                | true =>
                  exfalso
                  obtain ⟨p, hp⟩ := (roomB_iff HOK.out).1 HRm.out
                  have hb := (canB_iff.1 hp).1
                  have h9 := HNO.out p.toNat (by omega)
                  rw [show ((p.toNat : Nat) : Int) = p from by omega, hp] at h9
                  cases h9
              subst hRf
              have U1 : Hid (∀ w1, Live I w g F2 50 l w1 → Calls Try.prog 20 #[.pointer (some ⟨g, 0, none⟩)] w1 fun e w' => e = .returned (.int .i64 u) ∧ Off [] w1 w') := Lib.hid (fun w1 h => by
                have := HC.out.used h.i
                rwa [HU.out] at this)
              go_wp2_with (go_at_call 20; refine (U1.out _ H2.out).mono ?_; rintro e w7 ⟨rfl, o7⟩)
              go_ret
              exact ⟨rfl, H2.out.off.trans o7⟩
          · have H2 := Lib.hid h2
            have HY := Lib.hid hyes
            clear h2 hyes
            have hRt : R = true := by
              rw [← HRm.out]
              exact (roomB_iff HOK.out).2 ⟨_, HY.out⟩
            subst hRt
            have hok2 := ins_ok HOK.out HY.out
            have A1 : Hid (∀ w1, Live I w g F2 50 (ins l got K) w1 → Calls Try.prog 14 #[.pointer (some ⟨g, 0, none⟩), .int .i64 got] w1 fun e w' => e = .returned (.tuple #[.agg #[.int .i64 got, .int .i64 K], .bool true]) ∧ Off [] w1 w') := Lib.hid (fun w1 h => by
              have := HC.out.at_ h.i got
              rwa [show atF (ins l got K) got = some ⟨got, K⟩ from atF_some hok2 (b := ⟨got, K⟩) ((mem_ins _).2 (.inl rfl))] at this)
            have U1 : Hid (∀ w1, Live I w g F2 50 (ins l got K) w1 → Calls Try.prog 20 #[.pointer (some ⟨g, 0, none⟩)] w1 fun e w' => e = .returned (.int .i64 (u + K)) ∧ Off [] w1 w') := Lib.hid (fun w1 h => by
              have := HC.out.used h.i
              rwa [used_ins, HU.out] at this)
            have G1 : Hid (∀ w1, Live I w g F2 50 (ins l got K) w1 → Calls Try.prog 12 #[.pointer (some ⟨g, 0, none⟩), .int .i64 got] w1 (LivePost I w g 50 true l)) := Lib.hid (fun w1 h => by
              have := con_give HC.out h got
              rwa [give_ins HOK.out HY.out, show giveB (ins l got K) got = true from giveB_iff.2 ⟨⟨got, K⟩, (mem_ins _).2 (.inl rfl), rfl⟩] at this)
            have U2 : Hid (∀ w1 F9, Live I w g F9 50 l w1 → Calls Try.prog 20 #[.pointer (some ⟨g, 0, none⟩)] w1 fun e w' => e = .returned (.int .i64 u) ∧ Off [] w1 w') := Lib.hid (fun w1 F9 h => by
              have := HC.out.used h.i
              rwa [HU.out] at this)
            have R2 : Hid (∀ w1 F9, Live I w g F9 50 l w1 → Calls Try.prog 18 #[.pointer (some ⟨g, 0, none⟩), .int .i64 K] w1 fun e w' => e = .returned (.bool true) ∧ Off [] w1 w') := Lib.hid (fun w1 F9 h => by
              have := HC.out.room h.i K
              rwa [HRm.out] at this)
            have hu0 : 0 ≤ u := by rw [← HU.out]; exact used_nonneg HOK.out
            have hu1 : u ≤ 50 := by rw [← HU.out]; have := used_le 0 HOK.out (fun b hb => (HOK.out.each b hb).1) (by decide); omega
            clear hok2
            have dg : ¬ ((got : Int) < 0) := by omega
            go_wp2_with (first | (go_at_call 14; refine (A1.out _ H2.out).mono ?_; rintro e w6 ⟨rfl, o6⟩; have L6 := Lib.hid (HC.out.off0 (HC.out.off0 H2.out o6) ((Off.refl _ _).alloc (.cells #[.int .i64 got, .int .i64 K] 33))); clear o6) | (go_at_call 20; ((with_reducible refine (U1.out _ L6.out).mono ?_); rintro e w7 ⟨rfl, o7⟩; have L7 := Lib.hid (HC.out.off0 L6.out o7); clear o7)) | (go_at_call 12; refine (G1.out _ L7.out).mono ?_; rintro e w8 ⟨rfl, F8, h8⟩; have L8 := Lib.hid h8; clear h8) | (go_at_call 20; ((with_reducible refine (U2.out _ _ L8.out).mono ?_); rintro e w9 ⟨rfl, o9⟩; have L9 := Lib.hid (HC.out.off0 L8.out o9); clear o9)) | (go_at_call 18; refine (R2.out _ _ L9.out).mono ?_; rintro e w10 ⟨rfl, o10⟩))
            all_goals
              go_ret
              exact ⟨rfl, L9.out.off.trans o10⟩

end Go.Proofs.Ytpkpkfcboimhnaa.Mod
