/- The document's own words of entries (allotmentref1): made, read: a contract each. -/
import Derived.Test.YtdnahojpeplajaaPlanC
import Derived.Test.YtdnahojpeplajaaPackE
import Derived.Deep.QuietTactic
import Derived.Deep.RegionHeld3
namespace Go.Proofs.Ytdnahojpeplajaa.Pack
open Go.RowKit Mem Go.Proofs.Ytdnahojpeplajaa.Plan
set_option maxRecDepth 100000
set_option maxHeartbeats 4000000

theorem rbyte_any (x : Int) (w : World) :
    Calls Try.prog 29 #[.int .i64 x] w fun e w' => e = .returned (.bool (decide (0 ≤ x ∧ x ≤ 255))) ∧ w = w' := by
  by_cases h0 : 0 ≤ x
  · by_cases h1 : x ≤ 255
    · have d0 : decide (0 ≤ x) = true := by simpa using h0
      have d1 : decide (x ≤ 255) = true := by simpa using h1
      rw [decide_eq_true ⟨h0, h1⟩]
      clear h0 h1
      go_enter Try.func29, Try.ntmps29
      go_wp2
      go_ret
      exact ⟨rfl, rfl⟩
    · have d0 : decide (0 ≤ x) = true := by simpa using h0
      have d1 : decide (x ≤ 255) = false := by simpa using h1
      rw [decide_eq_false (fun h => h1 h.2)]
      clear h0 h1
      go_enter Try.func29, Try.ntmps29
      go_wp2
      go_ret
      exact ⟨rfl, rfl⟩
  · have d0 : decide (0 ≤ x) = false := by simpa using h0
    rw [decide_eq_false (fun h => h0 h.1)]
    clear h0
    go_enter Try.func29, Try.ntmps29
    go_wp2
    go_ret
    exact ⟨rfl, rfl⟩

theorem fit3_iff {a b c : Int} : isEntryB 1 a b c = true ↔ (0 ≤ a ∧ a ≤ 255) ∧ (0 ≤ b ∧ b ≤ 255) ∧ 0 ≤ c ∧ c ≤ 255 := by
  unfold isEntryB
  rw [if_pos rfl, fit_iff]
  constructor
  · rintro ⟨⟨⟨h1, h2⟩, h3⟩, ⟨⟨h4, h5⟩, h6⟩, ⟨h7, h8⟩, h9⟩
    omega
  · intro h
    omega

theorem rputEntry_any (a b c : Int) (w : World) :
    Calls Try.prog 9 #[.agg #[.int .i64 a, .int .i64 b, .int .i64 c]] w fun e w' => e = .returned (.int .u64 (entryW a b c)) ∧ Off [] w w' := by
  by_cases ha : 0 ≤ a ∧ a ≤ 255
  · by_cases hb : 0 ≤ b ∧ b ≤ 255
    · by_cases hc : 0 ≤ c ∧ c ≤ 255
      · have he : entryW a b c = 1 + a * 16 + b * 4096 + c * 1048576 := by
          unfold entryW
          rw [if_pos (fit3_iff.2 ⟨ha, hb, hc⟩)]
          unfold wordI
          omega
        rw [he]
        have HA := Lib.hid (decide_eq_true ha)
        have HB := Lib.hid (decide_eq_true hb)
        have HC := Lib.hid (decide_eq_true hc)
        have o1 : bits .or .u64 1 (a * 16) = 1 + a * 16 := or4 (by omega) (by omega) ha.1 (by omega)
        have o2 : bits .or .u64 (1 + a * 16) (b * 4096) = 1 + a * 16 + b * 4096 := or12 (by omega) (by omega) hb.1 (by omega)
        have o3 : bits .or .u64 (1 + a * 16 + b * 4096) (c * 1048576) = 1 + a * 16 + b * 4096 + c * 1048576 := or20 (by omega) (by omega) hc.1 (by omega)
        have wa : IntKind.u64.wrap a = a := wraps_u64 _ ha.1 (by omega)
        have wb : IntKind.u64.wrap b = b := wraps_u64 _ hb.1 (by omega)
        have wc : IntKind.u64.wrap c = c := wraps_u64 _ hc.1 (by omega)
        have wa2 : IntKind.u64.wrap (a * 16) = a * 16 := wraps_u64 _ (by omega) (by omega)
        have wb2 : IntKind.u64.wrap (b * 4096) = b * 4096 := wraps_u64 _ (by omega) (by omega)
        have wc2 : IntKind.u64.wrap (c * 1048576) = c * 1048576 := wraps_u64 _ (by omega) (by omega)
        clear ha hb hc he
        go_enter Try.func9, Try.ntmps9
        go_wp2_with (go_at_call 29; refine (rbyte_any _ _).mono ?_; rintro e w' ⟨rfl, rfl⟩; first | rw [HA.out] | rw [HB.out] | rw [HC.out])
        go_ret
        exact ⟨rfl, (Off.refl _ _).alloc _⟩
      · have he : entryW a b c = 0 := by unfold entryW; rw [if_neg (fun h => hc (fit3_iff.1 h).2.2)]
        rw [he]
        have HA := Lib.hid (decide_eq_true ha)
        have HB := Lib.hid (decide_eq_true hb)
        have HC := Lib.hid (decide_eq_false hc)
        clear ha hb hc he
        go_enter Try.func9, Try.ntmps9
        go_wp2_with (go_at_call 29; refine (rbyte_any _ _).mono ?_; rintro e w' ⟨rfl, rfl⟩; first | rw [HA.out] | rw [HB.out] | rw [HC.out])
        go_ret
        exact ⟨rfl, (Off.refl _ _).alloc _⟩
    · have he : entryW a b c = 0 := by unfold entryW; rw [if_neg (fun h => hb (fit3_iff.1 h).2.1)]
      rw [he]
      have HA := Lib.hid (decide_eq_true ha)
      have HB := Lib.hid (decide_eq_false hb)
      clear ha hb he
      go_enter Try.func9, Try.ntmps9
      go_wp2_with (go_at_call 29; refine (rbyte_any _ _).mono ?_; rintro e w' ⟨rfl, rfl⟩; first | rw [HA.out] | rw [HB.out])
      go_ret
      exact ⟨rfl, (Off.refl _ _).alloc _⟩
  · have he : entryW a b c = 0 := by unfold entryW; rw [if_neg (fun h => ha (fit3_iff.1 h).1)]
    rw [he]
    have HA := Lib.hid (decide_eq_false ha)
    clear ha he
    go_enter Try.func9, Try.ntmps9
    go_wp2_with (go_at_call 29; refine (rbyte_any _ _).mono ?_; rintro e w' ⟨rfl, rfl⟩; rw [HA.out])
    go_ret
    exact ⟨rfl, (Off.refl _ _).alloc _⟩

end Go.Proofs.Ytdnahojpeplajaa.Pack
