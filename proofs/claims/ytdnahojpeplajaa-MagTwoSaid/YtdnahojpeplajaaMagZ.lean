/- Stage 8: the laws over the program's own machines, their arguments as they come in. -/
import Derived.Test.YtdnahojpeplajaaMgF
import Derived.Test.YtdnahojpeplajaaMagB
import Derived.Test.YtdnahojpeplajaaMagT
import Derived.Test.YtdnahojpeplajaaOpenF
namespace Go.Proofs.Ytdnahojpeplajaa.Mag
open Go.RowKit Mem Go.Proofs.Ytdnahojpeplajaa.Words Go.Proofs.Ytdnahojpeplajaa.Plan Go.Proofs.Ytdnahojpeplajaa.Pack Go.Proofs.Ytdnahojpeplajaa.Open

theorem awake_is : AwakeIs := fun w => awake_mag con_taker w
theorem known_law (w : World) : Calls Try.prog 3 #[] w fun e w' => e = .returned (.bool true) ∧ Below w.heap.size w w' :=
  (known_walk con_taker con_putter awake_is w).mono fun _ _ h => ⟨h.1, h.2.nil_below⟩
theorem takes_law (P C M : Int) (a : Option Addr) (len cap : Nat) (z : Nat → Int) (n0 n1 : Int) (w : World) (hrow : IsRowU w a len cap z) (_h0 : (Lit.int .i64 n0).wf = true) (_h1 : (Lit.int .i64 n1).wf = true) :
    Calls Try.prog 4 #[.agg #[.int .i64 P, .int .i64 C, .int .i64 M], .slice a len cap, .agg #[.int .i64 n0, .int .i64 n1]] w fun e w' => e = .returned (.bool true) ∧ Below w.heap.size w w' :=
  takes_walk con_taker awake_is P C M a len cap z n0 n1 w hrow
set_option maxRecDepth 100000 in
set_option maxHeartbeats 4000000 in
theorem most_walk (x : Int) (a : Option Addr) (len cap : Nat) (z : Nat → Int) (b : Option Addr) (len2 cap2 : Nat) (z2 : Nat → Int) (w : World) (hx : (Lit.int .u8 x).wf = true) (hr1 : IsRow8 w a len cap z) (hr2 : IsRow8 w b len2 cap2 z2) :
    Calls Try.prog 5 #[.int .u8 x, .slice a len cap, .slice b len2 cap2] w fun e w' => e = .returned (.bool true) ∧ Below w.heap.size w w' := by
  obtain ⟨h0, h1⟩ := u8_of_wf hx
  have HR1 := Lib.hid hr1
  have HR2 := Lib.hid hr2
  obtain ⟨n, rfl⟩ : ∃ n : Nat, x = (n : Int) := ⟨x.toNat, by omega⟩
  have hn : n % 9 ≤ 8 := by omega
  clear hr1 hr2 hx
  go_enter Try.func5, Try.ntmps5
  go_wp2_with (first | (go_at_call 7; refine (awake_is _).mono ?_; rintro e w1 ⟨rfl, o1⟩) | (go_at_call 26; refine (both_walk con_taker con_putter awake_is (n % 9) hn a len cap z b len2 cap2 z2 _ (HR1.out.off o1) (HR2.out.off o1)).mono ?_; rintro e w2 ⟨rfl, o2⟩))
  go_ret
  exact ⟨rfl, (o1.trans o2).nil_below⟩
end Go.Proofs.Ytdnahojpeplajaa.Mag
