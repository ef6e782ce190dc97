/- Stage 7: the laws over the program's own judge, their arguments as they come in. -/
import Derived.Test.YtfgkjfneeggbjaaJgH
import Derived.Test.YtfgkjfneeggbjaaOpenE
namespace Go.Proofs.Ytfgkjfneeggbjaa.Jud
open Go.RowKit Mem Go.Proofs.Ytfgkjfneeggbjaa.Mod Go.Proofs.Ytfgkjfneeggbjaa.Plan Go.Proofs.Ytfgkjfneeggbjaa.Open

theorem first_law (P C M : Int) (v : Value) (L : List Ev) (cut : Int) (w : World) (hv : RdE w v L) (hwf : ∀ e ∈ L, e.wf) (hcap : ∀ a l c, v = .slice a l c → c ≤ 9223372036854775807) (hc : (Lit.int .u8 cut).wf = true) :
    Calls Try.prog 3 #[.agg #[.int .i64 P, .int .i64 C, .int .i64 M], v, .int .u8 cut] w fun e w' => e = .returned (.bool true) ∧ Below w.heap.size w w' := by
  obtain ⟨k, rfl, hk⟩ := u8_nat hc
  exact (first_walk con_judge P C M v L k hk w hv hwf hcap).mono fun _ _ h => ⟨h.1, h.2.nil_below⟩
theorem kills_law (P C M : Int) (v : Value) (L : List Ev) (n m : Int) (w : World) (hv : RdE w v L) (hwf : ∀ e ∈ L, e.wf) (hcap : ∀ a l c, v = .slice a l c → c ≤ 9223372036854775807) (hn : (Lit.int .u8 n).wf = true) (hm : (Lit.int .u8 m).wf = true) :
    Calls Try.prog 5 #[.agg #[.int .i64 P, .int .i64 C, .int .i64 M], v, .agg #[.int .u8 n, .int .u8 m]] w fun e w' => e = .returned (.bool true) ∧ Below w.heap.size w w' := by
  obtain ⟨k, rfl, hk⟩ := u8_nat hn
  obtain ⟨j, rfl, hj⟩ := u8_nat hm
  exact (kills_walk con_judge P C M v L k j hk hj w hv hwf hcap).mono fun _ _ h => ⟨h.1, h.2.nil_below⟩

end Go.Proofs.Ytfgkjfneeggbjaa.Jud
