/- A region that draws its order, each of whose operations tells one value in every world that meets S and leaves such a world (loads, sums, calls that keep S): one order serves for all. Nothing of the program. -/
import Derived.OrdersHeld
import Derived.Deep.Draws
namespace Go.Proofs.Ytdnahojpeplajaa.Told

section
variable {P : Program} {ops : Array Oper} {Q : Exit → Act → World → Prop} {md : Region.Mode} {S : World → Prop}

/-- The world named anew. -/
theorem at_worldT {c : Code} {Q : Exit → Act → World → Prop} {a : Act} {w : World} {R : World → Prop} (h : R w) (k : ∀ W, R W → c.wp P Q a W) : c.wp P Q a w := k w h

theorem at_worldG {G : World → Prop} {w : World} {R : World → Prop} (h : R w) (k : ∀ W, R W → G W) : G w := k w h

/-- It comes to v, in a world that meets S. -/
def Ends (P : Program) (S : World → Prop) (v : Value) : Result Next → Prop
  | .ok (.value u) w' => u = v ∧ S w'
  | .ok (.enter f args) w' => Calls P f args w' fun e w'' => e = .returned v ∧ S w''
  | _ => False

def Tells (P : Program) (ops : Array Oper) (S : World → Prop) (o : Oper) (v : Value) (a : Act) : Prop :=
  (Region.wanted o (yielded ops a.tmps) = true ∧ ∀ w, S w → Ends P S v ((execOp a.eval o).run P w)) ∨
  (Region.wanted o (yielded ops a.tmps) = false ∧ v = undef)

theorem Tells.of_same {o : Oper} {v : Value} {a a' : Act} (hy : Tells P ops S o v a) (he : execOp a'.eval o = execOp a.eval o)
    (hw : Region.wanted o (yielded ops a'.tmps) = Region.wanted o (yielded ops a.tmps)) : Tells P ops S o v a' := by
  unfold Tells at *
  rw [he, hw]
  exact hy

theorem Tells.run {i : Nat} {o : Oper} {v : Value} {a : Act} (hi : ops[i]? = some o) (hy : Tells P ops S o v a)
    {K : Act → World → Prop} {w : World} (hS : S w) (h : ∀ w', S w' → K (a.put o.dst v) w') : wpOp P ops Q i K a w := by
  unfold Go.wpOp
  simp only [hi]
  rcases hy with ⟨hw, hv⟩ | ⟨hw, rfl⟩
  · simp only [hw, if_true]
    refine .inl ?_
    have h1 := hv w hS
    unfold Oper.wp
    generalize (execOp a.eval o).run P w = r at *
    cases r with
    | ok n w' =>
      cases n <;> simp only [Ends, Oper.upon] at h1 ⊢
      case value u => obtain ⟨rfl, hs⟩ := h1; exact h _ hs
      case enter f args =>
        refine Calls.mono h1 fun e w'' he => ?_
        obtain ⟨rfl, hs⟩ := he
        exact h _ hs
    | halt x w' => exact h1.elim
  · simp only [hw, Bool.false_eq_true, if_false]
    exact h w hS

/-- Told in one order. -/
inductive Told (P : Program) (md : Region.Mode) (ops : Array Oper) (S : World → Prop) (F : Act → Prop) : Nat → Array Bool → Act → Prop
  | done {n : Nat} {listed : Array Bool} {a : Act} : Region.ready md ops listed = [] → F a → Told P md ops S F n listed a
  | step {n : Nat} {listed : Array Bool} {a : Act} {i : Nat} {o : Oper} {v : Value} : ops[i]? = some o →
      (∀ j oj, ops[j]? = some oj → j ≠ i → listed.getD j true = false → (∀ e ∈ oj.after, Region.binds md e = true → e.on ≠ i) → o.apart ops oj = true) →
      i ∈ Region.ready md ops listed → Tells P ops S o v a → Told P md ops S F n (listed.setIfInBounds i true) (a.put o.dst v) → Told P md ops S F (n + 1) listed a

variable {F : Act → Prop}
theorem Told.pull (hsel : ∀ (j : Nat) (o : Oper) cs b, ops[j]? = some o → o.op ≠ .select cs b) {n : Nat} {listed : Array Bool} {a : Act} (h : Told P md ops S F n listed a) {j : Nat} (hj : j ∈ Region.ready md ops listed) :
    ∃ oj vj m, ops[j]? = some oj ∧ Tells P ops S oj vj a ∧ n = m + 1 ∧ Told P md ops S F m (listed.setIfInBounds j true) (a.put oj.dst vj) := by
  induction h with
  | done h0 _ => rw [h0] at hj; cases hj
  | @step n listed a i o v hi hfree hr hy hrest ih =>
    by_cases hji : j = i
    · subst hji; exact ⟨o, v, n, hi, hy, rfl, hrest⟩
    obtain ⟨oj, vj, m, hoj, hT, rfl, hm⟩ := ih (ready_mono hj hji)
    obtain ⟨hjun, oj', hoj', hall⟩ := mem_ready.1 hj
    rw [hoj] at hoj'
    injection hoj' with hoj'
    subst hoj'
    have hnot : ∀ e ∈ oj.after, Region.binds md e = true → e.on ≠ i := fun e he hb heq => by
      have h1 := hall e he hb
      have h0 := (mem_ready.1 hr).1
      rw [heq] at h1
      rcases Nat.lt_or_ge i listed.size with h' | h'
      · simp [h'] at h0 h1; rw [h0] at h1; cases h1
      · simp [Array.getElem?_eq_none h'] at h1
    obtain ⟨h1, h2, h3⟩ := Oper.apart_spec (hfree j oj hoj hji hjun hnot)
    have hfree' : ∀ k ok, ops[k]? = some ok → k ≠ i → (listed.setIfInBounds j true).getD k true = false →
        (∀ e ∈ ok.after, Region.binds md e = true → e.on ≠ i) → o.apart ops ok = true := fun k ok hk hki hun hno => by
      refine hfree k ok hk hki ?_ hno
      by_cases hjk : j = k
      · subst hjk; exact hjun
      · rw [getD_set_ne true hjk] at hun; exact hun
    refine ⟨oj, vj, m + 1, hoj, hT.of_same (execOp_put oj (fun cs b => hsel j oj cs b hoj) a o.dst v h1).symm (wanted_put oj a o.dst v h1).symm, rfl, ?_⟩
    refine .step hi hfree' (ready_mono hr (Ne.symm hji)) (hy.of_same (execOp_put o (fun cs b => hsel i o cs b hi) a oj.dst vj h3) (wanted_put o a oj.dst vj h3)) ?_
    rw [Array.setIfInBounds_comm _ _ hji, ← Act.put_comm a v vj h2]
    exact hm

theorem Told.any (hsel : ∀ (j : Nat) (o : Oper) cs b, ops[j]? = some o → o.op ≠ .select cs b) (hF : ∀ a, F a → ∀ w, S w → Q .normal a w) :
    ∀ (n : Nat) (listed : Array Bool) (a : Act), Told P md ops S F n listed a → ∀ w, S w → wpAny P md ops Q n listed a w := by
  intro n
  induction n with
  | zero =>
    intro listed a h w hS
    cases h with
    | done h0 hf => exact ⟨h0, hF a hf w hS⟩
  | succ n ih =>
    intro listed a h w hS
    refine ⟨fun h0 => ?_, fun j hj => ?_⟩
    · cases h with
      | done _ hf => exact hF a hf w hS
      | step _ _ hr _ _ => rw [h0] at hr; cases hr
    · obtain ⟨oj, vj, m, hoj, hT, hn, hm⟩ := h.pull hsel hj
      injection hn with hn
      subst hn
      exact hT.run hoj hS (fun w' hs => ih _ _ hm w' hs)

/-- THE BEGINNING. -/
theorem told_region {id : Nat} {a : Act} {w : World} (hm : P.follows .mixedOrders = true) (hs : Region.noSelect ops = true) (hS : S w.drew)
    (h : Told P .any ops S (fun a => ∀ w, S w → Q .normal a w) ops.size (Array.replicate ops.size false) a) : (Code.region id ops true).wp P Q a w :=
  wp_region_any hm (Told.any (Region.noSelect_spec hs) (fun _ h => h) _ _ _ h _ hS)

/-- One that yields its value in every world that meets S (or is passed by). -/
theorem told_take {i : Nat} {o : Oper} {v : Value} {n : Nat} {listed : Array Bool} {a : Act} (hi : ops[i]? = some o)
    (hf : Region.free md ops listed i = true) (hr : (Region.ready md ops listed).contains i = true) (hy : YieldsIf P ops S o v a)
    (h : Told P md ops S F n (listed.setIfInBounds i true) (a.put o.dst v)) : Told P md ops S F (n + 1) listed a :=
  .step hi (Region.free_spec hi hf) (by simpa using hr) (hy.imp (fun ⟨hw, hv⟩ => ⟨hw, fun w hS => by rw [hv w hS]; exact ⟨rfl, hS⟩⟩) id) h

/-- A call that keeps S. -/
theorem told_call {i : Nat} {o : Oper} {v : Value} {f : FuncId} {args : Array Value} {n : Nat} {listed : Array Bool} {a : Act} (hi : ops[i]? = some o)
    (hf : Region.free md ops listed i = true) (hr : (Region.ready md ops listed).contains i = true) (hw : Region.wanted o (yielded ops a.tmps) = true)
    (he : ∀ w, S w → (execOp a.eval o).run P w = .ok (.enter f args) w) (hc : ∀ w, S w → Calls P f args w fun e w' => e = .returned v ∧ S w')
    (h : Told P md ops S F n (listed.setIfInBounds i true) (a.put o.dst v)) : Told P md ops S F (n + 1) listed a :=
  .step hi (Region.free_spec hi hf) (by simpa using hr) (.inl ⟨hw, fun w hS => by rw [he w hS]; exact hc w hS⟩) h

theorem told_done {n : Nat} {listed : Array Bool} {a : Act} (hr : Region.ready md ops listed = []) (h : F a) : Told P md ops S F n listed a := .done hr h
end
end Go.Proofs.Ytdnahojpeplajaa.Told
