/- The document's own model (allotmentref1.Model): NewModel, Give, Take: a contract each. -/
import Derived.Test.YtfgkjfneeggbjaaModA
import Derived.Deep.AppendLies
import Derived.Deep.RegionLaw
import Derived.Deep.Onto
namespace Go.Proofs.Ytfgkjfneeggbjaa.Mod
open Go.RowKit Mem

/-- An append onto a row of the call's own, in a region that draws: whatever the row, whatever is appended. -/
theorem step_append_any {P : Program} {w : World} {ops : Array Oper} {o : Oper} {a : Act} {K : Act → World → Prop} {Q : Exit → Act → World → Prop} {E : Prop} (hgd : o.guard = none) (s x : Operand) (t : TypeId)
    (ho : o.op = .call { callee := .builtin .append, args := #[s, x], argTypes := #[t, t] })
    (base : Nat) (e : TypeId) (i : TypeInfo) (z : Value) (size bytes : Nat) (ht : P.underlying t = some (.slice e)) (hi : P.info? e = some i) (hz : i.zero = some z)
    (hsize : i.size = size) (hby : i.bytes = bytes) (hzs : z.cells.size = size) (hsz : 0 < size)
    (v : Value) (n : Nat) (xs : List Value) (hs : a.eval s = v) (hown : w.ownsRow base e size v n xs)
    (ad : Addr) (m c : Nat) (news : List Value) (hx : a.eval x = .slice (some ad) m c) (hl : news.length = m * size) (hnews : ∀ j u, news[j]? = some u → w.cell? (ad.add j) = some u) (h1 : ∀ u ∈ news, u.oneCell' = true)
    (h63 : n + m ≤ maxLen) (hbytes : (n + m) * bytes ≤ 140737488355328) (hbase : base ≤ w.heap.size)
    (h : ∀ a' c' w', Hid (w'.ownsRow base e size (.slice a' (n + m) c') (n + m) (xs ++ news)) → Hid (w.grownBy w' v.ownBlock) → K (a.put o.dst (.slice a' (n + m) c')) w') :
    if Region.wanted o (yielded ops a.tmps) = true then Oper.wp P o a w K Q else E := by
  have hw : Region.wanted o (yielded ops a.tmps) = true := by simp [Region.wanted, hgd]
  rw [if_pos hw]
  obtain ⟨v', w', hr, h2, h3, _⟩ := run_append_own (P := P) w base t o.type e i z size bytes ht hi hz hsize hby hzs hsz v n xs hown ad m c news hl hnews h1 h63 hbytes hbase
  have hv : ∃ a' c', v' = .slice a' (n + m) c' := by
    rcases h2.2 with ⟨rfl, h0⟩ | ⟨g, cap, cur, rfl, _⟩
    · exact ⟨none, 0, by rw [h0]⟩
    · exact ⟨_, _, rfl⟩
  obtain ⟨a', c', rfl⟩ := hv
  unfold Oper.wp execOp
  simp only [ho, resolve, invoke, builtin, Sem.run_bind, Sem.run_pure, Result.andThen_ok, List.map_toArray, List.map_cons, List.map_nil, hs, hx, hr]
  exact h a' c' w' (Lib.hid h2) (Lib.hid h3)

/-- As many as may be. -/
def clampW (m : Int) : Int := if 0 ≤ m ∧ m ≤ 4096 then m else 0
theorem clampW_bd (m : Int) : 0 ≤ clampW m ∧ clampW m ≤ 4096 := by unfold clampW; split <;> omega
theorem give_at {W : Int} {l : List Bk} (h : Ok W l) (i : Nat) (hi : i < l.length) : give l l[i].p = l.take i ++ l.drop (i + 1) := by
  induction l generalizing i with
  | nil => simp at hi
  | cons b l ih =>
    cases i with
    | zero =>
      have e : give l b.p = l := by
        unfold give
        rw [List.filter_eq_self]
        intro c hc
        have := h.lt c hc
        have := h.head
        simp
        omega
      simp only [List.getElem_cons_zero, List.take_zero, List.nil_append, List.drop_succ_cons, List.drop_zero]
      rw [show give (b :: l) b.p = give l b.p from by simp [give], e]
    | succ i =>
      have hi' : i < l.length := by simpa using hi
      have hb := h.lt l[i] (List.getElem_mem hi')
      have hh := h.head
      have hne : (b.p != l[i].p) = true := by simp; omega
      simp only [List.getElem_cons_succ, List.take_succ_cons, List.drop_succ_cons, List.cons_append]
      rw [← ih h.tail i hi']
      simp [give, hne]

theorem bk_one (l : List Bk) : ∀ u ∈ l.flatMap bkL, u.oneCell' = true := by
  intro u hu
  simp only [List.mem_flatMap] at hu
  obtain ⟨b, _, hb⟩ := hu
  simp at hb
  rcases hb with rfl | rfl <;> rfl

theorem flat2_take (l : List Bk) (i : Nat) : (l.take i).flatMap bkL = (l.flatMap bkL).take (i * 2) := by
  induction l generalizing i with
  | nil => simp
  | cons b l ih =>
    cases i with
    | zero => simp
    | succ i =>
      rw [List.take_succ_cons, List.flatMap_cons, List.flatMap_cons, ih, show (i + 1) * 2 = i * 2 + 1 + 1 from by omega]
      rfl
theorem flat2_drop (l : List Bk) (i : Nat) : (l.drop i).flatMap bkL = (l.flatMap bkL).drop (i * 2) := by
  induction l generalizing i with
  | nil => simp
  | cons b l ih =>
    cases i with
    | zero => simp
    | succ i =>
      rw [List.drop_succ_cons, List.flatMap_cons, ih, show (i + 1) * 2 = i * 2 + 1 + 1 from by omega]
      rfl

/-- What an append onto a row made since made leaves what there was. -/
theorem off_grown {w w3 w5 : World} {base : Nat} {e : TypeId} {size n : Nat} {v : Value} {xs : List Value} (ho : Off [] w w3) (hg : w3.grownBy w5 v.ownBlock) (hown : w3.ownsRow base e size v n xs) (hb : w.heap.size ≤ base) : Off [] w w5 :=
  ho.grown hg (fun k hk => .inr (by
    rcases hown.2 with ⟨rfl, _⟩ | ⟨g, cap, cur, rfl, hlo, _⟩
    · simp [Value.ownBlock] at hk
    · simp [Value.ownBlock] at hk
      omega))

def GiveRel (w : World) (l : List Bk) (p : Int) (i : Value) (wr : World) : Prop := wr = w ∧ ∃ j : Nat, j ≤ l.length ∧ i = .int .i64 j ∧ giveB (l.take j) p = false

end Go.Proofs.Ytfgkjfneeggbjaa.Mod
