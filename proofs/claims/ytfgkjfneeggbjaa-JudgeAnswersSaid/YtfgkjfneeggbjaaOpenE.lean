/- A slice of events (structs with a struct within) that came in; an array of two integers; a struct of three. Nothing of the program. -/
import Derived.Test.YtfgkjfneeggbjaaOpenS
import Derived.Test.YtfgkjfneeggbjaaJudC
namespace Go.Proofs.Ytfgkjfneeggbjaa.Open
open Go.ChangeShapes Go.WideShapes Go.ChangeAt Go.RowKit Mem Go.Deep Go.Proofs.Ytfgkjfneeggbjaa.Jud
section
variable {H : Type} {enc : TypeId × Value → H} {P : Program} {w : World} {base : Nat} {spare : Nat → Bool} {held : Bool}

theorem wf_in {n : Int} (h : (Lit.int .i64 n).wf = true) : inI n := by
  have hmin : IntKind.i64.min = -9223372036854775808 := rfl
  have hmax : IntKind.i64.max = 9223372036854775807 := rfl
  simp only [Lit.wf, Bool.and_eq_true, decide_eq_true_eq] at h
  unfold inI
  omega
theorem u8_nat {a : Int} (h : (Lit.int .u8 a).wf = true) : ∃ n : Nat, a = n ∧ n < 256 := by
  have hmin : IntKind.u8.min = 0 := rfl
  have hmax : IntKind.u8.max = 255 := rfl
  simp only [Lit.wf, Bool.and_eq_true, decide_eq_true_eq] at h
  exact ⟨a.toNat, by omega, by omega⟩

/-- An event's eight cells, by the places of its fields. -/
theorem event_cells {t : TypeId} {f0 f1 f2 f3 f4 f5 g0 g1 g2 : Field} {fuel : Nat} {cs : List Value} {x : DataW H × List MemPlace} (ht : P.underlying t = some (.struct #[f0, f1, f2, f3, f4, f5]))
    (hoff : [f0, f1, f2, f3, f4, f5].map (fun f => (f.offset, P.cellsOf f.type)) = [(0, 1), (1, 1), (2, 3), (5, 1), (6, 1), (7, 1)])
    (k0 : P.underlying f0.type = some (.int .i64)) (k1 : P.underlying f1.type = some (.int .i64)) (k2 : P.underlying f2.type = some (.struct #[g0, g1, g2])) (hone : oneCellFields P #[g0, g1, g2] = true)
    (m0 : P.underlying g0.type = some (.int .i64)) (m1 : P.underlying g1.type = some (.int .i64)) (m2 : P.underlying g2.type = some (.int .i64))
    (k3 : P.underlying f3.type = some (.int .i64)) (k4 : P.underlying f4.type = some (.int .i64)) (k5 : P.underlying f5.type = some (.int .i64))
    (h : DataW.trod enc P w base spare held fuel t cs = some x) (hl : cs.length = 8) :
    ∃ e : Ev, cs = evL e ∧ e.wf := by
  obtain ⟨xs, n, -, -, -, hxl, hf⟩ := DataW.trod_struct ht h
  simp only [List.map_cons, List.map_nil, List.cons.injEq, Prod.mk.injEq, and_true] at hoff
  obtain ⟨⟨o0, s0⟩, ⟨o1, s1⟩, ⟨o2, s2⟩, ⟨o3, s3⟩, ⟨o4, s4⟩, o5, s5⟩ := hoff
  have h0 := hf 0 f0 rfl
  have h1 := hf 1 f1 rfl
  have h2 := hf 2 f2 rfl
  have h3 := hf 3 f3 rfl
  have h4 := hf 4 f4 rfl
  have h5 := hf 5 f5 rfl
  rw [o0, s0] at h0
  rw [o1, s1] at h1
  rw [o2, s2] at h2
  rw [o3, s3] at h3
  rw [o4, s4] at h4
  rw [o5, s5] at h5
  match cs, hl, xs, hxl with
  | [c0, c1, c2, c3, c4, c5, c6, c7], _, [x0, x1, x2, x3, x4, x5], _ =>
    simp only [List.drop_zero, List.drop_succ_cons, List.take_succ_cons, List.take_zero, List.getElem?_cons_zero, List.getElem?_cons_succ] at h0 h1 h2 h3 h4 h5
    obtain ⟨n0, e0, _, w0⟩ := DataW.trod_int k0 h0
    obtain ⟨n1, e1, _, w1⟩ := DataW.trod_int k1 h1
    obtain ⟨n5, e5, _, w5⟩ := DataW.trod_int k3 h3
    obtain ⟨n6, e6, _, w6⟩ := DataW.trod_int k4 h4
    obtain ⟨n7, e7, _, w7⟩ := DataW.trod_int k5 h5
    have hs := struct_cells k2 hone h2 rfl
    obtain ⟨n2, e2, w2⟩ := hs 0 g0 _ rfl m0
    obtain ⟨n3, e3, w3⟩ := hs 1 g1 _ rfl m1
    obtain ⟨n4, e4, w4⟩ := hs 2 g2 _ rfl m2
    simp at e0 e1 e2 e3 e4 e5 e6 e7
    subst e0 e1 e2 e3 e4 e5 e6 e7
    exact ⟨⟨n0, n1, n2, n3, n4, n5, n6, n7⟩, rfl, ⟨wf_in w0, wf_in w1, wf_in w2, wf_in w3, wf_in w4, wf_in w5, wf_in w6, wf_in w7⟩⟩

theorem open_events {r : Reach} {b0 : Nat} {t e : TypeId} {f0 f1 f2 f3 f4 f5 g0 g1 g2 : Field} {v : Value} {d : DataW H} {ps : List MemPlace} (ht : P.underlying t = some (.slice e)) (he : P.underlying e = some (.struct #[f0, f1, f2, f3, f4, f5])) (hC : P.cellsOf e = 8)
    (hoff : [f0, f1, f2, f3, f4, f5].map (fun f => (f.offset, P.cellsOf f.type)) = [(0, 1), (1, 1), (2, 3), (5, 1), (6, 1), (7, 1)])
    (k0 : P.underlying f0.type = some (.int .i64)) (k1 : P.underlying f1.type = some (.int .i64)) (k2 : P.underlying f2.type = some (.struct #[g0, g1, g2])) (hone : oneCellFields P #[g0, g1, g2] = true)
    (m0 : P.underlying g0.type = some (.int .i64)) (m1 : P.underlying g1.type = some (.int .i64)) (m2 : P.underlying g2.type = some (.int .i64))
    (k3 : P.underlying f3.type = some (.int .i64)) (k4 : P.underlying f4.type = some (.int .i64)) (k5 : P.underlying f5.type = some (.int .i64))
    (hval : Value.okWide P w r b0 t v) (h : DataW.Trod enc P w base spare held t v d ps) :
    ∃ L : List Ev, RdE w v L ∧ (∀ e ∈ L, e.wf) ∧ ∀ a l c, v = .slice a l c → c ≤ 9223372036854775807 := by
  obtain ⟨a0, len, cap, rfl⟩ := okWide_slice ht hval
  obtain ⟨fuel, hf⟩ := h
  rcases Go.Deep.open_slice ht hf with ⟨hcs, _⟩ | ⟨a, l, c, m, n, D, Pl, hcs, _, hl, hm, hmm, _, hi⟩
  · simp [Value.cells] at hcs
    obtain ⟨rfl, rfl, rfl⟩ := hcs
    refine ⟨[], .inl ⟨⟨_, _, rfl⟩, rfl⟩, by simp, fun a l c hv => ?_⟩
    injection hv with _ _ hc
    omega
  · simp [Value.cells] at hcs
    obtain ⟨rfl, rfl, rfl⟩ := hcs
    have hcap : ∀ a' l c, Value.slice (some a) len cap = .slice a' l c → c ≤ 9223372036854775807 := fun a' l c hv => by
      injection hv with _ _ hc
      unfold maxLen at hm
      omega
    have key : ∀ i, i < len → ∃ d : Ev, d.wf ∧ ∀ j u, (evL d)[j]? = some u → w.cell? (a.add (i * 8 + j)) = some u := by
      intro i hil
      obtain ⟨cs', h1, h2⟩ := hi i (by rw [hmm]; split <;> omega)
      rw [hC] at h1
      obtain ⟨_, hlen, hat⟩ := World.cells?_some h1
      obtain ⟨d, rfl, hw⟩ := event_cells he hoff k0 k1 k2 hone m0 m1 m2 k3 k4 k5 h2 hlen
      refine ⟨d, hw, fun j u hu => ?_⟩
      have hj : j < 8 := (List.getElem?_eq_some_iff.1 hu).1
      have h3 := hat j hj
      rw [Go.Deep.add_add] at h3
      rw [h3]
      exact hu
    cases len with
    | zero => exact ⟨[], .inl ⟨⟨_, _, rfl⟩, rfl⟩, by simp, hcap⟩
    | succ len =>
      obtain ⟨d0, _, g0⟩ := key 0 (by omega)
      have c0 := g0 0 _ rfl
      obtain ⟨b, off, s⟩ := a
      obtain rfl : s = none := by
        have := spot_none c0
        simpa [Addr.add] using this
      refine ⟨(List.range (len + 1)).map fun i => if h : i < len + 1 then Classical.choose (key i h) else d0, .inr ⟨b, off, cap, by simp, by simpa using hl, fun i e he j u hu => ?_⟩, fun e he => ?_, hcap⟩
      · have hil : i < len + 1 := by
          have := (List.getElem?_eq_some_iff.1 he).1
          simpa using this
        simp only [List.getElem?_map, List.getElem?_range hil, Option.map_some, dif_pos hil, Option.some.injEq] at he
        subst he
        have g1 := (Classical.choose_spec (key i hil)).2 j u hu
        rw [show off + i * 8 + j = off + (i * 8 + j) by omega]
        rw [addr_add] at g1
        exact g1
      · simp only [List.mem_map, List.mem_range] at he
        obtain ⟨i, hil, rfl⟩ := he
        rw [dif_pos hil]
        exact (Classical.choose_spec (key i hil)).1

theorem two_ints {t e : TypeId} {k : IntKind} {fuel : Nat} {cs : List Value} {x : DataW H × List MemPlace} (ht : P.underlying t = some (.array 2 e)) (he : P.underlying e = some (.int k)) (hce : P.cellsOf e = 1)
    (h : DataW.trod enc P w base spare held fuel t cs = some x) (hl : cs.length = 2) : ∃ n0 n1, cs = [.int k n0, .int k n1] ∧ (Lit.int k n0).wf = true ∧ (Lit.int k n1).wf = true := by
  obtain ⟨xs, m, _, _, _, hxl, hat⟩ := DataW.trod_array ht h
  match cs, hl with
  | [c0, c1], _ =>
    have h0 := hat 0 (by decide)
    have h1 := hat 1 (by decide)
    rw [hce, List.getElem?_eq_getElem (by omega)] at h0 h1
    simp only [Nat.zero_mul, List.drop_zero, List.take_succ_cons, List.take_zero, Nat.one_mul, List.drop_succ_cons] at h0 h1
    obtain ⟨n0, e0, _, w0⟩ := DataW.trod_int he h0
    obtain ⟨n1, e1, _, w1⟩ := DataW.trod_int he h1
    injection e0 with e0
    injection e1 with e1
    exact ⟨n0, n1, by rw [e0, e1], w0, w1⟩
/-- An array of two integers. -/
theorem open_arr2i {r : Reach} {b0 : Nat} {t e : TypeId} {k : IntKind} {v : Value} {d : DataW H} {ps : List MemPlace} (ht : P.underlying t = some (.array 2 e)) (he : P.underlying e = some (.int k)) (hce : P.cellsOf e = 1) (hct : P.cellsOf t = 2)
    (hval : Value.okWide P w r b0 t v) (h : DataW.Trod enc P w base spare held t v d ps) :
    ∃ x y, v = .agg #[.int k x, .int k y] ∧ (Lit.int k x).wf = true ∧ (Lit.int k y).wf = true := by
  simp only [Value.okWide, ht] at hval
  obtain ⟨cs, rfl, hsz, _⟩ := hval
  obtain ⟨fuel, hf⟩ := h
  rw [hct] at hsz
  obtain ⟨l⟩ := cs
  obtain ⟨n0, n1, rfl, w0, w1⟩ := two_ints ht he hce (cs := l) (by simpa [Value.cells] using hf) hsz
  exact ⟨n0, n1, rfl, w0, w1⟩
end
end Go.Proofs.Ytfgkjfneeggbjaa.Open
