/- Stage 8: the program's own taker keeps every contract that the laws' walks ask of it (ConT). -/
import Derived.Test.YtdnahojpeplajaaMgC
import Derived.Test.YtdnahojpeplajaaMagC
namespace Go.Proofs.Ytdnahojpeplajaa.Mag
open Go.RowKit Mem Go.Proofs.Ytdnahojpeplajaa.Words Go.Proofs.Ytdnahojpeplajaa.Plan Go.Proofs.Ytdnahojpeplajaa.Pack Go.Proofs.Ytdnahojpeplajaa.Told
set_option maxRecDepth 100000
set_option maxHeartbeats 4000000

/-- The program's taker in block g. -/
structure IsT (w : World) (g : Nat) (F : List Nat) (t : Tk) : Prop where
  own : F = [g]
  is : ∃ P C M c i n k e0 e1 e2, Blk w g 70 (tcs P C M c i n k e0 e1 e2 t.found) ∧ (t.over = true → n = 0) ∧
    (t.over = false → (P = t.P ∧ C = t.C ∧ M = t.M) ∧ c = t.c ∧ i = (t.i : Int) ∧ k = t.k ∧ n = if t.hit = true then 2 else 1) ∧ (t.hit = true → e0 = t.page ∧ e1 = t.slot)
  hit : t.found = true → t.hit = true

theorem nxt_first {P C M c k : Int} (hk : slotsI k ≠ 0) : nxt P C M c 0 1 = if overT P C M c k = true then 0 else 1 := by
  unfold nxt overT
  rw [show decide (slotsI k = 0) = false from by simpa using hk, Bool.or_false]
  by_cases hs : mayB P C M = true ∧ 0 ≤ c ∧ c < C
  · have hf := mayB_iff.1 hs.1
    have h1 : statusI P C M c = c := by unfold statusI; rw [if_pos hs]
    have h2 : decide (statusI P C M c < 0) = false := by rw [h1]; simpa using hs.2.1
    rw [h2, Bool.false_or]
    by_cases hM : M = 0
    · have h3 : magI P C M c 0 = -1 := by unfold magI; rw [if_neg (by omega)]
      rw [h3, hM]; rfl
    · have h4 := hf.m1
      have h5 := (mag_in hf hs.2 (i := 0) (by show ((0 : Nat) : Int) < M; omega)).2.1
      rw [if_neg (by have : ((0 : Nat) : Int) = 0 := rfl; rw [this] at h5; omega), decide_eq_false hM]
      rfl
  · have h1 : statusI P C M c = -1 := by unfold statusI; rw [if_neg hs]
    have h2 : magI P C M c 0 = -1 := by unfold magI; rw [if_neg (fun h => hs ⟨h.1, h.2.1⟩)]
    rw [h1, h2]; rfl
/-- Behind one more. -/
theorem nxt_next {P C M c : Int} {i : Nat} (hf : Fit P C M) (hc : 0 ≤ c ∧ c < C) (hi : (i : Int) < M) (n : Int) : nxt P C M c ((i : Int) + 1) n = if ((i + 1 : Nat) : Int) = M then 0 else n := by
  unfold nxt
  by_cases hM : ((i + 1 : Nat) : Int) = M
  · have h3 : magI P C M c ((i : Int) + 1) = -1 := by unfold magI; rw [if_neg (by omega)]
    rw [h3, if_pos hM]; rfl
  · have h5 := (mag_in hf hc (i := i + 1) (by omega)).2.1
    have e : ((i + 1 : Nat) : Int) = (i : Int) + 1 := by omega
    rw [e] at h5
    rw [if_neg (by omega), if_neg hM]

section
variable {w w' : World} {g : Nat} {F : List Nat} {t : Tk} {P C M c i n k e0 e1 e2 : Int} {f : Bool}
theorem taker_done_raw (h : Blk w g 70 (tcs P C M c i n k e0 e1 e2 f)) :
    Calls Try.prog 16 #[.pointer (some ⟨g, 0, none⟩)] w fun e w' => e = .returned (.bool (n == 0)) ∧ w = w' := by
  obtain ⟨c0, c1, c2, c3, c4, c5⟩ := wk_cells h
  clear c0 c1 c2 c3 c4 h
  go_enter Try.func16, Try.ntmps16
  go_wp2_with fail
  go_ret
  exact ⟨rfl, rfl⟩
theorem taker_found_no (h : Blk w g 70 (tcs P C M c i n k e0 e1 e2 false)) :
    Calls Try.prog 23 #[.pointer (some ⟨g, 0, none⟩)] w fun e w' => e = .returned (.tuple #[.int .i64 0, .int .i64 0, .bool false]) ∧ Off [] w w' := by
  obtain ⟨c6, c7, c8, c9, c10⟩ := tcs_cells h
  clear c6 c7 c8 c9 h
  go_enter Try.func23, Try.ntmps23
  go_wp2_with fail
  exact bodyPost_ret (v := .tuple #[.int .i64 0, .int .i64 0, .bool false]) (by simp [results, Try.results23, go_sem]) rfl ⟨rfl, Off.refl _ _⟩
theorem taker_found_yes (h : Blk w g 70 (tcs P C M c i n k e0 e1 e2 true)) :
    Calls Try.prog 23 #[.pointer (some ⟨g, 0, none⟩)] w fun e w' => e = .returned (.tuple #[.int .i64 e0, .int .i64 e1, .bool true]) ∧ Off [] w w' := by
  obtain ⟨c6, c7, c8, c9, c10⟩ := tcs_cells h
  clear c6 c9 h
  go_enter Try.func23, Try.ntmps23
  go_upto_region 3 with fail
  go_quiet (fail)
  go_wp2_with fail
  exact bodyPost_ret (v := .tuple #[.int .i64 e0, .int .i64 e1, .bool true]) (by simp [results, Try.results23, go_sem]) rfl ⟨rfl, (Off.refl _ _).drewN _⟩
theorem taker_new_none (P C M c k : Int) (hk : slotsI k = 0) (w : World) :
    Calls Try.prog 11 #[.agg #[.int .i64 P, .int .i64 C, .int .i64 M], .int .i64 c, .int .i64 k] w fun e w' => (∃ g, e = .returned (.pointer (some ⟨g, 0, none⟩)) ∧ Blk w' g 70 (tcs 0 0 0 0 0 0 0 0 0 0 false) ∧ w.heap.size ≤ g) ∧ Off [] w w' := by
  go_enter Try.func11, Try.ntmps11
  go_wp2_with (go_at_call 32; refine (slots_any _ _).mono ?_; rintro e w1 ⟨rfl, rfl⟩; rw [hk])
  go_ret
  exact ⟨⟨_, rfl, blk_one _ _ _ _, by simp⟩, ((Off.refl _ _).alloc _).alloc _⟩
theorem taker_new_some (P C M c k : Int) (hk : slotsI k ≠ 0) (w : World) :
    Calls Try.prog 11 #[.agg #[.int .i64 P, .int .i64 C, .int .i64 M], .int .i64 c, .int .i64 k] w fun e w' => (∃ g, e = .returned (.pointer (some ⟨g, 0, none⟩)) ∧ Blk w' g 70 (tcs P C M c 0 (nxt P C M c 0 1) k 0 0 0 false) ∧ w.heap.size ≤ g) ∧ Off [] w w' := by
  have hd : (slotsI k == 0) = false := by simpa using hk
  go_enter Try.func11, Try.ntmps11
  go_wp2_with (first | (go_at_call 32; refine (slots_any _ _).mono ?_; rintro e w1 ⟨rfl, rfl⟩) | (go_at_call 33; refine (begin_any _ _ _ _ _).mono ?_; rintro e w2 ⟨rfl, o2⟩; have hsz := o2.size))
  go_ret
  exact ⟨⟨_, rfl, (Blk.new _ _ _).to rfl, by simp at hsz; omega⟩, (((Off.refl _ _).alloc _).trans o2).alloc _⟩

theorem IsT.lt (h : IsT w g F t) : ∀ k ∈ F, k < w.heap.size := by
  obtain ⟨rfl, ⟨P, C, M, c, i, n, k, e0, e1, e2, hb, -⟩, -⟩ := h
  intro j hj
  simp only [List.mem_cons, List.not_mem_nil, or_false] at hj
  subst hj
  exact hb.lt
theorem IsT.keep (h : IsT w g F t) (hk : ∀ k ∈ F, w'.heap[k]? = w.heap[k]?) : IsT w' g F t := by
  obtain ⟨rfl, ⟨P, C, M, c, i, n, k, e0, e1, e2, hb, hr⟩, hh⟩ := h
  exact ⟨rfl, ⟨P, C, M, c, i, n, k, e0, e1, e2, ⟨(hk g (by simp)).trans hb.eq⟩, hr⟩, hh⟩
theorem IsT.typ (h : IsT w g F t) : ∀ k ∈ F, ∃ ty cs, Blk w k ty cs ∧ ty ≠ 81 := by
  obtain ⟨rfl, ⟨P, C, M, c, i, n, k, e0, e1, e2, hb, -⟩, -⟩ := h
  intro j hj
  simp only [List.mem_cons, List.not_mem_nil, or_false] at hj
  subst hj
  exact ⟨_, _, hb, by decide⟩
theorem IsT.new (P C M c k : Int) (w : World) :
    Calls Try.prog 11 #[.agg #[.int .i64 P, .int .i64 C, .int .i64 M], .int .i64 c, .int .i64 k] w fun e w' => (∃ g F, e = .returned (.pointer (some ⟨g, 0, none⟩)) ∧ IsT w' g F (tk0 P C M c k) ∧ ∀ j ∈ F, w.heap.size ≤ j) ∧ Off [] w w' := by
  by_cases hk : slotsI k = 0
  · refine (taker_new_none P C M c k hk w).mono ?_
    rintro e w' ⟨⟨g, rfl, hb, hg⟩, o⟩
    have ho : (tk0 P C M c k).over = true := by show overT P C M c k = true; unfold overT; rw [decide_eq_true hk]; simp
    exact ⟨⟨g, [g], rfl, ⟨rfl, ⟨_, _, _, _, _, _, _, _, _, _, hb, fun _ => rfl, fun h => (by rw [ho] at h; cases h), fun h => (by cases h)⟩, fun h => (by cases h)⟩, by simpa using hg⟩, o⟩
  · refine (taker_new_some P C M c k hk w).mono ?_
    rintro e w' ⟨⟨g, rfl, hb, hg⟩, o⟩
    have hn := nxt_first (P := P) (C := C) (M := M) (c := c) hk
    refine ⟨⟨g, [g], rfl, ⟨rfl, ⟨_, _, _, _, _, _, _, _, _, _, hb, fun h => ?_, fun h => ⟨⟨rfl, rfl, rfl⟩, rfl, rfl, rfl, ?_⟩, fun h => (by cases h)⟩, fun h => (by cases h)⟩, by simpa using hg⟩, o⟩
    · have h' : overT P C M c k = true := h
      rw [hn, if_pos h']
    · have h' : overT P C M c k = false := h
      rw [hn, h']; rfl
theorem IsT.done (h : IsT w g F t) : Calls Try.prog 16 #[.pointer (some ⟨g, 0, none⟩)] w fun e w' => e = .returned (.bool t.over) ∧ Off [] w w' := by
  obtain ⟨-, ⟨P, C, M, c, i, n, k, e0, e1, e2, hb, h1, h2, -⟩, -⟩ := h
  refine (taker_done_raw hb).mono ?_
  rintro e w' ⟨rfl, rfl⟩
  refine ⟨?_, Off.refl _ _⟩
  cases ho : t.over
  · obtain ⟨-, -, -, -, h3⟩ := h2 ho
    rw [h3]
    split <;> rfl
  · rw [h1 ho]; rfl
theorem IsT.tells (h : IsT w g F t) : Calls Try.prog 23 #[.pointer (some ⟨g, 0, none⟩)] w fun e w' => (t.found = true → e = .returned (.tuple #[.int .i64 t.page, .int .i64 t.slot, .bool true])) ∧ (t.found = false → e = .returned (.tuple #[.int .i64 0, .int .i64 0, .bool false])) ∧ Off [] w w' := by
  obtain ⟨-, ⟨P, C, M, c, i, n, k, e0, e1, e2, hb, -, -, h3⟩, hh⟩ := h
  cases hf : t.found
  · rw [hf] at hb
    refine (taker_found_no hb).mono ?_
    rintro e w' ⟨rfl, o⟩
    exact ⟨fun h => (by cases h), fun _ => rfl, o⟩
  · rw [hf] at hb
    obtain ⟨rfl, rfl⟩ := h3 (hh hf)
    refine (taker_found_yes hb).mono ?_
    rintro e w' ⟨rfl, o⟩
    exact ⟨fun _ => rfl, fun h => (by cases h), o⟩
theorem IsT.step {gw hw : Nat} {s : St} (h : IsT w g F t) (hok : t.Ok) (hp : IsW w gw hw s) (hgw : gw ∉ F) (hgh : hw ∉ F) (hlen : t.over = false → (s.row.length : Int) = wordsI t.P t.C t.M) (hrow : RowOk s) (hs0 : 0 ≤ s.steps) (hs1 : s.steps < 9223372036854775807) :
    Calls Try.prog 13 #[.pointer (some ⟨g, 0, none⟩), .pointer (some ⟨gw, 0, none⟩)] w fun e w' => e = .returned (.tuple #[]) ∧ (∃ F', IsT w' g F' (t.next s) ∧ ∀ j ∈ F', j ∈ F ∨ w.heap.size ≤ j) ∧ IsW w' gw hw (t.words s) ∧ Off (gw :: hw :: F) w w' := by
  obtain ⟨rfl, ⟨P, C, M, c, i, n, k, e0, e1, e2, hb, h1, h2, h3⟩, hh⟩ := h
  have n1 : g ≠ gw := fun e => hgw (by simp [e])
  have n2 : g ≠ hw := fun e => hgh (by simp [e])
  have sub : ∀ {a b : World}, Off [g, gw, hw] a b → Off (gw :: hw :: [g]) a b := fun o => o.more (fun k hk => by simp only [List.mem_cons, List.not_mem_nil, or_false] at hk ⊢; omega)
  cases ho : t.over
  · obtain ⟨⟨rfl, rfl, rfl⟩, rfl, rfl, rfl, rfl⟩ := h2 ho
    obtain ⟨q1, q2, q3⟩ := hok.run ho
    obtain ⟨q4, q5⟩ := hok.at ho
    have hal : t.at < s.row.length := by have := hlen ho; omega
    have hro := hrow.at t.at
    have hi1 : ((t.i : Nat) : Int) < 9223372036854775807 := by have := q1.m2; omega
    cases hh2 : t.hit
    · rw [hh2] at hb
      have hf : t.found = false := by
        cases hf : t.found
        · rfl
        · rw [hh hf] at hh2; cases hh2
      cases hq : t.hits (s.at t.at)
      · have hnx := nxt_next q1 q2 q3 1
        refine (taker_step_look (hb : Blk w g _ (tcs t.P t.C t.M t.c t.i 1 t.k e0 e1 e2 t.found)) hp n1 n2 t.at q4.symm hal hs0 hs1 (fun W hW => taker_see_no hW hro.1 hro.2 (by omega) hi1 hq) (fun W hW => taker_three hW)).mono ?_
        rintro e w' ⟨rfl, hb', hp', o⟩
        have en : t.next s = { t with i := t.i + 1, over := decide (((t.i + 1 : Nat) : Int) = t.M) } := by unfold Tk.next; rw [ho, hh2, hq]; rfl
        have ew : t.words s = s.note ⟨t.c, 0, t.at, s.at t.at, 0, true⟩ := by unfold Tk.words; rw [ho, hh2]; rfl
        rw [en, ew]
        refine ⟨rfl, ⟨[g], ⟨rfl, ⟨_, _, _, _, _, _, _, _, _, _, hb', fun h => ?_, fun h => ⟨⟨rfl, rfl, rfl⟩, rfl, by show (t.i : Int) + 1 = ((t.i + 1 : Nat) : Int); omega, rfl, ?_⟩, h3⟩, hh⟩, fun j hj => .inl hj⟩, hp', sub o⟩
        · rw [hnx, if_pos (by simpa using h)]
        · have h' : ¬ ((t.i + 1 : Nat) : Int) = t.M := by simpa using h
          rw [hnx, if_neg h', hh2]; rfl
      · refine (taker_step_look (hb : Blk w g _ (tcs t.P t.C t.M t.c t.i 1 t.k e0 e1 e2 t.found)) hp n1 n2 t.at q4.symm hal hs0 hs1 (fun W hW => taker_see_yes hW hro.1 hro.2 hq) (fun W hW => taker_three hW)).mono ?_
        rintro e w' ⟨rfl, hb', hp', o⟩
        have en : t.next s = { t with hit := true, page := aI (s.at t.at), slot := bI (s.at t.at) } := by unfold Tk.next; rw [ho, hh2, hq]; rfl
        have ew : t.words s = s.note ⟨t.c, 0, t.at, s.at t.at, 0, true⟩ := by unfold Tk.words; rw [ho, hh2]; rfl
        rw [en, ew]
        exact ⟨rfl, ⟨[g], ⟨rfl, ⟨_, _, _, _, _, _, _, _, _, _, hb', fun h => (by have h' : t.over = true := h; rw [ho] at h'; cases h'), fun _ => ⟨⟨rfl, rfl, rfl⟩, rfl, rfl, rfl, rfl⟩, fun _ => ⟨rfl, rfl⟩⟩, fun _ => rfl⟩, fun j hj => .inl hj⟩, hp', sub o⟩
    · rw [hh2] at hb
      refine (taker_step_store (hb : Blk w g _ (tcs t.P t.C t.M t.c t.i 2 t.k e0 e1 e2 t.found)) hp n1 n2 t.at q4.symm hal hs0 hs1).mono ?_
      rintro e w' ⟨rfl, hb', hp', o⟩
      have en : t.next s = { t with found := true, over := true } := by unfold Tk.next; rw [ho, hh2]; rfl
      have ew : t.words s = (s.note ⟨t.c, 1, t.at, s.at t.at, 0, true⟩).lay t.at 0 := by unfold Tk.words; rw [ho, hh2]; rfl
      rw [en, ew]
      exact ⟨rfl, ⟨[g], ⟨rfl, ⟨_, _, _, _, _, _, _, _, _, _, hb', fun _ => rfl, fun h => (by cases h), fun _ => h3 hh2⟩, fun _ => hh2⟩, fun j hj => .inl hj⟩, hp', sub o⟩
  · obtain rfl := h1 ho
    refine (taker_step_over (gw := gw) hb).mono ?_
    rintro e w' ⟨rfl, rfl⟩
    have en : t.next s = t := by unfold Tk.next; rw [if_pos ho]
    have ew : t.words s = s := by unfold Tk.words; rw [if_pos ho]
    rw [en, ew]
    exact ⟨rfl, ⟨[g], ⟨rfl, ⟨_, _, _, _, _, _, _, _, _, _, hb, h1, h2, h3⟩, hh⟩, fun j hj => .inl hj⟩, hp, Off.refl _ _⟩
end

theorem con_taker : ConT IsT where
  lt := IsT.lt
  keep := IsT.keep
  typ := IsT.typ
  new := IsT.new
  step := IsT.step
  done := IsT.done
  found := IsT.tells

end Go.Proofs.Ytdnahojpeplajaa.Mag
