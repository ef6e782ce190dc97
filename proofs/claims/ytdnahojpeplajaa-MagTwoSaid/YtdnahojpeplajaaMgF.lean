/- Stage 8: the program's own putter keeps every contract that the laws' walks ask of it (ConP). -/
import Derived.Test.YtdnahojpeplajaaMgD
import Derived.Test.YtdnahojpeplajaaMgE
import Derived.Test.YtdnahojpeplajaaMagN
namespace Go.Proofs.Ytdnahojpeplajaa.Mag
open Go.RowKit Mem Go.Proofs.Ytdnahojpeplajaa.Words Go.Proofs.Ytdnahojpeplajaa.Plan Go.Proofs.Ytdnahojpeplajaa.Pack Go.Proofs.Ytdnahojpeplajaa.Told
set_option maxRecDepth 100000
set_option maxHeartbeats 4000000

/-- What is read of an entry's word. -/
theorem readEntry_of (P C M a b c : Int) : readEntryB P C M (entryW a b c) = (decide (0 ≤ pageI P C M a) && (decide (0 ≤ b) && decide (b < slotsI c))) := by
  by_cases hi : isEntryB 1 a b c = true
  · have hq := entry_parts hi
    have e : entryW a b c = wordI 1 a b c := if_pos hi
    unfold readEntryB
    rw [e, hq.kind, hq.fa, hq.fb, hq.fc, hi, inB_t hq.lt.1 hq.lt.2, decide_eq_true hq.b1]
    rfl
  · have e : entryW a b c = 0 := if_neg hi
    have h0 : readEntryB P C M 0 = false := by unfold readEntryB; rfl
    rw [e, h0]
    cases hr : (decide (0 ≤ pageI P C M a) && (decide (0 ≤ b) && decide (b < slotsI c)))
    · rfl
    · exfalso
      rw [Bool.and_eq_true, Bool.and_eq_true, decide_eq_true_eq, decide_eq_true_eq, decide_eq_true_eq] at hr
      obtain ⟨h1, h2, h3⟩ := hr
      obtain ⟨hf, ha1, ha2⟩ := hasPage_iff.1 (show hasPageB P C M a = true from decide_eq_true h1)
      have := hf.p2
      have hc : 0 ≤ c ∧ c < 4 := by
        by_cases hc : 0 ≤ c ∧ c < 4
        · exact hc
        · rw [slotsI_out hc] at h3; omega
      have hs : slotsI c ≤ 16 := by obtain rfl | rfl | rfl | rfl := four_cases hc <;> decide
      refine hi ?_
      unfold isEntryB
      rw [if_pos rfl, fit_iff]
      omega
theorem readEntry_over (P C M c a b k : Int) (h : readEntryB P C M (entryW a b k) = false) : overP P C M c a b k = true := by
  rw [readEntry_of] at h
  unfold overP
  cases h1 : decide (pageI P C M a < 0)
  · cases h2 : decide (b < 0)
    · cases h3 : decide (slotsI k ≤ b)
      · rw [decide_eq_false_iff_not] at h1 h2 h3
        rw [decide_eq_true (by omega), decide_eq_true (by omega), decide_eq_true (by omega)] at h
        cases h
      · simp
    · simp
  · simp
theorem nxt_put (P C M c a b k : Int) (h : readEntryB P C M (entryW a b k) = true) : nxt P C M c 0 1 = if overP P C M c a b k = true then 0 else 1 := by
  rw [nxt_first (k := 0) (by decide)]
  have e : overT P C M c 0 = overP P C M c a b k := by
    rw [readEntry_of, Bool.and_eq_true, Bool.and_eq_true, decide_eq_true_eq, decide_eq_true_eq, decide_eq_true_eq] at h
    unfold overT overP
    rw [decide_eq_false (p := pageI P C M a < 0) (by omega), decide_eq_false (p := b < 0) (by omega), decide_eq_false (p := slotsI k ≤ b) (by omega), show decide (slotsI 0 = 0) = false from rfl]
    simp
  rw [e]

/-- The program's putter in block g. -/
structure IsP (w : World) (g : Nat) (F : List Nat) (t : Pk) : Prop where
  own : F = [g]
  is : ∃ P C M c i n v, Blk w g 76 (pcs P C M c i n v t.put) ∧ (t.over = true → n = 0) ∧
    (t.over = false → (P = t.P ∧ C = t.C ∧ M = t.M) ∧ c = t.c ∧ i = (t.i : Int) ∧ v = t.x ∧ n = if t.hit = true then 2 else 1)

section
variable {w w' : World} {g : Nat} {F : List Nat} {t : Pk} {P C M c i n v : Int} {f : Bool}
theorem putter_done_raw (h : Blk w g 76 (pcs P C M c i n v f)) :
    Calls Try.prog 15 #[.pointer (some ⟨g, 0, none⟩)] w fun e w' => e = .returned (.bool (n == 0)) ∧ w = w' := by
  obtain ⟨c0, c1, c2, c3, c4, c5⟩ := wk_cells h
  clear c0 c1 c2 c3 c4 h
  go_enter Try.func15, Try.ntmps15
  go_wp2_with fail
  go_ret
  exact ⟨rfl, rfl⟩
theorem putter_put_raw (h : Blk w g 76 (pcs P C M c i n v f)) :
    Calls Try.prog 18 #[.pointer (some ⟨g, 0, none⟩)] w fun e w' => e = .returned (.bool f) ∧ w = w' := by
  have c7 := pcs_cell h
  clear h
  go_enter Try.func18, Try.ntmps18
  go_wp2_with fail
  go_ret
  exact ⟨rfl, rfl⟩
theorem putter_new_none (P C M c a b k : Int) (hk : readEntryB P C M (entryW a b k) = false) (w : World) :
    Calls Try.prog 12 #[.agg #[.int .i64 P, .int .i64 C, .int .i64 M], .int .i64 c, .int .i64 a, .int .i64 b, .int .i64 k] w fun e w' => (∃ g, e = .returned (.pointer (some ⟨g, 0, none⟩)) ∧ Blk w' g 76 (pcs 0 0 0 0 0 0 0 false) ∧ w.heap.size ≤ g) ∧ Off [] w w' := by
  have hb := entryW_bd a b k
  have he : entryV P C M (entryW a b k) = .agg #[.int .i64 0, .int .i64 0, .int .i64 0] := by unfold entryV; rw [hk]; rfl
  have HE := Lib.hid (And.intro he hk)
  have HV := Lib.hid (show entryW a b k = entryW a b k from rfl)
  clear he hk
  generalize hv : entryW a b k = v at *
  have HB := Lib.hid hb
  have HW := Lib.hid hv
  have HF : Hid (∀ W, Off [] (w.alloc (.cells #[.int .i64 P, .int .i64 C, .int .i64 M] 24)) W → (W.cell? ⟨w.heap.size, 0, none⟩ = some (.int .i64 P) ∧ W.cell? ⟨w.heap.size, 1, none⟩ = some (.int .i64 C) ∧ W.cell? ⟨w.heap.size, 2, none⟩ = some (.int .i64 M)) ∧ w.heap.size < W.heap.size) := Lib.hid (fun W o => ⟨cells3 (o.blk (Blk.new _ _ _) (by simp)), (o.blk (Blk.new _ _ _) (by simp)).lt⟩)
  clear hb hv HV
  go_enter Try.func12, Try.ntmps12
  go_upto_region 2 with (go_at_call 34; refine (putEntry_any _ _ _ _).mono ?_; rintro e w1 ⟨rfl, o1⟩; rw [HW.out])
  obtain ⟨⟨s0, s1, s2⟩, -⟩ := HF.out _ o1
  go_upto_region 3 with (go_at_call 35; refine (readEntry_any _ _ _ _ HB.out.1 (by have := HB.out.2; omega) _).mono ?_; rintro e w2 ⟨rfl, o2⟩; rw [HE.out.1, HE.out.2])
  clear s0 s1 s2
  obtain ⟨⟨s0, s1, s2⟩, hlt⟩ := HF.out _ (o1.trans o2)
  go_wp2_with fail
  go_ret
  exact ⟨⟨_, rfl, blk_one _ _ _ _, by omega⟩, ((((Off.refl _ _).alloc _).trans (o1.trans o2)).alloc _).alloc _⟩
theorem putter_new_some (P C M c a b k : Int) (hk : readEntryB P C M (entryW a b k) = true) (w : World) :
    Calls Try.prog 12 #[.agg #[.int .i64 P, .int .i64 C, .int .i64 M], .int .i64 c, .int .i64 a, .int .i64 b, .int .i64 k] w fun e w' => (∃ g, e = .returned (.pointer (some ⟨g, 0, none⟩)) ∧ Blk w' g 76 (pcs P C M c 0 (nxt P C M c 0 1) (entryW a b k) false) ∧ w.heap.size ≤ g) ∧ Off [] w w' := by
  have hb := entryW_bd a b k
  have he : entryV P C M (entryW a b k) = .agg #[.int .i64 (aI (entryW a b k)), .int .i64 (bI (entryW a b k)), .int .i64 (cI (entryW a b k))] := by unfold entryV; rw [if_pos hk]
  have HE := Lib.hid (And.intro he hk)
  have HV := Lib.hid (show entryW a b k = entryW a b k from rfl)
  clear he hk
  generalize hv : entryW a b k = v at *
  have HB := Lib.hid hb
  have HW := Lib.hid hv
  have HF : Hid (∀ W, Off [] (w.alloc (.cells #[.int .i64 P, .int .i64 C, .int .i64 M] 24)) W → (W.cell? ⟨w.heap.size, 0, none⟩ = some (.int .i64 P) ∧ W.cell? ⟨w.heap.size, 1, none⟩ = some (.int .i64 C) ∧ W.cell? ⟨w.heap.size, 2, none⟩ = some (.int .i64 M)) ∧ w.heap.size < W.heap.size) := Lib.hid (fun W o => ⟨cells3 (o.blk (Blk.new _ _ _) (by simp)), (o.blk (Blk.new _ _ _) (by simp)).lt⟩)
  clear hb hv HV
  go_enter Try.func12, Try.ntmps12
  go_upto_region 2 with (go_at_call 34; refine (putEntry_any _ _ _ _).mono ?_; rintro e w1 ⟨rfl, o1⟩; rw [HW.out])
  obtain ⟨⟨s0, s1, s2⟩, -⟩ := HF.out _ o1
  go_upto_region 3 with (go_at_call 35; refine (readEntry_any _ _ _ _ HB.out.1 (by have := HB.out.2; omega) _).mono ?_; rintro e w2 ⟨rfl, o2⟩; rw [HE.out.1, HE.out.2])
  clear s0 s1 s2
  obtain ⟨⟨s0, s1, s2⟩, hlt⟩ := HF.out _ (o1.trans o2)
  go_wp2_with (go_at_call 33; refine (begin_any _ _ _ _ _).mono ?_; rintro e w3 ⟨rfl, o3⟩; have hsz := o3.size)
  go_ret
  exact ⟨⟨_, rfl, Blk.new _ _ _, by simp at hsz; omega⟩, (((((Off.refl _ _).alloc _).trans (o1.trans o2)).alloc _).trans o3).alloc _⟩

theorem IsP.lt (h : IsP w g F t) : ∀ k ∈ F, k < w.heap.size := by
  obtain ⟨rfl, P, C, M, c, i, n, v, hb, -⟩ := h
  intro j hj
  simp only [List.mem_cons, List.not_mem_nil, or_false] at hj
  subst hj
  exact hb.lt
theorem IsP.keep (h : IsP w g F t) (hk : ∀ k ∈ F, w'.heap[k]? = w.heap[k]?) : IsP w' g F t := by
  obtain ⟨rfl, P, C, M, c, i, n, v, hb, hr⟩ := h
  exact ⟨rfl, P, C, M, c, i, n, v, ⟨(hk g (by simp)).trans hb.eq⟩, hr⟩
theorem IsP.new (P C M c a b k : Int) (w : World) :
    Calls Try.prog 12 #[.agg #[.int .i64 P, .int .i64 C, .int .i64 M], .int .i64 c, .int .i64 a, .int .i64 b, .int .i64 k] w fun e w' => (∃ g F, e = .returned (.pointer (some ⟨g, 0, none⟩)) ∧ IsP w' g F (pk0 P C M c a b k) ∧ ∀ j ∈ F, w.heap.size ≤ j) ∧ Off [] w w' := by
  cases hk : readEntryB P C M (entryW a b k)
  · refine (putter_new_none P C M c a b k hk w).mono ?_
    rintro e w' ⟨⟨g, rfl, hb, hg⟩, o⟩
    have ho : (pk0 P C M c a b k).over = true := readEntry_over P C M c a b k hk
    exact ⟨⟨g, [g], rfl, ⟨rfl, _, _, _, _, _, _, _, hb, fun _ => rfl, fun h => (by rw [ho] at h; cases h)⟩, by simpa using hg⟩, o⟩
  · refine (putter_new_some P C M c a b k hk w).mono ?_
    rintro e w' ⟨⟨g, rfl, hb, hg⟩, o⟩
    have hn := nxt_put P C M c a b k hk
    refine ⟨⟨g, [g], rfl, ⟨rfl, _, _, _, _, _, _, _, hb, fun h => ?_, fun h => ⟨⟨rfl, rfl, rfl⟩, rfl, rfl, rfl, ?_⟩⟩, by simpa using hg⟩, o⟩
    · have h' : overP P C M c a b k = true := h
      rw [hn, if_pos h']
    · have h' : overP P C M c a b k = false := h
      rw [hn, h']; rfl
theorem IsP.done (h : IsP w g F t) : Calls Try.prog 15 #[.pointer (some ⟨g, 0, none⟩)] w fun e w' => e = .returned (.bool t.over) ∧ Off [] w w' := by
  obtain ⟨-, P, C, M, c, i, n, v, hb, h1, h2⟩ := h
  refine (putter_done_raw hb).mono ?_
  rintro e w' ⟨rfl, rfl⟩
  refine ⟨?_, Off.refl _ _⟩
  cases ho : t.over
  · obtain ⟨-, -, -, -, h3⟩ := h2 ho
    rw [h3]
    split <;> rfl
  · rw [h1 ho]; rfl
theorem IsP.tells (h : IsP w g F t) : Calls Try.prog 18 #[.pointer (some ⟨g, 0, none⟩)] w fun e w' => e = .returned (.bool t.put) ∧ Off [] w w' := by
  obtain ⟨-, P, C, M, c, i, n, v, hb, -⟩ := h
  refine (putter_put_raw hb).mono ?_
  rintro e w' ⟨rfl, rfl⟩
  exact ⟨rfl, Off.refl _ _⟩
theorem IsP.step {gw hw : Nat} {s : St} (h : IsP w g F t) (hok : t.Ok) (hp : IsW w gw hw s) (hgw : gw ∉ F) (hgh : hw ∉ F) (hlen : t.over = false → (s.row.length : Int) = wordsI t.P t.C t.M) (hs0 : 0 ≤ s.steps) (hs1 : s.steps < 9223372036854775807) :
    Calls Try.prog 14 #[.pointer (some ⟨g, 0, none⟩), .pointer (some ⟨gw, 0, none⟩)] w fun e w' => e = .returned (.tuple #[]) ∧ (∃ F', IsP w' g F' (t.next s) ∧ ∀ j ∈ F', j ∈ F ∨ w.heap.size ≤ j) ∧ IsW w' gw hw (t.words s) ∧ Off (gw :: hw :: F) w w' := by
  obtain ⟨rfl, P, C, M, c, i, n, v, hb, h1, h2⟩ := h
  have n1 : g ≠ gw := fun e => hgw (by simp [e])
  have n2 : g ≠ hw := fun e => hgh (by simp [e])
  have sub : ∀ {a b : World}, Off [g, gw, hw] a b → Off (gw :: hw :: [g]) a b := fun o => o.more (fun k hk => by simp only [List.mem_cons, List.not_mem_nil, or_false] at hk ⊢; omega)
  cases ho : t.over
  · obtain ⟨⟨rfl, rfl, rfl⟩, rfl, rfl, rfl, rfl⟩ := h2 ho
    obtain ⟨q1, q2, q3⟩ := hok.run ho
    obtain ⟨q4, q5⟩ := hok.at ho
    have hal : t.at < s.row.length := by have := hlen ho; omega
    have hi1 : ((t.i : Nat) : Int) < 9223372036854775807 := by have := q1.m2; omega
    cases hh2 : t.hit
    · rw [hh2] at hb
      by_cases hq : s.at t.at = 0
      · refine (putter_step_look (hb : Blk w g _ (pcs t.P t.C t.M t.c t.i 1 t.x t.put)) hp n1 n2 t.at q4.symm hal hs0 hs1 (fun W hW => by rw [hq]; exact putter_see_yes hW) (fun W hW => putter_three hW)).mono ?_
        rintro e w' ⟨rfl, hb', hp', o⟩
        have en : t.next s = { t with hit := true } := by unfold Pk.next; rw [ho, hh2, if_pos hq]; rfl
        have ew : t.words s = s.note ⟨t.c, 0, t.at, s.at t.at, 0, true⟩ := by unfold Pk.words; rw [ho, hh2]; rfl
        rw [en, ew]
        exact ⟨rfl, ⟨[g], ⟨rfl, _, _, _, _, _, _, _, hb', fun h => (by have h' : t.over = true := h; rw [ho] at h'; cases h'), fun _ => ⟨⟨rfl, rfl, rfl⟩, rfl, rfl, rfl, rfl⟩⟩, fun j hj => .inl hj⟩, hp', sub o⟩
      · have hnx := nxt_next q1 q2 q3 1
        refine (putter_step_look (hb : Blk w g _ (pcs t.P t.C t.M t.c t.i 1 t.x t.put)) hp n1 n2 t.at q4.symm hal hs0 hs1 (fun W hW => putter_see_no hW (by omega) hi1 hq) (fun W hW => putter_three hW)).mono ?_
        rintro e w' ⟨rfl, hb', hp', o⟩
        have en : t.next s = { t with i := t.i + 1, over := decide (((t.i + 1 : Nat) : Int) = t.M) } := by unfold Pk.next; rw [ho, hh2, if_neg hq]; rfl
        have ew : t.words s = s.note ⟨t.c, 0, t.at, s.at t.at, 0, true⟩ := by unfold Pk.words; rw [ho, hh2]; rfl
        rw [en, ew]
        refine ⟨rfl, ⟨[g], ⟨rfl, _, _, _, _, _, _, _, hb', fun h => ?_, fun h => ⟨⟨rfl, rfl, rfl⟩, rfl, by show (t.i : Int) + 1 = ((t.i + 1 : Nat) : Int); omega, rfl, ?_⟩⟩, fun j hj => .inl hj⟩, hp', sub o⟩
        · rw [hnx, if_pos (by simpa using h)]
        · have h' : ¬ ((t.i + 1 : Nat) : Int) = t.M := by simpa using h
          rw [hnx, if_neg h', hh2]; rfl
    · rw [hh2] at hb
      refine (putter_step_store (hb : Blk w g _ (pcs t.P t.C t.M t.c t.i 2 t.x t.put)) hp n1 n2 t.at q4.symm hal hs0 hs1).mono ?_
      rintro e w' ⟨rfl, hb', hp', o⟩
      have en : t.next s = { t with put := true, over := true } := by unfold Pk.next; rw [ho, hh2]; rfl
      have ew : t.words s = (s.note ⟨t.c, 1, t.at, s.at t.at, t.x, true⟩).lay t.at t.x := by unfold Pk.words; rw [ho, hh2]; rfl
      rw [en, ew]
      exact ⟨rfl, ⟨[g], ⟨rfl, _, _, _, _, _, _, _, hb', fun _ => rfl, fun h => (by cases h)⟩, fun j hj => .inl hj⟩, hp', sub o⟩
  · obtain rfl := h1 ho
    refine (putter_step_over (gw := gw) hb).mono ?_
    rintro e w' ⟨rfl, rfl⟩
    have en : t.next s = t := by unfold Pk.next; rw [if_pos ho]
    have ew : t.words s = s := by unfold Pk.words; rw [if_pos ho]
    rw [en, ew]
    exact ⟨rfl, ⟨[g], ⟨rfl, _, _, _, _, _, _, _, hb, h1, h2⟩, fun j hj => .inl hj⟩, hp, Off.refl _ _⟩
end

theorem con_putter : ConP IsP where
  lt := IsP.lt
  keep := IsP.keep
  new := IsP.new
  step := IsP.step
  done := IsP.done
  put := IsP.tells

end Go.Proofs.Ytdnahojpeplajaa.Mag
