/- The program's judge: play and Hear, whatever is heard. -/
import Derived.Test.YtfgkjfneeggbjaaJgE
namespace Go.Proofs.Ytfgkjfneeggbjaa.Jud
open Go.RowKit Mem Go.Proofs.Ytfgkjfneeggbjaa.Mod Go.Proofs.Ytfgkjfneeggbjaa.Plan
set_option maxRecDepth 100000
set_option maxHeartbeats 4000000

theorem wrap_step (a : Int) : wrap64 (wrap64 a + 1) = wrap64 (a + 1) := by
  unfold wrap64
  omega

theorem why_may {W : Int} {l : List Bk} {p : Pty} {e : Ev} (h : mayP p e = false) : whyP W l p e = 1 := by
  unfold mayP at h
  unfold whyP
  by_cases k0 : e.kind = 0
  · rw [if_pos k0] at h ⊢
    rw [if_pos (by simpa using h)]
  rw [if_neg k0] at h ⊢
  by_cases k1 : e.kind = 1
  · rw [if_pos k1] at h ⊢
    rw [if_pos h]
  rw [if_neg k1] at h ⊢
  by_cases k2 : e.kind = 2
  · rw [if_pos k2] at h ⊢
    rw [if_pos]
    revert h
    cases p.lives <;> cases p.asks <;> simp
    omega
  rw [if_neg k2] at h ⊢
  by_cases k3 : e.kind = 3
  · rw [if_pos (by omega)] at h
    rw [if_pos k3, if_pos (.inr h)]
  by_cases k4 : e.kind = 4
  · rw [if_pos (by omega)] at h
    rw [if_neg k3, if_pos k4, if_pos (.inr h)]
  by_cases k5 : e.kind = 5
  · rw [if_pos (by omega)] at h
    rw [if_neg k3, if_neg k4, if_pos k5, if_pos (.inr h)]
  rw [if_neg k3, if_neg k4, if_neg k5]

theorem calls_w {f : FuncId} {a : Array Value} {w : World} {v v' : Int} {Q : World → Prop} (h : Calls Try.prog f a w fun r w' => r = .returned (.int .i64 v) ∧ Q w') (e : v' = v) {R : World → Prop} (k : ∀ w', Q w' → R w') :
    Calls Try.prog f a w fun r w' => r = .returned (.int .i64 v') ∧ R w' := h.mono fun _ _ q => ⟨e ▸ q.1, k _ q.2⟩

theorem play_any {w : World} {g h b : Nat} {Fm F : List Nat} {tb : Nat → Nat} {s : St} {x y : Int} (B : Body w g h b Fm tb s x y) (O : Own b Fm tb s F) (e : Ev) :
    Calls Try.prog 19 #[.pointer (some ⟨g, 0, none⟩), evV e] w fun r w' => r = .returned (.int .i64 (whyS s e)) ∧ (whyS s e ≠ 0 → PlayNo w g h b Fm tb s x y F w') ∧ (whyS s e = 0 → 0 ≤ e.client ∧ e.client.toNat < s.c ∧ PlayOk w g h b Fm tb s x y F e.client.toNat (nextP (s.p e.client.toNat) e) (nextL s.l e) w') := by
  by_cases hin : 0 ≤ e.client ∧ e.client < s.c
  · obtain ⟨i, hc⟩ : ∃ i : Nat, e.client = i := ⟨e.client.toNat, by omega⟩
    have hi : i < s.c := by omega
    have hw : whyS s e = whyP s.W s.l (s.p i) e := by unfold whyS; rw [if_pos hin, hc]; rfl
    rw [hw]
    have h1 : e.client.toNat = i := by omega
    rw [h1]
    have hl : (s.p i).asks = true → (s.p i).lives = true := fun ha => (B.task i hi ha).2.2
    have no : ∀ {v : Int}, whyP s.W s.l (s.p i) e = v → v ≠ 0 → (Calls Try.prog 19 #[.pointer (some ⟨g, 0, none⟩), evV e] w fun r w' => r = .returned (.int .i64 v) ∧ PlayNo w g h b Fm tb s x y F w') →
        Calls Try.prog 19 #[.pointer (some ⟨g, 0, none⟩), evV e] w fun r w' => r = .returned (.int .i64 (whyP s.W s.l (s.p i) e)) ∧ (whyP s.W s.l (s.p i) e ≠ 0 → PlayNo w g h b Fm tb s x y F w') ∧ (whyP s.W s.l (s.p i) e = 0 → 0 ≤ e.client ∧ i < s.c ∧ PlayOk w g h b Fm tb s x y F i (nextP (s.p i) e) (nextL s.l e) w') :=
      fun he hv hk => calls_w hk he (fun w' q => ⟨fun _ => q, fun h0 => absurd (he.symm.trans h0) hv⟩)
    have ok : ∀ {q : Pty} {l' : List Bk}, whyP s.W s.l (s.p i) e = 0 → nextP (s.p i) e = q → nextL s.l e = l' → (Calls Try.prog 19 #[.pointer (some ⟨g, 0, none⟩), evV e] w fun r w' => r = .returned (.int .i64 0) ∧ PlayOk w g h b Fm tb s x y F i q l' w') →
        Calls Try.prog 19 #[.pointer (some ⟨g, 0, none⟩), evV e] w fun r w' => r = .returned (.int .i64 (whyP s.W s.l (s.p i) e)) ∧ (whyP s.W s.l (s.p i) e ≠ 0 → PlayNo w g h b Fm tb s x y F w') ∧ (whyP s.W s.l (s.p i) e = 0 → 0 ≤ e.client ∧ i < s.c ∧ PlayOk w g h b Fm tb s x y F i (nextP (s.p i) e) (nextL s.l e) w') :=
      fun he hq hl hk => calls_w hk he (fun w' q => ⟨fun h0 => absurd he h0, fun _ => ⟨hin.1, hi, by rw [hq, hl]; exact q⟩⟩)
    cases hm : mayP (s.p i) e
    · exact no (why_may hm) (by decide) (play_may B hi e hc hm)
    · by_cases k0 : e.kind = 0
      · have hwas : (s.p i).was = false := by
          have h := hm
          unfold mayP at h
          rw [if_pos k0] at h
          simpa using h
        exact ok (by unfold whyP; rw [if_pos k0, if_neg (by rw [hwas]; decide)]) (by unfold nextP; rw [if_pos k0]) (by unfold nextL; rw [if_neg (by omega), if_neg (by omega)]) (play_started B O hi e hc hm k0)
      by_cases k1 : e.kind = 1
      · have hlv : ¬ (s.p i).lives = false := by
          have h := hm
          unfold mayP at h
          rw [if_neg k0, if_pos k1] at h
          simp [h]
        by_cases hat : (s.p i).asks = true ∧ (s.p i).took = true
        · exact no (by unfold whyP; rw [if_neg k0, if_pos k1, if_neg hlv, if_pos hat]) (by decide) (play_kill_no B O hi e hc hm k1 hat.1 hat.2)
        · exact ok (by unfold whyP; rw [if_neg k0, if_pos k1, if_neg hlv, if_neg hat]) (by unfold nextP; rw [if_neg k0, if_pos k1]) (by unfold nextL; rw [if_neg (by omega), if_neg (by omega)]) (play_kill_ok B O hi e hc hm k1 hat)
      by_cases k2 : e.kind = 2
      · have hq : ¬ ((s.p i).lives = false ∨ (s.p i).asks = true ∨ e.ok < 1 ∨ 4 < e.ok) := by
          have h := hm
          unfold mayP at h
          rw [if_neg k0, if_neg k1, if_pos k2] at h
          simp only [Bool.and_eq_true, decide_eq_true_eq, Bool.not_eq_true'] at h
          obtain ⟨⟨⟨a, b⟩, c⟩, d⟩ := h
          rw [a, b]
          simp
          omega
        exact ok (by unfold whyP; rw [if_neg k0, if_neg k1, if_pos k2, if_neg hq]) (by unfold nextP; rw [if_neg k0, if_neg k1, if_pos k2]) (by unfold nextL; rw [if_neg (by omega), if_neg (by omega)]) (play_invoked B O hi e hc hm k2)
      by_cases k3 : e.kind = 3
      · have ha : (s.p i).asks = true := by
          have h := hm
          unfold mayP at h
          rwa [if_neg k0, if_neg k1, if_neg k2, if_pos (by omega)] at h
        have hq : ¬ ((s.p i).lives = false ∨ (s.p i).asks = false) := by rw [ha, hl ha]; simp
        cases ht : tookN (s.p i) e.n
        · exact no (by unfold whyP; rw [if_neg k0, if_neg k1, if_neg k2, if_pos k3, if_neg hq, if_neg (by rw [show tookB (s.p i) e = false from ht]; decide)]) (by decide) (play_take_silent B O hi e hc hm k3 ha ht)
        · cases hb : canB s.W s.l e.at_ e.n
          · exact no (by unfold whyP; rw [if_neg k0, if_neg k1, if_neg k2, if_pos k3, if_neg hq, if_pos (show tookB (s.p i) e = true from ht), if_neg (by rw [hb]; decide)]) (by decide) (play_take_no B O hi e hc hm k3 ha ht hb)
          · exact ok (by unfold whyP; rw [if_neg k0, if_neg k1, if_neg k2, if_pos k3, if_neg hq, if_pos (show tookB (s.p i) e = true from ht), if_pos hb]) (by unfold nextP; rw [if_neg k0, if_neg k1, if_neg k2, if_pos k3]) (by unfold nextL; rw [if_pos k3]) (play_take_ok B O hi e hc hm k3 ha ht hb)
      by_cases k4 : e.kind = 4
      · have ha : (s.p i).asks = true := by
          have h := hm
          unfold mayP at h
          rwa [if_neg k0, if_neg k1, if_neg k2, if_pos (by omega)] at h
        have hq : ¬ ((s.p i).lives = false ∨ (s.p i).asks = false) := by rw [ha, hl ha]; simp
        cases ht : gaveN (s.p i) e.at_
        · exact no (by unfold whyP; rw [if_neg k0, if_neg k1, if_neg k2, if_neg k3, if_pos k4, if_neg hq, if_neg (by rw [show gaveB (s.p i) e = false from ht]; decide)]) (by decide) (play_give_silent B O hi e hc hm k4 ha ht)
        · cases hb : giveB s.l e.at_
          · exact no (by unfold whyP; rw [if_neg k0, if_neg k1, if_neg k2, if_neg k3, if_pos k4, if_neg hq, if_pos (show gaveB (s.p i) e = true from ht), if_neg (by rw [hb]; decide)]) (by decide) (play_give_no B O hi e hc hm k4 ha ht hb)
          · exact ok (by unfold whyP; rw [if_neg k0, if_neg k1, if_neg k2, if_neg k3, if_pos k4, if_neg hq, if_pos (show gaveB (s.p i) e = true from ht), if_pos hb]) (by unfold nextP; rw [if_neg k0, if_neg k1, if_neg k2, if_neg k3, if_pos k4]) (by unfold nextL; rw [if_neg k3, if_pos k4]) (play_give_ok B O hi e hc hm k4 ha ht hb)
      by_cases k5 : e.kind = 5
      · have ha : (s.p i).asks = true := by
          have h := hm
          unfold mayP at h
          rwa [if_neg k0, if_neg k1, if_neg k2, if_pos (by omega)] at h
        have hq : ¬ ((s.p i).lives = false ∨ (s.p i).asks = false) := by rw [ha, hl ha]; simp
        cases ht : answerN (s.p i) e.err e.at_
        · exact no (by unfold whyP; rw [if_neg k0, if_neg k1, if_neg k2, if_neg k3, if_neg k4, if_pos k5, if_neg hq, answerN_eq, ht]; rfl) (by decide) (play_answer_no B O hi e hc hm k5 ha ht)
        · exact ok (by unfold whyP; rw [if_neg k0, if_neg k1, if_neg k2, if_neg k3, if_neg k4, if_pos k5, if_neg hq, answerN_eq, ht]; rfl) (by unfold nextP; rw [if_neg k0, if_neg k1, if_neg k2, if_neg k3, if_neg k4]) (by unfold nextL; rw [if_neg k3, if_neg k4]) (play_answer_ok B O hi e hc hm k5 ha ht)
      · exfalso
        have h := hm
        unfold mayP at h
        rw [if_neg k0, if_neg k1, if_neg k2, if_neg (by omega)] at h
        cases h
  · have hw : whyS s e = 1 := by unfold whyS; rw [if_neg hin]
    rw [hw]
    exact (play_out B e hin).mono fun _ _ q => ⟨q.1, fun _ => q.2, fun h => absurd h (by decide)⟩

/-- The judge, whole, with all blocks that are its own. -/
def Full (w : World) (g : Nat) (F : List Nat) (s : St) (x y : Int) : Prop :=
  ∃ h b Fm tb, Body w g h b Fm tb s x y ∧ Own b Fm tb s F ∧ g ∈ F ∧ ∀ k ∈ F, k < w.heap.size

theorem Body.ruled {w : World} {g h b : Nat} {Fm : List Nat} {tb : Nat → Nat} {s : St} {x y : Int} (B : Body w g h b Fm tb s x y) (x' y' : Int) :
    Body ((w.setCell ⟨g, 3, none⟩ (.int .i64 x')).setCell ⟨g, 4, none⟩ (.int .i64 y')) g h b Fm tb s x' y' := by
  obtain ⟨a1, a2, a3, a4⟩ := B.apart
  have ho : Off [g] w ((w.setCell ⟨g, 3, none⟩ (.int .i64 x')).setCell ⟨g, 4, none⟩ (.int .i64 y')) := ((Off.refl _ _).set (.inl (by simp)) _).set (.inl (by simp)) _
  exact ⟨((B.obj.set 3 _).set 4 _).to (by simp), B.row.off ho (by simpa using Ne.symm a1), B.mod.keep ho (fun k hk => by simp only [List.mem_singleton] at hk; subst hk; exact a2), fun i hi ha => ⟨ho.blk (B.task i hi ha).1 (by simpa using (a4 i hi ha).1), (B.task i hi ha).2⟩, B.inj, B.small, B.was⟩
theorem Body.heard {w : World} {g h b : Nat} {Fm : List Nat} {tb : Nat → Nat} {s : St} {x y : Int} (B : Body w g h b Fm tb s x y) :
    Body (w.setCell ⟨g, 2, none⟩ (.int .i64 (wrap64 ((s.i : Int) + 1)))) g h b Fm tb { s with i := s.i + 1 } x y := by
  obtain ⟨a1, a2, a3, a4⟩ := B.apart
  have ho : Off [g] w (w.setCell ⟨g, 2, none⟩ (.int .i64 (wrap64 ((s.i : Int) + 1)))) := (Off.refl _ _).set (.inl (by simp)) _
  exact ⟨(B.obj.set 2 _).to (by simp), B.row.off ho (by simpa using Ne.symm a1), B.mod.keep ho (fun k hk => by simp only [List.mem_singleton] at hk; subst hk; exact a2), fun i hi ha => ⟨ho.blk (B.task i hi ha).1 (by simpa using (a4 i hi ha).1), (B.task i hi ha).2⟩, B.inj, B.small, B.was⟩
theorem Full.keep {w w' : World} {g : Nat} {F S : List Nat} {s : St} {x y : Int} (h : Full w g F s x y) (ho : Off S w w') (hs : ∀ k ∈ S, k ∉ F) : Full w' g F s x y := by
  obtain ⟨m, b, Fm, tb, B, O, hg, hl⟩ := h
  exact ⟨m, b, Fm, tb, B.keep ho (fun k => hs g k hg) (fun k => hs b k O.row) (fun k hk hm => hs k hk (O.mod k hm)) (fun i hi ha hk => hs _ hk (O.task i hi ha)), O, hg, fun k hk => Nat.lt_of_lt_of_le (hl k hk) ho.size⟩

/-- All blocks of a judge. -/
def allF (g b : Nat) (Fm : List Nat) (tb : Nat → Nat) (s : St) : List Nat := g :: b :: (Fm ++ ((List.range s.c).filter fun j => (s.p j).asks).map tb)
theorem mem_allF {g b k : Nat} {Fm : List Nat} {tb : Nat → Nat} {s : St} : k ∈ allF g b Fm tb s ↔ k = g ∨ k = b ∨ k ∈ Fm ∨ ∃ j, j < s.c ∧ (s.p j).asks = true ∧ tb j = k := by
  simp [allF, and_assoc]
theorem Full.of {w : World} {g h b : Nat} {Fm : List Nat} {tb : Nat → Nat} {s : St} {x y : Int} (B : Body w g h b Fm tb s x y) : Full w g (allF g b Fm tb s) s x y := by
  refine ⟨h, b, Fm, tb, B, ⟨mem_allF.2 (.inr (.inl rfl)), fun k hk => mem_allF.2 (.inr (.inr (.inl hk))), fun j hj ha => mem_allF.2 (.inr (.inr (.inr ⟨j, hj, ha, rfl⟩)))⟩, mem_allF.2 (.inl rfl), fun k hk => ?_⟩
  rcases mem_allF.1 hk with rfl | rfl | hk | ⟨j, hj, ha, rfl⟩
  · exact B.obj.lt
  · obtain ⟨cs, hb, -, -⟩ := B.row.blk
    exact hb.lt
  · exact B.mod.lt k hk
  · exact (B.task j hj ha).1.lt

/-- Once something is not so, nothing is played. -/
theorem hear_bad {w : World} {g : Nat} {F : List Nat} {s : St} {x y : Int} (hf : Full w g F s x y) (hy : y ≠ 0) (e : Ev) :
    Calls Try.prog 10 #[.pointer (some ⟨g, 0, none⟩), evV e] w fun r w' => r = .returned (.bool false) ∧ Off [] w w' := by
  obtain ⟨h, b, Fm, tb, B, O, hg, -⟩ := hf
  obtain ⟨-, -, -, -, c4⟩ := B.read
  have hlt := B.obj.lt
  have dy : (y != 0) = true := by simpa using hy
  obtain ⟨kind, client, ok, oa, on, at', nn, err⟩ := e
  clear B O hg hy
  go_enter Try.func10, Try.ntmps10
  go_wp2
  go_ret
  exact ⟨rfl, (Off.refl _ _).alloc _⟩

theorem hear_no {w : World} {g : Nat} {F : List Nat} {s : St} (hf : Full w g F s 0 0) (e : Ev) (hw : whyS s e ≠ 0) :
    Calls Try.prog 10 #[.pointer (some ⟨g, 0, none⟩), evV e] w fun r w' => r = .returned (.bool false) ∧ Off F w w' ∧ ∃ F', (∀ k ∈ F', k ∈ F ∨ w.heap.size ≤ k) ∧ Full w' g F' s (wrap64 s.i) (whyS s e) := by
  obtain ⟨h, b, Fm, tb, B, O, hg, hl⟩ := hf
  have hlt := B.obj.lt
  obtain ⟨-, -, -, -, c4⟩ := B.read
  have HP : Hid (∀ W, Off [] w W → Calls Try.prog 19 #[.pointer (some ⟨g, 0, none⟩), evV e] W fun r w' => r = .returned (.int .i64 (whyS s e)) ∧ PlayNo W g h b Fm tb s 0 0 F w') := Lib.hid (fun W o => (play_any (B.off0 o) O e).mono fun _ _ q => ⟨q.1, q.2.1 hw⟩)
  have HO := Lib.hid O
  have HG := Lib.hid hg
  have dy : (whyS s e != 0) = true := by simpa using hw
  generalize whyS s e = y at *
  obtain ⟨kind, client, ok, oa, on, at', nn, err⟩ := e
  clear B O hg hl hw
  go_enter Try.func10, Try.ntmps10
  go_upto_region 5 with (go_at_call 19; refine (HP.out _ ((Off.refl _ _).alloc _)).mono ?_; rintro r w4 ⟨rfl, o4, Fm', hB, hfm⟩)
  have HB := Lib.hid hB
  have HF := Lib.hid hfm
  have HO4 := Lib.hid ((((Off.refl [] w).alloc (.cells (evL ⟨kind, client, ok, oa, on, at', nn, err⟩).toArray 41)).more (by simp)).trans o4)
  obtain ⟨-, -, d2, d3, d4⟩ := HB.out.read
  have z3 := HB.out.obj.free 3
  have z4 := HB.out.obj.free 4
  clear hB hfm o4 HP c4
  go_wp2
  go_ret
  refine ⟨rfl, HO4.out.trans (((Off.refl _ _).set (.inl HG.out) _).set (.inl HG.out) _), _, fun k hk => ?_, Full.of (HB.out.ruled _ _)⟩
  rcases mem_allF.1 hk with rfl | rfl | hk | ⟨j, hj, ha, rfl⟩
  · exact .inl HG.out
  · exact .inl HO.out.row
  · rcases HF.out k hk with h1 | h1
    · exact .inl (HO.out.mod k h1)
    · right
      have h2 : (w.alloc (.cells (evL ⟨kind, client, ok, oa, on, at', nn, err⟩).toArray 41)).heap.size ≤ k := h1
      simp at h2
      omega
  · exact .inl (HO.out.task j hj ha)

theorem hear_ok {w : World} {g : Nat} {F : List Nat} {s : St} (hf : Full w g F s 0 0) (e : Ev) (hw : whyS s e = 0) :
    Calls Try.prog 10 #[.pointer (some ⟨g, 0, none⟩), evV e] w fun r w' => r = .returned (.bool true) ∧ Off F w w' ∧ ∃ F', (∀ k ∈ F', k ∈ F ∨ w.heap.size ≤ k) ∧ Full w' g F' (nextS s e) 0 0 := by
  obtain ⟨h, b, Fm, tb, B, O, hg, hl⟩ := hf
  have hlt := B.obj.lt
  obtain ⟨-, -, -, -, c4⟩ := B.read
  have HP : Hid (∀ W, Off [] w W → Calls Try.prog 19 #[.pointer (some ⟨g, 0, none⟩), evV e] W fun r w' => r = .returned (.int .i64 0) ∧ PlayOk W g h b Fm tb s 0 0 F e.client.toNat (nextP (s.p e.client.toNat) e) (nextL s.l e) w') := Lib.hid (fun W o => (play_any (B.off0 o) O e).mono fun _ _ q => ⟨hw ▸ q.1, (q.2.2 hw).2.2⟩)
  have HO := Lib.hid O
  have HG := Lib.hid hg
  have HS : Hid (∀ i, (nextS s e).p i = absentP (nextL s.l e) (if i = e.client.toNat then nextP (s.p e.client.toNat) e else s.p i)) := Lib.hid (fun i => by
    unfold nextS
    dsimp only
    by_cases e1 : i = e.client.toNat
    · rw [if_pos e1, if_pos e1, e1]
    · rw [if_neg e1, if_neg e1])
  have HN : Hid (nextS s e = { W := s.W, c := s.c, l := nextL s.l e, p := (nextS s e).p, i := s.i + 1 }) := Lib.hid rfl
  generalize nextS s e = s' at *
  generalize nextL s.l e = l' at *
  generalize e.client.toNat = ci at *
  generalize nextP (s.p ci) e = q at *
  obtain ⟨kind, client, ok, oa, on, at', nn, err⟩ := e
  clear B O hg hl hw
  go_enter Try.func10, Try.ntmps10
  go_upto_region 7 with (go_at_call 19; refine (HP.out _ ((Off.refl _ _).alloc _)).mono ?_; rintro r w4 ⟨rfl, o4, Fm', tb', hB, hfm, htb⟩)
  have HB := Lib.hid hB
  have HF := Lib.hid hfm
  have HT : Hid (∀ j, j < s.c → (if j = ci then q else s.p j).asks = true → tb' j ∈ F ∨ w.heap.size < tb' j) := Lib.hid (fun j hj ha => by
    rcases htb j hj ha with ⟨h1, h2⟩ | h1
    · exact .inl (h1 ▸ HO.out.task j hj h2)
    · right
      have h2 : (w.alloc (.cells (evL ⟨kind, client, ok, oa, on, at', nn, err⟩).toArray 41)).heap.size ≤ tb' j := h1
      simp at h2
      omega)
  have HO4 := Lib.hid ((((Off.refl [] w).alloc (.cells (evL ⟨kind, client, ok, oa, on, at', nn, err⟩).toArray 41)).more (by simp)).trans o4)
  obtain ⟨-, -, d2, d3, d4⟩ := HB.out.read
  have z2 := HB.out.obj.free 2
  have hws := wrap_step s.i
  have HB5 := Lib.hid HB.out.heard
  clear hB hfm o4 HP c4 htb
  go_wp2_with (go_at_call 20; refine (look_any HB5.out (T := ((List.range s.c).filter fun j => (if j = ci then q else s.p j).asks).map tb') (fun j hj ha => by simpa using ⟨j, ⟨hj, ha⟩, rfl⟩)).mono ?_; rintro r w6 ⟨rfl, hB6, o6⟩)
  go_ret
  have HTT : ∀ k ∈ ((List.range s.c).filter fun j => (if j = ci then q else s.p j).asks).map tb', k ∈ F ∨ w.heap.size ≤ k := fun k hk => by
    simp only [List.mem_map, List.mem_filter, List.mem_range] at hk
    obtain ⟨j, ⟨hj, ha⟩, rfl⟩ := hk
    exact (HT.out j hj ha).imp id Nat.le_of_lt
  refine ⟨rfl, (HO4.out.set (.inl HG.out) _).trans' o6 HTT, allF g b Fm' tb' s', fun k hk => ?_, ?_⟩
  · rw [HN.out] at hk
    rcases mem_allF.1 hk with rfl | rfl | hk | ⟨j, hj, ha, rfl⟩
    · exact .inl HG.out
    · exact .inl HO.out.row
    · rcases HF.out k hk with h1 | h1
      · exact .inl (HO.out.mod k h1)
      · right
        have h2 : (w.alloc (.cells (evL ⟨kind, client, ok, oa, on, at', nn, err⟩).toArray 41)).heap.size ≤ k := h1
        simp at h2
        omega
    · dsimp only at ha
      rw [HS.out, (absent_asks _ _).1] at ha
      exact (HT.out j hj ha).imp id Nat.le_of_lt
  · have := hB6.same (p' := s'.p) (fun j _ => by rw [HS.out])
    rw [HN.out]
    exact Full.of this

end Go.Proofs.Ytfgkjfneeggbjaa.Jud
