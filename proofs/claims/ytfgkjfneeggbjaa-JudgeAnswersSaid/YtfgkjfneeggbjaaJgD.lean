/- The program's judge: whole; what it looks at behind each event. (Written by tools/jglook_gen.py over tools/XJgD.src.) -/
import Derived.Test.YtfgkjfneeggbjaaJgC
import Derived.Deep.CutBlock
import Derived.Deep.RegionHeld3
namespace Go.Proofs.Ytfgkjfneeggbjaa.Jud
open Go.RowKit Mem Go.Proofs.Ytfgkjfneeggbjaa.Mod Go.Proofs.Ytfgkjfneeggbjaa.Plan
set_option maxRecDepth 100000
set_option maxHeartbeats 4000000

/-- The judge in block g: its model, its clients, what each has on its way. -/
structure Body (w : World) (g h b : Nat) (Fm : List Nat) (tb : Nat → Nat) (s : St) (x y : Int) : Prop where
  obj : Blk w g 35 #[.pointer (some ⟨h, 0, none⟩), .slice (some ⟨b, 0, none⟩) s.c s.c, .int .i64 (wrap64 s.i), .int .i64 x, .int .i64 y]
  row : Row w b s.c s.p tb
  mod : IsD w h Fm s.W s.l
  task : ∀ i, i < s.c → (s.p i).asks = true → Blk w (tb i) 72 (tkL (s.p i)).toArray ∧ kindOk (s.p i) ∧ (s.p i).lives = true
  inj : ∀ i j, i < s.c → j < s.c → (s.p i).asks = true → (s.p j).asks = true → tb i = tb j → i = j
  small : s.c ≤ 12
  was : ∀ i, i < s.c → (s.p i).lives = true → (s.p i).was = true

theorem Row3.cli {w : World} {b n : Nat} {p : Nat → Pty} {tb : Nat → Nat} (h : Row w b n p tb) {i : Nat} (hi : i < n) : Cli w b (i * 3) (p i) (tb i) := by
  obtain ⟨cs, hb, -, hc⟩ := h.blk
  obtain ⟨h0, h1, h2⟩ := hc i hi
  exact ⟨(hb.cell _).trans h0, (hb.cell _).trans h1, (hb.cell _).trans h2, hb.free _, hb.free _, hb.free _⟩
theorem Row3.off {w w' : World} {b n : Nat} {f0 f1 f2 : Nat → Value} {S : List Nat} (h : Row3 w b n f0 f1 f2) (ho : Off S w w') (hb : b ∉ S) : Row3 w' b n f0 f1 f2 := by
  obtain ⟨cs, hb', hs, hc⟩ := h.blk
  exact ⟨cs, ho.blk hb' hb, hs, hc⟩

section
variable {w w' : World} {g h b : Nat} {Fm : List Nat} {tb : Nat → Nat} {s : St} {x y : Int}
theorem Body.apart (B : Body w g h b Fm tb s x y) : g ≠ b ∧ g ∉ Fm ∧ b ∉ Fm ∧ ∀ i, i < s.c → (s.p i).asks = true → tb i ≠ g ∧ tb i ≠ b ∧ tb i ∉ Fm := by
  obtain ⟨cs, hb, -, -⟩ := B.row.blk
  refine ⟨B.obj.ne hb (by decide), not_in B.mod B.obj (by decide) (by decide), not_in B.mod hb (by decide) (by decide), fun i hi ha => ?_⟩
  have ht := (B.task i hi ha).1
  exact ⟨ht.ne B.obj (by decide), ht.ne hb (by decide), not_in B.mod ht (by decide) (by decide)⟩
theorem Body.keep {S : List Nat} (B : Body w g h b Fm tb s x y) (ho : Off S w w') (h1 : g ∉ S) (h2 : b ∉ S) (h3 : ∀ k ∈ S, k ∉ Fm) (h4 : ∀ i, i < s.c → (s.p i).asks = true → tb i ∉ S) : Body w' g h b Fm tb s x y :=
  ⟨ho.blk B.obj h1, B.row.off ho h2, B.mod.keep ho h3, fun i hi ha => ⟨ho.blk (B.task i hi ha).1 (h4 i hi ha), (B.task i hi ha).2⟩, B.inj, B.small, B.was⟩
theorem Body.off0 (B : Body w g h b Fm tb s x y) (ho : Off [] w w') : Body w' g h b Fm tb s x y := B.keep ho (by simp) (by simp) (by simp) (by simp)
/-- Other parties that say the same. -/
theorem Body.same (B : Body w g h b Fm tb s x y) {p' : Nat → Pty} (e : ∀ i, i < s.c → p' i = s.p i) : Body w g h b Fm tb { s with p := p' } x y := by
  refine ⟨B.obj, B.row.to (fun i hi => ?_), B.mod, fun i hi ha => ?_, fun i j hi hj ha hb => ?_, B.small, fun i hi ha => ?_⟩
  · dsimp only; rw [e i hi]; exact ⟨rfl, rfl, rfl⟩
  · dsimp only at *; rw [e i hi] at ha ⊢; exact B.task i hi ha
  · dsimp only at *; rw [e i hi] at ha; rw [e j hj] at hb; exact B.inj i j hi hj ha hb
  · dsimp only at *; rw [e i hi] at ha ⊢; exact B.was i hi ha
/-- The operation of client i says something else. -/
theorem Body.turn (B : Body w g h b Fm tb s x y) {i : Nat} (hi : i < s.c) (ha : (s.p i).asks = true) {q : Pty} (hq : q.was = (s.p i).was ∧ q.lives = (s.p i).lives ∧ q.asks = true ∧ kindOk q) (ho : Off [tb i] w w') (ht : Blk w' (tb i) 72 (tkL q).toArray) :
    Body w' g h b Fm tb { s with p := fun j => if j = i then q else s.p j } x y := by
  obtain ⟨a1, a2, a3, a4⟩ := B.apart
  obtain ⟨b1, b2, b3⟩ := a4 i hi ha
  refine ⟨ho.blk B.obj (by simpa using Ne.symm b1), (B.row.off ho (by simpa using Ne.symm b2)).to (fun j hj => ?_), B.mod.keep ho (fun k hk => by simp only [List.mem_singleton] at hk; subst hk; exact b3), fun j hj hja => ?_, fun j k hj hk hja hka => ?_, B.small, fun j hj hja => ?_⟩
  · dsimp only
    by_cases e : j = i
    · subst e
      rw [if_pos rfl, hq.1, hq.2.1]
      refine ⟨rfl, rfl, ?_⟩
      unfold tkV
      rw [ha, hq.2.2.1]
    · rw [if_neg e]; exact ⟨rfl, rfl, rfl⟩
  · dsimp only at hja ⊢
    by_cases e : j = i
    · subst e
      rw [if_pos rfl]
      exact ⟨ht, hq.2.2.2, hq.2.1.trans (B.task j hj ha).2.2⟩
    · rw [if_neg e] at hja ⊢
      exact ⟨ho.blk (B.task j hj hja).1 (fun hm => e (B.inj j i hj hi hja ha (by simpa using hm))), (B.task j hj hja).2⟩
  · dsimp only at hja hka
    have ha' : ∀ j, (if j = i then q else s.p j).asks = true → (s.p j).asks = true := fun j h => by
      by_cases e : j = i
      · subst e; exact ha
      · rwa [if_neg e] at h
    exact B.inj j k hj hk (ha' j hja) (ha' k hka)
  · dsimp only at hja ⊢
    by_cases e : j = i
    · subst e
      rw [if_pos rfl] at hja ⊢
      rw [hq.1]
      rw [hq.2.1] at hja
      exact B.was j hj hja
    · rw [if_neg e] at hja ⊢
      exact B.was j hj hja
/-- The model's row is another one. -/
theorem Body.model (B : Body w g h b Fm tb s x y) (ho : Off Fm w w') {F' : List Nat} {l' : List Bk} (hd : IsD w' h F' s.W l') : Body w' g h b F' tb { s with l := l' } x y := by
  obtain ⟨a1, a2, a3, a4⟩ := B.apart
  exact ⟨ho.blk B.obj a2, B.row.off ho a3, hd, fun i hi ha => ⟨ho.blk (B.task i hi ha).1 (a4 i hi ha).2.2, (B.task i hi ha).2⟩, B.inj, B.small, B.was⟩
/-- Client i says something else. -/
theorem Body.client (B : Body w g h b Fm tb s x y) {i : Nat} {q : Pty} {t : Nat} (ho : Off [b] w w') (hrow : Row w' b s.c (fun j => if j = i then q else s.p j) (fun j => if j = i then t else tb j))
    (hq : q.asks = true → Blk w' t 72 (tkL q).toArray ∧ kindOk q ∧ q.lives = true) (hne : q.asks = true → ∀ j, j < s.c → j ≠ i → (s.p j).asks = true → tb j ≠ t) (hw : q.lives = true → q.was = true) :
    Body w' g h b Fm (fun j => if j = i then t else tb j) { s with p := fun j => if j = i then q else s.p j } x y := by
  obtain ⟨a1, a2, a3, a4⟩ := B.apart
  refine ⟨ho.blk B.obj (by simpa using a1), hrow, B.mod.keep ho (fun k hk => by simp only [List.mem_singleton] at hk; subst hk; exact a3), fun j hj hja => ?_, fun j k hj hk hja hka he => ?_, B.small, fun j hj hja => ?_⟩
  · dsimp only at hja ⊢
    by_cases e : j = i
    · rw [if_pos e] at hja ⊢
      rw [if_pos e]
      exact hq hja
    · rw [if_neg e] at hja ⊢
      rw [if_neg e]
      exact ⟨ho.blk (B.task j hj hja).1 (by simpa using (a4 j hj hja).2.1), (B.task j hj hja).2⟩
  · dsimp only at hja hka he
    by_cases e : j = i
    · by_cases e2 : k = i
      · omega
      · rw [if_pos e] at hja he
        rw [if_neg e2] at hka he
        exact absurd he.symm (hne hja k hk e2 hka)
    · by_cases e2 : k = i
      · rw [if_neg e] at hja he
        rw [if_pos e2] at hka he
        exact absurd he (hne hka j hj e hja)
      · rw [if_neg e] at hja he
        rw [if_neg e2] at hka he
        exact B.inj j k hj hk hja hka he
  · dsimp only at hja ⊢
    by_cases e : j = i
    · rw [if_pos e] at hja ⊢
      exact hw hja
    · rw [if_neg e] at hja ⊢
      exact B.was j hj hja
theorem Body.read (B : Body w g h b Fm tb s x y) : w.cell? ⟨g, 0, none⟩ = some (.pointer (some ⟨h, 0, none⟩)) ∧ w.cell? ⟨g, 1, none⟩ = some (.slice (some ⟨b, 0, none⟩) s.c s.c) ∧ w.cell? ⟨g, 2, none⟩ = some (.int .i64 (wrap64 s.i)) ∧ w.cell? ⟨g, 3, none⟩ = some (.int .i64 x) ∧ w.cell? ⟨g, 4, none⟩ = some (.int .i64 y) :=
  ⟨B.obj.cell 0, B.obj.cell 1, B.obj.cell 2, B.obj.cell 3, B.obj.cell 4⟩
end

/-- So many have been looked at. -/
def lookP (l : List Bk) (p : Nat → Pty) (n : Nat) : Nat → Pty := fun j => if j < n then absentP l (p j) else p j
theorem absent_asks (l : List Bk) (q : Pty) : (absentP l q).asks = q.asks ∧ (absentP l q).a = q.a := by
  unfold absentP
  split <;> exact ⟨rfl, rfl⟩
theorem lookP_asks (l : List Bk) (p : Nat → Pty) (n j : Nat) : (lookP l p n j).asks = (p j).asks := by
  unfold lookP
  split
  · exact (absent_asks _ _).1
  · rfl
theorem look_skip {l : List Bk} {p : Nat → Pty} {n : Nat} (h : absentP l (p n) = p n) (j : Nat) : lookP l p (n + 1) j = lookP l p n j := by
  unfold lookP
  by_cases e : j = n
  · subst e; rw [if_pos (by omega), if_neg (by omega), h]
  · by_cases e2 : j < n
    · rw [if_pos (by omega), if_pos e2]
    · rw [if_neg (by omega), if_neg e2]
theorem look_turn {l : List Bk} {p : Nat → Pty} {n : Nat} {q : Pty} (h : absentP l (p n) = q) (j : Nat) : lookP l p (n + 1) j = if j = n then q else lookP l p n j := by
  by_cases e : j = n
  · subst e; rw [if_pos rfl, ← h]; unfold lookP; rw [if_pos (by omega)]
  · rw [if_neg e]
    unfold lookP
    by_cases e2 : j < n
    · rw [if_pos (by omega), if_pos e2]
    · rw [if_neg (by omega), if_neg e2]
def LookRel (w : World) (g h b : Nat) (Fm T : List Nat) (tb : Nat → Nat) (s : St) (x y : Int) (i : Value) (wr : World) : Prop :=
  Off T w wr ∧ ∃ n : Nat, n ≤ s.c ∧ i = .int .i64 n ∧ Body wr g h b Fm tb { s with p := lookP s.l s.p n } x y
theorem two_cells {w : World} {b : Nat} {t : TypeId} {x y : Value} (h : Blk w b t #[x, y]) : (w.frozen? ⟨b, 0, none⟩ = false ∧ w.frozen? ⟨b, 1, none⟩ = false) ∧ w.cell? ⟨b, 0, none⟩ = some x ∧ w.cell? ⟨b, 1, none⟩ = some y := ⟨⟨h.free 0, h.free 1⟩, h.cell 0, h.cell 1⟩

theorem look_any {w : World} {g h b : Nat} {Fm T : List Nat} {tb : Nat → Nat} {s : St} {x y : Int} (B : Body w g h b Fm tb s x y) (hT : ∀ i, i < s.c → (s.p i).asks = true → tb i ∈ T) :
    Calls Try.prog 20 #[.pointer (some ⟨g, 0, none⟩)] w fun e w' => e = .returned (.tuple #[]) ∧ Body w' g h b Fm tb { s with p := fun i => absentP s.l (s.p i) } x y ∧ Off T w w' := by
  have HT := Lib.hid hT
  obtain ⟨-, c1, -, -, -⟩ := B.read
  have HB := Lib.hid B
  have small := B.small
  clear B hT
  go_enter Try.func20, Try.ntmps20
  go_wp2
  go_loopw [3, 4, 5, 11] (fun _ _ _ i wr => LookRel w g h b Fm T tb s x y i wr) (fun _ _ _ i _ => s.c - (intOf i).toNat)
  case atStart => exact ⟨Off.refl _ _, 0, Nat.zero_le _, rfl, HB.out.same (fun i _ => by unfold lookP; rw [if_neg (Nat.not_lt_zero _)])⟩
  case round =>
    obtain ⟨ho, i, hi, rfl, hbr⟩ := hrel
    have HO := Lib.hid ho
    have HBR := Lib.hid hbr
    clear ho hbr HB
    by_cases hlt : i < s.c
    · have d1 : (i : Int) < (s.c : Int) := by omega
      have hli : lookP s.l s.p i i = s.p i := by unfold lookP; rw [if_neg (Nat.lt_irrefl _)]
      have hc := HBR.out.row.cli hlt
      dsimp only at hc
      rw [hli] at hc
      have hrb := hc.lt
      by_cases ha : (s.p i).asks = true
      · have hcl := hc
        obtain ⟨k0, k1, k2, -, -, -⟩ := hc
        unfold tkV at k2
        rw [if_pos ha] at k2
        have HTK := Lib.hid (HBR.out.task i hlt (by dsimp only; rw [hli]; exact ha))
        go_upto_region 4 with fail
        refine at_worldJ (R := fun W' => Off [] wr W' ∧ W'.cell? ⟨wr.heap.size, 2, none⟩ = some (.pointer (some ⟨tb i, 0, none⟩)) ∧ wr.heap.size < W'.heap.size) ⟨?_, ?_, ?_⟩ ?_
        · exact (Off.refl _ _).alloc _
        · exact (Blk.new wr _ _).cell 2
        · simp
        rintro W1 ⟨oW, hs, hsz⟩
        have HOW := Lib.hid oW
        have HA : Hid (∀ W, Off [] W1 W → Calls Try.prog 13 #[.pointer (some ⟨h, 0, none⟩), .int .i64 (s.p i).a] W fun e w' => e = .returned (.tuple #[.agg #[.int .i64 (fp (atF s.l (s.p i).a)), .int .i64 (fn (atF s.l (s.p i).a))], .bool (atF s.l (s.p i).a).isSome]) ∧ Off [] W w') := Lib.hid (fun W o => at_any (HBR.out.mod.off0 (HOW.out.trans o)) _)
        have HF : Hid (∀ W, Off [] W1 W → W.cell? ⟨g, 0, none⟩ = some (.pointer (some ⟨h, 0, none⟩)) ∧ W.cell? ⟨wr.heap.size, 2, none⟩ = some (.pointer (some ⟨tb i, 0, none⟩)) ∧ W.cell? ⟨tb i, 1, none⟩ = some (.int .i64 (s.p i).a)) := Lib.hid (fun W o => by
          have B2 := HBR.out.off0 (HOW.out.trans o)
          refine ⟨B2.read.1, (o.cell (p := ⟨wr.heap.size, 2, none⟩) hsz (by simp)).trans hs, ?_⟩
          have := (B2.task i hlt (by dsimp only; rw [hli]; exact ha)).1.cell 1
          dsimp only at this
          rw [hli] at this
          exact this)
        clear oW hs hsz k0 k1 k2 hcl
        go_cut [4, 5] from 18 to 32 (fun _ ok wx => ok = .bool (atF s.l (s.p i).a).isSome ∧ Off [] W1 wx)
        case first =>
          refine wp_region_noPanic ?_
          refine wp_region_held_drew (S := fun w' => w'.cell? ⟨g, 0, none⟩ = some (.pointer (some ⟨h, 0, none⟩)) ∧ w'.cell? ⟨wr.heap.size, 2, none⟩ = some (.pointer (some ⟨tb i, 0, none⟩)) ∧ w'.cell? ⟨tb i, 1, none⟩ = some (.int .i64 (s.p i).a)) (by kernel_rfl) (HF.out _ (Off.refl [] W1).drew) (fun hHeld => ?_)
          have o := (Off.refl [] W1).drew
          refine wpAnyH_take (i := 0) (v := ?_) rfl (by kernel_rfl) (by kernel_rfl) (by kernel_rfl) (fun _ _ _ h => h) (Or.inl ⟨by rfl, ?_⟩) (by assumption) ?_
          rotate_left
          · intro w hSw
            try dsimp only at hSw
            go_simp
            first | done | with_reducible rfl
          try simp only [List.getElem_toArray, List.getElem_cons_zero, Act.put, List.setIfInBounds_toArray, List.set_cons_zero, List.set_cons_succ]
          refine wpAnyH_take (i := 1) (v := ?_) rfl (by kernel_rfl) (by kernel_rfl) (by kernel_rfl) (fun _ _ _ h => h) (Or.inl ⟨by rfl, ?_⟩) (by assumption) ?_
          rotate_left
          · intro w hSw
            try dsimp only at hSw
            go_simp
            first | done | with_reducible rfl
          try simp only [List.getElem_toArray, List.getElem_cons_succ, List.getElem_cons_zero, Act.put, List.setIfInBounds_toArray, List.set_cons_zero, List.set_cons_succ]
          refine wpAnyH_take (i := 2) (v := ?_) rfl (by kernel_rfl) (by kernel_rfl) (by kernel_rfl) (fun _ _ _ h => h) (Or.inl ⟨by rfl, ?_⟩) (by assumption) ?_
          rotate_left
          · intro w hSw
            try dsimp only at hSw
            go_simp
            first | done | with_reducible rfl
          try simp only [List.getElem_toArray, List.getElem_cons_succ, List.getElem_cons_zero, Act.put, List.setIfInBounds_toArray, List.set_cons_zero, List.set_cons_succ]
          refine wpAnyH_take (i := 3) (v := ?_) rfl (by kernel_rfl) (by kernel_rfl) (by kernel_rfl) (fun _ _ _ h => h) (Or.inl ⟨by rfl, ?_⟩) (by assumption) ?_
          rotate_left
          · intro w hSw
            try dsimp only at hSw
            go_simp
            first | done | with_reducible rfl
          try simp only [List.getElem_toArray, List.getElem_cons_succ, List.getElem_cons_zero, Act.put, List.setIfInBounds_toArray, List.set_cons_zero, List.set_cons_succ]
          refine wpAnyH_take (i := 4) (v := ?_) rfl (by kernel_rfl) (by kernel_rfl) (by kernel_rfl) (fun _ _ _ h => h) (Or.inl ⟨by rfl, ?_⟩) (by assumption) ?_
          rotate_left
          · intro w hSw
            try dsimp only at hSw
            go_simp
            first | done | with_reducible rfl
          try simp only [List.getElem_toArray, List.getElem_cons_succ, List.getElem_cons_zero, Act.put, List.setIfInBounds_toArray, List.set_cons_zero, List.set_cons_succ]
          refine wpAnyH_take (i := 5) (v := ?_) rfl (by kernel_rfl) (by kernel_rfl) (by kernel_rfl) (fun _ _ _ h => h) (Or.inl ⟨by rfl, ?_⟩) (by assumption) ?_
          rotate_left
          · intro w hSw
            try dsimp only at hSw
            go_simp
            first | done | with_reducible rfl
          try simp only [List.getElem_toArray, List.getElem_cons_succ, List.getElem_cons_zero, Act.put, List.setIfInBounds_toArray, List.set_cons_zero, List.set_cons_succ]
          refine wpAnyH_take (i := 6) (v := ?_) rfl (by kernel_rfl) (by kernel_rfl) (by kernel_rfl) (fun _ _ _ h => h) (Or.inl ⟨by rfl, ?_⟩) (by assumption) ?_
          rotate_left
          · intro w hSw
            try dsimp only at hSw
            go_simp
            first | done | with_reducible rfl
          try simp only [List.getElem_toArray, List.getElem_cons_succ, List.getElem_cons_zero, Act.put, List.setIfInBounds_toArray, List.set_cons_zero, List.set_cons_succ]
          refine wpAnyH_take (i := 7) (v := ?_) rfl (by kernel_rfl) (by kernel_rfl) (by kernel_rfl) (fun _ _ _ h => h) (Or.inl ⟨by rfl, ?_⟩) (by assumption) ?_
          rotate_left
          · intro w hSw
            try dsimp only at hSw
            go_simp
            first | done | with_reducible rfl
          try simp only [List.getElem_toArray, List.getElem_cons_succ, List.getElem_cons_zero, Act.put, List.setIfInBounds_toArray, List.set_cons_zero, List.set_cons_succ]
          refine wpAnyH_take (i := 8) (v := ?_) rfl (by kernel_rfl) (by kernel_rfl) (by kernel_rfl) (fun _ _ _ h => h) (Or.inl ⟨by rfl, ?_⟩) (by assumption) ?_
          rotate_left
          · intro w hSw
            try dsimp only at hSw
            go_simp
            first | done | with_reducible rfl
          try simp only [List.getElem_toArray, List.getElem_cons_succ, List.getElem_cons_zero, Act.put, List.setIfInBounds_toArray, List.set_cons_zero, List.set_cons_succ]
          refine wpAnyH_take (i := 9) (v := ?_) rfl (by kernel_rfl) (by kernel_rfl) (by kernel_rfl) (fun _ _ _ h => h) (Or.inl ⟨by rfl, ?_⟩) (by assumption) ?_
          rotate_left
          · intro w hSw
            try dsimp only at hSw
            go_simp
            first | done | with_reducible rfl
          try simp only [List.getElem_toArray, List.getElem_cons_succ, List.getElem_cons_zero, Act.put, List.setIfInBounds_toArray, List.set_cons_zero, List.set_cons_succ]
          refine wpAnyH_ready (rs := [10, 14]) (by kernel_rfl) (by simp) (AllReadyH.cons rfl (fun K hK => ?_) (AllReadyH.cons rfl (fun K hK => ?_) AllReadyH.nil))
          · as_aux_lemma =>
              go_simp
              go_wp2_with ((go_at_call 13; refine (HA.out _ o).mono ?_; rintro e W_1 ⟨rfl, oc⟩))
              refine hK.out _ _ (HF.out _ (o.trans oc)) (fun hHeld => ?_)
              clear hK K
              try simp only [List.getElem_toArray, List.getElem_cons_succ, List.getElem_cons_zero, Act.put, List.setIfInBounds_toArray, List.set_cons_zero, List.set_cons_succ]
              replace o := o.trans oc
              clear oc
              refine wpAnyH_take (i := 11) (v := ?_) rfl (by kernel_rfl) (by kernel_rfl) (by kernel_rfl) (fun _ _ _ h => h) (Or.inl ⟨by rfl, ?_⟩) (by assumption) ?_
              rotate_left
              · intro w hSw
                try dsimp only at hSw
                go_simp
                first | done | with_reducible rfl
              try simp only [List.getElem_toArray, List.getElem_cons_succ, List.getElem_cons_zero, Act.put, List.setIfInBounds_toArray, List.set_cons_zero, List.set_cons_succ]
              refine wpAnyH_take (i := 12) (v := ?_) rfl (by kernel_rfl) (by kernel_rfl) (by kernel_rfl) (fun _ _ _ h => h) (Or.inl ⟨by rfl, ?_⟩) (by assumption) ?_
              rotate_left
              · intro w hSw
                try dsimp only at hSw
                go_simp
                first | done | with_reducible rfl
              try simp only [List.getElem_toArray, List.getElem_cons_succ, List.getElem_cons_zero, Act.put, List.setIfInBounds_toArray, List.set_cons_zero, List.set_cons_succ]
              refine wpAnyH_take (i := 13) (v := ?_) rfl (by kernel_rfl) (by kernel_rfl) (by kernel_rfl) (fun _ _ _ h => h) (Or.inl ⟨by rfl, ?_⟩) (by assumption) ?_
              rotate_left
              · intro w hSw
                try dsimp only at hSw
                go_simp
                first | done | with_reducible rfl
              try simp only [List.getElem_toArray, List.getElem_cons_succ, List.getElem_cons_zero, Act.put, List.setIfInBounds_toArray, List.set_cons_zero, List.set_cons_succ]
              refine wpAnyH_ready (rs := [14]) (by kernel_rfl) (by simp) (AllReadyH.cons rfl (fun K hK => ?_) AllReadyH.nil)
              go_simp
              refine hK.out _ _ (HF.out _ (o.alloc _)) (fun hHeld => ?_)
              clear hK K
              try simp only [List.getElem_toArray, List.getElem_cons_succ, List.getElem_cons_zero, Act.put, List.setIfInBounds_toArray, List.set_cons_zero, List.set_cons_succ]
              have hgx : W1.heap.size ≤ W_1.heap.size := o.size
              refine anyH_world (R := fun W' => (fun w' => w'.cell? ⟨g, 0, none⟩ = some (.pointer (some ⟨h, 0, none⟩)) ∧ w'.cell? ⟨wr.heap.size, 2, none⟩ = some (.pointer (some ⟨tb i, 0, none⟩)) ∧ w'.cell? ⟨tb i, 1, none⟩ = some (.int .i64 (s.p i).a)) W' ∧ Off [] W1 W' ∧ Blk W' (W_1.heap.size) 46 #[.int .i64 0, .int .i64 0]) ⟨hHeld, o.alloc _, (by first | exact Blk.new _ _ _ | exact blk_drewJ (Blk.new _ _ _))⟩ ?_
              clear hHeld o
              rintro W_2 ⟨hHeld, o, hx⟩
              obtain ⟨f0, x0, x1⟩ := two_cells hx
              refine wpAnyH_ready (rs := [15]) (by kernel_rfl) (by simp) (AllReadyH.cons rfl (fun K hK => ?_) AllReadyH.nil)
              go_simp
              refine hK.out _ _ (HF.out _ ((o.set (.inr hgx) _).set (.inr hgx) _)) (fun hHeld => ?_)
              clear hK K
              try simp only [List.getElem_toArray, List.getElem_cons_succ, List.getElem_cons_zero, Act.put, List.setIfInBounds_toArray, List.set_cons_zero, List.set_cons_succ]
              refine anyH_world (R := fun W' => (fun w' => w'.cell? ⟨g, 0, none⟩ = some (.pointer (some ⟨h, 0, none⟩)) ∧ w'.cell? ⟨wr.heap.size, 2, none⟩ = some (.pointer (some ⟨tb i, 0, none⟩)) ∧ w'.cell? ⟨tb i, 1, none⟩ = some (.int .i64 (s.p i).a)) W' ∧ Off [] W1 W' ∧ Blk W' W_1.heap.size 46 #[.int .i64 (fp (atF s.l (s.p i).a)), .int .i64 (fn (atF s.l (s.p i).a))]) ⟨hHeld, ((o.set (.inr hgx) _).set (.inr hgx) _), ((hx.set 0 _).set 1 _).to (by simp)⟩ ?_
              clear o hx f0 x0 x1 hHeld
              rintro W_a ⟨hHeld, o, hx⟩
              refine wpAnyH_take (i := 16) (v := ?_) rfl (by kernel_rfl) (by kernel_rfl) (by kernel_rfl) (fun _ _ _ h => h) (Or.inl ⟨by rfl, ?_⟩) (by assumption) ?_
              rotate_left
              · intro w hSw
                try dsimp only at hSw
                go_simp
                first | done | with_reducible rfl
              try simp only [List.getElem_toArray, List.getElem_cons_succ, List.getElem_cons_zero, Act.put, List.setIfInBounds_toArray, List.set_cons_zero, List.set_cons_succ]
              refine wpAnyH_done (by kernel_rfl) ?_ _
              refine NoPanic.normal ?_
              go_wp2_with fail
              go_meet
              case rel => exact ⟨rfl, o⟩
          · as_aux_lemma =>
              go_simp
              refine hK.out _ _ (HF.out _ (o.alloc _)) (fun hHeld => ?_)
              clear hK K
              try simp only [List.getElem_toArray, List.getElem_cons_succ, List.getElem_cons_zero, Act.put, List.setIfInBounds_toArray, List.set_cons_zero, List.set_cons_succ]
              have hgx : W1.heap.size ≤ W1.heap.size := o.size
              refine anyH_world (R := fun W' => (fun w' => w'.cell? ⟨g, 0, none⟩ = some (.pointer (some ⟨h, 0, none⟩)) ∧ w'.cell? ⟨wr.heap.size, 2, none⟩ = some (.pointer (some ⟨tb i, 0, none⟩)) ∧ w'.cell? ⟨tb i, 1, none⟩ = some (.int .i64 (s.p i).a)) W' ∧ Off [] W1 W' ∧ Blk W' (W1.heap.size) 46 #[.int .i64 0, .int .i64 0]) ⟨hHeld, o.alloc _, (by first | exact Blk.new _ _ _ | exact blk_drewJ (Blk.new _ _ _))⟩ ?_
              clear hHeld o
              rintro W_1 ⟨hHeld, o, hx⟩
              refine wpAnyH_ready (rs := [10]) (by kernel_rfl) (by simp) (AllReadyH.cons rfl (fun K hK => ?_) AllReadyH.nil)
              go_simp
              go_wp2_with ((go_at_call 13; refine (HA.out _ o).mono ?_; rintro e W_2 ⟨rfl, oc⟩))
              refine hK.out _ _ (HF.out _ (o.trans oc)) (fun hHeld => ?_)
              clear hK K
              try simp only [List.getElem_toArray, List.getElem_cons_succ, List.getElem_cons_zero, Act.put, List.setIfInBounds_toArray, List.set_cons_zero, List.set_cons_succ]
              replace o := o.trans oc
              replace hx := oc.blk hx (by simp)
              clear oc
              refine wpAnyH_take (i := 11) (v := ?_) rfl (by kernel_rfl) (by kernel_rfl) (by kernel_rfl) (fun _ _ _ h => h) (Or.inl ⟨by rfl, ?_⟩) (by assumption) ?_
              rotate_left
              · intro w hSw
                try dsimp only at hSw
                go_simp
                first | done | with_reducible rfl
              try simp only [List.getElem_toArray, List.getElem_cons_succ, List.getElem_cons_zero, Act.put, List.setIfInBounds_toArray, List.set_cons_zero, List.set_cons_succ]
              refine wpAnyH_take (i := 12) (v := ?_) rfl (by kernel_rfl) (by kernel_rfl) (by kernel_rfl) (fun _ _ _ h => h) (Or.inl ⟨by rfl, ?_⟩) (by assumption) ?_
              rotate_left
              · intro w hSw
                try dsimp only at hSw
                go_simp
                first | done | with_reducible rfl
              try simp only [List.getElem_toArray, List.getElem_cons_succ, List.getElem_cons_zero, Act.put, List.setIfInBounds_toArray, List.set_cons_zero, List.set_cons_succ]
              refine wpAnyH_take (i := 13) (v := ?_) rfl (by kernel_rfl) (by kernel_rfl) (by kernel_rfl) (fun _ _ _ h => h) (Or.inl ⟨by rfl, ?_⟩) (by assumption) ?_
              rotate_left
              · intro w hSw
                try dsimp only at hSw
                go_simp
                first | done | with_reducible rfl
              try simp only [List.getElem_toArray, List.getElem_cons_succ, List.getElem_cons_zero, Act.put, List.setIfInBounds_toArray, List.set_cons_zero, List.set_cons_succ]
              obtain ⟨f0, x0, x1⟩ := two_cells hx
              refine wpAnyH_ready (rs := [15]) (by kernel_rfl) (by simp) (AllReadyH.cons rfl (fun K hK => ?_) AllReadyH.nil)
              go_simp
              refine hK.out _ _ (HF.out _ ((o.set (.inr hgx) _).set (.inr hgx) _)) (fun hHeld => ?_)
              clear hK K
              try simp only [List.getElem_toArray, List.getElem_cons_succ, List.getElem_cons_zero, Act.put, List.setIfInBounds_toArray, List.set_cons_zero, List.set_cons_succ]
              refine anyH_world (R := fun W' => (fun w' => w'.cell? ⟨g, 0, none⟩ = some (.pointer (some ⟨h, 0, none⟩)) ∧ w'.cell? ⟨wr.heap.size, 2, none⟩ = some (.pointer (some ⟨tb i, 0, none⟩)) ∧ w'.cell? ⟨tb i, 1, none⟩ = some (.int .i64 (s.p i).a)) W' ∧ Off [] W1 W' ∧ Blk W' W1.heap.size 46 #[.int .i64 (fp (atF s.l (s.p i).a)), .int .i64 (fn (atF s.l (s.p i).a))]) ⟨hHeld, ((o.set (.inr hgx) _).set (.inr hgx) _), ((hx.set 0 _).set 1 _).to (by simp)⟩ ?_
              clear o hx f0 x0 x1 hHeld
              rintro W_a ⟨hHeld, o, hx⟩
              refine wpAnyH_take (i := 16) (v := ?_) rfl (by kernel_rfl) (by kernel_rfl) (by kernel_rfl) (fun _ _ _ h => h) (Or.inl ⟨by rfl, ?_⟩) (by assumption) ?_
              rotate_left
              · intro w hSw
                try dsimp only at hSw
                go_simp
                first | done | with_reducible rfl
              try simp only [List.getElem_toArray, List.getElem_cons_succ, List.getElem_cons_zero, Act.put, List.setIfInBounds_toArray, List.set_cons_zero, List.set_cons_succ]
              refine wpAnyH_done (by kernel_rfl) ?_ _
              refine NoPanic.normal ?_
              go_wp2_with fail
              go_meet
              case rel => exact ⟨rfl, o⟩
        case rest =>
          obtain ⟨rfl, oc⟩ := hcut
          have hB2 := HBR.out.off0 (HOW.out.trans oc)
          have HO2 := Lib.hid (HO.out.trans ((HOW.out.trans oc).more (by simp)))
          obtain ⟨-, hs, -⟩ := HF.out _ oc
          have htk := (hB2.task i hlt (by dsimp only; rw [hli]; exact ha)).1
          dsimp only at htk
          rw [hli] at htk
          have c6 := htk.cell 6
          have z6 := htk.free 6
          have HB2 := Lib.hid hB2
          have HTK2 := Lib.hid htk
          have HKN := Lib.hid HTK.out.2.1
          have HLI := Lib.hid hli
          have HAS := Lib.hid ha
          clear hB2 htk HA HF HOW HO HBR HTK hli ha oc
          cases hat : atF s.l (s.p i).a with
          | some u =>
            have HAT := Lib.hid hat
            clear hat c6 z6 hs
            go_wp2_with fail
            go_roundw
            case rel => exact ⟨HO2.out, i + 1, by omega, by go_num, HB2.out.same (fun j _ => look_skip (by unfold absentP; rw [HAT.out]; simp) j)⟩
            case measure => simp [intOf]; omega
          | none =>
            have HAT := Lib.hid hat
            clear hat
            go_wp2_with fail
            go_roundw
            case rel =>
              refine ⟨HO2.out.set (.inl (HT.out i hlt HAS.out)) _, i + 1, by omega, by go_num, ?_⟩
              refine (HB2.out.turn hlt (by dsimp only; rw [HLI.out]; exact HAS.out) (q := { s.p i with absent := true }) ?_ ((Off.refl _ _).set (.inl (by simp)) _) ((HTK2.out.set 6 _).to (by simp))).same (fun j _ => ?_)
              · have hkn := HKN.out
                dsimp only at hkn ⊢
                rw [HLI.out] at hkn ⊢
                exact ⟨rfl, rfl, HAS.out, hkn⟩
              · exact look_turn (by unfold absentP; rw [if_pos ⟨HAS.out, HAT.out⟩]) j
            case measure => simp [intOf]; omega
      · obtain ⟨k0, k1, k2, -, -, -⟩ := hc
        unfold tkV at k2
        rw [if_neg ha] at k2
        have HA0 := Lib.hid ha
        clear ha hli
        go_wp2_with fail
        go_roundw
        case rel => exact ⟨HO.out.trans ((Off.refl _ _).alloc _), i + 1, by omega, by go_num, (HBR.out.off0 ((Off.refl _ _).alloc _)).same (fun j _ => look_skip (by unfold absentP; rw [if_neg (fun h => HA0.out h.1)]) j)⟩
        case measure => simp [intOf]; omega
    · obtain rfl : i = s.c := by omega
      go_wp2_with fail
      go_end0
      exact ⟨rfl, HBR.out.same (fun j hj => by dsimp only; unfold lookP; rw [if_pos hj]), HO.out⟩

end Go.Proofs.Ytfgkjfneeggbjaa.Jud
