/- The program's judge: what an event does. (Written by tools/jgplay_gen.py.) -/
import Derived.Test.YtfgkjfneeggbjaaJgD
namespace Go.Proofs.Ytfgkjfneeggbjaa.Jud
open Go.RowKit Mem Go.Proofs.Ytfgkjfneeggbjaa.Mod Go.Proofs.Ytfgkjfneeggbjaa.Plan
set_option maxRecDepth 100000
set_option maxHeartbeats 4000000

/-- Behind what was not so. -/
def PlayNo (w : World) (g h b : Nat) (Fm : List Nat) (tb : Nat → Nat) (s : St) (x y : Int) (F : List Nat) (w' : World) : Prop :=
  Off F w w' ∧ ∃ Fm', Body w' g h b Fm' tb s x y ∧ ∀ k ∈ Fm', k ∈ Fm ∨ w.heap.size ≤ k
/-- Behind what was so: client i says q, the model holds l'. -/
def PlayOk (w : World) (g h b : Nat) (Fm : List Nat) (tb : Nat → Nat) (s : St) (x y : Int) (F : List Nat) (i : Nat) (q : Pty) (l' : List Bk) (w' : World) : Prop :=
  Off F w w' ∧ ∃ Fm' tb', Body w' g h b Fm' tb' { s with l := l', p := fun j => if j = i then q else s.p j } x y ∧ (∀ k ∈ Fm', k ∈ Fm ∨ w.heap.size ≤ k) ∧ ∀ j, j < s.c → (if j = i then q else s.p j).asks = true → tb' j = tb j ∧ (s.p j).asks = true ∨ w.heap.size ≤ tb' j
/-- What may turn. -/
structure Own (b : Nat) (Fm : List Nat) (tb : Nat → Nat) (s : St) (F : List Nat) : Prop where
  row : b ∈ F
  mod : ∀ k ∈ Fm, k ∈ F
  task : ∀ j, j < s.c → (s.p j).asks = true → tb j ∈ F

theorem evb_all {w : World} {b : Nat} {e : Ev} (h : Blk w b 41 (evL e).toArray) :
    w.cell? ⟨b, 0, none⟩ = some (.int .i64 e.kind) ∧ w.cell? ⟨b, 1, none⟩ = some (.int .i64 e.client) ∧ w.cell? ⟨b, 2, none⟩ = some (.int .i64 e.ok) ∧ w.cell? ⟨b, 3, none⟩ = some (.int .i64 e.oa) ∧ w.cell? ⟨b, 4, none⟩ = some (.int .i64 e.on) ∧
      w.cell? ⟨b, 5, none⟩ = some (.int .i64 e.at_) ∧ w.cell? ⟨b, 6, none⟩ = some (.int .i64 e.n) ∧ w.cell? ⟨b, 7, none⟩ = some (.int .i64 e.err) := ⟨h.cell 0, h.cell 1, h.cell 2, h.cell 3, h.cell 4, h.cell 5, h.cell 6, h.cell 7⟩

theorem play_out {w : World} {g h b : Nat} {Fm F : List Nat} {tb : Nat → Nat} {s : St} {x y : Int} (B : Body w g h b Fm tb s x y) (e : Ev) (hc : ¬ (0 ≤ e.client ∧ e.client < s.c)) :
    Calls Try.prog 19 #[.pointer (some ⟨g, 0, none⟩), evV e] w fun r w' => r = .returned (.int .i64 1) ∧ PlayNo w g h b Fm tb s x y F w' := by
  have HB := Lib.hid B
  have HN := Lib.hid hc
  clear B hc
  obtain ⟨kind, client, ok, oa, on, at', nn, err⟩ := e
  dsimp only at *
  go_enter Try.func19, Try.ntmps19
  go_wp2_with (go_at_call 28; refine (known_out (HB.out.off0 ((Off.refl _ _).alloc _)).read.2.1 HN.out).mono ?_; rintro e w' ⟨rfl, rfl⟩)
  go_ret
  exact ⟨rfl, ((Off.refl _ _).alloc _), Fm, HB.out.off0 ((Off.refl _ _).alloc _), fun k hk => .inl hk⟩

theorem play_may {w : World} {g h b : Nat} {Fm F : List Nat} {tb : Nat → Nat} {s : St} {x y : Int} (B : Body w g h b Fm tb s x y) {i : Nat} (hi : i < s.c) (e : Ev) (hc : e.client = i) (hm : mayP (s.p i) e = false) :
    Calls Try.prog 19 #[.pointer (some ⟨g, 0, none⟩), evV e] w fun r w' => r = .returned (.int .i64 1) ∧ PlayNo w g h b Fm tb s x y F w' := by
  have HB := Lib.hid B
  have HI := Lib.hid hi
  have HMY : Hid (∀ W, Off [] w W → Calls Try.prog 29 #[.pointer (some ⟨b, i * 3, none⟩), evV e] W fun r w' => r = .returned (.bool false) ∧ Off [] W w') := Lib.hid (fun W o => by
    have := may_cli ((B.off0 o).row.cli hi) e
    rwa [hm] at this)
  clear B hm hi
  obtain ⟨kind, client, ok, oa, on, at', nn, err⟩ := e
  dsimp only at *
  subst hc
  go_enter Try.func19, Try.ntmps19
  go_wp2_with (first | (go_at_call 28; refine (known_in (HB.out.off0 ((Off.refl _ _).alloc _)).read.2.1 HI.out).mono ?_; rintro e w' ⟨rfl, rfl⟩) | (go_at_call 29; refine (HMY.out _ ((Off.refl _ _).alloc _)).mono ?_; rintro r w3 ⟨rfl, o3⟩))
  go_ret
  exact ⟨rfl, (((Off.refl _ _).alloc _).trans o3).more (by simp), Fm, HB.out.off0 (((Off.refl _ _).alloc _).trans o3), fun k hk => .inl hk⟩

theorem play_started {w : World} {g h b : Nat} {Fm F : List Nat} {tb : Nat → Nat} {s : St} {x y : Int} (B : Body w g h b Fm tb s x y) (O : Own b Fm tb s F) {i : Nat} (hi : i < s.c) (e : Ev) (hc : e.client = i) (hm : mayP (s.p i) e = true) (hk : e.kind = 0) :
    Calls Try.prog 19 #[.pointer (some ⟨g, 0, none⟩), evV e] w fun r w' => r = .returned (.int .i64 0) ∧ PlayOk w g h b Fm tb s x y F i { s.p i with was := true, lives := true } s.l w' := by
  have HB := Lib.hid B
  have HI := Lib.hid hi
  have HMY : Hid (∀ W, Off [] w W → Calls Try.prog 29 #[.pointer (some ⟨b, i * 3, none⟩), evV e] W fun r w' => r = .returned (.bool true) ∧ Off [] W w') := Lib.hid (fun W o => by
    have := may_cli ((B.off0 o).row.cli hi) e
    rwa [hm] at this)
  have HOW := Lib.hid O
  clear B hm hi O
  obtain ⟨kind, client, ok, oa, on, at', nn, err⟩ := e
  dsimp only at *
  subst hc hk
  go_enter Try.func19, Try.ntmps19
  go_upto_region 4 with (first | (go_at_call 28; refine (known_in (HB.out.off0 ((Off.refl _ _).alloc _)).read.2.1 HI.out).mono ?_; rintro e w' ⟨rfl, rfl⟩) | (go_at_call 29; refine (HMY.out _ ((Off.refl _ _).alloc _)).mono ?_; rintro r w3 ⟨rfl, o3⟩))
  refine at_worldJ (R := fun W' => Off [] w W' ∧ Blk W' w.heap.size 41 (evL ⟨0, (i : Int), ok, oa, on, at', nn, err⟩).toArray) ⟨((Off.refl _ _).alloc _).trans o3, o3.blk (Blk.new _ _ _) (by simp)⟩ ?_
  rintro W1 ⟨o1, hev⟩
  obtain ⟨v0, v1, v2, v3, v4, v5, v6, v7⟩ := evb_all hev
  have hcl := (HB.out.off0 o1).row.cli HI.out
  have HO := Lib.hid o1
  clear HMY o3 o1 hev
  have hlt := hcl.lt
  obtain ⟨k0, k1, -, z0, z1, -⟩ := hcl
  go_wp2
  go_ret
  refine ⟨rfl, (HO.out.more (by simp)).trans (((Off.refl _ _).set (.inl HOW.out.row) _).set (.inl HOW.out.row) _), Fm, _, (HB.out.off0 HO.out).client (t := tb i) (q := { s.p i with was := true, lives := true }) (((Off.refl _ _).set (.inl (by simp)) _).set (.inl (by simp)) _) ?_ (fun ha => ?_) (fun ha j hj hne hja => ?_) (fun _ => rfl), fun k hk => .inl hk, fun j hj ha => .inl ⟨?_, ?_⟩⟩
  · refine (((HB.out.off0 HO.out).row.set0 i _).set1 i _).to (fun j _ => ?_)
    unfold updV
    by_cases e : j = i
    · subst e; simp [tkV]
    · simp [e]
  · have hb := (HB.out.off0 HO.out).task i HI.out ha
    have ha' := (HB.out.off0 HO.out).apart.2.2.2 i HI.out ha
    exact ⟨(hb.1.far ha'.2.1 _ _).far ha'.2.1 _ _, hb.2.1, rfl⟩
  · exact fun he => hne (HB.out.inj j i hj HI.out hja ha he)
  · by_cases e : j = i
    · simp [e]
    · simp [e]
  · by_cases e : j = i
    · subst e; simpa using ha
    · simpa [e] using ha

theorem play_kill_no {w : World} {g h b : Nat} {Fm F : List Nat} {tb : Nat → Nat} {s : St} {x y : Int} (B : Body w g h b Fm tb s x y) (O : Own b Fm tb s F) {i : Nat} (hi : i < s.c) (e : Ev) (hc : e.client = i) (hm : mayP (s.p i) e = true) (hk : e.kind = 1) (ha : (s.p i).asks = true) (h3 : (s.p i).took = true) :
    Calls Try.prog 19 #[.pointer (some ⟨g, 0, none⟩), evV e] w fun r w' => r = .returned (.int .i64 5) ∧ PlayNo w g h b Fm tb s x y F w' := by
  have HB := Lib.hid B
  have HI := Lib.hid hi
  have HMY : Hid (∀ W, Off [] w W → Calls Try.prog 29 #[.pointer (some ⟨b, i * 3, none⟩), evV e] W fun r w' => r = .returned (.bool true) ∧ Off [] W w') := Lib.hid (fun W o => by
    have := may_cli ((B.off0 o).row.cli hi) e
    rwa [hm] at this)
  have HOW := Lib.hid O
  have HK : Hid (∀ W, Off [] w W → Calls Try.prog 30 #[.pointer (some ⟨b, i * 3, none⟩)] W fun r w' => r = .returned (.int .i64 5) ∧ W = w') := Lib.hid (fun W o => kill_no ((B.off0 o).row.cli hi) ha h3 ((B.off0 o).task i hi ha).1)
  clear B hm hi O ha h3
  obtain ⟨kind, client, ok, oa, on, at', nn, err⟩ := e
  dsimp only at *
  subst hc hk
  go_enter Try.func19, Try.ntmps19
  go_upto_region 4 with (first | (go_at_call 28; refine (known_in (HB.out.off0 ((Off.refl _ _).alloc _)).read.2.1 HI.out).mono ?_; rintro e w' ⟨rfl, rfl⟩) | (go_at_call 29; refine (HMY.out _ ((Off.refl _ _).alloc _)).mono ?_; rintro r w3 ⟨rfl, o3⟩))
  refine at_worldJ (R := fun W' => Off [] w W' ∧ Blk W' w.heap.size 41 (evL ⟨1, (i : Int), ok, oa, on, at', nn, err⟩).toArray) ⟨((Off.refl _ _).alloc _).trans o3, o3.blk (Blk.new _ _ _) (by simp)⟩ ?_
  rintro W1 ⟨o1, hev⟩
  obtain ⟨v0, v1, v2, v3, v4, v5, v6, v7⟩ := evb_all hev
  have hcl := (HB.out.off0 o1).row.cli HI.out
  have HO := Lib.hid o1
  clear HMY o3 o1 hev
  go_wp2_with (go_at_call 30; refine (HK.out _ HO.out).mono ?_; rintro r w4 ⟨rfl, rfl⟩)
  go_ret
  exact ⟨rfl, HO.out.more (by simp), Fm, HB.out.off0 HO.out, fun k hk => .inl hk⟩

theorem play_kill_ok {w : World} {g h b : Nat} {Fm F : List Nat} {tb : Nat → Nat} {s : St} {x y : Int} (B : Body w g h b Fm tb s x y) (O : Own b Fm tb s F) {i : Nat} (hi : i < s.c) (e : Ev) (hc : e.client = i) (hm : mayP (s.p i) e = true) (hk : e.kind = 1) (h0 : ¬ ((s.p i).asks = true ∧ (s.p i).took = true)) :
    Calls Try.prog 19 #[.pointer (some ⟨g, 0, none⟩), evV e] w fun r w' => r = .returned (.int .i64 0) ∧ PlayOk w g h b Fm tb s x y F i { s.p i with lives := false, asks := false } s.l w' := by
  have HB := Lib.hid B
  have HI := Lib.hid hi
  have HMY : Hid (∀ W, Off [] w W → Calls Try.prog 29 #[.pointer (some ⟨b, i * 3, none⟩), evV e] W fun r w' => r = .returned (.bool true) ∧ Off [] W w') := Lib.hid (fun W o => by
    have := may_cli ((B.off0 o).row.cli hi) e
    rwa [hm] at this)
  have HOW := Lib.hid O
  have HK : Hid (∀ W, Off [] w W → Calls Try.prog 30 #[.pointer (some ⟨b, i * 3, none⟩)] W fun r w' => r = .returned (.int .i64 0) ∧ w' = (W.setCell ⟨b, i * 3 + 1, none⟩ (.bool false)).setCell ⟨b, i * 3 + 2, none⟩ (.pointer none)) := Lib.hid (fun W o => kill_ok ((B.off0 o).row.cli hi) h0 (fun ha => ((B.off0 o).task i hi ha).1))
  clear B hm hi O h0
  obtain ⟨kind, client, ok, oa, on, at', nn, err⟩ := e
  dsimp only at *
  subst hc hk
  go_enter Try.func19, Try.ntmps19
  go_upto_region 4 with (first | (go_at_call 28; refine (known_in (HB.out.off0 ((Off.refl _ _).alloc _)).read.2.1 HI.out).mono ?_; rintro e w' ⟨rfl, rfl⟩) | (go_at_call 29; refine (HMY.out _ ((Off.refl _ _).alloc _)).mono ?_; rintro r w3 ⟨rfl, o3⟩))
  refine at_worldJ (R := fun W' => Off [] w W' ∧ Blk W' w.heap.size 41 (evL ⟨1, (i : Int), ok, oa, on, at', nn, err⟩).toArray) ⟨((Off.refl _ _).alloc _).trans o3, o3.blk (Blk.new _ _ _) (by simp)⟩ ?_
  rintro W1 ⟨o1, hev⟩
  obtain ⟨v0, v1, v2, v3, v4, v5, v6, v7⟩ := evb_all hev
  have hcl := (HB.out.off0 o1).row.cli HI.out
  have HO := Lib.hid o1
  clear HMY o3 o1 hev
  go_wp2_with (go_at_call 30; refine (HK.out _ HO.out).mono ?_; rintro r w4 ⟨rfl, rfl⟩)
  go_ret
  refine ⟨rfl, (HO.out.more (by simp)).trans (((Off.refl _ _).set (.inl HOW.out.row) _).set (.inl HOW.out.row) _), Fm, _, (HB.out.off0 HO.out).client (t := tb i) (q := { s.p i with lives := false, asks := false }) (((Off.refl _ _).set (.inl (by simp)) _).set (.inl (by simp)) _) ?_ (fun ha => ?_) (fun ha j hj hne hja => ?_) (fun ha => ?_), fun k hk => .inl hk, fun j hj ha => .inl ⟨?_, ?_⟩⟩
  · refine (((HB.out.off0 HO.out).row.set1 i _).set2 i _).to (fun j _ => ?_)
    unfold updV
    by_cases e : j = i
    · subst e; simp [tkV]
    · simp [e]
  · cases ha
  · cases ha
  · cases ha
  · by_cases e : j = i
    · simp [e]
    · simp [e]
  · by_cases e : j = i
    · subst e; simp at ha
    · simpa [e] using ha

theorem play_invoked {w : World} {g h b : Nat} {Fm F : List Nat} {tb : Nat → Nat} {s : St} {x y : Int} (B : Body w g h b Fm tb s x y) (O : Own b Fm tb s F) {i : Nat} (hi : i < s.c) (e : Ev) (hc : e.client = i) (hm : mayP (s.p i) e = true) (hk : e.kind = 2) :
    Calls Try.prog 19 #[.pointer (some ⟨g, 0, none⟩), evV e] w fun r w' => r = .returned (.int .i64 0) ∧ PlayOk w g h b Fm tb s x y F i ⟨true, true, true, false, false, false, e.ok, e.oa, e.on, 0⟩ s.l w' := by
  have HB := Lib.hid B
  have HI := Lib.hid hi
  have HMY : Hid (∀ W, Off [] w W → Calls Try.prog 29 #[.pointer (some ⟨b, i * 3, none⟩), evV e] W fun r w' => r = .returned (.bool true) ∧ Off [] W w') := Lib.hid (fun W o => by
    have := may_cli ((B.off0 o).row.cli hi) e
    rwa [hm] at this)
  have HOW := Lib.hid O
  have HP : Hid ((s.p i).lives = true ∧ (s.p i).was = true ∧ kindOk ⟨true, true, true, false, false, false, e.ok, e.oa, e.on, 0⟩) := Lib.hid (by
    unfold mayP at hm
    rw [if_neg (by omega), if_neg (by omega), if_pos hk] at hm
    simp only [Bool.and_eq_true, decide_eq_true_eq] at hm
    refine ⟨hm.1.1.1, B.was i hi hm.1.1.1, ?_⟩
    unfold kindOk
    dsimp only
    omega)
  clear B hm hi O
  obtain ⟨kind, client, ok, oa, on, at', nn, err⟩ := e
  dsimp only at *
  subst hc hk
  go_enter Try.func19, Try.ntmps19
  go_upto_region 4 with (first | (go_at_call 28; refine (known_in (HB.out.off0 ((Off.refl _ _).alloc _)).read.2.1 HI.out).mono ?_; rintro e w' ⟨rfl, rfl⟩) | (go_at_call 29; refine (HMY.out _ ((Off.refl _ _).alloc _)).mono ?_; rintro r w3 ⟨rfl, o3⟩))
  refine at_worldJ (R := fun W' => Off [] w W' ∧ Blk W' w.heap.size 41 (evL ⟨2, (i : Int), ok, oa, on, at', nn, err⟩).toArray) ⟨((Off.refl _ _).alloc _).trans o3, o3.blk (Blk.new _ _ _) (by simp)⟩ ?_
  rintro W1 ⟨o1, hev⟩
  obtain ⟨v0, v1, v2, v3, v4, v5, v6, v7⟩ := evb_all hev
  have hcl := (HB.out.off0 o1).row.cli HI.out
  have HO := Lib.hid o1
  clear HMY o3 o1 hev
  have hlt := hcl.lt
  obtain ⟨k0, k1, k2, z0, z1, z2⟩ := hcl
  go_wp2
  go_ret
  refine ⟨rfl, (HO.out.more (by simp)).trans (((Off.refl _ _).set (.inl HOW.out.row) _).alloc _), Fm, _, (HB.out.off0 HO.out).client (t := W1.heap.size) (q := ⟨true, true, true, false, false, false, ok, oa, on, 0⟩) (((Off.refl [b] W1).set (p := ⟨b, i * 3 + 2, none⟩) (.inl (by simp)) _).alloc _) ?_ (fun ha => ?_) (fun ha j hj hne hja => ?_) (fun _ => rfl), fun k hk => .inl hk, fun j hj ha => ?_⟩
  · refine (((HB.out.off0 HO.out).row.set2 i _).off ((Off.refl [] _).alloc _) (by simp)).to (fun j _ => ?_)
    unfold updV
    by_cases e : j = i
    · subst e; simp [tkV, HP.out.1, HP.out.2.1]
    · simp [e]
  · refine ⟨?_, HP.out.2.2, rfl⟩
    have hn := Blk.new (W1.setCell ⟨b, i * 3 + 2, none⟩ (.pointer (some ⟨W1.heap.size, 0, none⟩))) 72 (tkL ⟨true, true, true, false, false, false, ok, oa, on, 0⟩).toArray
    rw [show (W1.setCell ⟨b, i * 3 + 2, none⟩ (.pointer (some ⟨W1.heap.size, 0, none⟩))).heap.size = W1.heap.size from by simp [World.setCell]] at hn
    exact hn
  · have := ((HB.out.off0 HO.out).task j hj hja).1.lt
    omega
  · have := HO.out.size
    by_cases e : j = i
    · subst e; simp; omega
    · simp [e] at ha ⊢; exact .inl ha

theorem play_take_silent {w : World} {g h b : Nat} {Fm F : List Nat} {tb : Nat → Nat} {s : St} {x y : Int} (B : Body w g h b Fm tb s x y) (O : Own b Fm tb s F) {i : Nat} (hi : i < s.c) (e : Ev) (hc : e.client = i) (hm : mayP (s.p i) e = true) (hk : e.kind = 3) (ha : (s.p i).asks = true) (h1 : tookN (s.p i) e.n = false) :
    Calls Try.prog 19 #[.pointer (some ⟨g, 0, none⟩), evV e] w fun r w' => r = .returned (.int .i64 5) ∧ PlayNo w g h b Fm tb s x y F w' := by
  have HB := Lib.hid B
  have HI := Lib.hid hi
  have HMY : Hid (∀ W, Off [] w W → Calls Try.prog 29 #[.pointer (some ⟨b, i * 3, none⟩), evV e] W fun r w' => r = .returned (.bool true) ∧ Off [] W w') := Lib.hid (fun W o => by
    have := may_cli ((B.off0 o).row.cli hi) e
    rwa [hm] at this)
  have HOW := Lib.hid O
  have HTK : Hid (∀ W, Off [] w W → Blk W (tb i) 72 (tkL (s.p i)).toArray ∧ kindOk (s.p i)) := Lib.hid (fun W o => ⟨((B.off0 o).task i hi ha).1, ((B.off0 o).task i hi ha).2.1⟩)
  have HA := Lib.hid ha
  have HC : Hid (∀ W, Off [] w W → Calls Try.prog 31 #[.pointer (some ⟨g, 0, none⟩), .pointer (some ⟨tb i, 0, none⟩), evV e] W fun r w' => r = .returned (.int .i64 5) ∧ Off [] W w') := Lib.hid (fun W o => take_silent ((B.off0 o).task i hi ha).1 (B.task i hi ha).2.1 e h1)
  clear B hm hi O ha h1
  obtain ⟨kind, client, ok, oa, on, at', nn, err⟩ := e
  dsimp only at *
  subst hc hk
  go_enter Try.func19, Try.ntmps19
  go_upto_region 4 with (first | (go_at_call 28; refine (known_in (HB.out.off0 ((Off.refl _ _).alloc _)).read.2.1 HI.out).mono ?_; rintro e w' ⟨rfl, rfl⟩) | (go_at_call 29; refine (HMY.out _ ((Off.refl _ _).alloc _)).mono ?_; rintro r w3 ⟨rfl, o3⟩))
  refine at_worldJ (R := fun W' => Off [] w W' ∧ Blk W' w.heap.size 41 (evL ⟨3, (i : Int), ok, oa, on, at', nn, err⟩).toArray) ⟨((Off.refl _ _).alloc _).trans o3, o3.blk (Blk.new _ _ _) (by simp)⟩ ?_
  rintro W1 ⟨o1, hev⟩
  obtain ⟨v0, v1, v2, v3, v4, v5, v6, v7⟩ := evb_all hev
  have hcl := (HB.out.off0 o1).row.cli HI.out
  have HO := Lib.hid o1
  clear HMY o3 o1 hev
  have k2 := hcl.c2
  unfold tkV at k2
  rw [if_pos HA.out] at k2
  clear hcl
  go_upto_region 12 with fail
  go_still_tail 6, (by kernel_rfl)
  go_wp2_with (go_at_call 31; refine (HC.out _ (HO.out.drew)).mono ?_; rintro r w4 ⟨rfl, hr⟩)
  go_ret
  exact ⟨rfl, (HO.out.drew.trans hr).more (by simp), Fm, HB.out.off0 (HO.out.drew.trans hr), fun k hk => .inl hk⟩

theorem play_take_no {w : World} {g h b : Nat} {Fm F : List Nat} {tb : Nat → Nat} {s : St} {x y : Int} (B : Body w g h b Fm tb s x y) (O : Own b Fm tb s F) {i : Nat} (hi : i < s.c) (e : Ev) (hc : e.client = i) (hm : mayP (s.p i) e = true) (hk : e.kind = 3) (ha : (s.p i).asks = true) (h1 : tookN (s.p i) e.n = true) (h0 : canB s.W s.l e.at_ e.n = false) :
    Calls Try.prog 19 #[.pointer (some ⟨g, 0, none⟩), evV e] w fun r w' => r = .returned (.int .i64 2) ∧ PlayNo w g h b Fm tb s x y F w' := by
  have HB := Lib.hid B
  have HI := Lib.hid hi
  have HMY : Hid (∀ W, Off [] w W → Calls Try.prog 29 #[.pointer (some ⟨b, i * 3, none⟩), evV e] W fun r w' => r = .returned (.bool true) ∧ Off [] W w') := Lib.hid (fun W o => by
    have := may_cli ((B.off0 o).row.cli hi) e
    rwa [hm] at this)
  have HOW := Lib.hid O
  have HTK : Hid (∀ W, Off [] w W → Blk W (tb i) 72 (tkL (s.p i)).toArray ∧ kindOk (s.p i)) := Lib.hid (fun W o => ⟨((B.off0 o).task i hi ha).1, ((B.off0 o).task i hi ha).2.1⟩)
  have HA := Lib.hid ha
  have HC : Hid (∀ W, Off [] w W → Calls Try.prog 31 #[.pointer (some ⟨g, 0, none⟩), .pointer (some ⟨tb i, 0, none⟩), evV e] W fun r w' => r = .returned (.int .i64 2) ∧ (∃ F', IsD w' h F' s.W s.l ∧ ∀ k ∈ F', k ∈ Fm ∨ W.heap.size ≤ k) ∧ Off Fm W w') := Lib.hid (fun W o => take_no (B.off0 o).read.1 (B.off0 o).mod ((B.off0 o).task i hi ha).1 (B.task i hi ha).2.1 e h1 h0)
  clear B hm hi O ha h1 h0
  obtain ⟨kind, client, ok, oa, on, at', nn, err⟩ := e
  dsimp only at *
  subst hc hk
  go_enter Try.func19, Try.ntmps19
  go_upto_region 4 with (first | (go_at_call 28; refine (known_in (HB.out.off0 ((Off.refl _ _).alloc _)).read.2.1 HI.out).mono ?_; rintro e w' ⟨rfl, rfl⟩) | (go_at_call 29; refine (HMY.out _ ((Off.refl _ _).alloc _)).mono ?_; rintro r w3 ⟨rfl, o3⟩))
  refine at_worldJ (R := fun W' => Off [] w W' ∧ Blk W' w.heap.size 41 (evL ⟨3, (i : Int), ok, oa, on, at', nn, err⟩).toArray) ⟨((Off.refl _ _).alloc _).trans o3, o3.blk (Blk.new _ _ _) (by simp)⟩ ?_
  rintro W1 ⟨o1, hev⟩
  obtain ⟨v0, v1, v2, v3, v4, v5, v6, v7⟩ := evb_all hev
  have hcl := (HB.out.off0 o1).row.cli HI.out
  have HO := Lib.hid o1
  clear HMY o3 o1 hev
  have k2 := hcl.c2
  unfold tkV at k2
  rw [if_pos HA.out] at k2
  clear hcl
  go_upto_region 12 with fail
  go_still_tail 6, (by kernel_rfl)
  go_wp2_with (go_at_call 31; refine (HC.out _ (HO.out.drew)).mono ?_; rintro r w4 ⟨rfl, hr⟩)
  go_ret
  obtain ⟨⟨F', hd, hf⟩, ho⟩ := hr
  have hs := HO.out.size
  exact ⟨rfl, (HO.out.drew.more (by simp)).trans (ho.more HOW.out.mod), F', (HB.out.off0 HO.out.drew).model ho hd, fun k hk => (hf k hk).imp id (fun h => Nat.le_trans hs h)⟩

theorem play_give_silent {w : World} {g h b : Nat} {Fm F : List Nat} {tb : Nat → Nat} {s : St} {x y : Int} (B : Body w g h b Fm tb s x y) (O : Own b Fm tb s F) {i : Nat} (hi : i < s.c) (e : Ev) (hc : e.client = i) (hm : mayP (s.p i) e = true) (hk : e.kind = 4) (ha : (s.p i).asks = true) (h1 : gaveN (s.p i) e.at_ = false) :
    Calls Try.prog 19 #[.pointer (some ⟨g, 0, none⟩), evV e] w fun r w' => r = .returned (.int .i64 5) ∧ PlayNo w g h b Fm tb s x y F w' := by
  have HB := Lib.hid B
  have HI := Lib.hid hi
  have HMY : Hid (∀ W, Off [] w W → Calls Try.prog 29 #[.pointer (some ⟨b, i * 3, none⟩), evV e] W fun r w' => r = .returned (.bool true) ∧ Off [] W w') := Lib.hid (fun W o => by
    have := may_cli ((B.off0 o).row.cli hi) e
    rwa [hm] at this)
  have HOW := Lib.hid O
  have HTK : Hid (∀ W, Off [] w W → Blk W (tb i) 72 (tkL (s.p i)).toArray ∧ kindOk (s.p i)) := Lib.hid (fun W o => ⟨((B.off0 o).task i hi ha).1, ((B.off0 o).task i hi ha).2.1⟩)
  have HA := Lib.hid ha
  have HC : Hid (∀ W, Off [] w W → Calls Try.prog 32 #[.pointer (some ⟨g, 0, none⟩), .pointer (some ⟨tb i, 0, none⟩), evV e] W fun r w' => r = .returned (.int .i64 5) ∧ Off [] W w') := Lib.hid (fun W o => jgive_silent ((B.off0 o).task i hi ha).1 (B.task i hi ha).2.1 e h1)
  clear B hm hi O ha h1
  obtain ⟨kind, client, ok, oa, on, at', nn, err⟩ := e
  dsimp only at *
  subst hc hk
  go_enter Try.func19, Try.ntmps19
  go_upto_region 4 with (first | (go_at_call 28; refine (known_in (HB.out.off0 ((Off.refl _ _).alloc _)).read.2.1 HI.out).mono ?_; rintro e w' ⟨rfl, rfl⟩) | (go_at_call 29; refine (HMY.out _ ((Off.refl _ _).alloc _)).mono ?_; rintro r w3 ⟨rfl, o3⟩))
  refine at_worldJ (R := fun W' => Off [] w W' ∧ Blk W' w.heap.size 41 (evL ⟨4, (i : Int), ok, oa, on, at', nn, err⟩).toArray) ⟨((Off.refl _ _).alloc _).trans o3, o3.blk (Blk.new _ _ _) (by simp)⟩ ?_
  rintro W1 ⟨o1, hev⟩
  obtain ⟨v0, v1, v2, v3, v4, v5, v6, v7⟩ := evb_all hev
  have hcl := (HB.out.off0 o1).row.cli HI.out
  have HO := Lib.hid o1
  clear HMY o3 o1 hev
  have k2 := hcl.c2
  unfold tkV at k2
  rw [if_pos HA.out] at k2
  clear hcl
  go_upto_region 14 with fail
  go_still_tail 6, (by kernel_rfl)
  go_wp2_with (go_at_call 32; refine (HC.out _ (HO.out.drew)).mono ?_; rintro r w4 ⟨rfl, hr⟩)
  go_ret
  exact ⟨rfl, (HO.out.drew.trans hr).more (by simp), Fm, HB.out.off0 (HO.out.drew.trans hr), fun k hk => .inl hk⟩

theorem play_give_no {w : World} {g h b : Nat} {Fm F : List Nat} {tb : Nat → Nat} {s : St} {x y : Int} (B : Body w g h b Fm tb s x y) (O : Own b Fm tb s F) {i : Nat} (hi : i < s.c) (e : Ev) (hc : e.client = i) (hm : mayP (s.p i) e = true) (hk : e.kind = 4) (ha : (s.p i).asks = true) (h1 : gaveN (s.p i) e.at_ = true) (h0 : giveB s.l e.at_ = false) :
    Calls Try.prog 19 #[.pointer (some ⟨g, 0, none⟩), evV e] w fun r w' => r = .returned (.int .i64 3) ∧ PlayNo w g h b Fm tb s x y F w' := by
  have HB := Lib.hid B
  have HI := Lib.hid hi
  have HMY : Hid (∀ W, Off [] w W → Calls Try.prog 29 #[.pointer (some ⟨b, i * 3, none⟩), evV e] W fun r w' => r = .returned (.bool true) ∧ Off [] W w') := Lib.hid (fun W o => by
    have := may_cli ((B.off0 o).row.cli hi) e
    rwa [hm] at this)
  have HOW := Lib.hid O
  have HTK : Hid (∀ W, Off [] w W → Blk W (tb i) 72 (tkL (s.p i)).toArray ∧ kindOk (s.p i)) := Lib.hid (fun W o => ⟨((B.off0 o).task i hi ha).1, ((B.off0 o).task i hi ha).2.1⟩)
  have HA := Lib.hid ha
  have HC : Hid (∀ W, Off [] w W → Calls Try.prog 32 #[.pointer (some ⟨g, 0, none⟩), .pointer (some ⟨tb i, 0, none⟩), evV e] W fun r w' => r = .returned (.int .i64 3) ∧ (∃ F', IsD w' h F' s.W s.l ∧ ∀ k ∈ F', k ∈ Fm ∨ W.heap.size ≤ k) ∧ Off Fm W w') := Lib.hid (fun W o => jgive_no (B.off0 o).read.1 (B.off0 o).mod ((B.off0 o).task i hi ha).1 (B.task i hi ha).2.1 e h1 h0)
  clear B hm hi O ha h1 h0
  obtain ⟨kind, client, ok, oa, on, at', nn, err⟩ := e
  dsimp only at *
  subst hc hk
  go_enter Try.func19, Try.ntmps19
  go_upto_region 4 with (first | (go_at_call 28; refine (known_in (HB.out.off0 ((Off.refl _ _).alloc _)).read.2.1 HI.out).mono ?_; rintro e w' ⟨rfl, rfl⟩) | (go_at_call 29; refine (HMY.out _ ((Off.refl _ _).alloc _)).mono ?_; rintro r w3 ⟨rfl, o3⟩))
  refine at_worldJ (R := fun W' => Off [] w W' ∧ Blk W' w.heap.size 41 (evL ⟨4, (i : Int), ok, oa, on, at', nn, err⟩).toArray) ⟨((Off.refl _ _).alloc _).trans o3, o3.blk (Blk.new _ _ _) (by simp)⟩ ?_
  rintro W1 ⟨o1, hev⟩
  obtain ⟨v0, v1, v2, v3, v4, v5, v6, v7⟩ := evb_all hev
  have hcl := (HB.out.off0 o1).row.cli HI.out
  have HO := Lib.hid o1
  clear HMY o3 o1 hev
  have k2 := hcl.c2
  unfold tkV at k2
  rw [if_pos HA.out] at k2
  clear hcl
  go_upto_region 14 with fail
  go_still_tail 6, (by kernel_rfl)
  go_wp2_with (go_at_call 32; refine (HC.out _ (HO.out.drew)).mono ?_; rintro r w4 ⟨rfl, hr⟩)
  go_ret
  obtain ⟨⟨F', hd, hf⟩, ho⟩ := hr
  have hs := HO.out.size
  exact ⟨rfl, (HO.out.drew.more (by simp)).trans (ho.more HOW.out.mod), F', (HB.out.off0 HO.out.drew).model ho hd, fun k hk => (hf k hk).imp id (fun h => Nat.le_trans hs h)⟩

theorem play_take_ok {w : World} {g h b : Nat} {Fm F : List Nat} {tb : Nat → Nat} {s : St} {x y : Int} (B : Body w g h b Fm tb s x y) (O : Own b Fm tb s F) {i : Nat} (hi : i < s.c) (e : Ev) (hc : e.client = i) (hm : mayP (s.p i) e = true) (hk : e.kind = 3) (ha : (s.p i).asks = true) (h1 : tookN (s.p i) e.n = true) (h0 : canB s.W s.l e.at_ e.n = true) :
    Calls Try.prog 19 #[.pointer (some ⟨g, 0, none⟩), evV e] w fun r w' => r = .returned (.int .i64 0) ∧ PlayOk w g h b Fm tb s x y F i { s.p i with took := true, at_ := e.at_ } (ins s.l e.at_ e.n) w' := by
  have HB := Lib.hid B
  have HI := Lib.hid hi
  have HMY : Hid (∀ W, Off [] w W → Calls Try.prog 29 #[.pointer (some ⟨b, i * 3, none⟩), evV e] W fun r w' => r = .returned (.bool true) ∧ Off [] W w') := Lib.hid (fun W o => by
    have := may_cli ((B.off0 o).row.cli hi) e
    rwa [hm] at this)
  have HOW := Lib.hid O
  have HTK : Hid (∀ W, Off [] w W → Blk W (tb i) 72 (tkL (s.p i)).toArray ∧ kindOk (s.p i)) := Lib.hid (fun W o => ⟨((B.off0 o).task i hi ha).1, ((B.off0 o).task i hi ha).2.1⟩)
  have HA := Lib.hid ha
  have HC : Hid (∀ W, Off [] w W → Calls Try.prog 31 #[.pointer (some ⟨g, 0, none⟩), .pointer (some ⟨tb i, 0, none⟩), evV e] W fun r w' => r = .returned (.int .i64 0) ∧ ∃ w5, ((∃ F', IsD w5 h F' s.W (ins s.l e.at_ e.n) ∧ ∀ k ∈ F', k ∈ Fm ∨ W.heap.size ≤ k) ∧ Off Fm W w5) ∧ w' = (w5.setCell ⟨tb i, 3, none⟩ (.bool true)).setCell ⟨tb i, 5, none⟩ (.int .i64 e.at_)) := Lib.hid (fun W o => take_ok (B.off0 o).read.1 (B.off0 o).mod ((B.off0 o).task i hi ha).1 (B.task i hi ha).2.1 e h1 h0)
  clear B hm hi O ha h1 h0
  obtain ⟨kind, client, ok, oa, on, at', nn, err⟩ := e
  dsimp only at *
  subst hc hk
  go_enter Try.func19, Try.ntmps19
  go_upto_region 4 with (first | (go_at_call 28; refine (known_in (HB.out.off0 ((Off.refl _ _).alloc _)).read.2.1 HI.out).mono ?_; rintro e w' ⟨rfl, rfl⟩) | (go_at_call 29; refine (HMY.out _ ((Off.refl _ _).alloc _)).mono ?_; rintro r w3 ⟨rfl, o3⟩))
  refine at_worldJ (R := fun W' => Off [] w W' ∧ Blk W' w.heap.size 41 (evL ⟨3, (i : Int), ok, oa, on, at', nn, err⟩).toArray) ⟨((Off.refl _ _).alloc _).trans o3, o3.blk (Blk.new _ _ _) (by simp)⟩ ?_
  rintro W1 ⟨o1, hev⟩
  obtain ⟨v0, v1, v2, v3, v4, v5, v6, v7⟩ := evb_all hev
  have hcl := (HB.out.off0 o1).row.cli HI.out
  have HO := Lib.hid o1
  clear HMY o3 o1 hev
  have k2 := hcl.c2
  unfold tkV at k2
  rw [if_pos HA.out] at k2
  clear hcl
  go_upto_region 12 with fail
  go_still_tail 6, (by kernel_rfl)
  go_wp2_with (go_at_call 31; refine (HC.out _ (HO.out.drew)).mono ?_; rintro r w4 ⟨rfl, hr⟩)
  go_ret
  obtain ⟨w5, ⟨⟨F', hd, hf⟩, ho⟩, rfl⟩ := hr
  have hs := HO.out.size
  have hB := (HB.out.off0 HO.out.drew).model ho hd
  have ht := (hB.task i HI.out HA.out).1
  have hkk := (hB.task i HI.out HA.out).2.1
  dsimp only at ht hkk
  refine ⟨rfl, ((HO.out.drew.more (by simp)).trans (ho.more HOW.out.mod)).trans (((Off.refl _ _).set (.inl (HOW.out.task i HI.out HA.out)) _).set (.inl (HOW.out.task i HI.out HA.out)) _), F', tb, hB.turn HI.out HA.out (q := { s.p i with took := true, at_ := at' }) ⟨rfl, rfl, HA.out, hkk⟩ (((Off.refl _ _).set (.inl (by simp)) _).set (.inl (by simp)) _) (((ht.set 3 _).set 5 _).to (by simp)), fun k hk => (hf k hk).imp id (fun h => Nat.le_trans hs h), fun j hj hja => .inl ⟨rfl, ?_⟩⟩
  by_cases e : j = i
  · subst e; exact HA.out
  · simpa [e] using hja

theorem play_give_ok {w : World} {g h b : Nat} {Fm F : List Nat} {tb : Nat → Nat} {s : St} {x y : Int} (B : Body w g h b Fm tb s x y) (O : Own b Fm tb s F) {i : Nat} (hi : i < s.c) (e : Ev) (hc : e.client = i) (hm : mayP (s.p i) e = true) (hk : e.kind = 4) (ha : (s.p i).asks = true) (h1 : gaveN (s.p i) e.at_ = true) (h0 : giveB s.l e.at_ = true) :
    Calls Try.prog 19 #[.pointer (some ⟨g, 0, none⟩), evV e] w fun r w' => r = .returned (.int .i64 0) ∧ PlayOk w g h b Fm tb s x y F i { s.p i with gave := true } (give s.l e.at_) w' := by
  have HB := Lib.hid B
  have HI := Lib.hid hi
  have HMY : Hid (∀ W, Off [] w W → Calls Try.prog 29 #[.pointer (some ⟨b, i * 3, none⟩), evV e] W fun r w' => r = .returned (.bool true) ∧ Off [] W w') := Lib.hid (fun W o => by
    have := may_cli ((B.off0 o).row.cli hi) e
    rwa [hm] at this)
  have HOW := Lib.hid O
  have HTK : Hid (∀ W, Off [] w W → Blk W (tb i) 72 (tkL (s.p i)).toArray ∧ kindOk (s.p i)) := Lib.hid (fun W o => ⟨((B.off0 o).task i hi ha).1, ((B.off0 o).task i hi ha).2.1⟩)
  have HA := Lib.hid ha
  have HC : Hid (∀ W, Off [] w W → Calls Try.prog 32 #[.pointer (some ⟨g, 0, none⟩), .pointer (some ⟨tb i, 0, none⟩), evV e] W fun r w' => r = .returned (.int .i64 0) ∧ ∃ w5, ((∃ F', IsD w5 h F' s.W (give s.l e.at_) ∧ ∀ k ∈ F', k ∈ Fm ∨ W.heap.size ≤ k) ∧ Off Fm W w5) ∧ w' = w5.setCell ⟨tb i, 4, none⟩ (.bool true)) := Lib.hid (fun W o => jgive_ok (B.off0 o).read.1 (B.off0 o).mod ((B.off0 o).task i hi ha).1 (B.task i hi ha).2.1 e h1 h0)
  clear B hm hi O ha h1 h0
  obtain ⟨kind, client, ok, oa, on, at', nn, err⟩ := e
  dsimp only at *
  subst hc hk
  go_enter Try.func19, Try.ntmps19
  go_upto_region 4 with (first | (go_at_call 28; refine (known_in (HB.out.off0 ((Off.refl _ _).alloc _)).read.2.1 HI.out).mono ?_; rintro e w' ⟨rfl, rfl⟩) | (go_at_call 29; refine (HMY.out _ ((Off.refl _ _).alloc _)).mono ?_; rintro r w3 ⟨rfl, o3⟩))
  refine at_worldJ (R := fun W' => Off [] w W' ∧ Blk W' w.heap.size 41 (evL ⟨4, (i : Int), ok, oa, on, at', nn, err⟩).toArray) ⟨((Off.refl _ _).alloc _).trans o3, o3.blk (Blk.new _ _ _) (by simp)⟩ ?_
  rintro W1 ⟨o1, hev⟩
  obtain ⟨v0, v1, v2, v3, v4, v5, v6, v7⟩ := evb_all hev
  have hcl := (HB.out.off0 o1).row.cli HI.out
  have HO := Lib.hid o1
  clear HMY o3 o1 hev
  have k2 := hcl.c2
  unfold tkV at k2
  rw [if_pos HA.out] at k2
  clear hcl
  go_upto_region 14 with fail
  go_still_tail 6, (by kernel_rfl)
  go_wp2_with (go_at_call 32; refine (HC.out _ (HO.out.drew)).mono ?_; rintro r w4 ⟨rfl, hr⟩)
  go_ret
  obtain ⟨w5, ⟨⟨F', hd, hf⟩, ho⟩, rfl⟩ := hr
  have hs := HO.out.size
  have hB := (HB.out.off0 HO.out.drew).model ho hd
  have ht := (hB.task i HI.out HA.out).1
  have hkk := (hB.task i HI.out HA.out).2.1
  dsimp only at ht hkk
  refine ⟨rfl, ((HO.out.drew.more (by simp)).trans (ho.more HOW.out.mod)).trans ((Off.refl _ _).set (.inl (HOW.out.task i HI.out HA.out)) _), F', tb, hB.turn HI.out HA.out (q := { s.p i with gave := true }) ⟨rfl, rfl, HA.out, hkk⟩ ((Off.refl _ _).set (.inl (by simp)) _) ((ht.set 4 _).to (by simp)), fun k hk => (hf k hk).imp id (fun h => Nat.le_trans hs h), fun j hj hja => .inl ⟨rfl, ?_⟩⟩
  by_cases e : j = i
  · subst e; exact HA.out
  · simpa [e] using hja

theorem play_answer_no {w : World} {g h b : Nat} {Fm F : List Nat} {tb : Nat → Nat} {s : St} {x y : Int} (B : Body w g h b Fm tb s x y) (O : Own b Fm tb s F) {i : Nat} (hi : i < s.c) (e : Ev) (hc : e.client = i) (hm : mayP (s.p i) e = true) (hk : e.kind = 5) (ha : (s.p i).asks = true) (h1 : answerN (s.p i) e.err e.at_ = false) :
    Calls Try.prog 19 #[.pointer (some ⟨g, 0, none⟩), evV e] w fun r w' => r = .returned (.int .i64 4) ∧ PlayNo w g h b Fm tb s x y F w' := by
  have HB := Lib.hid B
  have HI := Lib.hid hi
  have HMY : Hid (∀ W, Off [] w W → Calls Try.prog 29 #[.pointer (some ⟨b, i * 3, none⟩), evV e] W fun r w' => r = .returned (.bool true) ∧ Off [] W w') := Lib.hid (fun W o => by
    have := may_cli ((B.off0 o).row.cli hi) e
    rwa [hm] at this)
  have HOW := Lib.hid O
  have HK : Hid (∀ W, Off [] w W → Calls Try.prog 33 #[.pointer (some ⟨b, i * 3, none⟩), evV e] W fun r w' => r = .returned (.int .i64 4) ∧ Off [] W w') := Lib.hid (fun W o => answer_no ((B.off0 o).row.cli hi) ha ((B.off0 o).task i hi ha).1 (B.task i hi ha).2.1 e h1)
  clear B hm hi O ha h1
  obtain ⟨kind, client, ok, oa, on, at', nn, err⟩ := e
  dsimp only at *
  subst hc hk
  go_enter Try.func19, Try.ntmps19
  go_upto_region 4 with (first | (go_at_call 28; refine (known_in (HB.out.off0 ((Off.refl _ _).alloc _)).read.2.1 HI.out).mono ?_; rintro e w' ⟨rfl, rfl⟩) | (go_at_call 29; refine (HMY.out _ ((Off.refl _ _).alloc _)).mono ?_; rintro r w3 ⟨rfl, o3⟩))
  refine at_worldJ (R := fun W' => Off [] w W' ∧ Blk W' w.heap.size 41 (evL ⟨5, (i : Int), ok, oa, on, at', nn, err⟩).toArray) ⟨((Off.refl _ _).alloc _).trans o3, o3.blk (Blk.new _ _ _) (by simp)⟩ ?_
  rintro W1 ⟨o1, hev⟩
  obtain ⟨v0, v1, v2, v3, v4, v5, v6, v7⟩ := evb_all hev
  have hcl := (HB.out.off0 o1).row.cli HI.out
  have HO := Lib.hid o1
  clear HMY o3 o1 hev
  go_wp2_with (go_at_call 33; refine (HK.out _ HO.out).mono ?_; rintro r w4 ⟨rfl, hr⟩)
  go_ret
  exact ⟨rfl, (HO.out.trans hr).more (by simp), Fm, HB.out.off0 (HO.out.trans hr), fun k hk => .inl hk⟩

theorem play_answer_ok {w : World} {g h b : Nat} {Fm F : List Nat} {tb : Nat → Nat} {s : St} {x y : Int} (B : Body w g h b Fm tb s x y) (O : Own b Fm tb s F) {i : Nat} (hi : i < s.c) (e : Ev) (hc : e.client = i) (hm : mayP (s.p i) e = true) (hk : e.kind = 5) (ha : (s.p i).asks = true) (h1 : answerN (s.p i) e.err e.at_ = true) :
    Calls Try.prog 19 #[.pointer (some ⟨g, 0, none⟩), evV e] w fun r w' => r = .returned (.int .i64 0) ∧ PlayOk w g h b Fm tb s x y F i { s.p i with asks := false } s.l w' := by
  have HB := Lib.hid B
  have HI := Lib.hid hi
  have HMY : Hid (∀ W, Off [] w W → Calls Try.prog 29 #[.pointer (some ⟨b, i * 3, none⟩), evV e] W fun r w' => r = .returned (.bool true) ∧ Off [] W w') := Lib.hid (fun W o => by
    have := may_cli ((B.off0 o).row.cli hi) e
    rwa [hm] at this)
  have HOW := Lib.hid O
  have HK : Hid (∀ W, Off [] w W → Calls Try.prog 33 #[.pointer (some ⟨b, i * 3, none⟩), evV e] W fun r w' => r = .returned (.int .i64 0) ∧ ∃ w1, Off [] W w1 ∧ w' = w1.setCell ⟨b, i * 3 + 2, none⟩ (.pointer none)) := Lib.hid (fun W o => answer_ok ((B.off0 o).row.cli hi) ha ((B.off0 o).task i hi ha).1 (B.task i hi ha).2.1 e h1)
  clear B hm hi O ha h1
  obtain ⟨kind, client, ok, oa, on, at', nn, err⟩ := e
  dsimp only at *
  subst hc hk
  go_enter Try.func19, Try.ntmps19
  go_upto_region 4 with (first | (go_at_call 28; refine (known_in (HB.out.off0 ((Off.refl _ _).alloc _)).read.2.1 HI.out).mono ?_; rintro e w' ⟨rfl, rfl⟩) | (go_at_call 29; refine (HMY.out _ ((Off.refl _ _).alloc _)).mono ?_; rintro r w3 ⟨rfl, o3⟩))
  refine at_worldJ (R := fun W' => Off [] w W' ∧ Blk W' w.heap.size 41 (evL ⟨5, (i : Int), ok, oa, on, at', nn, err⟩).toArray) ⟨((Off.refl _ _).alloc _).trans o3, o3.blk (Blk.new _ _ _) (by simp)⟩ ?_
  rintro W1 ⟨o1, hev⟩
  obtain ⟨v0, v1, v2, v3, v4, v5, v6, v7⟩ := evb_all hev
  have hcl := (HB.out.off0 o1).row.cli HI.out
  have HO := Lib.hid o1
  clear HMY o3 o1 hev
  go_wp2_with (go_at_call 33; refine (HK.out _ HO.out).mono ?_; rintro r w4 ⟨rfl, w5, o5, rfl⟩)
  go_ret
  have HP := HO.out.trans o5
  refine ⟨rfl, (HP.more (by simp)).trans ((Off.refl _ _).set (.inl HOW.out.row) _), Fm, _, (HB.out.off0 HP).client (t := tb i) (q := { s.p i with asks := false }) ((Off.refl _ _).set (.inl (by simp)) _) ?_ (fun ha => ?_) (fun ha j hj hne hja => ?_) (fun ha => HB.out.was i HI.out ha), fun k hk => .inl hk, fun j hj ha => .inl ⟨?_, ?_⟩⟩
  · refine ((HB.out.off0 HP).row.set2 i _).to (fun j _ => ?_)
    unfold updV
    by_cases e : j = i
    · subst e; simp [tkV]
    · simp [e]
  · cases ha
  · cases ha
  · by_cases e : j = i
    · simp [e]
    · simp [e]
  · by_cases e : j = i
    · subst e; simp at ha
    · simpa [e] using ha

end Go.Proofs.Ytfgkjfneeggbjaa.Jud
