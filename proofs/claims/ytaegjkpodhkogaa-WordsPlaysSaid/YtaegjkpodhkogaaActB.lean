/- WordsPlays: the guarded access. -/
import Derived.Test.YtaegjkpodhkogaaActA
namespace Go.Proofs.Ytaegjkpodhkogaa.Words
open Go.RowKit Mem Go.Proofs.Ytaegjkpodhkogaa.Open

theorem asks_plays (cap : Array Value) : Asks 23 cap := fun _ => by kernel_rfl

/-- What the guarded function captures. -/
structure Env (w : World) (q5 q6 q8 q9 q10 g gm : Nat) (o c p u x : Int) (inb : Bool) : Prop where
  b5 : Blk w q5 23 #[.pointer (some ⟨g, 0, none⟩)]
  b6 : Blk w q6 38 #[.pointer (some ⟨gm, 0, none⟩)]
  b8 : Blk w q8 41 #[.int .i64 o, .int .i64 c, .int .i64 p, .int .u64 u, .int .u64 x]
  b9 : Blk w q9 4 #[.bool inb]
  b10 : Blk w q10 4 #[.bool true]
  ne : q9 ≠ q10

section
variable {w : World} {base g h gm hm q5 q6 q8 q9 q10 : Nat} {s : St} {o c p u x : Int}

/-- The captured ones are none of the objects' blocks. -/
theorem Env.apart {inb : Bool} (he : Env w q5 q6 q8 q9 q10 g gm o c p u x inb) (hb : Both w base g h gm hm s) :
    q5 ∉ [g, h, gm, hm] ∧ q6 ∉ [g, h, gm, hm] ∧ q8 ∉ [g, h, gm, hm] ∧ q9 ∉ [g, h, gm, hm] ∧ q10 ∉ [g, h, gm, hm] := by
  obtain ⟨cs, hk⟩ := hb.ism.blk
  have key : ∀ (q : Nat) (t : TypeId) (cs' : Array Value), Blk w q t cs' → t ≠ 55 → t ≠ 25 → t ≠ 44 → q ∉ [g, h, gm, hm] := fun q t cs' hq h1 h2 h3 => by
    have e1 := hq.ne hb.isw.head h1
    have e2 := hq.ne hb.isw.row h2
    have e3 := hq.ne hk h3
    have e4 := hq.ne hb.ism.row h2
    simp [e1, e2, e3, e4]
  exact ⟨key _ _ _ he.b5 (by decide) (by decide) (by decide), key _ _ _ he.b6 (by decide) (by decide) (by decide), key _ _ _ he.b8 (by decide) (by decide) (by decide), key _ _ _ he.b9 (by decide) (by decide) (by decide), key _ _ _ he.b10 (by decide) (by decide) (by decide)⟩

set_option maxHeartbeats 1000000 in
theorem plays_in {k : Nat} (he : Env w q5 q6 q8 q9 q10 g gm o c k u x true) (hb : Both w base g h gm hm s) (hk : k < s.row.length) (hs0 : 0 ≤ s.steps) (hs1 : s.steps < 900) :
    Calls Try.prog 23 #[.pointer (some ⟨q5, 0, none⟩), .pointer (some ⟨q6, 0, none⟩), .pointer (some ⟨q8, 0, none⟩), .pointer (some ⟨q9, 0, none⟩), .pointer (some ⟨q10, 0, none⟩)] w
      fun e w' => e = .returned (.tuple #[]) ∧ (∃ w1, Acted w base g h gm hm s w1 ∧ w' = w1.setCell ⟨q10, 0, none⟩ (.bool true)) := by
  obtain ⟨a5, a6, a8, a9, a10⟩ := he.apart hb
  have c5 := he.b5.cell 0
  have c6 := he.b6.cell 0
  obtain ⟨d0, d1, d2, d3, d4⟩ := deed_cells he.b8
  have c9 := he.b9.cell 0
  go_enter Try.func23, Try.ntmps23
  go_wp2_with (go_at_call 24; refine (act_in hb o c u x k hk hs0 hs1).mono ?_; rintro e w1 ⟨rfl, hac⟩; have hb1 : Blk w1 q10 4 #[.bool true] := (by obtain ⟨s', _, _, _, hsv⟩ := hac; exact hsv.blk he.b10 a10 (by decide)); have e1 := hb1.cell 0; have z1 := hb1.free 0)
  go_end0
  exact ⟨rfl, w1, hac, rfl⟩

theorem plays_out (he : Env w q5 q6 q8 q9 q10 g gm o c p u x false) (hb : Both w base g h gm hm s) (hp : ¬ (0 ≤ p ∧ p < s.row.length)) :
    Calls Try.prog 23 #[.pointer (some ⟨q5, 0, none⟩), .pointer (some ⟨q6, 0, none⟩), .pointer (some ⟨q8, 0, none⟩), .pointer (some ⟨q9, 0, none⟩), .pointer (some ⟨q10, 0, none⟩)] w
      fun e w' => Off [] w w' ∧ ∃ t v, e = .panicked [{ v := .iface t v, recovered := false }] := by
  have c5 := he.b5.cell 0
  have c6 := he.b6.cell 0
  obtain ⟨d0, d1, d2, d3, d4⟩ := deed_cells he.b8
  have c9 := he.b9.cell 0
  go_enter Try.func23, Try.ntmps23
  go_wp2_with (go_at_call 24; refine (act_out hb o c p u x hp).mono ?_; rintro e w1 ⟨ho1, t, v, rfl⟩)
  exact ⟨rfl, ho1, _, _, rfl⟩

/-- Behind the guarded access: both say the same again; what was captured is there as it was. -/
structure Past (w : World) (base q5 q6 q8 q9 q10 g h gm hm : Nat) (o c p u x : Int) (inb : Bool) (s : St) (w' : World) (s' : St) : Prop where
  both : Both w' base g h gm hm s'
  env : Env w' q5 q6 q8 q9 q10 g gm o c p u x inb
  len : s'.row.length = s.row.length
  lo : s.steps ≤ s'.steps
  hi : s'.steps ≤ s.steps + 1
  save : Save [g, h, gm, hm, q10] base w w'

theorem guard_plays_in {k : Nat} (he : Env w q5 q6 q8 q9 q10 g gm o c k u x true) (hb : Both w base g h gm hm s) (hk : k < s.row.length) (hs0 : 0 ≤ s.steps) (hs1 : s.steps < 900) :
    Calls Try.prog 15 #[.func (.func 23) #[] #[.pointer (some ⟨q5, 0, none⟩), .pointer (some ⟨q6, 0, none⟩), .pointer (some ⟨q8, 0, none⟩), .pointer (some ⟨q9, 0, none⟩), .pointer (some ⟨q10, 0, none⟩)]] w
      fun e w' => e = .returned (.bool true) ∧ ∃ s', Past w base q5 q6 q8 q9 q10 g h gm hm o c k u x true s w' s' := by
  refine (guard_ends _ _ (asks_plays _) w _ (plays_in he hb hk hs0 hs1)).mono ?_
  rintro e w' ⟨rfl, w1, ⟨s', hb1, hl, hst, hsv⟩, rfl⟩
  obtain ⟨a5, a6, a8, a9, a10⟩ := he.apart hb
  have n5 := he.b5.ne he.b10 (by decide)
  have n6 := he.b6.ne he.b10 (by decide)
  have n8 := he.b8.ne he.b10 (by decide)
  have n9 := he.ne
  have ho : Off [q10] w1 (w1.setCell ⟨q10, 0, none⟩ (.bool true)) := (Off.refl _ _).set (.inl (by simp)) _
  have a10' : g ≠ q10 ∧ h ≠ q10 ∧ gm ≠ q10 ∧ hm ≠ q10 := by
    simp at a10
    omega
  have k10 := hsv.blk he.b10 a10 (by decide)
  refine ⟨rfl, s', ⟨⟨hb1.isw.off ho (by simp; omega) (by simp; omega), hb1.ism.off ho (by simp; omega) (by simp; omega) (fun k m => ?_), hb1.ne, hb1.bg, hb1.bh⟩, ⟨ho.blk (hsv.blk he.b5 a5 (by decide)) (by simp; omega), ho.blk (hsv.blk he.b6 a6 (by decide)) (by simp; omega), ho.blk (hsv.blk he.b8 a8 (by decide)) (by simp; omega), ho.blk (hsv.blk he.b9 a9 (by decide)) (by simp; omega), (k10.set 0 _).to (by simp), n9⟩, hl, by omega, by omega, (hsv.more ?_).trans ((Save.of_off ho base).more ?_)⟩⟩
  · simp at m
    subst m
    exact ⟨_, _, k10, by decide⟩
  · intro k m
    simp at m ⊢
    omega
  · intro k m
    simp at m ⊢
    omega

theorem guard_plays_out (he : Env w q5 q6 q8 q9 q10 g gm o c p u x false) (hb : Both w base g h gm hm s) (hp : ¬ (0 ≤ p ∧ p < s.row.length)) :
    Calls Try.prog 15 #[.func (.func 23) #[] #[.pointer (some ⟨q5, 0, none⟩), .pointer (some ⟨q6, 0, none⟩), .pointer (some ⟨q8, 0, none⟩), .pointer (some ⟨q9, 0, none⟩), .pointer (some ⟨q10, 0, none⟩)]] w
      fun e w' => e = .returned (.bool false) ∧ ∃ s', Past w base q5 q6 q8 q9 q10 g h gm hm o c p u x false s w' s' := by
  refine (guard_panics _ _ (asks_plays _) w _ (plays_out he hb hp)).mono ?_
  rintro e w' ⟨rfl, ho⟩
  exact ⟨rfl, s, ⟨hb.off0 ho, ⟨ho.blk he.b5 (by simp), ho.blk he.b6 (by simp), ho.blk he.b8 (by simp), ho.blk he.b9 (by simp), ho.blk he.b10 (by simp), he.ne⟩, rfl, by omega, by omega, Save.of_off (ho.more (by simp)) base⟩⟩
end

end Go.Proofs.Ytaegjkpodhkogaa.Words
