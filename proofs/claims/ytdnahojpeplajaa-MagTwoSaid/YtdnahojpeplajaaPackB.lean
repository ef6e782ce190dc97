/- Package pack: kinds, and a word taken apart: a contract each. -/
import Derived.Test.YtdnahojpeplajaaPackA
namespace Go.Proofs.Ytdnahojpeplajaa.Pack
open Go.RowKit Mem

theorem isEntry_any (k a b c : Int) (w : World) :
    Calls Try.prog 54 #[.agg #[.int .i64 k, .int .i64 a, .int .i64 b, .int .i64 c]] w fun e w' => e = .returned (.bool (isEntryB k a b c)) ∧ Off [] w w' := by
  by_cases h : k = 1
  · subst h
    go_enter Try.func54, Try.ntmps54
    go_wp2_with (go_at_call 66; refine (fit_any _ _ _ _ _ _).mono ?_; rintro e w1 ⟨rfl, ho⟩)
    go_ret
    exact ⟨rfl, ((Off.refl _ _).alloc _).trans ho⟩
  · rw [show isEntryB k a b c = false from if_neg h]
    have q : (k == 1) = false := by simp; omega
    clear h
    go_enter Try.func54, Try.ntmps54
    go_wp2
    go_ret
    exact ⟨rfl, (Off.refl _ _).alloc _⟩

/-- A word taken apart. -/
theorem part_out (x : Int) (h1 : 268435456 ≤ x) (h2 : x < 18446744073709551616) (w : World) :
    Calls Try.prog 56 #[.int .u64 x] w fun e w' => e = .returned (.tuple #[.agg #[.int .i64 0, .int .i64 0, .int .i64 0, .int .i64 0], .bool false]) ∧ Off [] w w' := by
  have q : (x / 268435456 != 0) = true := by simp; omega
  clear h1
  go_enter Try.func56, Try.ntmps56
  go_wp2
  exact bodyPost_ret (v := .tuple #[.agg #[.int .i64 0, .int .i64 0, .int .i64 0, .int .i64 0], .bool false]) (by simp [results, Try.results56, go_sem]) rfl ⟨rfl, (Off.refl _ _).alloc _⟩

theorem part_in (x : Int) (h1 : 0 ≤ x) (h2 : x < 268435456) (w : World) :
    Calls Try.prog 56 #[.int .u64 x] w fun e w' => e = .returned (.tuple #[.agg #[.int .i64 (kindI x), .int .i64 (aI x), .int .i64 (bI x), .int .i64 (cI x)], .bool true]) ∧ Off [] w w' := by
  have q : (x / 268435456 != 0) = false := by simp; omega
  have a15 := and15 (x := x) (by omega) (by omega)
  have e0 := and255 (x := x / 16) (by omega) (by omega)
  have e1 := and255 (x := x / 4096) (by omega) (by omega)
  have e2 := and255 (x := x / 1048576) (by omega) (by omega)
  go_enter Try.func56, Try.ntmps56
  go_wp2
  go_loopw [14] (fun i wr => ∃ u v z : Int, ((i = .int .i64 0 ∧ u = 0 ∧ v = 0 ∧ z = 0) ∨ (i = .int .i64 1 ∧ u = aI x ∧ v = 0 ∧ z = 0) ∨ (i = .int .i64 2 ∧ u = aI x ∧ v = bI x ∧ z = 0) ∨ (i = .int .i64 3 ∧ u = aI x ∧ v = bI x ∧ z = cI x)) ∧ Blk wr (w.heap.size + 1) 99 #[.int .i64 (x % 16), .int .i64 u, .int .i64 v, .int .i64 z] ∧ Blk wr w.heap.size 99 #[.int .i64 0, .int .i64 0, .int .i64 0, .int .i64 0] ∧ Off [] w wr) (fun i _ => (3 - intOf i).toNat)
  case atStart =>
    have hb1 := Blk.new (w.alloc (.cells #[.int .i64 0, .int .i64 0, .int .i64 0, .int .i64 0] 99)) 99 #[.int .i64 (x % 16), .int .i64 0, .int .i64 0, .int .i64 0]
    simp only [World.size_alloc] at hb1
    exact ⟨0, 0, 0, .inl ⟨rfl, rfl, rfl, rfl⟩, hb1, (Blk.new w _ _).alloc _, ((Off.refl _ _).alloc _).alloc _⟩
  case round =>
    obtain ⟨u, v, z, hc, h1, h0, ho⟩ := hrel
    have f0 := h0.free 0
    have f1 := h0.free 1
    have f2 := h0.free 2
    have f3 := h0.free 3
    have g0 := h1.free 0
    have g1 := h1.free 1
    have g2 := h1.free 2
    have g3 := h1.free 3
    have d0 : wr.cell? ⟨w.heap.size + 1, 0, none⟩ = some (.int .i64 (x % 16)) := h1.cell 0
    have d1 : wr.cell? ⟨w.heap.size + 1, 1, none⟩ = some (.int .i64 u) := h1.cell 1
    have d2 : wr.cell? ⟨w.heap.size + 1, 2, none⟩ = some (.int .i64 v) := h1.cell 2
    have d3 : wr.cell? ⟨w.heap.size + 1, 3, none⟩ = some (.int .i64 z) := h1.cell 3
    have c0 : wr.cell? ⟨w.heap.size, 0, none⟩ = some (.int .i64 0) := h0.cell 0
    have c1 : wr.cell? ⟨w.heap.size, 1, none⟩ = some (.int .i64 0) := h0.cell 1
    have c2 : wr.cell? ⟨w.heap.size, 2, none⟩ = some (.int .i64 0) := h0.cell 2
    have c3 : wr.cell? ⟨w.heap.size, 3, none⟩ = some (.int .i64 0) := h0.cell 3
    have H0 := Lib.hid h0
    have H1 := Lib.hid h1
    clear h0 h1
    have hs := ho.size
    rcases hc with ⟨rfl, rfl, rfl, rfl⟩ | ⟨rfl, rfl, rfl, rfl⟩ | ⟨rfl, rfl, rfl, rfl⟩ | ⟨rfl, rfl, rfl, rfl⟩
    · go_wp2
      go_roundw
      case rel => exact ⟨aI x, 0, 0, .inr (.inl ⟨rfl, rfl, rfl, rfl⟩), (H1.out.set 1 _).to (by simp [aI]), H0.out.far (by omega) _ _, ho.set (.inr (by simp)) _⟩
      case measure => simp [intOf]
    · go_wp2
      go_roundw
      case rel => exact ⟨aI x, bI x, 0, .inr (.inr (.inl ⟨rfl, rfl, rfl, rfl⟩)), (H1.out.set 2 _).to (by simp [bI]), H0.out.far (by omega) _ _, ho.set (.inr (by simp)) _⟩
      case measure => simp [intOf]
    · go_wp2
      go_roundw
      case rel => exact ⟨aI x, bI x, cI x, .inr (.inr (.inr ⟨rfl, rfl, rfl, rfl⟩)), (H1.out.set 3 _).to (by simp [cI]), H0.out.far (by omega) _ _, ho.set (.inr (by simp)) _⟩
      case measure => simp [intOf]
    · go_wp2
      have hz := (((H0.out.set 0 (.int .i64 (x % 16))).set 1 (.int .i64 (aI x))).set 2 (.int .i64 (bI x))).set 3 (.int .i64 (cI x))
      have z0 := hz.cell 0
      have z1 := hz.cell 1
      have z2 := hz.cell 2
      have z3 := hz.cell 3
      have HO := (((ho.set (p := ⟨w.heap.size, 0, none⟩) (.inr (Nat.le_refl _)) (.int .i64 (x % 16))).set (p := ⟨w.heap.size, 1, none⟩) (.inr (Nat.le_refl _)) (.int .i64 (aI x))).set (p := ⟨w.heap.size, 2, none⟩) (.inr (Nat.le_refl _)) (.int .i64 (bI x))).set (p := ⟨w.heap.size, 3, none⟩) (.inr (Nat.le_refl _)) (.int .i64 (cI x))
      clear c0 c1 c2 c3 d0 d1 d2 d3 f0 f1 f2 f3 g0 g1 g2 g3 hz
      simp at z0 z1 z2 z3
      exact bodyPost_ret (v := .tuple #[.agg #[.int .i64 (kindI x), .int .i64 (aI x), .int .i64 (bI x), .int .i64 (cI x)], .bool true]) (by simp [results, Try.results56, go_sem, z0, z1, z2, z3, kindI]) rfl ⟨rfl, HO⟩

end Go.Proofs.Ytdnahojpeplajaa.Pack
