/- Package frame: a stack as a list of frames: New, Top, Go, Set, Get, Depth, Clear: a contract each. -/
import Derived.Test.YtkccnijnipkjnaaFrmA
namespace Go.Proofs.Ytkccnijnipkjnaa.Frm
open Go.RowKit Mem

/-- A frame's ten cells: code, counter, eight registers. -/
abbrev frL (f : Nat → Int) : List Value := [.int .i64 (f 0), .int .i64 (f 1), .int .i64 (f 2), .int .i64 (f 3), .int .i64 (f 4), .int .i64 (f 5), .int .i64 (f 6), .int .i64 (f 7), .int .i64 (f 8), .int .i64 (f 9)]
abbrev frV (f : Nat → Int) : Value := .agg #[.int .i64 (f 0), .int .i64 (f 1), .int .i64 (f 2), .int .i64 (f 3), .int .i64 (f 4), .int .i64 (f 5), .int .i64 (f 6), .int .i64 (f 7), .int .i64 (f 8), .int .i64 (f 9)]
def zeroF : Nat → Int := fun _ => 0
theorem frL_mem (f : Nat → Int) : memL f 10 = frL f := rfl

/-- A stack in block g: these frames, at most m. -/
structure IsS (w : World) (g : Nat) (l : List (Nat → Int)) (m : Nat) : Prop where
  mem : ∃ M, Mem w g M ∧ M 160 = l.length ∧ M 161 = m ∧ ∀ k f, l[k]? = some f → ∀ j, j < 10 → M (k * 10 + j) = f j
  le : l.length ≤ m
  cap : m ≤ 16

section
variable {w w' : World} {g m : Nat} {l : List (Nat → Int)}
theorem IsS.off {S : List Nat} (h : IsS w g l m) (ho : Off S w w') (hg : g ∉ S) : IsS w' g l m := by
  obtain ⟨M, hM, r⟩ := h.mem
  exact ⟨⟨M, hM.off ho hg, r⟩, h.le, h.cap⟩
theorem IsS.off0 (h : IsS w g l m) (ho : Off [] w w') : IsS w' g l m := h.off ho (by simp)
theorem IsS.lt (h : IsS w g l m) : g < w.heap.size := by
  obtain ⟨M, hM, _⟩ := h.mem
  exact hM.blk.lt
theorem IsS.dep (h : IsS w g l m) : w.cell? ⟨g, 160, none⟩ = some (.int .i64 l.length) := by
  obtain ⟨M, hM, h1, _⟩ := h.mem
  rw [hM.cell 160 (by omega), h1]
theorem IsS.most (h : IsS w g l m) : w.cell? ⟨g, 161, none⟩ = some (.int .i64 m) := by
  obtain ⟨M, hM, _, h1, _⟩ := h.mem
  rw [hM.cell 161 (by omega), h1]
end

theorem getElem?_snoc {α : Type} (l : List α) (a : α) : (l ++ [a])[l.length]? = some a := by simp

section
variable {w w' : World} {g m : Nat} {l : List (Nat → Int)} {f : Nat → Int}
theorem IsS.dep1 (h : IsS w g (l ++ [f]) m) : w.cell? ⟨g, 160, none⟩ = some (.int .i64 ((l.length : Int) + 1)) := by
  have := h.dep
  simpa using this
theorem IsS.lt16 (h : IsS w g (l ++ [f]) m) : l.length < 16 := by
  have h1 := h.le
  have h2 := h.cap
  simp at h1
  omega
/-- The last frame lies there. -/
theorem IsS.range (h : IsS w g (l ++ [f]) m) : w.rangeAt g (l.length * 10) (frL f) := by
  obtain ⟨M, hM, _, _, h3⟩ := h.mem
  have h16 := h.lt16
  have hr := hM.range (l.length * 10) 10 (by omega)
  rw [memL_eq (N := f) (fun j hj => h3 _ _ (getElem?_snoc l f) j hj)] at hr
  exact hr
theorem IsS.there (h : IsS w g (l ++ [f]) m) : w.there g (l.length * 10) 10 := by
  obtain ⟨M, hM, _⟩ := h.mem
  have h16 := h.lt16
  exact hM.there _ _ (by omega)
/-- A cell of the last frame put anew. -/
theorem IsS.put (h : IsS w g (l ++ [f]) m) (j : Nat) (hj : j < 10) (x : Int) : IsS (w.setCell ⟨g, l.length * 10 + j, none⟩ (.int .i64 x)) g (l ++ [upd f j x]) m := by
  obtain ⟨M, hM, h1, h2, h3⟩ := h.mem
  have h16 := h.lt16
  refine ⟨⟨upd M (l.length * 10 + j) x, hM.set _ _, ?_, ?_, ?_⟩, by simpa using h.le, h.cap⟩
  · unfold upd; rw [if_neg (by omega), h1]; simp
  · unfold upd; rw [if_neg (by omega), h2]
  · intro k f' hk i hi
    by_cases e : k = l.length
    · subst e
      rw [getElem?_snoc] at hk
      injection hk with hk
      subst hk
      unfold upd
      by_cases e2 : i = j
      · subst e2; simp
      · rw [if_neg (by omega), if_neg e2]
        exact h3 _ _ (getElem?_snoc l f) i hi
    · have hlt : k < l.length := by
        have := (List.getElem?_eq_some_iff.1 hk).1
        simp at this
        omega
      unfold upd
      rw [if_neg (by omega)]
      refine h3 k f' ?_ i hi
      rw [List.getElem?_append_left hlt] at hk ⊢
      exact hk
theorem IsS.cells (h : IsS w g (l ++ [f]) m) : w.cell? ⟨g, l.length * 10, none⟩ = some (.int .i64 (f 0)) ∧ w.cell? ⟨g, l.length * 10 + 1, none⟩ = some (.int .i64 (f 1)) ∧ w.cell? ⟨g, l.length * 10 + 2, none⟩ = some (.int .i64 (f 2)) ∧
    w.cell? ⟨g, l.length * 10 + 3, none⟩ = some (.int .i64 (f 3)) ∧ w.cell? ⟨g, l.length * 10 + 4, none⟩ = some (.int .i64 (f 4)) ∧ w.cell? ⟨g, l.length * 10 + 5, none⟩ = some (.int .i64 (f 5)) ∧ w.cell? ⟨g, l.length * 10 + 6, none⟩ = some (.int .i64 (f 6)) ∧
    w.cell? ⟨g, l.length * 10 + 7, none⟩ = some (.int .i64 (f 7)) ∧ w.cell? ⟨g, l.length * 10 + 8, none⟩ = some (.int .i64 (f 8)) ∧ w.cell? ⟨g, l.length * 10 + 9, none⟩ = some (.int .i64 (f 9)) := by
  have r := h.range
  exact ⟨r 0 _ rfl, r 1 _ rfl, r 2 _ rfl, r 3 _ rfl, r 4 _ rfl, r 5 _ rfl, r 6 _ rfl, r 7 _ rfl, r 8 _ rfl, r 9 _ rfl⟩
end

/-- Ten cells that are there. -/
theorem blk_there {w : World} {b : Nat} {t : TypeId} {cs : Array Value} (h : Blk w b t cs) (n : Nat) (hn : n ≤ cs.size) : w.there b 0 n := fun j hj => ⟨by rw [Nat.zero_add, h.cell, Array.getElem?_eq_getElem (by omega)]; rfl, h.free _⟩
theorem frL_cells {w : World} {b : Nat} {f : Nat → Int} (ht : w.there b 0 10) : (w.setCells b 0 (frL f)).cell? ⟨b, 0, none⟩ = some (.int .i64 (f 0)) ∧ (w.setCells b 0 (frL f)).cell? ⟨b, 1, none⟩ = some (.int .i64 (f 1)) ∧ (w.setCells b 0 (frL f)).cell? ⟨b, 2, none⟩ = some (.int .i64 (f 2)) ∧
    (w.setCells b 0 (frL f)).cell? ⟨b, 3, none⟩ = some (.int .i64 (f 3)) ∧ (w.setCells b 0 (frL f)).cell? ⟨b, 4, none⟩ = some (.int .i64 (f 4)) ∧ (w.setCells b 0 (frL f)).cell? ⟨b, 5, none⟩ = some (.int .i64 (f 5)) ∧ (w.setCells b 0 (frL f)).cell? ⟨b, 6, none⟩ = some (.int .i64 (f 6)) ∧
    (w.setCells b 0 (frL f)).cell? ⟨b, 7, none⟩ = some (.int .i64 (f 7)) ∧ (w.setCells b 0 (frL f)).cell? ⟨b, 8, none⟩ = some (.int .i64 (f 8)) ∧ (w.setCells b 0 (frL f)).cell? ⟨b, 9, none⟩ = some (.int .i64 (f 9)) := by
  have r := World.rangeAt_setCells_same w b 0 (frL f) ht
  have e : ∀ j v, (frL f)[j]? = some v → (w.setCells b 0 (frL f)).cell? ⟨b, j, none⟩ = some v := fun j v hv => by have := r j v hv; rwa [Nat.zero_add] at this
  exact ⟨e 0 _ rfl, e 1 _ rfl, e 2 _ rfl, e 3 _ rfl, e 4 _ rfl, e 5 _ rfl, e 6 _ rfl, e 7 _ rfl, e 8 _ rfl, e 9 _ rfl⟩

theorem frame_info : (Try.prog.info? 37).map (·.size) = some 10 := by kernel_rfl
theorem ten_cells {w : World} {b : Nat} {t : TypeId} {f : Nat → Int} (h : Blk w b t (frL f).toArray) : (∀ i, w.frozen? ⟨b, i, none⟩ = false) ∧ w.cell? ⟨b, 0, none⟩ = some (.int .i64 (f 0)) ∧ w.cell? ⟨b, 1, none⟩ = some (.int .i64 (f 1)) ∧ w.cell? ⟨b, 2, none⟩ = some (.int .i64 (f 2)) ∧
    w.cell? ⟨b, 3, none⟩ = some (.int .i64 (f 3)) ∧ w.cell? ⟨b, 4, none⟩ = some (.int .i64 (f 4)) ∧ w.cell? ⟨b, 5, none⟩ = some (.int .i64 (f 5)) ∧ w.cell? ⟨b, 6, none⟩ = some (.int .i64 (f 6)) ∧
    w.cell? ⟨b, 7, none⟩ = some (.int .i64 (f 7)) ∧ w.cell? ⟨b, 8, none⟩ = some (.int .i64 (f 8)) ∧ w.cell? ⟨b, 9, none⟩ = some (.int .i64 (f 9)) :=
  ⟨h.free, h.cell 0, h.cell 1, h.cell 2, h.cell 3, h.cell 4, h.cell 5, h.cell 6, h.cell 7, h.cell 8, h.cell 9⟩
/-- A block of ten ints, each put anew, from the first to the last. -/
abbrev tenW (w : World) (b : Nat) (f : Nat → Int) : World := ((((((((((w.setCell ⟨b, 0, none⟩ (.int .i64 (f 0))).setCell ⟨b, 1, none⟩ (.int .i64 (f 1))).setCell ⟨b, 2, none⟩ (.int .i64 (f 2))).setCell ⟨b, 3, none⟩ (.int .i64 (f 3))).setCell ⟨b, 4, none⟩ (.int .i64 (f 4))).setCell ⟨b, 5, none⟩ (.int .i64 (f 5))).setCell ⟨b, 6, none⟩ (.int .i64 (f 6))).setCell ⟨b, 7, none⟩ (.int .i64 (f 7))).setCell ⟨b, 8, none⟩ (.int .i64 (f 8))).setCell ⟨b, 9, none⟩ (.int .i64 (f 9)))
theorem ten_set {w : World} {b : Nat} {t : TypeId} {f0 : Nat → Int} (h : Blk w b t (frL f0).toArray) (f : Nat → Int) : Blk (tenW w b f) b t (frL f).toArray :=
  ((((((((((h.set 0 _).set 1 _).set 2 _).set 3 _).set 4 _).set 5 _).set 6 _).set 7 _).set 8 _).set 9 _).to (by simp)
theorem ten_off {S : List Nat} {a w : World} {b : Nat} (h : Off S a w) (hb : b ∈ S ∨ a.heap.size ≤ b) (f : Nat → Int) : Off S a (tenW w b f) :=
  (((((((((h.set hb _).set hb _).set hb _).set hb _).set hb _).set hb _).set hb _).set hb _).set hb _).set hb _
theorem store_fr {w : World} {b o : Nat} (f : Nat → Int) (ht : w.there b o 10) : (Instr.storeAt 37 (.pointer (some ⟨b, o, none⟩)) (frV f)).run Try.prog w = .ok () (w.setCells b o (frL f)) :=
  run_storeAt_mid (P := Try.prog) w b o 37 (frL f).toArray ht frame_info (by simp [Value.oneCell'])
def zeroC : Array Value := #[.int .i64 0, .int .i64 0, .int .i64 0, .int .i64 0, .int .i64 0, .int .i64 0, .int .i64 0, .int .i64 0, .int .i64 0, .int .i64 0]

set_option maxRecDepth 100000 in
theorem top_some {w : World} {g m : Nat} {l : List (Nat → Int)} {f : Nat → Int} (h : IsS w g (l ++ [f]) m) :
    Calls Try.prog 17 #[.pointer (some ⟨g, 0, none⟩)] w fun e w' => e = .returned (.tuple #[frV f, .bool true]) ∧ Off [] w w' := by
  have H := Lib.hid h
  have hlt := h.lt
  have HL := Lib.hid h.lt16
  clear h
  have HB := Lib.hid (Blk.new w 37 (frL zeroF).toArray)
  go_enter Try.func17, Try.ntmps17
  go_wp2_with (first | (go_at_call 19; refine (last_some HL.out ((H.out.off0 ((Off.refl _ _).alloc _)).dep1)).mono ?_; rintro e w1 ⟨rfl, ho⟩; obtain ⟨fz, z0, z1, z2, z3, z4, z5, z6, z7, z8, z9⟩ := ten_cells (f := zeroF) (ho.blk HB.out (by simp)); obtain ⟨c0, c1, c2, c3, c4, c5, c6, c7, c8, c9⟩ := (H.out.off0 (((Off.refl _ _).alloc _).trans ho)).cells))
  obtain ⟨-, e0, e1, e2, e3, e4, e5, e6, e7, e8, e9⟩ := ten_cells (ten_set (ho.blk HB.out (by simp)) f)
  refine bodyPost_ret (v := .tuple #[frV f, .bool true]) (by simp [results, Try.results17, go_sem, e0, e1, e2, e3, e4, e5, e6, e7, e8, e9]) rfl ⟨rfl, ten_off (((Off.refl _ _).alloc _).trans ho) (.inr ?_) f⟩
  exact Nat.le_refl _

set_option maxRecDepth 100000 in
theorem top_none {w : World} {g m : Nat} (h : IsS w g [] m) :
    Calls Try.prog 17 #[.pointer (some ⟨g, 0, none⟩)] w fun e w' => e = .returned (.tuple #[frV zeroF, .bool false]) ∧ Off [] w w' := by
  have H := Lib.hid h
  have hlt := h.lt
  clear h
  have HB := Lib.hid (Blk.new w 37 (frL zeroF).toArray)
  go_enter Try.func17, Try.ntmps17
  go_wp2_with (first | (go_at_call 19; refine (last_none ((H.out.off0 ((Off.refl _ _).alloc _)).dep)).mono ?_; rintro e w1 ⟨rfl, ho⟩; obtain ⟨fz, z0, z1, z2, z3, z4, z5, z6, z7, z8, z9⟩ := ten_cells (f := zeroF) (ho.blk HB.out (by simp))))
  obtain ⟨-, e0, e1, e2, e3, e4, e5, e6, e7, e8, e9⟩ := ten_cells (ten_set (ho.blk HB.out (by simp)) zeroF)
  refine bodyPost_ret (v := .tuple #[frV zeroF, .bool false]) (by simp only [tenW, zeroF] at e0 e1 e2 e3 e4 e5 e6 e7 e8 e9; simp [results, Try.results17, go_sem, e0, e1, e2, e3, e4, e5, e6, e7, e8, e9, zeroF]) rfl ⟨rfl, ten_off (((Off.refl _ _).alloc _).trans ho) (.inr ?_) zeroF⟩
  exact Nat.le_refl _

theorem depth_is {w : World} {g m : Nat} {l : List (Nat → Int)} (h : IsS w g l m) :
    Calls Try.prog 18 #[.pointer (some ⟨g, 0, none⟩)] w fun e w' => e = .returned (.int .i64 l.length) ∧ w = w' := depth_any h.dep

theorem go_none {w : World} {g m : Nat} (h : IsS w g [] m) (pc : Int) :
    Calls Try.prog 13 #[.pointer (some ⟨g, 0, none⟩), .int .i64 pc] w fun e w' => e = .returned (.bool false) ∧ Off [] w w' := by
  have H := Lib.hid h
  clear h
  go_enter Try.func13, Try.ntmps13
  go_wp2_with (first | (go_at_call 19; refine (last_none H.out.dep).mono ?_; rintro e w1 ⟨rfl, ho⟩))
  go_ret
  exact ⟨rfl, ho⟩

theorem go_some {w : World} {g m : Nat} {l : List (Nat → Int)} {f : Nat → Int} (h : IsS w g (l ++ [f]) m) (pc : Int) :
    Calls Try.prog 13 #[.pointer (some ⟨g, 0, none⟩), .int .i64 pc] w fun e w' => e = .returned (.bool true) ∧ IsS w' g (l ++ [upd f 1 pc]) m ∧ Off [g] w w' := by
  have H := Lib.hid h
  have HL := Lib.hid h.lt16
  clear h
  go_enter Try.func13, Try.ntmps13
  go_wp2_with (first | (go_at_call 19; refine (last_some HL.out H.out.dep1).mono ?_; rintro e w1 ⟨rfl, ho⟩; have H1 := Lib.hid (H.out.off0 ho); obtain ⟨-, c1, -⟩ := H1.out.cells; obtain ⟨-, fz⟩ := H1.out.there 1 (by decide)))
  go_ret
  exact ⟨rfl, H1.out.put 1 (by decide) pc, (ho.more (by simp)).set (.inl (by simp)) _⟩

theorem set_none {w : World} {g m : Nat} (h : IsS w g [] m) (r x : Int) :
    Calls Try.prog 14 #[.pointer (some ⟨g, 0, none⟩), .int .i64 r, .int .i64 x] w fun e w' => e = .returned (.bool false) ∧ Off [] w w' := by
  have H := Lib.hid h
  clear h
  go_enter Try.func14, Try.ntmps14
  go_wp2_with (first | (go_at_call 20; refine (reg_nil H.out.dep).mono ?_; rintro e w1 ⟨rfl, ho⟩))
  go_ret
  exact ⟨rfl, ho⟩

theorem set_out {w : World} {g m : Nat} {l : List (Nat → Int)} {f : Nat → Int} (h : IsS w g (l ++ [f]) m) (r x : Int) (hr : r < 0 ∨ 8 ≤ r) :
    Calls Try.prog 14 #[.pointer (some ⟨g, 0, none⟩), .int .i64 r, .int .i64 x] w fun e w' => e = .returned (.bool false) ∧ Off [] w w' := by
  have H := Lib.hid h
  have HR := Lib.hid hr
  clear h hr
  go_enter Try.func14, Try.ntmps14
  go_wp2_with (first | (go_at_call 20; refine (reg_out H.out.lt16 H.out.dep1 HR.out).mono ?_; rintro e w1 ⟨rfl, ho⟩))
  go_ret
  exact ⟨rfl, ho⟩

theorem IsS.at {w : World} {g m : Nat} {l : List (Nat → Int)} {f : Nat → Int} (h : IsS w g (l ++ [f]) m) (j : Nat) (hj : j < 10) : w.cell? ⟨g, l.length * 10 + j, none⟩ = some (.int .i64 (f j)) := by
  have hr := h.range
  have hl : (frL f)[j]? = some (.int .i64 (f j)) := by rw [← frL_mem]; exact memL_get f hj
  exact hr j _ hl

theorem set_in {w : World} {g m : Nat} {l : List (Nat → Int)} {f : Nat → Int} (h : IsS w g (l ++ [f]) m) (r : Nat) (hr : r < 8) (x : Int) :
    Calls Try.prog 14 #[.pointer (some ⟨g, 0, none⟩), .int .i64 r, .int .i64 x] w fun e w' => e = .returned (.bool true) ∧ IsS w' g (l ++ [upd f (2 + r) x]) m ∧ Off [g] w w' := by
  have H := Lib.hid h
  clear h
  go_enter Try.func14, Try.ntmps14
  go_wp2_with (first | (go_at_call 20; refine (reg_in H.out.lt16 hr H.out.dep1).mono ?_; rintro e w1 ⟨rfl, ho⟩; have H1 := Lib.hid (H.out.off0 ho); have c1 := H1.out.at (2 + r) (by omega); obtain ⟨-, fz⟩ := H1.out.there (2 + r) (by omega); rw [← Nat.add_assoc] at c1 fz))
  go_ret
  exact ⟨rfl, by have := H1.out.put (2 + r) (by omega) x; rwa [← Nat.add_assoc] at this, (ho.more (by simp)).set (.inl (by simp)) _⟩

theorem get_none {w : World} {g m : Nat} (h : IsS w g [] m) (r : Int) :
    Calls Try.prog 15 #[.pointer (some ⟨g, 0, none⟩), .int .i64 r] w fun e w' => e = .returned (.tuple #[.int .i64 0, .bool false]) ∧ Off [] w w' := by
  have H := Lib.hid h
  clear h
  go_enter Try.func15, Try.ntmps15
  go_wp2_with (first | (go_at_call 20; refine (reg_nil H.out.dep).mono ?_; rintro e w1 ⟨rfl, ho⟩))
  go_ret2
  exact ⟨rfl, ho⟩

theorem get_out {w : World} {g m : Nat} {l : List (Nat → Int)} {f : Nat → Int} (h : IsS w g (l ++ [f]) m) (r : Int) (hr : r < 0 ∨ 8 ≤ r) :
    Calls Try.prog 15 #[.pointer (some ⟨g, 0, none⟩), .int .i64 r] w fun e w' => e = .returned (.tuple #[.int .i64 0, .bool false]) ∧ Off [] w w' := by
  have H := Lib.hid h
  have HR := Lib.hid hr
  clear h hr
  go_enter Try.func15, Try.ntmps15
  go_wp2_with (first | (go_at_call 20; refine (reg_out H.out.lt16 H.out.dep1 HR.out).mono ?_; rintro e w1 ⟨rfl, ho⟩))
  go_ret2
  exact ⟨rfl, ho⟩

theorem get_in {w : World} {g m : Nat} {l : List (Nat → Int)} {f : Nat → Int} (h : IsS w g (l ++ [f]) m) (r : Nat) (hr : r < 8) :
    Calls Try.prog 15 #[.pointer (some ⟨g, 0, none⟩), .int .i64 r] w fun e w' => e = .returned (.tuple #[.int .i64 (f (2 + r)), .bool true]) ∧ Off [] w w' := by
  have H := Lib.hid h
  clear h
  go_enter Try.func15, Try.ntmps15
  go_wp2_with (first | (go_at_call 20; refine (reg_in H.out.lt16 hr H.out.dep1).mono ?_; rintro e w1 ⟨rfl, ho⟩; have H1 := Lib.hid (H.out.off0 ho); have c1 := H1.out.at (2 + r) (by omega); rw [← Nat.add_assoc] at c1))
  go_ret2
  exact ⟨rfl, ho⟩

end Go.Proofs.Ytkccnijnipkjnaa.Frm
