/- Package pack: words read: a contract each. -/
import Derived.Test.YtmiodkcabjfbbaaPackD
import Derived.RegionTactic
import Derived.ChangeAlike
import Derived.Deep.DeepCutAuto
namespace Go.Proofs.Ytmiodkcabjfbbaa.Pack
open Go.RowKit Mem Plan

/-- What is read of a page's word, of an entry's. -/
def readPageB (P C M at_ x : Int) : Bool := inB x && (isPageB (kindI x) (aI x) (bI x) (cI x) && standB P C M at_ (kindI x) (aI x) (bI x))
def readEntryB (P C M x : Int) : Bool := inB x && (isEntryB (kindI x) (aI x) (bI x) (cI x) && (hasPageB P C M (aI x) && decide (bI x < slotsI (cI x))))
def pageV (P C M at_ x : Int) : Value := if readPageB P C M at_ x = true then .agg #[.int .i64 (kindI x), .int .i64 (aI x), .int .i64 (bI x)] else .agg #[.int .i64 0, .int .i64 0, .int .i64 0]
def entryV (P C M x : Int) : Value := if readEntryB P C M x = true then .agg #[.int .i64 (aI x), .int .i64 (bI x), .int .i64 (cI x)] else .agg #[.int .i64 0, .int .i64 0, .int .i64 0]
def readSlotB (x : Int) : Bool := inB x && isSlotB (kindI x) (aI x) (bI x) (cI x)
def slotV (x : Int) : Value := if readSlotB x = true then .agg #[.int .i64 (kindI x), .int .i64 (aI x)] else .agg #[.int .i64 0, .int .i64 0]

/-- Two that were made behind what was: they, and what was. -/
theorem made_two {W w : World} (h : Off [] W w) (t t' : TypeId) (cs cs' : Array Value) : Blk ((w.alloc (.cells cs t)).alloc (.cells cs' t')) (w.heap.size + 1) t' cs' ∧ Blk ((w.alloc (.cells cs t)).alloc (.cells cs' t')) w.heap.size t cs ∧ Off [] W ((w.alloc (.cells cs t)).alloc (.cells cs' t')) := by
  obtain ⟨a, b, c⟩ := box_two w t t' cs cs'
  exact ⟨a, b, h.trans c⟩
theorem shp_free {w : World} {g : Nat} {t : TypeId} {cs : Array Value} (h : Blk w g t cs) :
    w.frozen? ⟨g, 0, none⟩ = false ∧ w.frozen? ⟨g, 1, none⟩ = false ∧ w.frozen? ⟨g, 2, none⟩ = false := ⟨h.free 0, h.free 1, h.free 2⟩
/-- A row of three written over. -/
theorem over3 {W w : World} {g : Nat} {t : TypeId} {a b c : Value} (h : Blk w g t #[a, b, c]) (ho : Off [] W w) (hg : W.heap.size ≤ g) (x y z : Value) :
    let w' := ((w.setCell ⟨g, 0, none⟩ x).setCell ⟨g, 1, none⟩ y).setCell ⟨g, 2, none⟩ z
    (w'.cell? ⟨g, 0, none⟩ = some x ∧ w'.cell? ⟨g, 1, none⟩ = some y ∧ w'.cell? ⟨g, 2, none⟩ = some z) ∧ Off [] W w' := by
  have hz := ((h.set 0 x).set 1 y).set 2 z
  exact ⟨⟨by rw [hz.cell]; simp, by rw [hz.cell]; simp, by rw [hz.cell]; simp⟩, ((ho.set (.inr hg) _).set (.inr hg) _).set (.inr hg) _⟩

set_option maxHeartbeats 1000000 in
theorem readPage_any (P C M at_ x : Int) (hx0 : 0 ≤ x) (hx : x < 18446744073709551616) (w : World) :
    Calls Try.prog 11 #[.agg #[.int .i64 P, .int .i64 C, .int .i64 M], .int .i64 at_, .int .u64 x] w fun e w' => e = .returned (.tuple #[pageV P C M at_ x, .bool (readPageB P C M at_ x)]) ∧ Off [] w w' := by
  obtain ⟨h1, h0, hof⟩ := box_two w 37 25 #[.int .i64 P, .int .i64 C, .int .i64 M] #[.int .i64 0, .int .i64 0, .int .i64 0]
  have HS := Lib.hid h0
  have HR := Lib.hid h1
  have HO := Lib.hid hof
  clear h0 h1 hof
  by_cases hlt : x < 268435456
  · cases hi : isPageB (kindI x) (aI x) (bI x) (cI x)
    · rw [show pageV P C M at_ x = .agg #[.int .i64 0, .int .i64 0, .int .i64 0] from by unfold pageV readPageB; rw [hi]; simp, show readPageB P C M at_ x = false from by unfold readPageB; rw [hi]; simp]
      go_enter Try.func11, Try.ntmps11
      go_upto_region 3 with ((go_at_call 19; refine (part_in _ hx0 hlt _).mono ?_; rintro e w1 ⟨rfl, ho⟩))
      obtain ⟨m1, m0, mo⟩ := made_two (HO.out.trans ho) 48 25 #[.int .i64 (kindI x), .int .i64 (aI x), .int .i64 (bI x), .int .i64 (cI x)] #[.int .i64 (kindI x), .int .i64 (aI x), .int .i64 (bI x)]
      have HP := Lib.hid m1
      have HO1 := Lib.hid mo
      have HS1 := Lib.hid (((ho.blk HS.out (by simp)).alloc (.cells #[.int .i64 (kindI x), .int .i64 (aI x), .int .i64 (bI x), .int .i64 (cI x)] 48)).alloc (.cells #[.int .i64 (kindI x), .int .i64 (aI x), .int .i64 (bI x)] 25))
      have HR1 := Lib.hid (((ho.blk HR.out (by simp)).alloc (.cells #[.int .i64 (kindI x), .int .i64 (aI x), .int .i64 (bI x), .int .i64 (cI x)] 48)).alloc (.cells #[.int .i64 (kindI x), .int .i64 (aI x), .int .i64 (bI x)] 25))
      clear m0 m1 mo
      go_wp2_with ((go_at_call 14; refine (isPage_any _ _ _ _ _).mono ?_; rintro e w2 ⟨rfl, ho2⟩; obtain ⟨s0, s1, s2⟩ := shp_cells (ho2.blk (HS1.out) (by simp)); obtain ⟨p0, p1, p2⟩ := shp_cells (ho2.blk HP.out (by simp)); have HR2 := Lib.hid (ho2.blk HR1.out (by simp)); obtain ⟨r0, r1, r2⟩ := shp_cells HR2.out; obtain ⟨f0, f1, f2⟩ := shp_free HR2.out; have HO2 := Lib.hid (HO1.out.trans ho2); clear ho2))
      obtain ⟨⟨z0, z1, z2⟩, zo⟩ := over3 HR2.out HO2.out (Nat.le_succ _) (.int .i64 0) (.int .i64 0) (.int .i64 0)
      clear r0 r1 r2 f0 f1 f2
      exact bodyPost_ret (v := .tuple #[.agg #[.int .i64 0, .int .i64 0, .int .i64 0], .bool false]) (by simp [results, Try.results11, go_sem, z0, z1, z2]) rfl ⟨rfl, zo⟩
    · cases hs : standB P C M at_ (kindI x) (aI x) (bI x)
      · rw [show pageV P C M at_ x = .agg #[.int .i64 0, .int .i64 0, .int .i64 0] from by unfold pageV readPageB; rw [hs]; simp, show readPageB P C M at_ x = false from by unfold readPageB; rw [hs]; simp]
        go_enter Try.func11, Try.ntmps11
        go_upto_region 3 with ((go_at_call 19; refine (part_in _ hx0 hlt _).mono ?_; rintro e w1 ⟨rfl, ho⟩))
        obtain ⟨m1, m0, mo⟩ := made_two (HO.out.trans ho) 48 25 #[.int .i64 (kindI x), .int .i64 (aI x), .int .i64 (bI x), .int .i64 (cI x)] #[.int .i64 (kindI x), .int .i64 (aI x), .int .i64 (bI x)]
        have HP := Lib.hid m1
        have HO1 := Lib.hid mo
        have HS1 := Lib.hid (((ho.blk HS.out (by simp)).alloc (.cells #[.int .i64 (kindI x), .int .i64 (aI x), .int .i64 (bI x), .int .i64 (cI x)] 48)).alloc (.cells #[.int .i64 (kindI x), .int .i64 (aI x), .int .i64 (bI x)] 25))
        have HR1 := Lib.hid (((ho.blk HR.out (by simp)).alloc (.cells #[.int .i64 (kindI x), .int .i64 (aI x), .int .i64 (bI x), .int .i64 (cI x)] 48)).alloc (.cells #[.int .i64 (kindI x), .int .i64 (aI x), .int .i64 (bI x)] 25))
        clear m0 m1 mo
        go_wp2_with (first | (go_at_call 14; refine (isPage_any _ _ _ _ _).mono ?_; rintro e w2 ⟨rfl, ho2⟩; obtain ⟨s0, s1, s2⟩ := shp_cells (ho2.blk (HS1.out) (by simp)); obtain ⟨p0, p1, p2⟩ := shp_cells (ho2.blk HP.out (by simp)); have HR2 := Lib.hid (ho2.blk HR1.out (by simp)); obtain ⟨r0, r1, r2⟩ := shp_cells HR2.out; obtain ⟨f0, f1, f2⟩ := shp_free HR2.out; have HP2 := Lib.hid (ho2.blk HP.out (by simp)); have HO2 := Lib.hid (HO1.out.trans ho2); clear ho2) | (go_at_call 20; refine (mayStand_any _ _ _ _ _ _ _ (a_bd x).1 (a_bd x).2 _).mono ?_; rintro e w3 ⟨rfl, ho3⟩; obtain ⟨p0, p1, p2⟩ := shp_cells (ho3.blk HP2.out (by simp)); have HR3 := Lib.hid (ho3.blk HR2.out (by simp)); obtain ⟨r0, r1, r2⟩ := shp_cells HR3.out; obtain ⟨f0, f1, f2⟩ := shp_free HR3.out; have HO3 := Lib.hid (HO2.out.trans ho3); clear ho3))
        obtain ⟨⟨z0, z1, z2⟩, zo⟩ := over3 HR3.out HO3.out (Nat.le_succ _) (.int .i64 0) (.int .i64 0) (.int .i64 0)
        clear r0 r1 r2 f0 f1 f2
        exact bodyPost_ret (v := .tuple #[.agg #[.int .i64 0, .int .i64 0, .int .i64 0], .bool false]) (by simp [results, Try.results11, go_sem, z0, z1, z2]) rfl ⟨rfl, zo⟩
      · have hr : readPageB P C M at_ x = true := by unfold readPageB; rw [hi, hs, inB_t hx0 hlt]; rfl
        rw [show pageV P C M at_ x = .agg #[.int .i64 (kindI x), .int .i64 (aI x), .int .i64 (bI x)] from if_pos hr, hr]
        clear hr
        go_enter Try.func11, Try.ntmps11
        go_upto_region 3 with ((go_at_call 19; refine (part_in _ hx0 hlt _).mono ?_; rintro e w1 ⟨rfl, ho⟩))
        obtain ⟨m1, m0, mo⟩ := made_two (HO.out.trans ho) 48 25 #[.int .i64 (kindI x), .int .i64 (aI x), .int .i64 (bI x), .int .i64 (cI x)] #[.int .i64 (kindI x), .int .i64 (aI x), .int .i64 (bI x)]
        have HP := Lib.hid m1
        have HO1 := Lib.hid mo
        have HS1 := Lib.hid (((ho.blk HS.out (by simp)).alloc (.cells #[.int .i64 (kindI x), .int .i64 (aI x), .int .i64 (bI x), .int .i64 (cI x)] 48)).alloc (.cells #[.int .i64 (kindI x), .int .i64 (aI x), .int .i64 (bI x)] 25))
        have HR1 := Lib.hid (((ho.blk HR.out (by simp)).alloc (.cells #[.int .i64 (kindI x), .int .i64 (aI x), .int .i64 (bI x), .int .i64 (cI x)] 48)).alloc (.cells #[.int .i64 (kindI x), .int .i64 (aI x), .int .i64 (bI x)] 25))
        clear m0 m1 mo
        go_wp2_with (first | (go_at_call 14; refine (isPage_any _ _ _ _ _).mono ?_; rintro e w2 ⟨rfl, ho2⟩; obtain ⟨s0, s1, s2⟩ := shp_cells (ho2.blk (HS1.out) (by simp)); obtain ⟨p0, p1, p2⟩ := shp_cells (ho2.blk HP.out (by simp)); have HR2 := Lib.hid (ho2.blk HR1.out (by simp)); obtain ⟨r0, r1, r2⟩ := shp_cells HR2.out; obtain ⟨f0, f1, f2⟩ := shp_free HR2.out; have HP2 := Lib.hid (ho2.blk HP.out (by simp)); have HO2 := Lib.hid (HO1.out.trans ho2); clear ho2) | (go_at_call 20; refine (mayStand_any _ _ _ _ _ _ _ (a_bd x).1 (a_bd x).2 _).mono ?_; rintro e w3 ⟨rfl, ho3⟩; obtain ⟨p0, p1, p2⟩ := shp_cells (ho3.blk HP2.out (by simp)); have HR3 := Lib.hid (ho3.blk HR2.out (by simp)); obtain ⟨r0, r1, r2⟩ := shp_cells HR3.out; obtain ⟨f0, f1, f2⟩ := shp_free HR3.out; have HO3 := Lib.hid (HO2.out.trans ho3); clear ho3))
        obtain ⟨⟨z0, z1, z2⟩, zo⟩ := over3 HR3.out HO3.out (Nat.le_succ _) (.int .i64 (kindI x)) (.int .i64 (aI x)) (.int .i64 (bI x))
        clear r0 r1 r2 f0 f1 f2
        exact bodyPost_ret (v := .tuple #[.agg #[.int .i64 (kindI x), .int .i64 (aI x), .int .i64 (bI x)], .bool true]) (by simp [results, Try.results11, go_sem, z0, z1, z2]) rfl ⟨rfl, zo⟩
  · replace hlt : 268435456 ≤ x := by omega
    rw [show pageV P C M at_ x = .agg #[.int .i64 0, .int .i64 0, .int .i64 0] from by unfold pageV readPageB; rw [inB_f hlt]; rfl, show readPageB P C M at_ x = false from by unfold readPageB; rw [inB_f hlt]; rfl]
    go_enter Try.func11, Try.ntmps11
    go_upto_region 3 with ((go_at_call 19; refine (part_out _ hlt hx _).mono ?_; rintro e w1 ⟨rfl, ho⟩))
    obtain ⟨m1, m0, mo⟩ := made_two (HO.out.trans ho) 48 25 #[.int .i64 0, .int .i64 0, .int .i64 0, .int .i64 0] #[.int .i64 0, .int .i64 0, .int .i64 0]
    have HP := Lib.hid m1
    have HO1 := Lib.hid mo
    have HS1 := Lib.hid (((ho.blk HS.out (by simp)).alloc (.cells #[.int .i64 0, .int .i64 0, .int .i64 0, .int .i64 0] 48)).alloc (.cells #[.int .i64 0, .int .i64 0, .int .i64 0] 25))
    have HR1 := Lib.hid (((ho.blk HR.out (by simp)).alloc (.cells #[.int .i64 0, .int .i64 0, .int .i64 0, .int .i64 0] 48)).alloc (.cells #[.int .i64 0, .int .i64 0, .int .i64 0] 25))
    clear m0 m1 mo
    obtain ⟨r0, r1, r2⟩ := shp_cells HR1.out
    obtain ⟨f0, f1, f2⟩ := shp_free HR1.out
    go_wp2
    obtain ⟨⟨z0, z1, z2⟩, zo⟩ := over3 HR1.out HO1.out (Nat.le_succ _) (.int .i64 0) (.int .i64 0) (.int .i64 0)
    clear r0 r1 r2 f0 f1 f2
    exact bodyPost_ret (v := .tuple #[.agg #[.int .i64 0, .int .i64 0, .int .i64 0], .bool false]) (by simp [results, Try.results11, go_sem, z0, z1, z2]) rfl ⟨rfl, zo⟩

end Go.Proofs.Ytmiodkcabjfbbaa.Pack
