/- The document's own stack (allotmentref1): what it holds; its Push: contracts. -/
import Derived.Test.YtkccnijnipkjnaaFrmF
import Derived.Test.YtkccnijnipkjnaaOpen
import Derived.Deep.AppendLies
import Derived.Deep.RegionLaw
namespace Go.Proofs.Ytkccnijnipkjnaa.Frm
open Go.RowKit Mem

/-- Blocks of frames that were made from base on may have turned, besides those of S. -/
structure Save (S : List Nat) (base : Nat) (w w' : World) : Prop where
  os : w'.os = w.os
  tape : w'.tape = w.tape
  output : w'.output = w.output
  size : w.heap.size ≤ w'.heap.size
  block : ∀ k, k < w.heap.size → k ∉ S → (k < base ∨ ∀ cs, w.heap[k]? ≠ some (.cells cs 41 (0, 0))) → w'.heap[k]? = w.heap[k]?

section
variable {S T : List Nat} {base : Nat} {a w w' : World}
theorem Save.trans (h : Save S base a w) (k : Save S base w w') : Save S base a w' :=
  ⟨k.os.trans h.os, k.tape.trans h.tape, k.output.trans h.output, Nat.le_trans h.size k.size, fun i hi hn ho => by
    have e := h.block i hi hn ho
    refine (k.block i (Nat.lt_of_lt_of_le hi h.size) hn ?_).trans e
    rw [e]; exact ho⟩
theorem Save.of_off (h : Off S w w') (base : Nat) : Save S base w w' := ⟨h.os, h.tape, h.output, h.size, fun i hi hn _ => h.block i hi hn⟩
theorem Save.blk {g : Nat} {t : TypeId} {cs : Array Value} (h : Save S base w w') (hb : Blk w g t cs) (hg : g ∉ S) (ht : t ≠ 41) : Blk w' g t cs :=
  ⟨(h.block g hb.lt hg (.inr (fun cs' e => by
    have e2 := hb.eq.symm.trans e
    injection e2 with e2
    injection e2 with _ e3
    exact ht e3))).trans hb.eq⟩
/-- What turned was new. -/
theorem Save.off (h : Save S base w w') (ho : Off [] a w) (hb : a.heap.size ≤ base) (hs : ∀ k, k ∈ S → a.heap.size ≤ k) : Off [] a w' :=
  ⟨h.os.trans ho.os, h.tape.trans ho.tape, h.output.trans ho.output, Nat.le_trans ho.size h.size, fun k hk _ => by
    rw [h.block k (Nat.lt_of_lt_of_le hk ho.size) (fun m => by have := hs k m; omega) (.inl (by omega))]
    exact ho.block k hk (by simp)⟩
end
theorem IsS.save {S : List Nat} {base : Nat} {w w' : World} {g m : Nat} {l : List (Nat → Int)} (h : IsS w g l m) (hs : Save S base w w') (hg : g ∉ S) : IsS w' g l m := by
  obtain ⟨M, hM, r⟩ := h.mem
  exact ⟨⟨M, ⟨hs.blk hM.blk hg (by decide)⟩, r⟩, h.le, h.cap⟩

/-- The document's stack in block b. -/
structure IsM (w : World) (base b : Nat) (l : List (Nat → Int)) (m : Nat) : Prop where
  head : ∃ lv, Blk w b 29 #[lv, .int .i64 m] ∧ w.ownsRow base 41 10 lv l.length (l.flatMap frL)
  lo : base ≤ w.heap.size
  hb : base ≤ b
  le : l.length ≤ m
  cap : m ≤ 16

theorem own_keep {w w' : World} {base : Nat} {e : TypeId} {size : Nat} {v : Value} {n : Nat} {xs : List Value} (h : w.ownsRow base e size v n xs)
    (hk : ∀ g cur, w.heap[g]? = some (.cells cur e (0, 0)) → v.ownBlock = some g → w'.heap[g]? = w.heap[g]?) : w'.ownsRow base e size v n xs := by
  refine ⟨h.1, ?_⟩
  rcases h.2 with h2 | ⟨g, cap, cur, hv, hb, hh, r⟩
  · exact .inl h2
  · exact .inr ⟨g, cap, cur, hv, hb, (hk g cur hh (by rw [hv]; rfl)).trans hh, r⟩

section
variable {w w' : World} {base b m : Nat} {l : List (Nat → Int)}
theorem IsM.off {S : List Nat} (h : IsM w base b l m) (ho : Off S w w') (hb : b ∉ S) (hs : ∀ k, k ∈ S → ∃ t cs, Blk w k t cs ∧ t ≠ 41) : IsM w' base b l m := by
  obtain ⟨lv, hh, hown⟩ := h.head
  refine ⟨⟨lv, ho.blk hh hb, own_keep hown (fun c cur hc _ => ?_)⟩, Nat.le_trans h.lo ho.size, h.hb, h.le, h.cap⟩
  refine ho.block c (⟨hc⟩ : Blk w c _ _).lt (fun k => ?_)
  obtain ⟨t, cs, hb2, ht⟩ := hs c k
  exact (hb2.ne ⟨hc⟩ ht) rfl
theorem IsM.off0 (h : IsM w base b l m) (ho : Off [] w w') : IsM w' base b l m := h.off ho (by simp) (fun k m => by cases m)
/-- What turns the other stack leaves it. -/
theorem IsM.offS {g m' : Nat} {l' : List (Nat → Int)} (h : IsM w base b l m) (hs : IsS w g l' m') (ho : Off [g] w w') : IsM w' base b l m := by
  obtain ⟨M, hM, -⟩ := hs.mem
  obtain ⟨lv, hh, -⟩ := h.head
  refine h.off ho ?_ ?_
  · have := hM.blk.ne hh (by decide)
    simp
    omega
  · intro k hk
    simp at hk
    subst hk
    exact ⟨_, _, hM.blk, by decide⟩
end

theorem IsM.offNew {w w' : World} {base b m : Nat} {l : List (Nat → Int)} {S : List Nat} (h : IsM w base b l m) (ho : Off S w w') (hs : ∀ k, k ∈ S → w.heap.size ≤ k) : IsM w' base b l m := by
  obtain ⟨lv, hh, hown⟩ := h.head
  refine ⟨⟨lv, ho.blk hh (fun k => by have := hs b k; have := hh.lt; omega), own_keep hown (fun c cur hc _ => ?_)⟩, Nat.le_trans h.lo ho.size, h.hb, h.le, h.cap⟩
  have hl := (⟨hc⟩ : Blk w c _ _).lt
  exact ho.block c hl (fun k => by have := hs c k; omega)

theorem rframe_info : (Try.prog.info? 41).map (fun i => (i.zero, i.size, i.bytes)) = some (some (frV zeroF), 10, 80) := by kernel_rfl

set_option maxRecDepth 100000 in
theorem rpush_no {w : World} {base b m : Nat} {l : List (Nat → Int)} (h : IsM w base b l m) (code : Int) (a : Option Addr) (n c : Nat) (hn : l.length = m ∨ 8 < n) :
    Calls Try.prog 10 #[.pointer (some ⟨b, 0, none⟩), .int .i64 code, .slice a n c] w fun e w' => e = .returned (.bool false) ∧ Off [] w w' := by
  obtain ⟨lv, hh, hown⟩ := h.head
  have c0 := hh.cell 0
  have c1 := hh.cell 1
  have hle := h.le
  obtain ⟨va, vc, rfl⟩ : ∃ va vc, lv = .slice va l.length vc := by
    rcases hown.2 with ⟨rfl, h0⟩ | ⟨g, cap, cur, rfl, _⟩
    · exact ⟨none, 0, by rw [h0]⟩
    · exact ⟨_, _, rfl⟩
  by_cases hl : l.length = m
  · have d0 : decide ((m : Int) ≤ (l.length : Int)) = true := by simp; omega
    clear hh hown h hle hn
    rw [hl] at d0 c0
    go_enter Try.func10, Try.ntmps10
    go_wp2
    go_quiet (fail)
    go_wp2
    go_ret
    exact ⟨rfl, (Off.refl _ _).drewN _⟩
  · have d0 : decide (m ≤ l.length) = false := by simp; omega
    have d1 : decide ((8 : Int) < (n : Int)) = true := by simp; omega
    clear hh hown h hle hn hl
    go_enter Try.func10, Try.ntmps10
    go_wp2
    go_quiet (fail)
    go_wp2
    go_ret
    exact ⟨rfl, (Off.refl _ _).drewN _⟩

theorem Reads.off {w w' : World} {v : Value} {L : List Int} {S : List Nat} (h : Reads w v L) (ho : Off S w w') (hs : ∀ k, k ∈ S → w.heap.size ≤ k) : Reads w' v L := by
  rcases h with h | ⟨a, c, hv, hc⟩
  · exact .inl h
  · refine .inr ⟨a, c, hv, fun i x hx => ?_⟩
    have e := hc i x hx
    have hb := World.block_lt_of_cell? w _ e
    rw [ho.cell hb (fun m => by have := hs _ m; omega)]
    exact e
theorem Reads.form {w : World} {v : Value} {L : List Int} (h : Reads w v L) (h0 : 0 < L.length) :
    ∃ b off c, v = .slice (some ⟨b, off, none⟩) L.length c ∧ ∀ i x, L[i]? = some x → w.cell? ⟨b, off + i, none⟩ = some (.int .i64 x) := by
  rcases h with ⟨_, rfl⟩ | ⟨⟨b, off, s⟩, c, hv, hc⟩
  · simp at h0
  · have e := hc 0 _ (List.getElem?_eq_getElem h0)
    obtain rfl : s = none := by
      have := Open.spot_none e
      simpa [Addr.add] using this
    refine ⟨b, off, c, hv, fun i x hx => ?_⟩
    have g := hc i x hx
    rwa [addr_add] at g

theorem ten_at {w : World} {b : Nat} {t : TypeId} {f : Nat → Int} (h : Blk w b t (frL f).toArray) (i : Nat) (hi : i < 10) : w.cell? ⟨b, i, none⟩ = some (.int .i64 (f i)) := by
  rw [h.cell]
  have := memL_get f hi
  rw [frL_mem] at this
  simpa using this

/-- A block of another kind than the row that was appended to. -/
theorem grown_blk {w3 W w5 : World} {g : Nat} {t : TypeId} {cs : Array Value} {base : Nat} {e : TypeId} {size : Nat} {v : Value} {n : Nat} {xs : List Value} {row : Option Nat} (hb : Blk w3 g t cs) (hg : W.grownBy w5 row)
    (hown : w3.ownsRow base e size v n xs) (ht : t ≠ e) (hW : Off [] w3 W) (hrow : row = v.ownBlock) : Blk w5 g t cs := by
  have hbW : Blk W g t cs := hW.blk hb (by simp)
  refine ⟨(hg.block g hbW.lt ?_).trans hbW.eq⟩
  rw [hrow]
  rcases hown.2 with ⟨rfl, _⟩ | ⟨b, cap, cur, rfl, _, hc, _⟩
  · simp [Value.ownBlock]
  · have := hb.ne ⟨hc⟩ ht
    simp [Value.ownBlock, this]

theorem rpush_end {w w3 W w5 : World} {base b m : Nat} {l : List (Nat → Int)} {f : Nat → Int} {lv : Value} {lg cap : Nat} {row : Option Nat} (hlo : base ≤ w3.heap.size) (hbb : base ≤ b) (hl : l.length < m) (hm : m ≤ 16)
    (ho3 : Off [] w w3) (hb3 : Blk w3 b 29 #[lv, .int .i64 m]) (own3 : w3.ownsRow base 41 10 lv l.length (l.flatMap frL))
    (hW : Off [] w3 W) (hgrow : W.grownBy w5 row) (hrow : row = lv.ownBlock) (hown5 : w5.ownsRow base 41 10 (.slice (some ⟨lg, 0, none⟩) (l.length + 1) cap) (l.length + 1) (l.flatMap frL ++ frL f)) :
    IsM (w5.setCell ⟨b, 0, none⟩ (.slice (some ⟨lg, 0, none⟩) (l.length + 1) cap)) base b (l ++ [f]) m ∧ Save [b] base w (w5.setCell ⟨b, 0, none⟩ (.slice (some ⟨lg, 0, none⟩) (l.length + 1) cap)) := by
  have hb5 := grown_blk hb3 hgrow own3 (by decide) hW hrow
  have s1 : w3.heap.size ≤ w5.heap.size := Nat.le_trans hW.size hgrow.size
  refine ⟨⟨⟨.slice (some ⟨lg, 0, none⟩) (l.length + 1) cap, (hb5.set 0 _).to (by simp), ?_⟩, ?_, hbb, by simp; omega, hm⟩, ?_⟩
  · rw [show (l ++ [f]).length = l.length + 1 from by simp, show (l ++ [f]).flatMap frL = l.flatMap frL ++ frL f from by simp]
    exact own_keep hown5 (fun c cur hc _ => Below.heap_setCell _ _ _ _ (hb5.ne ⟨hc⟩ (by decide)).symm)
  · simp only [World.setCell, Array.size_modify]
    omega
  · refine ⟨by show w5.os = _; exact hgrow.os.trans (hW.os.trans ho3.os), by show w5.tape = _; exact hgrow.tape.trans (hW.tape.trans ho3.tape), by show w5.output = _; exact hgrow.output.trans (hW.output.trans ho3.output), by simpa [World.setCell] using Nat.le_trans ho3.size s1, fun k hk hn2 hc => ?_⟩
    have kg : k ≠ b := by simpa using hn2
    rw [Below.heap_setCell _ _ _ _ (by exact kg)]
    have k3 : k < w3.heap.size := Nat.lt_of_lt_of_le hk ho3.size
    have e3 := ho3.block k hk (by simp)
    rw [hgrow.block k (Nat.lt_of_lt_of_le k3 hW.size) ?_, hW.block k k3 (by simp), e3]
    rw [hrow]
    rcases own3.2 with ⟨rfl, _⟩ | ⟨c, cap', cur, rfl, hc0, hh, _⟩
    · simp [Value.ownBlock]
    · intro e
      have e2 : k = c := by simpa [Value.ownBlock] using e
      subst e2
      rcases hc with hc | hc
      · omega
      · exact hc _ (e3.symm.trans hh)

def Laid (w : World) (b : Nat) (code : Int) (L : List Int) (i : Value) (wr : World) : Prop :=
  ∃ j : Nat, j ≤ L.length ∧ i = .int .i64 j ∧ Blk wr b 41 (frL (newF code (L.take j))).toArray ∧ Off [b] w wr
theorem laid_set {w : World} {b : Nat} {t : TypeId} {code : Int} {L : List Int} (hL : L.length ≤ 8) (j : Nat) (x : Int) (hj : L[j]? = some x) (h : Blk w b t (frL (newF code (L.take j))).toArray) :
    Blk (w.setCell ⟨b, 2 + j, none⟩ (.int .i64 x)) b t (frL (newF code (L.take (j + 1)))).toArray := by
  refine (h.set (2 + j) _).to ?_
  obtain ⟨hlt, hx⟩ := List.getElem?_eq_some_iff.1 hj
  rw [List.take_succ_eq_append_getElem hlt, hx]
  have hl : (L.take j).length = j := by simp; omega
  have h8 : j < 8 := by omega
  generalize L.take j = T at *
  clear hj hx hlt hL h
  match T, j, hl, h8 with
  | [], 0, _, _ => simp [newF]
  | [_], 1, _, _ => simp [newF]
  | [_, _], 2, _, _ => simp [newF]
  | [_, _, _], 3, _, _ => simp [newF]
  | [_, _, _, _], 4, _, _ => simp [newF]
  | [_, _, _, _, _], 5, _, _ => simp [newF]
  | [_, _, _, _, _, _], 6, _, _ => simp [newF]
  | [_, _, _, _, _, _, _], 7, _, _ => simp [newF]
  | [], _ + 1, h, _ => simp at h
  | _ :: _, 0, h, _ => simp at h

set_option maxRecDepth 100000 in
set_option maxHeartbeats 4000000 in
theorem rpush_ok {w : World} {base b m : Nat} {l : List (Nat → Int)} (h : IsM w base b l m) (hl : l.length < m) (code : Int) {v : Value} {L : List Int} (hv : Reads w v L) (hL : L.length ≤ 8) :
    Calls Try.prog 10 #[.pointer (some ⟨b, 0, none⟩), .int .i64 code, v] w fun e w' => e = .returned (.bool true) ∧ IsM w' base b (l ++ [newF code L]) m ∧ Save [b] base w w' := by
  have H := Lib.hid h
  have HL := Lib.hid hl
  have hvl := hv.len
  have HV := Lib.hid hv
  have HL8 := Lib.hid hL
  have d1 : decide ((8 : Int) < (L.length : Int)) = false := by simp; omega
  have d0 : decide (m ≤ l.length) = false := by simp; omega
  obtain ⟨lv, hh, hown⟩ := h.head
  have c0 := hh.cell 0
  have c1 := hh.cell 1
  have hlvs : ∃ va vc, lv = .slice va l.length vc := by
    rcases hown.2 with ⟨rfl, h0⟩ | ⟨g, cap, cur, rfl, _⟩
    · exact ⟨none, 0, by rw [h0]⟩
    · exact ⟨_, _, rfl⟩
  obtain ⟨la, lc, rfl⟩ := hlvs
  obtain ⟨va, vc, rfl⟩ := hvl
  clear hv hL h hl hh hown
  go_enter Try.func10, Try.ntmps10
  go_wp2
  go_quiet (fail)
  go_upto_region 3 with (fail)
  clear c0 c1 d0 d1
  refine at_world (R := fun W => IsM W base b l m ∧ Off [] w W ∧ Reads W (.slice va L.length vc) L) ⟨H.out.off0 ((Off.refl _ _).drewN _), (Off.refl _ _).drewN _, HV.out⟩ ?_
  clear H HV
  rintro W HA'
  have HA := Lib.hid HA'
  clear HA'
  go_upto_region 4 with (fail)
  refine at_world (R := fun W' => IsM W' base b l m ∧ Off [] w W' ∧ (∀ W2, Off [W.heap.size] W' W2 → IsM W2 base b l m ∧ Reads W2 (.slice va L.length vc) L) ∧ Blk W' W.heap.size 41 (frL (newF code [])).toArray) ⟨HA.out.1.off0 ((Off.refl _ _).alloc _), HA.out.2.1.alloc _, fun W2 h2 => ⟨HA.out.1.offNew (((Off.refl _ _).alloc _).trans h2) (by simp), HA.out.2.2.off (((Off.refl _ _).alloc _).trans h2) (by simp)⟩, Blk.new _ _ _⟩ ?_
  have hWs := HA.out.2.1.size
  have hbW : b < W.heap.size := by obtain ⟨lv, hh, -⟩ := HA.out.1.head; exact hh.lt
  clear HA
  generalize W.heap.size = fb at *
  clear W
  rintro W HA'
  have HA := Lib.hid HA'
  clear HA'
  go_wp2_with fail
  go_loopw [8] (fun i wr => Laid W fb code L i wr) (fun i _ => L.length - (intOf i).toNat)
  case atStart => exact ⟨0, Nat.zero_le _, rfl, HA.out.2.2.2, Off.refl _ _⟩
  case round =>
    obtain ⟨j, hj, rfl, hb, ho⟩ := hrel
    have HB := Lib.hid hb
    have HO := Lib.hid ho
    clear hb ho
    by_cases hlt : j < L.length
    · obtain ⟨ab, aoff, ac, hv, hcell⟩ := (HA.out.2.2.1 wr HO.out).2.form (by omega)
      injection hv with hv1 _ hv2
      subst hv1 hv2
      have cj := hcell j L[j] (List.getElem?_eq_getElem hlt)
      have hj8 : (j : Int) < 8 := by have := HL8.out; omega
      have dlt : (j : Int) < (L.length : Int) := by omega
      have cb := ten_at HB.out (2 + j) (by have := HL8.out; omega)
      have fb2 := HB.out.free (2 + j)
      clear hcell
      go_wp2_with fail
      go_roundw
      case rel => exact ⟨j + 1, by omega, by go_num, laid_set HL8.out j _ (List.getElem?_eq_getElem hlt) HB.out, HO.out.set (.inl (by simp)) _⟩
      case measure => simp [intOf]; omega
    · obtain rfl : j = L.length := by omega
      clear hlt hj
      rw [List.take_length] at HB
      obtain ⟨lv, hb3, own3⟩ := (HA.out.2.2.1 wr HO.out).1.head
      have hm16 := (HA.out.2.2.1 wr HO.out).1.cap
      have hlo3 := (HA.out.2.2.1 wr HO.out).1.lo
      have hbb := (HA.out.2.2.1 wr HO.out).1.hb
      have ho3 : Off [] w wr := off_step HA.out.2.1 HO.out hWs
      have HO3 := Lib.hid ho3
      clear ho3
      obtain ⟨i0, hi, hz0, hz1, hz2⟩ := info_parts rframe_info
      generalize hf : newF code L = f at *
      have HF := Lib.hid hf
      clear hf
      have L0 := hb3.cell 0
      have L0a : (wr.alloc (.cells (frL f).toArray 41)).cell? ⟨b, 0, none⟩ = some lv := (hb3.alloc _).cell 0
      obtain ⟨-, x0, x1, x2, x3, x4, x5, x6, x7, x8, x9⟩ := ten_cells HB.out
      have hbn : ¬ b = wr.heap.size := by have := hb3.lt; omega
      have OWN := Lib.hid (fun (W : World) (h : Off [] wr W) => (own_keep own3 (fun c cur hc _ => h.block c (⟨hc⟩ : Blk wr c _ _).lt (by simp)) : W.ownsRow base 41 10 lv l.length (l.flatMap frL)))
      have HB3 := Lib.hid hb3
      have HI := Lib.hid hi
      have HZ0 := Lib.hid hz0
      have HZ1 := Lib.hid hz1
      have HZ2 := Lib.hid hz2
      clear hi hz0 hz1 hz2 hb3 own3
      go_upto_region 8 with fail
      go_region_law (refine step_append_lies _ rfl _ _ 27 rfl base 41 i0 _ 10 80 Try.underlying27 HI.out HZ0.out HZ1.out HZ2.out rfl (by decide) _ l.length (l.flatMap frL) rfl (OWN.out _ (by first | exact ((Off.refl _ _).alloc _).drew | exact (Off.refl _ _).drew.alloc _)) ⟨wr.heap.size, 0, none⟩ 1 1 (frL f) rfl rfl (World.news_of_block (Blk.new wr 41 (frL f).toArray).eq) (by simp [Value.oneCell']) (by decide) (by have := HL.out; unfold maxLen; omega) (by have := HL.out; omega) (by simp; omega) _ rfl ?_; intro lg lcap w5 hown5 hgrow5 hat5 hlt5; have hb5 := grown_blk HB3.out hgrow5 (OWN.out wr (Off.refl _ _)) (by decide) (by first | exact ((Off.refl _ _).alloc _).drew | exact (Off.refl _ _).drew.alloc _) rfl; have L5 : w5.cell? ⟨b, 0, none⟩ = some lv := hb5.cell 0; have z5 := hb5.free 0)
      all_goals
        go_wp2_with fail
        go_ret
        first
          | exact ⟨rfl, by rw [HF.out]; exact rpush_end hlo3 hbb HL.out hm16 HO3.out HB3.out (OWN.out wr (Off.refl _ _)) ((Off.refl _ _).alloc _).drew hgrow5 rfl hown5⟩
          | exact ⟨rfl, by rw [HF.out]; exact rpush_end hlo3 hbb HL.out hm16 HO3.out HB3.out (OWN.out wr (Off.refl _ _)) ((Off.refl _ _).drew.alloc _) hgrow5 rfl hown5⟩

end Go.Proofs.Ytkccnijnipkjnaa.Frm
