/- The shared words: All; the law's Fill. -/
import Derived.Test.YtdnahojpeplajaaWordsC
import Derived.Test.YtdnahojpeplajaaOpenU
import Derived.OwnWalk
namespace Go.Proofs.Ytdnahojpeplajaa.Words
open Go.RowKit Mem Go.Proofs.Ytdnahojpeplajaa.Open

/-- A new list of the words l. -/
def Copied (w : World) (l : List Int) (e : Ending) (w' : World) : Prop :=
  ∃ g c, e = .returned (.slice (some ⟨g, 0, none⟩) l.length c) ∧ l.length ≤ c ∧ c ≤ 9223372036854775807 ∧ (∀ k, k < l.length → w'.cell? ⟨g, k, none⟩ = some (.int .u64 (l.getD k 0))) ∧ Off [] w w' ∧ w.heap.size ≤ g

set_option maxHeartbeats 400000 in
theorem clone_any (h : Nat) (l : List Int) (w : World) (hb : Blk w h 27 (rowCells l)) (hl : l.length ≤ 2000) :
    Calls Try.prog 64 #[.slice (some ⟨h, 0, none⟩) l.length l.length] w (Copied w l) := by
  obtain ⟨i0, hi, hz0, hz1, hz2⟩ := info_parts word_info
  have hnews : ∀ j u, (l.map (Value.int .u64))[j]? = some u → (w.alloc (.cells #[] 27)).cell? (Addr.add ⟨h, 0, none⟩ j) = some u := by
    intro j u hu
    have e : Addr.add ⟨h, 0, none⟩ j = ⟨h, j, none⟩ := by unfold Addr.add; split <;> simp_all
    rw [e, (hb.alloc _).cell]
    simpa [rowCells] using hu
  have h1 : ∀ u ∈ l.map (Value.int .u64), u.oneCell' = true := by
    intro u hu
    obtain ⟨x, _, rfl⟩ := List.mem_map.1 hu
    rfl
  have hlt := hb.lt
  have hoff : Off [] w (w.alloc (.cells #[] 27)) := (Off.refl _ _).alloc _
  have hsn : ∀ w : World, (binOp .eql 25 (.slice (some ⟨h, 0, none⟩) l.length l.length) (.slice none 0 0)).run Try.prog w = .ok (.bool false) w := fun w => Lib.run_eql_slice_nil w _ _ _ _ _ _ _ Try.underlying25
  have HN := Lib.hid hnews
  have H1 := Lib.hid h1
  clear hnews h1
  go_enter Try.func64, Try.ntmps64
  go_wp2_with (at_builtin; refine wpList_append_own _ rfl _ _ 25 rfl w.heap.size 27 i0 (.int .u64 0) 1 8 Try.underlying25 hi hz0 hz1 hz2 rfl (by decide) _ 0 [] rfl (World.ownsRow_made _ _ 0 (Nat.le_refl _) (by unfold maxLen; omega) rfl) ⟨h, 0, none⟩ l.length l.length (l.map (Value.int .u64)) rfl (by simp) HN.out H1.out (by unfold maxLen; omega) (by omega) (by simp) ?_; intro v' w1 hown hgrow hnil)
  simp only [Nat.zero_add, List.nil_append] at hown
  have hn : v' ≠ .slice none 0 0 := fun e => by
    have h2 := (hnil.1 e).1
    have h3 : Value.slice (some ⟨w.heap.size, 0, none⟩) 0 0 = Value.slice none 0 0 := h2
    cases h3
  rcases hown.2 with ⟨e, _⟩ | ⟨g', cap, cur, rfl, hge, hh, hnc, hcm, hsz, htk⟩
  · exact absurd e hn
  · go_ret
    refine ⟨g', cap, rfl, hnc, by unfold maxLen at hcm; omega, fun k hk => ?_, hoff.grown hgrow ?_, hge⟩
    · rw [hown.cellAt k (by omega)]
      simp [hk]
    · intro k e
      have e2 : some w.heap.size = some k := e
      injection e2 with e2
      exact .inr (by omega)

theorem all_any {g h : Nat} {s : St} {w : World} (hw : IsW w g h s) :
    Calls Try.prog 49 #[.pointer (some ⟨g, 0, none⟩)] w (Copied w s.row) := by
  have c0 := hw.head.cell 0
  simp only [headCells] at c0
  go_enter Try.func49, Try.ntmps49
  go_wp2_with (go_at_call 64; refine (clone_any h s.row _ hw.row hw.small).mono ?_; rintro e w1 ⟨g', c, rfl, hc⟩)
  go_ret
  exact ⟨g', c, rfl, hc⟩

/-- Of the first len words of z the first k. -/
def filled (z : Nat → Int) (len k : Nat) : List Int := (List.range len).map fun i => if i < k then z i else 0
theorem filled_zero (z : Nat → Int) (len : Nat) : filled z len 0 = List.replicate len 0 := by
  unfold filled
  apply List.ext_getElem <;> simp
theorem filled_length (z : Nat → Int) (len k : Nat) : (filled z len k).length = len := by simp [filled]
theorem filled_set (z : Nat → Int) (len k : Nat) : (filled z len k).set k (z k) = filled z len (k + 1) := by
  unfold filled
  apply List.ext_getElem
  · simp
  · intro i h1 h2
    simp only [List.getElem_set, List.getElem_map, List.getElem_range]
    by_cases e : k = i
    · subst e; simp
    · simp only [if_neg e]
      by_cases c : i < k
      · rw [if_pos c, if_pos (by omega)]
      · rw [if_neg c, if_neg (by omega)]
theorem filled_at (z : Nat → Int) (len k : Nat) (h : k < len) : (filled z len len).getD k 0 = z k := by
  simp [filled, h]

/-- What the law's Fill makes. -/
def St.fill (z : Nat → Int) (len k : Nat) : St := ⟨filled z len k, 0, ⟨0, 0, 0, 0, 0, false⟩⟩
theorem fill_new (z : Nat → Int) (len : Nat) : St.new len = St.fill z len 0 := by unfold St.new St.fill; rw [filled_zero]
theorem fill_lay (z : Nat → Int) (len k : Nat) : (St.fill z len k).lay k (z k) = St.fill z len (k + 1) := by unfold St.fill St.lay; simp only [filled_set]

def FillRel (w : World) (g h len : Nat) (z : Nat → Int) (i : Value) (wr : World) : Prop :=
  ∃ k : Nat, k ≤ len ∧ i = .int .i64 k ∧ IsW wr g h (St.fill z len k) ∧ Off [] w wr

set_option maxHeartbeats 1000000 in
theorem fill_any (a : Option Addr) (len cap : Nat) (z : Nat → Int) (w : World) (hrow : IsRowU w a len cap z) (hlen : len ≤ 2000) :
    Calls Try.prog 10 #[.slice a len cap] w (Made w (St.fill z len len)) := by
  have HR := Lib.hid hrow
  clear hrow
  go_enter Try.func10, Try.ntmps10
  go_wp2_with (go_at_call 30; refine (new_in len hlen _).mono ?_; rintro e w1 ⟨g, h, rfl, hw1, ho1, hg, hh⟩)
  go_loopw [4] (fun i wr => FillRel w g h len z i wr) (fun i _ => len - (intOf i).toNat)
  case atStart => exact ⟨0, Nat.zero_le _, rfl, by rw [← fill_new]; exact hw1, ho1⟩
  case round =>
    obtain ⟨k, hk, rfl, hw, ho⟩ := hrel
    by_cases hlt : k < len
    · obtain ⟨b, off, rfl, hbl, hcap, hmax, hcell⟩ := HR.out.some_ (by omega)
      have ck : wr.cell? ⟨b, off + k, none⟩ = some (.int .u64 (z k)) := by rw [ho.cell hbl (by simp)]; exact hcell k hlt
      clear hcell
      have hi : (k : Int) < (len : Int) := by omega
      have hm : len ≤ 9223372036854775807 := by omega
      have hrl : k < (St.fill z len k).row.length := by show k < (filled z len k).length; rw [filled_length]; exact hlt
      go_wp2_with (go_at_call 31; refine (put_in hw k (z k) hrl).mono ?_; rintro e w2 ⟨rfl, hw2, ho2⟩)
      go_roundw
      case rel => exact ⟨k + 1, by omega, by go_num, by rw [← fill_lay]; exact hw2, ho.trans' ho2 (by intro i hi; simp at hi; omega)⟩
      case measure => simp [intOf]; omega
    · obtain rfl : k = len := by omega
      go_wp2
      go_ret
      exact ⟨g, h, rfl, hw, ho, hg, hh⟩

end Go.Proofs.Ytdnahojpeplajaa.Words
