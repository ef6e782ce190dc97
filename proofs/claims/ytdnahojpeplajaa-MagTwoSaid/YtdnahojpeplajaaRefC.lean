/- The law's Model, the document's SameWords. -/
import Derived.Test.YtdnahojpeplajaaRefB
import Derived.Laws.CopyOwn
import Derived.BigQuiet
import Derived.Deep.QuietTactic
namespace Go.Proofs.Ytdnahojpeplajaa.Words
open Go.RowKit Mem Go.Proofs.Ytdnahojpeplajaa.Open

theorem word_size : (Try.prog.info? 27).map (·.size) = some 1 := by kernel_rfl

theorem fill_row (z : Nat → Int) (len : Nat) : filled z len len = (List.range len).map z := by
  unfold filled
  apply List.ext_getElem <;> simp
  intro i h1 h2
  omega

set_option maxHeartbeats 1000000 in
theorem model_any (base : Nat) (a : Option Addr) (len cap : Nat) (z : Nat → Int) (w : World) (hrow : IsRowU w a len cap z) (hlen : len ≤ 2000) (hb : base ≤ w.heap.size) :
    Calls Try.prog 21 #[.slice a len cap] w (RMade w base (St.fill z len len)) := by
  by_cases h0 : len = 0
  · subst h0
    go_enter Try.func21, Try.ntmps21
    go_wp2_with (first
      | (go_at_call 41; refine (rnew_in base 0 (by omega) _ hb).mono ?_; rintro e w1 ⟨g, h, rfl, hw1, ho1, hg, hh⟩; have c0 := hw1.cells.1; have hl : (St.new 0).row.length = 0 := rfl)
      | (refine wpList_copy_nothing rfl _ _ _ _ rfl 27 Try.underlying25 word_size (some ⟨h, 0, none⟩) a 0 0 0 cap rfl rfl rfl ?_))
    go_ret
    exact ⟨g, h, rfl, by rw [← fill_new]; exact hw1, ho1, hg, hh⟩
  · obtain ⟨b, off, rfl, hbl, hcap, hmax, hcell⟩ := hrow.some_ (by omega)
    have hnew : ∀ W : World, Off [] w W → ∀ j v, ((List.range len).map fun i => Value.int .u64 (z i))[j]? = some v → W.cell? (Addr.add ⟨b, off, none⟩ j) = some v := by
      intro W hW j v hv
      have hj : j < len := by
        have := (List.getElem?_eq_some_iff.1 hv).1
        simpa using this
      rw [addr_add, hW.cell hbl (by simp), hcell j hj]
      simpa [hj] using hv
    have h1 : ∀ v ∈ ((List.range len).map fun i => Value.int .u64 (z i)), v.oneCell' = true := by
      intro v hv
      obtain ⟨x, _, rfl⟩ := List.mem_map.1 hv
      rfl
    have HNEW := Lib.hid hnew
    have H1 := Lib.hid h1
    have hnl : len ≤ 9223372036854775807 := by omega
    clear hnew h1 hcell
    go_enter Try.func21, Try.ntmps21
    go_wp2_with (first
      | (go_at_call 41; refine (rnew_in base len hlen _ hb).mono ?_; rintro e w1 ⟨g, h, rfl, hw1, ho1, hg, hh⟩; have c0 : w1.cell? ⟨g, 0, none⟩ = some (.slice (some ⟨h, 0, none⟩) len len) := (hw1.cells.1.trans (by simp [St.new])))
      | (refine wpList_copy_own rfl _ _ _ _ rfl 27 Try.underlying25 word_size h 0 len len ⟨b, off, none⟩ len cap rfl rfl (rowCells (St.new len).row) 27 hw1.row.eq ((List.range len).map fun i => Value.int .u64 (z i)) (by simp) (HNEW.out _ ho1) (by simp [rowCells, St.new]) H1.out ?_))
    go_ret
    have hne := hw1.ne
    have e1 : (rowCells (St.new len).row).toList = List.replicate len (.int .u64 0) := by simp [rowCells, St.new]
    have hs2 : Blk (w1.setRow h (((List.range len).map fun i => Value.int .u64 (z i)) ++ (rowCells (St.new len).row).toList.drop len).toArray) h 27 (rowCells (St.fill z len len).row) := by
      refine (⟨setRow_heap w1 h _ _ _ _ hw1.row.eq⟩ : Blk _ h _ _).to ?_
      rw [e1]
      simp [rowCells, St.fill, fill_row]
    obtain ⟨lv, n, xs, hbk, hn, hn2, hown⟩ := hw1.head
    refine ⟨g, h, rfl, ⟨⟨lv, n, xs, (⟨(setRow_other _ _ _ _ hne).trans hbk.eq⟩ : Blk _ g _ _).to ?_, hn, hn2, own_keep hown (fun b cur hc _ => setRow_other _ _ _ _ (hw1.row.ne ⟨hc⟩ (by decide)).symm)⟩, hs2, ?_, ?_, hw1.hg, hw1.hh⟩, ?_, hg, hh⟩
    · simp [refCells, St.new, St.fill, filled_length]
    · show (filled z len len).length ≤ 2000
      rw [filled_length]; exact hlen
    · have := hw1.lo
      simpa [World.setRow] using this
    · refine ⟨ho1.os, ho1.tape, ho1.output, by simpa [World.setRow] using ho1.size, fun k hk hn => ?_⟩
      rw [setRow_other _ _ _ _ (by omega)]
      exact ho1.block k hk hn

def SameRel (n : Nat) (w : World) (i : Value) (wr : World) : Prop := ∃ j m : Nat, j ≤ n ∧ i = .int .i64 j ∧ wr = w.drewN m

set_option maxRecDepth 100000 in
set_option maxHeartbeats 2000000 in
theorem same_words (ga gb ca cb : Nat) (l : List Int) (w : World) (_ : l.length ≤ ca) (_ : l.length ≤ cb) (hm : l.length ≤ 2000)
    (hA : ∀ k, k < l.length → w.cell? ⟨ga, k, none⟩ = some (.int .u64 (l.getD k 0))) (hB : ∀ k, k < l.length → w.cell? ⟨gb, k, none⟩ = some (.int .u64 (l.getD k 0))) :
    Calls Try.prog 48 #[.slice (some ⟨ga, 0, none⟩) l.length ca, .slice (some ⟨gb, 0, none⟩) l.length cb] w fun e w' => e = .returned (.bool true) ∧ Off [] w w' := by
  have HA := Lib.hid hA
  have HB := Lib.hid hB
  clear hA hB
  go_enter Try.func48, Try.ntmps48
  go_wp2_with fail
  go_loopw [5] (fun i wr => SameRel l.length w i wr) (fun i _ => l.length - (intOf i).toNat)
  case atStart => exact ⟨0, 0, Nat.zero_le _, rfl, rfl⟩
  case round =>
    obtain ⟨j, m, hj, rfl, rfl⟩ := hrel
    by_cases hlt : j < l.length
    · have hi : (j : Int) < (l.length : Int) := by omega
      have ca := HA.out j hlt
      have cb := HB.out j hlt
      go_wp2_with fail
      go_quiet (fail)
      go_wp2_with fail
      go_roundw
      case rel => exact ⟨j + 1, _, by omega, by go_num, rfl⟩
      case measure => simp [intOf]; omega
    · have e : j = l.length := by omega
      have hd : decide ((j : Int) < (l.length : Int)) = false := by simp; omega
      go_wp2_with fail
      go_ret
      exact ⟨rfl, (Off.refl _ _).drewN _⟩

end Go.Proofs.Ytdnahojpeplajaa.Words
