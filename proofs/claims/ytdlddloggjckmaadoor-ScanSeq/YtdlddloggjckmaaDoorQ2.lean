/- The reference's words, in, Word: a text is a word just where it stands in the list; nothing that lay has turned. -/
import Derived.Test.YtdlddloggjckmaaDoorB
import Derived.RangeFuncBox
namespace Go.Proofs.YtdlddloggjckmaaDoor
open Go.RowKit

def anyIs (s : ByteArray) (xs : List ByteArray) : Bool := xs.any (fun x => x.toList == s.toList)
theorem anyIs_drop_hit (s : ByteArray) (xs : List ByteArray) (k : Nat) (h : k < xs.length) (hx : (xs[k].toList == s.toList) = true) : anyIs s (xs.drop k) = true := by
  rw [List.drop_eq_getElem_cons h]; simp only [anyIs, List.any_cons, hx, Bool.true_or]
theorem anyIs_drop_miss (s : ByteArray) (xs : List ByteArray) (k : Nat) (h : k < xs.length) (hx : (xs[k].toList == s.toList) = false) : anyIs s (xs.drop k) = anyIs s (xs.drop (k + 1)) := by
  rw [List.drop_eq_getElem_cons h]; simp only [anyIs, List.any_cons, hx, Bool.false_or]

set_option maxHeartbeats 1000000 in
theorem in_any (s : ByteArray) (xs : List ByteArray) (b cap : Nat) (w : World) (hl : xs.length ≤ 1000) (hc : ∀ j (h : j < xs.length), w.cell? ⟨b, j, none⟩ = some (.string xs[j])) :
    Calls Tryd.prog 26 #[.string s, .slice (some ⟨b, 0, none⟩) xs.length cap] w fun e w' => e = .returned (.bool (anyIs s xs)) ∧ w' = w := by
  go_enter Tryd.func26, Tryd.ntmps26
  go_wp2
  go_loop [5] (fun i => ∃ k : Nat, k ≤ xs.length ∧ i = .int .i64 k ∧ Hid (anyIs s (xs.drop k) = anyIs s xs)) (fun i => xs.length - (intOf i).toNat)
  case atStart => exact ⟨0, Nat.zero_le _, rfl, rfl⟩
  case round =>
    obtain ⟨k, hk, rfl, HI⟩ := hrel
    by_cases hlt : k < xs.length
    · have hcell := hc k hlt
      cases hx : (xs[k].toList == s.toList) with
      | true =>
        have HE := HI.out.symm.trans (anyIs_drop_hit s xs k hlt hx)
        have HE' : Hid (anyIs s xs = true) := HE
        clear HE hc HI
        go_wp2
        go_ret
        exact ⟨ret_bool (by rw [HE'.out]), rfl⟩
      | false =>
        have HE : Hid (anyIs s (xs.drop (k + 1)) = anyIs s xs) := (anyIs_drop_miss s xs k hlt hx).symm.trans HI.out
        clear hc HI
        go_wp2
        go_round
        case rel => exact ⟨k + 1, by omega, by go_num, HE⟩
        case measure => simp [intOf]; omega
    · have HE : Hid (anyIs s xs = false) := by
        have := HI.out; rw [List.drop_eq_nil_of_le (by omega)] at this; exact this.symm
      clear hc HI
      go_wp2
      go_ret
      exact ⟨ret_bool (by rw [HE.out]), rfl⟩

def wordsB : List ByteArray := [⟨#[119, 105, 100, 101, 110]⟩, ⟨#[102, 110]⟩, ⟨#[108, 101, 116]⟩, ⟨#[102, 111, 114]⟩, ⟨#[105, 110]⟩, ⟨#[105, 102]⟩, ⟨#[101, 108, 115, 101]⟩, ⟨#[115, 119, 105, 116, 99, 104]⟩, ⟨#[99, 97, 115, 101]⟩, ⟨#[98, 114, 101, 97, 107]⟩, ⟨#[114, 101, 116, 117, 114, 110]⟩]
def strCells (xs : List ByteArray) : Array Value := (xs.map Value.string).toArray

theorem new_cells (w : World) (xs : List ByteArray) : ∀ j (h : j < xs.length), (w.alloc (.cells (strCells xs) 9)).cell? ⟨w.heap.size, j, none⟩ = some (.string xs[j]) := by
  intro j h
  have hb : (w.alloc (.cells (strCells xs) 9)).heap[w.heap.size]? = some (.cells (strCells xs) 9 (0, 0)) := World.alloc_heap_new w _
  simp only [World.cell?, hb]
  simp [strCells, h]

set_option maxHeartbeats 400000 in
theorem words_any (w : World) : Calls Tryd.prog 27 #[] w fun e w' => e = .returned (.slice (some ⟨w.heap.size, 0, none⟩) 11 11) ∧ w' = w.alloc (.cells (strCells wordsB) 9) := by
  go_enter Tryd.func27, Tryd.ntmps27
  go_wp2
  go_ret
  exact ⟨rfl, rfl⟩

theorem anyIs_words (s : ByteArray) : anyIs s wordsB = wordB s.data.toList := by
  rw [wordB_eq]
  simp only [anyIs, wordsB, wordList, List.any_cons, List.any_nil, ba_list]

set_option maxHeartbeats 400000 in
theorem rWord_any (s : ByteArray) (w : World) :
    Calls Tryd.prog 17 #[.string s] w fun e w' => e = .returned (.bool (wordB s.data.toList)) ∧ Below w.heap.size w w' := by
  have h26 : Calls Tryd.prog 26 #[.string s, .slice (some ⟨w.heap.size, 0, none⟩) 11 11] (w.alloc (.cells (strCells wordsB) 9)) fun e w' => e = .returned (.bool (wordB s.data.toList)) ∧ w' = w.alloc (.cells (strCells wordsB) 9) := by
    rw [← anyIs_words]; exact in_any s wordsB w.heap.size 11 _ (by decide) (new_cells w wordsB)
  go_enter Tryd.func17, Tryd.ntmps17
  go_wp2_with (first | (go_at_call 27; refine (words_any _).mono ?_; rintro e w' ⟨rfl, rfl⟩) | (go_at_call 26; refine h26.mono ?_; rintro e w' ⟨rfl, rfl⟩))
  go_ret
  exact ⟨rfl, (Below.refl _ w).alloc (Nat.le_refl _) _⟩

end Go.Proofs.YtdlddloggjckmaaDoor
