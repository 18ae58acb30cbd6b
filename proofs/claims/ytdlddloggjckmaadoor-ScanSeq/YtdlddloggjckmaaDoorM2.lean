/- Plain facts on words and signs: no program stands in it. -/
import Derived.Test.YtdlddloggjckmaaDoorM
namespace Go.Proofs.YtdlddloggjckmaaDoor

/-- The language's words, as bytes. -/
def wordList : List (List UInt8) := [[119, 105, 100, 101, 110], [102, 110], [108, 101, 116], [102, 111, 114], [105, 110], [105, 102], [101, 108, 115, 101], [115, 119, 105, 116, 99, 104], [99, 97, 115, 101], [98, 114, 101, 97, 107], [114, 101, 116, 117, 114, 110]]
def wordB (l : List UInt8) : Bool := l == [119, 105, 100, 101, 110] || l == [102, 110] || l == [108, 101, 116] || l == [102, 111, 114] || l == [105, 110] || l == [105, 102] || l == [101, 108, 115, 101] || l == [115, 119, 105, 116, 99, 104] || l == [99, 97, 115, 101] || l == [98, 114, 101, 97, 107] || l == [114, 101, 116, 117, 114, 110]
theorem wordB_eq (l : List UInt8) : wordB l = wordList.any (fun x => x == l) := by
  simp [wordB, wordList, Bool.or_assoc, Bool.beq_comm (a := l)]

/-- A sign of two bytes; of one. -/
def sign2B (l : List UInt8) : Bool := l == [61, 61] || l == [33, 61] || l == [60, 61] || l == [62, 61] || l == [38, 38] || l == [124, 124] || l == [46, 46]
def sign1B (n : Int) : Bool := n == 40 || n == 41 || n == 123 || n == 125 || n == 91 || n == 93 || n == 44 || n == 59 || n == 58 || n == 63 || n == 61 || n == 60 || n == 62 || n == 43 || n == 45 || n == 42 || n == 47 || n == 37 || n == 33

def s1N (n : Int) : Int := if sign1B n = true then 1 else 0

/-- How long the longest sign at the beginning is; 0: none. -/
def signLen (l : List UInt8) : Nat := if 2 ≤ l.length ∧ sign2B (l.take 2) = true then 2 else match l with | [] => 0 | c :: _ => if sign1B c.toNat then 1 else 0

theorem signLen_two {l : List UInt8} (h : 2 ≤ l.length) (hs : sign2B (l.take 2) = true) : signLen l = 2 := by
  unfold signLen; rw [if_pos ⟨h, hs⟩]
theorem signLen_one {l : List UInt8} (hn : ¬ (2 ≤ l.length ∧ sign2B (l.take 2) = true)) (h0 : 0 < l.length) (h : sign1B l[0].toNat = true) : signLen l = 1 := by
  unfold signLen; rw [if_neg hn]
  cases l with
  | nil => simp at h0
  | cons c r => simp at h; simp [h]
theorem signLen_no {l : List UInt8} (hn : ¬ (2 ≤ l.length ∧ sign2B (l.take 2) = true)) (h0 : 0 < l.length) (h : sign1B l[0].toNat = false) : signLen l = 0 := by
  unfold signLen; rw [if_neg hn]
  cases l with
  | nil => simp at h0
  | cons c r => simp at h; simp [h]
theorem signLen_le (l : List UInt8) : signLen l ≤ l.length ∧ signLen l ≤ 2 := by
  unfold signLen
  split
  · omega
  · cases l with
    | nil => simp
    | cons c r => dsimp only; split <;> simp

end Go.Proofs.YtdlddloggjckmaaDoor
