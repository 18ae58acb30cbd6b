/- Plain facts on bytes and lists that the walks of package scan and of its reference share: no program stands in it. -/
import Derived.Below
namespace Go.Proofs.Ytdnilonfgbinaaa

def letB (n : Int) : Bool := decide (97 ≤ n ∧ n ≤ 122)
def digB (n : Int) : Bool := decide (48 ≤ n ∧ n ≤ 57)
def lodB (n : Int) : Bool := letB n || digB n
def isLet (c : UInt8) : Bool := letB c.toNat
def isDig (c : UInt8) : Bool := digB c.toNat
def isLod (c : UInt8) : Bool := lodB c.toNat

def rowLen (p : UInt8 → Bool) (l : List UInt8) : Nat := (l.takeWhile p).length

theorem rowLen_le (p : UInt8 → Bool) (l : List UInt8) : rowLen p l ≤ l.length := by
  unfold rowLen; exact (List.takeWhile_prefix p).length_le

theorem rowLen_nil (p : UInt8 → Bool) : rowLen p [] = 0 := rfl
theorem rowLen_cons (p : UInt8 → Bool) (c : UInt8) (l : List UInt8) : rowLen p (c :: l) = if p c then rowLen p l + 1 else 0 := by
  unfold rowLen; rw [List.takeWhile_cons]; split <;> simp

theorem rowLen_hit (p : UInt8 → Bool) : ∀ (l : List UInt8) (k : Nat), k ≤ rowLen p l → (h : k < l.length) → p l[k] = true → k + 1 ≤ rowLen p l
  | [], k, _, h, _ => by simp at h
  | c :: l, 0, _, _, hp => by rw [rowLen_cons, if_pos (by simpa using hp)]; omega
  | c :: l, k + 1, hk, h, hp => by
    rw [rowLen_cons] at hk ⊢
    by_cases hc : p c = true
    · rw [if_pos hc] at hk ⊢
      have := rowLen_hit p l k (by omega) (by simpa using h) (by simpa using hp)
      omega
    · rw [if_neg hc] at hk; omega

theorem rowLen_miss (p : UInt8 → Bool) : ∀ (l : List UInt8) (k : Nat), k ≤ rowLen p l → (h : k < l.length) → p l[k] = false → rowLen p l = k
  | [], k, _, h, _ => by simp at h
  | c :: l, 0, _, _, hp => by rw [rowLen_cons, if_neg (by simpa using hp)]
  | c :: l, k + 1, hk, h, hp => by
    rw [rowLen_cons] at hk ⊢
    by_cases hc : p c = true
    · rw [if_pos hc] at hk ⊢
      have := rowLen_miss p l k (by omega) (by simpa using h) (by simpa using hp)
      omega
    · rw [if_neg hc] at hk; omega

/-- The bytes that are passed over: blanks, and a remark up to ahead of its line's end. -/
def blankB (c : UInt8) : Bool := (c.toNat : Int) == 32 || (c.toNat : Int) == 9 || (c.toNat : Int) == 10 || (c.toNat : Int) == 13

theorem blank_of32 {c : UInt8} (h : ((c.toNat : Int) == 32) = true) : blankB c = true := by simp [blankB, h]
theorem blank_of9 {c : UInt8} (h : ((c.toNat : Int) == 9) = true) : blankB c = true := by simp [blankB, h]
theorem blank_of10 {c : UInt8} (h : ((c.toNat : Int) == 10) = true) : blankB c = true := by simp [blankB, h]
theorem blank_of13 {c : UInt8} (h : ((c.toNat : Int) == 13) = true) : blankB c = true := by simp [blankB, h]
theorem blank_not {c : UInt8} (h1 : ((c.toNat : Int) == 32) = false) (h2 : ((c.toNat : Int) == 9) = false) (h3 : ((c.toNat : Int) == 10) = false) (h4 : ((c.toNat : Int) == 13) = false) : blankB c = false := by
  unfold blankB; rw [h1, h2, h3, h4]; rfl

/-- How many bytes are passed over (true: within a remark). -/
def skip : Bool → List UInt8 → Nat
  | _, [] => 0
  | false, c :: r => if blankB c then skip false r + 1 else if (c.toNat : Int) == 35 then skip true r + 1 else 0
  | true, c :: r => if (c.toNat : Int) == 10 then skip false r + 1 else skip true r + 1

theorem skip_le : ∀ (b : Bool) (l : List UInt8), skip b l ≤ l.length
  | _, [] => by simp [skip]
  | false, c :: r => by have h1 := skip_le false r; have h2 := skip_le true r; rw [skip]; split; · simpa using h1
                        split; · simpa using h2
                        simp
  | true, c :: r => by have h1 := skip_le false r; have h2 := skip_le true r; rw [skip]; split; · simpa using h1
                       simpa using h2

/-- Where what is passed over from k on ends. -/
def passEnd (b : Bool) (l : List UInt8) (k : Nat) : Nat := k + skip b (l.drop k)

theorem passEnd_le (b : Bool) (l : List UInt8) (k : Nat) (h : k ≤ l.length) : passEnd b l k ≤ l.length := by
  unfold passEnd; have := skip_le b (l.drop k); rw [List.length_drop] at this; omega
theorem passEnd_ge (b : Bool) (l : List UInt8) (k : Nat) : k ≤ passEnd b l k := by unfold passEnd; omega
theorem passEnd_end (b : Bool) (l : List UInt8) (k : Nat) (h : l.length ≤ k) : passEnd b l k = k := by
  unfold passEnd; rw [List.drop_eq_nil_of_le h]; cases b <;> rfl
theorem passEnd_blank (l : List UInt8) (k : Nat) (h : k < l.length) (hb : blankB l[k] = true) : passEnd false l k = passEnd false l (k + 1) := by
  unfold passEnd; rw [List.drop_eq_getElem_cons h, skip, if_pos hb]; omega
theorem passEnd_hash (l : List UInt8) (k : Nat) (h : k < l.length) (hb : ((l[k].toNat : Int) == 35) = true) : passEnd false l k = passEnd true l (k + 1) := by
  have hn : blankB l[k] = false := by simp at hb; simp [blankB, hb]
  unfold passEnd; rw [List.drop_eq_getElem_cons h, skip, if_neg (by simp [hn]), if_pos hb]; omega
theorem passEnd_hash0 (l : List UInt8) (k : Nat) (h : k < l.length) (hb : ((l[k].toNat : Int) == 35) = true) : passEnd false l k = passEnd true l k := by
  rw [passEnd_hash l k h hb]
  unfold passEnd; rw [List.drop_eq_getElem_cons h, skip, if_neg (by simp at hb; simp [hb])]; omega
theorem passEnd_stop (l : List UInt8) (k : Nat) (h : k < l.length) (h1 : blankB l[k] = false) (h2 : ((l[k].toNat : Int) == 35) = false) : passEnd false l k = k := by
  unfold passEnd; rw [List.drop_eq_getElem_cons h, skip, if_neg (by simp [h1]), if_neg (by simp at h2; simp [h2])]; omega
theorem passEnd_line (l : List UInt8) (k : Nat) (h : k < l.length) (hb : ((l[k].toNat : Int) == 10) = true) : passEnd true l k = passEnd false l (k + 1) := by
  unfold passEnd; rw [List.drop_eq_getElem_cons h, skip, if_pos hb]; omega
theorem passEnd_line0 (l : List UInt8) (k : Nat) (h : k < l.length) (hb : ((l[k].toNat : Int) == 10) = true) : passEnd true l k = passEnd false l k := by
  rw [passEnd_line l k h hb, passEnd_blank l k h (by simp at hb; simp [blankB, hb])]
theorem passEnd_in (l : List UInt8) (k : Nat) (h : k < l.length) (hb : ((l[k].toNat : Int) == 10) = false) : passEnd true l k = passEnd true l (k + 1) := by
  unfold passEnd; rw [List.drop_eq_getElem_cons h, skip, if_neg (by simp at hb; simp [hb])]; omega

def wordB (l : List UInt8) : Bool := l == [119, 105, 100, 101, 110] || l == [102, 110] || l == [108, 101, 116] || l == [102, 111, 114] || l == [105, 110] || l == [105, 102] || l == [101, 108, 115, 101] || l == [115, 119, 105, 116, 99, 104] || l == [99, 97, 115, 101] || l == [98, 114, 101, 97, 107] || l == [114, 101, 116, 117, 114, 110]
theorem ba_len (s : ByteArray) : s.data.toList.length = s.size := by rw [Array.length_toList]; rfl
end Go.Proofs.Ytdnilonfgbinaaa
