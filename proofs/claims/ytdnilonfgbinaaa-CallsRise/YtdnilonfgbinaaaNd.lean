/- Where an instruction leads: flow.named, flow.Next. -/
import Derived.Test.YtdnilonfgbinaaaNc
namespace Go.Proofs.Ytdnilonfgbinaaa
open Go.RowKit Go.Sort

def nmL (x : Is) (b : Int) : List Int :=
  if x.op = 14 ∨ x.op = 18 then [x.n] else if x.op = 15 ∨ x.op = 16 ∨ x.op = 17 then [b, x.n] else if 1 ≤ x.op ∧ x.op ≤ 19 then [b] else []
/-- One number more, if it is an instruction's and not told yet. -/
def pk (n : Nat) (acc : List Nat) (z : Int) : List Nat := if 0 ≤ z ∧ z < n ∧ z.toNat ∉ acc then acc ++ [z.toNat] else acc
theorem pk_nil (n : Nat) (z : Int) : pk n [] z = tgt n z := by
  unfold pk tgt
  by_cases h : 0 ≤ z ∧ z < n
  · rw [if_pos ⟨h.1, h.2, by simp⟩, if_pos h]; rfl
  · rw [if_neg (fun g => h ⟨g.1, g.2.1⟩), if_neg h]
theorem nm_nx (n u : Nat) (x : Is) : (nmL x ((u : Int) + 1)).foldl (pk n) [] = nxL n x u := by
  unfold nmL nxL
  split
  · simp [pk_nil]
  · split
    · simp only [List.foldl, pk_nil]
      unfold pk
      by_cases h : x.n = (u : Int) + 1
      · rw [if_pos h, h, List.append_nil, if_neg]
        rintro ⟨h1, h2, h3⟩
        exact h3 (by unfold tgt; rw [if_pos ⟨h1, h2⟩]; simp)
      · rw [if_neg h]
        unfold tgt
        by_cases h2 : 0 ≤ x.n ∧ x.n < n
        · rw [if_pos h2, if_pos]
          refine ⟨h2.1, h2.2, ?_⟩
          split
          · rw [List.mem_singleton]; omega
          · simp
        · rw [if_neg h2, if_neg (fun g => h2 ⟨g.1, g.2.1⟩), List.append_nil]
    · split
      · simp [pk_nil]
      · rfl
theorem nmL_len (x : Is) (b : Int) : (nmL x b).length ≤ 2 := by unfold nmL; split <;> (try split) <;> (try split) <;> simp

def NmP (L : List Int) (w : World) (e : Ending) (w' : World) : Prop := ∃ a c, e = .returned (.slice a L.length c) ∧ Lst w' a (L.map (Value.int .i64)) ∧ Below w.heap.size w w'
theorem lst_nil (W : World) (a : Option Addr) : Lst W a [] := fun j u h => by simp at h
set_option maxRecDepth 100000 in
set_option maxHeartbeats 2000000 in
theorem named_any (x : Is) (b : Int) (w : World) : Calls Try.prog 51 #[x.val, .int .i64 b] w (NmP (nmL x b) w) := by
  have x0 := new_cell w #[.int .i64 x.op, .int .i64 x.a, .int .i64 x.b, .int .i64 x.c, .int .i64 x.n] 44 0 (.int .i64 x.op) rfl
  have x4 := new_cell w #[.int .i64 x.op, .int .i64 x.a, .int .i64 x.b, .int .i64 x.c, .int .i64 x.n] 44 4 (.int .i64 x.n) rfl
  have HB := Hid.mk' (Below.one (Below.refl _ w) (oX x))
  have HZ : Hid (∀ (W : World) (k : Nat) (cs : Array Value) xs, W.heap.size = k → cs.toList = xs → Lst (W.alloc (.cells cs 2)) (some ⟨k, 0, none⟩) xs) := fun W k cs xs e h => by subst e; exact lst_new W cs _ xs h
  have HQ : Hid ((x.op = 14 → nmL x b = [x.n]) ∧ (x.op = 18 → nmL x b = [x.n]) ∧ (x.op = 15 → nmL x b = [b, x.n]) ∧ (x.op = 16 → nmL x b = [b, x.n]) ∧ (x.op = 17 → nmL x b = [b, x.n]) ∧ (¬ (0 ≤ x.op ∧ x.op ≤ 19) → nmL x b = []) ∧ (x.op = 0 → nmL x b = []) ∧
      ((1 ≤ x.op ∧ x.op ≤ 19) → x.op ≠ 14 → x.op ≠ 18 → x.op ≠ 15 → x.op ≠ 16 → x.op ≠ 17 → nmL x b = [b])) := by
    refine ⟨?_, ?_, ?_, ?_, ?_, ?_, ?_, ?_⟩
    · intro h; unfold nmL; rw [if_pos (by omega)]
    · intro h; unfold nmL; rw [if_pos (by omega)]
    · intro h; unfold nmL; rw [if_neg (by omega), if_pos (by omega)]
    · intro h; unfold nmL; rw [if_neg (by omega), if_pos (by omega)]
    · intro h; unfold nmL; rw [if_neg (by omega), if_pos (by omega)]
    · intro h; unfold nmL; rw [if_neg (by omega), if_neg (by omega), if_neg (by omega)]
    · intro h; unfold nmL; rw [if_neg (by omega), if_neg (by omega), if_neg (by omega)]
    · intro h h1 h2 h3 h4 h5; unfold nmL; rw [if_neg (by omega), if_neg (by omega), if_pos h]
  obtain ⟨r14, r18, r15, r16, r17, rn, r0, ro⟩ := HQ.out
  have HK := Hid.mk' (known_any x.op)
  unfold Is.val
  unfold oX at HB
  generalize nmL x b = L at *
  clear HQ
  have HW := Hid.mk' (And.intro rn ro)
  clear rn ro
  by_cases h0 : x.op = 0
  · have hL := r0 h0
    subst hL
    have q0 : (x.op == 0) = true := by simp [h0]
    clear h0 r14 r18 r15 r16 r17 r0
    go_enter Try.func51, Try.ntmps51
    go_wp2_with fail
    go_ret
    exact ⟨_, _, rfl, lst_nil _ _, HB.out⟩
  have q0 : (x.op == 0) = false := beq_no h0
  have h0 := Hid.mk' h0
  clear r0
  by_cases h1 : x.op = 14
  · have hL := r14 h1
    subst hL
    have q1 : (x.op == 14) = true := by simp [h1]
    clear h1 r14 r18 r15 r16 r17
    go_enter Try.func51, Try.ntmps51
    go_wp2_with fail
    go_ret
    exact ⟨_, _, rfl, HZ.out _ _ _ _ (by simp) rfl, Below.one HB.out _⟩
  have q1 : (x.op == 14) = false := beq_no h1
  have h1 := Hid.mk' h1
  clear r14
  by_cases h2 : x.op = 18
  · have hL := r18 h2
    subst hL
    have q2 : (x.op == 18) = true := by simp [h2]
    clear h2 r18 r15 r16 r17
    go_enter Try.func51, Try.ntmps51
    go_wp2_with fail
    go_ret
    exact ⟨_, _, rfl, HZ.out _ _ _ _ (by simp) rfl, Below.one HB.out _⟩
  have q2 : (x.op == 18) = false := beq_no h2
  have h2 := Hid.mk' h2
  clear r18
  by_cases h3 : x.op = 15
  · have hL := r15 h3
    subst hL
    have q3 : (x.op == 15) = true := by simp [h3]
    clear h3 r15 r16 r17
    go_enter Try.func51, Try.ntmps51
    go_wp2_with fail
    go_ret
    exact ⟨_, _, rfl, HZ.out _ _ _ _ (by simp) rfl, Below.one HB.out _⟩
  have q3 : (x.op == 15) = false := beq_no h3
  have h3 := Hid.mk' h3
  clear r15
  by_cases h4 : x.op = 16
  · have hL := r16 h4
    subst hL
    have q4 : (x.op == 16) = true := by simp [h4]
    clear h4 r16 r17
    go_enter Try.func51, Try.ntmps51
    go_wp2_with fail
    go_ret
    exact ⟨_, _, rfl, HZ.out _ _ _ _ (by simp) rfl, Below.one HB.out _⟩
  have q4 : (x.op == 16) = false := beq_no h4
  have h4 := Hid.mk' h4
  clear r16
  by_cases h5 : x.op = 17
  · have hL := r17 h5
    subst hL
    have q5 : (x.op == 17) = true := by simp [h5]
    clear h5 r17
    go_enter Try.func51, Try.ntmps51
    go_wp2_with fail
    go_ret
    exact ⟨_, _, rfl, HZ.out _ _ _ _ (by simp) rfl, Below.one HB.out _⟩
  have q5 : (x.op == 17) = false := beq_no h5
  have h5 := Hid.mk' h5
  clear r17
  by_cases h6 : 0 ≤ x.op ∧ x.op ≤ 19
  · have hL := HW.out.2 (by have := h0.out; omega) h1.out h2.out h3.out h4.out h5.out
    subst hL
    have hk : knB x.op = true := by simp [knB]; omega
    rw [hk] at HK
    clear h6 hk
    go_enter Try.func51, Try.ntmps51
    go_wp2_with (go_at_call 61; refine (HK.out _).mono ?_; rintro e w1 ⟨rfl, rfl⟩)
    go_ret
    exact ⟨_, _, rfl, HZ.out _ _ _ _ (by simp) rfl, Below.one HB.out _⟩
  · have hL := HW.out.1 h6
    subst hL
    have hk : knB x.op = false := by simp [knB]; omega
    rw [hk] at HK
    clear h6 hk
    go_enter Try.func51, Try.ntmps51
    go_wp2_with (go_at_call 61; refine (HK.out _).mono ?_; rintro e w1 ⟨rfl, rfl⟩)
    go_ret
    exact ⟨_, _, rfl, lst_nil _ _, HB.out⟩
end Go.Proofs.Ytdnilonfgbinaaa
