/- The document's own words on operations. -/
import Derived.Test.YtlkoigdnakmdlaaDoorPart1
import Derived.Lib.Walk
namespace Go.Proofs.YtlkoigdnakmdlaaDoor
open Go.RowKit Go.Sort

set_option maxHeartbeats 400000 in
theorem rknown_any (op : Int) (w : World) : Calls Tryd.prog 11 #[.int .i64 op] w fun e w' => e = .returned (.bool (knB op)) ∧ w' = w := by
  by_cases h : 0 ≤ op
  all_goals
    go_enter Tryd.func11, Tryd.ntmps11
    go_wp2
    go_ret
    exact ⟨ret_bool (by simp [knB]; try omega), rfl⟩
theorem rknown_no {op : Int} (h : ¬ (0 ≤ op ∧ op ≤ 19)) (w : World) : Calls Tryd.prog 11 #[.int .i64 op] w fun e w' => e = .returned (.bool false) ∧ w' = w := by
  have := rknown_any op w
  rwa [show knB op = false by simp [knB]; omega] at this
theorem rknown_yes {op : Int} (h : 0 ≤ op ∧ op ≤ 19) (w : World) : Calls Tryd.prog 11 #[.int .i64 op] w fun e w' => e = .returned (.bool true) ∧ w' = w := by
  have := rknown_any op w
  rwa [show knB op = true by simp [knB]; omega] at this

set_option maxHeartbeats 2000000 in
theorem rweight_any (op : Int) (w : World) : Calls Tryd.prog 13 #[.int .i64 op] w fun e w' => e = .returned (.int .i64 (rwOf op).weight) ∧ w' = w := by
  have HY : Hid (∀ {op : Int}, 0 ≤ op ∧ op ≤ 19 → ∀ w, Calls Tryd.prog 11 #[.int .i64 op] w fun e w' => e = .returned (.bool true) ∧ w' = w) := fun h w => rknown_yes h w
  by_cases h : 0 ≤ op ∧ op ≤ 19
  · refine op_cases (P := fun op => Calls Tryd.prog 13 #[.int .i64 op] w fun e w' => e = .returned (.int .i64 (rwOf op).weight) ∧ w' = w) h.1 h.2 ?_ ?_ ?_ ?_ ?_ ?_ ?_ ?_ ?_ ?_ ?_ ?_ ?_ ?_ ?_ ?_ ?_ ?_ ?_ ?_
    all_goals
      clear h
      go_enter Tryd.func13, Tryd.ntmps13
      go_wp2_with (go_at_call 11; refine (HY.out (by decide) _).mono ?_; rintro e w1 ⟨rfl, rfl⟩)
      go_ret
      exact ⟨ret_int (by kernel_rfl), rfl⟩
  · have HN := Hid.mk' (rknown_no h)
    have q0 : (op == 0) = false := beq_no (by omega)
    have q1 : (op == 1) = false := beq_no (by omega)
    have q2 : (op == 2) = false := beq_no (by omega)
    have q3 : (op == 3) = false := beq_no (by omega)
    have q4 : (op == 4) = false := beq_no (by omega)
    have q5 : (op == 5) = false := beq_no (by omega)
    have q6 : (op == 6) = false := beq_no (by omega)
    have q7 : (op == 7) = false := beq_no (by omega)
    have q8 : (op == 8) = false := beq_no (by omega)
    have q9 : (op == 9) = false := beq_no (by omega)
    have q10 : (op == 10) = false := beq_no (by omega)
    have q11 : (op == 11) = false := beq_no (by omega)
    have q12 : (op == 12) = false := beq_no (by omega)
    have q13 : (op == 13) = false := beq_no (by omega)
    have q14 : (op == 14) = false := beq_no (by omega)
    have q15 : (op == 15) = false := beq_no (by omega)
    have q16 : (op == 16) = false := beq_no (by omega)
    have q17 : (op == 17) = false := beq_no (by omega)
    have q18 : (op == 18) = false := beq_no (by omega)
    have q19 : (op == 19) = false := beq_no (by omega)
    rw [rwOf_no h]
    clear h
    go_enter Tryd.func13, Tryd.ntmps13
    go_wp2_with (go_at_call 11; refine (HN.out _).mono ?_; rintro e w1 ⟨rfl, rfl⟩)
    go_ret
    exact ⟨rfl, rfl⟩

/-- The words in memory. -/
def wordsC : Array Value := ((List.range 20).map fun k => Value.string (rwN k).word).toArray
theorem words_any (w : World) : Calls Tryd.prog 29 #[] w fun e w' => e = .returned (.slice (some ⟨w.heap.size, 0, none⟩) 20 20) ∧ w' = w.alloc (.cells wordsC 9) := by
  go_enter Tryd.func29, Tryd.ntmps29
  go_wp2
  go_ret
  exact ⟨rfl, rfl⟩
theorem words_cell (w : World) {k : Nat} (h : k < 20) : (w.alloc (.cells wordsC 9)).cell? ⟨w.heap.size, k, none⟩ = some (.string (rwN k).word) := by
  refine (World.cell?_alloc_at _ _ _ _ rfl).trans ?_
  unfold wordsC
  simp [h]
set_option maxHeartbeats 1000000 in
theorem rword_any (op : Int) (w : World) : Calls Tryd.prog 15 #[.int .i64 op] w fun e w' => e = .returned (.string (rwOf op).word) ∧ Below w.heap.size w w' := by
  by_cases h : 0 ≤ op ∧ op ≤ 19
  · have HY := Hid.mk' (rknown_yes h)
    obtain ⟨k, rfl⟩ : ∃ k : Nat, op = k := ⟨op.toNat, by omega⟩
    have hk : k < 20 := by omega
    rw [rwOf_nat hk]
    have HW := Hid.mk' words_any
    have hc := words_cell w hk
    have hb := Below.one (Below.refl _ w) (.cells wordsC 9)
    generalize wordsC = C at *
    generalize (rwN k).word = s at *
    clear h
    go_enter Tryd.func15, Tryd.ntmps15
    go_wp2_with (first | (go_at_call 11; refine (HY.out _).mono ?_; rintro e w1 ⟨rfl, rfl⟩) | (go_at_call 29; refine (HW.out _).mono ?_; rintro e w1 ⟨rfl, rfl⟩))
    go_ret
    exact ⟨rfl, hb⟩
  · have HN := Hid.mk' (rknown_no h)
    rw [rwOf_no h]
    clear h
    go_enter Tryd.func15, Tryd.ntmps15
    go_wp2_with (go_at_call 11; refine (HN.out _).mono ?_; rintro e w1 ⟨rfl, rfl⟩)
    go_ret
    exact ⟨rfl, Below.refl _ _⟩

/-- Which fields an operation has. -/
def hasV (r : Rw) : Value := .agg #[.bool (bt r.regs 0), .bool (bt r.regs 1), .bool (bt r.regs 2), .bool (r.n != 0)]
set_option maxHeartbeats 4000000 in
theorem rhas_any (op : Int) (w : World) : Calls Tryd.prog 47 #[.int .i64 op] w fun e w' => e = .returned (hasV (rwOf op)) ∧ Below w.heap.size w w' := by
  have hb := fun (o1 : Obj) => (Below.one (Below.refl _ w) o1 : Below w.heap.size w _)
  by_cases h : 0 ≤ op ∧ op ≤ 19
  · refine op_cases (P := fun op => Calls Tryd.prog 47 #[.int .i64 op] w fun e w' => e = .returned (hasV (rwOf op)) ∧ Below w.heap.size w w') h.1 h.2 ?_ ?_ ?_ ?_ ?_ ?_ ?_ ?_ ?_ ?_ ?_ ?_ ?_ ?_ ?_ ?_ ?_ ?_ ?_ ?_
    all_goals
      clear h
      go_enter Tryd.func47, Tryd.ntmps47
      go_wp2_with fail
      refine bodyPost_ret (by simp [results, Tryd.results47, go_sem]; exact rfl) rfl ⟨ret_val (by kernel_rfl), hb _⟩
  · 
    have q0 : (op == 0) = false := beq_no (by omega)
    have q1 : (op == 1) = false := beq_no (by omega)
    have q2 : (op == 2) = false := beq_no (by omega)
    have q3 : (op == 3) = false := beq_no (by omega)
    have q4 : (op == 4) = false := beq_no (by omega)
    have q5 : (op == 5) = false := beq_no (by omega)
    have q6 : (op == 6) = false := beq_no (by omega)
    have q7 : (op == 7) = false := beq_no (by omega)
    have q8 : (op == 8) = false := beq_no (by omega)
    have q9 : (op == 9) = false := beq_no (by omega)
    have q10 : (op == 10) = false := beq_no (by omega)
    have q11 : (op == 11) = false := beq_no (by omega)
    have q12 : (op == 12) = false := beq_no (by omega)
    have q13 : (op == 13) = false := beq_no (by omega)
    have q14 : (op == 14) = false := beq_no (by omega)
    have q15 : (op == 15) = false := beq_no (by omega)
    have q16 : (op == 16) = false := beq_no (by omega)
    have q17 : (op == 17) = false := beq_no (by omega)
    have q18 : (op == 18) = false := beq_no (by omega)
    have q19 : (op == 19) = false := beq_no (by omega)
    rw [rwOf_no h]
    clear h
    go_enter Tryd.func47, Tryd.ntmps47
    go_wp2_with fail
    refine bodyPost_ret (by simp [results, Tryd.results47, go_sem]; exact rfl) rfl ⟨ret_val (by kernel_rfl), hb _⟩
set_option maxHeartbeats 4000000 in
theorem rtarget_any (op : Int) (w : World) : Calls Tryd.prog 49 #[.int .i64 op] w fun e w' => e = .returned (.bool ((rwOf op).n == 3)) ∧ w' = w := by
  by_cases h : 0 ≤ op ∧ op ≤ 19
  · refine op_cases (P := fun op => Calls Tryd.prog 49 #[.int .i64 op] w fun e w' => e = .returned (.bool ((rwOf op).n == 3)) ∧ w' = w) h.1 h.2 ?_ ?_ ?_ ?_ ?_ ?_ ?_ ?_ ?_ ?_ ?_ ?_ ?_ ?_ ?_ ?_ ?_ ?_ ?_ ?_
    all_goals
      clear h
      go_enter Tryd.func49, Tryd.ntmps49
      go_wp2_with fail
      go_ret
      exact ⟨ret_bool (by kernel_rfl), rfl⟩
  · 
    have q0 : (op == 0) = false := beq_no (by omega)
    have q1 : (op == 1) = false := beq_no (by omega)
    have q2 : (op == 2) = false := beq_no (by omega)
    have q3 : (op == 3) = false := beq_no (by omega)
    have q4 : (op == 4) = false := beq_no (by omega)
    have q5 : (op == 5) = false := beq_no (by omega)
    have q6 : (op == 6) = false := beq_no (by omega)
    have q7 : (op == 7) = false := beq_no (by omega)
    have q8 : (op == 8) = false := beq_no (by omega)
    have q9 : (op == 9) = false := beq_no (by omega)
    have q10 : (op == 10) = false := beq_no (by omega)
    have q11 : (op == 11) = false := beq_no (by omega)
    have q12 : (op == 12) = false := beq_no (by omega)
    have q13 : (op == 13) = false := beq_no (by omega)
    have q14 : (op == 14) = false := beq_no (by omega)
    have q15 : (op == 15) = false := beq_no (by omega)
    have q16 : (op == 16) = false := beq_no (by omega)
    have q17 : (op == 17) = false := beq_no (by omega)
    have q18 : (op == 18) = false := beq_no (by omega)
    have q19 : (op == 19) = false := beq_no (by omega)
    rw [rwOf_no h]
    clear h
    go_enter Tryd.func49, Tryd.ntmps49
    go_wp2_with fail
    go_ret
    exact ⟨rfl, rfl⟩
set_option maxHeartbeats 4000000 in
theorem rwrites_any (x : Is) (w : World) : Calls Tryd.prog 17 #[x.val] w fun e w' => e = .returned (.int .i64 (wrN x)) ∧ Below w.heap.size w w' := by
  have hb := fun (o1 : Obj) => (Below.one (Below.refl _ w) o1 : Below w.heap.size w _)
  obtain ⟨xop, xa, xb, xc, xn⟩ := x
  unfold Is.val wrN
  by_cases h : 0 ≤ xop ∧ xop ≤ 19
  · refine op_cases (P := fun xop => Calls Tryd.prog 17 #[.agg #[.int .i64 xop, .int .i64 xa, .int .i64 xb, .int .i64 xc, .int .i64 xn]] w fun e w' => e = .returned (.int .i64 (if (rwOf xop).writes = true then xa else -1)) ∧ Below w.heap.size w w') h.1 h.2 ?_ ?_ ?_ ?_ ?_ ?_ ?_ ?_ ?_ ?_ ?_ ?_ ?_ ?_ ?_ ?_ ?_ ?_ ?_ ?_
    all_goals
      clear h
      go_enter Tryd.func17, Tryd.ntmps17
      go_wp2_with fail
      go_ret
      exact ⟨ret_int (by kernel_rfl), hb _⟩
  · 
    have q0 : (xop == 0) = false := beq_no (by omega)
    have q1 : (xop == 1) = false := beq_no (by omega)
    have q2 : (xop == 2) = false := beq_no (by omega)
    have q3 : (xop == 3) = false := beq_no (by omega)
    have q4 : (xop == 4) = false := beq_no (by omega)
    have q5 : (xop == 5) = false := beq_no (by omega)
    have q6 : (xop == 6) = false := beq_no (by omega)
    have q7 : (xop == 7) = false := beq_no (by omega)
    have q8 : (xop == 8) = false := beq_no (by omega)
    have q9 : (xop == 9) = false := beq_no (by omega)
    have q10 : (xop == 10) = false := beq_no (by omega)
    have q11 : (xop == 11) = false := beq_no (by omega)
    have q12 : (xop == 12) = false := beq_no (by omega)
    have q13 : (xop == 13) = false := beq_no (by omega)
    have q14 : (xop == 14) = false := beq_no (by omega)
    have q15 : (xop == 15) = false := beq_no (by omega)
    have q16 : (xop == 16) = false := beq_no (by omega)
    have q17 : (xop == 17) = false := beq_no (by omega)
    have q18 : (xop == 18) = false := beq_no (by omega)
    have q19 : (xop == 19) = false := beq_no (by omega)
    rw [rwOf_no h]
    clear h
    go_enter Tryd.func17, Tryd.ntmps17
    go_wp2_with fail
    go_ret
    exact ⟨rfl, hb _⟩
set_option maxHeartbeats 1000000 in
theorem register_any (has : Bool) (r regs : Int) (w : World) : Calls Tryd.prog 48 #[.bool has, .int .i64 r, .int .i64 regs] w fun e w' => e = .returned (.int .i64 (regZ has r regs)) ∧ w' = w := by
  cases has
  · by_cases h : r = 0
    · subst h
      rw [show regZ false 0 regs = 0 from rfl]
      go_enter Tryd.func48, Tryd.ntmps48
      go_wp2_with fail
      go_ret
      exact ⟨rfl, rfl⟩
    · rw [show regZ false r regs = 62 by simp [regZ, h]]
      have h1 := bne_of h
      go_enter Tryd.func48, Tryd.ntmps48
      go_wp2_with fail
      go_ret
      exact ⟨rfl, rfl⟩
  · by_cases h1 : r < 0
    · rw [show regZ true r regs = 61 by simp [regZ, h1]]
      go_enter Tryd.func48, Tryd.ntmps48
      go_wp2_with fail
      go_ret
      exact ⟨rfl, rfl⟩
    · by_cases h2 : regs ≤ r
      · rw [show regZ true r regs = 61 by simp [regZ, h2]]
        go_enter Tryd.func48, Tryd.ntmps48
        go_wp2_with fail
        go_ret
        exact ⟨rfl, rfl⟩
      · rw [show regZ true r regs = 0 by simp [regZ, h1, h2]]
        go_enter Tryd.func48, Tryd.ntmps48
        go_wp2_with fail
        go_ret
        exact ⟨rfl, rfl⟩
end Go.Proofs.YtlkoigdnakmdlaaDoor

/- The document's own Reads: operations but call. -/
namespace Go.Proofs.YtlkoigdnakmdlaaDoor
open Go.RowKit Go.Sort

def iV (x : Int) : Value := .int .i64 x
/-- What the document's own Reads answers: a list of its own. -/
def RdP (xop xa xb xc xn p : Int) (w : World) (L : List Int) : Prop := Calls Tryd.prog 30 #[.agg #[.int .i64 xop, .int .i64 xa, .int .i64 xb, .int .i64 xc, .int .i64 xn], .int .i64 p] w fun e w' => ∃ v, e = .returned v ∧ w'.ownsRow w.heap.size 3 1 v L.length (L.map iV) ∧ Below w.heap.size w w'
theorem news_1 (w : World) (a : Int) : ∀ j u, ([.int .i64 a] : List Value)[j]? = some u → (w.alloc (.cells #[.int .i64 a] 3)).cell? ((⟨w.heap.size, 0, none⟩ : Addr).add j) = some u := fun j u hu => by
  rw [Addr.add_lit, Nat.zero_add]
  exact new_cell _ _ _ _ _ (by rw [← hu, ← Array.getElem?_toList])
theorem news_2 (w : World) (a b : Int) : ∀ j u, ([.int .i64 a, .int .i64 b] : List Value)[j]? = some u → (w.alloc (.cells #[.int .i64 a, .int .i64 b] 3)).cell? ((⟨w.heap.size, 0, none⟩ : Addr).add j) = some u := fun j u hu => by
  rw [Addr.add_lit, Nat.zero_add]
  exact new_cell _ _ _ _ _ (by rw [← hu, ← Array.getElem?_toList])
set_option maxHeartbeats 1000000 in
theorem rreads_0 (xa xb xc xn p : Int) (w : World) : RdP 0 xa xb xc xn p w [xa] := by
  unfold RdP
  obtain ⟨i0, hi, hz0, hz1, hz2⟩ := info_parts Tryd.infoN
  have HI0 := Hid.mk' hi
  clear hi
  have hb2 := Below.one (Below.one (Below.refl _ w) (.cells #[.int .i64 0, .int .i64 xa, .int .i64 xb, .int .i64 xc, .int .i64 xn] 27)) (.cells #[] 3)
  have HO := Hid.mk' (own_mono (N' := w.heap.size) (row_new (w.alloc (.cells #[.int .i64 0, .int .i64 xa, .int .i64 xb, .int .i64 xc, .int .i64 xn] 27)) 3 1) (by simp))
  rw [World.size_alloc] at HO
  have HN := Hid.mk' (news_1 ((w.alloc (.cells #[.int .i64 0, .int .i64 xa, .int .i64 xb, .int .i64 xc, .int .i64 xn] 27)).alloc (.cells #[] 3)) xa)
  rw [World.size_alloc, World.size_alloc] at HN
  have HS := Hid.mk' (Below.one hb2 (.cells #[.int .i64 xa] 3)).size
  go_enter Tryd.func30, Tryd.ntmps30
  go_wp2_with (at_builtin; refine wpList_append_own _ rfl _ _ 56 rfl w.heap.size 3 i0 (.int .i64 0) 1 8 Tryd.underlying56 HI0.out hz0 hz1 hz2 rfl (by decide) _ 0 [] rfl (HO.out.alloc _) ⟨w.heap.size + 1 + 1, 0, none⟩ 1 1 [.int .i64 xa] rfl rfl HN.out (by simp [Value.oneCell']) (by unfold maxLen; omega) (by omega) HS.out ?_; intro v1 w1 own1 grow1 _; have hb3 : Below w.heap.size w w1 := (Below.one hb2 _).grown grow1 HS.out (fun k e => by have : k = w.heap.size + 1 := (by injection e with e; exact e.symm); omega))
  go_ret
  exact ⟨_, rfl, own1, hb3⟩
set_option maxHeartbeats 1000000 in
theorem rreads_1 (xa xb xc xn p : Int) (w : World) : RdP 1 xa xb xc xn p w [] := by
  unfold RdP
  obtain ⟨i0, hi, hz0, hz1, hz2⟩ := info_parts Tryd.infoN
  have HI0 := Hid.mk' hi
  clear hi
  have hb2 := Below.one (Below.one (Below.refl _ w) (.cells #[.int .i64 1, .int .i64 xa, .int .i64 xb, .int .i64 xc, .int .i64 xn] 27)) (.cells #[] 3)
  have HO := Hid.mk' (own_mono (N' := w.heap.size) (row_new (w.alloc (.cells #[.int .i64 1, .int .i64 xa, .int .i64 xb, .int .i64 xc, .int .i64 xn] 27)) 3 1) (by simp))
  rw [World.size_alloc] at HO
  go_enter Tryd.func30, Tryd.ntmps30
  go_wp2_with fail
  go_ret
  exact ⟨_, rfl, HO.out, hb2⟩
set_option maxHeartbeats 1000000 in
theorem rreads_2 (xa xb xc xn p : Int) (w : World) : RdP 2 xa xb xc xn p w [xb] := by
  unfold RdP
  obtain ⟨i0, hi, hz0, hz1, hz2⟩ := info_parts Tryd.infoN
  have HI0 := Hid.mk' hi
  clear hi
  have hb2 := Below.one (Below.one (Below.refl _ w) (.cells #[.int .i64 2, .int .i64 xa, .int .i64 xb, .int .i64 xc, .int .i64 xn] 27)) (.cells #[] 3)
  have HO := Hid.mk' (own_mono (N' := w.heap.size) (row_new (w.alloc (.cells #[.int .i64 2, .int .i64 xa, .int .i64 xb, .int .i64 xc, .int .i64 xn] 27)) 3 1) (by simp))
  rw [World.size_alloc] at HO
  have HN := Hid.mk' (news_1 ((w.alloc (.cells #[.int .i64 2, .int .i64 xa, .int .i64 xb, .int .i64 xc, .int .i64 xn] 27)).alloc (.cells #[] 3)) xb)
  rw [World.size_alloc, World.size_alloc] at HN
  have HS := Hid.mk' (Below.one hb2 (.cells #[.int .i64 xb] 3)).size
  go_enter Tryd.func30, Tryd.ntmps30
  go_wp2_with (at_builtin; refine wpList_append_own _ rfl _ _ 56 rfl w.heap.size 3 i0 (.int .i64 0) 1 8 Tryd.underlying56 HI0.out hz0 hz1 hz2 rfl (by decide) _ 0 [] rfl (HO.out.alloc _) ⟨w.heap.size + 1 + 1, 0, none⟩ 1 1 [.int .i64 xb] rfl rfl HN.out (by simp [Value.oneCell']) (by unfold maxLen; omega) (by omega) HS.out ?_; intro v1 w1 own1 grow1 _; have hb3 : Below w.heap.size w w1 := (Below.one hb2 _).grown grow1 HS.out (fun k e => by have : k = w.heap.size + 1 := (by injection e with e; exact e.symm); omega))
  go_ret
  exact ⟨_, rfl, own1, hb3⟩
set_option maxHeartbeats 1000000 in
theorem rreads_3 (xa xb xc xn p : Int) (w : World) : RdP 3 xa xb xc xn p w [xb, xc] := by
  unfold RdP
  obtain ⟨i0, hi, hz0, hz1, hz2⟩ := info_parts Tryd.infoN
  have HI0 := Hid.mk' hi
  clear hi
  have hb2 := Below.one (Below.one (Below.refl _ w) (.cells #[.int .i64 3, .int .i64 xa, .int .i64 xb, .int .i64 xc, .int .i64 xn] 27)) (.cells #[] 3)
  have HO := Hid.mk' (own_mono (N' := w.heap.size) (row_new (w.alloc (.cells #[.int .i64 3, .int .i64 xa, .int .i64 xb, .int .i64 xc, .int .i64 xn] 27)) 3 1) (by simp))
  rw [World.size_alloc] at HO
  have HN := Hid.mk' (news_2 ((w.alloc (.cells #[.int .i64 3, .int .i64 xa, .int .i64 xb, .int .i64 xc, .int .i64 xn] 27)).alloc (.cells #[] 3)) xb xc)
  rw [World.size_alloc, World.size_alloc] at HN
  have HS := Hid.mk' (Below.one hb2 (.cells #[.int .i64 xb, .int .i64 xc] 3)).size
  go_enter Tryd.func30, Tryd.ntmps30
  go_wp2_with (at_builtin; refine wpList_append_own _ rfl _ _ 56 rfl w.heap.size 3 i0 (.int .i64 0) 1 8 Tryd.underlying56 HI0.out hz0 hz1 hz2 rfl (by decide) _ 0 [] rfl (HO.out.alloc _) ⟨w.heap.size + 1 + 1, 0, none⟩ 2 2 [.int .i64 xb, .int .i64 xc] rfl rfl HN.out (by simp [Value.oneCell']) (by unfold maxLen; omega) (by omega) HS.out ?_; intro v1 w1 own1 grow1 _; have hb3 : Below w.heap.size w w1 := (Below.one hb2 _).grown grow1 HS.out (fun k e => by have : k = w.heap.size + 1 := (by injection e with e; exact e.symm); omega))
  go_ret
  exact ⟨_, rfl, own1, hb3⟩
set_option maxHeartbeats 1000000 in
theorem rreads_4 (xa xb xc xn p : Int) (w : World) : RdP 4 xa xb xc xn p w [xb, xc] := by
  unfold RdP
  obtain ⟨i0, hi, hz0, hz1, hz2⟩ := info_parts Tryd.infoN
  have HI0 := Hid.mk' hi
  clear hi
  have hb2 := Below.one (Below.one (Below.refl _ w) (.cells #[.int .i64 4, .int .i64 xa, .int .i64 xb, .int .i64 xc, .int .i64 xn] 27)) (.cells #[] 3)
  have HO := Hid.mk' (own_mono (N' := w.heap.size) (row_new (w.alloc (.cells #[.int .i64 4, .int .i64 xa, .int .i64 xb, .int .i64 xc, .int .i64 xn] 27)) 3 1) (by simp))
  rw [World.size_alloc] at HO
  have HN := Hid.mk' (news_2 ((w.alloc (.cells #[.int .i64 4, .int .i64 xa, .int .i64 xb, .int .i64 xc, .int .i64 xn] 27)).alloc (.cells #[] 3)) xb xc)
  rw [World.size_alloc, World.size_alloc] at HN
  have HS := Hid.mk' (Below.one hb2 (.cells #[.int .i64 xb, .int .i64 xc] 3)).size
  go_enter Tryd.func30, Tryd.ntmps30
  go_wp2_with (at_builtin; refine wpList_append_own _ rfl _ _ 56 rfl w.heap.size 3 i0 (.int .i64 0) 1 8 Tryd.underlying56 HI0.out hz0 hz1 hz2 rfl (by decide) _ 0 [] rfl (HO.out.alloc _) ⟨w.heap.size + 1 + 1, 0, none⟩ 2 2 [.int .i64 xb, .int .i64 xc] rfl rfl HN.out (by simp [Value.oneCell']) (by unfold maxLen; omega) (by omega) HS.out ?_; intro v1 w1 own1 grow1 _; have hb3 : Below w.heap.size w w1 := (Below.one hb2 _).grown grow1 HS.out (fun k e => by have : k = w.heap.size + 1 := (by injection e with e; exact e.symm); omega))
  go_ret
  exact ⟨_, rfl, own1, hb3⟩
set_option maxHeartbeats 1000000 in
theorem rreads_5 (xa xb xc xn p : Int) (w : World) : RdP 5 xa xb xc xn p w [xb, xc] := by
  unfold RdP
  obtain ⟨i0, hi, hz0, hz1, hz2⟩ := info_parts Tryd.infoN
  have HI0 := Hid.mk' hi
  clear hi
  have hb2 := Below.one (Below.one (Below.refl _ w) (.cells #[.int .i64 5, .int .i64 xa, .int .i64 xb, .int .i64 xc, .int .i64 xn] 27)) (.cells #[] 3)
  have HO := Hid.mk' (own_mono (N' := w.heap.size) (row_new (w.alloc (.cells #[.int .i64 5, .int .i64 xa, .int .i64 xb, .int .i64 xc, .int .i64 xn] 27)) 3 1) (by simp))
  rw [World.size_alloc] at HO
  have HN := Hid.mk' (news_2 ((w.alloc (.cells #[.int .i64 5, .int .i64 xa, .int .i64 xb, .int .i64 xc, .int .i64 xn] 27)).alloc (.cells #[] 3)) xb xc)
  rw [World.size_alloc, World.size_alloc] at HN
  have HS := Hid.mk' (Below.one hb2 (.cells #[.int .i64 xb, .int .i64 xc] 3)).size
  go_enter Tryd.func30, Tryd.ntmps30
  go_wp2_with (at_builtin; refine wpList_append_own _ rfl _ _ 56 rfl w.heap.size 3 i0 (.int .i64 0) 1 8 Tryd.underlying56 HI0.out hz0 hz1 hz2 rfl (by decide) _ 0 [] rfl (HO.out.alloc _) ⟨w.heap.size + 1 + 1, 0, none⟩ 2 2 [.int .i64 xb, .int .i64 xc] rfl rfl HN.out (by simp [Value.oneCell']) (by unfold maxLen; omega) (by omega) HS.out ?_; intro v1 w1 own1 grow1 _; have hb3 : Below w.heap.size w w1 := (Below.one hb2 _).grown grow1 HS.out (fun k e => by have : k = w.heap.size + 1 := (by injection e with e; exact e.symm); omega))
  go_ret
  exact ⟨_, rfl, own1, hb3⟩
set_option maxHeartbeats 1000000 in
theorem rreads_6 (xa xb xc xn p : Int) (w : World) : RdP 6 xa xb xc xn p w [xb, xc] := by
  unfold RdP
  obtain ⟨i0, hi, hz0, hz1, hz2⟩ := info_parts Tryd.infoN
  have HI0 := Hid.mk' hi
  clear hi
  have hb2 := Below.one (Below.one (Below.refl _ w) (.cells #[.int .i64 6, .int .i64 xa, .int .i64 xb, .int .i64 xc, .int .i64 xn] 27)) (.cells #[] 3)
  have HO := Hid.mk' (own_mono (N' := w.heap.size) (row_new (w.alloc (.cells #[.int .i64 6, .int .i64 xa, .int .i64 xb, .int .i64 xc, .int .i64 xn] 27)) 3 1) (by simp))
  rw [World.size_alloc] at HO
  have HN := Hid.mk' (news_2 ((w.alloc (.cells #[.int .i64 6, .int .i64 xa, .int .i64 xb, .int .i64 xc, .int .i64 xn] 27)).alloc (.cells #[] 3)) xb xc)
  rw [World.size_alloc, World.size_alloc] at HN
  have HS := Hid.mk' (Below.one hb2 (.cells #[.int .i64 xb, .int .i64 xc] 3)).size
  go_enter Tryd.func30, Tryd.ntmps30
  go_wp2_with (at_builtin; refine wpList_append_own _ rfl _ _ 56 rfl w.heap.size 3 i0 (.int .i64 0) 1 8 Tryd.underlying56 HI0.out hz0 hz1 hz2 rfl (by decide) _ 0 [] rfl (HO.out.alloc _) ⟨w.heap.size + 1 + 1, 0, none⟩ 2 2 [.int .i64 xb, .int .i64 xc] rfl rfl HN.out (by simp [Value.oneCell']) (by unfold maxLen; omega) (by omega) HS.out ?_; intro v1 w1 own1 grow1 _; have hb3 : Below w.heap.size w w1 := (Below.one hb2 _).grown grow1 HS.out (fun k e => by have : k = w.heap.size + 1 := (by injection e with e; exact e.symm); omega))
  go_ret
  exact ⟨_, rfl, own1, hb3⟩
set_option maxHeartbeats 1000000 in
theorem rreads_7 (xa xb xc xn p : Int) (w : World) : RdP 7 xa xb xc xn p w [xb, xc] := by
  unfold RdP
  obtain ⟨i0, hi, hz0, hz1, hz2⟩ := info_parts Tryd.infoN
  have HI0 := Hid.mk' hi
  clear hi
  have hb2 := Below.one (Below.one (Below.refl _ w) (.cells #[.int .i64 7, .int .i64 xa, .int .i64 xb, .int .i64 xc, .int .i64 xn] 27)) (.cells #[] 3)
  have HO := Hid.mk' (own_mono (N' := w.heap.size) (row_new (w.alloc (.cells #[.int .i64 7, .int .i64 xa, .int .i64 xb, .int .i64 xc, .int .i64 xn] 27)) 3 1) (by simp))
  rw [World.size_alloc] at HO
  have HN := Hid.mk' (news_2 ((w.alloc (.cells #[.int .i64 7, .int .i64 xa, .int .i64 xb, .int .i64 xc, .int .i64 xn] 27)).alloc (.cells #[] 3)) xb xc)
  rw [World.size_alloc, World.size_alloc] at HN
  have HS := Hid.mk' (Below.one hb2 (.cells #[.int .i64 xb, .int .i64 xc] 3)).size
  go_enter Tryd.func30, Tryd.ntmps30
  go_wp2_with (at_builtin; refine wpList_append_own _ rfl _ _ 56 rfl w.heap.size 3 i0 (.int .i64 0) 1 8 Tryd.underlying56 HI0.out hz0 hz1 hz2 rfl (by decide) _ 0 [] rfl (HO.out.alloc _) ⟨w.heap.size + 1 + 1, 0, none⟩ 2 2 [.int .i64 xb, .int .i64 xc] rfl rfl HN.out (by simp [Value.oneCell']) (by unfold maxLen; omega) (by omega) HS.out ?_; intro v1 w1 own1 grow1 _; have hb3 : Below w.heap.size w w1 := (Below.one hb2 _).grown grow1 HS.out (fun k e => by have : k = w.heap.size + 1 := (by injection e with e; exact e.symm); omega))
  go_ret
  exact ⟨_, rfl, own1, hb3⟩
set_option maxHeartbeats 1000000 in
theorem rreads_8 (xa xb xc xn p : Int) (w : World) : RdP 8 xa xb xc xn p w [xb, xc] := by
  unfold RdP
  obtain ⟨i0, hi, hz0, hz1, hz2⟩ := info_parts Tryd.infoN
  have HI0 := Hid.mk' hi
  clear hi
  have hb2 := Below.one (Below.one (Below.refl _ w) (.cells #[.int .i64 8, .int .i64 xa, .int .i64 xb, .int .i64 xc, .int .i64 xn] 27)) (.cells #[] 3)
  have HO := Hid.mk' (own_mono (N' := w.heap.size) (row_new (w.alloc (.cells #[.int .i64 8, .int .i64 xa, .int .i64 xb, .int .i64 xc, .int .i64 xn] 27)) 3 1) (by simp))
  rw [World.size_alloc] at HO
  have HN := Hid.mk' (news_2 ((w.alloc (.cells #[.int .i64 8, .int .i64 xa, .int .i64 xb, .int .i64 xc, .int .i64 xn] 27)).alloc (.cells #[] 3)) xb xc)
  rw [World.size_alloc, World.size_alloc] at HN
  have HS := Hid.mk' (Below.one hb2 (.cells #[.int .i64 xb, .int .i64 xc] 3)).size
  go_enter Tryd.func30, Tryd.ntmps30
  go_wp2_with (at_builtin; refine wpList_append_own _ rfl _ _ 56 rfl w.heap.size 3 i0 (.int .i64 0) 1 8 Tryd.underlying56 HI0.out hz0 hz1 hz2 rfl (by decide) _ 0 [] rfl (HO.out.alloc _) ⟨w.heap.size + 1 + 1, 0, none⟩ 2 2 [.int .i64 xb, .int .i64 xc] rfl rfl HN.out (by simp [Value.oneCell']) (by unfold maxLen; omega) (by omega) HS.out ?_; intro v1 w1 own1 grow1 _; have hb3 : Below w.heap.size w w1 := (Below.one hb2 _).grown grow1 HS.out (fun k e => by have : k = w.heap.size + 1 := (by injection e with e; exact e.symm); omega))
  go_ret
  exact ⟨_, rfl, own1, hb3⟩
set_option maxHeartbeats 1000000 in
theorem rreads_9 (xa xb xc xn p : Int) (w : World) : RdP 9 xa xb xc xn p w [xb, xc] := by
  unfold RdP
  obtain ⟨i0, hi, hz0, hz1, hz2⟩ := info_parts Tryd.infoN
  have HI0 := Hid.mk' hi
  clear hi
  have hb2 := Below.one (Below.one (Below.refl _ w) (.cells #[.int .i64 9, .int .i64 xa, .int .i64 xb, .int .i64 xc, .int .i64 xn] 27)) (.cells #[] 3)
  have HO := Hid.mk' (own_mono (N' := w.heap.size) (row_new (w.alloc (.cells #[.int .i64 9, .int .i64 xa, .int .i64 xb, .int .i64 xc, .int .i64 xn] 27)) 3 1) (by simp))
  rw [World.size_alloc] at HO
  have HN := Hid.mk' (news_2 ((w.alloc (.cells #[.int .i64 9, .int .i64 xa, .int .i64 xb, .int .i64 xc, .int .i64 xn] 27)).alloc (.cells #[] 3)) xb xc)
  rw [World.size_alloc, World.size_alloc] at HN
  have HS := Hid.mk' (Below.one hb2 (.cells #[.int .i64 xb, .int .i64 xc] 3)).size
  go_enter Tryd.func30, Tryd.ntmps30
  go_wp2_with (at_builtin; refine wpList_append_own _ rfl _ _ 56 rfl w.heap.size 3 i0 (.int .i64 0) 1 8 Tryd.underlying56 HI0.out hz0 hz1 hz2 rfl (by decide) _ 0 [] rfl (HO.out.alloc _) ⟨w.heap.size + 1 + 1, 0, none⟩ 2 2 [.int .i64 xb, .int .i64 xc] rfl rfl HN.out (by simp [Value.oneCell']) (by unfold maxLen; omega) (by omega) HS.out ?_; intro v1 w1 own1 grow1 _; have hb3 : Below w.heap.size w w1 := (Below.one hb2 _).grown grow1 HS.out (fun k e => by have : k = w.heap.size + 1 := (by injection e with e; exact e.symm); omega))
  go_ret
  exact ⟨_, rfl, own1, hb3⟩
set_option maxHeartbeats 1000000 in
theorem rreads_10 (xa xb xc xn p : Int) (w : World) : RdP 10 xa xb xc xn p w [xb] := by
  unfold RdP
  obtain ⟨i0, hi, hz0, hz1, hz2⟩ := info_parts Tryd.infoN
  have HI0 := Hid.mk' hi
  clear hi
  have hb2 := Below.one (Below.one (Below.refl _ w) (.cells #[.int .i64 10, .int .i64 xa, .int .i64 xb, .int .i64 xc, .int .i64 xn] 27)) (.cells #[] 3)
  have HO := Hid.mk' (own_mono (N' := w.heap.size) (row_new (w.alloc (.cells #[.int .i64 10, .int .i64 xa, .int .i64 xb, .int .i64 xc, .int .i64 xn] 27)) 3 1) (by simp))
  rw [World.size_alloc] at HO
  have HN := Hid.mk' (news_1 ((w.alloc (.cells #[.int .i64 10, .int .i64 xa, .int .i64 xb, .int .i64 xc, .int .i64 xn] 27)).alloc (.cells #[] 3)) xb)
  rw [World.size_alloc, World.size_alloc] at HN
  have HS := Hid.mk' (Below.one hb2 (.cells #[.int .i64 xb] 3)).size
  go_enter Tryd.func30, Tryd.ntmps30
  go_wp2_with (at_builtin; refine wpList_append_own _ rfl _ _ 56 rfl w.heap.size 3 i0 (.int .i64 0) 1 8 Tryd.underlying56 HI0.out hz0 hz1 hz2 rfl (by decide) _ 0 [] rfl (HO.out.alloc _) ⟨w.heap.size + 1 + 1, 0, none⟩ 1 1 [.int .i64 xb] rfl rfl HN.out (by simp [Value.oneCell']) (by unfold maxLen; omega) (by omega) HS.out ?_; intro v1 w1 own1 grow1 _; have hb3 : Below w.heap.size w w1 := (Below.one hb2 _).grown grow1 HS.out (fun k e => by have : k = w.heap.size + 1 := (by injection e with e; exact e.symm); omega))
  go_ret
  exact ⟨_, rfl, own1, hb3⟩
set_option maxHeartbeats 1000000 in
theorem rreads_11 (xa xb xc xn p : Int) (w : World) : RdP 11 xa xb xc xn p w [xb] := by
  unfold RdP
  obtain ⟨i0, hi, hz0, hz1, hz2⟩ := info_parts Tryd.infoN
  have HI0 := Hid.mk' hi
  clear hi
  have hb2 := Below.one (Below.one (Below.refl _ w) (.cells #[.int .i64 11, .int .i64 xa, .int .i64 xb, .int .i64 xc, .int .i64 xn] 27)) (.cells #[] 3)
  have HO := Hid.mk' (own_mono (N' := w.heap.size) (row_new (w.alloc (.cells #[.int .i64 11, .int .i64 xa, .int .i64 xb, .int .i64 xc, .int .i64 xn] 27)) 3 1) (by simp))
  rw [World.size_alloc] at HO
  have HN := Hid.mk' (news_1 ((w.alloc (.cells #[.int .i64 11, .int .i64 xa, .int .i64 xb, .int .i64 xc, .int .i64 xn] 27)).alloc (.cells #[] 3)) xb)
  rw [World.size_alloc, World.size_alloc] at HN
  have HS := Hid.mk' (Below.one hb2 (.cells #[.int .i64 xb] 3)).size
  go_enter Tryd.func30, Tryd.ntmps30
  go_wp2_with (at_builtin; refine wpList_append_own _ rfl _ _ 56 rfl w.heap.size 3 i0 (.int .i64 0) 1 8 Tryd.underlying56 HI0.out hz0 hz1 hz2 rfl (by decide) _ 0 [] rfl (HO.out.alloc _) ⟨w.heap.size + 1 + 1, 0, none⟩ 1 1 [.int .i64 xb] rfl rfl HN.out (by simp [Value.oneCell']) (by unfold maxLen; omega) (by omega) HS.out ?_; intro v1 w1 own1 grow1 _; have hb3 : Below w.heap.size w w1 := (Below.one hb2 _).grown grow1 HS.out (fun k e => by have : k = w.heap.size + 1 := (by injection e with e; exact e.symm); omega))
  go_ret
  exact ⟨_, rfl, own1, hb3⟩
set_option maxHeartbeats 1000000 in
theorem rreads_12 (xa xb xc xn p : Int) (w : World) : RdP 12 xa xb xc xn p w [xa, xb] := by
  unfold RdP
  obtain ⟨i0, hi, hz0, hz1, hz2⟩ := info_parts Tryd.infoN
  have HI0 := Hid.mk' hi
  clear hi
  have hb2 := Below.one (Below.one (Below.refl _ w) (.cells #[.int .i64 12, .int .i64 xa, .int .i64 xb, .int .i64 xc, .int .i64 xn] 27)) (.cells #[] 3)
  have HO := Hid.mk' (own_mono (N' := w.heap.size) (row_new (w.alloc (.cells #[.int .i64 12, .int .i64 xa, .int .i64 xb, .int .i64 xc, .int .i64 xn] 27)) 3 1) (by simp))
  rw [World.size_alloc] at HO
  have HN := Hid.mk' (news_2 ((w.alloc (.cells #[.int .i64 12, .int .i64 xa, .int .i64 xb, .int .i64 xc, .int .i64 xn] 27)).alloc (.cells #[] 3)) xa xb)
  rw [World.size_alloc, World.size_alloc] at HN
  have HS := Hid.mk' (Below.one hb2 (.cells #[.int .i64 xa, .int .i64 xb] 3)).size
  go_enter Tryd.func30, Tryd.ntmps30
  go_wp2_with (at_builtin; refine wpList_append_own _ rfl _ _ 56 rfl w.heap.size 3 i0 (.int .i64 0) 1 8 Tryd.underlying56 HI0.out hz0 hz1 hz2 rfl (by decide) _ 0 [] rfl (HO.out.alloc _) ⟨w.heap.size + 1 + 1, 0, none⟩ 2 2 [.int .i64 xa, .int .i64 xb] rfl rfl HN.out (by simp [Value.oneCell']) (by unfold maxLen; omega) (by omega) HS.out ?_; intro v1 w1 own1 grow1 _; have hb3 : Below w.heap.size w w1 := (Below.one hb2 _).grown grow1 HS.out (fun k e => by have : k = w.heap.size + 1 := (by injection e with e; exact e.symm); omega))
  go_ret
  exact ⟨_, rfl, own1, hb3⟩
set_option maxHeartbeats 1000000 in
theorem rreads_13 (xa xb xc xn p : Int) (w : World) : RdP 13 xa xb xc xn p w [xa] := by
  unfold RdP
  obtain ⟨i0, hi, hz0, hz1, hz2⟩ := info_parts Tryd.infoN
  have HI0 := Hid.mk' hi
  clear hi
  have hb2 := Below.one (Below.one (Below.refl _ w) (.cells #[.int .i64 13, .int .i64 xa, .int .i64 xb, .int .i64 xc, .int .i64 xn] 27)) (.cells #[] 3)
  have HO := Hid.mk' (own_mono (N' := w.heap.size) (row_new (w.alloc (.cells #[.int .i64 13, .int .i64 xa, .int .i64 xb, .int .i64 xc, .int .i64 xn] 27)) 3 1) (by simp))
  rw [World.size_alloc] at HO
  have HN := Hid.mk' (news_1 ((w.alloc (.cells #[.int .i64 13, .int .i64 xa, .int .i64 xb, .int .i64 xc, .int .i64 xn] 27)).alloc (.cells #[] 3)) xa)
  rw [World.size_alloc, World.size_alloc] at HN
  have HS := Hid.mk' (Below.one hb2 (.cells #[.int .i64 xa] 3)).size
  go_enter Tryd.func30, Tryd.ntmps30
  go_wp2_with (at_builtin; refine wpList_append_own _ rfl _ _ 56 rfl w.heap.size 3 i0 (.int .i64 0) 1 8 Tryd.underlying56 HI0.out hz0 hz1 hz2 rfl (by decide) _ 0 [] rfl (HO.out.alloc _) ⟨w.heap.size + 1 + 1, 0, none⟩ 1 1 [.int .i64 xa] rfl rfl HN.out (by simp [Value.oneCell']) (by unfold maxLen; omega) (by omega) HS.out ?_; intro v1 w1 own1 grow1 _; have hb3 : Below w.heap.size w w1 := (Below.one hb2 _).grown grow1 HS.out (fun k e => by have : k = w.heap.size + 1 := (by injection e with e; exact e.symm); omega))
  go_ret
  exact ⟨_, rfl, own1, hb3⟩
set_option maxHeartbeats 1000000 in
theorem rreads_14 (xa xb xc xn p : Int) (w : World) : RdP 14 xa xb xc xn p w [] := by
  unfold RdP
  obtain ⟨i0, hi, hz0, hz1, hz2⟩ := info_parts Tryd.infoN
  have HI0 := Hid.mk' hi
  clear hi
  have hb2 := Below.one (Below.one (Below.refl _ w) (.cells #[.int .i64 14, .int .i64 xa, .int .i64 xb, .int .i64 xc, .int .i64 xn] 27)) (.cells #[] 3)
  have HO := Hid.mk' (own_mono (N' := w.heap.size) (row_new (w.alloc (.cells #[.int .i64 14, .int .i64 xa, .int .i64 xb, .int .i64 xc, .int .i64 xn] 27)) 3 1) (by simp))
  rw [World.size_alloc] at HO
  go_enter Tryd.func30, Tryd.ntmps30
  go_wp2_with fail
  go_ret
  exact ⟨_, rfl, HO.out, hb2⟩
set_option maxHeartbeats 1000000 in
theorem rreads_15 (xa xb xc xn p : Int) (w : World) : RdP 15 xa xb xc xn p w [xa] := by
  unfold RdP
  obtain ⟨i0, hi, hz0, hz1, hz2⟩ := info_parts Tryd.infoN
  have HI0 := Hid.mk' hi
  clear hi
  have hb2 := Below.one (Below.one (Below.refl _ w) (.cells #[.int .i64 15, .int .i64 xa, .int .i64 xb, .int .i64 xc, .int .i64 xn] 27)) (.cells #[] 3)
  have HO := Hid.mk' (own_mono (N' := w.heap.size) (row_new (w.alloc (.cells #[.int .i64 15, .int .i64 xa, .int .i64 xb, .int .i64 xc, .int .i64 xn] 27)) 3 1) (by simp))
  rw [World.size_alloc] at HO
  have HN := Hid.mk' (news_1 ((w.alloc (.cells #[.int .i64 15, .int .i64 xa, .int .i64 xb, .int .i64 xc, .int .i64 xn] 27)).alloc (.cells #[] 3)) xa)
  rw [World.size_alloc, World.size_alloc] at HN
  have HS := Hid.mk' (Below.one hb2 (.cells #[.int .i64 xa] 3)).size
  go_enter Tryd.func30, Tryd.ntmps30
  go_wp2_with (at_builtin; refine wpList_append_own _ rfl _ _ 56 rfl w.heap.size 3 i0 (.int .i64 0) 1 8 Tryd.underlying56 HI0.out hz0 hz1 hz2 rfl (by decide) _ 0 [] rfl (HO.out.alloc _) ⟨w.heap.size + 1 + 1, 0, none⟩ 1 1 [.int .i64 xa] rfl rfl HN.out (by simp [Value.oneCell']) (by unfold maxLen; omega) (by omega) HS.out ?_; intro v1 w1 own1 grow1 _; have hb3 : Below w.heap.size w w1 := (Below.one hb2 _).grown grow1 HS.out (fun k e => by have : k = w.heap.size + 1 := (by injection e with e; exact e.symm); omega))
  go_ret
  exact ⟨_, rfl, own1, hb3⟩
set_option maxHeartbeats 1000000 in
theorem rreads_16 (xa xb xc xn p : Int) (w : World) : RdP 16 xa xb xc xn p w [xa] := by
  unfold RdP
  obtain ⟨i0, hi, hz0, hz1, hz2⟩ := info_parts Tryd.infoN
  have HI0 := Hid.mk' hi
  clear hi
  have hb2 := Below.one (Below.one (Below.refl _ w) (.cells #[.int .i64 16, .int .i64 xa, .int .i64 xb, .int .i64 xc, .int .i64 xn] 27)) (.cells #[] 3)
  have HO := Hid.mk' (own_mono (N' := w.heap.size) (row_new (w.alloc (.cells #[.int .i64 16, .int .i64 xa, .int .i64 xb, .int .i64 xc, .int .i64 xn] 27)) 3 1) (by simp))
  rw [World.size_alloc] at HO
  have HN := Hid.mk' (news_1 ((w.alloc (.cells #[.int .i64 16, .int .i64 xa, .int .i64 xb, .int .i64 xc, .int .i64 xn] 27)).alloc (.cells #[] 3)) xa)
  rw [World.size_alloc, World.size_alloc] at HN
  have HS := Hid.mk' (Below.one hb2 (.cells #[.int .i64 xa] 3)).size
  go_enter Tryd.func30, Tryd.ntmps30
  go_wp2_with (at_builtin; refine wpList_append_own _ rfl _ _ 56 rfl w.heap.size 3 i0 (.int .i64 0) 1 8 Tryd.underlying56 HI0.out hz0 hz1 hz2 rfl (by decide) _ 0 [] rfl (HO.out.alloc _) ⟨w.heap.size + 1 + 1, 0, none⟩ 1 1 [.int .i64 xa] rfl rfl HN.out (by simp [Value.oneCell']) (by unfold maxLen; omega) (by omega) HS.out ?_; intro v1 w1 own1 grow1 _; have hb3 : Below w.heap.size w w1 := (Below.one hb2 _).grown grow1 HS.out (fun k e => by have : k = w.heap.size + 1 := (by injection e with e; exact e.symm); omega))
  go_ret
  exact ⟨_, rfl, own1, hb3⟩
set_option maxHeartbeats 1000000 in
theorem rreads_17 (xa xb xc xn p : Int) (w : World) : RdP 17 xa xb xc xn p w [xa, xb] := by
  unfold RdP
  obtain ⟨i0, hi, hz0, hz1, hz2⟩ := info_parts Tryd.infoN
  have HI0 := Hid.mk' hi
  clear hi
  have hb2 := Below.one (Below.one (Below.refl _ w) (.cells #[.int .i64 17, .int .i64 xa, .int .i64 xb, .int .i64 xc, .int .i64 xn] 27)) (.cells #[] 3)
  have HO := Hid.mk' (own_mono (N' := w.heap.size) (row_new (w.alloc (.cells #[.int .i64 17, .int .i64 xa, .int .i64 xb, .int .i64 xc, .int .i64 xn] 27)) 3 1) (by simp))
  rw [World.size_alloc] at HO
  have HN := Hid.mk' (news_2 ((w.alloc (.cells #[.int .i64 17, .int .i64 xa, .int .i64 xb, .int .i64 xc, .int .i64 xn] 27)).alloc (.cells #[] 3)) xa xb)
  rw [World.size_alloc, World.size_alloc] at HN
  have HS := Hid.mk' (Below.one hb2 (.cells #[.int .i64 xa, .int .i64 xb] 3)).size
  go_enter Tryd.func30, Tryd.ntmps30
  go_wp2_with (at_builtin; refine wpList_append_own _ rfl _ _ 56 rfl w.heap.size 3 i0 (.int .i64 0) 1 8 Tryd.underlying56 HI0.out hz0 hz1 hz2 rfl (by decide) _ 0 [] rfl (HO.out.alloc _) ⟨w.heap.size + 1 + 1, 0, none⟩ 2 2 [.int .i64 xa, .int .i64 xb] rfl rfl HN.out (by simp [Value.oneCell']) (by unfold maxLen; omega) (by omega) HS.out ?_; intro v1 w1 own1 grow1 _; have hb3 : Below w.heap.size w w1 := (Below.one hb2 _).grown grow1 HS.out (fun k e => by have : k = w.heap.size + 1 := (by injection e with e; exact e.symm); omega))
  go_ret
  exact ⟨_, rfl, own1, hb3⟩
set_option maxHeartbeats 1000000 in
theorem rreads_18 (xa xb xc xn p : Int) (w : World) : RdP 18 xa xb xc xn p w [xa] := by
  unfold RdP
  obtain ⟨i0, hi, hz0, hz1, hz2⟩ := info_parts Tryd.infoN
  have HI0 := Hid.mk' hi
  clear hi
  have hb2 := Below.one (Below.one (Below.refl _ w) (.cells #[.int .i64 18, .int .i64 xa, .int .i64 xb, .int .i64 xc, .int .i64 xn] 27)) (.cells #[] 3)
  have HO := Hid.mk' (own_mono (N' := w.heap.size) (row_new (w.alloc (.cells #[.int .i64 18, .int .i64 xa, .int .i64 xb, .int .i64 xc, .int .i64 xn] 27)) 3 1) (by simp))
  rw [World.size_alloc] at HO
  have HN := Hid.mk' (news_1 ((w.alloc (.cells #[.int .i64 18, .int .i64 xa, .int .i64 xb, .int .i64 xc, .int .i64 xn] 27)).alloc (.cells #[] 3)) xa)
  rw [World.size_alloc, World.size_alloc] at HN
  have HS := Hid.mk' (Below.one hb2 (.cells #[.int .i64 xa] 3)).size
  go_enter Tryd.func30, Tryd.ntmps30
  go_wp2_with (at_builtin; refine wpList_append_own _ rfl _ _ 56 rfl w.heap.size 3 i0 (.int .i64 0) 1 8 Tryd.underlying56 HI0.out hz0 hz1 hz2 rfl (by decide) _ 0 [] rfl (HO.out.alloc _) ⟨w.heap.size + 1 + 1, 0, none⟩ 1 1 [.int .i64 xa] rfl rfl HN.out (by simp [Value.oneCell']) (by unfold maxLen; omega) (by omega) HS.out ?_; intro v1 w1 own1 grow1 _; have hb3 : Below w.heap.size w w1 := (Below.one hb2 _).grown grow1 HS.out (fun k e => by have : k = w.heap.size + 1 := (by injection e with e; exact e.symm); omega))
  go_ret
  exact ⟨_, rfl, own1, hb3⟩
end Go.Proofs.YtlkoigdnakmdlaaDoor

/- The document's own Reads. -/
namespace Go.Proofs.YtlkoigdnakmdlaaDoor
open Go.RowKit Go.Sort

set_option maxHeartbeats 1000000 in
theorem rreads_no (xop xa xb xc xn p : Int) (w : World) (h : ¬ (0 ≤ xop ∧ xop ≤ 19)) : RdP xop xa xb xc xn p w [] := by
  unfold RdP
  have hb2 := Below.one (Below.one (Below.refl _ w) (.cells #[.int .i64 xop, .int .i64 xa, .int .i64 xb, .int .i64 xc, .int .i64 xn] 27)) (.cells #[] 3)
  have HO := Hid.mk' (own_mono (N' := w.heap.size) (row_new (w.alloc (.cells #[.int .i64 xop, .int .i64 xa, .int .i64 xb, .int .i64 xc, .int .i64 xn] 27)) 3 1) (by simp))
  rw [World.size_alloc] at HO
  have q0 : (xop == 0) = false := beq_no (by omega)
  have q1 : (xop == 1) = false := beq_no (by omega)
  have q2 : (xop == 2) = false := beq_no (by omega)
  have q3 : (xop == 3) = false := beq_no (by omega)
  have q4 : (xop == 4) = false := beq_no (by omega)
  have q5 : (xop == 5) = false := beq_no (by omega)
  have q6 : (xop == 6) = false := beq_no (by omega)
  have q7 : (xop == 7) = false := beq_no (by omega)
  have q8 : (xop == 8) = false := beq_no (by omega)
  have q9 : (xop == 9) = false := beq_no (by omega)
  have q10 : (xop == 10) = false := beq_no (by omega)
  have q11 : (xop == 11) = false := beq_no (by omega)
  have q12 : (xop == 12) = false := beq_no (by omega)
  have q13 : (xop == 13) = false := beq_no (by omega)
  have q14 : (xop == 14) = false := beq_no (by omega)
  have q15 : (xop == 15) = false := beq_no (by omega)
  have q16 : (xop == 16) = false := beq_no (by omega)
  have q17 : (xop == 17) = false := beq_no (by omega)
  have q18 : (xop == 18) = false := beq_no (by omega)
  have q19 : (xop == 19) = false := beq_no (by omega)
  clear h
  go_enter Tryd.func30, Tryd.ntmps30
  go_wp2_with fail
  go_ret
  exact ⟨_, rfl, HO.out, hb2⟩
set_option maxRecDepth 100000 in
set_option maxHeartbeats 2000000 in
theorem rreads_19 (xa xb xc xn p : Int) (w : World) : RdP 19 xa xb xc xn p w (argL xb p) := by
  unfold RdP
  obtain ⟨i0, hi, hz0, hz1, hz2⟩ := info_parts Tryd.infoN
  have HI0 := Hid.mk' hi
  clear hi
  have hb2 := Below.one (Below.one (Below.refl _ w) (.cells #[.int .i64 19, .int .i64 xa, .int .i64 xb, .int .i64 xc, .int .i64 xn] 27)) (.cells #[] 3)
  have HO := Hid.mk' (own_mono (N' := w.heap.size + 1) (row_new (w.alloc (.cells #[.int .i64 19, .int .i64 xa, .int .i64 xb, .int .i64 xc, .int .i64 xn] 27)) 3 1) (by simp))
  rw [World.size_alloc] at HO
  have y2 := cell_kept_below (new_cell w #[.int .i64 19, .int .i64 xa, .int .i64 xb, .int .i64 xc, .int .i64 xn] 27 2 (.int .i64 xb) rfl) (Below.one (Below.refl _ _) (.cells #[] 3))
  have HT := Hid.mk' (fun k => argL_take (b := xb) (p := p) (k := k))
  have HL := Hid.mk' (argL_len xb p)
  obtain ⟨q, hq⟩ : ∃ q, q = (min p 8).toNat := ⟨_, rfl⟩
  have HQ := Hid.mk' hq
  have hq8 : q ≤ 8 := by omega
  have hqp : ∀ k : Nat, k < q → (k : Int) < p := fun k h => by omega
  have HP := Hid.mk' hqp
  clear hq hqp
  go_enter Tryd.func30, Tryd.ntmps30
  go_wp2_with fail
  generalize (w.alloc (.cells #[.int .i64 19, .int .i64 xa, .int .i64 xb, .int .i64 xc, .int .i64 xn] 27)).alloc (.cells #[] 3) = W at *
  go_loopw [5, 6] (fun t5 t6 wr => ∃ (k : Nat) (v : Value), k ≤ q ∧ t5 = v ∧ t6 = .int .i64 k ∧ wr.ownsRow (w.heap.size + 1) 3 1 v k (((argL xb p).take k).map iV) ∧ Below w.heap.size w wr ∧ wr.cell? ⟨w.heap.size, 2, none⟩ = some (.int .i64 xb)) (fun _ t6 _ => q - (intOf t6).toNat)
  case atStart => exact ⟨0, _, Nat.zero_le _, rfl, rfl, HO.out, hb2, y2⟩
  case round =>
    obtain ⟨k, v, hk, rfl, rfl, hown, hbr, e2⟩ := hrel
    by_cases hlt : k < q
    · have c1 := HP.out k hlt
      have c2 : (k : Int) < 8 := by omega
      have HTk := Hid.mk' (HT.out k (by rw [← HQ.out]; exact hlt))
      have hss := hbr.size
      have HS : Hid (w.heap.size + 1 ≤ (wr.alloc (.cells #[.int .i64 (wrap64 (xb + (k : Int)))] 3)).heap.size) := (by simp; omega : w.heap.size + 1 ≤ _)
      have HN := Hid.mk' (news_1 wr (wrap64 (xb + (k : Int))))
      obtain ⟨av, cv, rfl⟩ := gown_form hown
      have HO2 := Hid.mk' hown
      have HB := Hid.mk' hbr
      clear hown hbr hss
      go_wp2_with (at_builtin; refine wpList_append_own _ rfl _ _ 56 rfl (w.heap.size + 1) 3 i0 (.int .i64 0) 1 8 Tryd.underlying56 HI0.out hz0 hz1 hz2 rfl (by decide) _ k _ rfl (HO2.out.alloc _) ⟨wr.heap.size, 0, none⟩ 1 1 [.int .i64 (wrap64 (xb + (k : Int)))] rfl rfl HN.out (by simp [Value.oneCell']) (by unfold maxLen; omega) (by omega) HS.out ?_; intro v1 w1 own1 grow1 _; obtain ⟨a1, c1', rfl⟩ := gown_form own1)
      go_roundw
      case rel =>
        have hbw : Below w.heap.size w w1 := (Below.one HB.out _).grown grow1 (Nat.le_of_succ_le HS.out) (fun k e => Nat.le_of_succ_le (own_base HO2.out k e))
        refine ⟨k + 1, _, by omega, rfl, by go_num, by rw [HTk.out, List.map_append]; exact own1, hbw, ?_⟩
        exact grow1.cell (cell_kept_below e2 (Below.one (Below.refl _ _) _)) (fun e => by have := own_base HO2.out _ e.symm; simp only at this; omega)
      case measure => simp [intOf]; omega
    · have hkq : k = q := by omega
      have HK := Hid.mk' hkq
      by_cases c1 : (k : Int) < p
      · have c2 : ¬ ((k : Int) < 8) := by have := HQ.out; omega
        clear hkq
        go_wp2_with fail
        go_ret
        refine ⟨_, rfl, ?_, hbr⟩
        rw [List.take_of_length_le (by rw [HL.out, ← HQ.out, HK.out]; exact Nat.le_refl _), HK.out] at hown
        rw [HL.out, ← HQ.out]; exact own_mono hown (Nat.le_succ _)
      · clear hkq
        go_wp2_with fail
        go_ret
        refine ⟨_, rfl, ?_, hbr⟩
        rw [List.take_of_length_le (by rw [HL.out, ← HQ.out, HK.out]; exact Nat.le_refl _), HK.out] at hown
        rw [HL.out, ← HQ.out]; exact own_mono hown (Nat.le_succ _)
theorem rreads_any (x : Is) (p : Int) (w : World) : Calls Tryd.prog 30 #[x.val, .int .i64 p] w fun e w' => ∃ v, e = .returned v ∧ w'.ownsRow w.heap.size 3 1 v (rdL x p).length ((rdL x p).map iV) ∧ Below w.heap.size w w' := by
  obtain ⟨xop, xa, xb, xc, xn⟩ := x
  show RdP xop xa xb xc xn p w (rdL ⟨xop, xa, xb, xc, xn⟩ p)
  by_cases h : 0 ≤ xop ∧ xop ≤ 19
  · refine op_cases (P := fun xop => RdP xop xa xb xc xn p w (rdL ⟨xop, xa, xb, xc, xn⟩ p)) h.1 h.2 ?_ ?_ ?_ ?_ ?_ ?_ ?_ ?_ ?_ ?_ ?_ ?_ ?_ ?_ ?_ ?_ ?_ ?_ ?_ ?_
    · rw [show rdL ⟨0, xa, xb, xc, xn⟩ p = [xa] by kernel_rfl]; exact rreads_0 xa xb xc xn p w
    · rw [show rdL ⟨1, xa, xb, xc, xn⟩ p = [] by kernel_rfl]; exact rreads_1 xa xb xc xn p w
    · rw [show rdL ⟨2, xa, xb, xc, xn⟩ p = [xb] by kernel_rfl]; exact rreads_2 xa xb xc xn p w
    · rw [show rdL ⟨3, xa, xb, xc, xn⟩ p = [xb, xc] by kernel_rfl]; exact rreads_3 xa xb xc xn p w
    · rw [show rdL ⟨4, xa, xb, xc, xn⟩ p = [xb, xc] by kernel_rfl]; exact rreads_4 xa xb xc xn p w
    · rw [show rdL ⟨5, xa, xb, xc, xn⟩ p = [xb, xc] by kernel_rfl]; exact rreads_5 xa xb xc xn p w
    · rw [show rdL ⟨6, xa, xb, xc, xn⟩ p = [xb, xc] by kernel_rfl]; exact rreads_6 xa xb xc xn p w
    · rw [show rdL ⟨7, xa, xb, xc, xn⟩ p = [xb, xc] by kernel_rfl]; exact rreads_7 xa xb xc xn p w
    · rw [show rdL ⟨8, xa, xb, xc, xn⟩ p = [xb, xc] by kernel_rfl]; exact rreads_8 xa xb xc xn p w
    · rw [show rdL ⟨9, xa, xb, xc, xn⟩ p = [xb, xc] by kernel_rfl]; exact rreads_9 xa xb xc xn p w
    · rw [show rdL ⟨10, xa, xb, xc, xn⟩ p = [xb] by kernel_rfl]; exact rreads_10 xa xb xc xn p w
    · rw [show rdL ⟨11, xa, xb, xc, xn⟩ p = [xb] by kernel_rfl]; exact rreads_11 xa xb xc xn p w
    · rw [show rdL ⟨12, xa, xb, xc, xn⟩ p = [xa, xb] by kernel_rfl]; exact rreads_12 xa xb xc xn p w
    · rw [show rdL ⟨13, xa, xb, xc, xn⟩ p = [xa] by kernel_rfl]; exact rreads_13 xa xb xc xn p w
    · rw [show rdL ⟨14, xa, xb, xc, xn⟩ p = [] by kernel_rfl]; exact rreads_14 xa xb xc xn p w
    · rw [show rdL ⟨15, xa, xb, xc, xn⟩ p = [xa] by kernel_rfl]; exact rreads_15 xa xb xc xn p w
    · rw [show rdL ⟨16, xa, xb, xc, xn⟩ p = [xa] by kernel_rfl]; exact rreads_16 xa xb xc xn p w
    · rw [show rdL ⟨17, xa, xb, xc, xn⟩ p = [xa, xb] by kernel_rfl]; exact rreads_17 xa xb xc xn p w
    · rw [show rdL ⟨18, xa, xb, xc, xn⟩ p = [xa] by kernel_rfl]; exact rreads_18 xa xb xc xn p w
    · exact rreads_19 xa xb xc xn p w
  · have : rdL ⟨xop, xa, xb, xc, xn⟩ p = [] := by
      unfold rdL
      rw [if_neg (fun (e : xop = 19) => h (by omega))]
      unfold fldL
      rw [rwOf_no h]
      kernel_rfl
    rw [this]
    exact rreads_no xop xa xb xc xn p w h
end Go.Proofs.YtlkoigdnakmdlaaDoor

/- The law's own question: are the registers told as they are to be? -/
namespace Go.Proofs.YtlkoigdnakmdlaaDoor
open Go.RowKit Go.Shelf
attribute [local go_sem] Oper.semAt_some

theorem boxed_grown {W W' : World} {B : Nat} {t : TypeId} {v : Value} {row : Option Nat} (h : Boxed W B t v) (hg : W.grownBy W' row) (hr : ∀ r, row = some r → ∃ o : Obj, W.heap[r]? = some o ∧ o.isCells = false) : Boxed W' B t v :=
  h.kept hg (fun e => by
    obtain ⟨o, ho, hc⟩ := hr B e.symm
    rw [show W.heap[B]? = _ from h] at ho; cases ho; cases hc)
theorem own_grown {W W' : World} {N n sz : Nat} {T : TypeId} {v : Value} {xs : List Value} {row : Option Nat} (h : W.ownsRow N T sz v n xs) (hg : W.grownBy W' row) (hr : ∀ r, row = some r → ∃ o : Obj, W.heap[r]? = some o ∧ o.isCells = false) : W'.ownsRow N T sz v n xs := by
  refine h.kept hg ?_
  rcases h.2 with ⟨rfl, _⟩ | ⟨g, cap, cur, rfl, _, hgb, _⟩
  · exact .inl rfl
  · refine .inr fun e' => ?_
    obtain ⟨o, ho, hc⟩ := hr g (by simpa [Value.ownBlock] using e'.symm)
    rw [hgb] at ho; cases ho; cases hc
theorem boxed_stay {W W' : World} {B : Nat} {t : TypeId} {v : Value} (h : Boxed W B t v) (hb : Below W.heap.size W W') : Boxed W' B t v := (hb.block _ h.lt).trans h
theorem own_cell {W : World} {N n : Nat} {T : TypeId} {a : Option Addr} {c : Nat} {xs : List Value} (h : W.ownsRow N T 1 (.slice a n c) n xs) {j : Nat} {u : Value} (hj : xs[j]? = some u) : ∃ g, a = some ⟨g, 0, none⟩ ∧ W.cell? ⟨g, j, none⟩ = some u := by
  rcases h.2 with ⟨e, h0⟩ | ⟨g, cap, cur, e, _, _⟩
  · have := h.1
    have := (List.getElem?_eq_some_iff.1 hj).1
    omega
  · cases e
    refine ⟨g, rfl, ?_⟩
    have := h.cells (g := g) rfl j u hj
    rwa [Addr.add_lit, Nat.zero_add] at this
theorem put_boxed {W : World} {B : Nat} {t : TypeId} {v : Value} (h : Boxed W B t v) {D : Nat} {o : Obj} (o' : Obj) (hD : W.heap[D]? = some o) (hc : o.isCells = false) : Boxed (W.putObj D o') B t v :=
  boxed_grown h (grownBy_putObj' W D o') (fun r e => by cases e; exact ⟨o, hD, hc⟩)
/-- What the loop holds. -/
structure TlI (w : World) (N1 N2 N5 N6 : Nat) (v : Value) (stop : Int) (L : List Int) (pre : List Int) (W : World) : Prop where
  r : Boxed W N6 4 (.bool false)
  s : Boxed W N5 3 (.int .i64 stop)
  l : Boxed W N1 56 v
  a : Boxed W N2 3 (.int .i64 (pre.length : Nat))
  o : W.ownsRow w.heap.size 3 1 v L.length (L.map iV)
  p : pre <+: L
  b : Below w.heap.size w W
  q : ∀ k, v.ownBlock = some k → k < N1
theorem TlI.grown {w : World} {N1 N2 N5 N6 : Nat} {v : Value} {stop : Int} {L pre : List Int} {W W' : World} (h : TlI w N1 N2 N5 N6 v stop L pre W) {row : Option Nat} {B : Nat} (hB : w.heap.size ≤ B) (hg : W.grownBy W' row) (hr : ∀ r, row = some r → B ≤ r ∧ ∃ o : Obj, W.heap[r]? = some o ∧ o.isCells = false) : TlI w N1 N2 N5 N6 v stop L pre W' :=
  ⟨boxed_grown h.r hg (fun r e => (hr r e).2), boxed_grown h.s hg (fun r e => (hr r e).2), boxed_grown h.l hg (fun r e => (hr r e).2), boxed_grown h.a hg (fun r e => (hr r e).2), own_grown h.o hg (fun r e => (hr r e).2), h.p, h.b.grown hg h.b.size (fun k e => Nat.le_trans hB (hr k e).1), h.q⟩
def TlX (w : World) (N6 : Nat) (L : List Int) (c : Code) (pre : List Int) (W : World) : Prop := c = .ret ∧ ∃ t : Bool, Boxed W N6 4 (.bool t) ∧ (pre <+: L → t = true) ∧ Below w.heap.size w W
theorem TlI.next {w : World} {N1 N5 N6 : Nat} {v : Value} {stop : Int} {L pre : List Int} {W : World} (h : TlI w N1 (N1 + 1) N5 N6 v stop L pre W) (h5 : N5 < N1) (h6 : N6 < N1) (hN : w.heap.size ≤ N1) {r : Int} (hp : pre ++ [r] <+: L) : TlI w N1 (N1 + 1) N5 N6 v stop L (pre ++ [r]) (W.setCell ⟨N1 + 1, 0, none⟩ (.int .i64 ((pre.length : Int) + 1))) :=
  ⟨h.r.other (by omega) _, h.s.other (by omega) _, h.l.other (by omega) _, by have := h.a.set (.int .i64 ((pre.length : Int) + 1)); simpa using this, by
    refine ⟨h.o.1, ?_⟩
    have hq := h.q
    rcases h.o.2 with h0 | ⟨g, cap, cur, rfl, h1, h2, h3⟩
    · exact .inl h0
    · refine .inr ⟨g, cap, cur, rfl, h1, ?_, h3⟩
      have := hq g (by simp [Value.ownBlock])
      exact (Below.heap_setCell _ _ _ _ (by simp only; omega)).trans h2, hp, h.b.setCell (by simp only; omega) _, h.q⟩
theorem kpB_set {B C k i : Nat} {W : World} (v : Value) (h1 : B ≠ k) (h2 : C ≠ k) : KpB B C W (W.setCell ⟨k, i, none⟩ v) := ⟨by simp [World.setCell], Below.heap_setCell _ _ _ _ h1, Below.heap_setCell _ _ _ _ h2⟩
theorem pre_next {L pre : List Int} {x : Int} (h : pre <+: L) (hx : L[pre.length]? = some x) : pre ++ [x] <+: L := by
  obtain ⟨r, rfl⟩ := h
  rw [List.getElem?_append_right (Nat.le_refl _), Nat.sub_self] at hx
  cases r with
  | nil => simp at hx
  | cons y r => simp at hx; subst hx; exact ⟨r, by simp⟩
theorem pre_at {L pre : List Int} {x : Int} (h : pre ++ [x] <+: L) : L[pre.length]? = some x := by
  obtain ⟨r, rfl⟩ := h
  simp

set_option maxRecDepth 100000 in
set_option maxHeartbeats 2000000 in
theorem told_in (x : Is) (p stop : Int) (w : World) (ht : Tab w) : CallsIn Fence.wide 6 Tryd.prog 18 #[x.val, .int .i64 p, .int .i64 stop] w fun e w' => e = .returned (.bool true) ∧ Below w.heap.size w w' := by
  have HRR := Hid.mk' (rreads_any x p)
  have HRD := Hid.mk' (reads_any x p)
  have HT := Hid.mk' ht
  have hlen : (rdL x p).length ≤ 8 := by
    unfold rdL fldL
    split
    · rw [argL_len]; omega
    · split <;> split <;> split <;> simp
  generalize rdL x p = L at *
  clear ht
  unfold Is.val at *
  refine callsIn_of_wp_marks Tryd.func18 rfl trivial ?_ rfl
  simp only [Tryd.ntmps18, List.size_toArray, List.length_cons, List.length_nil, Nat.reduceAdd, Nat.reduceSub, Array.replicate_succ, Array.replicate_zero, List.push_toArray, List.append_toArray, List.nil_append, List.cons_append]
  gi_wp2_with fail
  refine ⟨trivial, ?_⟩
  refine (callsIn_wide.2 (HRR.out _)).mono ?_
  rintro e w1 ⟨v, rfl, hown, hb1⟩
  obtain ⟨va, vc, rfl⟩ := gown_form hown
  have b3 : Below w.heap.size w (((w.alloc (oX x)).alloc (.cells #[.int .i64 stop] 3)).alloc (.cells #[.bool false] 4)) := below3 _ _ _ _
  have hs1 := hb1.size
  simp only [World.size_alloc] at hs1
  have bx : ∀ j v, (#[.int .i64 x.op, .int .i64 x.a, .int .i64 x.b, .int .i64 x.c, .int .i64 x.n] : Array Value)[j]? = some v → ∀ o o', ((w1.alloc o).alloc o').cell? ⟨w.heap.size, j, none⟩ = some v := fun j v hj o o' => cell_kept_below (cell_kept_below (new_cell w _ 27 j v hj) (Below.one (Below.one (Below.refl _ _) (.cells #[.int .i64 stop] 3)) (.cells #[.bool false] 4))) (Below.one (Below.one hb1 o) o')
  have bs : Boxed (((w.alloc (oX x)).alloc (.cells #[.int .i64 stop] 3)).alloc (.cells #[.bool false] 4)) (w.heap.size + 1) 3 (.int .i64 stop) := by
    have := (Boxed.new (w.alloc (oX x)) 3 (.int .i64 stop)).alloc (.cells #[.bool false] 4)
    rwa [World.size_alloc] at this
  have br : Boxed (((w.alloc (oX x)).alloc (.cells #[.int .i64 stop] 3)).alloc (.cells #[.bool false] 4)) (w.heap.size + 1 + 1) 4 (.bool false) := by
    have := Boxed.new ((w.alloc (oX x)).alloc (.cells #[.int .i64 stop] 3)) 4 (.bool false)
    rwa [World.size_alloc, World.size_alloc] at this
  have b5 := Below.one (Below.one (Below.on b3 hb1) (.cells #[.slice va L.length vc] 56)) (.cells #[.int .i64 0] 3)
  have bs5 : Boxed ((w1.alloc (.cells #[.slice va L.length vc] 56)).alloc (.cells #[.int .i64 0] 3)) (w.heap.size + 1) 3 (.int .i64 stop) := ((boxed_stay bs hb1).alloc _).alloc _
  have br5 : Boxed ((w1.alloc (.cells #[.slice va L.length vc] 56)).alloc (.cells #[.int .i64 0] 3)) (w.heap.size + 1 + 1) 4 (.bool false) := ((boxed_stay br hb1).alloc _).alloc _
  have bl5 : Boxed ((w1.alloc (.cells #[.slice va L.length vc] 56)).alloc (.cells #[.int .i64 0] 3)) w1.heap.size 56 (.slice va L.length vc) := (Boxed.new w1 _ _).alloc _
  have ba5 : Boxed ((w1.alloc (.cells #[.slice va L.length vc] 56)).alloc (.cells #[.int .i64 0] 3)) (w1.heap.size + 1) 3 (.int .i64 0) := by
    have := Boxed.new (w1.alloc (.cells #[.slice va L.length vc] 56)) 3 (.int .i64 0)
    rwa [World.size_alloc] at this
  have o5 := (((own_mono hown (by simp; omega : w.heap.size ≤ _)).alloc (.cells #[.slice va L.length vc] 56)).alloc (.cells #[.int .i64 0] 3))
  have c0 := bx 0 (.int .i64 x.op) rfl (.cells #[.slice va L.length vc] 56) (.cells #[.int .i64 0] 3)
  have c1 := bx 1 (.int .i64 x.a) rfl (.cells #[.slice va L.length vc] 56) (.cells #[.int .i64 0] 3)
  have c2 := bx 2 (.int .i64 x.b) rfl (.cells #[.slice va L.length vc] 56) (.cells #[.int .i64 0] 3)
  have c3 := bx 3 (.int .i64 x.c) rfl (.cells #[.slice va L.length vc] 56) (.cells #[.int .i64 0] 3)
  have c4 := bx 4 (.int .i64 x.n) rfl (.cells #[.slice va L.length vc] 56) (.cells #[.int .i64 0] 3)
  have hz5 : ((w1.alloc (.cells #[.slice va L.length vc] 56)).alloc (.cells #[.int .i64 0] 3)).heap.size = w1.heap.size + 1 + 1 := by simp
  have HW5 := Hid.mk' (And.intro bs5 (And.intro br5 (And.intro bl5 (And.intro ba5 (And.intro o5 (And.intro b5 hz5))))))
  have HQ : Hid (∀ k, (Value.slice va L.length vc).ownBlock = some k → k < w1.heap.size) := fun k e => (hown.lt k e).2
  clear bx bs br bs5 br5 bl5 ba5 o5 b5 hz5 hown hb1 b3
  gi_wp2_with fail
  refine ⟨trivial, ?_⟩
  obtain ⟨bs5, br5, bl5, ba5, o5, b5, hz5⟩ := HW5.out
  generalize (w1.alloc (.cells #[.slice va L.length vc] 56)).alloc (.cells #[.int .i64 0] 3) = W5 at *
  generalize w1.heap.size = N1 at *
  refine (callsIn_wide.2 (HRD.out _ (HT.out.stay b5))).mono ?_
  rintro e w2 ⟨gf, B, C, rfl, hb2, htl⟩
  have hnb := htl.nb
  have hnc := htl.nc
  have hlb := htl.lb
  have hlc := htl.lc
  have I0 : TlI w N1 (N1 + 1) (w.heap.size + 1) (w.heap.size + 1 + 1) (.slice va L.length vc) stop L [] w2 :=
    ⟨(hb2.block _ br5.lt).trans br5, (hb2.block _ bs5.lt).trans bs5, (hb2.block _ bl5.lt).trans bl5, (hb2.block _ ba5.lt).trans ba5, own_stay o5 hb2, List.nil_prefix, Below.on b5 hb2, HQ.out⟩
  have hs2 := hb2.size
  clear c0 c1 c2 c3 c4 HW5 HRR HRD HT bs5 br5 bl5 ba5 o5 b5 hb2
  gi_wp2_with fail
  refine wpIn_rangeFunc_ownG rfl (by omega) (gf := gf) (lb := #[.pointer (some ⟨B, 0, none⟩), .pointer (some ⟨C, 0, none⟩)]) rfl trivial htl.enters
    (htl.stops 5 (by omega)) (fun h k => kpB_t h k) (kpB_b hlb hlc) (Below.refl _ _) (fun _ => rfl)
    (TlI w N1 (N1 + 1) (w.heap.size + 1) (w.heap.size + 1 + 1) (.slice va L.length vc) stop L) (TlX w (w.heap.size + 1 + 1) L)
    (fun pre X Y row h hg hr => h.grown (by have := I0.b.size; omega) hg hr) (fun c pre X Y row h hg hr => ?ownX) I0
    (fun r => { tmps := #[.agg #[.int .i64 x.op, .int .i64 x.a, .int .i64 x.b, .int .i64 x.c, .int .i64 x.n], .int .i64 p, .int .i64 stop, .pointer (some ⟨w.heap.size, 0, none⟩), undef, .pointer (some ⟨w.heap.size + 1, 0, none⟩), .pointer (some ⟨w.heap.size + 1 + 1, 0, none⟩), .pointer (some ⟨N1, 0, none⟩), .pointer (some ⟨N1 + 1, 0, none⟩), .int .i64 r, .agg #[.int .i64 x.op, .int .i64 x.a, .int .i64 x.b, .int .i64 x.c, .int .i64 x.n], .int .i64 p, .slice va L.length vc, .agg #[.int .i64 x.op, .int .i64 x.a, .int .i64 x.b, .int .i64 x.c, .int .i64 x.n], .int .i64 p, .func (.func gf) #[] #[.pointer (some ⟨B, 0, none⟩), .pointer (some ⟨C, 0, none⟩)], .int .i64 r, undef, undef, undef, undef, undef, undef, undef, undef, undef, undef, undef, undef, undef, undef, undef, undef, undef, undef, undef, undef, undef], defers := [] })
    ?assign ?body ?done ?stop
  case ownX =>
    obtain ⟨h1, t, h2, h3, h4⟩ := h
    exact ⟨h1, t, boxed_grown h2 hg (fun r e => (hr r e).2), h3, h4.grown hg h4.size (fun k e => Nat.le_trans I0.b.size (hr k e).1)⟩
  case assign =>
    intro l r W K hK
    gi_wp2
    exact hK
  case body =>
    intro l pre r W hi hlt
    have hb := hi.b
    have hss := hb.size
    obtain ⟨y, hy⟩ : ∃ y, L[pre.length]? = some y := ⟨_, List.getElem?_eq_getElem hlt⟩
    obtain ⟨g, rfl, hc⟩ := own_cell hi.o (j := pre.length) (u := iV y) (by rw [List.getElem?_map, hy]; rfl)
    unfold iV at hc
    have e7 := hi.l.cell
    have e8 := hi.a.cell
    have e6 := hi.r.cell
    have e5 := hi.s.cell
    have f8 := hi.a.frozen
    have f6 := hi.r.frozen
    have hge : decide ((L.length : Int) ≤ (pre.length : Int)) = false := decide_eq_false (by omega)
    have hge2 : decide (L.length ≤ pre.length) = false := decide_eq_false (by omega)
    have hli : (pre.length : Int) < (L.length : Int) := by omega
    have hn1 : ¬ (N1 + 1 = w.heap.size + 1 + 1) := by omega
    have HI := Hid.mk' hi
    have HY := Hid.mk' hy
    clear hi hy
    by_cases hr : r = y
    · have hq : (r != y) = false := bne_no hr
      have HPX := Hid.mk' (pre_next HI.out.p (by rw [HY.out, hr] : L[pre.length]? = some r))
      clear hr
      by_cases hst : (pre.length : Int) + 1 = stop
      · have hq2 : ((pre.length : Int) + 1 == stop) = true := by simp [hst]
        clear hst
        gi_wp2
        exact ⟨((KeepsOthers.setCell W _ _).trans (KeepsOthers.setCell _ _ _)).from _, rfl, true, (HI.out.r.other (by omega) _).set _, fun _ => rfl, (hb.setCell (by simp only; omega) _).setCell (by simp only; omega) _⟩
      · have hq2 : ((pre.length : Int) + 1 == stop) = false := beq_no hst
        gi_wp2
        exact ⟨(KeepsOthers.setCell W _ _).from _, kpB_set _ (by omega) (by omega), HI.out.next (by omega) (by omega) (by omega) HPX.out⟩
    · have hq : (r != y) = true := bne_of hr
      gi_wp2
      exact ⟨(KeepsOthers.setCell W _ _).from _, rfl, false, HI.out.r.set _, fun h => absurd (by have := pre_at h; rw [HY.out] at this; injection this with e; exact e.symm) hr, hb.setCell (by simp only; omega) _⟩
  case done =>
    rintro D ys W hD rfl hi hK
    have e7 := hi.l.cell
    have e8 := hi.a.cell
    have e6 := hi.r.cell
    have f6 := hi.r.frozen
    have hn1 : ¬ (N1 + 1 = w.heap.size + 1 + 1) := by omega
    have hss := hi.b.size
    have HI := Hid.mk' hi
    clear hi
    gi_wp2
    have hKZ := (KeepsOthers.setCell W ⟨w.heap.size + 1 + 1, 0, none⟩ (.bool true)).same D _ hK rfl
    have z6 := HI.out.r.set (.bool true)
    refine ⟨by simp, .inl ⟨_, _, rfl, run_takeDeferred hKZ, ?_⟩⟩
    have c6 := (put_boxed z6 (.deferred none) hKZ rfl).cell
    refine ⟨.bool true, by simp [results, Tryd.results18, go_sem, c6], rfl, ?_⟩
    exact (HI.out.b.setCell (by simp only; omega) _).trans (belowK_b (w := w) (Nat.le_refl _) _ D _ _ (by omega) hKZ rfl rfl)
  case stop =>
    rintro D c pre W hD hS ⟨rfl, t, h1, h2, h3⟩ hK
    obtain rfl := h2 hS
    gi_wp2
    refine ⟨by simp, .inl ⟨_, _, rfl, run_takeDeferred hK, ?_⟩⟩
    have c6 := (put_boxed h1 (.deferred none) hK rfl).cell
    have hss := h3.size
    refine ⟨.bool true, by simp [results, Tryd.results18, go_sem, c6], rfl, ?_⟩
    exact h3.trans (belowK_b (w := w) (Nat.le_refl _) _ D _ _ (by have := I0.b.size; omega) hK rfl rfl)
theorem told_any (x : Is) (p stop : Int) (w : World) (ht : Tab w) : Calls Tryd.prog 18 #[x.val, .int .i64 p, .int .i64 stop] w fun e w' => e = .returned (.bool true) ∧ Below w.heap.size w w' := callsIn_wide.1 (told_in x p stop w ht)
end Go.Proofs.YtlkoigdnakmdlaaDoor

/- What is wrong with a function's instructions: checkCode. -/
namespace Go.Proofs.YtlkoigdnakmdlaaDoor
open Go.RowKit Go.Sort

/-- A module and a function in boxes. -/
structure BoxMF (W : World) (g h : Nat) (m : Mo) (f : Fn) : Prop where
  m0 : W.cell? ⟨g, 0, none⟩ = some (.slice m.ta m.ths.length m.tc)
  m1 : W.cell? ⟨g, 1, none⟩ = some (.slice m.fa m.funcs.length m.fc)
  f0 : W.cell? ⟨h, 0, none⟩ = some (.string f.name)
  f1 : W.cell? ⟨h, 1, none⟩ = some (.slice f.pa f.params.length f.pc)
  f2 : W.cell? ⟨h, 2, none⟩ = some (.int .i64 f.regs)
  f3 : W.cell? ⟨h, 3, none⟩ = some (.int .i64 f.words)
  f4 : W.cell? ⟨h, 4, none⟩ = some (.slice f.ca f.code.length f.cc)
theorem BoxMF.stay {W W' : World} {g h : Nat} {m : Mo} {f : Fn} (b : BoxMF W g h m f) (hb : Below W.heap.size W W') : BoxMF W' g h m f :=
  ⟨cell_kept_below b.m0 hb, cell_kept_below b.m1 hb, cell_kept_below b.f0 hb, cell_kept_below b.f1 hb, cell_kept_below b.f2 hb, cell_kept_below b.f3 hb, cell_kept_below b.f4 hb⟩
theorem boxMF_new (w : World) (m : Mo) (f : Fn) : BoxMF ((w.alloc (oM m)).alloc (oF f)) w.heap.size (w.heap.size + 1) m f := by
  have h0 := Below.one (Below.refl _ (w.alloc (oM m))) (oF f)
  have n := fun (j : Nat) (v : Value) h => new_cell (w.alloc (oM m)) #[.string f.name, .slice f.pa f.params.length f.pc, .int .i64 f.regs, .int .i64 f.words, .slice f.ca f.code.length f.cc] 46 j v h
  rw [World.size_alloc] at n
  exact ⟨cell_kept_below (new_cell w _ _ 0 _ rfl) h0, cell_kept_below (new_cell w _ _ 1 _ rfl) h0, n 0 _ rfl, n 1 _ rfl, n 2 _ rfl, n 3 _ rfl, n 4 _ rfl⟩

theorem codeN_end {m : Mo} {f : Fn} {l : List Is} {j : Nat} (h : ¬ j < l.length) : codeN m f (l.drop j) j = (0, 0) := by
  rw [List.drop_eq_nil_of_le (by omega)]; rfl
theorem codeZ_bad {m : Mo} {f : Fn} {e i : Int} (h : codeN m f f.code 0 = (e, i)) (h0 : e ≠ 0) : codeZ m f = (e, i) := by
  unfold codeZ; rw [h]; simp [h0]
theorem codeZ_ok {m : Mo} {f : Fn} (h : codeN m f f.code 0 = (0, 0)) : codeZ m f = if lastOp f = 0 ∨ lastOp f = 14 ∨ lastOp f = 18 then (0, 0) else (64, (f.code.length : Int) - 1) := by
  unfold codeZ; rw [h]; simp
theorem lastOp_at {f : Fn} (h : 0 < f.code.length) : lastOp f = (f.code[f.code.length - 1]'(by omega)).op := by
  unfold lastOp; simp [show f.code.length - 1 < f.code.length by omega]

set_option maxRecDepth 100000 in
set_option maxHeartbeats 4000000 in
theorem checkCode_any (m : Mo) (k : Nat) (w : World) (ht : Tab w) (hm : m.In w) (f : Fn) (hk : m.funcs[k]? = some f) (hlen : 0 < f.code.length) :
    Calls Tryd.prog 34 #[m.val, .int .i64 k] w fun e w' => e = .returned (.tuple #[.int .i64 (codeZ m f).1, .int .i64 (codeZ m f).2]) ∧ Below w.heap.size w w' := by
  obtain ⟨hk1, hk2⟩ := List.getElem?_eq_some_iff.1 hk
  have hb0 := Below.one (Below.refl _ w) (oM m)
  obtain ⟨b, o, ea, c0, c1, c2, c3, c4⟩ := fns_at (hm.2.2.1.stay hb0) hk1
  rw [hk2] at c0 c1 c2 c3 c4
  have hfl := hm.2.2.1.1
  have hfin := hm.2.2.2 f (List.mem_of_getElem? hk)
  have hki : (k : Int) < (m.funcs.length : Int) := by omega
  have hb := Below.one hb0 (oF f)
  have B := boxMF_new w m f
  have HF := Hid.mk' hfin.2.2.2.2.2.1
  have HC : Hid (∀ (x : Is) (w' : World), Below w.heap.size w w' → Calls Tryd.prog 45 #[.agg #[.slice m.ta m.ths.length m.tc, .slice m.fa m.funcs.length m.fc], .agg #[.string f.name, .slice f.pa f.params.length f.pc, .int .i64 f.regs, .int .i64 f.words, .slice f.ca f.code.length f.cc], .agg #[.int .i64 x.op, .int .i64 x.a, .int .i64 x.b, .int .i64 x.c, .int .i64 x.n]] w' fun e w'' => e = .returned (.int .i64 (insZ m f x)) ∧ Below w'.heap.size w' w'') :=
    fun x w' hb => checkIns_any m f x w' (ht.stay hb) (hm.2.2.1.stay hb)
  have HD : Hid (∀ (j : Nat) (x : Is), f.code[j]? = some x → codeN m f (f.code.drop j) j = if insZ m f x ≠ 0 then (insZ m f x, (j : Int)) else codeN m f (f.code.drop (j + 1)) (j + 1)) := fun j x h => by
    obtain ⟨h1, h2⟩ := List.getElem?_eq_some_iff.1 h
    rw [codeN_drop h1, h2]
  have HEN : Hid (∀ j, ¬ j < f.code.length → codeN m f (f.code.drop j) j = (0, 0)) := fun j h => codeN_end h
  have HZB : Hid (∀ e i, codeN m f f.code 0 = (e, i) → e ≠ 0 → codeZ m f = (e, i)) := fun e i => codeZ_bad
  have HZO : Hid (codeN m f f.code 0 = (0, 0) → codeZ m f = if lastOp f = 0 ∨ lastOp f = 14 ∨ lastOp f = 18 then (0, 0) else (64, (f.code.length : Int) - 1)) := codeZ_ok
  have HL := Hid.mk' (lastOp_at hlen)
  have hcl := hfin.2.2.2.2.2.1.1
  have hpos : 1 ≤ f.code.length := hlen
  have hblk : b < w.heap.size := by
    obtain ⟨b', o', e', d0, _⟩ := fns_at hm.2.2.1 hk1
    rw [ea] at e'; cases e'
    exact lt_of_cell d0
  clear ht hm hfin hk hk2 hk1
  generalize codeZ m f = Z at *
  generalize insZ m f = I at *
  generalize codeN m f = CN at *
  generalize lastOp f = lo at *
  obtain ⟨z1, z2⟩ := Z
  unfold oM oF at *
  obtain ⟨b0, b1, b2, b3, b4, b5, b6⟩ := B
  obtain ⟨name, pa, pc, params, regs, words, ca, cc, code⟩ := f
  unfold Mo.val
  simp only at *
  generalize m.fa = fa at *
  subst ea
  generalize m.funcs.length = FL at *
  generalize m.ths.length = TL at *
  generalize m.ta = ta at *
  generalize m.tc = tc at *
  generalize m.fc = fc at *
  go_enter Tryd.func34, Tryd.ntmps34
  go_wp2_with fail
  go_loopw [19] (fun t19 wr => ∃ (j : Nat), j ≤ code.length ∧ t19 = .int .i64 j ∧ CN (code.drop j) j = CN code 0 ∧ Below ((w.alloc (.cells #[.slice ta TL tc, .slice (some ⟨b, o, none⟩) FL fc] 33)).alloc (.cells #[.string name, .slice pa params.length pc, .int .i64 regs, .int .i64 words, .slice ca code.length cc] 46)).heap.size ((w.alloc (.cells #[.slice ta TL tc, .slice (some ⟨b, o, none⟩) FL fc] 33)).alloc (.cells #[.string name, .slice pa params.length pc, .int .i64 regs, .int .i64 words, .slice ca code.length cc] 46)) wr) (fun t19 _ => code.length - (intOf t19).toNat)
  case atStart => exact ⟨0, Nat.zero_le _, rfl, rfl, Below.refl _ _⟩
  case round =>
    obtain ⟨j, hj, rfl, hcnt, hbr⟩ := hrel
    have HCN := Hid.mk' hcnt
    clear hcnt
    have hbw := Below.on hb hbr
    by_cases hlt : j < code.length
    · obtain ⟨b', o', rfl, d0, d1, d2, d3, d4⟩ := iss_at (HF.out.stay hbw) hlt
      have hli : (j : Int) < (code.length : Int) := by omega
      have HDj := Hid.mk' (HD.out j code[j] (by simp [hlt]))
      generalize code[j] = x at *
      have hbx := Below.one hbr (oX x)
      have e0 := cell_kept_below b0 hbx; have e1 := cell_kept_below b1 hbx; have e2 := cell_kept_below b2 hbx; have e3 := cell_kept_below b3 hbx; have e4 := cell_kept_below b4 hbx; have e5 := cell_kept_below b5 hbx; have e6 := cell_kept_below b6 hbx
      have HCx := Hid.mk' (HC.out x _ (Below.on hb hbx))
      clear b0 b1 b2 b3 b4 b5 b6 c0 c1 c2 c3 c4
      by_cases hI : I x = 0
      · rw [hI] at HCx HDj
        go_wp2_with (go_at_call 45; refine HCx.out.mono ?_; rintro e w4 ⟨rfl, hb4⟩)
        go_roundw
        case rel => exact ⟨j + 1, by omega, by go_num, by rw [← HCN.out, HDj.out]; simp, Below.on hbx hb4⟩
        case measure => simp [intOf]; omega
      · have hI' := bne_of hI
        have hz := HZB.out (I x) j (by rw [← HCN.out, HDj.out, if_pos hI]) hI
        obtain ⟨rfl, rfl⟩ := Prod.mk.inj hz
        have HI := Hid.mk' hI
        clear hI hz
        go_wp2_with (go_at_call 45; refine HCx.out.mono ?_; rintro e w4 ⟨rfl, hb4⟩)
        exact bodyPost_ret (v := .tuple #[.int .i64 (I x), .int .i64 j]) (by simp [results, Tryd.results34, go_sem]) rfl ⟨rfl, Below.on (Below.on hb hbx) hb4⟩
    · have hz := HZO.out (by rw [← HCN.out, HEN.out j hlt])
      obtain ⟨n, hn⟩ : ∃ n, code.length = n + 1 := ⟨code.length - 1, by omega⟩
      have hnl : n < code.length := by omega
      obtain ⟨b', o', rfl, d0, d1, d2, d3, d4⟩ := iss_at (HF.out.stay hbw) hnl
      have e6 := cell_kept_below b6 hbr
      have hlo : lo = code[n].op := by rw [HL.out]; congr 2; omega
      rw [← hlo] at d0
      have hli : (n : Int) < (code.length : Int) := by omega
      have hsub : (code.length : Int) - 1 = n := by omega
      have HN := Hid.mk' hn
      rw [hsub] at hz
      clear hn hnl b0 b1 b2 b3 b4 b5 b6 c0 c1 c2 c3 c4 d1 d2 d3 d4 hlo
      by_cases h1 : lo = 0
      · rw [if_pos (.inl h1)] at hz
        obtain ⟨rfl, rfl⟩ := Prod.mk.inj hz
        have q1 : (lo == 0) = true := by simp [h1]
        clear h1 hz
        go_wp2_with fail
        exact bodyPost_ret (v := .tuple #[.int .i64 0, .int .i64 0]) (by simp [results, Tryd.results34, go_sem]) rfl ⟨rfl, hbw⟩
      · have q1 : (lo == 0) = false := beq_no h1
        by_cases h2 : lo = 14
        · rw [if_pos (.inr (.inl h2))] at hz
          obtain ⟨rfl, rfl⟩ := Prod.mk.inj hz
          have q2 : (lo == 14) = true := by simp [h2]
          clear h1 h2 hz
          go_wp2_with fail
          exact bodyPost_ret (v := .tuple #[.int .i64 0, .int .i64 0]) (by simp [results, Tryd.results34, go_sem]) rfl ⟨rfl, hbw⟩
        · have q2 : (lo == 14) = false := beq_no h2
          by_cases h3 : lo = 18
          · rw [if_pos (.inr (.inr h3))] at hz
            obtain ⟨rfl, rfl⟩ := Prod.mk.inj hz
            have q3 : (lo == 18) = true := by simp [h3]
            clear h1 h2 h3 hz
            go_wp2_with fail
            exact bodyPost_ret (v := .tuple #[.int .i64 0, .int .i64 0]) (by simp [results, Tryd.results34, go_sem]) rfl ⟨rfl, hbw⟩
          · rw [if_neg (by simp [h1, h2, h3])] at hz
            obtain ⟨rfl, rfl⟩ := Prod.mk.inj hz
            have q3 : (lo == 18) = false := beq_no h3
            clear h1 h2 h3 hz
            go_wp2_with fail
            exact bodyPost_ret (v := .tuple #[.int .i64 64, .int .i64 n]) (by simp [results, Tryd.results34, go_sem]) rfl ⟨rfl, hbw⟩
end Go.Proofs.YtlkoigdnakmdlaaDoor

/- scan.letter, digit, letterOrDigit, row, Word and Name, as package tree calls them: what each answers; the world stays. -/
namespace Go.Proofs.YtlkoigdnakmdlaaDoor
open Go.RowKit

set_option maxHeartbeats 400000 in
theorem letter_any (n : Int) (w : World) (h0 : 0 ≤ n) (h1 : n ≤ 255) :
    Calls Tryd.prog 56 #[.int .u8 n] w fun e w' => e = .returned (.bool (letB n)) ∧ w' = w := by
  by_cases h : 97 ≤ n
  · go_enter Tryd.func56, Tryd.ntmps56
    go_wp2
    go_ret
    exact ⟨ret_bool (by simp [letB, h]), rfl⟩
  · go_enter Tryd.func56, Tryd.ntmps56
    go_wp2
    go_ret
    exact ⟨ret_bool (by simp [letB]; omega), rfl⟩

set_option maxHeartbeats 400000 in
theorem digit_any (n : Int) (w : World) (h0 : 0 ≤ n) (h1 : n ≤ 255) :
    Calls Tryd.prog 59 #[.int .u8 n] w fun e w' => e = .returned (.bool (digB n)) ∧ w' = w := by
  by_cases h : 48 ≤ n
  · go_enter Tryd.func59, Tryd.ntmps59
    go_wp2
    go_ret
    exact ⟨ret_bool (by simp [digB, h]), rfl⟩
  · go_enter Tryd.func59, Tryd.ntmps59
    go_wp2
    go_ret
    exact ⟨ret_bool (by simp [digB]; omega), rfl⟩

set_option maxHeartbeats 400000 in
theorem lod_any (n : Int) (w : World) (h0 : 0 ≤ n) (h1 : n ≤ 255) :
    Calls Tryd.prog 58 #[.int .u8 n] w fun e w' => e = .returned (.bool (lodB n)) ∧ w' = w := by
  by_cases h : letB n = true
  · go_enter Tryd.func58, Tryd.ntmps58
    go_wp2_with (first | (go_at_call 56; refine (letter_any _ _ h0 h1).mono ?_; rintro e w' ⟨rfl, rfl⟩) | (go_at_call 59; refine (digit_any _ _ h0 h1).mono ?_; rintro e w' ⟨rfl, rfl⟩))
    go_ret
    exact ⟨ret_bool (by simp [lodB, h]), rfl⟩
  · have h' : letB n = false := by simpa using h
    go_enter Tryd.func58, Tryd.ntmps58
    go_wp2_with (first | (go_at_call 56; refine (letter_any _ _ h0 h1).mono ?_; rintro e w' ⟨rfl, rfl⟩) | (go_at_call 59; refine (digit_any _ _ h0 h1).mono ?_; rintro e w' ⟨rfl, rfl⟩))
    go_ret
    exact ⟨ret_bool (by simp [lodB, h']), rfl⟩

theorem u8_le (c : UInt8) : (c.toNat : Int) ≤ 255 := by have := c.toNat_lt; omega

set_option maxHeartbeats 400000 in
theorem row_lod (s : ByteArray) (w : World) (hs : s.size ≤ maxLen) :
    Calls Tryd.prog 57 #[.string s, .func (.func 58) #[] #[]] w fun e w' => e = .returned (.int .i64 (rowLen isLod s.data.toList : Nat)) ∧ w' = w := by
  unfold maxLen at hs
  have hle : rowLen isLod s.data.toList ≤ s.size := rowLen_le isLod s.data.toList
  go_enter Tryd.func57, Tryd.ntmps57
  go_wp2
  go_loop [5] (fun i => ∃ k : Nat, k ≤ rowLen isLod s.data.toList ∧ i = .int .i64 k) (fun i => s.size - (intOf i).toNat)
  case atStart => exact ⟨0, Nat.zero_le _, rfl⟩
  case round =>
    obtain ⟨k, hk, rfl⟩ := hrel
    by_cases hlt : k < s.size
    · by_cases hp : lodB s[k].toNat = true
      · have hnext := rowLen_hit isLod s.data.toList k hk hlt hp
        go_wp2_with (go_at_call 58; refine (lod_any _ _ (by omega) (u8_le _)).mono ?_; rintro e w' ⟨rfl, rfl⟩)
        go_round
        case rel => exact ⟨k + 1, hnext, by go_num⟩
        case measure => simp [intOf]; omega
      · have hp' : lodB s[k].toNat = false := by simpa using hp
        have hend := rowLen_miss isLod s.data.toList k hk hlt hp'
        have HE : Hid (rowLen isLod s.data.toList = k) := hend
        clear hend hp
        go_wp2_with (go_at_call 58; refine (lod_any _ _ (by omega) (u8_le _)).mono ?_; rintro e w' ⟨rfl, rfl⟩)
        go_ret
        exact ⟨ret_int (by rw [HE.out]), rfl⟩
    · have HE : Hid (rowLen isLod s.data.toList = k) := (by omega : rowLen isLod s.data.toList = k)
      go_wp2_with (go_at_call 58; refine (lod_any _ _ (by omega) (u8_le _)).mono ?_; rintro e w' ⟨rfl, rfl⟩)
      go_ret
      exact ⟨ret_int (by rw [HE.out]), rfl⟩
theorem ba_list (s : ByteArray) : s.toList = s.data.toList := ByteArray.toList_eq s
theorem ba_take (s : ByteArray) (n : Nat) : (s.extract 0 n).toList = s.data.toList.take n := by
  rw [ba_list]; simp

set_option maxHeartbeats 2000000 in
theorem word_any (s : ByteArray) (w : World) :
    Calls Tryd.prog 54 #[.string s] w fun e w' => e = .returned (.bool (wordB s.data.toList)) ∧ w' = w := by
  rw [← ba_list]
  go_enter Tryd.func54, Tryd.ntmps54
  go_wp2
  all_goals first
    | (exfalso; have hx : ∀ b : Bool, b = true → b = false → False := (fun b h1 h2 => by rw [h1] at h2; cases h2); exact hx _ (by assumption) (by assumption))
    | (go_ret; exact ⟨ret_bool (by simp only [wordB, *, Bool.or_true, Bool.true_or, Bool.or_false]), rfl⟩)


/-- May a text be a name? -/
def nameB (l : List UInt8) : Bool := match l with | [] => false | c :: _ => decide (l.length ≤ 16) && !wordB l && isLet c && decide (rowLen isLod l = l.length)

theorem isEmpty_of (s : ByteArray) (h : 0 < s.size) : s.toList.isEmpty = false := by
  rw [ba_list]
  cases hx : s.data.toList with
  | nil => have := ba_len s; rw [hx] at this; simp at this; omega
  | cons _ _ => rfl

set_option maxHeartbeats 1000000 in
theorem name_empty (w : World) : Calls Tryd.prog 53 #[.string ⟨#[]⟩] w fun e w' => e = .returned (.bool false) ∧ w' = w := by
  go_enter Tryd.func53, Tryd.ntmps53
  go_wp2
  go_ret
  exact ⟨rfl, rfl⟩

set_option maxHeartbeats 1000000 in
theorem name_long (s : ByteArray) (w : World) (he : s.toList.isEmpty = false) (h : 16 < (s.size : Int)) : Calls Tryd.prog 53 #[.string s] w fun e w' => e = .returned (.bool false) ∧ w' = w := by
  go_enter Tryd.func53, Tryd.ntmps53
  go_wp2
  go_ret
  exact ⟨rfl, rfl⟩

set_option maxHeartbeats 1000000 in
theorem name_word (s : ByteArray) (w : World) (he : s.toList.isEmpty = false) (h : ¬ 16 < (s.size : Int)) (hw : wordB s.data.toList = true) : Calls Tryd.prog 53 #[.string s] w fun e w' => e = .returned (.bool false) ∧ w' = w := by
  have h16 : ∀ w, Calls Tryd.prog 54 #[.string s] w fun e w' => e = .returned (.bool true) ∧ w' = w := by intro w; rw [← hw]; exact word_any _ w
  clear hw
  go_enter Tryd.func53, Tryd.ntmps53
  go_wp2_with (go_at_call 54; refine (h16 _).mono ?_; rintro e w' ⟨rfl, rfl⟩)
  go_ret
  exact ⟨rfl, rfl⟩

set_option maxHeartbeats 1000000 in
theorem name_digit (s : ByteArray) (w : World) (h0 : 0 < s.size) (he : s.toList.isEmpty = false) (h : ¬ 16 < (s.size : Int)) (hw : wordB s.data.toList = false) (hl : letB s[0].toNat = false) : Calls Tryd.prog 53 #[.string s] w fun e w' => e = .returned (.bool false) ∧ w' = w := by
  have h16 : ∀ w, Calls Tryd.prog 54 #[.string s] w fun e w' => e = .returned (.bool false) ∧ w' = w := by intro w; rw [← hw]; exact word_any _ w
  have h28 : ∀ w, Calls Tryd.prog 56 #[.int .u8 s[0].toNat] w fun e w' => e = .returned (.bool false) ∧ w' = w := fun w => by rw [← hl]; exact letter_any _ w (by omega) (u8_le _)
  clear hw hl
  go_enter Tryd.func53, Tryd.ntmps53
  go_wp2_with (first | (go_at_call 54; refine (h16 _).mono ?_; rintro e w' ⟨rfl, rfl⟩) | (go_at_call 56; refine (h28 _).mono ?_; rintro e w' ⟨rfl, rfl⟩))
  go_ret
  exact ⟨rfl, rfl⟩

set_option maxHeartbeats 1000000 in
theorem name_rest (s : ByteArray) (b : Bool) (w : World) (h0 : 0 < s.size) (he : s.toList.isEmpty = false) (h : ¬ 16 < (s.size : Int)) (hw : wordB s.data.toList = false) (hl : letB s[0].toNat = true)
    (hb : (((rowLen isLod s.data.toList : Nat) : Int) == (s.size : Int)) = b) : Calls Tryd.prog 53 #[.string s] w fun e w' => e = .returned (.bool b) ∧ w' = w := by
  have h16 : ∀ w, Calls Tryd.prog 54 #[.string s] w fun e w' => e = .returned (.bool false) ∧ w' = w := by intro w; rw [← hw]; exact word_any _ w
  have h28 : ∀ w, Calls Tryd.prog 56 #[.int .u8 s[0].toNat] w fun e w' => e = .returned (.bool true) ∧ w' = w := fun w => by rw [← hl]; exact letter_any _ w (by omega) (u8_le _)
  have h29 : ∀ w, Calls Tryd.prog 57 #[.string s, .func (.func 58) #[] #[]] w fun e w' => e = .returned (.int .i64 (rowLen isLod s.data.toList : Nat)) ∧ w' = w := fun w => row_lod s w (by unfold maxLen; omega)
  clear hw hl
  go_enter Tryd.func53, Tryd.ntmps53
  go_wp2_with (first | (go_at_call 54; refine (h16 _).mono ?_; rintro e w' ⟨rfl, rfl⟩) | (go_at_call 56; refine (h28 _).mono ?_; rintro e w' ⟨rfl, rfl⟩) | (go_at_call 57; refine (h29 _).mono ?_; rintro e w' ⟨rfl, rfl⟩))
  go_ret
  exact ⟨ret_bool (by simp), rfl⟩

theorem nameB_cons {l : List UInt8} (h : 0 < l.length) : nameB l = (decide (l.length ≤ 16) && !wordB l && isLet l[0] && decide (rowLen isLod l = l.length)) := by
  cases l with
  | nil => simp at h
  | cons c r => rfl

theorem name_any (s : ByteArray) (w : World) : Calls Tryd.prog 53 #[.string s] w fun e w' => e = .returned (.bool (nameB s.data.toList)) ∧ w' = w := by
  have hlen := ba_len s
  by_cases h0 : 0 < s.size
  · have he := isEmpty_of s h0
    have hl0 : 0 < s.data.toList.length := by omega
    rw [nameB_cons hl0]
    by_cases h16 : s.size ≤ 16
    · have d1 : decide (s.data.toList.length ≤ 16) = true := by simp only [decide_eq_true_eq]; omega
      rw [d1]
      cases hw : wordB s.data.toList with
      | true => exact name_word s w he (by omega) hw
      | false =>
        cases hl : letB s[0].toNat with
        | false => rw [show isLet s.data.toList[0] = false from hl]; simp only [Bool.and_false, Bool.false_and]; exact name_digit s w h0 he (by omega) hw hl
        | true =>
          rw [show isLet s.data.toList[0] = true from hl]; simp only [Bool.not_false, Bool.and_true, Bool.true_and]
          refine name_rest s _ w h0 he (by omega) hw hl ?_
          rw [hlen, Bool.eq_iff_iff]; simp only [beq_iff_eq, decide_eq_true_eq]; omega
    · have d1 : decide (s.data.toList.length ≤ 16) = false := by simp only [decide_eq_false_iff_not]; omega
      rw [d1]; simp only [Bool.false_and]
      exact name_long s w he (by omega)
  · have : s = ⟨#[]⟩ := by
      apply ByteArray.ext; apply Array.eq_empty_of_size_eq_zero; show s.size = 0; omega
    rw [this]; exact name_empty w

end Go.Proofs.YtlkoigdnakmdlaaDoor

/- Names of a module's functions. -/
namespace Go.Proofs.YtlkoigdnakmdlaaDoor
open Go.RowKit Go.Sort

theorem wordB_id {l : List UInt8} (h : wordB l = true) : idB l = true := by
  simp only [wordB, Bool.or_eq_true, beq_iff_eq] at h
  rcases h with (((((((((h | h) | h) | h) | h) | h) | h) | h) | h) | h) | h <;> subst h <;> decide
theorem name_or (l : List UInt8) : (nameB l || wordB l) = idB l := by
  cases hw : wordB l with
  | true => rw [wordB_id hw, Bool.or_true]
  | false =>
    rw [Bool.or_false]
    cases l with
    | nil => rfl
    | cons c r => simp only [nameB, idB, hw, Bool.not_false, Bool.and_true]
set_option maxHeartbeats 400000 in
theorem isName_any (s : ByteArray) (w : World) : Calls Tryd.prog 44 #[.string s] w fun e w' => e = .returned (.bool (idB s.data.toList)) ∧ w' = w := by
  have HN := Hid.mk' (name_any s)
  have HW := Hid.mk' (word_any s)
  have HI := Hid.mk' (name_or s.data.toList)
  generalize nameB s.data.toList = a at *
  generalize wordB s.data.toList = b at *
  generalize idB s.data.toList = c at *
  cases a
  · go_enter Tryd.func44, Tryd.ntmps44
    go_wp2_with (first | (go_at_call 53; refine (HN.out _).mono ?_; rintro e w1 ⟨rfl, rfl⟩) | (go_at_call 54; refine (HW.out _).mono ?_; rintro e w1 ⟨rfl, rfl⟩))
    go_ret
    exact ⟨ret_bool (by rw [← HI.out]; rfl), rfl⟩
  · go_enter Tryd.func44, Tryd.ntmps44
    go_wp2_with (first | (go_at_call 53; refine (HN.out _).mono ?_; rintro e w1 ⟨rfl, rfl⟩) | (go_at_call 54; refine (HW.out _).mono ?_; rintro e w1 ⟨rfl, rfl⟩))
    go_ret
    exact ⟨ret_bool (by rw [← HI.out]; rfl), rfl⟩

/-- What has been looked at so far is as it should be. -/
def idU (l : List UInt8) (k : Nat) : Prop := k ≤ rowLen isLod l ∧ ∀ c r, l = c :: r → 0 < k → isLet c = true
theorem idB_len {l : List UInt8} (h : l.length < 1 ∨ 16 < l.length) : idB l = false := by
  cases l with
  | nil => rfl
  | cons c r =>
    have : ¬ (c :: r).length ≤ 16 := by simp at h ⊢; omega
    rw [idB, decide_eq_false this]; rfl
theorem idB_end {l : List UInt8} (h0 : 0 < l.length) (h1 : l.length ≤ 16) (h : idU l l.length) : idB l = true := by
  cases l with
  | nil => simp at h0
  | cons c r =>
    have h2 := h.2 c r rfl h0
    have h3 : rowLen isLod (c :: r) = (c :: r).length := by have := h.1; have := rowLen_le isLod (c :: r); omega
    simp [idB, h2, h3]; simpa using h1
theorem idB_bad {l : List UInt8} {k : Nat} (hk : k < l.length) (h : idU l k) (hb : isLod l[k] = false) : idB l = false := by
  have := rowLen_miss isLod l k h.1 hk hb
  cases l with
  | nil => simp at hk
  | cons c r =>
    have h3 : ¬ rowLen isLod (c :: r) = (c :: r).length := by omega
    rw [idB, decide_eq_false h3, Bool.and_false]
theorem idB_digit {l : List UInt8} (hk : 0 < l.length) (hb : isLet l[0] = false) : idB l = false := by
  cases l with
  | nil => simp at hk
  | cons c r => have : isLet c = false := hb; simp [idB, this]
theorem idU_next {l : List UInt8} {k : Nat} (hk : k < l.length) (h : idU l k) (hb : isLod l[k] = true) (h0 : k = 0 → isLet l[k] = true) : idU l (k + 1) := by
  refine ⟨rowLen_hit isLod l k h.1 hk hb, fun c r e _ => ?_⟩
  subst e
  cases k with
  | zero => exact h0 rfl
  | succ k => exact h.2 c r rfl (by omega)
theorem let_yes {c : UInt8} (h1 : 97 ≤ c.toNat) (h2 : c.toNat ≤ 122) : isLet c = true := by simp [isLet, letB]; omega
theorem let_no {c : UInt8} (h : c.toNat < 97 ∨ 122 < c.toNat) : isLet c = false := by simp [isLet, letB]; omega
theorem lod_yes {c : UInt8} (h : (97 ≤ c.toNat ∧ c.toNat ≤ 122) ∨ (48 ≤ c.toNat ∧ c.toNat ≤ 57)) : isLod c = true := by simp [isLod, lodB, letB, digB]; omega
theorem lod_no {c : UInt8} (h : c.toNat < 48 ∨ (57 < c.toNat ∧ c.toNat < 97) ∨ 122 < c.toNat) : isLod c = false := by simp [isLod, lodB, letB, digB]; omega

set_option maxRecDepth 100000 in
set_option maxHeartbeats 4000000 in
theorem risName_any (s : ByteArray) (w : World) : Calls Tryd.prog 46 #[.string s] w fun e w' => e = .returned (.bool (idB s.data.toList)) ∧ w' = w := by
  have hlen := ba_len s
  by_cases hl : s.data.toList.length < 1 ∨ 16 < s.data.toList.length
  · rw [idB_len hl]
    rw [hlen] at hl
    clear hlen
    by_cases h0 : s.size < 1
    · go_enter Tryd.func46, Tryd.ntmps46
      go_wp2_with fail
      go_ret
      exact ⟨rfl, rfl⟩
    · have h1 : 16 < s.size := by omega
      clear hl
      go_enter Tryd.func46, Tryd.ntmps46
      go_wp2_with fail
      go_ret
      exact ⟨rfl, rfl⟩
  · have h0 : ¬ s.size < 1 := by omega
    have h1 : ¬ 16 < s.size := by omega
    have HL := Hid.mk' hlen
    clear hl hlen
    go_enter Tryd.func46, Tryd.ntmps46
    go_wp2_with fail
    go_loop [3] (fun i => ∃ k : Nat, k ≤ s.size ∧ i = .int .i64 k ∧ idU s.data.toList k) (fun i => s.size - (intOf i).toNat)
    case atStart => exact ⟨0, Nat.zero_le _, rfl, Nat.zero_le _, fun c r _ h => by omega⟩
    case round =>
      obtain ⟨k, hk, rfl, hu⟩ := hrel
      have HU := Hid.mk' hu
      clear hu
      by_cases hlt : k < s.size
      · have key : ∀ h : k < s.data.toList.length, s.data.toList[k] = s[k]'hlt := fun _ => rfl
        have hlt' : k < s.data.toList.length := by rw [HL.out]; exact hlt
        have F1 : Hid ((97 ≤ (s[k]'hlt).toNat ∧ (s[k]'hlt).toNat ≤ 122) → idU s.data.toList (k + 1)) := fun h => idU_next hlt' HU.out (by rw [key]; exact lod_yes (.inl h)) (fun _ => by rw [key]; exact let_yes h.1 h.2)
        have F2 : Hid ((48 ≤ (s[k]'hlt).toNat ∧ (s[k]'hlt).toNat ≤ 57) → k ≠ 0 → idU s.data.toList (k + 1)) := fun h h0 => idU_next hlt' HU.out (by rw [key]; exact lod_yes (.inr h)) (fun e => absurd e h0)
        have F3 : Hid ((48 ≤ (s[k]'hlt).toNat ∧ (s[k]'hlt).toNat ≤ 57) → k = 0 → idB s.data.toList = false) := fun h h0 => by subst h0; exact idB_digit hlt' (by rw [key]; exact let_no (.inl (by omega)))
        have F4 : Hid (((s[k]'hlt).toNat < 48 ∨ (57 < (s[k]'hlt).toNat ∧ (s[k]'hlt).toNat < 97) ∨ 122 < (s[k]'hlt).toNat) → idB s.data.toList = false) := fun h => idB_bad hlt' HU.out (by rw [key]; exact lod_no h)
        clear key hlt'
        have hsplit : (97 ≤ (s[k]'hlt).toNat ∧ (s[k]'hlt).toNat ≤ 122) ∨ (48 ≤ (s[k]'hlt).toNat ∧ (s[k]'hlt).toNat ≤ 57) ∨ (s[k]'hlt).toNat < 48 ∨ (57 < (s[k]'hlt).toNat ∧ (s[k]'hlt).toNat < 97) ∨ 122 < (s[k]'hlt).toNat := by omega
        rcases hsplit with ⟨c1, c2⟩ | ⟨c1, c2⟩ | c1 | ⟨c1, c2⟩ | c1
        · have HN := Hid.mk' (F1.out ⟨c1, c2⟩)
          have c3 : decide (((s[k]'hlt).toNat : Int) ≤ 57) = false := decide_eq_false (by omega)
          have c4 : decide (((s[k]'hlt).toNat : Int) ≤ 122) = true := decide_eq_true (by omega)
          by_cases hk0 : k = 0
          · have hk1 : ((k : Int) == 0) = true := by simp [hk0]
            clear hk0
            go_wp2_with fail
            go_round
            case rel => exact ⟨k + 1, by omega, by go_num, HN.out⟩
            case measure => simp [intOf]; omega
          · have hk1 : ((k : Int) == 0) = false := beq_no (by omega)
            go_wp2_with fail
            go_round
            case rel => exact ⟨k + 1, by omega, by go_num, HN.out⟩
            case measure => simp [intOf]; omega
        · by_cases hk0 : k = 0
          · have HE := Hid.mk' (F3.out ⟨c1, c2⟩ hk0)
            have hk1 : ((k : Int) == 0) = true := by simp [hk0]
            clear hk0
            go_wp2_with fail
            go_ret
            exact ⟨ret_bool (by rw [HE.out]), rfl⟩
          · have HN := Hid.mk' (F2.out ⟨c1, c2⟩ hk0)
            have hk1 : ((k : Int) == 0) = false := beq_no (by omega)
            go_wp2_with fail
            go_round
            case rel => exact ⟨k + 1, by omega, by go_num, HN.out⟩
            case measure => simp [intOf]; omega
        all_goals
          have HE := Hid.mk' (F4.out (by omega))
          go_wp2_with fail
          go_ret
          exact ⟨ret_bool (by rw [HE.out]), rfl⟩
      · have he : k = s.data.toList.length := by rw [HL.out]; omega
        have HE := Hid.mk' (idB_end (l := s.data.toList) (by rw [HL.out]; omega) (by rw [HL.out]; omega) (by rw [← he]; exact HU.out))
        clear he
        go_wp2_with fail
        go_ret
        exact ⟨ret_bool (by rw [HE.out]), rfl⟩
end Go.Proofs.YtlkoigdnakmdlaaDoor

/- Where a name stands. -/
namespace Go.Proofs.YtlkoigdnakmdlaaDoor
open Go.RowKit Go.Sort

set_option maxRecDepth 100000 in
set_option maxHeartbeats 2000000 in
theorem find_any (m : Mo) (s : ByteArray) (w : World) (hm : Fns w m.fa m.funcs) : Calls Tryd.prog 23 #[m.val, .string s] w fun e w' => e = .returned (.int .i64 (fndN m.funcs s 0)) ∧ Below w.heap.size w w' := by
  have hb0 := Below.one (Below.refl _ w) (.cells #[.slice m.ta m.ths.length m.tc, .slice m.fa m.funcs.length m.fc] 33)
  have hc := hm.1
  have HM := Hid.mk' hm
  clear hm
  unfold Mo.val
  obtain ⟨_, _, _, a, c, l⟩ := m
  simp only at HM hc hb0 ⊢
  go_enter Tryd.func23, Tryd.ntmps23
  go_wp2_with fail
  go_loopw [10] (fun t10 wr => ∃ (j : Nat), j ≤ l.length ∧ t10 = .int .i64 j ∧ fndN (l.drop j) s j = fndN l s 0 ∧ Below w.heap.size w wr) (fun t10 _ => l.length - (intOf t10).toNat)
  case atStart => exact ⟨0, Nat.zero_le _, rfl, rfl, hb0⟩
  case round =>
    obtain ⟨j, hj, rfl, hcnt, hb⟩ := hrel
    have HC : Hid (fndN (l.drop j) s j = fndN l s 0) := hcnt
    clear hcnt
    by_cases hlt : j < l.length
    · obtain ⟨b, o, rfl, c0, c1, c2, c3, c4⟩ := fns_at (HM.out.stay hb) hlt
      have hli : (j : Int) < (l.length : Int) := by omega
      have HD := Hid.mk' (fndN_drop (s := s) hlt)
      generalize l[j] = f at *
      cases ev : (f.name.toList == s.toList)
      · go_wp2_with fail
        go_roundw
        case rel => exact ⟨j + 1, by omega, by go_num, by rw [← HC.out, HD.out, ev]; rfl, Below.one hb _⟩
        case measure => simp [intOf]; omega
      · go_wp2_with fail
        go_ret
        exact ⟨ret_int (by rw [← HC.out, HD.out, ev]; rfl), Below.one hb _⟩
    · go_wp2_with fail
      go_ret
      exact ⟨ret_int (by rw [← HC.out, List.drop_eq_nil_of_le (by omega)]; rfl), hb⟩
set_option maxRecDepth 100000 in
set_option maxHeartbeats 2000000 in
theorem rfind_any (m : Mo) (s : ByteArray) (w : World) (hm : Fns w m.fa m.funcs) : Calls Tryd.prog 24 #[m.val, .string s] w fun e w' => e = .returned (.int .i64 (fndN m.funcs s 0)) ∧ Below w.heap.size w w' := by
  have hb0 := Below.one (Below.refl _ w) (.cells #[.slice m.ta m.ths.length m.tc, .slice m.fa m.funcs.length m.fc] 33)
  have hc := hm.1
  have HM := Hid.mk' (hm.stay hb0)
  clear hm
  unfold Mo.val
  obtain ⟨ta, tc, ths, a, c, l⟩ := m
  simp only at HM hc hb0 ⊢
  go_enter Tryd.func24, Tryd.ntmps24
  go_wp2_with fail
  go_loop [5] (fun i => ∃ (j : Nat), j ≤ l.length ∧ i = .int .i64 j ∧ fndN (l.drop j) s j = fndN l s 0) (fun i => l.length - (intOf i).toNat)
  case atStart => exact ⟨0, Nat.zero_le _, rfl, rfl⟩
  case round =>
    obtain ⟨j, hj, rfl, hcnt⟩ := hrel
    have HC : Hid (fndN (l.drop j) s j = fndN l s 0) := hcnt
    clear hcnt
    by_cases hlt : j < l.length
    · obtain ⟨b, o, rfl, c0, c1, c2, c3, c4⟩ := fns_at HM.out hlt
      have hli : (j : Int) < (l.length : Int) := by omega
      have HD := Hid.mk' (fndN_drop (s := s) hlt)
      generalize l[j] = f at *
      cases ev : (f.name.toList == s.toList)
      · go_wp2_with fail
        go_round
        case rel => exact ⟨j + 1, by omega, by go_num, by rw [← HC.out, HD.out, ev]; rfl⟩
        case measure => simp [intOf]; omega
      · go_wp2_with fail
        go_ret
        exact ⟨ret_int (by rw [← HC.out, HD.out, ev]; rfl), hb0⟩
    · go_wp2_with fail
      go_ret
      exact ⟨ret_int (by rw [← HC.out, List.drop_eq_nil_of_le (by omega)]; rfl), hb0⟩
end Go.Proofs.YtlkoigdnakmdlaaDoor

/- What is wrong with a function as a whole: checkHead. -/
namespace Go.Proofs.YtlkoigdnakmdlaaDoor
open Go.RowKit Go.Sort

/-- Behind the parameters. -/
def restZ (f : Fn) : Int × Int := if f.regs < 1 ∨ f.regs > 64 ∨ f.regs < f.params.length then (95, 0) else if f.words < 0 ∨ f.words > 4096 then (96, 0) else if f.code.length < 1 ∨ f.code.length > 1024 then (97, 0) else (0, 0)
theorem headZ_name {m : Mo} {f : Fn} {k : Nat} (h : idB f.name.data.toList = false) : headZ m f k = (8, 0) := by unfold headZ; rw [if_pos h]
theorem headZ_twice {m : Mo} {f : Fn} {k : Nat} (h : idB f.name.data.toList = true) (h2 : fndN m.funcs f.name 0 < k) : headZ m f k = (9, 0) := by unfold headZ; rw [if_neg (by rw [h]; decide), if_pos h2]
theorem headZ_many {m : Mo} {f : Fn} {k : Nat} (h : idB f.name.data.toList = true) (h2 : ¬ fndN m.funcs f.name 0 < k) (h3 : f.params.length > 8) : headZ m f k = (3, 8) := by unfold headZ; rw [if_neg (by rw [h]; decide), if_neg h2, if_pos h3]
theorem headZ_empty {m : Mo} {f : Fn} {k i : Nat} (h : idB f.name.data.toList = true) (h2 : ¬ fndN m.funcs f.name 0 < k) (h3 : ¬ f.params.length > 8) (h4 : emptN f.params 0 = some i) : headZ m f k = (40, (i : Int)) := by
  unfold headZ; rw [if_neg (by rw [h]; decide), if_neg h2, if_neg h3, h4]
theorem headZ_rest {m : Mo} {f : Fn} {k : Nat} (h : idB f.name.data.toList = true) (h2 : ¬ fndN m.funcs f.name 0 < k) (h3 : ¬ f.params.length > 8) (h4 : emptN f.params 0 = none) : headZ m f k = restZ f := by
  unfold headZ; rw [if_neg (by rw [h]; decide), if_neg h2, if_neg h3, h4]; rfl

set_option maxRecDepth 100000 in
set_option maxHeartbeats 4000000 in
theorem checkHead_any (m : Mo) (k : Nat) (w : World) (hm : m.In w) (f : Fn) (hk : m.funcs[k]? = some f) :
    Calls Tryd.prog 33 #[m.val, .int .i64 k] w fun e w' => e = .returned (.tuple #[.int .i64 (headZ m f k).1, .int .i64 (headZ m f k).2]) ∧ Below w.heap.size w w' := by
  obtain ⟨hk1, hk2⟩ := List.getElem?_eq_some_iff.1 hk
  have hb0 := Below.one (Below.refl _ w) (oM m)
  obtain ⟨b, o, ea, c0, c1, c2, c3, c4⟩ := fns_at (hm.2.2.1.stay hb0) hk1
  rw [hk2] at c0 c1 c2 c3 c4
  have hfl := hm.2.2.1.1
  have hfin := hm.2.2.2 f (List.mem_of_getElem? hk)
  have hki : (k : Int) < (m.funcs.length : Int) := by omega
  have hb := Below.one hb0 (oF f)
  have B := boxMF_new w m f
  have HP := Hid.mk' hfin.2.2.2.1
  have hcp := hfin.2.2.2.1.1
  have hcc := hfin.2.2.2.2.2.1.1
  have HI := Hid.mk' (isName_any f.name)
  have HFi : Hid (∀ (w' : World), Below w.heap.size w w' → Calls Tryd.prog 23 #[.agg #[.slice m.ta m.ths.length m.tc, .slice m.fa m.funcs.length m.fc], .string f.name] w' fun e w'' => e = .returned (.int .i64 (fndN m.funcs f.name 0)) ∧ Below w'.heap.size w' w'') :=
    fun w' hb => find_any m f.name w' (hm.2.2.1.stay hb)
  have HED : Hid (∀ (j : Nat) (s : Sp), f.params[j]? = some s → emptN (f.params.drop j) j = if s.1 > s.2 then some j else emptN (f.params.drop (j + 1)) (j + 1)) := fun j x h => by
    obtain ⟨h1, h2⟩ := List.getElem?_eq_some_iff.1 h
    rw [emptN_drop h1, h2]
  have HEN : Hid (∀ j, ¬ j < f.params.length → emptN (f.params.drop j) j = none) := fun j h => by rw [List.drop_eq_nil_of_le (by omega)]; rfl
  have H1 := Hid.mk' (headZ_name (m := m) (f := f) (k := k))
  have H2 := Hid.mk' (headZ_twice (m := m) (f := f) (k := k))
  have H3 := Hid.mk' (headZ_many (m := m) (f := f) (k := k))
  have H4 : Hid (∀ i, _ → _ → _ → _ → _) := fun i => headZ_empty (m := m) (f := f) (k := k) (i := i)
  have H5 := Hid.mk' (headZ_rest (m := m) (f := f) (k := k))
  have HR : Hid (restZ f = if f.regs < 1 ∨ f.regs > 64 ∨ f.regs < f.params.length then (95, 0) else if f.words < 0 ∨ f.words > 4096 then (96, 0) else if f.code.length < 1 ∨ f.code.length > 1024 then (97, 0) else (0, 0)) := (rfl : restZ f = _)
  have hblk : b < w.heap.size := by
    obtain ⟨b', o', e', d0, _⟩ := fns_at hm.2.2.1 hk1
    rw [ea] at e'; cases e'
    exact lt_of_cell d0
  clear hm hfin hk hk2 hk1
  generalize headZ m f k = Z at *
  generalize fndN m.funcs f.name 0 = fi at *
  generalize idB f.name.data.toList = id at *
  generalize restZ f = R at *
  obtain ⟨z1, z2⟩ := Z
  unfold oM oF at *
  obtain ⟨b0, b1, b2, b3, b4, b5, b6⟩ := B
  obtain ⟨name, pa, pc, params, regs, words, ca, cc, code⟩ := f
  unfold Mo.val
  simp only at *
  generalize m.fa = fa at *
  subst ea
  generalize m.funcs.length = FL at *
  generalize m.ths.length = TL at *
  generalize m.ta = ta at *
  generalize m.tc = tc at *
  generalize m.fc = fc at *
  cases id
  · obtain ⟨rfl, rfl⟩ := Prod.mk.inj (H1.out rfl)
    clear H1 H2 H3 H4 H5 HFi HED HEN HR
    go_enter Tryd.func33, Tryd.ntmps33
    go_wp2_with (go_at_call 44; refine (HI.out _).mono ?_; rintro e w1 ⟨rfl, rfl⟩)
    exact bodyPost_ret (v := .tuple #[.int .i64 8, .int .i64 0]) (by simp [results, Tryd.results33, go_sem]) rfl ⟨rfl, hb⟩
  · by_cases h2 : fi < (k : Int)
    · obtain ⟨rfl, rfl⟩ := Prod.mk.inj (H2.out rfl h2)
      clear H1 H2 H3 H4 H5 HED HEN HR
      go_enter Tryd.func33, Tryd.ntmps33
      go_wp2_with (first | (go_at_call 44; refine (HI.out _).mono ?_; rintro e w1 ⟨rfl, rfl⟩) | (go_at_call 23; refine (HFi.out _ hb).mono ?_; rintro e w2 ⟨rfl, hb2⟩))
      exact bodyPost_ret (v := .tuple #[.int .i64 9, .int .i64 0]) (by simp [results, Tryd.results33, go_sem]) rfl ⟨rfl, Below.on hb hb2⟩
    · by_cases h3 : params.length > 8
      · obtain ⟨rfl, rfl⟩ := Prod.mk.inj (H3.out rfl h2 h3)
        have h3' : decide ((8 : Int) < (params.length : Int)) = true := decide_eq_true (by omega)
        clear H1 H2 H3 H4 H5 HED HEN HR
        go_enter Tryd.func33, Tryd.ntmps33
        go_wp2_with (first | (go_at_call 44; refine (HI.out _).mono ?_; rintro e w1 ⟨rfl, rfl⟩) | (go_at_call 23; refine (HFi.out _ hb).mono ?_; rintro e w2 ⟨rfl, hb2⟩; replace b3 := cell_kept_below b3 hb2))
        exact bodyPost_ret (v := .tuple #[.int .i64 3, .int .i64 8]) (by simp [results, Tryd.results33, go_sem]) rfl ⟨rfl, Below.on hb hb2⟩
      · have h3' : ¬ ((8 : Int) < (params.length : Int)) := by omega
        have H4' : Hid (∀ i : Nat, emptN params 0 = some i → (z1, z2) = (40, (i : Int))) := fun i h => H4.out i rfl h2 h3 h
        have H5' : Hid (emptN params 0 = none → (z1, z2) = R) := fun h => H5.out rfl h2 h3 h
        clear H1 H2 H3 H4 H5 h3
        go_enter Tryd.func33, Tryd.ntmps33
        go_wp2_with (first | (go_at_call 44; refine (HI.out _).mono ?_; rintro e w1 ⟨rfl, rfl⟩) | (go_at_call 23; refine (HFi.out _ hb).mono ?_; rintro e w2 ⟨rfl, hb2⟩; replace b3 := cell_kept_below b3 hb2; replace b4 := cell_kept_below b4 hb2; replace b5 := cell_kept_below b5 hb2; replace b6 := cell_kept_below b6 hb2; replace hb := Below.on hb hb2; clear hb2))
        go_loopw [34] (fun t34 wr => ∃ (j : Nat), j ≤ params.length ∧ t34 = .int .i64 j ∧ emptN (params.drop j) j = emptN params 0 ∧ Below w2.heap.size w2 wr) (fun t34 _ => params.length - (intOf t34).toNat)
        case atStart => exact ⟨0, Nat.zero_le _, rfl, rfl, Below.refl _ _⟩
        case round =>
          obtain ⟨j, hj, rfl, hcnt, hbr⟩ := hrel
          have HCN := Hid.mk' hcnt
          clear hcnt
          have hbw := Below.on hb hbr
          by_cases hlt : j < params.length
          · obtain ⟨b', o', rfl, d0, d1⟩ := sps_at (HP.out.stay hbw) hlt
            have hli : (j : Int) < (params.length : Int) := by omega
            have HDj := Hid.mk' (HED.out j params[j] (by simp [hlt]))
            generalize params[j] = x at *
            clear b0 b1 b2 b3 b4 b5 b6 c0 c1 c2 c3 c4
            by_cases hI : x.2 < x.1
            · have hz := H4'.out j (by rw [← HCN.out, HDj.out, if_pos hI])
              obtain ⟨rfl, rfl⟩ := Prod.mk.inj hz
              clear hz
              go_wp2_with fail
              exact bodyPost_ret (v := .tuple #[.int .i64 40, .int .i64 j]) (by simp [results, Tryd.results33, go_sem]) rfl ⟨rfl, Below.one hbw _⟩
            · have hn' : emptN (params.drop (j + 1)) (j + 1) = emptN params 0 := by rw [← HCN.out, HDj.out, if_neg hI]
              have HN := Hid.mk' hn'
              clear hn'
              go_wp2_with fail
              go_roundw
              case rel => exact ⟨j + 1, by omega, by go_num, HN.out, Below.one hbr _⟩
              case measure => simp [intOf]; omega
          · have hz := H5'.out (by rw [← HCN.out, HEN.out j hlt])
            rw [HR.out] at hz
            replace b3 := cell_kept_below b3 hbr
            replace b4 := cell_kept_below b4 hbr
            replace b5 := cell_kept_below b5 hbr
            replace b6 := cell_kept_below b6 hbr
            clear H4' H5' HR HED HEN HCN c0 c1 c2 c3 c4
            by_cases r1 : regs < 1
            · rw [if_pos (.inl r1)] at hz
              obtain ⟨rfl, rfl⟩ := Prod.mk.inj hz
              clear hz
              go_wp2_with fail
              exact bodyPost_ret (v := .tuple #[.int .i64 95, .int .i64 0]) (by simp [results, Tryd.results33, go_sem]) rfl ⟨rfl, hbw⟩
            by_cases r2 : 64 < regs
            · rw [if_pos (.inr (.inl r2))] at hz
              obtain ⟨rfl, rfl⟩ := Prod.mk.inj hz
              clear hz
              go_wp2_with fail
              exact bodyPost_ret (v := .tuple #[.int .i64 95, .int .i64 0]) (by simp [results, Tryd.results33, go_sem]) rfl ⟨rfl, hbw⟩
            by_cases r3 : regs < (params.length : Int)
            · rw [if_pos (.inr (.inr r3))] at hz
              obtain ⟨rfl, rfl⟩ := Prod.mk.inj hz
              clear hz
              go_wp2_with fail
              exact bodyPost_ret (v := .tuple #[.int .i64 95, .int .i64 0]) (by simp [results, Tryd.results33, go_sem]) rfl ⟨rfl, hbw⟩
            rw [if_neg (fun h => h.elim r1 (fun h => h.elim r2 r3))] at hz
            by_cases r4 : words < 0
            · rw [if_pos (.inl r4)] at hz
              obtain ⟨rfl, rfl⟩ := Prod.mk.inj hz
              clear hz
              go_wp2_with fail
              exact bodyPost_ret (v := .tuple #[.int .i64 96, .int .i64 0]) (by simp [results, Tryd.results33, go_sem]) rfl ⟨rfl, hbw⟩
            by_cases r5 : 4096 < words
            · rw [if_pos (.inr r5)] at hz
              obtain ⟨rfl, rfl⟩ := Prod.mk.inj hz
              clear hz
              go_wp2_with fail
              exact bodyPost_ret (v := .tuple #[.int .i64 96, .int .i64 0]) (by simp [results, Tryd.results33, go_sem]) rfl ⟨rfl, hbw⟩
            rw [if_neg (fun h => h.elim r4 r5)] at hz
            by_cases r6 : code.length < 1
            · rw [if_pos (.inl r6)] at hz
              obtain ⟨rfl, rfl⟩ := Prod.mk.inj hz
              have r6' : decide ((code.length : Int) < 1) = true := decide_eq_true (by omega)
              clear hz
              go_wp2_with fail
              exact bodyPost_ret (v := .tuple #[.int .i64 97, .int .i64 0]) (by simp [results, Tryd.results33, go_sem]) rfl ⟨rfl, hbw⟩
            have r6' : ¬ ((code.length : Int) < 1) := by omega
            by_cases r7 : code.length > 1024
            · rw [if_pos (.inr r7)] at hz
              obtain ⟨rfl, rfl⟩ := Prod.mk.inj hz
              have r7' : decide ((1024 : Int) < (code.length : Int)) = true := decide_eq_true (by omega)
              clear hz
              go_wp2_with fail
              exact bodyPost_ret (v := .tuple #[.int .i64 97, .int .i64 0]) (by simp [results, Tryd.results33, go_sem]) rfl ⟨rfl, hbw⟩
            have r7' : ¬ ((1024 : Int) < (code.length : Int)) := by omega
            rw [if_neg (fun h => h.elim r6 r7)] at hz
            obtain ⟨rfl, rfl⟩ := Prod.mk.inj hz
            clear hz
            go_wp2_with fail
            exact bodyPost_ret (v := .tuple #[.int .i64 0, .int .i64 0]) (by simp [results, Tryd.results33, go_sem]) rfl ⟨rfl, hbw⟩
end Go.Proofs.YtlkoigdnakmdlaaDoor

/- What is wrong with a module first: checkWhole, May. -/
namespace Go.Proofs.YtlkoigdnakmdlaaDoor
open Go.RowKit Go.Sort

/-- A block holds a fault. -/
def FAt (W : World) (g : Nat) (z : Int × Int × Int) : Prop := W.heap[g]? = some (.cells #[.int .i64 z.1, .int .i64 z.2.1, .int .i64 z.2.2] 37)
theorem FAt.lt {W : World} {g : Nat} {z : Int × Int × Int} (h : FAt W g z) : g < W.heap.size := (Array.getElem?_eq_some_iff.1 h).1
theorem FAt.stay {W W' : World} {g : Nat} {z : Int × Int × Int} (h : FAt W g z) (hb : Below W.heap.size W W') : FAt W' g z := (hb.block _ h.lt).trans h
theorem FAt.c0 {W : World} {g : Nat} {z : Int × Int × Int} (h : FAt W g z) : W.cell? ⟨g, 0, none⟩ = some (.int .i64 z.1) := by rw [Lib.cell_of_heap h]; rfl
theorem FAt.c1 {W : World} {g : Nat} {z : Int × Int × Int} (h : FAt W g z) : W.cell? ⟨g, 1, none⟩ = some (.int .i64 z.2.1) := by rw [Lib.cell_of_heap h]; rfl
theorem FAt.c2 {W : World} {g : Nat} {z : Int × Int × Int} (h : FAt W g z) : W.cell? ⟨g, 2, none⟩ = some (.int .i64 z.2.2) := by rw [Lib.cell_of_heap h]; rfl
theorem FAt.f0 {W : World} {g : Nat} {z : Int × Int × Int} (h : FAt W g z) (j : Nat) : W.frozen? ⟨g, j, none⟩ = false := Lib.frozen_of_heap h _
theorem FAt.new (W : World) (z : Int × Int × Int) : FAt (W.alloc (.cells #[.int .i64 z.1, .int .i64 z.2.1, .int .i64 z.2.2] 37)) W.heap.size z := heap_alloc_new _ _

theorem riseN_drop {l : List Int} {i : Nat} (h : i + 1 < l.length) : riseN (l.drop i) i = if l[i + 1] ≤ l[i] then some (i + 1) else riseN (l.drop (i + 1)) (i + 1) := by
  rw [List.drop_eq_getElem_cons (show i < l.length by omega), List.drop_eq_getElem_cons h, riseN]
theorem riseN_end {l : List Int} {i : Nat} (h : ¬ i + 1 < l.length) : riseN (l.drop i) i = none := by
  have : (l.drop i).length ≤ 1 := by rw [List.length_drop]; omega
  match l.drop i, this with
  | [], _ => rfl
  | [_], _ => rfl
theorem wholeZ_many {m : Mo} (h : m.ths.length > 16) : wholeZ m = (3, 0, 16) := by unfold wholeZ; rw [if_pos h]
theorem wholeZ_rise {m : Mo} {i : Nat} (h : ¬ m.ths.length > 16) (h2 : riseN m.ths 0 = some i) : wholeZ m = (66, 0, (i : Int)) := by unfold wholeZ; rw [if_neg h, h2]
theorem wholeZ_rest {m : Mo} (h : ¬ m.ths.length > 16) (h2 : riseN m.ths 0 = none) : wholeZ m = if m.funcs.length > 32 then (3, 32, 0) else (0, 0, 0) := by unfold wholeZ; rw [if_neg h, h2]

set_option maxRecDepth 100000 in
set_option maxHeartbeats 4000000 in
theorem checkWhole_any (m : Mo) (w : World) (hm : Thr w m.ta m.ths) (hf : m.funcs.length * 80 ≤ 140737488351232) :
    Calls Tryd.prog 32 #[m.val] w fun e w' => e = .returned (fltV (wholeZ m)) ∧ Below w.heap.size w w' := by
  have hb := Below.one (Below.one (Below.refl _ w) (oM m)) (.cells #[.int .i64 0, .int .i64 0, .int .i64 0] 37)
  have b0 := cell_kept_below (new_cell w #[.slice m.ta m.ths.length m.tc, .slice m.fa m.funcs.length m.fc] 33 0 _ rfl) (Below.one (Below.refl _ _) (.cells #[.int .i64 0, .int .i64 0, .int .i64 0] 37))
  have b1 := cell_kept_below (new_cell w #[.slice m.ta m.ths.length m.tc, .slice m.fa m.funcs.length m.fc] 33 1 _ rfl) (Below.one (Below.refl _ _) (.cells #[.int .i64 0, .int .i64 0, .int .i64 0] 37))
  have F := FAt.new (w.alloc (oM m)) (0, 0, 0)
  rw [World.size_alloc] at F
  have HM := Hid.mk' (hm.stay hb)
  have hc := hm.1
  have H1 := Hid.mk' (wholeZ_many (m := m))
  have H2 : Hid (∀ i : Nat, ¬ m.ths.length > 16 → riseN m.ths 0 = some i → wholeZ m = (66, 0, (i : Int))) := fun i => wholeZ_rise
  have H3 := Hid.mk' (wholeZ_rest (m := m))
  generalize wholeZ m = Z at *
  obtain ⟨z0, z1, z2⟩ := Z
  clear hm
  obtain ⟨ta, tc, ths, fa, fc, funcs⟩ := m
  unfold Mo.val fltV
  unfold oM at *
  simp only at *
  by_cases h1 : ths.length > 16
  · have e := H1.out h1
    simp only [Prod.mk.injEq] at e
    obtain ⟨rfl, rfl, rfl⟩ := e
    have h1' : decide ((16 : Int) < (ths.length : Int)) = true := decide_eq_true (by omega)
    clear H1 H2 H3 HM
    go_enter Tryd.func32, Tryd.ntmps32
    go_wp2_with fail
    exact bodyPost_ret (v := .agg #[.int .i64 3, .int .i64 0, .int .i64 16]) (by simp [results, Tryd.results32, go_sem]) rfl ⟨rfl, Below.one (Below.one (Below.refl _ w) _) _⟩
  · have h1' : ¬ ((16 : Int) < (ths.length : Int)) := by omega
    have H2' : Hid (∀ i : Nat, riseN ths 0 = some i → (z0, z1, z2) = (66, 0, (i : Int))) := fun i h => H2.out i h1 h
    have H3' : Hid (riseN ths 0 = none → (z0, z1, z2) = if funcs.length > 32 then (3, 32, 0) else (0, 0, 0)) := fun h => H3.out h1 h
    clear H1 H2 H3 h1
    go_enter Tryd.func32, Tryd.ntmps32
    go_wp2_with fail
    generalize (w.alloc (.cells #[.slice ta ths.length tc, .slice fa funcs.length fc] 33)).alloc (.cells #[.int .i64 0, .int .i64 0, .int .i64 0] 37) = W at *
    go_loopw [3] (fun t3 wr => ∃ (i nq : Nat), (i = 0 ∨ i + 1 ≤ ths.length) ∧ t3 = .int .i64 ((i : Int) + 1) ∧ riseN (ths.drop i) i = riseN ths 0 ∧ wr = W.drewN nq) (fun t3 _ => ths.length - (intOf t3).toNat)
    case atStart => exact ⟨0, 0, .inl rfl, rfl, rfl, rfl⟩
    case round =>
      obtain ⟨i, nq, hi, rfl, hcnt, rfl⟩ := hrel
      have HCN := Hid.mk' hcnt
      clear hcnt
      by_cases hlt : i + 1 < ths.length
      · obtain ⟨b', o', ea, d0⟩ := thr_at HM.out hlt
        obtain ⟨b'', o'', rfl, d1⟩ := thr_at HM.out (show i < ths.length by omega)
        cases ea
        have hli : (i : Int) + 1 < (ths.length : Int) := by omega
        have hli2 : (i : Int) < (ths.length : Int) := by omega
        have hsub : (i : Int) + 1 - 1 = i := by omega
        have htn : ((i : Int) + 1).toNat = i + 1 := by omega
        have HDj := Hid.mk' (riseN_drop hlt)
        generalize ths[i + 1] = x at *
        generalize ths[i] = y at *
        by_cases hI : x ≤ y
        · have hz := H2'.out (i + 1) (by rw [← HCN.out, HDj.out, if_pos hI])
          simp only [Prod.mk.injEq] at hz
          obtain ⟨rfl, rfl, rfl⟩ := hz
          have q := decide_eq_true hI
          have F0 := F.c0; have F1 := F.c1; have F2 := F.c2; have G0 := F.f0 0; have G1 := F.f0 1; have G2 := F.f0 2
          simp only at F0 F1 F2
          go_wp2_with fail
          go_quiet (fail)
          go_wp2_with fail
          exact bodyPost_ret (v := .agg #[.int .i64 66, .int .i64 0, .int .i64 ((i : Int) + 1)]) (by simp [results, Tryd.results32, go_sem, *]) rfl ⟨rfl, (((hb.drewN _).setCell (by simp) _).setCell (by simp) _).setCell (by simp) _⟩
        · have q : decide (x ≤ y) = false := decide_eq_false hI
          have hn' : riseN (ths.drop (i + 1)) (i + 1) = riseN ths 0 := by rw [← HCN.out, HDj.out, if_neg hI]
          have HN := Hid.mk' hn'
          clear hn'
          go_wp2_with fail
          go_quiet (fail)
          go_wp2_with fail
          go_roundw
          case rel => exact ⟨i + 1, _, .inr (by omega), by go_num, HN.out, rfl⟩
          case measure => simp [intOf]; omega
      · have hz := H3'.out (by rw [← HCN.out, riseN_end hlt])
        have hli : ¬ ((i : Int) + 1 < (ths.length : Int)) := by omega
        have F0 := F.c0; have F1 := F.c1; have F2 := F.c2; have G0 := F.f0 0; have G1 := F.f0 1; have G2 := F.f0 2
        simp only at F0 F1 F2
        by_cases h2 : funcs.length > 32
        · rw [if_pos h2] at hz
          simp only [Prod.mk.injEq] at hz
          obtain ⟨rfl, rfl, rfl⟩ := hz
          have h2' : decide ((32 : Int) < (funcs.length : Int)) = true := decide_eq_true (by omega)
          go_wp2_with fail
          exact bodyPost_ret (v := .agg #[.int .i64 3, .int .i64 32, .int .i64 0]) (by simp [results, Tryd.results32, go_sem, *]) rfl ⟨rfl, (((hb.drewN _).setCell (by simp) _).setCell (by simp) _).setCell (by simp) _⟩
        · rw [if_neg h2] at hz
          simp only [Prod.mk.injEq] at hz
          obtain ⟨rfl, rfl, rfl⟩ := hz
          have h2' : ¬ ((32 : Int) < (funcs.length : Int)) := by omega
          go_wp2_with fail
          exact bodyPost_ret (v := .agg #[.int .i64 0, .int .i64 0, .int .i64 0]) (by simp [results, Tryd.results32, go_sem, *]) rfl ⟨rfl, (((hb.drewN _).setCell (by simp) _).setCell (by simp) _).setCell (by simp) _⟩
end Go.Proofs.YtlkoigdnakmdlaaDoor
