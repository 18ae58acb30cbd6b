/- The document's own Expr, by kinds. -/
import Derived.Test.YtbpemackmadhgaaGreatDoorPart5
namespace Go.Proofs.YtbpemackmadhgaaGreatDoor
open Go.RowKit Go.Sort

/-- An expression's cells, in every world that has more. -/
def Sees (W : World) (g o : Nat) (y : Ex) : Prop := ∀ d os, (grow (redrawn W d) os).cell? ⟨g, o, none⟩ = some (.int .i64 y.kind) ∧ (grow (redrawn W d) os).cell? ⟨g, o + 1, none⟩ = some (.int .i64 y.n) ∧ (grow (redrawn W d) os).cell? ⟨g, o + 2, none⟩ = some (.string y.name) ∧ (grow (redrawn W d) os).cell? ⟨g, o + 3, none⟩ = some (.slice y.a y.args.length y.cap)
theorem sees_of {W : World} {a : Option Addr} {l : List Ex} (h : RowIn W a 4 (l.map Ex.cells)) {i : Nat} (hi : i < l.length) : ∃ g o, a = some ⟨g, o, none⟩ ∧ Sees W g (o + i * 4) l[i] := by
  obtain ⟨g, o, e, c0, c1, c2, c3⟩ := row_at h hi
  exact ⟨g, o, e, fun d os => ⟨cell_regrown c0 d os, cell_regrown c1 d os, cell_regrown c2 d os, cell_regrown c3 d os⟩⟩

theorem Sees.past {W : World} {g o : Nat} {y : Ex} (h : Sees W g o y) (ob : Obj) : Sees (W.alloc ob) g o y := fun d os => by
  obtain ⟨h0, h1, h2, h3⟩ := h 0 #[]
  have e : ∀ {i : Nat} {v : Value}, (grow (redrawn W 0) #[]).cell? ⟨g, i, none⟩ = some v → (grow (redrawn (W.alloc ob) d) os).cell? ⟨g, i, none⟩ = some v := fun {i v} hc => by
    have hc' : W.cell? ⟨g, i, none⟩ = some v := by rw [grow_empty] at hc; exact hc
    refine cell_regrown ?_ d os
    rw [World.cell?_alloc_past _ _ _ (lt_of_cell hc')]; exact hc'
  exact ⟨e h0, e h1, e h2, e h3⟩

set_option maxRecDepth 100000 in
set_option maxHeartbeats 1000000 in
theorem rexpr3 (n : Int) (s : ByteArray) (l c : Nat) (w : World) (g o : Nat) (y : Ex) (T : ByteArray) (hl : 0 < l) (hs : s.size ≤ 16) (hT : T.size ≤ 1000000000) (hSy : Sees w g o y) (Hy : ∀ w', Below w.heap.size w w' → Calls Tryz.prog 63 #[y.val] w' fun e w'' => e = .returned (.string T) ∧ Below w'.heap.size w' w'') :
    Calls Tryz.prog 63 #[.agg #[.int .i64 3, .int .i64 n, .string s, .slice (some ⟨g, o, none⟩) l c]] w fun e w' => e = .returned (.string (s ++ tb [91] ++ T ++ tb [93])) ∧ Below w.heap.size w w' := by
  have HR : Hid (∀ w, Calls Tryz.prog 91 #[.int .i64 3] w fun e w' => e = .returned (.int .i64 (rkE 3)) ∧ w' = w) := fun w => rrank_any 3 w rfl
  have hb1 := (Below.refl _ w).alloc (Nat.le_refl _) (.cells #[.int .i64 3, .int .i64 n, .string s, .slice (some ⟨g, o, none⟩) l c] 36)
  have x := cell_new w #[.int .i64 3, .int .i64 n, .string s, .slice (some ⟨g, o, none⟩) l c] 36
  have x0 := x 0 _ rfl
  have x2 := x 2 _ rfl
  have x3 := x 3 _ rfl
  clear x
  have y0 : ∀ d os, (grow (redrawn (w.alloc (.cells #[.int .i64 3, .int .i64 n, .string s, .slice (some ⟨g, o, none⟩) l c] 36)) d) os).cell? ⟨g, o, none⟩ = some (.int .i64 y.kind) := fun d os => ((hSy.past (.cells #[.int .i64 3, .int .i64 n, .string s, .slice (some ⟨g, o, none⟩) l c] 36)) d os).1
  have y1 : ∀ d os, (grow (redrawn (w.alloc (.cells #[.int .i64 3, .int .i64 n, .string s, .slice (some ⟨g, o, none⟩) l c] 36)) d) os).cell? ⟨g, o + 1, none⟩ = some (.int .i64 y.n) := fun d os => ((hSy.past (.cells #[.int .i64 3, .int .i64 n, .string s, .slice (some ⟨g, o, none⟩) l c] 36)) d os).2.1
  have y2 : ∀ d os, (grow (redrawn (w.alloc (.cells #[.int .i64 3, .int .i64 n, .string s, .slice (some ⟨g, o, none⟩) l c] 36)) d) os).cell? ⟨g, o + 2, none⟩ = some (.string y.name) := fun d os => ((hSy.past (.cells #[.int .i64 3, .int .i64 n, .string s, .slice (some ⟨g, o, none⟩) l c] 36)) d os).2.2.1
  have y3 : ∀ d os, (grow (redrawn (w.alloc (.cells #[.int .i64 3, .int .i64 n, .string s, .slice (some ⟨g, o, none⟩) l c] 36)) d) os).cell? ⟨g, o + 3, none⟩ = some (.slice y.a y.args.length y.cap) := fun d os => ((hSy.past (.cells #[.int .i64 3, .int .i64 n, .string s, .slice (some ⟨g, o, none⟩) l c] 36)) d os).2.2.2
  have HB : Hid (∀ d os, Below w.heap.size w (grow (redrawn (w.alloc (.cells #[.int .i64 3, .int .i64 n, .string s, .slice (some ⟨g, o, none⟩) l c] 36)) d) os)) := fun d os => hb1.trans ((below_regrown _ d os).mono (by simp))
  have Ky : Hid (∀ w', Below w.heap.size w w' → Calls Tryz.prog 63 #[y.val] w' fun e w'' => e = .returned (.string T) ∧ Below w'.heap.size w' w'') := Hy
  clear Hy hSy
  unfold Ex.val at Ky
  clear hb1
  go_enter Tryz.func63, Tryz.ntmps63
  go_wp2_with (go_at_call 91; refine (HR.out _).mono ?_; rintro e w' ⟨rfl, rfl⟩)
  refine wp_region_quiet_below (by kernel_rfl) (by kernel_rfl) ?_
  repeat (go_big_quiet_step (first | (go_at_call 63; with_reducible exact Calls.regrown_of (Ky.out _ (HB.out _ _)))))
  refine wpQuiet_nil ?_
  intro _ hw'
  obtain ⟨⟨dq, osq⟩, hw''⟩ := hw'
  subst hw''
  clear x0 x2 x3 y0 y1 y2 y3
  have hbq := HB.out dq osq
  go_wp2_with fail
  go_ret
  exact ⟨retS (by first | rfl | simp only [ByteArray.append_assoc]), hbq⟩

set_option maxRecDepth 100000 in
set_option maxHeartbeats 1000000 in
theorem rexpr5 (n : Int) (s : ByteArray) (l c : Nat) (w : World) (g o : Nat) (y : Ex) (T : ByteArray) (hl : 0 < l) (hT : T.size ≤ 1000000000) (hSy : Sees w g o y) (Hy : ∀ w', Below w.heap.size w w' → Calls Tryz.prog 93 #[y.val, .int .i64 8] w' fun e w'' => e = .returned (.string T) ∧ Below w'.heap.size w' w'') :
    Calls Tryz.prog 63 #[.agg #[.int .i64 5, .int .i64 n, .string s, .slice (some ⟨g, o, none⟩) l c]] w fun e w' => e = .returned (.string (tb [45] ++ T)) ∧ Below w.heap.size w w' := by
  have HR : Hid (∀ w, Calls Tryz.prog 91 #[.int .i64 5] w fun e w' => e = .returned (.int .i64 (rkE 5)) ∧ w' = w) := fun w => rrank_any 5 w rfl
  have hb1 := (Below.refl _ w).alloc (Nat.le_refl _) (.cells #[.int .i64 5, .int .i64 n, .string s, .slice (some ⟨g, o, none⟩) l c] 36)
  have x := cell_new w #[.int .i64 5, .int .i64 n, .string s, .slice (some ⟨g, o, none⟩) l c] 36
  have x0 := x 0 _ rfl
  have x2 := x 2 _ rfl
  have x3 := x 3 _ rfl
  clear x
  have y0 : ∀ d os, (grow (redrawn (w.alloc (.cells #[.int .i64 5, .int .i64 n, .string s, .slice (some ⟨g, o, none⟩) l c] 36)) d) os).cell? ⟨g, o, none⟩ = some (.int .i64 y.kind) := fun d os => ((hSy.past (.cells #[.int .i64 5, .int .i64 n, .string s, .slice (some ⟨g, o, none⟩) l c] 36)) d os).1
  have y1 : ∀ d os, (grow (redrawn (w.alloc (.cells #[.int .i64 5, .int .i64 n, .string s, .slice (some ⟨g, o, none⟩) l c] 36)) d) os).cell? ⟨g, o + 1, none⟩ = some (.int .i64 y.n) := fun d os => ((hSy.past (.cells #[.int .i64 5, .int .i64 n, .string s, .slice (some ⟨g, o, none⟩) l c] 36)) d os).2.1
  have y2 : ∀ d os, (grow (redrawn (w.alloc (.cells #[.int .i64 5, .int .i64 n, .string s, .slice (some ⟨g, o, none⟩) l c] 36)) d) os).cell? ⟨g, o + 2, none⟩ = some (.string y.name) := fun d os => ((hSy.past (.cells #[.int .i64 5, .int .i64 n, .string s, .slice (some ⟨g, o, none⟩) l c] 36)) d os).2.2.1
  have y3 : ∀ d os, (grow (redrawn (w.alloc (.cells #[.int .i64 5, .int .i64 n, .string s, .slice (some ⟨g, o, none⟩) l c] 36)) d) os).cell? ⟨g, o + 3, none⟩ = some (.slice y.a y.args.length y.cap) := fun d os => ((hSy.past (.cells #[.int .i64 5, .int .i64 n, .string s, .slice (some ⟨g, o, none⟩) l c] 36)) d os).2.2.2
  have HB : Hid (∀ d os, Below w.heap.size w (grow (redrawn (w.alloc (.cells #[.int .i64 5, .int .i64 n, .string s, .slice (some ⟨g, o, none⟩) l c] 36)) d) os)) := fun d os => hb1.trans ((below_regrown _ d os).mono (by simp))
  have Ky : Hid (∀ w', Below w.heap.size w w' → Calls Tryz.prog 93 #[y.val, .int .i64 8] w' fun e w'' => e = .returned (.string T) ∧ Below w'.heap.size w' w'') := Hy
  clear Hy
  unfold Ex.val at Ky
  have hbb := hb1
  clear x0 x2 x3 y0 y1 y2 y3
  obtain ⟨p0, p1, p2, p3⟩ := (hSy.past (.cells #[.int .i64 5, .int .i64 n, .string s, .slice (some ⟨g, o, none⟩) l c] 36)) 0 #[]
  rw [grow_empty] at p0 p1 p2 p3
  have q0 : (w.alloc (.cells #[.int .i64 5, .int .i64 n, .string s, .slice (some ⟨g, o, none⟩) l c] 36)).cell? ⟨g, o, none⟩ = some (.int .i64 y.kind) := p0
  have q1 : (w.alloc (.cells #[.int .i64 5, .int .i64 n, .string s, .slice (some ⟨g, o, none⟩) l c] 36)).cell? ⟨g, o + 1, none⟩ = some (.int .i64 y.n) := p1
  have q2 : (w.alloc (.cells #[.int .i64 5, .int .i64 n, .string s, .slice (some ⟨g, o, none⟩) l c] 36)).cell? ⟨g, o + 2, none⟩ = some (.string y.name) := p2
  have q3 : (w.alloc (.cells #[.int .i64 5, .int .i64 n, .string s, .slice (some ⟨g, o, none⟩) l c] 36)).cell? ⟨g, o + 3, none⟩ = some (.slice y.a y.args.length y.cap) := p3
  have xx : (w.alloc (.cells #[.int .i64 5, .int .i64 n, .string s, .slice (some ⟨g, o, none⟩) l c] 36)).cell? ⟨w.heap.size, 3, none⟩ = some (.slice (some ⟨g, o, none⟩) l c) := by rw [World.cell?_alloc_at _ _ _ _ rfl]; rfl
  have xk : (w.alloc (.cells #[.int .i64 5, .int .i64 n, .string s, .slice (some ⟨g, o, none⟩) l c] 36)).cell? ⟨w.heap.size, 0, none⟩ = some (.int .i64 5) := by rw [World.cell?_alloc_at _ _ _ _ rfl]; rfl
  clear p0 p1 p2 p3 hSy HB
  go_enter Tryz.func63, Tryz.ntmps63
  go_upto_region 1 with fail
  generalize w.alloc (.cells #[.int .i64 5, .int .i64 n, .string s, .slice (some ⟨g, o, none⟩) l c] 36) = W1 at *
  go_wp2_with (go_at_call 91; refine (HR.out _).mono ?_; rintro r w' ⟨rfl, hr⟩; obtain rfl := hr.symm)
  refine (Ky.out _ hb1).mono ?_
  rintro r w2 ⟨rfl, hb2⟩
  clear q0 q1 q2 q3 xx xk
  go_wp2_with fail
  go_ret
  exact ⟨retS (by first | rfl | simp only [ByteArray.append_assoc]), hb1.trans (hb2.mono hb1.size)⟩

set_option maxRecDepth 100000 in
set_option maxHeartbeats 1000000 in
theorem rexpr6 (n : Int) (s : ByteArray) (l c : Nat) (w : World) (g o : Nat) (y : Ex) (T : ByteArray) (hl : 0 < l) (hT : T.size ≤ 1000000000) (hSy : Sees w g o y) (Hy : ∀ w', Below w.heap.size w w' → Calls Tryz.prog 93 #[y.val, .int .i64 8] w' fun e w'' => e = .returned (.string T) ∧ Below w'.heap.size w' w'') :
    Calls Tryz.prog 63 #[.agg #[.int .i64 6, .int .i64 n, .string s, .slice (some ⟨g, o, none⟩) l c]] w fun e w' => e = .returned (.string (tb [33] ++ T)) ∧ Below w.heap.size w w' := by
  have HR : Hid (∀ w, Calls Tryz.prog 91 #[.int .i64 6] w fun e w' => e = .returned (.int .i64 (rkE 6)) ∧ w' = w) := fun w => rrank_any 6 w rfl
  have hb1 := (Below.refl _ w).alloc (Nat.le_refl _) (.cells #[.int .i64 6, .int .i64 n, .string s, .slice (some ⟨g, o, none⟩) l c] 36)
  have x := cell_new w #[.int .i64 6, .int .i64 n, .string s, .slice (some ⟨g, o, none⟩) l c] 36
  have x0 := x 0 _ rfl
  have x2 := x 2 _ rfl
  have x3 := x 3 _ rfl
  clear x
  have y0 : ∀ d os, (grow (redrawn (w.alloc (.cells #[.int .i64 6, .int .i64 n, .string s, .slice (some ⟨g, o, none⟩) l c] 36)) d) os).cell? ⟨g, o, none⟩ = some (.int .i64 y.kind) := fun d os => ((hSy.past (.cells #[.int .i64 6, .int .i64 n, .string s, .slice (some ⟨g, o, none⟩) l c] 36)) d os).1
  have y1 : ∀ d os, (grow (redrawn (w.alloc (.cells #[.int .i64 6, .int .i64 n, .string s, .slice (some ⟨g, o, none⟩) l c] 36)) d) os).cell? ⟨g, o + 1, none⟩ = some (.int .i64 y.n) := fun d os => ((hSy.past (.cells #[.int .i64 6, .int .i64 n, .string s, .slice (some ⟨g, o, none⟩) l c] 36)) d os).2.1
  have y2 : ∀ d os, (grow (redrawn (w.alloc (.cells #[.int .i64 6, .int .i64 n, .string s, .slice (some ⟨g, o, none⟩) l c] 36)) d) os).cell? ⟨g, o + 2, none⟩ = some (.string y.name) := fun d os => ((hSy.past (.cells #[.int .i64 6, .int .i64 n, .string s, .slice (some ⟨g, o, none⟩) l c] 36)) d os).2.2.1
  have y3 : ∀ d os, (grow (redrawn (w.alloc (.cells #[.int .i64 6, .int .i64 n, .string s, .slice (some ⟨g, o, none⟩) l c] 36)) d) os).cell? ⟨g, o + 3, none⟩ = some (.slice y.a y.args.length y.cap) := fun d os => ((hSy.past (.cells #[.int .i64 6, .int .i64 n, .string s, .slice (some ⟨g, o, none⟩) l c] 36)) d os).2.2.2
  have HB : Hid (∀ d os, Below w.heap.size w (grow (redrawn (w.alloc (.cells #[.int .i64 6, .int .i64 n, .string s, .slice (some ⟨g, o, none⟩) l c] 36)) d) os)) := fun d os => hb1.trans ((below_regrown _ d os).mono (by simp))
  have Ky : Hid (∀ w', Below w.heap.size w w' → Calls Tryz.prog 93 #[y.val, .int .i64 8] w' fun e w'' => e = .returned (.string T) ∧ Below w'.heap.size w' w'') := Hy
  clear Hy
  unfold Ex.val at Ky
  have hbb := hb1
  clear x0 x2 x3 y0 y1 y2 y3
  obtain ⟨p0, p1, p2, p3⟩ := (hSy.past (.cells #[.int .i64 6, .int .i64 n, .string s, .slice (some ⟨g, o, none⟩) l c] 36)) 0 #[]
  rw [grow_empty] at p0 p1 p2 p3
  have q0 : (w.alloc (.cells #[.int .i64 6, .int .i64 n, .string s, .slice (some ⟨g, o, none⟩) l c] 36)).cell? ⟨g, o, none⟩ = some (.int .i64 y.kind) := p0
  have q1 : (w.alloc (.cells #[.int .i64 6, .int .i64 n, .string s, .slice (some ⟨g, o, none⟩) l c] 36)).cell? ⟨g, o + 1, none⟩ = some (.int .i64 y.n) := p1
  have q2 : (w.alloc (.cells #[.int .i64 6, .int .i64 n, .string s, .slice (some ⟨g, o, none⟩) l c] 36)).cell? ⟨g, o + 2, none⟩ = some (.string y.name) := p2
  have q3 : (w.alloc (.cells #[.int .i64 6, .int .i64 n, .string s, .slice (some ⟨g, o, none⟩) l c] 36)).cell? ⟨g, o + 3, none⟩ = some (.slice y.a y.args.length y.cap) := p3
  have xx : (w.alloc (.cells #[.int .i64 6, .int .i64 n, .string s, .slice (some ⟨g, o, none⟩) l c] 36)).cell? ⟨w.heap.size, 3, none⟩ = some (.slice (some ⟨g, o, none⟩) l c) := by rw [World.cell?_alloc_at _ _ _ _ rfl]; rfl
  have xk : (w.alloc (.cells #[.int .i64 6, .int .i64 n, .string s, .slice (some ⟨g, o, none⟩) l c] 36)).cell? ⟨w.heap.size, 0, none⟩ = some (.int .i64 6) := by rw [World.cell?_alloc_at _ _ _ _ rfl]; rfl
  clear p0 p1 p2 p3 hSy HB
  go_enter Tryz.func63, Tryz.ntmps63
  go_upto_region 1 with fail
  generalize w.alloc (.cells #[.int .i64 6, .int .i64 n, .string s, .slice (some ⟨g, o, none⟩) l c] 36) = W1 at *
  go_wp2_with (go_at_call 91; refine (HR.out _).mono ?_; rintro r w' ⟨rfl, hr⟩; obtain rfl := hr.symm)
  refine (Ky.out _ hb1).mono ?_
  rintro r w2 ⟨rfl, hb2⟩
  clear q0 q1 q2 q3 xx xk
  go_wp2_with fail
  go_ret
  exact ⟨retS (by first | rfl | simp only [ByteArray.append_assoc]), hb1.trans (hb2.mono hb1.size)⟩

set_option maxRecDepth 100000 in
set_option maxHeartbeats 1000000 in
theorem rexpr20 (n : Int) (s : ByteArray) (l c : Nat) (w : World) (g o : Nat) (y z u : Ex) (T T2 T3 : ByteArray) (hl : 2 < l) (hT : T.size ≤ 1000000000) (hT2 : T2.size ≤ 1000000000) (hT3 : T3.size ≤ 1000000000) (hSy : Sees w g o y) (hSz : Sees w g (o + 4) z) (hSu : Sees w g (o + 8) u) (Hy : ∀ w', Below w.heap.size w w' → Calls Tryz.prog 93 #[y.val, .int .i64 2] w' fun e w'' => e = .returned (.string T) ∧ Below w'.heap.size w' w'') (Hz : ∀ w', Below w.heap.size w w' → Calls Tryz.prog 63 #[z.val] w' fun e w'' => e = .returned (.string T2) ∧ Below w'.heap.size w' w'') (Hu : ∀ w', Below w.heap.size w w' → Calls Tryz.prog 63 #[u.val] w' fun e w'' => e = .returned (.string T3) ∧ Below w'.heap.size w' w'') :
    Calls Tryz.prog 63 #[.agg #[.int .i64 20, .int .i64 n, .string s, .slice (some ⟨g, o, none⟩) l c]] w fun e w' => e = .returned (.string (T ++ tb [32, 63, 32] ++ T2 ++ tb [32, 58, 32] ++ T3)) ∧ Below w.heap.size w w' := by
  have HR : Hid (∀ w, Calls Tryz.prog 91 #[.int .i64 20] w fun e w' => e = .returned (.int .i64 (rkE 20)) ∧ w' = w) := fun w => rrank_any 20 w rfl
  have hb1 := (Below.refl _ w).alloc (Nat.le_refl _) (.cells #[.int .i64 20, .int .i64 n, .string s, .slice (some ⟨g, o, none⟩) l c] 36)
  have x := cell_new w #[.int .i64 20, .int .i64 n, .string s, .slice (some ⟨g, o, none⟩) l c] 36
  have x0 := x 0 _ rfl
  have x2 := x 2 _ rfl
  have x3 := x 3 _ rfl
  clear x
  have y0 : ∀ d os, (grow (redrawn (w.alloc (.cells #[.int .i64 20, .int .i64 n, .string s, .slice (some ⟨g, o, none⟩) l c] 36)) d) os).cell? ⟨g, o, none⟩ = some (.int .i64 y.kind) := fun d os => ((hSy.past (.cells #[.int .i64 20, .int .i64 n, .string s, .slice (some ⟨g, o, none⟩) l c] 36)) d os).1
  have y1 : ∀ d os, (grow (redrawn (w.alloc (.cells #[.int .i64 20, .int .i64 n, .string s, .slice (some ⟨g, o, none⟩) l c] 36)) d) os).cell? ⟨g, o + 1, none⟩ = some (.int .i64 y.n) := fun d os => ((hSy.past (.cells #[.int .i64 20, .int .i64 n, .string s, .slice (some ⟨g, o, none⟩) l c] 36)) d os).2.1
  have y2 : ∀ d os, (grow (redrawn (w.alloc (.cells #[.int .i64 20, .int .i64 n, .string s, .slice (some ⟨g, o, none⟩) l c] 36)) d) os).cell? ⟨g, o + 2, none⟩ = some (.string y.name) := fun d os => ((hSy.past (.cells #[.int .i64 20, .int .i64 n, .string s, .slice (some ⟨g, o, none⟩) l c] 36)) d os).2.2.1
  have y3 : ∀ d os, (grow (redrawn (w.alloc (.cells #[.int .i64 20, .int .i64 n, .string s, .slice (some ⟨g, o, none⟩) l c] 36)) d) os).cell? ⟨g, o + 3, none⟩ = some (.slice y.a y.args.length y.cap) := fun d os => ((hSy.past (.cells #[.int .i64 20, .int .i64 n, .string s, .slice (some ⟨g, o, none⟩) l c] 36)) d os).2.2.2
  have z0 : ∀ d os, (grow (redrawn (w.alloc (.cells #[.int .i64 20, .int .i64 n, .string s, .slice (some ⟨g, o, none⟩) l c] 36)) d) os).cell? ⟨g, o + 4, none⟩ = some (.int .i64 z.kind) := fun d os => ((hSz.past (.cells #[.int .i64 20, .int .i64 n, .string s, .slice (some ⟨g, o, none⟩) l c] 36)) d os).1
  have z1 : ∀ d os, (grow (redrawn (w.alloc (.cells #[.int .i64 20, .int .i64 n, .string s, .slice (some ⟨g, o, none⟩) l c] 36)) d) os).cell? ⟨g, o + 5, none⟩ = some (.int .i64 z.n) := fun d os => ((hSz.past (.cells #[.int .i64 20, .int .i64 n, .string s, .slice (some ⟨g, o, none⟩) l c] 36)) d os).2.1
  have z2 : ∀ d os, (grow (redrawn (w.alloc (.cells #[.int .i64 20, .int .i64 n, .string s, .slice (some ⟨g, o, none⟩) l c] 36)) d) os).cell? ⟨g, o + 6, none⟩ = some (.string z.name) := fun d os => ((hSz.past (.cells #[.int .i64 20, .int .i64 n, .string s, .slice (some ⟨g, o, none⟩) l c] 36)) d os).2.2.1
  have z3 : ∀ d os, (grow (redrawn (w.alloc (.cells #[.int .i64 20, .int .i64 n, .string s, .slice (some ⟨g, o, none⟩) l c] 36)) d) os).cell? ⟨g, o + 7, none⟩ = some (.slice z.a z.args.length z.cap) := fun d os => ((hSz.past (.cells #[.int .i64 20, .int .i64 n, .string s, .slice (some ⟨g, o, none⟩) l c] 36)) d os).2.2.2
  have u0 : ∀ d os, (grow (redrawn (w.alloc (.cells #[.int .i64 20, .int .i64 n, .string s, .slice (some ⟨g, o, none⟩) l c] 36)) d) os).cell? ⟨g, o + 8, none⟩ = some (.int .i64 u.kind) := fun d os => ((hSu.past (.cells #[.int .i64 20, .int .i64 n, .string s, .slice (some ⟨g, o, none⟩) l c] 36)) d os).1
  have u1 : ∀ d os, (grow (redrawn (w.alloc (.cells #[.int .i64 20, .int .i64 n, .string s, .slice (some ⟨g, o, none⟩) l c] 36)) d) os).cell? ⟨g, o + 9, none⟩ = some (.int .i64 u.n) := fun d os => ((hSu.past (.cells #[.int .i64 20, .int .i64 n, .string s, .slice (some ⟨g, o, none⟩) l c] 36)) d os).2.1
  have u2 : ∀ d os, (grow (redrawn (w.alloc (.cells #[.int .i64 20, .int .i64 n, .string s, .slice (some ⟨g, o, none⟩) l c] 36)) d) os).cell? ⟨g, o + 10, none⟩ = some (.string u.name) := fun d os => ((hSu.past (.cells #[.int .i64 20, .int .i64 n, .string s, .slice (some ⟨g, o, none⟩) l c] 36)) d os).2.2.1
  have u3 : ∀ d os, (grow (redrawn (w.alloc (.cells #[.int .i64 20, .int .i64 n, .string s, .slice (some ⟨g, o, none⟩) l c] 36)) d) os).cell? ⟨g, o + 11, none⟩ = some (.slice u.a u.args.length u.cap) := fun d os => ((hSu.past (.cells #[.int .i64 20, .int .i64 n, .string s, .slice (some ⟨g, o, none⟩) l c] 36)) d os).2.2.2
  have HB : Hid (∀ d os, Below w.heap.size w (grow (redrawn (w.alloc (.cells #[.int .i64 20, .int .i64 n, .string s, .slice (some ⟨g, o, none⟩) l c] 36)) d) os)) := fun d os => hb1.trans ((below_regrown _ d os).mono (by simp))
  have Ky : Hid (∀ w', Below w.heap.size w w' → Calls Tryz.prog 93 #[y.val, .int .i64 2] w' fun e w'' => e = .returned (.string T) ∧ Below w'.heap.size w' w'') := Hy
  have Kz : Hid (∀ w', Below w.heap.size w w' → Calls Tryz.prog 63 #[z.val] w' fun e w'' => e = .returned (.string T2) ∧ Below w'.heap.size w' w'') := Hz
  have Ku : Hid (∀ w', Below w.heap.size w w' → Calls Tryz.prog 63 #[u.val] w' fun e w'' => e = .returned (.string T3) ∧ Below w'.heap.size w' w'') := Hu
  clear Hy hSy Hz hSz Hu hSu
  unfold Ex.val at Ky Kz Ku
  clear hb1
  go_enter Tryz.func63, Tryz.ntmps63
  go_wp2_with (go_at_call 91; refine (HR.out _).mono ?_; rintro e w' ⟨rfl, rfl⟩)
  refine wp_region_quiet_below (by kernel_rfl) (by kernel_rfl) ?_
  repeat (go_big_quiet_step (first | (go_at_call 93; with_reducible exact Calls.regrown_of (Ky.out _ (HB.out _ _))) | (go_at_call 63; with_reducible exact Calls.regrown_of (Kz.out _ (HB.out _ _))) | (go_at_call 63; with_reducible exact Calls.regrown_of (Ku.out _ (HB.out _ _)))))
  refine wpQuiet_nil ?_
  intro _ hw'
  obtain ⟨⟨dq, osq⟩, hw''⟩ := hw'
  subst hw''
  clear x0 x2 x3 y0 y1 y2 y3 z0 z1 z2 z3 u0 u1 u2 u3
  have hbq := HB.out dq osq
  go_wp2_with fail
  go_ret
  exact ⟨retS (by first | rfl | simp only [ByteArray.append_assoc]), hbq⟩

set_option maxRecDepth 100000 in
set_option maxHeartbeats 1000000 in
theorem rexprB (n : Int) (s : ByteArray) (l c : Nat) (w : World) (k : Int) (h0 : 7 ≤ k) (h1 : k ≤ 19) (hr0 : 0 ≤ rkE k) (hr1 : rkE k ≤ 9) (g o : Nat) (y z : Ex) (T T2 : ByteArray) (hl : 1 < l) (hG : (tb (sgE k)).size ≤ 2) (hT : T.size ≤ 1000000000) (hT2 : T2.size ≤ 1000000000) (hSy : Sees w g o y) (hSz : Sees w g (o + 4) z) (Hy : ∀ w', Below w.heap.size w w' → Calls Tryz.prog 93 #[y.val, .int .i64 (rkE k)] w' fun e w'' => e = .returned (.string T) ∧ Below w'.heap.size w' w'') (Hz : ∀ w', Below w.heap.size w w' → Calls Tryz.prog 93 #[z.val, .int .i64 (rkE k + 1)] w' fun e w'' => e = .returned (.string T2) ∧ Below w'.heap.size w' w'') :
    Calls Tryz.prog 63 #[.agg #[.int .i64 k, .int .i64 n, .string s, .slice (some ⟨g, o, none⟩) l c]] w fun e w' => e = .returned (.string (T ++ tb [32] ++ tb (sgE k) ++ tb [32] ++ T2)) ∧ Below w.heap.size w w' := by
  have hk : isE k = true := by simp [isE]; omega
  have HR : Hid (∀ w, Calls Tryz.prog 91 #[.int .i64 k] w fun e w' => e = .returned (.int .i64 (rkE k)) ∧ w' = w) := fun w => rrank_any k w hk
  have hb1 := (Below.refl _ w).alloc (Nat.le_refl _) (.cells #[.int .i64 k, .int .i64 n, .string s, .slice (some ⟨g, o, none⟩) l c] 36)
  have x := cell_new w #[.int .i64 k, .int .i64 n, .string s, .slice (some ⟨g, o, none⟩) l c] 36
  have x0 := x 0 _ rfl
  have x2 := x 2 _ rfl
  have x3 := x 3 _ rfl
  clear x
  have y0 : ∀ d os, (grow (redrawn (w.alloc (.cells #[.int .i64 k, .int .i64 n, .string s, .slice (some ⟨g, o, none⟩) l c] 36)) d) os).cell? ⟨g, o, none⟩ = some (.int .i64 y.kind) := fun d os => ((hSy.past (.cells #[.int .i64 k, .int .i64 n, .string s, .slice (some ⟨g, o, none⟩) l c] 36)) d os).1
  have y1 : ∀ d os, (grow (redrawn (w.alloc (.cells #[.int .i64 k, .int .i64 n, .string s, .slice (some ⟨g, o, none⟩) l c] 36)) d) os).cell? ⟨g, o + 1, none⟩ = some (.int .i64 y.n) := fun d os => ((hSy.past (.cells #[.int .i64 k, .int .i64 n, .string s, .slice (some ⟨g, o, none⟩) l c] 36)) d os).2.1
  have y2 : ∀ d os, (grow (redrawn (w.alloc (.cells #[.int .i64 k, .int .i64 n, .string s, .slice (some ⟨g, o, none⟩) l c] 36)) d) os).cell? ⟨g, o + 2, none⟩ = some (.string y.name) := fun d os => ((hSy.past (.cells #[.int .i64 k, .int .i64 n, .string s, .slice (some ⟨g, o, none⟩) l c] 36)) d os).2.2.1
  have y3 : ∀ d os, (grow (redrawn (w.alloc (.cells #[.int .i64 k, .int .i64 n, .string s, .slice (some ⟨g, o, none⟩) l c] 36)) d) os).cell? ⟨g, o + 3, none⟩ = some (.slice y.a y.args.length y.cap) := fun d os => ((hSy.past (.cells #[.int .i64 k, .int .i64 n, .string s, .slice (some ⟨g, o, none⟩) l c] 36)) d os).2.2.2
  have z0 : ∀ d os, (grow (redrawn (w.alloc (.cells #[.int .i64 k, .int .i64 n, .string s, .slice (some ⟨g, o, none⟩) l c] 36)) d) os).cell? ⟨g, o + 4, none⟩ = some (.int .i64 z.kind) := fun d os => ((hSz.past (.cells #[.int .i64 k, .int .i64 n, .string s, .slice (some ⟨g, o, none⟩) l c] 36)) d os).1
  have z1 : ∀ d os, (grow (redrawn (w.alloc (.cells #[.int .i64 k, .int .i64 n, .string s, .slice (some ⟨g, o, none⟩) l c] 36)) d) os).cell? ⟨g, o + 5, none⟩ = some (.int .i64 z.n) := fun d os => ((hSz.past (.cells #[.int .i64 k, .int .i64 n, .string s, .slice (some ⟨g, o, none⟩) l c] 36)) d os).2.1
  have z2 : ∀ d os, (grow (redrawn (w.alloc (.cells #[.int .i64 k, .int .i64 n, .string s, .slice (some ⟨g, o, none⟩) l c] 36)) d) os).cell? ⟨g, o + 6, none⟩ = some (.string z.name) := fun d os => ((hSz.past (.cells #[.int .i64 k, .int .i64 n, .string s, .slice (some ⟨g, o, none⟩) l c] 36)) d os).2.2.1
  have z3 : ∀ d os, (grow (redrawn (w.alloc (.cells #[.int .i64 k, .int .i64 n, .string s, .slice (some ⟨g, o, none⟩) l c] 36)) d) os).cell? ⟨g, o + 7, none⟩ = some (.slice z.a z.args.length z.cap) := fun d os => ((hSz.past (.cells #[.int .i64 k, .int .i64 n, .string s, .slice (some ⟨g, o, none⟩) l c] 36)) d os).2.2.2
  have HB : Hid (∀ d os, Below w.heap.size w (grow (redrawn (w.alloc (.cells #[.int .i64 k, .int .i64 n, .string s, .slice (some ⟨g, o, none⟩) l c] 36)) d) os)) := fun d os => hb1.trans ((below_regrown _ d os).mono (by simp))
  have HG : Hid (∀ w, Calls Tryz.prog 94 #[.int .i64 k] w fun e w' => e = .returned (.string (tb (sgE k))) ∧ Below w.heap.size w w') := fun w => rsign_any k w h0 h1
  generalize tb (sgE k) = G at HG hG ⊢
  generalize rkE k = r at HR Hy Hz hr0 hr1
  have hwr : IntKind.i64.wrap (r + 1) = r + 1 := by rw [IntKind.wrap_i64]; omega
  have Ky : Hid (∀ w', Below w.heap.size w w' → Calls Tryz.prog 93 #[y.val, .int .i64 r] w' fun e w'' => e = .returned (.string T) ∧ Below w'.heap.size w' w'') := Hy
  have Kz : Hid (∀ w', Below w.heap.size w w' → Calls Tryz.prog 93 #[z.val, .int .i64 (r + 1)] w' fun e w'' => e = .returned (.string T2) ∧ Below w'.heap.size w' w'') := Hz
  have e1 := beq_no (show k ≠ 1 by omega)
  have e2 := beq_no (show k ≠ 2 by omega)
  have e3 := beq_no (show k ≠ 3 by omega)
  have e4 := beq_no (show k ≠ 4 by omega)
  have e5 := beq_no (show k ≠ 5 by omega)
  have e6 := beq_no (show k ≠ 6 by omega)
  have e20 := beq_no (show k ≠ 20 by omega)
  clear Hy hSy Hz hSz hk
  unfold Ex.val at Ky Kz
  clear hb1
  go_enter Tryz.func63, Tryz.ntmps63
  go_wp2_with (go_at_call 91; refine (HR.out _).mono ?_; rintro e w' ⟨rfl, rfl⟩)
  refine wp_region_quiet_below (by kernel_rfl) (by kernel_rfl) ?_
  repeat (go_big_quiet_step (first | (go_at_call 93; with_reducible exact Calls.regrown_of (Ky.out _ (HB.out _ _))) | (go_at_call 93; with_reducible exact Calls.regrown_of (Kz.out _ (HB.out _ _))) | (go_at_call 94; with_reducible exact Calls.regrown_of (HG.out _))))
  refine wpQuiet_nil ?_
  intro _ hw'
  obtain ⟨⟨dq, osq⟩, hw''⟩ := hw'
  subst hw''
  clear x0 x2 x3 y0 y1 y2 y3 z0 z1 z2 z3
  have hbq := HB.out dq osq
  go_wp2_with fail
  go_ret
  exact ⟨retS (by first | rfl | simp only [ByteArray.append_assoc]), hbq⟩

end Go.Proofs.YtbpemackmadhgaaGreatDoor

/- The document's own Expr. -/
namespace Go.Proofs.YtbpemackmadhgaaGreatDoor
open Go.RowKit Go.Sort

set_option maxRecDepth 100000 in
set_option maxHeartbeats 1000000 in
theorem rexpr1 (n : Int) (s : ByteArray) (a : Option Addr) (l c : Nat) (w : World) (hn : I64 n) :
    Calls Tryz.prog 63 #[.agg #[.int .i64 1, .int .i64 n, .string s, .slice a l c]] w fun e w' => e = .returned (.string (tb (Lib.itoa n))) ∧ Below w.heap.size w w' := by
  have HR : Hid (∀ w, Calls Tryz.prog 91 #[.int .i64 1] w fun e w' => e = .returned (.int .i64 (rkE 1)) ∧ w' = w) := fun w => rrank_any 1 w rfl
  have HN : Hid (∀ w, Calls Tryz.prog 20 #[.int .i64 n] w fun e w' => e = .returned (.string (tb (Lib.itoa n))) ∧ Below w.heap.size w w') := fun w => rnum_any n w hn
  have hb1 := (Below.refl _ w).alloc (Nat.le_refl _) (.cells #[.int .i64 1, .int .i64 n, .string s, .slice a l c] 36)
  clear hn
  go_enter Tryz.func63, Tryz.ntmps63
  go_wp2_with (go_at_call 91; refine (HR.out _).mono ?_; rintro e w' ⟨rfl, rfl⟩)
  refine (HN.out _).mono ?_
  rintro r w2 ⟨rfl, hb2⟩
  go_wp2_with fail
  go_ret
  exact ⟨rfl, hb1.trans (hb2.mono hb1.size)⟩
set_option maxRecDepth 100000 in
set_option maxHeartbeats 1000000 in
theorem rexpr2 (n : Int) (s : ByteArray) (a : Option Addr) (l c : Nat) (w : World) :
    Calls Tryz.prog 63 #[.agg #[.int .i64 2, .int .i64 n, .string s, .slice a l c]] w fun e w' => e = .returned (.string s) ∧ Below w.heap.size w w' := by
  have HR : Hid (∀ w, Calls Tryz.prog 91 #[.int .i64 2] w fun e w' => e = .returned (.int .i64 (rkE 2)) ∧ w' = w) := fun w => rrank_any 2 w rfl
  have hb1 := (Below.refl _ w).alloc (Nat.le_refl _) (.cells #[.int .i64 2, .int .i64 n, .string s, .slice a l c] 36)
  go_enter Tryz.func63, Tryz.ntmps63
  go_wp2_with (go_at_call 91; refine (HR.out _).mono ?_; rintro e w' ⟨rfl, rfl⟩)
  go_ret
  exact ⟨rfl, hb1⟩
set_option maxRecDepth 100000 in
set_option maxHeartbeats 1000000 in
theorem rexpr4 (n : Int) (s : ByteArray) (a : Option Addr) (l c : Nat) (w : World) (T : ByteArray) (hs : s.size ≤ 16) (hT : T.size ≤ 1000000000)
    (Hy : ∀ w', Below w.heap.size w w' → Calls Tryz.prog 92 #[.slice a l c] w' fun e w'' => e = .returned (.string T) ∧ Below w'.heap.size w' w'') :
    Calls Tryz.prog 63 #[.agg #[.int .i64 4, .int .i64 n, .string s, .slice a l c]] w fun e w' => e = .returned (.string (s ++ tb [40] ++ T ++ tb [41])) ∧ Below w.heap.size w w' := by
  have HR : Hid (∀ w, Calls Tryz.prog 91 #[.int .i64 4] w fun e w' => e = .returned (.int .i64 (rkE 4)) ∧ w' = w) := fun w => rrank_any 4 w rfl
  have hb1 := (Below.refl _ w).alloc (Nat.le_refl _) (.cells #[.int .i64 4, .int .i64 n, .string s, .slice a l c] 36)
  have x := cell_new w #[.int .i64 4, .int .i64 n, .string s, .slice a l c] 36
  have x0 := x 0 _ rfl
  have x2 := x 2 _ rfl
  have x3 := x 3 _ rfl
  clear x
  have HB : Hid (∀ d os, Below w.heap.size w (grow (redrawn (w.alloc (.cells #[.int .i64 4, .int .i64 n, .string s, .slice a l c] 36)) d) os)) := fun d os => hb1.trans ((below_regrown _ d os).mono (by simp))
  have Ky : Hid (∀ w', Below w.heap.size w w' → Calls Tryz.prog 92 #[.slice a l c] w' fun e w'' => e = .returned (.string T) ∧ Below w'.heap.size w' w'') := Hy
  clear Hy hb1
  go_enter Tryz.func63, Tryz.ntmps63
  go_wp2_with (go_at_call 91; refine (HR.out _).mono ?_; rintro e w' ⟨rfl, rfl⟩)
  refine wp_region_quiet_below (by kernel_rfl) (by kernel_rfl) ?_
  repeat (go_big_quiet_step (first | (go_at_call 92; with_reducible exact Calls.regrown_of (Ky.out _ (HB.out _ _)))))
  refine wpQuiet_nil ?_
  intro _ hw'
  obtain ⟨⟨dq, osq⟩, hw''⟩ := hw'
  subst hw''
  clear x0 x2 x3
  have hbq := HB.out dq osq
  go_wp2_with fail
  go_ret
  exact ⟨retS (by first | rfl | simp only [ByteArray.append_assoc]), hbq⟩

theorem rk_bd : ∀ k : Fin 21, 0 ≤ (formE k.val).rank ∧ (formE k.val).rank ≤ 9 := by decide
theorem sees_at {w : World} {a : Option Addr} {l : List Ex} (h : RowIn w a 4 (l.map Ex.cells)) {g o : Nat} (ha : a = some ⟨g, o, none⟩) {i : Nat} (hi : i < l.length) : Sees w g (o + i * 4) l[i] := by
  obtain ⟨g', o', e, hs⟩ := sees_of h hi
  rw [ha] at e
  cases e
  exact hs
theorem txE_bd {w : World} {x : Ex} (hin : x.In w) (hok : OkE x) (hsz : x.sz ≤ 1000000) : (txE x).length ≤ 32000000 := by
  have := txE_len _ x (Nat.le_refl _) hin hok; omega
theorem isE_ok {x : Ex} (h : OkE x) : isE x.kind = true := by
  obtain ⟨kn, hk, h1, h2, _⟩ := selfE_zero h.parts.1
  rw [hk]; simp [isE]; omega

theorem rexpr_k (k : Nat) : ∀ (x : Ex) (w : World), x.sz ≤ k → x.In w → OkE x → x.sz ≤ 1000000 → Calls Tryz.prog 63 #[x.val] w fun e w' => e = .returned (.string (tb (txE x))) ∧ Below w.heap.size w w' := by
  induction k with
  | zero => intro x w hk; have := x.sz_pos; omega
  | succ k ih =>
    intro x w hk hin hok hsz
    obtain ⟨hself, hargs⟩ := hok.parts
    obtain ⟨kn, hkn, hk1, hk2, hlen, hname, hn⟩ := selfE_zero hself
    obtain ⟨_, hI, _, hl, hc, hnone, hrow, hsub⟩ := Ex.in_iff.1 hin
    have hsza := x.sz_args
    have hY : ∀ y ∈ x.args, ∀ w', Below w.heap.size w w' → Calls Tryz.prog 63 #[y.val] w' fun e w'' => e = .returned (.string (tb (txE y))) ∧ Below w'.heap.size w' w'' := fun y hy w' hb => by
      have := szL_mem hy
      exact ih y w' (by omega) ((hsub y hy).stay hb) (hargs y hy) (by omega)
    have hT : ∀ y ∈ x.args, (tb (txE y)).size ≤ 1000000000 := fun y hy => by
      rw [tb_size]; have := szL_mem hy; have := txE_bd (hsub y hy) (hargs y hy) (by omega); omega
    have hW : ∀ y ∈ x.args, ∀ r w', Below w.heap.size w w' → Calls Tryz.prog 93 #[y.val, .int .i64 r] w' fun e w'' => e = .returned (.string (tb (wiB (rkE y.kind) r (txE y)))) ∧ Below w'.heap.size w' w'' := fun y hy r w' hb =>
      rwithin_of y r w' (isE_ok (hargs y hy)) (by have := hT y hy; rw [tb_size] at this; exact this) fun w'' h => hY y hy w'' (hb.trans (h.mono hb.size))
    have hTW : ∀ y ∈ x.args, ∀ r, (tb (wiB (rkE y.kind) r (txE y))).size ≤ 1000000000 := fun y hy r => by
      rw [tb_size]; have := szL_mem hy; have := txE_bd (hsub y hy) (hargs y hy) (by omega); have := wiB_len (rkE y.kind) r (txE y); omega
    have hA : ∀ i, i < x.args.length → ∃ g o, x.a = some ⟨g, o, none⟩ := fun i hi => by
      obtain ⟨g, o, e, _⟩ := sees_of hrow hi; exact ⟨g, o, e⟩
    have hs16 : bits .and .i64 (formE kn).fields 1 ≠ 0 → x.name.size ≤ 16 := fun h => nameZ_len (hname h)
    rw [txE_eq]
    unfold txOf Ex.val
    rw [hkn]
    by_cases e1 : (kn : Int) = 1
    · rw [if_pos e1, e1]; exact rexpr1 _ _ _ _ _ w hI
    rw [if_neg e1]
    by_cases e2 : (kn : Int) = 2
    · rw [if_pos e2, e2, tb_of]; exact rexpr2 _ _ _ _ _ w
    rw [if_neg e2]
    by_cases e3 : (kn : Int) = 3
    · rw [if_pos e3, e3]; obtain rfl : kn = 3 := by omega
      have hl1 : x.args.length = 1 := by have := hlen (by decide); simp [formE] at this; omega
      obtain ⟨g, o, ha⟩ := hA 0 (by omega)
      have h0 : 0 < x.args.length := by omega
      have hm := List.getElem_mem h0
      have := rexpr3 x.n x.name x.args.length x.cap w g o x.args[0] _ h0 (hs16 (by decide)) (hT _ hm) (by simpa using sees_at hrow ha h0) (hY _ hm)
      rw [ha]
      have et : (x.args.map txE).getD 0 [] = txE x.args[0] := by simp [h0]
      rw [et]
      rw [tb_app, ← tb_of x.name, tb_app, tb_app] at this
      exact this
    rw [if_neg e3]
    by_cases e4 : (kn : Int) = 4
    · rw [if_pos e4, e4]; obtain rfl : kn = 4 := by omega
      have hcl : (comB (x.args.map txE)).length ≤ 1000000000 := by
        have h1 := txE_bd hin hok hsz
        rw [txE_eq, txOf, hkn, if_neg (by decide), if_neg (by decide), if_neg (by decide), if_pos (by decide)] at h1
        simp only [List.length_append] at h1; omega
      have := rexpr4 x.n x.name x.a x.args.length x.cap w (tb (comB (x.args.map txE))) (hs16 (by decide)) (by rw [tb_size]; exact hcl)
        fun w' hb => rlist_of x.args x.a x.cap w' hl hc (hrow.below hb) hcl fun y hy w'' h => hY y hy w'' (hb.trans (h.mono hb.size))
      rw [← tb_of x.name, tb_app, tb_app, tb_app] at this
      rw [tb_of] at this
      exact this
    rw [if_neg e4]
    by_cases e5 : (kn : Int) = 5 ∨ (kn : Int) = 6
    · rw [if_pos e5]
      have hl1 : x.args.length = 1 := by
        rcases e5 with h | h
        · obtain rfl : kn = 5 := by omega
          have := hlen (by decide); simp [formE] at this; omega
        · obtain rfl : kn = 6 := by omega
          have := hlen (by decide); simp [formE] at this; omega
      obtain ⟨g, o, ha⟩ := hA 0 (by omega)
      have h0 : 0 < x.args.length := by omega
      have hm := List.getElem_mem h0
      have et : (x.args.map txE).getD 0 [] = txE x.args[0] := by simp [h0]
      have ek : (x.args.map Ex.kind).getD 0 0 = x.args[0].kind := by simp [h0]
      rw [et, ek, ha]
      rcases e5 with h | h
      · have := rexpr5 x.n x.name x.args.length x.cap w g o x.args[0] _ h0 (hTW _ hm 8) (by simpa using sees_at hrow ha h0) (hW _ hm 8)
        rw [tb_app] at this
        rw [h]; exact this
      · have := rexpr6 x.n x.name x.args.length x.cap w g o x.args[0] _ h0 (hTW _ hm 8) (by simpa using sees_at hrow ha h0) (hW _ hm 8)
        rw [tb_app] at this
        rw [h]; exact this
    rw [if_neg e5]
    by_cases e6 : (kn : Int) = 20
    · rw [if_pos e6, e6]; obtain rfl : kn = 20 := by omega
      have hl1 : x.args.length = 3 := by have := hlen (by decide); simp [formE] at this; omega
      obtain ⟨g, o, ha⟩ := hA 0 (by omega)
      have h0 : 0 < x.args.length := by omega
      have h1 : 1 < x.args.length := by omega
      have h2 : 2 < x.args.length := by omega
      have m0 := List.getElem_mem h0
      have m1 := List.getElem_mem h1
      have m2 := List.getElem_mem h2
      have := rexpr20 x.n x.name x.args.length x.cap w g o x.args[0] x.args[1] x.args[2] _ _ _ h2 (hTW _ m0 2) (hT _ m1) (hT _ m2) (by simpa using sees_at hrow ha h0) (by simpa using sees_at hrow ha h1) (by simpa using sees_at hrow ha h2) (hW _ m0 2) (hY _ m1) (hY _ m2)
      have et0 : (x.args.map txE).getD 0 [] = txE x.args[0] := by simp [h0]
      have et1 : (x.args.map txE).getD 1 [] = txE x.args[1] := by simp [h1]
      have et2 : (x.args.map txE).getD 2 [] = txE x.args[2] := by simp [h2]
      have ek : (x.args.map Ex.kind).getD 0 0 = x.args[0].kind := by simp [h0]
      rw [tb_app, tb_app, tb_app, tb_app] at this
      rw [et0, et1, et2, ek, ha]
      exact this
    · rw [if_neg e6]
      have hla : (formE kn).args = 2 := args_two kn (by omega) (by omega) (by omega)
      have hl1 : x.args.length = 2 := by have := hlen (by rw [hla]; decide); rw [hla] at this; omega
      obtain ⟨g, o, ha⟩ := hA 0 (by omega)
      have h0 : 0 < x.args.length := by omega
      have h1 : 1 < x.args.length := by omega
      have m0 := List.getElem_mem h0
      have m1 := List.getElem_mem h1
      have hrk := rk_bd ⟨kn, by omega⟩
      have hrk' : 0 ≤ rkE kn ∧ rkE kn ≤ 9 := by unfold rkE; rw [Int.toNat_natCast]; exact hrk
      have := rexprB x.n x.name x.args.length x.cap w kn (by omega) (by omega) hrk'.1 hrk'.2 g o x.args[0] x.args[1] _ _ h1 (by rw [tb_size]; exact sgE_len kn hk2) (hTW _ m0 (rkE kn)) (hTW _ m1 (rkE kn + 1)) (by simpa using sees_at hrow ha h0) (by simpa using sees_at hrow ha h1) (hW _ m0 (rkE kn)) (hW _ m1 (rkE kn + 1))
      have et0 : (x.args.map txE).getD 0 [] = txE x.args[0] := by simp [h0]
      have et1 : (x.args.map txE).getD 1 [] = txE x.args[1] := by simp [h1]
      have ek0 : (x.args.map Ex.kind).getD 0 0 = x.args[0].kind := by simp [h0]
      have ek1 : (x.args.map Ex.kind).getD 1 0 = x.args[1].kind := by simp [h1]
      rw [tb_app, tb_app, tb_app, tb_app] at this
      rw [et0, et1, ek0, ek1, ha]
      exact this
theorem rexpr_any (x : Ex) (w : World) (hin : x.In w) (hok : OkE x) (hsz : x.sz ≤ 1000000) : Calls Tryz.prog 63 #[x.val] w fun e w' => e = .returned (.string (tb (txE x))) ∧ Below w.heap.size w w' := rexpr_k _ x w (Nat.le_refl _) hin hok hsz
end Go.Proofs.YtbpemackmadhgaaGreatDoor

/- The document's own lines of a statement, by kinds. -/
namespace Go.Proofs.YtbpemackmadhgaaGreatDoor
open Go.RowKit Go.Sort

/-- A line that lies in so many bodies. -/
def lnT (d : Nat) (T : ByteArray) : ByteArray := tb (List.replicate (2 * d) 32) ++ T ++ tb [10]
theorem lnT_tb (d : Nat) (t : List UInt8) : lnT d (tb t) = tb (lineB d t) := by
  unfold lnT lineB; rw [tb_app, tb_app]
theorem rlineT (T : ByteArray) (d : Nat) (w : World) (hd : d ≤ 100) (hT : T.size ≤ 1000000000) : Calls Tryz.prog 21 #[.string T, .int .i64 d] w fun e w' => e = .returned (.string (lnT d T)) ∧ Below w.heap.size w w' := by
  have := rline_any T.data.toList d w hd (by rw [ba_len]; exact hT)
  rw [← lnT_tb, tb_of] at this
  exact this.mono fun e w' ⟨h1, h2⟩ => ⟨h1, by rw [h2]; exact Below.refl _ _⟩
theorem lnT_size (d : Nat) (T : ByteArray) : (lnT d T).size = 2 * d + T.size + 1 := by
  unfold lnT; rw [ByteArray.size_append, ByteArray.size_append, tb_size, show (tb [10]).size = 1 from rfl, List.length_replicate]

set_option maxRecDepth 100000 in
set_option maxHeartbeats 2000000 in
theorem rstmt1 (s : St) (d : Nat) (w : World) (hk : s.kind = 1) (hd : d ≤ 99) (hs : s.name.size ≤ 16) (TA : ByteArray) (hTA : TA.size ≤ 100000000) (hA : ∀ w', Below w.heap.size w w' → Calls Tryz.prog 63 #[s.a.val] w' fun e w'' => e = .returned (.string TA) ∧ Below w'.heap.size w' w'') :
    Calls Tryz.prog 42 #[s.val, .int .i64 d] w fun e w' => e = .returned (.string (lnT d (tb [108, 101, 116, 32] ++ s.name ++ tb [32, 61, 32] ++ TA ++ tb [59]))) ∧ Below w.heap.size w w' := by
  have L0 : Hid (∀ w, Calls Tryz.prog 21 #[.string (tb [108, 101, 116, 32] ++ s.name ++ tb [32, 61, 32] ++ TA ++ tb [59]), .int .i64 d] w fun e w' => e = .returned (.string (lnT d (tb [108, 101, 116, 32] ++ s.name ++ tb [32, 61, 32] ++ TA ++ tb [59]))) ∧ Below w.heap.size w w') := fun w => rlineT _ d w (by omega) (by simp only [ByteArray.size_append, tb_size, List.length_cons, List.length_nil]; omega)
  have z0 : (lnT d (tb [108, 101, 116, 32] ++ s.name ++ tb [32, 61, 32] ++ TA ++ tb [59])).size ≤ 1000000000 := by rw [lnT_size]; simp only [ByteArray.size_append, tb_size, List.length_cons, List.length_nil]; omega
  generalize lnT d (tb [108, 101, 116, 32] ++ s.name ++ tb [32, 61, 32] ++ TA ++ tb [59]) = Y0 at L0 z0 ⊢
  have KA : Hid (∀ w', Below w.heap.size w w' → Calls Tryz.prog 63 #[s.a.val] w' fun e w'' => e = .returned (.string TA) ∧ Below w'.heap.size w' w'') := hA
  clear hA
  have hwd : IntKind.i64.wrap ((d : Int) + 1) = (d : Int) + 1 := by rw [IntKind.wrap_i64]; omega
  have hb1 := (Below.refl _ w).alloc (Nat.le_refl _) (.cells #[.int .i64 1, .string s.name, .int .i64 s.n, .int .i64 s.a.kind, .int .i64 s.a.n, .string s.a.name, .slice s.a.a s.a.args.length s.a.cap, .int .i64 s.b.kind, .int .i64 s.b.n, .string s.b.name, .slice s.b.a s.b.args.length s.b.cap, .slice s.ba s.body.length s.bc, .slice s.ea s.els.length s.ec, .slice s.ca s.cases.length s.cc] 43)
  have x := cell_new w #[.int .i64 1, .string s.name, .int .i64 s.n, .int .i64 s.a.kind, .int .i64 s.a.n, .string s.a.name, .slice s.a.a s.a.args.length s.a.cap, .int .i64 s.b.kind, .int .i64 s.b.n, .string s.b.name, .slice s.b.a s.b.args.length s.b.cap, .slice s.ba s.body.length s.bc, .slice s.ea s.els.length s.ec, .slice s.ca s.cases.length s.cc] 43
  have x0 := x 0 _ rfl
  have x1 := x 1 _ rfl
  have x2 := x 2 _ rfl
  have x3 := x 3 _ rfl
  have x4 := x 4 _ rfl
  have x5 := x 5 _ rfl
  have x6 := x 6 _ rfl
  have x7 := x 7 _ rfl
  have x8 := x 8 _ rfl
  have x9 := x 9 _ rfl
  have x10 := x 10 _ rfl
  have x11 := x 11 _ rfl
  have x12 := x 12 _ rfl
  have x13 := x 13 _ rfl
  clear x
  have HB : Hid (∀ d os, Below w.heap.size w (grow (redrawn (w.alloc (.cells #[.int .i64 1, .string s.name, .int .i64 s.n, .int .i64 s.a.kind, .int .i64 s.a.n, .string s.a.name, .slice s.a.a s.a.args.length s.a.cap, .int .i64 s.b.kind, .int .i64 s.b.n, .string s.b.name, .slice s.b.a s.b.args.length s.b.cap, .slice s.ba s.body.length s.bc, .slice s.ea s.els.length s.ec, .slice s.ca s.cases.length s.cc] 43)) d) os)) := fun d os => hb1.trans ((below_regrown _ d os).mono (by simp))
  unfold St.val
  unfold Ex.val at KA
  rw [hk]
  clear hk hd
  go_enter Tryz.func42, Tryz.ntmps42
  go_wp2_with fail
  refine wp_region_quiet_below (by kernel_rfl) (by kernel_rfl) ?_
  repeat (go_big_quiet_step (first | (go_at_call 63; with_reducible exact Calls.regrown_of (KA.out _ (HB.out _ _))) | (go_at_call 21; with_reducible exact Calls.regrown_of (L0.out _))))
  refine wpQuiet_nil ?_
  intro _ hw'
  obtain ⟨⟨dq, osq⟩, hw''⟩ := hw'
  subst hw''
  clear x0 x1 x2 x3 x4 x5 x6 x7 x8 x9 x10 x11 x12 x13
  have hbq := HB.out dq osq
  go_wp2_with fail
  go_ret
  exact ⟨retS (by first | rfl | simp only [ByteArray.append_assoc]), hbq⟩

set_option maxRecDepth 100000 in
set_option maxHeartbeats 2000000 in
theorem rstmt2 (s : St) (d : Nat) (w : World) (hk : s.kind = 2) (hd : d ≤ 99) (hs : s.name.size ≤ 16) (TN : ByteArray) (hTN : TN.size ≤ 100000000) (hN : ∀ w', Below w.heap.size w w' → Calls Tryz.prog 20 #[.int .i64 s.n] w' fun e w'' => e = .returned (.string TN) ∧ Below w'.heap.size w' w'') :
    Calls Tryz.prog 42 #[s.val, .int .i64 d] w fun e w' => e = .returned (.string (lnT d (tb [108, 101, 116, 32] ++ s.name ++ tb [91] ++ TN ++ tb [93, 59]))) ∧ Below w.heap.size w w' := by
  have L0 : Hid (∀ w, Calls Tryz.prog 21 #[.string (tb [108, 101, 116, 32] ++ s.name ++ tb [91] ++ TN ++ tb [93, 59]), .int .i64 d] w fun e w' => e = .returned (.string (lnT d (tb [108, 101, 116, 32] ++ s.name ++ tb [91] ++ TN ++ tb [93, 59]))) ∧ Below w.heap.size w w') := fun w => rlineT _ d w (by omega) (by simp only [ByteArray.size_append, tb_size, List.length_cons, List.length_nil]; omega)
  have z0 : (lnT d (tb [108, 101, 116, 32] ++ s.name ++ tb [91] ++ TN ++ tb [93, 59])).size ≤ 1000000000 := by rw [lnT_size]; simp only [ByteArray.size_append, tb_size, List.length_cons, List.length_nil]; omega
  generalize lnT d (tb [108, 101, 116, 32] ++ s.name ++ tb [91] ++ TN ++ tb [93, 59]) = Y0 at L0 z0 ⊢
  have KN : Hid (∀ w', Below w.heap.size w w' → Calls Tryz.prog 20 #[.int .i64 s.n] w' fun e w'' => e = .returned (.string TN) ∧ Below w'.heap.size w' w'') := hN
  clear hN
  have hwd : IntKind.i64.wrap ((d : Int) + 1) = (d : Int) + 1 := by rw [IntKind.wrap_i64]; omega
  have hb1 := (Below.refl _ w).alloc (Nat.le_refl _) (.cells #[.int .i64 2, .string s.name, .int .i64 s.n, .int .i64 s.a.kind, .int .i64 s.a.n, .string s.a.name, .slice s.a.a s.a.args.length s.a.cap, .int .i64 s.b.kind, .int .i64 s.b.n, .string s.b.name, .slice s.b.a s.b.args.length s.b.cap, .slice s.ba s.body.length s.bc, .slice s.ea s.els.length s.ec, .slice s.ca s.cases.length s.cc] 43)
  have x := cell_new w #[.int .i64 2, .string s.name, .int .i64 s.n, .int .i64 s.a.kind, .int .i64 s.a.n, .string s.a.name, .slice s.a.a s.a.args.length s.a.cap, .int .i64 s.b.kind, .int .i64 s.b.n, .string s.b.name, .slice s.b.a s.b.args.length s.b.cap, .slice s.ba s.body.length s.bc, .slice s.ea s.els.length s.ec, .slice s.ca s.cases.length s.cc] 43
  have x0 := x 0 _ rfl
  have x1 := x 1 _ rfl
  have x2 := x 2 _ rfl
  have x3 := x 3 _ rfl
  have x4 := x 4 _ rfl
  have x5 := x 5 _ rfl
  have x6 := x 6 _ rfl
  have x7 := x 7 _ rfl
  have x8 := x 8 _ rfl
  have x9 := x 9 _ rfl
  have x10 := x 10 _ rfl
  have x11 := x 11 _ rfl
  have x12 := x 12 _ rfl
  have x13 := x 13 _ rfl
  clear x
  have HB : Hid (∀ d os, Below w.heap.size w (grow (redrawn (w.alloc (.cells #[.int .i64 2, .string s.name, .int .i64 s.n, .int .i64 s.a.kind, .int .i64 s.a.n, .string s.a.name, .slice s.a.a s.a.args.length s.a.cap, .int .i64 s.b.kind, .int .i64 s.b.n, .string s.b.name, .slice s.b.a s.b.args.length s.b.cap, .slice s.ba s.body.length s.bc, .slice s.ea s.els.length s.ec, .slice s.ca s.cases.length s.cc] 43)) d) os)) := fun d os => hb1.trans ((below_regrown _ d os).mono (by simp))
  unfold St.val
  rw [hk]
  clear hk hd
  go_enter Tryz.func42, Tryz.ntmps42
  go_wp2_with fail
  refine wp_region_quiet_below (by kernel_rfl) (by kernel_rfl) ?_
  repeat (go_big_quiet_step (first | (go_at_call 20; with_reducible exact Calls.regrown_of (KN.out _ (HB.out _ _))) | (go_at_call 21; with_reducible exact Calls.regrown_of (L0.out _))))
  refine wpQuiet_nil ?_
  intro _ hw'
  obtain ⟨⟨dq, osq⟩, hw''⟩ := hw'
  subst hw''
  clear x0 x1 x2 x3 x4 x5 x6 x7 x8 x9 x10 x11 x12 x13
  have hbq := HB.out dq osq
  go_wp2_with fail
  go_ret
  exact ⟨retS (by first | rfl | simp only [ByteArray.append_assoc]), hbq⟩

set_option maxRecDepth 100000 in
set_option maxHeartbeats 2000000 in
theorem rstmt3 (s : St) (d : Nat) (w : World) (hk : s.kind = 3) (hd : d ≤ 99) (hs : s.name.size ≤ 16) (TA : ByteArray) (hTA : TA.size ≤ 100000000) (hA : ∀ w', Below w.heap.size w w' → Calls Tryz.prog 63 #[s.a.val] w' fun e w'' => e = .returned (.string TA) ∧ Below w'.heap.size w' w'') :
    Calls Tryz.prog 42 #[s.val, .int .i64 d] w fun e w' => e = .returned (.string (lnT d (s.name ++ tb [32, 61, 32] ++ TA ++ tb [59]))) ∧ Below w.heap.size w w' := by
  have L0 : Hid (∀ w, Calls Tryz.prog 21 #[.string (s.name ++ tb [32, 61, 32] ++ TA ++ tb [59]), .int .i64 d] w fun e w' => e = .returned (.string (lnT d (s.name ++ tb [32, 61, 32] ++ TA ++ tb [59]))) ∧ Below w.heap.size w w') := fun w => rlineT _ d w (by omega) (by simp only [ByteArray.size_append, tb_size, List.length_cons, List.length_nil]; omega)
  have z0 : (lnT d (s.name ++ tb [32, 61, 32] ++ TA ++ tb [59])).size ≤ 1000000000 := by rw [lnT_size]; simp only [ByteArray.size_append, tb_size, List.length_cons, List.length_nil]; omega
  generalize lnT d (s.name ++ tb [32, 61, 32] ++ TA ++ tb [59]) = Y0 at L0 z0 ⊢
  have KA : Hid (∀ w', Below w.heap.size w w' → Calls Tryz.prog 63 #[s.a.val] w' fun e w'' => e = .returned (.string TA) ∧ Below w'.heap.size w' w'') := hA
  clear hA
  have hwd : IntKind.i64.wrap ((d : Int) + 1) = (d : Int) + 1 := by rw [IntKind.wrap_i64]; omega
  have hb1 := (Below.refl _ w).alloc (Nat.le_refl _) (.cells #[.int .i64 3, .string s.name, .int .i64 s.n, .int .i64 s.a.kind, .int .i64 s.a.n, .string s.a.name, .slice s.a.a s.a.args.length s.a.cap, .int .i64 s.b.kind, .int .i64 s.b.n, .string s.b.name, .slice s.b.a s.b.args.length s.b.cap, .slice s.ba s.body.length s.bc, .slice s.ea s.els.length s.ec, .slice s.ca s.cases.length s.cc] 43)
  have x := cell_new w #[.int .i64 3, .string s.name, .int .i64 s.n, .int .i64 s.a.kind, .int .i64 s.a.n, .string s.a.name, .slice s.a.a s.a.args.length s.a.cap, .int .i64 s.b.kind, .int .i64 s.b.n, .string s.b.name, .slice s.b.a s.b.args.length s.b.cap, .slice s.ba s.body.length s.bc, .slice s.ea s.els.length s.ec, .slice s.ca s.cases.length s.cc] 43
  have x0 := x 0 _ rfl
  have x1 := x 1 _ rfl
  have x2 := x 2 _ rfl
  have x3 := x 3 _ rfl
  have x4 := x 4 _ rfl
  have x5 := x 5 _ rfl
  have x6 := x 6 _ rfl
  have x7 := x 7 _ rfl
  have x8 := x 8 _ rfl
  have x9 := x 9 _ rfl
  have x10 := x 10 _ rfl
  have x11 := x 11 _ rfl
  have x12 := x 12 _ rfl
  have x13 := x 13 _ rfl
  clear x
  have HB : Hid (∀ d os, Below w.heap.size w (grow (redrawn (w.alloc (.cells #[.int .i64 3, .string s.name, .int .i64 s.n, .int .i64 s.a.kind, .int .i64 s.a.n, .string s.a.name, .slice s.a.a s.a.args.length s.a.cap, .int .i64 s.b.kind, .int .i64 s.b.n, .string s.b.name, .slice s.b.a s.b.args.length s.b.cap, .slice s.ba s.body.length s.bc, .slice s.ea s.els.length s.ec, .slice s.ca s.cases.length s.cc] 43)) d) os)) := fun d os => hb1.trans ((below_regrown _ d os).mono (by simp))
  unfold St.val
  unfold Ex.val at KA
  rw [hk]
  clear hk hd
  go_enter Tryz.func42, Tryz.ntmps42
  go_wp2_with fail
  refine wp_region_quiet_below (by kernel_rfl) (by kernel_rfl) ?_
  repeat (go_big_quiet_step (first | (go_at_call 63; with_reducible exact Calls.regrown_of (KA.out _ (HB.out _ _))) | (go_at_call 21; with_reducible exact Calls.regrown_of (L0.out _))))
  refine wpQuiet_nil ?_
  intro _ hw'
  obtain ⟨⟨dq, osq⟩, hw''⟩ := hw'
  subst hw''
  clear x0 x1 x2 x3 x4 x5 x6 x7 x8 x9 x10 x11 x12 x13
  have hbq := HB.out dq osq
  go_wp2_with fail
  go_ret
  exact ⟨retS (by first | rfl | simp only [ByteArray.append_assoc]), hbq⟩

set_option maxRecDepth 100000 in
set_option maxHeartbeats 2000000 in
theorem rstmt4 (s : St) (d : Nat) (w : World) (hk : s.kind = 4) (hd : d ≤ 99) (hs : s.name.size ≤ 16) (TA : ByteArray) (hTA : TA.size ≤ 100000000) (hA : ∀ w', Below w.heap.size w w' → Calls Tryz.prog 63 #[s.a.val] w' fun e w'' => e = .returned (.string TA) ∧ Below w'.heap.size w' w'') (TB : ByteArray) (hTB : TB.size ≤ 100000000) (hB : ∀ w', Below w.heap.size w w' → Calls Tryz.prog 63 #[s.b.val] w' fun e w'' => e = .returned (.string TB) ∧ Below w'.heap.size w' w'') :
    Calls Tryz.prog 42 #[s.val, .int .i64 d] w fun e w' => e = .returned (.string (lnT d (s.name ++ tb [91] ++ TA ++ tb [93, 32, 61, 32] ++ TB ++ tb [59]))) ∧ Below w.heap.size w w' := by
  have L0 : Hid (∀ w, Calls Tryz.prog 21 #[.string (s.name ++ tb [91] ++ TA ++ tb [93, 32, 61, 32] ++ TB ++ tb [59]), .int .i64 d] w fun e w' => e = .returned (.string (lnT d (s.name ++ tb [91] ++ TA ++ tb [93, 32, 61, 32] ++ TB ++ tb [59]))) ∧ Below w.heap.size w w') := fun w => rlineT _ d w (by omega) (by simp only [ByteArray.size_append, tb_size, List.length_cons, List.length_nil]; omega)
  have z0 : (lnT d (s.name ++ tb [91] ++ TA ++ tb [93, 32, 61, 32] ++ TB ++ tb [59])).size ≤ 1000000000 := by rw [lnT_size]; simp only [ByteArray.size_append, tb_size, List.length_cons, List.length_nil]; omega
  generalize lnT d (s.name ++ tb [91] ++ TA ++ tb [93, 32, 61, 32] ++ TB ++ tb [59]) = Y0 at L0 z0 ⊢
  have KA : Hid (∀ w', Below w.heap.size w w' → Calls Tryz.prog 63 #[s.a.val] w' fun e w'' => e = .returned (.string TA) ∧ Below w'.heap.size w' w'') := hA
  have KB : Hid (∀ w', Below w.heap.size w w' → Calls Tryz.prog 63 #[s.b.val] w' fun e w'' => e = .returned (.string TB) ∧ Below w'.heap.size w' w'') := hB
  clear hA hB
  have hwd : IntKind.i64.wrap ((d : Int) + 1) = (d : Int) + 1 := by rw [IntKind.wrap_i64]; omega
  have hb1 := (Below.refl _ w).alloc (Nat.le_refl _) (.cells #[.int .i64 4, .string s.name, .int .i64 s.n, .int .i64 s.a.kind, .int .i64 s.a.n, .string s.a.name, .slice s.a.a s.a.args.length s.a.cap, .int .i64 s.b.kind, .int .i64 s.b.n, .string s.b.name, .slice s.b.a s.b.args.length s.b.cap, .slice s.ba s.body.length s.bc, .slice s.ea s.els.length s.ec, .slice s.ca s.cases.length s.cc] 43)
  have x := cell_new w #[.int .i64 4, .string s.name, .int .i64 s.n, .int .i64 s.a.kind, .int .i64 s.a.n, .string s.a.name, .slice s.a.a s.a.args.length s.a.cap, .int .i64 s.b.kind, .int .i64 s.b.n, .string s.b.name, .slice s.b.a s.b.args.length s.b.cap, .slice s.ba s.body.length s.bc, .slice s.ea s.els.length s.ec, .slice s.ca s.cases.length s.cc] 43
  have x0 := x 0 _ rfl
  have x1 := x 1 _ rfl
  have x2 := x 2 _ rfl
  have x3 := x 3 _ rfl
  have x4 := x 4 _ rfl
  have x5 := x 5 _ rfl
  have x6 := x 6 _ rfl
  have x7 := x 7 _ rfl
  have x8 := x 8 _ rfl
  have x9 := x 9 _ rfl
  have x10 := x 10 _ rfl
  have x11 := x 11 _ rfl
  have x12 := x 12 _ rfl
  have x13 := x 13 _ rfl
  clear x
  have HB : Hid (∀ d os, Below w.heap.size w (grow (redrawn (w.alloc (.cells #[.int .i64 4, .string s.name, .int .i64 s.n, .int .i64 s.a.kind, .int .i64 s.a.n, .string s.a.name, .slice s.a.a s.a.args.length s.a.cap, .int .i64 s.b.kind, .int .i64 s.b.n, .string s.b.name, .slice s.b.a s.b.args.length s.b.cap, .slice s.ba s.body.length s.bc, .slice s.ea s.els.length s.ec, .slice s.ca s.cases.length s.cc] 43)) d) os)) := fun d os => hb1.trans ((below_regrown _ d os).mono (by simp))
  unfold St.val
  unfold Ex.val at KA KB
  rw [hk]
  clear hk hd
  go_enter Tryz.func42, Tryz.ntmps42
  go_wp2_with fail
  refine wp_region_quiet_below (by kernel_rfl) (by kernel_rfl) ?_
  repeat (go_big_quiet_step (first | (go_at_call 63; with_reducible exact Calls.regrown_of (KA.out _ (HB.out _ _))) | (go_at_call 63; with_reducible exact Calls.regrown_of (KB.out _ (HB.out _ _))) | (go_at_call 21; with_reducible exact Calls.regrown_of (L0.out _))))
  refine wpQuiet_nil ?_
  intro _ hw'
  obtain ⟨⟨dq, osq⟩, hw''⟩ := hw'
  subst hw''
  clear x0 x1 x2 x3 x4 x5 x6 x7 x8 x9 x10 x11 x12 x13
  have hbq := HB.out dq osq
  go_wp2_with fail
  go_ret
  exact ⟨retS (by first | rfl | simp only [ByteArray.append_assoc]), hbq⟩

set_option maxRecDepth 100000 in
set_option maxHeartbeats 2000000 in
theorem rstmt6 (s : St) (d : Nat) (w : World) (hk : s.kind = 6) (hd : d ≤ 99) (TA : ByteArray) (hTA : TA.size ≤ 100000000) (hA : ∀ w', Below w.heap.size w w' → Calls Tryz.prog 63 #[s.a.val] w' fun e w'' => e = .returned (.string TA) ∧ Below w'.heap.size w' w'') (TC : ByteArray) (hTC : TC.size ≤ 100000000) (hC : ∀ w', Below w.heap.size w w' → Calls Tryz.prog 64 #[s.val, .int .i64 ((d : Int) + 1)] w' fun e w'' => e = .returned (.string TC) ∧ Below w'.heap.size w' w'') :
    Calls Tryz.prog 42 #[s.val, .int .i64 d] w fun e w' => e = .returned (.string (lnT d (tb [115, 119, 105, 116, 99, 104, 32] ++ TA ++ tb [32, 123]) ++ TC ++ lnT d (tb [125]))) ∧ Below w.heap.size w w' := by
  have L0 : Hid (∀ w, Calls Tryz.prog 21 #[.string (tb [115, 119, 105, 116, 99, 104, 32] ++ TA ++ tb [32, 123]), .int .i64 d] w fun e w' => e = .returned (.string (lnT d (tb [115, 119, 105, 116, 99, 104, 32] ++ TA ++ tb [32, 123]))) ∧ Below w.heap.size w w') := fun w => rlineT _ d w (by omega) (by simp only [ByteArray.size_append, tb_size, List.length_cons, List.length_nil]; omega)
  have z0 : (lnT d (tb [115, 119, 105, 116, 99, 104, 32] ++ TA ++ tb [32, 123])).size ≤ 1000000000 := by rw [lnT_size]; simp only [ByteArray.size_append, tb_size, List.length_cons, List.length_nil]; omega
  generalize lnT d (tb [115, 119, 105, 116, 99, 104, 32] ++ TA ++ tb [32, 123]) = Y0 at L0 z0 ⊢
  have L1 : Hid (∀ w, Calls Tryz.prog 21 #[.string (tb [125]), .int .i64 d] w fun e w' => e = .returned (.string (lnT d (tb [125]))) ∧ Below w.heap.size w w') := fun w => rlineT _ d w (by omega) (by simp only [tb_size, List.length_cons, List.length_nil]; omega)
  have z1 : (lnT d (tb [125])).size ≤ 1000000000 := by rw [lnT_size]; simp only [tb_size, List.length_cons, List.length_nil]; omega
  generalize lnT d (tb [125]) = Y1 at L1 z1 ⊢
  have KA : Hid (∀ w', Below w.heap.size w w' → Calls Tryz.prog 63 #[s.a.val] w' fun e w'' => e = .returned (.string TA) ∧ Below w'.heap.size w' w'') := hA
  have KC : Hid (∀ w', Below w.heap.size w w' → Calls Tryz.prog 64 #[s.val, .int .i64 ((d : Int) + 1)] w' fun e w'' => e = .returned (.string TC) ∧ Below w'.heap.size w' w'') := hC
  clear hA hC
  have hwd : IntKind.i64.wrap ((d : Int) + 1) = (d : Int) + 1 := by rw [IntKind.wrap_i64]; omega
  have hb1 := (Below.refl _ w).alloc (Nat.le_refl _) (.cells #[.int .i64 6, .string s.name, .int .i64 s.n, .int .i64 s.a.kind, .int .i64 s.a.n, .string s.a.name, .slice s.a.a s.a.args.length s.a.cap, .int .i64 s.b.kind, .int .i64 s.b.n, .string s.b.name, .slice s.b.a s.b.args.length s.b.cap, .slice s.ba s.body.length s.bc, .slice s.ea s.els.length s.ec, .slice s.ca s.cases.length s.cc] 43)
  have x := cell_new w #[.int .i64 6, .string s.name, .int .i64 s.n, .int .i64 s.a.kind, .int .i64 s.a.n, .string s.a.name, .slice s.a.a s.a.args.length s.a.cap, .int .i64 s.b.kind, .int .i64 s.b.n, .string s.b.name, .slice s.b.a s.b.args.length s.b.cap, .slice s.ba s.body.length s.bc, .slice s.ea s.els.length s.ec, .slice s.ca s.cases.length s.cc] 43
  have x0 := x 0 _ rfl
  have x1 := x 1 _ rfl
  have x2 := x 2 _ rfl
  have x3 := x 3 _ rfl
  have x4 := x 4 _ rfl
  have x5 := x 5 _ rfl
  have x6 := x 6 _ rfl
  have x7 := x 7 _ rfl
  have x8 := x 8 _ rfl
  have x9 := x 9 _ rfl
  have x10 := x 10 _ rfl
  have x11 := x 11 _ rfl
  have x12 := x 12 _ rfl
  have x13 := x 13 _ rfl
  clear x
  have HB : Hid (∀ d os, Below w.heap.size w (grow (redrawn (w.alloc (.cells #[.int .i64 6, .string s.name, .int .i64 s.n, .int .i64 s.a.kind, .int .i64 s.a.n, .string s.a.name, .slice s.a.a s.a.args.length s.a.cap, .int .i64 s.b.kind, .int .i64 s.b.n, .string s.b.name, .slice s.b.a s.b.args.length s.b.cap, .slice s.ba s.body.length s.bc, .slice s.ea s.els.length s.ec, .slice s.ca s.cases.length s.cc] 43)) d) os)) := fun d os => hb1.trans ((below_regrown _ d os).mono (by simp))
  unfold St.val at KC
  unfold St.val
  unfold Ex.val at KA
  rw [hk] at KC
  rw [hk]
  clear hk hd
  go_enter Tryz.func42, Tryz.ntmps42
  go_wp2_with fail
  refine wp_region_quiet_below (by kernel_rfl) (by kernel_rfl) ?_
  repeat (go_big_quiet_step (first | (go_at_call 63; with_reducible exact Calls.regrown_of (KA.out _ (HB.out _ _))) | (go_at_call 64; with_reducible exact Calls.regrown_of (KC.out _ (HB.out _ _))) | (go_at_call 21; with_reducible exact Calls.regrown_of (L0.out _)) | (go_at_call 21; with_reducible exact Calls.regrown_of (L1.out _))))
  refine wpQuiet_nil ?_
  intro _ hw'
  obtain ⟨⟨dq, osq⟩, hw''⟩ := hw'
  subst hw''
  clear x0 x1 x2 x3 x4 x5 x6 x7 x8 x9 x10 x11 x12 x13
  have hbq := HB.out dq osq
  go_wp2_with fail
  go_ret
  exact ⟨retS (by first | rfl | simp only [ByteArray.append_assoc]), hbq⟩

set_option maxRecDepth 100000 in
set_option maxHeartbeats 2000000 in
theorem rstmt7 (s : St) (d : Nat) (w : World) (hk : s.kind = 7) (hd : d ≤ 99) (hs : s.name.size ≤ 16) (TA : ByteArray) (hTA : TA.size ≤ 100000000) (hA : ∀ w', Below w.heap.size w w' → Calls Tryz.prog 63 #[s.a.val] w' fun e w'' => e = .returned (.string TA) ∧ Below w'.heap.size w' w'') (TB : ByteArray) (hTB : TB.size ≤ 100000000) (hB : ∀ w', Below w.heap.size w w' → Calls Tryz.prog 63 #[s.b.val] w' fun e w'' => e = .returned (.string TB) ∧ Below w'.heap.size w' w'') (TD : ByteArray) (hTD : TD.size ≤ 100000000) (hD : ∀ w', Below w.heap.size w w' → Calls Tryz.prog 23 #[.slice s.ba s.body.length s.bc, .int .i64 ((d : Int) + 1)] w' fun e w'' => e = .returned (.string TD) ∧ Below w'.heap.size w' w'') :
    Calls Tryz.prog 42 #[s.val, .int .i64 d] w fun e w' => e = .returned (.string (lnT d (tb [102, 111, 114, 32] ++ s.name ++ tb [32, 105, 110, 32] ++ TA ++ tb [46, 46] ++ TB ++ tb [32, 123]) ++ TD ++ lnT d (tb [125]))) ∧ Below w.heap.size w w' := by
  have L0 : Hid (∀ w, Calls Tryz.prog 21 #[.string (tb [102, 111, 114, 32] ++ s.name ++ tb [32, 105, 110, 32] ++ TA ++ tb [46, 46] ++ TB ++ tb [32, 123]), .int .i64 d] w fun e w' => e = .returned (.string (lnT d (tb [102, 111, 114, 32] ++ s.name ++ tb [32, 105, 110, 32] ++ TA ++ tb [46, 46] ++ TB ++ tb [32, 123]))) ∧ Below w.heap.size w w') := fun w => rlineT _ d w (by omega) (by simp only [ByteArray.size_append, tb_size, List.length_cons, List.length_nil]; omega)
  have z0 : (lnT d (tb [102, 111, 114, 32] ++ s.name ++ tb [32, 105, 110, 32] ++ TA ++ tb [46, 46] ++ TB ++ tb [32, 123])).size ≤ 1000000000 := by rw [lnT_size]; simp only [ByteArray.size_append, tb_size, List.length_cons, List.length_nil]; omega
  generalize lnT d (tb [102, 111, 114, 32] ++ s.name ++ tb [32, 105, 110, 32] ++ TA ++ tb [46, 46] ++ TB ++ tb [32, 123]) = Y0 at L0 z0 ⊢
  have L1 : Hid (∀ w, Calls Tryz.prog 21 #[.string (tb [125]), .int .i64 d] w fun e w' => e = .returned (.string (lnT d (tb [125]))) ∧ Below w.heap.size w w') := fun w => rlineT _ d w (by omega) (by simp only [tb_size, List.length_cons, List.length_nil]; omega)
  have z1 : (lnT d (tb [125])).size ≤ 1000000000 := by rw [lnT_size]; simp only [tb_size, List.length_cons, List.length_nil]; omega
  generalize lnT d (tb [125]) = Y1 at L1 z1 ⊢
  have KA : Hid (∀ w', Below w.heap.size w w' → Calls Tryz.prog 63 #[s.a.val] w' fun e w'' => e = .returned (.string TA) ∧ Below w'.heap.size w' w'') := hA
  have KB : Hid (∀ w', Below w.heap.size w w' → Calls Tryz.prog 63 #[s.b.val] w' fun e w'' => e = .returned (.string TB) ∧ Below w'.heap.size w' w'') := hB
  have KD : Hid (∀ w', Below w.heap.size w w' → Calls Tryz.prog 23 #[.slice s.ba s.body.length s.bc, .int .i64 ((d : Int) + 1)] w' fun e w'' => e = .returned (.string TD) ∧ Below w'.heap.size w' w'') := hD
  clear hA hB hD
  have hwd : IntKind.i64.wrap ((d : Int) + 1) = (d : Int) + 1 := by rw [IntKind.wrap_i64]; omega
  have hb1 := (Below.refl _ w).alloc (Nat.le_refl _) (.cells #[.int .i64 7, .string s.name, .int .i64 s.n, .int .i64 s.a.kind, .int .i64 s.a.n, .string s.a.name, .slice s.a.a s.a.args.length s.a.cap, .int .i64 s.b.kind, .int .i64 s.b.n, .string s.b.name, .slice s.b.a s.b.args.length s.b.cap, .slice s.ba s.body.length s.bc, .slice s.ea s.els.length s.ec, .slice s.ca s.cases.length s.cc] 43)
  have x := cell_new w #[.int .i64 7, .string s.name, .int .i64 s.n, .int .i64 s.a.kind, .int .i64 s.a.n, .string s.a.name, .slice s.a.a s.a.args.length s.a.cap, .int .i64 s.b.kind, .int .i64 s.b.n, .string s.b.name, .slice s.b.a s.b.args.length s.b.cap, .slice s.ba s.body.length s.bc, .slice s.ea s.els.length s.ec, .slice s.ca s.cases.length s.cc] 43
  have x0 := x 0 _ rfl
  have x1 := x 1 _ rfl
  have x2 := x 2 _ rfl
  have x3 := x 3 _ rfl
  have x4 := x 4 _ rfl
  have x5 := x 5 _ rfl
  have x6 := x 6 _ rfl
  have x7 := x 7 _ rfl
  have x8 := x 8 _ rfl
  have x9 := x 9 _ rfl
  have x10 := x 10 _ rfl
  have x11 := x 11 _ rfl
  have x12 := x 12 _ rfl
  have x13 := x 13 _ rfl
  clear x
  have HB : Hid (∀ d os, Below w.heap.size w (grow (redrawn (w.alloc (.cells #[.int .i64 7, .string s.name, .int .i64 s.n, .int .i64 s.a.kind, .int .i64 s.a.n, .string s.a.name, .slice s.a.a s.a.args.length s.a.cap, .int .i64 s.b.kind, .int .i64 s.b.n, .string s.b.name, .slice s.b.a s.b.args.length s.b.cap, .slice s.ba s.body.length s.bc, .slice s.ea s.els.length s.ec, .slice s.ca s.cases.length s.cc] 43)) d) os)) := fun d os => hb1.trans ((below_regrown _ d os).mono (by simp))
  unfold St.val
  unfold Ex.val at KA KB
  rw [hk]
  clear hk hd
  go_enter Tryz.func42, Tryz.ntmps42
  go_wp2_with fail
  refine wp_region_quiet_below (by kernel_rfl) (by kernel_rfl) ?_
  repeat (go_big_quiet_step (first | (go_at_call 63; with_reducible exact Calls.regrown_of (KA.out _ (HB.out _ _))) | (go_at_call 63; with_reducible exact Calls.regrown_of (KB.out _ (HB.out _ _))) | (go_at_call 23; with_reducible exact Calls.regrown_of (KD.out _ (HB.out _ _))) | (go_at_call 21; with_reducible exact Calls.regrown_of (L0.out _)) | (go_at_call 21; with_reducible exact Calls.regrown_of (L1.out _))))
  refine wpQuiet_nil ?_
  intro _ hw'
  obtain ⟨⟨dq, osq⟩, hw''⟩ := hw'
  subst hw''
  clear x0 x1 x2 x3 x4 x5 x6 x7 x8 x9 x10 x11 x12 x13
  have hbq := HB.out dq osq
  go_wp2_with fail
  go_ret
  exact ⟨retS (by first | rfl | simp only [ByteArray.append_assoc]), hbq⟩

set_option maxRecDepth 100000 in
set_option maxHeartbeats 2000000 in
theorem rstmt8 (s : St) (d : Nat) (w : World) (hk : s.kind = 8) (hd : d ≤ 99)  :
    Calls Tryz.prog 42 #[s.val, .int .i64 d] w fun e w' => e = .returned (.string (lnT d (tb [98, 114, 101, 97, 107, 59]))) ∧ Below w.heap.size w w' := by
  have L0 : Hid (∀ w, Calls Tryz.prog 21 #[.string (tb [98, 114, 101, 97, 107, 59]), .int .i64 d] w fun e w' => e = .returned (.string (lnT d (tb [98, 114, 101, 97, 107, 59]))) ∧ Below w.heap.size w w') := fun w => rlineT _ d w (by omega) (by simp only [tb_size, List.length_cons, List.length_nil]; omega)
  have z0 : (lnT d (tb [98, 114, 101, 97, 107, 59])).size ≤ 1000000000 := by rw [lnT_size]; simp only [tb_size, List.length_cons, List.length_nil]; omega
  generalize lnT d (tb [98, 114, 101, 97, 107, 59]) = Y0 at L0 z0 ⊢
  have hwd : IntKind.i64.wrap ((d : Int) + 1) = (d : Int) + 1 := by rw [IntKind.wrap_i64]; omega
  have hb1 := (Below.refl _ w).alloc (Nat.le_refl _) (.cells #[.int .i64 8, .string s.name, .int .i64 s.n, .int .i64 s.a.kind, .int .i64 s.a.n, .string s.a.name, .slice s.a.a s.a.args.length s.a.cap, .int .i64 s.b.kind, .int .i64 s.b.n, .string s.b.name, .slice s.b.a s.b.args.length s.b.cap, .slice s.ba s.body.length s.bc, .slice s.ea s.els.length s.ec, .slice s.ca s.cases.length s.cc] 43)
  have x := cell_new w #[.int .i64 8, .string s.name, .int .i64 s.n, .int .i64 s.a.kind, .int .i64 s.a.n, .string s.a.name, .slice s.a.a s.a.args.length s.a.cap, .int .i64 s.b.kind, .int .i64 s.b.n, .string s.b.name, .slice s.b.a s.b.args.length s.b.cap, .slice s.ba s.body.length s.bc, .slice s.ea s.els.length s.ec, .slice s.ca s.cases.length s.cc] 43
  have x0 := x 0 _ rfl
  have x1 := x 1 _ rfl
  have x2 := x 2 _ rfl
  have x3 := x 3 _ rfl
  have x4 := x 4 _ rfl
  have x5 := x 5 _ rfl
  have x6 := x 6 _ rfl
  have x7 := x 7 _ rfl
  have x8 := x 8 _ rfl
  have x9 := x 9 _ rfl
  have x10 := x 10 _ rfl
  have x11 := x 11 _ rfl
  have x12 := x 12 _ rfl
  have x13 := x 13 _ rfl
  clear x
  have HB : Hid (∀ d os, Below w.heap.size w (grow (redrawn (w.alloc (.cells #[.int .i64 8, .string s.name, .int .i64 s.n, .int .i64 s.a.kind, .int .i64 s.a.n, .string s.a.name, .slice s.a.a s.a.args.length s.a.cap, .int .i64 s.b.kind, .int .i64 s.b.n, .string s.b.name, .slice s.b.a s.b.args.length s.b.cap, .slice s.ba s.body.length s.bc, .slice s.ea s.els.length s.ec, .slice s.ca s.cases.length s.cc] 43)) d) os)) := fun d os => hb1.trans ((below_regrown _ d os).mono (by simp))
  unfold St.val
  rw [hk]
  clear hk hd
  clear x0 x1 x2 x3 x4 x5 x6 x7 x8 x9 x10 x11 x12 x13
  go_enter Tryz.func42, Tryz.ntmps42
  go_wp2_with fail
  refine (L0.out _).mono ?_
  rintro r w4 ⟨rfl, hb4⟩
  have hb5 : Below w.heap.size w w4 := hb1.trans (hb4.mono hb1.size)
  clear hb4
  go_wp2_with fail
  go_ret
  exact ⟨rfl, hb5⟩

set_option maxRecDepth 100000 in
set_option maxHeartbeats 2000000 in
theorem rstmt9 (s : St) (d : Nat) (w : World) (hk : s.kind = 9) (hd : d ≤ 99) (TA : ByteArray) (hTA : TA.size ≤ 100000000) (hA : ∀ w', Below w.heap.size w w' → Calls Tryz.prog 63 #[s.a.val] w' fun e w'' => e = .returned (.string TA) ∧ Below w'.heap.size w' w'') :
    Calls Tryz.prog 42 #[s.val, .int .i64 d] w fun e w' => e = .returned (.string (lnT d (tb [114, 101, 116, 117, 114, 110, 32] ++ TA ++ tb [59]))) ∧ Below w.heap.size w w' := by
  have L0 : Hid (∀ w, Calls Tryz.prog 21 #[.string (tb [114, 101, 116, 117, 114, 110, 32] ++ TA ++ tb [59]), .int .i64 d] w fun e w' => e = .returned (.string (lnT d (tb [114, 101, 116, 117, 114, 110, 32] ++ TA ++ tb [59]))) ∧ Below w.heap.size w w') := fun w => rlineT _ d w (by omega) (by simp only [ByteArray.size_append, tb_size, List.length_cons, List.length_nil]; omega)
  have z0 : (lnT d (tb [114, 101, 116, 117, 114, 110, 32] ++ TA ++ tb [59])).size ≤ 1000000000 := by rw [lnT_size]; simp only [ByteArray.size_append, tb_size, List.length_cons, List.length_nil]; omega
  generalize lnT d (tb [114, 101, 116, 117, 114, 110, 32] ++ TA ++ tb [59]) = Y0 at L0 z0 ⊢
  have KA : Hid (∀ w', Below w.heap.size w w' → Calls Tryz.prog 63 #[s.a.val] w' fun e w'' => e = .returned (.string TA) ∧ Below w'.heap.size w' w'') := hA
  clear hA
  have hwd : IntKind.i64.wrap ((d : Int) + 1) = (d : Int) + 1 := by rw [IntKind.wrap_i64]; omega
  have hb1 := (Below.refl _ w).alloc (Nat.le_refl _) (.cells #[.int .i64 9, .string s.name, .int .i64 s.n, .int .i64 s.a.kind, .int .i64 s.a.n, .string s.a.name, .slice s.a.a s.a.args.length s.a.cap, .int .i64 s.b.kind, .int .i64 s.b.n, .string s.b.name, .slice s.b.a s.b.args.length s.b.cap, .slice s.ba s.body.length s.bc, .slice s.ea s.els.length s.ec, .slice s.ca s.cases.length s.cc] 43)
  have x := cell_new w #[.int .i64 9, .string s.name, .int .i64 s.n, .int .i64 s.a.kind, .int .i64 s.a.n, .string s.a.name, .slice s.a.a s.a.args.length s.a.cap, .int .i64 s.b.kind, .int .i64 s.b.n, .string s.b.name, .slice s.b.a s.b.args.length s.b.cap, .slice s.ba s.body.length s.bc, .slice s.ea s.els.length s.ec, .slice s.ca s.cases.length s.cc] 43
  have x0 := x 0 _ rfl
  have x1 := x 1 _ rfl
  have x2 := x 2 _ rfl
  have x3 := x 3 _ rfl
  have x4 := x 4 _ rfl
  have x5 := x 5 _ rfl
  have x6 := x 6 _ rfl
  have x7 := x 7 _ rfl
  have x8 := x 8 _ rfl
  have x9 := x 9 _ rfl
  have x10 := x 10 _ rfl
  have x11 := x 11 _ rfl
  have x12 := x 12 _ rfl
  have x13 := x 13 _ rfl
  clear x
  have HB : Hid (∀ d os, Below w.heap.size w (grow (redrawn (w.alloc (.cells #[.int .i64 9, .string s.name, .int .i64 s.n, .int .i64 s.a.kind, .int .i64 s.a.n, .string s.a.name, .slice s.a.a s.a.args.length s.a.cap, .int .i64 s.b.kind, .int .i64 s.b.n, .string s.b.name, .slice s.b.a s.b.args.length s.b.cap, .slice s.ba s.body.length s.bc, .slice s.ea s.els.length s.ec, .slice s.ca s.cases.length s.cc] 43)) d) os)) := fun d os => hb1.trans ((below_regrown _ d os).mono (by simp))
  unfold St.val
  unfold Ex.val at KA
  rw [hk]
  clear hk hd
  clear x0 x1 x2 x3 x4 x5 x6 x7 x8 x9 x10 x11 x12 x13
  go_enter Tryz.func42, Tryz.ntmps42
  go_wp2_with fail
  refine (KA.out _ hb1).mono ?_
  rintro r w2 ⟨rfl, hb2⟩
  have hb3 : Below w.heap.size w w2 := hb1.trans (hb2.mono hb1.size)
  clear hb2
  go_wp2_with fail
  refine (L0.out _).mono ?_
  rintro r w4 ⟨rfl, hb4⟩
  have hb5 : Below w.heap.size w w4 := hb3.trans (hb4.mono hb3.size)
  clear hb4
  go_wp2_with fail
  go_ret
  exact ⟨rfl, hb5⟩

set_option maxRecDepth 100000 in
set_option maxHeartbeats 2000000 in
theorem rstmt10 (s : St) (d : Nat) (w : World) (hk : s.kind = 10) (hd : d ≤ 99) (TA : ByteArray) (hTA : TA.size ≤ 100000000) (hA : ∀ w', Below w.heap.size w w' → Calls Tryz.prog 63 #[s.a.val] w' fun e w'' => e = .returned (.string TA) ∧ Below w'.heap.size w' w'') :
    Calls Tryz.prog 42 #[s.val, .int .i64 d] w fun e w' => e = .returned (.string (lnT d (TA ++ tb [59]))) ∧ Below w.heap.size w w' := by
  have L0 : Hid (∀ w, Calls Tryz.prog 21 #[.string (TA ++ tb [59]), .int .i64 d] w fun e w' => e = .returned (.string (lnT d (TA ++ tb [59]))) ∧ Below w.heap.size w w') := fun w => rlineT _ d w (by omega) (by simp only [ByteArray.size_append, tb_size, List.length_cons, List.length_nil]; omega)
  have z0 : (lnT d (TA ++ tb [59])).size ≤ 1000000000 := by rw [lnT_size]; simp only [ByteArray.size_append, tb_size, List.length_cons, List.length_nil]; omega
  generalize lnT d (TA ++ tb [59]) = Y0 at L0 z0 ⊢
  have KA : Hid (∀ w', Below w.heap.size w w' → Calls Tryz.prog 63 #[s.a.val] w' fun e w'' => e = .returned (.string TA) ∧ Below w'.heap.size w' w'') := hA
  clear hA
  have hwd : IntKind.i64.wrap ((d : Int) + 1) = (d : Int) + 1 := by rw [IntKind.wrap_i64]; omega
  have hb1 := (Below.refl _ w).alloc (Nat.le_refl _) (.cells #[.int .i64 10, .string s.name, .int .i64 s.n, .int .i64 s.a.kind, .int .i64 s.a.n, .string s.a.name, .slice s.a.a s.a.args.length s.a.cap, .int .i64 s.b.kind, .int .i64 s.b.n, .string s.b.name, .slice s.b.a s.b.args.length s.b.cap, .slice s.ba s.body.length s.bc, .slice s.ea s.els.length s.ec, .slice s.ca s.cases.length s.cc] 43)
  have x := cell_new w #[.int .i64 10, .string s.name, .int .i64 s.n, .int .i64 s.a.kind, .int .i64 s.a.n, .string s.a.name, .slice s.a.a s.a.args.length s.a.cap, .int .i64 s.b.kind, .int .i64 s.b.n, .string s.b.name, .slice s.b.a s.b.args.length s.b.cap, .slice s.ba s.body.length s.bc, .slice s.ea s.els.length s.ec, .slice s.ca s.cases.length s.cc] 43
  have x0 := x 0 _ rfl
  have x1 := x 1 _ rfl
  have x2 := x 2 _ rfl
  have x3 := x 3 _ rfl
  have x4 := x 4 _ rfl
  have x5 := x 5 _ rfl
  have x6 := x 6 _ rfl
  have x7 := x 7 _ rfl
  have x8 := x 8 _ rfl
  have x9 := x 9 _ rfl
  have x10 := x 10 _ rfl
  have x11 := x 11 _ rfl
  have x12 := x 12 _ rfl
  have x13 := x 13 _ rfl
  clear x
  have HB : Hid (∀ d os, Below w.heap.size w (grow (redrawn (w.alloc (.cells #[.int .i64 10, .string s.name, .int .i64 s.n, .int .i64 s.a.kind, .int .i64 s.a.n, .string s.a.name, .slice s.a.a s.a.args.length s.a.cap, .int .i64 s.b.kind, .int .i64 s.b.n, .string s.b.name, .slice s.b.a s.b.args.length s.b.cap, .slice s.ba s.body.length s.bc, .slice s.ea s.els.length s.ec, .slice s.ca s.cases.length s.cc] 43)) d) os)) := fun d os => hb1.trans ((below_regrown _ d os).mono (by simp))
  unfold St.val
  unfold Ex.val at KA
  rw [hk]
  clear hk hd
  clear x0 x1 x2 x3 x4 x5 x6 x7 x8 x9 x10 x11 x12 x13
  go_enter Tryz.func42, Tryz.ntmps42
  go_wp2_with fail
  refine (KA.out _ hb1).mono ?_
  rintro r w2 ⟨rfl, hb2⟩
  have hb3 : Below w.heap.size w w2 := hb1.trans (hb2.mono hb1.size)
  clear hb2
  go_wp2_with fail
  refine (L0.out _).mono ?_
  rintro r w4 ⟨rfl, hb4⟩
  have hb5 : Below w.heap.size w w4 := hb3.trans (hb4.mono hb3.size)
  clear hb4
  go_wp2_with fail
  go_ret
  exact ⟨rfl, hb5⟩

end Go.Proofs.YtbpemackmadhgaaGreatDoor

/- The document's own lines of an if; of statements one after the other. -/
namespace Go.Proofs.YtbpemackmadhgaaGreatDoor
open Go.RowKit Go.Sort

set_option maxRecDepth 100000 in
set_option maxHeartbeats 2000000 in
theorem rstmt5n (s : St) (d : Nat) (w : World) (hk : s.kind = 5) (hd : d ≤ 99) (he : s.els.length = 0) (TA : ByteArray) (hTA : TA.size ≤ 100000000) (hA : ∀ w', Below w.heap.size w w' → Calls Tryz.prog 63 #[s.a.val] w' fun e w'' => e = .returned (.string TA) ∧ Below w'.heap.size w' w'') (TD : ByteArray) (hTD : TD.size ≤ 100000000) (hD : ∀ w', Below w.heap.size w w' → Calls Tryz.prog 23 #[.slice s.ba s.body.length s.bc, .int .i64 ((d : Int) + 1)] w' fun e w'' => e = .returned (.string TD) ∧ Below w'.heap.size w' w'') :
    Calls Tryz.prog 42 #[s.val, .int .i64 d] w fun e w' => e = .returned (.string (lnT d (tb [105, 102, 32] ++ TA ++ tb [32, 123]) ++ TD ++ lnT d (tb [125]))) ∧ Below w.heap.size w w' := by
  have L0 : Hid (∀ w, Calls Tryz.prog 21 #[.string (tb [105, 102, 32] ++ TA ++ tb [32, 123]), .int .i64 d] w fun e w' => e = .returned (.string (lnT d (tb [105, 102, 32] ++ TA ++ tb [32, 123]))) ∧ Below w.heap.size w w') := fun w => rlineT _ d w (by omega) (by simp only [ByteArray.size_append, tb_size, List.length_cons, List.length_nil]; omega)
  have z0 : (lnT d (tb [105, 102, 32] ++ TA ++ tb [32, 123])).size ≤ 1000000000 := by rw [lnT_size]; simp only [ByteArray.size_append, tb_size, List.length_cons, List.length_nil]; omega
  generalize lnT d (tb [105, 102, 32] ++ TA ++ tb [32, 123]) = Y0 at L0 z0 ⊢
  have L2 : Hid (∀ w, Calls Tryz.prog 21 #[.string (tb [125]), .int .i64 d] w fun e w' => e = .returned (.string (lnT d (tb [125]))) ∧ Below w.heap.size w w') := fun w => rlineT _ d w (by omega) (by simp only [tb_size, List.length_cons, List.length_nil]; omega)
  have z2 : (lnT d (tb [125])).size ≤ 1000000000 := by rw [lnT_size]; simp only [tb_size, List.length_cons, List.length_nil]; omega
  generalize lnT d (tb [125]) = Y2 at L2 z2 ⊢
  have KA : Hid (∀ w', Below w.heap.size w w' → Calls Tryz.prog 63 #[s.a.val] w' fun e w'' => e = .returned (.string TA) ∧ Below w'.heap.size w' w'') := hA
  have KD : Hid (∀ w', Below w.heap.size w w' → Calls Tryz.prog 23 #[.slice s.ba s.body.length s.bc, .int .i64 ((d : Int) + 1)] w' fun e w'' => e = .returned (.string TD) ∧ Below w'.heap.size w' w'') := hD
  clear hA hD
  have hwd : IntKind.i64.wrap ((d : Int) + 1) = (d : Int) + 1 := by rw [IntKind.wrap_i64]; omega
  have hb1 := (Below.refl _ w).alloc (Nat.le_refl _) (.cells #[.int .i64 5, .string s.name, .int .i64 s.n, .int .i64 s.a.kind, .int .i64 s.a.n, .string s.a.name, .slice s.a.a s.a.args.length s.a.cap, .int .i64 s.b.kind, .int .i64 s.b.n, .string s.b.name, .slice s.b.a s.b.args.length s.b.cap, .slice s.ba s.body.length s.bc, .slice s.ea s.els.length s.ec, .slice s.ca s.cases.length s.cc] 43)
  have x := cell_new w #[.int .i64 5, .string s.name, .int .i64 s.n, .int .i64 s.a.kind, .int .i64 s.a.n, .string s.a.name, .slice s.a.a s.a.args.length s.a.cap, .int .i64 s.b.kind, .int .i64 s.b.n, .string s.b.name, .slice s.b.a s.b.args.length s.b.cap, .slice s.ba s.body.length s.bc, .slice s.ea s.els.length s.ec, .slice s.ca s.cases.length s.cc] 43
  have x0 := x 0 _ rfl
  have x1 := x 1 _ rfl
  have x2 := x 2 _ rfl
  have x3 := x 3 _ rfl
  have x4 := x 4 _ rfl
  have x5 := x 5 _ rfl
  have x6 := x 6 _ rfl
  have x7 := x 7 _ rfl
  have x8 := x 8 _ rfl
  have x9 := x 9 _ rfl
  have x10 := x 10 _ rfl
  have x11 := x 11 _ rfl
  have x12 := x 12 _ rfl
  have x13 := x 13 _ rfl
  clear x
  have HB : Hid (∀ d os, Below w.heap.size w (grow (redrawn (w.alloc (.cells #[.int .i64 5, .string s.name, .int .i64 s.n, .int .i64 s.a.kind, .int .i64 s.a.n, .string s.a.name, .slice s.a.a s.a.args.length s.a.cap, .int .i64 s.b.kind, .int .i64 s.b.n, .string s.b.name, .slice s.b.a s.b.args.length s.b.cap, .slice s.ba s.body.length s.bc, .slice s.ea s.els.length s.ec, .slice s.ca s.cases.length s.cc] 43)) d) os)) := fun d os => hb1.trans ((below_regrown _ d os).mono (by simp))
  have hei : ¬ (0 : Int) < (s.els.length : Int) := by omega
  unfold St.val
  unfold Ex.val at KA
  rw [hk]
  clear hk hd he
  go_enter Tryz.func42, Tryz.ntmps42
  go_wp2_with fail
  refine wp_region_quiet_below (by kernel_rfl) (by kernel_rfl) ?_
  repeat (go_big_quiet_step (first | (go_at_call 63; with_reducible exact Calls.regrown_of (KA.out _ (HB.out _ _))) | (go_at_call 23; with_reducible exact Calls.regrown_of (KD.out _ (HB.out _ _))) | (go_at_call 21; with_reducible exact Calls.regrown_of (L0.out _))))
  refine wpQuiet_nil ?_
  intro _ hw'
  obtain ⟨⟨dq, osq⟩, hw''⟩ := hw'
  subst hw''
  have y12 := x12 dq osq
  have hbq := HB.out dq osq
  clear x0 x1 x2 x3 x4 x5 x6 x7 x8 x9 x10 x11 x12 x13 HB hb1
  generalize grow (redrawn (w.alloc (.cells #[.int .i64 5, .string s.name, .int .i64 s.n, .int .i64 s.a.kind, .int .i64 s.a.n, .string s.a.name, .slice s.a.a s.a.args.length s.a.cap, .int .i64 s.b.kind, .int .i64 s.b.n, .string s.b.name, .slice s.b.a s.b.args.length s.b.cap, .slice s.ba s.body.length s.bc, .slice s.ea s.els.length s.ec, .slice s.ca s.cases.length s.cc] 43)) dq) osq = W2 at *
  have zs : (Y0 ++ TD).size ≤ 1100000000 := by rw [ByteArray.size_append]; omega
  generalize hS : Y0 ++ TD = S at zs ⊢
  have HS : Hid (Y0 ++ TD = S) := hS
  clear hS
  have hbr := hbq
  clear hbq
  go_wp2_with fail
  refine (L2.out _).mono ?_
  rintro r w4 ⟨rfl, hb4⟩
  have hb5 : Below w.heap.size w w4 := hbr.trans (hb4.mono hbr.size)
  clear hb4
  go_wp2_with fail
  go_ret
  exact ⟨retS (by rw [HS.out]), hb5⟩

set_option maxRecDepth 100000 in
set_option maxHeartbeats 2000000 in
theorem rstmt5e (s : St) (d : Nat) (w : World) (hk : s.kind = 5) (hd : d ≤ 99) (he : 0 < s.els.length) (TA : ByteArray) (hTA : TA.size ≤ 100000000) (hA : ∀ w', Below w.heap.size w w' → Calls Tryz.prog 63 #[s.a.val] w' fun e w'' => e = .returned (.string TA) ∧ Below w'.heap.size w' w'') (TD : ByteArray) (hTD : TD.size ≤ 100000000) (hD : ∀ w', Below w.heap.size w w' → Calls Tryz.prog 23 #[.slice s.ba s.body.length s.bc, .int .i64 ((d : Int) + 1)] w' fun e w'' => e = .returned (.string TD) ∧ Below w'.heap.size w' w'') (TE : ByteArray) (hTE : TE.size ≤ 100000000) (hE : ∀ w', Below w.heap.size w w' → Calls Tryz.prog 23 #[.slice s.ea s.els.length s.ec, .int .i64 ((d : Int) + 1)] w' fun e w'' => e = .returned (.string TE) ∧ Below w'.heap.size w' w'') :
    Calls Tryz.prog 42 #[s.val, .int .i64 d] w fun e w' => e = .returned (.string (lnT d (tb [105, 102, 32] ++ TA ++ tb [32, 123]) ++ TD ++ (lnT d (tb [125, 32, 101, 108, 115, 101, 32, 123]) ++ TE) ++ lnT d (tb [125]))) ∧ Below w.heap.size w w' := by
  have L0 : Hid (∀ w, Calls Tryz.prog 21 #[.string (tb [105, 102, 32] ++ TA ++ tb [32, 123]), .int .i64 d] w fun e w' => e = .returned (.string (lnT d (tb [105, 102, 32] ++ TA ++ tb [32, 123]))) ∧ Below w.heap.size w w') := fun w => rlineT _ d w (by omega) (by simp only [ByteArray.size_append, tb_size, List.length_cons, List.length_nil]; omega)
  have z0 : (lnT d (tb [105, 102, 32] ++ TA ++ tb [32, 123])).size ≤ 1000000000 := by rw [lnT_size]; simp only [ByteArray.size_append, tb_size, List.length_cons, List.length_nil]; omega
  generalize lnT d (tb [105, 102, 32] ++ TA ++ tb [32, 123]) = Y0 at L0 z0 ⊢
  have L1 : Hid (∀ w, Calls Tryz.prog 21 #[.string (tb [125, 32, 101, 108, 115, 101, 32, 123]), .int .i64 d] w fun e w' => e = .returned (.string (lnT d (tb [125, 32, 101, 108, 115, 101, 32, 123]))) ∧ Below w.heap.size w w') := fun w => rlineT _ d w (by omega) (by simp only [tb_size, List.length_cons, List.length_nil]; omega)
  have z1 : (lnT d (tb [125, 32, 101, 108, 115, 101, 32, 123])).size ≤ 1000000000 := by rw [lnT_size]; simp only [tb_size, List.length_cons, List.length_nil]; omega
  generalize lnT d (tb [125, 32, 101, 108, 115, 101, 32, 123]) = Y1 at L1 z1 ⊢
  have L2 : Hid (∀ w, Calls Tryz.prog 21 #[.string (tb [125]), .int .i64 d] w fun e w' => e = .returned (.string (lnT d (tb [125]))) ∧ Below w.heap.size w w') := fun w => rlineT _ d w (by omega) (by simp only [tb_size, List.length_cons, List.length_nil]; omega)
  have z2 : (lnT d (tb [125])).size ≤ 1000000000 := by rw [lnT_size]; simp only [tb_size, List.length_cons, List.length_nil]; omega
  generalize lnT d (tb [125]) = Y2 at L2 z2 ⊢
  have KA : Hid (∀ w', Below w.heap.size w w' → Calls Tryz.prog 63 #[s.a.val] w' fun e w'' => e = .returned (.string TA) ∧ Below w'.heap.size w' w'') := hA
  have KD : Hid (∀ w', Below w.heap.size w w' → Calls Tryz.prog 23 #[.slice s.ba s.body.length s.bc, .int .i64 ((d : Int) + 1)] w' fun e w'' => e = .returned (.string TD) ∧ Below w'.heap.size w' w'') := hD
  have KE : Hid (∀ w', Below w.heap.size w w' → Calls Tryz.prog 23 #[.slice s.ea s.els.length s.ec, .int .i64 ((d : Int) + 1)] w' fun e w'' => e = .returned (.string TE) ∧ Below w'.heap.size w' w'') := hE
  clear hA hD hE
  have hwd : IntKind.i64.wrap ((d : Int) + 1) = (d : Int) + 1 := by rw [IntKind.wrap_i64]; omega
  have hb1 := (Below.refl _ w).alloc (Nat.le_refl _) (.cells #[.int .i64 5, .string s.name, .int .i64 s.n, .int .i64 s.a.kind, .int .i64 s.a.n, .string s.a.name, .slice s.a.a s.a.args.length s.a.cap, .int .i64 s.b.kind, .int .i64 s.b.n, .string s.b.name, .slice s.b.a s.b.args.length s.b.cap, .slice s.ba s.body.length s.bc, .slice s.ea s.els.length s.ec, .slice s.ca s.cases.length s.cc] 43)
  have x := cell_new w #[.int .i64 5, .string s.name, .int .i64 s.n, .int .i64 s.a.kind, .int .i64 s.a.n, .string s.a.name, .slice s.a.a s.a.args.length s.a.cap, .int .i64 s.b.kind, .int .i64 s.b.n, .string s.b.name, .slice s.b.a s.b.args.length s.b.cap, .slice s.ba s.body.length s.bc, .slice s.ea s.els.length s.ec, .slice s.ca s.cases.length s.cc] 43
  have x0 := x 0 _ rfl
  have x1 := x 1 _ rfl
  have x2 := x 2 _ rfl
  have x3 := x 3 _ rfl
  have x4 := x 4 _ rfl
  have x5 := x 5 _ rfl
  have x6 := x 6 _ rfl
  have x7 := x 7 _ rfl
  have x8 := x 8 _ rfl
  have x9 := x 9 _ rfl
  have x10 := x 10 _ rfl
  have x11 := x 11 _ rfl
  have x12 := x 12 _ rfl
  have x13 := x 13 _ rfl
  clear x
  have HB : Hid (∀ d os, Below w.heap.size w (grow (redrawn (w.alloc (.cells #[.int .i64 5, .string s.name, .int .i64 s.n, .int .i64 s.a.kind, .int .i64 s.a.n, .string s.a.name, .slice s.a.a s.a.args.length s.a.cap, .int .i64 s.b.kind, .int .i64 s.b.n, .string s.b.name, .slice s.b.a s.b.args.length s.b.cap, .slice s.ba s.body.length s.bc, .slice s.ea s.els.length s.ec, .slice s.ca s.cases.length s.cc] 43)) d) os)) := fun d os => hb1.trans ((below_regrown _ d os).mono (by simp))
  have hei : (0 : Int) < (s.els.length : Int) := by omega
  unfold St.val
  unfold Ex.val at KA
  rw [hk]
  clear hk hd he
  go_enter Tryz.func42, Tryz.ntmps42
  go_wp2_with fail
  refine wp_region_quiet_below (by kernel_rfl) (by kernel_rfl) ?_
  repeat (go_big_quiet_step (first | (go_at_call 63; with_reducible exact Calls.regrown_of (KA.out _ (HB.out _ _))) | (go_at_call 23; with_reducible exact Calls.regrown_of (KD.out _ (HB.out _ _))) | (go_at_call 21; with_reducible exact Calls.regrown_of (L0.out _))))
  refine wpQuiet_nil ?_
  intro _ hw'
  obtain ⟨⟨dq, osq⟩, hw''⟩ := hw'
  subst hw''
  have y12 := x12 dq osq
  have hbq := HB.out dq osq
  clear x0 x1 x2 x3 x4 x5 x6 x7 x8 x9 x10 x11 x12 x13 HB hb1
  generalize grow (redrawn (w.alloc (.cells #[.int .i64 5, .string s.name, .int .i64 s.n, .int .i64 s.a.kind, .int .i64 s.a.n, .string s.a.name, .slice s.a.a s.a.args.length s.a.cap, .int .i64 s.b.kind, .int .i64 s.b.n, .string s.b.name, .slice s.b.a s.b.args.length s.b.cap, .slice s.ba s.body.length s.bc, .slice s.ea s.els.length s.ec, .slice s.ca s.cases.length s.cc] 43)) dq) osq = W2 at *
  have zs : (Y0 ++ TD).size ≤ 1100000000 := by rw [ByteArray.size_append]; omega
  generalize hS : Y0 ++ TD = S at zs ⊢
  have HS : Hid (Y0 ++ TD = S) := hS
  clear hS
  have x12 := cell_regrown y12
  have HB2 : Hid (∀ d os, Below w.heap.size w (grow (redrawn W2 d) os)) := fun d os => hbq.trans ((below_regrown _ d os).mono hbq.size)
  go_wp2_with fail
  refine wp_region_quiet_below (by kernel_rfl) (by kernel_rfl) ?_
  repeat (go_big_quiet_step (first | (go_at_call 23; with_reducible exact Calls.regrown_of (KE.out _ (HB2.out _ _))) | (go_at_call 21; with_reducible exact Calls.regrown_of (L1.out _))))
  refine wpQuiet_nil ?_
  intro _ hw'
  obtain ⟨⟨dq, osq⟩, hw''⟩ := hw'
  subst hw''
  have hbr := HB2.out dq osq
  clear x12 y12 HB2 hbq
  generalize grow (redrawn W2 dq) osq = W3 at *
  go_wp2_with fail
  refine (L2.out _).mono ?_
  rintro r w4 ⟨rfl, hb4⟩
  have hb5 : Below w.heap.size w w4 := hbr.trans (hb4.mono hbr.size)
  clear hb4
  go_wp2_with fail
  go_ret
  exact ⟨retS (by rw [HS.out]), hb5⟩

set_option maxRecDepth 100000 in
set_option maxHeartbeats 2000000 in
theorem rbody_of (l : List St) (a : Option Addr) (c d : Nat) (w : World) (hin : Lies w a c l) (hl : (txSs l d).length ≤ 1000000000)
    (hX : ∀ x ∈ l, ∀ w', Below w.heap.size w w' → Calls Tryz.prog 42 #[x.val, .int .i64 d] w' fun e w'' => e = .returned (.string (tb (txS x d))) ∧ Below w'.heap.size w' w'') :
    Calls Tryz.prog 23 #[.slice a l.length c, .int .i64 d] w fun e w' => e = .returned (.string (tb (txSs l d))) ∧ Below w.heap.size w w' := by
  have HX : Hid (∀ x ∈ l, ∀ w', Below w.heap.size w w' → Calls Tryz.prog 42 #[x.val, .int .i64 d] w' fun e w'' => e = .returned (.string (tb (txS x d))) ∧ Below w'.heap.size w' w'') := hX
  obtain ⟨h1, h2, _, hrow⟩ := hin
  have HR : Hid (RowIn w a 14 (l.map St.cells)) := hrow
  have HL : Hid (∀ j, (txSs (l.take j) d).length ≤ 1000000000) := fun j => Nat.le_trans (txSs_le l d j) hl
  clear hX hrow hl
  go_enter Tryz.func23, Tryz.ntmps23
  go_wp2_with fail
  go_loopw [5, 6] (fun t5 t6 wr => ∃ (j : Nat), j ≤ l.length ∧ t5 = .string (tb (txSs (l.take j) d)) ∧ t6 = .int .i64 j ∧ Below w.heap.size w wr) (fun _ t6 _ => l.length - (intOf t6).toNat)
  case atStart => exact ⟨0, Nat.zero_le _, by simp [txSs], rfl, Below.refl _ w⟩
  case round =>
    obtain ⟨j, hj, rfl, rfl, hb⟩ := hrel
    have hsz : (tb (txSs (l.take j) d)).size ≤ 1000000000 := by rw [tb_size]; exact HL.out j
    by_cases hlt : j < l.length
    · have hli : (j : Int) < (l.length : Int) := by omega
      obtain ⟨g, o, rfl, hcs⟩ := rowS_at (HR.out.below hb) hlt
      have HN : Hid (tb (txSs (l.take (j + 1)) d) = tb (txSs (l.take j) d) ++ tb (txS l[j] d)) := by show _ = _; rw [txSs_take l d j hlt, tb_app]
      have hsn : (tb (txSs (l.take (j + 1)) d)).size ≤ 1000000000 := by rw [tb_size]; exact HL.out (j + 1)
      have hts : (tb (txS l[j] d)).size ≤ 1000000000 := by
        have := congrArg ByteArray.size HN.out
        rw [ByteArray.size_append] at this
        omega
      have HYY : Hid (Calls Tryz.prog 42 #[l[j].val, .int .i64 d] wr fun e w'' => e = .returned (.string (tb (txS l[j] d))) ∧ Below wr.heap.size wr w'') := HX.out l[j] (List.getElem_mem hlt) wr hb
      generalize tb (txSs (l.take j) d) = R at *
      generalize l[j] = y at *
      generalize tb (txS y d) = T at *
      unfold St.val at HYY
      clear hsn
      have c0 : wr.cell? ⟨g, o + j * 14, none⟩ = some (.int .i64 y.kind) := by have := hcs 0 _ rfl; simpa only [← Nat.add_assoc, Nat.add_zero] using this
      have c1 : wr.cell? ⟨g, o + j * 14 + 1, none⟩ = some (.string y.name) := by have := hcs 1 _ rfl; simpa only [← Nat.add_assoc, Nat.add_zero] using this
      have c2 : wr.cell? ⟨g, o + j * 14 + 2, none⟩ = some (.int .i64 y.n) := by have := hcs 2 _ rfl; simpa only [← Nat.add_assoc, Nat.add_zero] using this
      have c3 : wr.cell? ⟨g, o + j * 14 + 3, none⟩ = some (.int .i64 y.a.kind) := by have := hcs 3 _ rfl; simpa only [← Nat.add_assoc, Nat.add_zero] using this
      have c4 : wr.cell? ⟨g, o + j * 14 + 4, none⟩ = some (.int .i64 y.a.n) := by have := hcs 4 _ rfl; simpa only [← Nat.add_assoc, Nat.add_zero] using this
      have c5 : wr.cell? ⟨g, o + j * 14 + 5, none⟩ = some (.string y.a.name) := by have := hcs 5 _ rfl; simpa only [← Nat.add_assoc, Nat.add_zero] using this
      have c6 : wr.cell? ⟨g, o + j * 14 + 6, none⟩ = some (.slice y.a.a y.a.args.length y.a.cap) := by have := hcs 6 _ rfl; simpa only [← Nat.add_assoc, Nat.add_zero] using this
      have c7 : wr.cell? ⟨g, o + j * 14 + 7, none⟩ = some (.int .i64 y.b.kind) := by have := hcs 7 _ rfl; simpa only [← Nat.add_assoc, Nat.add_zero] using this
      have c8 : wr.cell? ⟨g, o + j * 14 + 8, none⟩ = some (.int .i64 y.b.n) := by have := hcs 8 _ rfl; simpa only [← Nat.add_assoc, Nat.add_zero] using this
      have c9 : wr.cell? ⟨g, o + j * 14 + 9, none⟩ = some (.string y.b.name) := by have := hcs 9 _ rfl; simpa only [← Nat.add_assoc, Nat.add_zero] using this
      have c10 : wr.cell? ⟨g, o + j * 14 + 10, none⟩ = some (.slice y.b.a y.b.args.length y.b.cap) := by have := hcs 10 _ rfl; simpa only [← Nat.add_assoc, Nat.add_zero] using this
      have c11 : wr.cell? ⟨g, o + j * 14 + 11, none⟩ = some (.slice y.ba y.body.length y.bc) := by have := hcs 11 _ rfl; simpa only [← Nat.add_assoc, Nat.add_zero] using this
      have c12 : wr.cell? ⟨g, o + j * 14 + 12, none⟩ = some (.slice y.ea y.els.length y.ec) := by have := hcs 12 _ rfl; simpa only [← Nat.add_assoc, Nat.add_zero] using this
      have c13 : wr.cell? ⟨g, o + j * 14 + 13, none⟩ = some (.slice y.ca y.cases.length y.cc) := by have := hcs 13 _ rfl; simpa only [← Nat.add_assoc, Nat.add_zero] using this
      clear hcs
      go_wp2_with fail
      refine HYY.out.mono ?_
      rintro e w2 ⟨rfl, hb2⟩
      clear c0 c1 c2 c3 c4 c5 c6 c7 c8 c9 c10 c11 c12 c13
      go_wp2_with fail
      go_roundw
      case rel => exact ⟨j + 1, by omega, congrArg Value.string HN.out.symm, by go_num, hb.trans (hb2.mono hb.size)⟩
      case measure => simp [intOf]; omega
    · have hli : ¬ (j : Int) < (l.length : Int) := by omega
      have HF : Hid (tb (txSs (l.take j) d) = tb (txSs l d)) := by show _ = _; rw [List.take_of_length_le (by omega)]
      generalize tb (txSs (l.take j) d) = R at *
      go_wp2_with fail
      go_ret
      exact ⟨retS HF.out, hb⟩

end Go.Proofs.YtbpemackmadhgaaGreatDoor

/- The document's own lines of a switch's cases. -/
namespace Go.Proofs.YtbpemackmadhgaaGreatDoor
open Go.RowKit Go.Sort

/-- One text where there is nothing, another one where there is. -/
def elT (n : Nat) (A B : ByteArray) : ByteArray := if n = 0 then A else B
set_option maxRecDepth 100000 in
set_option maxHeartbeats 2000000 in
theorem rchoices_of (s : St) (d : Nat) (w : World) (hd : d ≤ 99) (hin : LiesC w s.ca s.cc s.cases) (hI : ∀ y ∈ s.cases, I64 y.n) (hlC : (txCs s.cases d).length ≤ 100000000) (hlE : (txSs s.els (d + 1)).length ≤ 100000000)
    (hD : ∀ y ∈ s.cases, ∀ w', Below w.heap.size w w' → Calls Tryz.prog 23 #[.slice y.ba y.body.length y.bc, .int .i64 ((d : Int) + 1)] w' fun e w'' => e = .returned (.string (tb (txSs y.body (d + 1)))) ∧ Below w'.heap.size w' w'')
    (hE : ∀ w', Below w.heap.size w w' → Calls Tryz.prog 23 #[.slice s.ea s.els.length s.ec, .int .i64 ((d : Int) + 1)] w' fun e w'' => e = .returned (.string (tb (txSs s.els (d + 1)))) ∧ Below w'.heap.size w' w'') :
    Calls Tryz.prog 64 #[s.val, .int .i64 d] w fun e w' => e = .returned (.string (tb (txCs s.cases d ++ (if s.els.length = 0 then [] else lineB d [101, 108, 115, 101, 32, 123] ++ txSs s.els (d + 1) ++ lineB d [125])))) ∧ Below w.heap.size w w' := by
  have HD : Hid (∀ y ∈ s.cases, ∀ w', Below w.heap.size w w' → Calls Tryz.prog 23 #[.slice y.ba y.body.length y.bc, .int .i64 ((d : Int) + 1)] w' fun e w'' => e = .returned (.string (tb (txSs y.body (d + 1)))) ∧ Below w'.heap.size w' w'') := hD
  have KE : Hid (∀ w', Below w.heap.size w w' → Calls Tryz.prog 23 #[.slice s.ea s.els.length s.ec, .int .i64 ((d : Int) + 1)] w' fun e w'' => e = .returned (.string (tb (txSs s.els (d + 1)))) ∧ Below w'.heap.size w' w'') := hE
  have HNM : Hid (∀ y ∈ s.cases, ∀ w, Calls Tryz.prog 20 #[.int .i64 y.n] w fun e w' => e = .returned (.string (tb (Lib.itoa y.n))) ∧ Below w.heap.size w w') := fun y hy w => rnum_any y.n w (hI y hy)
  have HNL : Hid (∀ y ∈ s.cases, (tb (Lib.itoa y.n)).size ≤ 21) := fun y hy => by rw [tb_size]; exact Lib.itoa_length_le _ (hI y hy).1 (hI y hy).2
  have HCA : Hid (LiesC w s.ca s.cc s.cases) := hin
  have HL : Hid (∀ j, (txCs (s.cases.take j) d).length ≤ 100000000) := fun j => Nat.le_trans (txCs_le s.cases d j) hlC
  have LZ : Hid (∀ w, Calls Tryz.prog 21 #[.string (tb [125]), .int .i64 d] w fun e w' => e = .returned (.string (lnT d (tb [125]))) ∧ Below w.heap.size w w') := fun w => rlineT _ d w (by omega) (by simp only [tb_size, List.length_cons, List.length_nil]; omega)
  have LE : Hid (∀ w, Calls Tryz.prog 21 #[.string (tb [101, 108, 115, 101, 32, 123]), .int .i64 d] w fun e w' => e = .returned (.string (lnT d (tb [101, 108, 115, 101, 32, 123]))) ∧ Below w.heap.size w w') := fun w => rlineT _ d w (by omega) (by simp only [tb_size, List.length_cons, List.length_nil]; omega)
  have zZ : (lnT d (tb [125])).size ≤ 1000 := by rw [lnT_size]; simp only [tb_size, List.length_cons, List.length_nil]; omega
  have zE : (lnT d (tb [101, 108, 115, 101, 32, 123])).size ≤ 1000 := by rw [lnT_size]; simp only [tb_size, List.length_cons, List.length_nil]; omega
  have zT : (tb (txSs s.els (d + 1))).size ≤ 100000000 := by rw [tb_size]; exact hlE
  have HRES : Hid (tb (txCs s.cases d ++ (if s.els.length = 0 then [] else lineB d [101, 108, 115, 101, 32, 123] ++ txSs s.els (d + 1) ++ lineB d [125])) = elT s.els.length (tb (txCs s.cases d)) (tb (txCs s.cases d) ++ (lnT d (tb [101, 108, 115, 101, 32, 123]) ++ tb (txSs s.els (d + 1)) ++ lnT d (tb [125])))) := by
    show _ = _
    unfold elT
    split
    · rw [List.append_nil]
    · rw [lnT_tb, lnT_tb, tb_app, tb_app, tb_app]
  have HCN : Hid (∀ j (h : j < s.cases.length), tb (txCs (s.cases.take (j + 1)) d) = tb (txCs (s.cases.take j) d) ++ (lnT d (tb [99, 97, 115, 101, 32] ++ tb (Lib.itoa s.cases[j].n) ++ tb [32, 123]) ++ tb (txSs s.cases[j].body (d + 1)) ++ lnT d (tb [125]))) := fun j h => by
    rw [txCs_take s.cases d j h, txC_eq', tb_app, tb_app, lnT_tb, lnT_tb, tb_app, tb_app, tb_app]
  rw [HRES.out]
  generalize tb (txSs s.els (d + 1)) = TE at KE zT ⊢
  generalize lnT d (tb [125]) = YZ at LZ zZ HCN ⊢
  generalize lnT d (tb [101, 108, 115, 101, 32, 123]) = YE at LE zE ⊢
  have hwd : IntKind.i64.wrap ((d : Int) + 1) = (d : Int) + 1 := by rw [IntKind.wrap_i64]; omega
  have hb1 := (Below.refl _ w).alloc (Nat.le_refl _) (.cells #[.int .i64 s.kind, .string s.name, .int .i64 s.n, .int .i64 s.a.kind, .int .i64 s.a.n, .string s.a.name, .slice s.a.a s.a.args.length s.a.cap, .int .i64 s.b.kind, .int .i64 s.b.n, .string s.b.name, .slice s.b.a s.b.args.length s.b.cap, .slice s.ba s.body.length s.bc, .slice s.ea s.els.length s.ec, .slice s.ca s.cases.length s.cc] 43)
  have hbx := boxS_new w s
  have hjc := hin.1
  have hjd := hin.2.1
  have hd0 : (d : Int) ≤ 99 := by omega
  clear hD hE hI hlC hlE hin HRES
  unfold St.val
  go_enter Tryz.func64, Tryz.ntmps64
  go_upto_region 1 with fail
  generalize w.alloc (.cells #[.int .i64 s.kind, .string s.name, .int .i64 s.n, .int .i64 s.a.kind, .int .i64 s.a.n, .string s.a.name, .slice s.a.a s.a.args.length s.a.cap, .int .i64 s.b.kind, .int .i64 s.b.n, .string s.b.name, .slice s.b.a s.b.args.length s.b.cap, .slice s.ba s.body.length s.bc, .slice s.ea s.els.length s.ec, .slice s.ca s.cases.length s.cc] 43) = W1 at hb1 hbx ⊢
  have hs1 : w.heap.size < W1.heap.size := by have := lt_of_cell (hbx 0 _ rfl); exact this
  have HBX : Hid (BoxS W1 w.heap.size s) := hbx
  clear hbx
  go_wp2_with fail
  go_loopw [5, 6] (fun t5 t6 wr => ∃ (j : Nat), j ≤ s.cases.length ∧ t5 = .string (tb (txCs (s.cases.take j) d)) ∧ t6 = .int .i64 j ∧ Below w.heap.size w wr ∧ BoxS wr w.heap.size s ∧ w.heap.size < wr.heap.size) (fun _ t6 _ => s.cases.length - (intOf t6).toNat)
  case atStart => exact ⟨0, Nat.zero_le _, by simp [txCs], rfl, hb1, HBX.out, hs1⟩
  case round =>
    obtain ⟨j, hj, rfl, rfl, hb, hbx, hsr⟩ := hrel
    have HBY : Hid (BoxS wr w.heap.size s) := hbx
    have b12 := hbx 12 _ rfl
    have b13 := hbx 13 _ rfl
    clear hbx
    have hsz : (tb (txCs (s.cases.take j) d)).size ≤ 100000000 := by rw [tb_size]; exact HL.out j
    by_cases hlt : j < s.cases.length
    · have hli : (j : Int) < (s.cases.length : Int) := by omega
      obtain ⟨g, o, hca, c0, c1⟩ := rowC_at (HCA.out.2.2.2.below hb) hlt
      rw [hca] at b13
      clear hca
      have hm := List.getElem_mem hlt
      have HN := HCN.out j hlt
      have hsn : (tb (txCs (s.cases.take (j + 1)) d)).size ≤ 100000000 := by rw [tb_size]; exact HL.out (j + 1)
      have hzz := congrArg ByteArray.size HN
      rw [ByteArray.size_append, ByteArray.size_append, ByteArray.size_append] at hzz
      have KN : Hid (∀ w, Calls Tryz.prog 20 #[.int .i64 s.cases[j].n] w fun e w' => e = .returned (.string (tb (Lib.itoa s.cases[j].n))) ∧ Below w.heap.size w w') := HNM.out _ hm
      have zN := HNL.out _ hm
      have KD : Hid (∀ w', Below w.heap.size w w' → Calls Tryz.prog 23 #[.slice s.cases[j].ba s.cases[j].body.length s.cases[j].bc, .int .i64 ((d : Int) + 1)] w' fun e w'' => e = .returned (.string (tb (txSs s.cases[j].body (d + 1)))) ∧ Below w'.heap.size w' w'') := HD.out _ hm
      have L0 : Hid (∀ w, Calls Tryz.prog 21 #[.string (tb [99, 97, 115, 101, 32] ++ tb (Lib.itoa s.cases[j].n) ++ tb [32, 123]), .int .i64 d] w fun e w' => e = .returned (.string (lnT d (tb [99, 97, 115, 101, 32] ++ tb (Lib.itoa s.cases[j].n) ++ tb [32, 123]))) ∧ Below w.heap.size w w') := fun w => rlineT _ d w (by omega) (by rw [ByteArray.size_append, ByteArray.size_append, tb_size [99, 97, 115, 101, 32], tb_size [32, 123]]; simp only [List.length_cons, List.length_nil]; omega)
      have HNN : Hid _ := HN
      generalize lnT d (tb [99, 97, 115, 101, 32] ++ tb (Lib.itoa s.cases[j].n) ++ tb [32, 123]) = Y0 at L0 HN HNN hzz
      generalize tb (Lib.itoa s.cases[j].n) = TN at KN zN L0
      generalize tb (txSs s.cases[j].body (d + 1)) = TD at KD HN HNN hzz
      have HN3 : Hid (tb (txCs (s.cases.take (j + 1)) d) = tb (txCs (s.cases.take j) d) ++ (Y0 ++ TD ++ YZ)) := HN
      clear HN HNN
      generalize tb (txCs (s.cases.take j) d) = R at *
      generalize s.cases[j] = y at *
      have zY : Y0.size ≤ 100000000 := by omega
      have zD : TD.size ≤ 100000000 := by omega
      have x13 := cell_regrown b13
      have q0 := cell_regrown c0
      have q1 := cell_regrown c1
      have HB : Hid (∀ d os, Below w.heap.size w (grow (redrawn wr d) os)) := fun d os => hb.trans ((below_regrown _ d os).mono hb.size)
      have HBQ : Hid (∀ d os, BoxS (grow (redrawn wr d) os) w.heap.size s ∧ w.heap.size < (grow (redrawn wr d) os).heap.size) := fun d os => ⟨HBY.out.below (below_regrown wr d os) hsr, Nat.lt_of_lt_of_le hsr (below_regrown wr d os).size⟩
      clear hzz hsn hm
      go_wp2_with fail
      clear b12 b13 c0 c1
      refine wp_region_quiet_below (by kernel_rfl) (by kernel_rfl) ?_
      repeat (go_big_quiet_step (first | (go_at_call 20; with_reducible exact Calls.regrown_of (KN.out _)) | (go_at_call 23; with_reducible exact Calls.regrown_of (KD.out _ (HB.out _ _))) | (go_at_call 21; with_reducible exact Calls.regrown_of (L0.out _)) | (go_at_call 21; with_reducible exact Calls.regrown_of (LZ.out _))))
      refine wpQuiet_nil ?_
      intro _ hw'
      obtain ⟨⟨dq, osq⟩, hw''⟩ := hw'
      subst hw''
      clear x13 q0 q1
      have hbq := HB.out dq osq
      have hbz := HBQ.out dq osq
      have HBZ : Hid _ := hbz
      clear hbz
      go_wp2_with fail
      go_roundw
      case rel => exact ⟨j + 1, by omega, congrArg Value.string HN3.out.symm, by go_num, hbq, HBZ.out.1, HBZ.out.2⟩
      case measure => simp [intOf]; omega
    · have hli : ¬ (j : Int) < (s.cases.length : Int) := by omega
      have HF : Hid (tb (txCs (s.cases.take j) d) = tb (txCs s.cases d)) := by show _ = _; rw [List.take_of_length_le (by omega)]
      obtain ⟨R, HRE⟩ : ∃ R, Hid (tb (txCs (s.cases.take j) d) = R) := ⟨_, rfl⟩
      rw [HRE.out] at hsz ⊢
      have x12 := cell_regrown b12
      have HB : Hid (∀ d os, Below w.heap.size w (grow (redrawn wr d) os)) := fun d os => hb.trans ((below_regrown _ d os).mono hb.size)
      by_cases hel : s.els.length = 0
      · have hei : ¬ (0 : Int) < (s.els.length : Int) := by omega
        have HI : Hid (elT s.els.length (tb (txCs s.cases d)) (tb (txCs s.cases d) ++ (YE ++ TE ++ YZ)) = R) := by show _ = _; unfold elT; rw [if_pos hel, ← HF.out, HRE.out]
        clear hel
        go_wp2_with fail
        go_ret
        exact ⟨retS HI.out.symm, hb⟩
      · have hei : (0 : Int) < (s.els.length : Int) := by omega
        have HI : Hid (elT s.els.length (tb (txCs s.cases d)) (tb (txCs s.cases d) ++ (YE ++ TE ++ YZ)) = R ++ (YE ++ TE ++ YZ)) := by show _ = _; unfold elT; rw [if_neg hel, ← HF.out, HRE.out]
        clear hel
        go_wp2_with fail
        clear b12 b13
        refine wp_region_quiet_below (by kernel_rfl) (by kernel_rfl) ?_
        repeat (go_big_quiet_step (first | (go_at_call 23; with_reducible exact Calls.regrown_of (KE.out _ (HB.out _ _))) | (go_at_call 21; with_reducible exact Calls.regrown_of (LE.out _)) | (go_at_call 21; with_reducible exact Calls.regrown_of (LZ.out _))))
        refine wpQuiet_nil ?_
        intro _ hw'
        obtain ⟨⟨dq, osq⟩, hw''⟩ := hw'
        subst hw''
        clear x12
        have hbq := HB.out dq osq
        go_wp2_with fail
        go_ret
        exact ⟨retS (by rw [HI.out]), hbq⟩
end Go.Proofs.YtbpemackmadhgaaGreatDoor

/- The document's own lines of statements. -/
namespace Go.Proofs.YtbpemackmadhgaaGreatDoor
open Go.RowKit Go.Sort

abbrev StR (k : Nat) : Prop := ∀ (s : St) (lv : Nat) (m : Int) (d : Nat) (w : World), s.sz ≤ k → s.In w → (chkT s lv m).1 = 0 → d ≤ 2 * lv + 20 → s.V ≤ 90000 → Calls Tryz.prog 42 #[s.val, .int .i64 d] w fun e w' => e = .returned (.string (tb (txS s d))) ∧ Below w.heap.size w w'
abbrev BdR (k : Nat) : Prop := ∀ (l : List St) (a : Option Addr) (c : Nat) (lv : Nat) (m : Int) (d : Nat) (w : World), ssz l ≤ k → Have w a c l → (chkSs l lv m).1 = 0 → d ≤ 2 * lv + 20 → vSs l ≤ 90000 → Calls Tryz.prog 23 #[.slice a l.length c, .int .i64 d] w fun e w' => e = .returned (.string (tb (txSs l d))) ∧ Below w.heap.size w w'
theorem bdR_of {k : Nat} (ih : StR k) : BdR k := fun l a c lv m d w hk hin h hd hv => by
  have hl := (txS_len (w := w) k).2 l lv m d hk hin.2 h hd
  refine rbody_of l a c d w hin.1 (by omega) fun x hx w' hb => ?_
  obtain ⟨m', h'⟩ := chkSs_ok h x hx
  exact ih x lv m' d w' (Nat.le_trans (ssz_mem hx) hk) ((hin.2 x hx).stay hb) h' hd (Nat.le_trans (vSs_mem hx) hv)
theorem name_sz {s : ByteArray} (h : nameZ s = true) : s.size ≤ 16 := nameZ_len h
theorem okE_call {x : Ex} {w : World} (hin : x.In w) (hok : OkE x) (hv : zE x ≤ 90000) : (tb (txE x)).size ≤ 100000000 ∧ ∀ w', Below w.heap.size w w' → Calls Tryz.prog 63 #[x.val] w' fun e w'' => e = .returned (.string (tb (txE x))) ∧ Below w'.heap.size w' w'' := by
  rw [okE_zE hok] at hv
  refine ⟨?_, fun w' hb => rexpr_any x w' (hin.stay hb) hok (by omega)⟩
  rw [tb_size]; have := txE_bd hin hok (by omega); omega
theorem stR_step {k : Nat} (ih : BdR k) : StR (k + 1) := fun s lv m d w hk hin h hd hv => by
  have hlen := (txS_len (w := w) (k + 1)).1 s lv m d hk hin h hd
  obtain ⟨hS, ⟨m1, hB⟩, ⟨m2, hC⟩, ⟨m3, hE⟩⟩ := chkT_ok h
  obtain ⟨hlv, hk1, hk10, hnm, ha, hb⟩ := chkS_ok hS
  obtain ⟨_, _, hI, hinA, hinB, hinD, hinE, hinC, hinCs⟩ := St.in_iff.1 hin
  have hV := s.V_eq
  have hZ := s.sz_eq
  have hlv' : lv ≤ 32 := by omega
  have cA : OkE s.a → (tb (txE s.a)).size ≤ 100000000 ∧ ∀ w', Below w.heap.size w w' → Calls Tryz.prog 63 #[s.a.val] w' fun e w'' => e = .returned (.string (tb (txE s.a))) ∧ Below w'.heap.size w' w'' := fun hok => okE_call hinA hok (by omega)
  have cB : OkE s.b → (tb (txE s.b)).size ≤ 100000000 ∧ ∀ w', Below w.heap.size w w' → Calls Tryz.prog 63 #[s.b.val] w' fun e w'' => e = .returned (.string (tb (txE s.b))) ∧ Below w'.heap.size w' w'' := fun hok => okE_call hinB hok (by omega)
  have cD : ∀ (l : List St) (a : Option Addr) (c : Nat) (mm : Int) (dd : Nat), ssz l ≤ k → Have w a c l → (chkSs l ((lv : Int) + 1) mm).1 = 0 → dd + 1 ≤ 2 * (lv + 1) + 20 → vSs l ≤ 90000 → (tb (txSs l (dd + 1))).size ≤ 100000000 ∧ ∀ w', Below w.heap.size w w' → Calls Tryz.prog 23 #[.slice a l.length c, .int .i64 ((dd : Int) + 1)] w' fun e w'' => e = .returned (.string (tb (txSs l (dd + 1)))) ∧ Below w'.heap.size w' w'' := fun l a c mm dd h1 h2 h3 h4 h5 => by
    have h3' : (chkSs l ((lv + 1 : Nat) : Int) mm).1 = 0 := by rw [Int.natCast_add]; exact h3
    have hl := (txS_len (w := w) k).2 l (lv + 1) mm (dd + 1) h1 h2.2 h3' h4
    refine ⟨by rw [tb_size]; omega, fun w' hb' => ?_⟩
    have := ih l a c (lv + 1) mm (dd + 1) w' h1 (h2.stay hb') h3' h4 h5
    rwa [Int.natCast_add] at this

  have hkk : s.kind = 1 ∨ s.kind = 2 ∨ s.kind = 3 ∨ s.kind = 4 ∨ s.kind = 5 ∨ s.kind = 6 ∨ s.kind = 7 ∨ s.kind = 8 ∨ s.kind = 9 ∨ s.kind = 10 := by omega
  rcases hkk with hK | hK | hK | hK | hK | hK | hK | hK | hK | hK
  · rw [hK] at hnm ha hb
    have n1 := name_sz (hnm (by decide))
    have a1 := cA (ha (by decide))
    have e := rstmt1 s d w hK (by omega) n1 _ a1.1 a1.2
    rw [txS_eq, hK, if_pos rfl]
    simp only [← lnT_tb, ← tb_app, tb_of]
    exact e
  · rw [hK] at hnm ha hb
    have n1 := name_sz (hnm (by decide))
    have e := rstmt2 s d w hK (by omega) n1 (tb (Lib.itoa s.n)) (by rw [tb_size]; have := Lib.itoa_length_le s.n hI.1 hI.2; omega) fun w' _ => rnum_any s.n w' hI
    rw [txS_eq, hK, if_neg (by decide), if_pos rfl]
    simp only [← lnT_tb, ← tb_app, tb_of]
    exact e
  · rw [hK] at hnm ha hb
    have n1 := name_sz (hnm (by decide))
    have a1 := cA (ha (by decide))
    have e := rstmt3 s d w hK (by omega) n1 _ a1.1 a1.2
    rw [txS_eq, hK, if_neg (by decide), if_neg (by decide), if_pos rfl]
    simp only [← lnT_tb, ← tb_app, tb_of]
    exact e
  · rw [hK] at hnm ha hb
    have n1 := name_sz (hnm (by decide))
    have a1 := cA (ha (by decide))
    have b1 := cB (hb (by decide))
    have e := rstmt4 s d w hK (by omega) n1 _ a1.1 a1.2 _ b1.1 b1.2
    rw [txS_eq, hK, if_neg (by decide), if_neg (by decide), if_neg (by decide), if_pos rfl]
    simp only [← lnT_tb, ← tb_app, tb_of]
    exact e
  · rw [hK] at hnm ha hb
    have a1 := cA (ha (by decide))
    have d1 := cD s.body s.ba s.bc m1 d (by omega) hinD hB (by omega) (by omega)
    by_cases hel : s.els.length = 0
    · have e := rstmt5n s d w hK (by omega) hel _ a1.1 a1.2 _ d1.1 d1.2
      rw [txS_eq, hK, if_neg (by decide), if_neg (by decide), if_neg (by decide), if_neg (by decide), if_pos rfl, if_pos hel, List.append_nil]
      simp only [← lnT_tb, ← tb_app]
      exact e
    · have e1 := cD s.els s.ea s.ec m3 d (by omega) hinE hE (by omega) (by omega)
      have e := rstmt5e s d w hK (by omega) (by omega) _ a1.1 a1.2 _ d1.1 d1.2 _ e1.1 e1.2
      rw [txS_eq, hK, if_neg (by decide), if_neg (by decide), if_neg (by decide), if_neg (by decide), if_pos rfl, if_neg hel]
      simp only [← lnT_tb, ← tb_app]
      exact e
  · rw [hK] at hnm ha hb
    have a1 := cA (ha (by decide))
    have htot : (txCs s.cases (d + 1) ++ (if s.els.length = 0 then [] else lineB (d + 1) [101, 108, 115, 101, 32, 123] ++ txSs s.els (d + 2) ++ lineB (d + 1) [125])).length ≤ 90000000 := by
      rw [txS_eq, hK, if_neg (by decide), if_neg (by decide), if_neg (by decide), if_neg (by decide), if_neg (by decide), if_pos rfl] at hlen
      simp only [List.length_append] at hlen ⊢
      omega
    have hcl : (txCs s.cases (d + 1)).length ≤ 90000000 := by rw [List.length_append] at htot; omega
    have hel : (txSs s.els (d + 1 + 1)).length ≤ 90000000 := by
      by_cases h0 : s.els.length = 0
      · have : s.els = [] := List.eq_nil_of_length_eq_zero h0
        rw [this]; simp [txSs]
      · rw [if_neg h0] at htot; simp only [List.length_append] at htot; show (txSs s.els (d + 2)).length ≤ _; omega
    have c1 := fun w' (hb' : Below w.heap.size w w') => rchoices_of s (d + 1) w' (by omega) (hinC.below hb') (fun y hy => (Ca.in_iff.1 (hinCs y hy)).1) (by omega) (by omega)
      (fun y hy w'' hb'' => by
        obtain ⟨mc, hmc⟩ := chkCs_ok hC y hy
        have z1 := csz_mem hy
        have z2 := y.sz_eq
        have z3 := vCs_mem hy
        rw [y.V_eq] at z3
        exact (cD y.body y.ba y.bc mc (d + 1) (by omega) (Ca.in_iff.1 (hinCs y hy)).2 hmc (by omega) (by omega)).2 w'' (hb'.trans (hb''.mono hb'.size)))
      (fun w'' hb'' => (cD s.els s.ea s.ec m3 (d + 1) (by omega) hinE hE (by omega) (by omega)).2 w'' (hb'.trans (hb''.mono hb'.size)))
    have tc : (tb (txCs s.cases (d + 1) ++ (if s.els.length = 0 then [] else lineB (d + 1) [101, 108, 115, 101, 32, 123] ++ txSs s.els (d + 1 + 1) ++ lineB (d + 1) [125]))).size ≤ 100000000 := by
      rw [tb_size]; exact Nat.le_trans htot (by omega)
    have e := rstmt6 s d w hK (by omega) _ a1.1 a1.2 _ tc fun w' hb' => by have := c1 w' hb'; rwa [Int.natCast_add] at this
    rw [txS_eq, hK, if_neg (by decide), if_neg (by decide), if_neg (by decide), if_neg (by decide), if_neg (by decide), if_pos rfl]
    rw [List.append_assoc (lineB d _) (txCs _ _) _]
    simp only [← lnT_tb, ← tb_app] at e ⊢
    exact e
  · rw [hK] at hnm ha hb
    have n1 := name_sz (hnm (by decide))
    have a1 := cA (ha (by decide))
    have b1 := cB (hb (by decide))
    have d1 := cD s.body s.ba s.bc m1 d (by omega) hinD hB (by omega) (by omega)
    have e := rstmt7 s d w hK (by omega) n1 _ a1.1 a1.2 _ b1.1 b1.2 _ d1.1 d1.2
    rw [txS_eq, hK, if_neg (by decide), if_neg (by decide), if_neg (by decide), if_neg (by decide), if_neg (by decide), if_neg (by decide), if_pos rfl]
    simp only [← lnT_tb, ← tb_app, tb_of]
    exact e
  · rw [hK] at hnm ha hb
    clear hnm ha hb
    have e := rstmt8 s d w hK (by omega)
    rw [txS_eq, hK, if_neg (by decide), if_neg (by decide), if_neg (by decide), if_neg (by decide), if_neg (by decide), if_neg (by decide), if_neg (by decide), if_pos rfl]
    simp only [← lnT_tb]
    exact e
  · rw [hK] at hnm ha hb
    have a1 := cA (ha (by decide))
    have e := rstmt9 s d w hK (by omega) _ a1.1 a1.2
    rw [txS_eq, hK, if_neg (by decide), if_neg (by decide), if_neg (by decide), if_neg (by decide), if_neg (by decide), if_neg (by decide), if_neg (by decide), if_neg (by decide), if_pos rfl]
    simp only [← lnT_tb, ← tb_app]
    exact e
  · rw [hK] at hnm ha hb
    have a1 := cA (ha (by decide))
    have e := rstmt10 s d w hK (by omega) _ a1.1 a1.2
    rw [txS_eq, hK, if_neg (by decide), if_neg (by decide), if_neg (by decide), if_neg (by decide), if_neg (by decide), if_neg (by decide), if_neg (by decide), if_neg (by decide), if_neg (by decide)]
    simp only [← lnT_tb, ← tb_app]
    exact e
theorem stR_all : ∀ k, StR k
  | 0 => fun s lv m d w hk => by have := s.sz_eq; omega
  | k + 1 => stR_step (bdR_of (stR_all k))
theorem rbody_any (l : List St) (a : Option Addr) (c : Nat) (m : Int) (w : World) (hin : Have w a c l) (h : (chkSs l 1 m).1 = 0) (hv : vSs l ≤ 90000) : Calls Tryz.prog 23 #[.slice a l.length c, .int .i64 1] w fun e w' => e = .returned (.string (tb (txSs l 1))) ∧ Below w.heap.size w w' :=
  bdR_of (stR_all (ssz l)) l a c 1 m 1 w (Nat.le_refl _) hin h (by omega) hv
end Go.Proofs.YtbpemackmadhgaaGreatDoor
