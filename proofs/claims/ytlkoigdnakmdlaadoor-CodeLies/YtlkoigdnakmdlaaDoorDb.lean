/- The document's own word on an instruction is the program's. -/
import Derived.Test.YtlkoigdnakmdlaaDoorDa
namespace Go.Proofs.YtlkoigdnakmdlaaDoor
open Go.RowKit Go.Sort

theorem op13 {op : Int} (h : 0 ≤ op ∧ op ≤ 19) : (op == 13) = ((rwOf op).n == 2) := by
  refine op_cases (P := fun op => (op == 13) = ((rwOf op).n == 2)) h.1 h.2 ?_ ?_ ?_ ?_ ?_ ?_ ?_ ?_ ?_ ?_ ?_ ?_ ?_ ?_ ?_ ?_ ?_ ?_ ?_ ?_ <;> decide
theorem op19 {op : Int} (h : 0 ≤ op ∧ op ≤ 19) : (op == 19) = ((rwOf op).n == 4) := by
  refine op_cases (P := fun op => (op == 19) = ((rwOf op).n == 4)) h.1 h.2 ?_ ?_ ?_ ?_ ?_ ?_ ?_ ?_ ?_ ?_ ?_ ?_ ?_ ?_ ?_ ?_ ?_ ?_ ?_ ?_ <;> decide
theorem insZ_eq (m : Mo) (f : Fn) (x : Is) : insZ m f x = if knB x.op = false then 60 else if regZ (bt (rwOf x.op).regs 0) x.a f.regs ≠ 0 then regZ (bt (rwOf x.op).regs 0) x.a f.regs else if regZ (bt (rwOf x.op).regs 1) x.b f.regs ≠ 0 then regZ (bt (rwOf x.op).regs 1) x.b f.regs else
    if regZ (bt (rwOf x.op).regs 2) x.c f.regs ≠ 0 then regZ (bt (rwOf x.op).regs 2) x.c f.regs else numZ m f x := rfl

set_option maxHeartbeats 1000000 in
theorem spoilt_no (m : Mo) (f : Fn) (x : Is) (w : World) (h : ¬ (0 ≤ x.op ∧ x.op ≤ 19)) : Calls Tryd.prog 37 #[m.val, f.val, x.val] w fun e w' => e = .returned (.int .i64 60) ∧ Below w.heap.size w w' := by
  have hb := below3 w (oM m) (oF f) (oX x)
  have HK := Hid.mk' (rknown_no h)
  unfold Mo.val Fn.val Is.val
  clear h
  go_enter Tryd.func37, Tryd.ntmps37
  go_wp2_with (go_at_call 11; refine (HK.out _).mono ?_; rintro e w1 ⟨rfl, rfl⟩)
  go_ret
  exact ⟨rfl, hb⟩

theorem spoilt_any (m : Mo) (f : Fn) (x : Is) (w : World) (hm : Fns w m.fa m.funcs) : Calls Tryd.prog 37 #[m.val, f.val, x.val] w fun e w' => e = .returned (.int .i64 (insZ m f x)) ∧ Below w.heap.size w w' := by
  rw [insZ_eq]
  by_cases h : 0 ≤ x.op ∧ x.op ≤ 19
  · rw [if_neg (by simp [knB]; omega)]
    have HK := Hid.mk' (rknown_yes h)
    have HH := Hid.mk' (rhas_any x.op)
    have HG := Hid.mk' register_any
    have HT := Hid.mk' (rtarget_any x.op)
    have h13 := op13 h
    have h19 := op19 h
    have hn := rw_n x.op
    have HN : numZ m f x = if (rwOf x.op).n = 0 then (if x.n ≠ 0 then 62 else 0) else if (rwOf x.op).n = 2 then (if x.n < 1 ∨ x.n > 4096 then 2 else 0) else if (rwOf x.op).n = 3 then (if x.n < 0 ∨ x.n ≥ f.code.length then 63 else 0)
      else if (rwOf x.op).n = 4 then callZ m f x else 0 := rfl
    unfold hasV at HH
    generalize numZ m f x = N at *
    generalize rwOf x.op = r at *
    obtain ⟨r0, r1, r2, r3, r4, r5⟩ := r
    simp only at *
    generalize bt r2 0 = b0 at *
    generalize bt r2 1 = b1 at *
    generalize bt r2 2 = b2 at *
    by_cases q0 : regZ b0 x.a f.regs = 0
    · rw [if_neg (by simp [q0])]
      by_cases q1 : regZ b1 x.b f.regs = 0
      · rw [if_neg (by simp [q1])]
        by_cases q2 : regZ b2 x.c f.regs = 0
        · rw [if_neg (by simp [q2])]
          rcases hn with rfl | rfl | rfl | rfl | rfl
          · simp at HN h13 h19
            by_cases hx : x.n = 0
            · rw [if_pos hx] at HN
              subst HN
              exact spoilt_ok m f x w hm b0 b1 b2 _ _ HK HH HG HT q0 q1 q2 (by simpa using h19) (.inl ⟨rfl, rfl, by simpa using h13, hx⟩)
            · rw [if_neg hx] at HN
              subst HN
              exact spoilt_num m f x w hm b0 b1 b2 _ _ HK HH HG HT 62 q0 q1 q2 (.inl ⟨rfl, hx, rfl⟩)
          · simp at HN h13 h19
            subst HN
            exact spoilt_ok m f x w hm b0 b1 b2 _ _ HK HH HG HT q0 q1 q2 (by simpa using h19) (.inr (.inl ⟨rfl, rfl, by simpa using h13⟩))
          · simp at HN h13 h19
            by_cases hx : x.n < 1
            · rw [if_pos (.inl hx)] at HN
              subst HN
              exact spoilt_num m f x w hm b0 b1 b2 _ _ HK HH HG HT 2 q0 q1 q2 (.inr (.inr ⟨rfl, rfl, by simpa using h13, .inl hx, rfl⟩))
            · by_cases hy : 4096 < x.n
              · rw [if_pos (.inr hy)] at HN
                subst HN
                exact spoilt_num m f x w hm b0 b1 b2 _ _ HK HH HG HT 2 q0 q1 q2 (.inr (.inr ⟨rfl, rfl, by simpa using h13, .inr ⟨hx, hy⟩, rfl⟩))
              · rw [if_neg (fun h => h.elim hx hy)] at HN
                subst HN
                exact spoilt_ok m f x w hm b0 b1 b2 _ _ HK HH HG HT q0 q1 q2 (by simpa using h19) (.inr (.inr (.inr ⟨rfl, rfl, by simpa using h13, hx, hy⟩)))
          · simp at HN h13 h19
            by_cases hx : x.n < 0
            · rw [if_pos (.inl hx)] at HN
              subst HN
              exact spoilt_num m f x w hm b0 b1 b2 _ _ HK HH HG HT 63 q0 q1 q2 (.inr (.inl ⟨rfl, rfl, .inl hx, rfl⟩))
            · by_cases hy : (f.code.length : Int) ≤ x.n
              · rw [if_pos (.inr hy)] at HN
                subst HN
                exact spoilt_num m f x w hm b0 b1 b2 _ _ HK HH HG HT 63 q0 q1 q2 (.inr (.inl ⟨rfl, rfl, .inr ⟨hx, hy⟩, rfl⟩))
              · rw [if_neg (fun h => h.elim hx hy)] at HN
                subst HN
                exact spoilt_ok m f x w hm b0 b1 b2 _ _ HK HH HG HT q0 q1 q2 (by simpa using h19) (.inr (.inr (.inl ⟨rfl, rfl, by simpa using h13, hx, hy⟩)))
          · simp at HN h13 h19
            subst HN
            exact spoilt_call m f x w hm b0 b1 b2 _ _ HK HH HG HT q0 q1 q2 (by simpa using h19) (by simpa using h13) rfl rfl
        · rw [if_pos q2]
          exact spoilt_reg m f x w hm b0 b1 b2 _ _ HK HH HG HT _ (.inr (.inr ⟨q0, q1, rfl, q2⟩))
      · rw [if_pos q1]
        exact spoilt_reg m f x w hm b0 b1 b2 _ _ HK HH HG HT _ (.inr (.inl ⟨q0, rfl, q1⟩))
    · rw [if_pos q0]
      exact spoilt_reg m f x w hm b0 b1 b2 _ _ HK HH HG HT _ (.inl ⟨rfl, q0⟩)
  · rw [if_pos (by simp [knB]; omega)]
    exact spoilt_no m f x w h
end Go.Proofs.YtlkoigdnakmdlaaDoor
