/- The document's own copies: a function. -/
import Derived.Test.YtdnilonfgbinaaaEa
namespace Go.Proofs.Ytdnilonfgbinaaa
open Go.RowKit Go.Lib Go.Sort

/-- A function g is the same as f, in memory of its own from N on. -/
def Cpd (W : World) (N : Nat) (g f : Fn) : Prop := g.name = f.name ∧ g.regs = f.regs ∧ g.words = f.words ∧ g.params = f.params ∧ g.code = f.code ∧
  W.ownsRow N 73 2 (.slice g.pa g.params.length g.pc) g.params.length (g.params.flatMap spC) ∧ W.ownsRow N 44 5 (.slice g.ca g.code.length g.cc) g.code.length (g.code.flatMap Is.cells)
theorem Cpd.stay {W W' : World} {N : Nat} {g f : Fn} (h : Cpd W N g f) (hb : Below W.heap.size W W') : Cpd W' N g f := ⟨h.1, h.2.1, h.2.2.1, h.2.2.2.1, h.2.2.2.2.1, own_stay h.2.2.2.2.2.1 hb, own_stay h.2.2.2.2.2.2 hb⟩
theorem Cpd.low {W : World} {N N' : Nat} {g f : Fn} (h : Cpd W N g f) (hN : N' ≤ N) : Cpd W N' g f := ⟨h.1, h.2.1, h.2.2.1, h.2.2.2.1, h.2.2.2.2.1, own_mono h.2.2.2.2.2.1 hN, own_mono h.2.2.2.2.2.2 hN⟩
theorem Cpd.in {W : World} {N : Nat} {g f : Fn} {w : World} (h : Cpd W N g f) (hf : f.In w) : g.In W := by
  obtain ⟨h1, h2, h3, h4, h5, h6, h7⟩ := h
  obtain ⟨f1, f2, f3, f4, f5, f6, f7⟩ := hf
  refine ⟨by rw [h1]; exact f1, by rw [h2]; exact f2, by rw [h3]; exact f3, ⟨by rw [h4]; exact f4.1, own_row h6 (fun _ => rfl) (by omega)⟩, by rw [h4]; exact f5, ⟨by rw [h5]; exact f6.1, own_row h7 (fun _ => rfl) (by omega)⟩, by rw [h5]; exact f7⟩
theorem one_sp (l : List Sp) : ∀ u ∈ l.flatMap spC, u.oneCell' = true := by
  intro u hu
  obtain ⟨x, _, hx⟩ := List.mem_flatMap.1 hu
  simp [spC] at hx
  rcases hx with rfl | rfl <;> rfl
theorem one_is (l : List Is) : ∀ u ∈ l.flatMap Is.cells, u.oneCell' = true := by
  intro u hu
  obtain ⟨x, _, hx⟩ := List.mem_flatMap.1 hu
  simp [Is.cells] at hx
  rcases hx with rfl | rfl | rfl | rfl | rfl <;> rfl
theorem one_th (l : List Int) : ∀ u ∈ l.flatMap thC, u.oneCell' = true := by
  intro u hu
  obtain ⟨x, _, hx⟩ := List.mem_flatMap.1 hu
  simp [thC] at hx
  subst hx; rfl

theorem own_put {W W' : World} {N n sz : Nat} {T T' : TypeId} {v : Value} {xs : List Value} {b : Nat} {cs : Array Value} {fz : Nat × Nat} (h : W.ownsRow N T sz v n xs) (hb : W.heap[b]? = some (.cells cs T' fz)) (hT : T ≠ T') (hk : ∀ k, k ≠ b → W'.heap[k]? = W.heap[k]?) : W'.ownsRow N T sz v n xs := by
  refine ⟨h.1, ?_⟩
  rcases h.2 with h0 | ⟨g, cap, cur, rfl, h1, h2, h3⟩
  · exact .inl h0
  · refine .inr ⟨g, cap, cur, rfl, h1, ?_, h3⟩
    have hne : g ≠ b := fun e => by
      subst e
      rw [h2] at hb
      simp at hb
      exact hT hb.2.1
    exact (hk _ hne).trans h2
theorem set5 (W : World) (b : Nat) (v0 v1 v2 v3 v4 : Value) : ∀ k, k ≠ b → (((((W.setCell ⟨b, 0, none⟩ v0).setCell ⟨b, 1, none⟩ v1).setCell ⟨b, 2, none⟩ v2).setCell ⟨b, 3, none⟩ v3).setCell ⟨b, 4, none⟩ v4).heap[k]? = W.heap[k]? := fun k hk => by
  rw [Below.heap_setCell _ _ _ _ hk, Below.heap_setCell _ _ _ _ hk, Below.heap_setCell _ _ _ _ hk, Below.heap_setCell _ _ _ _ hk, Below.heap_setCell _ _ _ _ hk]
theorem ne_some {a b : Nat} (h : a ≠ b) : some a ≠ some b := fun e => h (by injection e)
set_option maxRecDepth 100000 in
set_option maxHeartbeats 4000000 in
theorem copyFunc_any (f : Fn) (w : World) (hf : f.In w) : Calls Try.prog 14 #[f.val] w fun e w' => ∃ g : Fn, e = .returned g.val ∧ Cpd w' w.heap.size g f ∧ Below w.heap.size w w' := by
  obtain ⟨f1, f2, f3, f4, f5, f6, f7⟩ := hf
  have HP := Hid.mk' f4
  have HC := Hid.mk' f6
  have hp := f4.1
  have hc := f6.1
  clear f1 f2 f3 f4 f5 f6 f7
  obtain ⟨i0, hi, hz0, hz1, hz2⟩ := info_parts Try.infoP
  obtain ⟨i1, gi, gz0, gz1, gz2⟩ := info_parts Try.infoX
  have HI0 := Hid.mk' hi
  have HI1 := Hid.mk' gi
  clear hi gi
  obtain ⟨name, pa, pc, params, regs, words, ca, cc, code⟩ := f
  unfold Fn.val
  simp only at *
  have hb := Below.one (Below.one (Below.one (Below.refl _ w) (.cells #[.string name, .slice pa params.length pc, .int .i64 regs, .int .i64 words, .slice ca code.length cc] 42)) (.cells #[.string ⟨#[]⟩, .slice none 0 0, .int .i64 0, .int .i64 0, .slice none 0 0] 42)) (.cells #[] 73)
  have HO := Hid.mk' (own_mono (N' := w.heap.size) (row_new ((w.alloc (.cells #[.string name, .slice pa params.length pc, .int .i64 regs, .int .i64 words, .slice ca code.length cc] 42)).alloc (.cells #[.string ⟨#[]⟩, .slice none 0 0, .int .i64 0, .int .i64 0, .slice none 0 0] 42)) 73 2) (by simp; omega))
  rw [World.size_alloc, World.size_alloc] at HO
  have X : (((w.alloc (.cells #[.string name, .slice pa params.length pc, .int .i64 regs, .int .i64 words, .slice ca code.length cc] 42)).alloc (.cells #[.string ⟨#[]⟩, .slice none 0 0, .int .i64 0, .int .i64 0, .slice none 0 0] 42)).alloc (.cells #[] 73)).heap[w.heap.size]? = some (.cells #[.string name, .slice pa params.length pc, .int .i64 regs, .int .i64 words, .slice ca code.length cc] 42) := by
    rw [Below.heap_alloc _ _ _ (by simp; omega), Below.heap_alloc _ _ _ (by simp)]; exact heap_alloc_new _ _
  have Y : (((w.alloc (.cells #[.string name, .slice pa params.length pc, .int .i64 regs, .int .i64 words, .slice ca code.length cc] 42)).alloc (.cells #[.string ⟨#[]⟩, .slice none 0 0, .int .i64 0, .int .i64 0, .slice none 0 0] 42)).alloc (.cells #[] 73)).heap[w.heap.size + 1]? = some (.cells #[.string ⟨#[]⟩, .slice none 0 0, .int .i64 0, .int .i64 0, .slice none 0 0] 42) := by
    rw [Below.heap_alloc _ _ _ (by simp)]
    have := heap_alloc_new (w.alloc (.cells #[.string name, .slice pa params.length pc, .int .i64 regs, .int .i64 words, .slice ca code.length cc] 42)) (.cells #[.string ⟨#[]⟩, .slice none 0 0, .int .i64 0, .int .i64 0, .slice none 0 0] 42)
    rwa [World.size_alloc] at this
  have HX := Hid.mk' X
  have HY := Hid.mk' Y
  have L0 := Hid.mk' (flat_len (f := spC) (k := 2) (fun _ => rfl) params)
  have L1 := Hid.mk' (flat_len (f := Is.cells) (k := 5) (fun _ => rfl) code)
  have N0 := Hid.mk' (rowIn_none (HP.out.stay hb).2)
  have S0 := Hid.mk' (src_news (k := 2) (f := spC) (HP.out.stay hb).2 (fun _ => rfl) (by omega))
  have N1 := Hid.mk' (rowIn_none HC.out.2)
  have M0 : Hid (0 + params.length ≤ maxLen) := (by unfold maxLen; omega : 0 + params.length ≤ maxLen)
  have M1 : Hid (0 + code.length ≤ maxLen) := (by unfold maxLen; omega : 0 + code.length ≤ maxLen)
  have B0 : Hid ((0 + params.length) * 16 ≤ 140737488355328) := (by omega : (0 + params.length) * 16 ≤ 140737488355328)
  have B1 : Hid ((0 + code.length) * 40 ≤ 140737488355328) := (by omega : (0 + code.length) * 40 ≤ 140737488355328)
  clear X Y
  go_enter Try.func14, Try.ntmps14
  go_upto_region 2 with (at_builtin; refine wpList_append_ownS _ rfl _ _ 39 rfl w.heap.size 73 i0 (.agg #[.int .i64 0, .int .i64 0]) 2 16 Try.underlying39 HI0.out hz0 hz1 hz2 rfl (by decide) _ 0 [] rfl HO.out pa params.length pc (params.flatMap spC) rfl L0.out N0.out S0.out (one_sp _) M0.out B0.out hb.size ?_; intro v1 w1 own1 grow1; rw [Nat.zero_add, List.nil_append] at own1; obtain ⟨a1, c1, rfl⟩ := gown_form own1; replace grow1 : World.grownBy _ w1 (some (w.heap.size + 1 + 1)) := grow1; have X1 := (grow1.block _ (Array.getElem?_eq_some_iff.1 HX.out).1 (ne_some (by omega))).trans HX.out; have Y1 := (grow1.block _ (Array.getElem?_eq_some_iff.1 HY.out).1 (ne_some (by omega))).trans HY.out; have HX1 := Hid.mk' X1; have HY1 := Hid.mk' Y1; have HG1 := Hid.mk' grow1; clear grow1; have k1 : w1.cell? ⟨w.heap.size, 1, none⟩ = some (.slice pa params.length pc) := Lib.cell_of_heap X1 1; have k4 : w1.cell? ⟨w.heap.size, 4, none⟩ = some (.slice ca code.length cc) := Lib.cell_of_heap X1 4; have kf : w1.frozen? ⟨w.heap.size, 1, none⟩ = false := Lib.frozen_of_heap X1 _; clear X1 Y1)
  have hb1 : Below w.heap.size w w1 := hb.grown HG1.out hb.size (fun k e => by injection e with e; omega)
  have XV : (w1.setCell ⟨w.heap.size, 1, none⟩ (.slice a1 params.length c1)).heap[w.heap.size]? = some (.cells #[.string name, .slice a1 params.length c1, .int .i64 regs, .int .i64 words, .slice ca code.length cc] 42) := by
    have := heap_setCell_same w1 w.heap.size 1 _ _ (.slice a1 params.length c1) HX1.out
    simpa using this
  have YV : (w1.setCell ⟨w.heap.size, 1, none⟩ (.slice a1 params.length c1)).heap[w.heap.size + 1]? = some (.cells #[.string ⟨#[]⟩, .slice none 0 0, .int .i64 0, .int .i64 0, .slice none 0 0] 42) := (Below.heap_setCell _ _ _ _ (by simp)).trans HY1.out
  have own2 := own_set own1 HX1.out (by decide) 1 (.slice a1 params.length c1)
  have hb2 : Below w.heap.size w (w1.setCell ⟨w.heap.size, 1, none⟩ (.slice a1 params.length c1)) := hb1.setCell (Nat.le_refl _) _
  clear HX HY HX1 HY1 HG1 own1 hb hb1 k1 k4 kf HO
  generalize w1.setCell ⟨w.heap.size, 1, none⟩ (.slice a1 params.length c1) = V at *
  have hszV : w.heap.size + 1 < V.heap.size := (Array.getElem?_eq_some_iff.1 YV).1
  have HO := Hid.mk' (own_mono (N' := w.heap.size) (row_new V 44 5) hb2.size)
  have hb3 := Below.one hb2 (.cells #[] 44)
  have S1 := Hid.mk' (src_news (k := 5) (f := Is.cells) (HC.out.stay hb3).2 (fun _ => rfl) (by omega))
  have HX := Hid.mk' ((Below.heap_alloc V (.cells #[] 44) _ (by omega)).trans XV)
  have HY := Hid.mk' ((Below.heap_alloc V (.cells #[] 44) _ hszV).trans YV)
  have HS := Hid.mk' own2
  have k4 : V.cell? ⟨w.heap.size, 4, none⟩ = some (.slice ca code.length cc) := Lib.cell_of_heap XV 4
  have hlt0 : w.heap.size < V.heap.size := by omega
  clear XV YV own2
  go_upto_region 3 with (at_builtin; refine wpList_append_ownS _ rfl _ _ 40 rfl w.heap.size 44 i1 (.agg #[.int .i64 0, .int .i64 0, .int .i64 0, .int .i64 0, .int .i64 0]) 5 40 Try.underlying40 HI1.out gz0 gz1 gz2 rfl (by decide) _ 0 [] rfl HO.out ca code.length cc (code.flatMap Is.cells) rfl L1.out N1.out S1.out (one_is _) M1.out B1.out hb3.size ?_; intro v2 w2 own1 grow1; rw [Nat.zero_add, List.nil_append] at own1; obtain ⟨a2, c2, rfl⟩ := gown_form own1; replace grow1 : World.grownBy _ w2 (some V.heap.size) := grow1; have X1 := (grow1.block _ (Array.getElem?_eq_some_iff.1 HX.out).1 (ne_some (by omega))).trans HX.out; have Y1 := (grow1.block _ (Array.getElem?_eq_some_iff.1 HY.out).1 (ne_some (by omega))).trans HY.out; have HX1 := Hid.mk' X1; have HY1 := Hid.mk' Y1; have HG1 := Hid.mk' grow1; clear grow1; have j4 : w2.cell? ⟨w.heap.size, 4, none⟩ = some (.slice ca code.length cc) := Lib.cell_of_heap X1 4; have jf : w2.frozen? ⟨w.heap.size, 4, none⟩ = false := Lib.frozen_of_heap X1 _; clear X1 Y1)
  have hb4 : Below w.heap.size w w2 := hb3.grown HG1.out hb3.size (fun k e => by injection e with e; omega)
  have XV : (w2.setCell ⟨w.heap.size, 4, none⟩ (.slice a2 code.length c2)).heap[w.heap.size]? = some (.cells #[.string name, .slice a1 params.length c1, .int .i64 regs, .int .i64 words, .slice a2 code.length c2] 42) := by
    have := heap_setCell_same w2 w.heap.size 4 _ _ (.slice a2 code.length c2) HX1.out
    simpa using this
  have YV : (w2.setCell ⟨w.heap.size, 4, none⟩ (.slice a2 code.length c2)).heap[w.heap.size + 1]? = some (.cells #[.string ⟨#[]⟩, .slice none 0 0, .int .i64 0, .int .i64 0, .slice none 0 0] 42) := (Below.heap_setCell _ _ _ _ (by simp)).trans HY1.out
  have own2 := own_set own1 HX1.out (by decide) 4 (.slice a2 code.length c2)
  have own3 : w2.ownsRow w.heap.size 73 2 (.slice a1 params.length c1) params.length (params.flatMap spC) := (HS.out.alloc (.cells #[] 44)).kept HG1.out (by
    have := own_ne (HS.out.alloc (.cells #[] 44)) (row_new V 44 5) (by decide)
    exact this)
  have own4 := own_set own3 HX1.out (by decide) 4 (.slice a2 code.length c2)
  have hb5 : Below w.heap.size w (w2.setCell ⟨w.heap.size, 4, none⟩ (.slice a2 code.length c2)) := hb4.setCell (Nat.le_refl _) _
  clear HX HY HX1 HY1 HG1 own1 own3 hb2 hb3 hb4 k4 j4 jf HO HS S1
  generalize w2.setCell ⟨w.heap.size, 4, none⟩ (.slice a2 code.length c2) = U at *
  have x0 : U.cell? ⟨w.heap.size, 0, none⟩ = some (.string name) := Lib.cell_of_heap XV 0
  have x1 : U.cell? ⟨w.heap.size, 1, none⟩ = some (.slice a1 params.length c1) := Lib.cell_of_heap XV 1
  have x2 : U.cell? ⟨w.heap.size, 2, none⟩ = some (.int .i64 regs) := Lib.cell_of_heap XV 2
  have x3 : U.cell? ⟨w.heap.size, 3, none⟩ = some (.int .i64 words) := Lib.cell_of_heap XV 3
  have x4 : U.cell? ⟨w.heap.size, 4, none⟩ = some (.slice a2 code.length c2) := Lib.cell_of_heap XV 4
  have y0 : U.cell? ⟨w.heap.size + 1, 0, none⟩ = some (.string ⟨#[]⟩) := Lib.cell_of_heap YV 0
  have y1 : U.cell? ⟨w.heap.size + 1, 1, none⟩ = some (.slice none 0 0) := Lib.cell_of_heap YV 1
  have y2 : U.cell? ⟨w.heap.size + 1, 2, none⟩ = some (.int .i64 0) := Lib.cell_of_heap YV 2
  have y3 : U.cell? ⟨w.heap.size + 1, 3, none⟩ = some (.int .i64 0) := Lib.cell_of_heap YV 3
  have y4 : U.cell? ⟨w.heap.size + 1, 4, none⟩ = some (.slice none 0 0) := Lib.cell_of_heap YV 4
  have z0 : U.frozen? ⟨w.heap.size + 1, 0, none⟩ = false := Lib.frozen_of_heap YV _
  have z1 : U.frozen? ⟨w.heap.size + 1, 1, none⟩ = false := Lib.frozen_of_heap YV _
  have z2 : U.frozen? ⟨w.heap.size + 1, 2, none⟩ = false := Lib.frozen_of_heap YV _
  have z3 : U.frozen? ⟨w.heap.size + 1, 3, none⟩ = false := Lib.frozen_of_heap YV _
  have z4 : U.frozen? ⟨w.heap.size + 1, 4, none⟩ = false := Lib.frozen_of_heap YV _
  have HE := Hid.mk' (And.intro own2 (And.intro own4 (And.intro hb5 YV)))
  clear own2 own4 hb5 XV YV
  go_wp2_with fail
  refine bodyPost_ret (v := .agg #[.string name, .slice a1 params.length c1, .int .i64 regs, .int .i64 words, .slice a2 code.length c2]) (by simp [results, Try.results14, go_sem, *]) rfl ⟨⟨name, a1, c1, params, regs, words, a2, c2, code⟩, rfl, ⟨rfl, rfl, rfl, rfl, rfl, ?_, ?_⟩, ?_⟩
  · exact own_put HE.out.2.1 HE.out.2.2.2 (by decide) (set5 _ _ _ _ _ _ _)
  · exact own_put HE.out.1 HE.out.2.2.2 (by decide) (set5 _ _ _ _ _ _ _)
  · exact (((((HE.out.2.2.1.setCell (by simp) _).setCell (by simp) _).setCell (by simp) _).setCell (by simp) _).setCell (by simp) _)
end Go.Proofs.Ytdnilonfgbinaaa
