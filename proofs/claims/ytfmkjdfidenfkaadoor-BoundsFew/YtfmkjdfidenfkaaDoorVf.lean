/- Bounds: copies over registers; what stays while a loop's own blocks turn; the iterator. -/
import Derived.Test.YtfmkjdfidenfkaaDoorVe
import Derived.Test.YtfmkjdfidenfkaaDoorYz
namespace Go.Proofs.YtfmkjdfidenfkaaDoor
open Go.RowKit Go.Shelf
open S8 (meetB meetS joinS widS belA belB belC allS doR doB doS emB pot sv join_any widen_any)

/-- A world behind a copy of spans over a block. -/
def cpW (w : World) (g : Nat) (l : List Sp) : World := w.setRow g (l.flatMap spC).toArray
theorem cpW_only (w : World) (g : Nat) (l : List Sp) : OnlyB g w (cpW w g l) := ⟨rfl, rfl, rfl, by unfold cpW; simp, fun k hk hg => by
  unfold cpW World.setRow
  simp only
  rw [Array.getElem?_modify]
  simp [Ne.symm hg]⟩
theorem cpW_rgb {w : World} {g : Nat} {o : List Sp} (h : RgB w g o) (l : List Sp) : RgB (cpW w g l) g l := setRow_heap w g _ _ _ _ h
theorem run_copyR (dT sT ty : TypeId) (hu : Tryd.prog.underlying dT = some (.slice 54)) {w : World} {g b : Nat} {o l : List Sp} (hg : RgB w g o) (hb : RgB w b l) {r : Nat} (ho : o.length = r) (hl : l.length = r) :
    (Builtin.copy_ #[dT, sT] ty #[.slice (some ⟨g, 0, none⟩) r r, .slice (some ⟨b, 0, none⟩) r r]).run Tryd.prog w = .ok (goInt r) (cpW w g l) := by
  have h := run_copy_two (P := Tryd.prog) w dT sT ty 54 g r r ⟨b, 0, none⟩ r r _ _ (l.flatMap spC) hu (by obtain ⟨i0, hi, _, h2, _⟩ := info_parts Tryd.infoSp; rw [hi]; simp [h2]) hg (by rw [spc_len, hl]; simp) (fun j v hj => by rw [add_zero, Nat.zero_add]; exact cell_of_obj hb (by rw [List.getElem?_toArray]; exact hj)) (by rw [List.size_toArray, spc_len, spc_len, ho, hl]; exact Nat.le_refl _) (fun v hv => by
    obtain ⟨s, _, hs⟩ := List.mem_flatMap.1 hv
    simp [spC] at hs
    rcases hs with rfl | rfl <;> rfl)
  rw [h]
  unfold cpW
  rw [show Nat.min r r = r from Nat.min_self r, show (o.flatMap spC).toArray.toList = o.flatMap spC from rfl, List.drop_eq_nil_of_le (by rw [spc_len, spc_len, ho, hl]; exact Nat.le_refl _), List.append_nil]

theorem cells_grow {W W' : World} {row : Option Nat} {k : Nat} {cs : Array Value} {T : TypeId} {fz : Nat × Nat} (h : W.heap[k]? = some (.cells cs T fz)) (hg : W.grownBy W' row) (hr : ∀ r, row = some r → ∃ o : Obj, W.heap[r]? = some o ∧ o.isCells = false) : W'.heap[k]? = some (.cells cs T fz) :=
  (hg.block k (Array.getElem?_eq_some_iff.1 h).1 (fun e => by
    obtain ⟨o, ho, hc⟩ := hr k e.symm
    rw [h] at ho
    injection ho with ho
    subst ho
    cases hc)).trans h
theorem WkAt.grown {N n r : Nat} {m : Mo} {f : Fn} {L : Lay} {st : Wk} {sd cm : List Sp} {W W' : World} (h : WkAt N n r m f L st sd cm W) {row : Option Nat} (hg : W.grownBy W' row) (hr : ∀ r, row = some r → ∃ o : Obj, W.heap[r]? = some o ∧ o.isCells = false) : WkAt N n r m f L st sd cm W' :=
  ⟨cells_grow h.wb hg hr, cells_grow h.ib hg hr, cells_grow h.cb hg hr, cells_grow h.mb hg hr, cells_grow h.jb hg hr, cells_grow h.sb hg hr, cells_grow h.db hg hr, fun i hi hn => cells_grow (h.iv i hi hn) hg hr, fun i hi => cells_grow (h.cv i hi) hg hr, h.dsc, h.ds, h.di, h.dj, h.dc, h.lo, h.lv⟩

/-- What stays: the blocks that are no cells, and pointers to the analysis. -/
theorem WkAt.kf {N n r : Nat} {m : Mo} {f : Fn} {L : Lay} {st : Wk} {sd cm : List Sp} {W W' : World} (h : WkAt N n r m f L st sd cm W) (hk : KpO (OwnB n L st) W W') : KeepsOthers W W' := ⟨hk.1, fun k o hk0 ho => hk.2 k o hk0 fun hq => by
  obtain ⟨_, _, _, e, _⟩ := h.own hq
  rw [hk0] at e
  injection e with e
  subst e
  cases ho⟩
theorem KpO.step {Q Q' : Nat → Prop} {A B C : World} (h : KpO Q A B) (hq : ∀ k, Q' k → Q k ∨ A.heap.size ≤ k) (k : KpO Q' B C) : KpO Q A C := ⟨Nat.le_trans h.1 k.1, fun i o hi ho => k.2 i o (h.2 i o hi ho) fun hQ => by
  rcases hq i hQ with h1 | h1
  · exact ho h1
  · have := (Array.getElem?_eq_some_iff.1 hi).1; omega⟩
/-- A list of numbers in a block of its own. -/
def RowN (N : Nat) (a : Option Addr) (l : List Nat) (W : World) : Prop := l = [] ∨ ∃ g cs fz, a = some ⟨g, 0, none⟩ ∧ N ≤ g ∧ W.heap[g]? = some (.cells cs 3 fz) ∧ ∀ (j x : Nat), l[j]? = some x → cs[j]? = some (.int .i64 (x : Int))
theorem rown_of {N : Nat} {l : List Nat} {a : Option Addr} {c : Nat} {W : World} (h : On N l (.slice a l.length c) W) : RowN N a l W := by
  rcases h.2 with ⟨_, h0⟩ | ⟨g, cap, cur, e, hN, hg, h3, _, _, h4⟩
  · exact .inl (List.eq_nil_of_length_eq_zero h0)
  · injection e with e1 e2 e3
    refine .inr ⟨g, cur, _, e1, hN, hg, fun j x hj => ?_⟩
    have hx : (l.map nV)[j]? = some (nV x) := by rw [List.getElem?_map, hj]; rfl
    rw [← h4, List.getElem?_take] at hx
    split at hx
    · rwa [Array.getElem?_toList] at hx
    · cases hx
theorem RowN.keep {N : Nat} {l : List Nat} {a : Option Addr} {W W' : World} (h : RowN N a l W) {Q : Nat → Prop} (hk : KpO Q W W') (hq : ∀ g, N ≤ g → ¬ Q g) : RowN N a l W' := by
  rcases h with h | ⟨g, cs, fz, e, hN, hg, hc⟩
  · exact .inl h
  · exact .inr ⟨g, cs, fz, e, hN, hk.2 g _ hg (hq g hN), hc⟩
theorem RowN.at {N : Nat} {l : List Nat} {a : Option Addr} {W : World} (h : RowN N a l W) {j x : Nat} (hj : l[j]? = some x) : ∃ g, a = some ⟨g, 0, none⟩ ∧ W.cell? ⟨g, j, none⟩ = some (.int .i64 (x : Int)) := by
  rcases h with h | ⟨g, cs, fz, e, hN, hg, hc⟩
  · rw [h] at hj; cases hj
  · exact ⟨g, e, cell_of_obj hg (hc j x hj)⟩
theorem instr_seq (n Bw B gM : Nat) (bs : Nat → Bool) (hn : n ≤ 1024) (w0 : World) : SeqJ 74 #[.pointer (some ⟨Bw, 0, none⟩)] encI (fun pre W => ∀ k, k ≤ n → pre = tlI bs k → RdI n Bw B gM bs k W) (tlI bs n) w0 :=
  fun lq J Jx W _ hJ _ hRd hY h0 => calls_any (instr1_o lq n Bw B gM bs hn J Jx W hJ (fun k _ hk hj => hRd _ _ hj k hk rfl) hY h0)
set_option maxHeartbeats 1000000 in
theorem instructions_any (B : Nat) (w : World) : Calls Tryd.prog 46 #[.pointer (some ⟨B, 0, none⟩)] w fun e w' => e = .returned (.func (.func 74) #[] #[.pointer (some ⟨w.heap.size, 0, none⟩)]) ∧ w' = w.alloc (.cells #[.pointer (some ⟨B, 0, none⟩)] 59) := by
  go_enter Tryd.func46, Tryd.ntmps46
  go_wp2
  go_ret
  exact ⟨rfl, rfl⟩
end Go.Proofs.YtfmkjdfidenfkaaDoor
