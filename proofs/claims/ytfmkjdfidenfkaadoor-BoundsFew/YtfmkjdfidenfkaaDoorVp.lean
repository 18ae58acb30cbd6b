/- Bounds: what the document fixes. -/
import Derived.Test.YtfmkjdfidenfkaaDoorZat
namespace Go.Proofs.YtfmkjdfidenfkaaDoor
open Go.RowKit

/-- Blocks made one behind the other. -/
def allocs (W : World) (os : List Obj) : World := os.foldl World.alloc W
theorem allocs_below (W : World) : ∀ (os : List Obj) (X : World), Below W.heap.size W X → Below W.heap.size W (allocs X os)
  | [], _, h => h
  | o :: os, X, h => allocs_below W os (X.alloc o) (Below.one h o)
theorem allocs_at : ∀ (os : List Obj) (W : World) (i : Nat) (o : Obj), os[i]? = some o → (allocs W os).heap[W.heap.size + i]? = some o
  | [], _, _, _, h => by simp at h
  | p :: os, W, 0, o, h => by
    injection h with h
    subst h
    exact blk_stay (heap_alloc_new W p) (allocs_below (W.alloc p) os _ (Below.refl _ _))
  | p :: os, W, i + 1, o, h => by
    have := allocs_at os (W.alloc p) i o (by simpa using h)
    rw [World.size_alloc] at this
    rw [show W.heap.size + (i + 1) = W.heap.size + 1 + i by omega]
    exact this

theorem row_lit {W : World} {b : Nat} {T : TypeId} {α : Type} {f : α → List Value} {k n : Nat} {l : List α} (h : W.heap[b]? = some (.cells (l.flatMap f).toArray T)) (hf : ∀ x, (f x).length = k) (hk : 0 < k) (hl : (l.flatMap f).length = n * k) (hn : n ≤ 1000) : RowIn W (some ⟨b, 0, none⟩) k (l.map f) :=
  own_row (N := 0) (n := n) (T := T) (c := n) ⟨hl, .inr ⟨b, n, _, rfl, Nat.zero_le _, h, Nat.le_refl _, by unfold maxLen; omega, by rw [List.size_toArray, hl], by rw [List.take_of_length_le (by simp [hl])]⟩⟩ hf hk
theorem sm_in {W : World} {k : Nat} (h0 : W.heap[k]? = some (.cells #[.int .i64 8] 2)) (h1 : W.heap[k + 1]? = some (.cells #[.int .i64 (-3), .int .i64 9] 54)) (h2 : W.heap[k + 1 + 1]? = some (.cells #[.int .i64 17, .int .i64 1, .int .i64 0, .int .i64 0, .int .i64 2, .int .i64 18, .int .i64 1, .int .i64 0, .int .i64 0, .int .i64 0, .int .i64 0, .int .i64 1, .int .i64 0, .int .i64 0, .int .i64 0] 57)) (h3 : W.heap[k + 1 + 1 + 1]? = some (.cells #[.string ⟨#[102]⟩, .slice (some ⟨k + 1, 0, none⟩) 1 1, .int .i64 2, .int .i64 0, .slice (some ⟨k + 1 + 1, 0, none⟩) 3 3] 37)) : (smM (some ⟨k, 0, none⟩) (some ⟨k + 1 + 1 + 1, 0, none⟩) (some ⟨k + 1, 0, none⟩) (some ⟨k + 1 + 1, 0, none⟩) 1 1 1 3).In W := by
  refine ⟨⟨by show 1 * 8 ≤ _; omega, row_lit (f := thC) (n := 1) (l := [8]) h0 (fun _ => rfl) (by omega) rfl (by omega)⟩, ?_, ⟨by show 1 * 80 ≤ _; omega, row_lit (f := Fn.cells) (n := 1) (l := [smF (some ⟨k + 1, 0, none⟩) (some ⟨k + 1 + 1, 0, none⟩) 1 3]) h3 (fun _ => rfl) (by omega) rfl (by omega)⟩, ?_⟩
  · intro z hz
    simp only [smM, List.mem_singleton] at hz
    subst hz
    unfold I64
    omega
  · intro f hf
    simp only [smM, List.mem_singleton] at hf
    subst hf
    refine ⟨by show 1 ≤ _; omega, by unfold smF I64; simp, by unfold smF I64; simp, ⟨by show 1 * 16 ≤ _; omega, row_lit (f := spC) (n := 1) (l := [(-3, 9)]) h1 (fun _ => rfl) (by omega) rfl (by omega)⟩, ?_, ⟨by show 3 * 40 ≤ _; omega, row_lit (f := Is.cells) (n := 3) (l := [⟨17, 1, 0, 0, 2⟩, ⟨18, 1, 0, 0, 0⟩, ⟨0, 1, 0, 0, 0⟩]) h2 (fun _ => rfl) (by omega) rfl (by omega)⟩, ?_⟩
    · intro p hp
      simp only [smF, List.mem_singleton] at hp
      subst hp
      unfold spOk I64
      omega
    · intro x hx
      simp only [smF, List.mem_cons, List.not_mem_nil, or_false] at hx
      rcases hx with rfl | rfl | rfl <;> (unfold Is.Ok I64; simp only; omega)

def smI : List (List Sp) := [[(-3, 9), (0, 9223372036854775807)], [(-3, 9), (0, 8)], [(-3, 9), (0, 9223372036854775807)]]
def smC : List (List Nat) := [[0, 6], [0, 5], [0, 6]]
theorem sm_run {W : World} (ht : Tab W) {ta fa pa ca : Option Addr} (hin : (smM ta fa pa ca 1 1 1 3).In W) : Calls Tryd.prog 8 #[.agg #[.slice ta 1 1, .slice fa 1 1], .int .i64 0] W fun e w' => Below W.heap.size W w' ∧ ∃ gI gC : Nat, e = .returned (.tuple #[.agg #[.slice (some ⟨gI, 0, none⟩) 3 3, .slice (some ⟨gC, 0, none⟩) 3 3], .int .i64 0]) ∧ RwS w' (some ⟨gI, 0, none⟩) smI ∧ RwN w' (some ⟨gC, 0, none⟩) smC := by
  refine (run_any (smM ta fa pa ca 1 1 1 3) 0 W ht hin).mono ?_
  rintro e w' ⟨hb, h⟩
  have hm := sm_may ta fa pa ca 1 1 1 3
  rw [if_neg (by rw [hm]; decide), if_neg (by show ¬ ((0 : Int) < 0 ∨ (1 : Int) ≤ 0); omega)] at h
  obtain ⟨f, L, sd, cm, hf, he, hat⟩ := h
  have hfe : f = smF pa ca 1 3 := by
    have : some (smF pa ca 1 3) = some f := hf
    injection this with this
    exact this.symm
  subst hfe
  have H := fn_r hm hin hf
  have hI := (anZ_inv H (hin.2.2.2 _ (List.mem_of_getElem? hf)).2.2.2.2.1).1
  obtain ⟨a1, a2⟩ := sm_an ta fa pa ca 1 1 1 3
  have r1 := hat.rws hI (by show 2 ≤ 64; omega)
  have r2 := hat.rwn hI
  rw [a1] at r1
  rw [a2] at r2
  exact ⟨hb, L.gI, L.gC, he, r1, r2⟩
theorem sm_edge {W : World} (ht : Tab W) {ta fa pa ca : Option Addr} (hin : (smM ta fa pa ca 1 1 1 3).In W) {a : Option Addr} {c : Nat} (hs : Sps W a [(3, 5), (0, 9)]) : Calls Tryd.prog 16 #[.agg #[.slice ta 1 1, .slice fa 1 1], .int .i64 0, .int .i64 0, .int .i64 1, .slice a 2 c] W fun e w' => Below W.heap.size W w' ∧ ∃ G : Nat, e = .returned (.tuple #[.slice (some ⟨G, 0, none⟩) 2 2, .bool true]) ∧ RgB w' G [(3, 5), (0, 4)] := by
  refine (bedge_any (smM ta fa pa ca 1 1 1 3) 0 0 1 [(3, 5), (0, 9)] a c W ht hin hs (fun s hs => by simp only [List.mem_cons, List.not_mem_nil, or_false] at hs; rcases hs with rfl | rfl <;> (unfold spOk I64; simp only; omega))).mono ?_
  rintro e w' ⟨hb, h⟩
  rw [sm_ed] at h
  obtain ⟨G, he, _, hr⟩ := h
  exact ⟨hb, G, he, hr⟩

set_option maxRecDepth 100000 in
set_option maxHeartbeats 8000000 in
theorem fixed_any (w : World) (ht : Tab w) : Calls Tryd.prog 7 #[] w fun e w' => e = .returned (.bool true) ∧ Below w.heap.size w w' := by
  go_enter Tryd.func7, Tryd.ntmps7
  go_upto_region 2 with fail
  show Code.wp Tryd.prog _ _ _ (allocs w [.cells #[.int .i64 8] 2, .cells #[.int .i64 (-3), .int .i64 9] 54, .cells #[.int .i64 17, .int .i64 1, .int .i64 0, .int .i64 0, .int .i64 2, .int .i64 18, .int .i64 1, .int .i64 0, .int .i64 0, .int .i64 0, .int .i64 0, .int .i64 1, .int .i64 0, .int .i64 0, .int .i64 0] 57, .cells #[.string ⟨#[102]⟩, .slice (some ⟨w.heap.size + 1, 0, none⟩) 1 1, .int .i64 2, .int .i64 0, .slice (some ⟨w.heap.size + 1 + 1, 0, none⟩) 3 3] 37, .cells #[.slice (some ⟨w.heap.size, 0, none⟩) 1 1, .slice (some ⟨w.heap.size + 1 + 1 + 1, 0, none⟩) 1 1] 25])
  generalize hos : ([.cells #[.int .i64 8] 2, .cells #[.int .i64 (-3), .int .i64 9] 54, .cells #[.int .i64 17, .int .i64 1, .int .i64 0, .int .i64 0, .int .i64 2, .int .i64 18, .int .i64 1, .int .i64 0, .int .i64 0, .int .i64 0, .int .i64 0, .int .i64 1, .int .i64 0, .int .i64 0, .int .i64 0] 57, .cells #[.string ⟨#[102]⟩, .slice (some ⟨w.heap.size + 1, 0, none⟩) 1 1, .int .i64 2, .int .i64 0, .slice (some ⟨w.heap.size + 1 + 1, 0, none⟩) 3 3] 37, .cells #[.slice (some ⟨w.heap.size, 0, none⟩) 1 1, .slice (some ⟨w.heap.size + 1 + 1 + 1, 0, none⟩) 1 1] 25] : List Obj) = os
  have hb := allocs_below w os w (Below.refl _ _)
  have hal := allocs_at os w
  generalize allocs w os = W at *
  have g0 := hal 0 _ (by rw [← hos]; rfl)
  have g1 := hal 1 _ (by rw [← hos]; rfl)
  have g2 := hal 2 _ (by rw [← hos]; rfl)
  have g3 := hal 3 _ (by rw [← hos]; rfl)
  have g4 := hal 4 _ (by rw [← hos]; rfl)
  have hin : (smM (some ⟨w.heap.size, 0, none⟩) (some ⟨w.heap.size + 1 + 1 + 1, 0, none⟩) (some ⟨w.heap.size + 1, 0, none⟩) (some ⟨w.heap.size + 1 + 1, 0, none⟩) 1 1 1 3).In W := sm_in g0 g1 g2 g3
  have m0 := cell_of_obj g4 (j := 0) (v := .slice (some ⟨w.heap.size, 0, none⟩) 1 1) rfl
  have m1 := cell_of_obj g4 (j := 1) (v := .slice (some ⟨w.heap.size + 1 + 1 + 1, 0, none⟩) 1 1) rfl
  have HRUN := Hid.mk' (sm_run (ht.stay hb) hin)
  have HIN := Hid.mk' hin
  have HT := Hid.mk' (ht.stay hb)
  have HB := Hid.mk' hb
  clear hin hb hal g0 g1 g2 g3 g4 hos ht
  go_upto_region 3 with (go_at_call 8; refine HRUN.out.mono ?_; rintro e w5 ⟨hb5, gI, gC, rfl, hI5, hC5⟩; have HB5 := Hid.mk' hb5; have HR5 := Hid.mk' (And.intro hI5 hC5); clear hb5 hI5 hC5)
  go_upto_region 6 with fail
  show Code.wp Tryd.prog _ _ _ (allocs w5 [.cells #[.slice (some ⟨gI, 0, none⟩) 3 3, .slice (some ⟨gC, 0, none⟩) 3 3] 30, .cells #[.int .i64 (-3), .int .i64 9] 54, .cells #[.int .i64 0, .int .i64 9223372036854775807] 54, .cells #[.int .i64 (-3), .int .i64 9, .int .i64 0, .int .i64 9223372036854775807] 54, .cells #[.int .i64 (-3), .int .i64 9, .int .i64 0, .int .i64 8] 54, .cells #[.int .i64 (-3), .int .i64 9, .int .i64 0, .int .i64 9223372036854775807] 54, .cells #[.slice (some ⟨w5.heap.size + 1 + 1 + 1, 0, none⟩) 2 2, .slice (some ⟨w5.heap.size + 1 + 1 + 1 + 1, 0, none⟩) 2 2, .slice (some ⟨w5.heap.size + 1 + 1 + 1 + 1 + 1, 0, none⟩) 2 2] 34, .cells #[.int .i64 0, .int .i64 6] 3, .cells #[.int .i64 0, .int .i64 5] 3, .cells #[.int .i64 0, .int .i64 6] 3, .cells #[.slice (some ⟨w5.heap.size + 1 + 1 + 1 + 1 + 1 + 1 + 1, 0, none⟩) 2 2, .slice (some ⟨w5.heap.size + 1 + 1 + 1 + 1 + 1 + 1 + 1 + 1, 0, none⟩) 2 2, .slice (some ⟨w5.heap.size + 1 + 1 + 1 + 1 + 1 + 1 + 1 + 1 + 1, 0, none⟩) 2 2] 38, .cells #[.slice (some ⟨w5.heap.size + 1 + 1 + 1 + 1 + 1 + 1, 0, none⟩) 3 3, .slice (some ⟨w5.heap.size + 1 + 1 + 1 + 1 + 1 + 1 + 1 + 1 + 1 + 1, 0, none⟩) 3 3] 30])
  generalize hos : ([.cells #[.slice (some ⟨gI, 0, none⟩) 3 3, .slice (some ⟨gC, 0, none⟩) 3 3] 30, .cells #[.int .i64 (-3), .int .i64 9] 54, .cells #[.int .i64 0, .int .i64 9223372036854775807] 54, .cells #[.int .i64 (-3), .int .i64 9, .int .i64 0, .int .i64 9223372036854775807] 54, .cells #[.int .i64 (-3), .int .i64 9, .int .i64 0, .int .i64 8] 54, .cells #[.int .i64 (-3), .int .i64 9, .int .i64 0, .int .i64 9223372036854775807] 54, .cells #[.slice (some ⟨w5.heap.size + 1 + 1 + 1, 0, none⟩) 2 2, .slice (some ⟨w5.heap.size + 1 + 1 + 1 + 1, 0, none⟩) 2 2, .slice (some ⟨w5.heap.size + 1 + 1 + 1 + 1 + 1, 0, none⟩) 2 2] 34, .cells #[.int .i64 0, .int .i64 6] 3, .cells #[.int .i64 0, .int .i64 5] 3, .cells #[.int .i64 0, .int .i64 6] 3, .cells #[.slice (some ⟨w5.heap.size + 1 + 1 + 1 + 1 + 1 + 1 + 1, 0, none⟩) 2 2, .slice (some ⟨w5.heap.size + 1 + 1 + 1 + 1 + 1 + 1 + 1 + 1, 0, none⟩) 2 2, .slice (some ⟨w5.heap.size + 1 + 1 + 1 + 1 + 1 + 1 + 1 + 1 + 1, 0, none⟩) 2 2] 38, .cells #[.slice (some ⟨w5.heap.size + 1 + 1 + 1 + 1 + 1 + 1, 0, none⟩) 3 3, .slice (some ⟨w5.heap.size + 1 + 1 + 1 + 1 + 1 + 1 + 1 + 1 + 1 + 1, 0, none⟩) 3 3] 30] : List Obj) = os2
  have hb := allocs_below w5 os2 w5 (Below.refl _ _)
  have hal := allocs_at os2 w5
  generalize allocs w5 os2 = W6 at *
  have g0 := hal 0 _ (by rw [← hos]; rfl)
  have g3 := hal 3 _ (by rw [← hos]; rfl)
  have g4 := hal 4 _ (by rw [← hos]; rfl)
  have g5 := hal 5 _ (by rw [← hos]; rfl)
  have g6 := hal 6 _ (by rw [← hos]; rfl)
  have g7 := hal 7 _ (by rw [← hos]; rfl)
  have g8 := hal 8 _ (by rw [← hos]; rfl)
  have g9 := hal 9 _ (by rw [← hos]; rfl)
  have g10 := hal 10 _ (by rw [← hos]; rfl)
  have g11 := hal 11 _ (by rw [← hos]; rfl)
  have HWS : Hid (RwS W6 (some ⟨w5.heap.size + 1 + 1 + 1 + 1 + 1 + 1, 0, none⟩) smI) := by
    intro i l hi
    unfold smI at hi
    rcases i with _ | _ | _ | i
    · injection hi with hi; subst hi
      exact ⟨_, 0, _, 2, rfl, cell_of_obj g6 rfl, rgb_sps (g := w5.heap.size + 1 + 1 + 1) g3 (by simp)⟩
    · injection hi with hi; subst hi
      exact ⟨_, 0, _, 2, rfl, cell_of_obj g6 rfl, rgb_sps (g := w5.heap.size + 1 + 1 + 1 + 1) g4 (by simp)⟩
    · injection hi with hi; subst hi
      exact ⟨_, 0, _, 2, rfl, cell_of_obj g6 rfl, rgb_sps (g := w5.heap.size + 1 + 1 + 1 + 1 + 1) g5 (by simp)⟩
    · simp at hi
  have HWN : Hid (RwN W6 (some ⟨w5.heap.size + 1 + 1 + 1 + 1 + 1 + 1 + 1 + 1 + 1 + 1, 0, none⟩) smC) := by
    intro i l hi
    unfold smC at hi
    rcases i with _ | _ | _ | i
    · injection hi with hi; subst hi
      exact ⟨_, 0, _, 2, rfl, cell_of_obj g10 rfl, row_lst (g := w5.heap.size + 1 + 1 + 1 + 1 + 1 + 1 + 1) g7⟩
    · injection hi with hi; subst hi
      exact ⟨_, 0, _, 2, rfl, cell_of_obj g10 rfl, row_lst (g := w5.heap.size + 1 + 1 + 1 + 1 + 1 + 1 + 1 + 1) g8⟩
    · injection hi with hi; subst hi
      exact ⟨_, 0, _, 2, rfl, cell_of_obj g10 rfl, row_lst (g := w5.heap.size + 1 + 1 + 1 + 1 + 1 + 1 + 1 + 1 + 1) g9⟩
    · simp at hi
  have HRI := Hid.mk' (HR5.out.1.stay hb)
  have HRC := Hid.mk' (HR5.out.2.stay hb)
  have HG := Hid.mk' (And.intro g0 g11)
  have n0 := cell_kept_below (cell_kept_below m0 HB5.out) hb
  have n1 := cell_kept_below (cell_kept_below m1 HB5.out) hb
  have HB6 := Hid.mk' ((HB.out.trans (HB5.out.mono HB.out.size)).trans (hb.mono (HB.out.trans (HB5.out.mono HB.out.size)).size))
  have HBW6 := Hid.mk' (HB5.out.trans (hb.mono HB5.out.size))
  clear hb hal g0 g3 g4 g5 g6 g7 g8 g9 g10 g11 hos m0 m1 HR5 HRUN
  have a0 : W6.cell? ⟨w5.heap.size, 0, none⟩ = some (.slice (some ⟨gI, 0, none⟩) 3 3) := cell_of_obj HG.out.1 rfl
  have a1 : W6.cell? ⟨w5.heap.size, 1, none⟩ = some (.slice (some ⟨gC, 0, none⟩) 3 3) := cell_of_obj HG.out.1 rfl
  have b0 : W6.cell? ⟨w5.heap.size + 11, 0, none⟩ = some (.slice (some ⟨w5.heap.size + 1 + 1 + 1 + 1 + 1 + 1, 0, none⟩) 3 3) := cell_of_obj HG.out.2 rfl
  have b1 : W6.cell? ⟨w5.heap.size + 11, 1, none⟩ = some (.slice (some ⟨w5.heap.size + 1 + 1 + 1 + 1 + 1 + 1 + 1 + 1 + 1 + 1, 0, none⟩) 3 3) := cell_of_obj HG.out.2 rfl
  have HSM : Hid (∀ X, Below W6.heap.size W6 X → Calls Tryd.prog 17 #[.agg #[.slice (some ⟨gI, 0, none⟩) 3 3, .slice (some ⟨gC, 0, none⟩) 3 3], .agg #[.slice (some ⟨w5.heap.size + 1 + 1 + 1 + 1 + 1 + 1, 0, none⟩) 3 3, .slice (some ⟨w5.heap.size + 1 + 1 + 1 + 1 + 1 + 1 + 1 + 1 + 1 + 1, 0, none⟩) 3 3]] X fun e w' => e = .returned (.bool true) ∧ Below X.heap.size X w') := fun X hX => same_true smI smC _ _ _ _ 3 3 3 3 X (HRI.out.stay hX) (HWS.out.stay hX) (HRC.out.stay hX) (HWN.out.stay hX) (by show 3 ≤ 1000000; omega) (by show 3 ≤ 1000000; omega) (fun l hl => by unfold smC at hl; simp only [List.mem_cons, List.not_mem_nil, or_false] at hl; rcases hl with rfl | rfl | rfl <;> simp)
  have r1 := heap_alloc_new W6 (.cells #[.int .i64 3, .int .i64 5, .int .i64 0, .int .i64 9] 54)
  have B7 := Below.one (Below.refl _ W6) (.cells #[.int .i64 3, .int .i64 5, .int .i64 0, .int .i64 9] 54)
  have HED : Hid (Calls Tryd.prog 16 #[.agg #[.slice (some ⟨w.heap.size, 0, none⟩) 1 1, .slice (some ⟨w.heap.size + 1 + 1 + 1, 0, none⟩) 1 1], .int .i64 0, .int .i64 0, .int .i64 1, .slice (some ⟨W6.heap.size, 0, none⟩) 2 2] (W6.alloc (.cells #[.int .i64 3, .int .i64 5, .int .i64 0, .int .i64 9] 54)) fun e w' => Below (W6.alloc (.cells #[.int .i64 3, .int .i64 5, .int .i64 0, .int .i64 9] 54)).heap.size (W6.alloc (.cells #[.int .i64 3, .int .i64 5, .int .i64 0, .int .i64 9] 54)) w' ∧ ∃ G : Nat, e = .returned (.tuple #[.slice (some ⟨G, 0, none⟩) 2 2, .bool true]) ∧ RgB w' G [(3, 5), (0, 4)]) :=
    sm_edge (HT.out.stay (HBW6.out.trans (B7.mono HBW6.out.size))) (HIN.out.stay (HBW6.out.trans (B7.mono HBW6.out.size))) (rgb_sps (l := [(3, 5), (0, 9)]) r1 (by simp))
  have HB7 := Hid.mk' B7
  clear r1 B7 HG HRI HRC HWS HWN HT HIN
  go_wp2_with (first | (go_at_call 16; refine HED.out.mono ?_; rintro e w8 ⟨hb8, G, rfl, hG8⟩; have HB8 := Hid.mk' (Below.on HB7.out hb8); have HG8 := Hid.mk' hG8; have c0 := cell_kept_below a0 HB8.out; have c1 := cell_kept_below a1 HB8.out; have c2 := cell_kept_below b0 HB8.out; have c3 := cell_kept_below b1 HB8.out; clear hb8 hG8) | (go_at_call 17; refine (HSM.out _ HB8.out).mono ?_; rintro e w9 ⟨rfl, hb9⟩; have HB9 := Hid.mk' hb9; clear hb9) | (go_at_call 18; refine (sameSpans_true [(3, 5), (0, 4)] _ _ _ _ _ (rgb_sps (HG8.out.stay (HB9.out.trans ((Below.one (Below.refl _ w9) _).mono HB9.out.size))) (by simp)) (rgb_sps (g := w9.heap.size) (heap_alloc_new w9 _) (by simp))).mono ?_; rintro e w10 ⟨rfl, hb10⟩))
  have f1 := HB6.out.trans (HB8.out.mono HB6.out.size)
  have f2 := f1.trans (HB9.out.mono f1.size)
  have f3 := f2.trans ((Below.one (Below.refl _ w9) (.cells (([(3, 5), (0, 4)] : List Sp).flatMap spC).toArray 54)).mono f2.size)
  have f4 := f3.trans (hb10.mono f3.size)
  exact bodyPost_ret (v := .bool true) (by simp [results, Tryd.results7, go_sem]) rfl ⟨rfl, f4⟩
end Go.Proofs.YtfmkjdfidenfkaaDoor
