/- loops.graphOf: what it makes first. -/
import Derived.Test.YtgiokognngllcaaDoorTs
import Derived.Test.YtgiokognngllcaaDoorTm
import Derived.Test.YtgiokognngllcaaDoorTf
import Derived.Test.YtgiokognngllcaaDoorGgam
namespace Go.Proofs.YtgiokognngllcaaDoor
open Go.RowKit Go.Shelf
attribute [local go_sem] Oper.semAt_some

def zGr : Array Value := #[.slice none 0 0, .slice none 0 0, .slice none 0 0, .slice none 0 0]
def dstG : Nat → Nat
  | 1 => 12
  | 3 => 14
  | 5 => 16
  | 7 => 18
  | _ => 4
def valG (n : Nat) : Nat → Nat → Value
  | 9, b => .pointer (some ⟨b, 0, none⟩)
  | _, b => .slice (some ⟨b, 0, none⟩) n n
def exG (D : List Nat) : Bool := D == [1, 3, 5, 7] || D == [1, 3, 5, 7, 9]
def obG (n : Nat) : Nat → Obj
  | 9 => .cells #[.slice none 0 0, .slice none 0 0, .slice none 0 0, .slice none 0 0] 58
  | 7 => .cells (mkB n) 4
  | _ => .cells (mkR n) 38
structure GM (n : Nat) (w1 : World) (F : Nat → Nat) (FB x : Nat) (W : World) : Prop where
  f : ∀ a, a < 3 → w1.heap.size ≤ F a ∧ W.heap[F a]? = some (.cells (mkR n) 38 (0, 0))
  b : w1.heap.size ≤ FB ∧ W.heap[FB]? = some (.cells (mkB n) 4 (0, 0))
  hx : w1.heap.size ≤ x ∧ W.heap[x]? = some (.cells (gV n FB F) 58 (0, 0))
  ff : ∀ a b, a < 3 → b < 3 → a ≠ b → F a ≠ F b
  xf : ∀ a, a < 3 → x ≠ F a
  bf : ∀ a, a < 3 → FB ≠ F a
  xb : x ≠ FB
  lw : Below w1.heap.size w1 W
theorem put4 {W : World} {x : Nat} {c0 c1 c2 c3 : Value} {T : TypeId} (h : W.heap[x]? = some (.cells #[c0, c1, c2, c3] T (0, 0))) (d0 d1 d2 d3 : Value) :
    ((((W.setCell ⟨x, 0, none⟩ d0).setCell ⟨x, 1, none⟩ d1).setCell ⟨x, 2, none⟩ d2).setCell ⟨x, 3, none⟩ d3).heap[x]? = some (.cells #[d0, d1, d2, d3] T (0, 0)) := by
  have h0 := heap_setCell_same W x 0 _ T d0 h
  have h1 := heap_setCell_same _ x 1 _ T d1 h0
  have h2 := heap_setCell_same _ x 2 _ T d2 h1
  have h3 := heap_setCell_same _ x 3 _ T d3 h2
  simpa using h3
theorem put4_other {W : World} {x k : Nat} (hk : k ≠ x) (d0 d1 d2 d3 : Value) :
    ((((W.setCell ⟨x, 0, none⟩ d0).setCell ⟨x, 1, none⟩ d1).setCell ⟨x, 2, none⟩ d2).setCell ⟨x, 3, none⟩ d3).heap[k]? = W.heap[k]? := by
  rw [heap_setCell_other _ ⟨x, 3, none⟩ k d3 hk, heap_setCell_other _ ⟨x, 2, none⟩ k d2 hk, heap_setCell_other _ ⟨x, 1, none⟩ k d1 hk, heap_setCell_other _ ⟨x, 0, none⟩ k d0 hk]
def fG (g : Nat → Nat) : Nat → Nat
  | 0 => g 1
  | 1 => g 3
  | _ => g 5
theorem GM.of {n : Nat} {w1 : World} {g : Nat → Nat} {W : World} (hb : Below w1.heap.size w1 W) (b1 : w1.heap.size ≤ g 1 ∧ W.heap[g 1]? = some (obG n 1)) (b3 : w1.heap.size ≤ g 3 ∧ W.heap[g 3]? = some (obG n 3)) (b5 : w1.heap.size ≤ g 5 ∧ W.heap[g 5]? = some (obG n 5)) (b7 : w1.heap.size ≤ g 7 ∧ W.heap[g 7]? = some (obG n 7)) (b9 : w1.heap.size ≤ g 9 ∧ W.heap[g 9]? = some (obG n 9))
    (n13 : g 1 ≠ g 3) (n15 : g 1 ≠ g 5) (n35 : g 3 ≠ g 5) (n71 : g 7 ≠ g 1) (n73 : g 7 ≠ g 3) (n75 : g 7 ≠ g 5) (n91 : g 9 ≠ g 1) (n93 : g 9 ≠ g 3) (n95 : g 9 ≠ g 5) (n97 : g 9 ≠ g 7) :
    GM n w1 (fG g) (g 7) (g 9) ((((W.setCell ⟨g 9, 0, none⟩ (.slice (some ⟨g 1, 0, none⟩) n n)).setCell ⟨g 9, 1, none⟩ (.slice (some ⟨g 3, 0, none⟩) n n)).setCell ⟨g 9, 2, none⟩ (.slice (some ⟨g 5, 0, none⟩) n n)).setCell ⟨g 9, 3, none⟩ (.slice (some ⟨g 7, 0, none⟩) n n)) := by
  have hf : ∀ a, a < 3 → a = 0 ∨ a = 1 ∨ a = 2 := fun a ha => by omega
  refine ⟨fun a ha => ?_, ⟨b7.1, ?_⟩, ⟨b9.1, ?_⟩, fun a b ha hb hn => ?_, fun a ha => ?_, fun a ha => ?_, n97, ?_⟩
  · rcases hf a ha with rfl | rfl | rfl
    · exact ⟨b1.1, (put4_other (Ne.symm n91) _ _ _ _).trans b1.2⟩
    · exact ⟨b3.1, (put4_other (Ne.symm n93) _ _ _ _).trans b3.2⟩
    · exact ⟨b5.1, (put4_other (Ne.symm n95) _ _ _ _).trans b5.2⟩
  · exact (put4_other (Ne.symm n97) _ _ _ _).trans b7.2
  · exact put4 b9.2 _ _ _ _
  · rcases hf a ha with rfl | rfl | rfl <;> rcases hf b hb with rfl | rfl | rfl <;> simp only [fG] <;> first | exact absurd rfl hn | assumption | (exact Ne.symm (by assumption))
  · rcases hf a ha with rfl | rfl | rfl <;> simp only [fG] <;> assumption
  · rcases hf a ha with rfl | rfl | rfl <;> simp only [fG] <;> assumption
  · exact (((hb.setCell (p := ⟨g 9, 0, none⟩) b9.1 _).setCell (p := ⟨g 9, 1, none⟩) b9.1 _).setCell (p := ⟨g 9, 2, none⟩) b9.1 _).setCell (p := ⟨g 9, 3, none⟩) b9.1 _
/-- What graphOf hands back. -/
def GrP (l : List Is) (w : World) (e : Ending) (w' : World) : Prop := ∃ (F : Nat → Nat) (FB : Nat) (rs : List Bool) (vs : Nat → List Value), e = .returned (.agg (gV l.length FB F)) ∧ IsR l rs ∧ G3 l.length F w.heap.size (Lg l (edg l rs)) vs w' ∧ Ob w.heap.size (fbL l l.length (edg l rs)) (.slice (some ⟨FB, 0, none⟩) l.length l.length) w' ∧ (∀ a, a < 3 → w.heap.size ≤ F a) ∧ w.heap.size ≤ FB ∧ Below w.heap.size w w'
theorem mkR_list (n : Nat) : mkR n = (List.replicate n (.slice none 0 0)).toArray := mkR_eq n
theorem G3.start {n N : Nat} {F : Nat → Nat} {W : World} (h : ∀ a, a < 3 → W.heap[F a]? = some (.cells (mkR n) 38 (0, 0))) (hN : N ≤ W.heap.size) (l : List Is) : G3 n F N (Lg l []) (fun _ => List.replicate n (.slice none 0 0)) W := by
  have hr : ∀ j, j < n → (List.replicate n (Value.slice none 0 0)).getD j undef = .slice none 0 0 := fun j hj => by rw [List.getD_eq_getElem?_getD, List.getElem?_replicate, if_pos hj]; rfl
  have hl : ∀ a j, Lg l [] a j = [] := fun a j => by unfold Lg; simp [intL, outL, bacE, ahdE]
  refine ⟨fun a ha => by rw [← mkR_list]; exact h a ha, fun a _ => by simp, fun a j _ hj => ?_, fun a i b j _ hi _ _ _ => ?_, hN⟩
  · show On N _ ((List.replicate n (Value.slice none 0 0)).getD j undef) W
    rw [hr j hj, hl]; exact on_nil _ _
  · show Apart ((List.replicate n (Value.slice none 0 0)).getD i undef) _
    rw [hr i hi]; exact .inl rfl
theorem fbL_nil (l : List Is) (n : Nat) : fbL l n [] = List.replicate n false := by
  refine List.ext_getElem? fun j => ?_
  by_cases hj : j < n
  · rw [fbL_at l _ hj, List.getElem?_replicate, if_pos hj]; rfl
  · rw [List.getElem?_eq_none (by rw [fbL_len]; omega), List.getElem?_eq_none (by simp; omega)]
theorem ob_mkB {V : World} {N n g : Nat} (hn : n ≤ 1000000) (hN : N ≤ g) (h : V.heap[g]? = some (.cells (mkB n) 4 (0, 0))) : Ob N (List.replicate n false) (.slice (some ⟨g, 0, none⟩) n n) V := by
  have ht : (mkB n).toList = List.replicate n (bV false) := toList_madeCells_one _ _
  have hs : (mkB n).size = n := by rw [← Array.length_toList, ht]; simp
  unfold Ob
  rw [List.length_replicate, List.map_replicate]
  refine ⟨by simp, .inr ⟨g, n, mkB n, rfl, hN, h, Nat.le_refl _, by unfold maxLen; omega, by omega, ?_⟩⟩
  rw [ht, List.take_of_length_le (by simp)]
theorem own_keepT {W W' : World} {N n sz : Nat} {T : TypeId} {v : Value} {xs : List Value} (h : W.ownsRow N T sz v n xs) (hk : ∀ (k : Nat) (cs : Array Value) (fz : Nat × Nat), W.heap[k]? = some (.cells cs T fz) → W'.heap[k]? = some (.cells cs T fz)) : W'.ownsRow N T sz v n xs := by
  refine ⟨h.1, ?_⟩
  rcases h.2 with h0 | ⟨g, cap, cur, rfl, h1, h2, h3⟩
  · exact .inl h0
  · exact .inr ⟨g, cap, cur, rfl, h1, hk g cur _ h2, h3⟩
set_option maxRecDepth 100000 in
set_option maxHeartbeats 4000000 in
theorem graphOf_in (f : Fn) (w : World) (hi : Iss w f.ca f.code) (hc : f.code.length ≤ f.cc) (hl : f.code.length ≤ 1024) (hG : 1 < w.heap.size) (hT : Tb w) : CallsIn Fence.wide 6 Tryd.prog 20 #[f.val] w (GrP f.code w) := by
  have HED : Hid (∀ Fs w', Below w.heap.size w w' → (∀ F ∈ Fs, F < w'.heap.size) → DOkG Fs w' → Calls Tryd.prog 36 #[f.val] w' (EdPG Fs f.code w')) := fun Fs w' hb hF hD => edges_anyG f Fs w' (hi.stay hb) hc hF hD
  have HTR : Hid (∀ w', Below w.heap.size w w' → Calls Tryd.prog 35 #[f.val] w' (TrP f.code w')) := fun w' hb => tree_any f w' (hi.stay hb) hc (Nat.lt_of_lt_of_le hG hb.size) (hT.keep (hb.block _ hG))
  clear hi hc hG hT
  obtain ⟨fn, fpa, fpc, fps, frg, fwd, fca, fcc, fl⟩ := f
  unfold Fn.val at *
  simp only at hl HED HTR ⊢
  have HX := Hid.mk' (heap_alloc_new w (.cells #[.string fn, .slice fpa fps.length fpc, .int .i64 frg, .int .i64 fwd, .slice fca fl.length fcc] 25))
  have HB0 : Hid (Below w.heap.size w ((w.alloc (.cells #[.string fn, .slice fpa fps.length fpc, .int .i64 frg, .int .i64 fwd, .slice fca fl.length fcc] 25)).alloc (.cells #[.slice none 0 0, .slice none 0 0, .slice none 0 0, .slice none 0 0] 58))) := Below.one (Below.one (Below.refl _ w) _) _
  have HR0 : Hid (((w.alloc (.cells #[.string fn, .slice fpa fps.length fpc, .int .i64 frg, .int .i64 fwd, .slice fca fl.length fcc] 25)).alloc (.cells #[.slice none 0 0, .slice none 0 0, .slice none 0 0, .slice none 0 0] 58)).heap[w.heap.size + 1]? = some (.cells #[.slice none 0 0, .slice none 0 0, .slice none 0 0, .slice none 0 0] 58)) := by
    have := heap_alloc_new (w.alloc (.cells #[.string fn, .slice fpa fps.length fpc, .int .i64 frg, .int .i64 fwd, .slice fca fl.length fcc] 25)) (.cells #[.slice none 0 0, .slice none 0 0, .slice none 0 0, .slice none 0 0] 58)
    rw [World.size_alloc] at this
    exact this
  have HS0' : Hid (((w.alloc (.cells #[.string fn, .slice fpa fps.length fpc, .int .i64 frg, .int .i64 fwd, .slice fca fl.length fcc] 25)).alloc (.cells #[.slice none 0 0, .slice none 0 0, .slice none 0 0, .slice none 0 0] 58)).heap.size = w.heap.size + 1 + 1) := (by simp : _ = _)
  have hx1 := blk_stay HX.out (Below.one (Below.refl _ (w.alloc (.cells #[.string fn, .slice fpa fps.length fpc, .int .i64 frg, .int .i64 fwd, .slice fca fl.length fcc] 25))) (.cells #[.slice none 0 0, .slice none 0 0, .slice none 0 0, .slice none 0 0] 58))
  have HX1 := Hid.mk' hx1
  have z4 := cell_of_obj hx1 (j := 4) (v := .slice fca fl.length fcc) rfl
  clear HX hx1
  refine callsIn_of_wp_marks Tryd.func20 rfl trivial ?_ rfl
  simp only [Tryd.ntmps20, List.size_toArray, List.length_cons, List.length_nil, Nat.reduceAdd, Nat.reduceSub, Array.replicate_succ, Array.replicate_zero, List.push_toArray, List.append_toArray, List.nil_append, List.cons_append]
  have hmk : ∀ W, _ := fun W => run_mkR W fl.length (by omega)
  have hmkB : ∀ W, _ := fun W => run_mkB W fl.length (by omega)
  gi_wp2_with fail
  generalize (w.alloc (.cells #[.string fn, .slice fpa fps.length fpc, .int .i64 frg, .int .i64 fwd, .slice fca fl.length fcc] 25)).alloc (.cells #[.slice none 0 0, .slice none 0 0, .slice none 0 0, .slice none 0 0] 58) = w1 at *
  refine wpIn_mono (Q := fun e a' W' => e = Exit.normal ∧ ∃ (F : Nat → Nat) (FB x : Nat), a' = { tmps := #[.agg #[.string fn, .slice fpa fps.length fpc, .int .i64 frg, .int .i64 fwd, .slice fca fl.length fcc], .pointer (some ⟨w.heap.size, 0, none⟩), .pointer (some ⟨w.heap.size + 1, 0, none⟩), .int .i64 (fl.length : Int), .pointer (some ⟨x, 0, none⟩), undef, undef, undef, .pointer (some ⟨w.heap.size, 4, none⟩), .slice fca fl.length fcc, .int .i64 (fl.length : Int), .int .i64 (fl.length : Int), .slice (some ⟨F 0, 0, none⟩) fl.length fl.length, .int .i64 (fl.length : Int), .slice (some ⟨F 1, 0, none⟩) fl.length fl.length, .int .i64 (fl.length : Int), .slice (some ⟨F 2, 0, none⟩) fl.length fl.length, .int .i64 (fl.length : Int), .slice (some ⟨FB, 0, none⟩) fl.length fl.length, .agg (gV fl.length FB F), undef, undef, undef, undef, undef, undef, undef, undef, undef, undef, undef, undef, undef, undef, undef, undef, undef, undef, undef, undef, undef, undef, undef, undef, undef, undef, undef, undef, undef, undef, undef, undef, undef, undef, undef, undef, undef, undef, undef, undef, undef, undef, undef, undef, undef, undef, undef, undef, undef, undef, undef, undef, undef, undef, undef, undef, undef, undef, undef, undef, undef], defers := [] } ∧ GM fl.length w1 F FB x W') ?reg ?rest
  case reg =>
    refine wpIn_wide.2 ?_
    refine wp_region_any (by kernel_rfl) ?_
    simp only [List.size_toArray, List.length_cons, List.length_nil, Nat.reduceAdd]
    refine wpAny_take (i := 0) (v := .int .i64 (fl.length : Int)) rfl (by kernel_rfl) (by kernel_rfl) (by kernel_rfl) (fun _ _ _ h => by cases h.1) (.inl ⟨rfl, fun w => rfl⟩) ?_
    refine wpAny_take (i := 2) (v := .int .i64 (fl.length : Int)) rfl (by kernel_rfl) (by kernel_rfl) (by kernel_rfl) (fun _ _ _ h => by cases h.1) (.inl ⟨rfl, fun w => rfl⟩) ?_
    refine wpAny_take (i := 4) (v := .int .i64 (fl.length : Int)) rfl (by kernel_rfl) (by kernel_rfl) (by kernel_rfl) (fun _ _ _ h => by cases h.1) (.inl ⟨rfl, fun w => rfl⟩) ?_
    refine wpAny_take (i := 6) (v := .int .i64 (fl.length : Int)) rfl (by kernel_rfl) (by kernel_rfl) (by kernel_rfl) (fun _ _ _ h => by cases h.1) (.inl ⟨rfl, fun w => rfl⟩) ?_

    refine makers (a0 := { tmps := #[.agg #[.string fn, .slice fpa fps.length fpc, .int .i64 frg, .int .i64 fwd, .slice fca fl.length fcc], .pointer (some ⟨w.heap.size, 0, none⟩), .pointer (some ⟨w.heap.size + 1, 0, none⟩), .int .i64 (fl.length : Int), undef, undef, undef, undef, .pointer (some ⟨w.heap.size, 4, none⟩), .slice fca fl.length fcc, .int .i64 (fl.length : Int), .int .i64 (fl.length : Int), undef, .int .i64 (fl.length : Int), undef, .int .i64 (fl.length : Int), undef, .int .i64 (fl.length : Int), undef, undef, undef, undef, undef, undef, undef, undef, undef, undef, undef, undef, undef, undef, undef, undef, undef, undef, undef, undef, undef, undef, undef, undef, undef, undef, undef, undef, undef, undef, undef, undef, undef, undef, undef, undef, undef, undef, undef, undef, undef, undef, undef, undef, undef, undef, undef, undef, undef, undef, undef, undef, undef, undef, undef, undef, undef, undef, undef, undef, undef, undef, undef], defers := [] }) [1, 3, 5, 7, 9] dstG (valG fl.length) (obG fl.length) _ w1 2 ?hop ?hdi ?hdd exG (by kernel_rfl) (by decide) rfl ?hd 5 [] (fun _ => 0) _ _ (by simp) List.nodup_nil rfl ?st
    case st => exact ⟨rfl, fun _ _ => rfl, (fun _ h => by cases h), fun _ _ _ => rfl, (fun _ h => by cases h), (fun _ h => by cases h), Below.drew (Below.refl _ _)⟩
    case hop =>
      intro i hi
      simp only [List.mem_cons, List.not_mem_nil, or_false] at hi
      rcases hi with rfl | rfl | rfl | rfl | rfl
      · exact ⟨⟨_, rfl, rfl, rfl, fun T w hT => by
          have h := hT 11 (by decide)
          simp at h
          simp [execOp, Act.eval, h, hmk, valG, obG]⟩⟩
      · exact ⟨⟨_, rfl, rfl, rfl, fun T w hT => by
          have h := hT 13 (by decide)
          simp at h
          simp [execOp, Act.eval, h, hmk, valG, obG]⟩⟩
      · exact ⟨⟨_, rfl, rfl, rfl, fun T w hT => by
          have h := hT 15 (by decide)
          simp at h
          simp [execOp, Act.eval, h, hmk, valG, obG]⟩⟩
      · exact ⟨⟨_, rfl, rfl, rfl, fun T w hT => by
          have h := hT 17 (by decide)
          simp at h
          simp [execOp, Act.eval, h, hmkB, valG, obG]⟩⟩
      · exact ⟨⟨_, rfl, rfl, rfl, fun T w _ => by rfl⟩⟩
    case hdi =>
      intro i hi
      simp only [List.mem_cons, List.not_mem_nil, or_false] at hi
      rcases hi with rfl | rfl | rfl | rfl | rfl <;> (show _ < 81; decide)
    case hdd => decide
    case hd =>
      intro D hD hx g T W3 hs
      have hDD : D = [1, 3, 5, 7] ∨ D = [1, 3, 5, 7, 9] := by
        simp only [exG, Bool.or_eq_true, beq_iff_eq] at hx
        exact hx
      have hT := hs.tmps (by rcases hDD with rfl | rfl <;> decide) (by
        intro i hi
        simp only [List.mem_cons, List.not_mem_nil, or_false] at hi
        rcases hi with rfl | rfl | rfl | rfl | rfl <;> (show _ < 81; decide)) (by decide)
      subst hT
      have hwb : ∀ i ∈ D, g i < W3.heap.size := fun i hi => (Array.getElem?_eq_some_iff.1 (hs.blk i hi).2).1
      clear hD hx
      rcases hDD with rfl | rfl
      · simp only [setL, dstG, valG, List.setIfInBounds_toArray, List.set_cons_zero, List.set_cons_succ, List.length_cons, List.length_nil, Nat.reduceAdd, Nat.reduceSub]
        refine wpAny_take (i := 8) (v := .agg #[.slice (some ⟨g 1, 0, none⟩) fl.length fl.length, .slice (some ⟨g 3, 0, none⟩) fl.length fl.length, .slice (some ⟨g 5, 0, none⟩) fl.length fl.length, .slice (some ⟨g 7, 0, none⟩) fl.length fl.length]) rfl (by kernel_rfl) (by kernel_rfl) (by kernel_rfl) (fun _ _ _ h => by cases h.1) (.inl ⟨rfl, fun w => ?y8⟩) ?_
        case y8 => go_simp
        simp only [Act.put, List.setIfInBounds_toArray]
        have HB4 := Hid.mk' (Below.one (Below.refl _ W3) (obG fl.length 9))
        have HN9 := Hid.mk' (heap_alloc_new W3 (obG fl.length 9))
        refine wpAny_all (rs := [9]) (by kernel_rfl) (by simp) ?_
        intro i hi
        obtain rfl : i = 9 := by simpa using hi
        refine wpOp_step rfl fun K' hK => ?_
        clear hi
        go_simp
        refine hK _ _ ?_
        clear hK K'
        change wpAny _ _ _ _ _ _ _ (W3.alloc (obG fl.length 9))
        obtain ⟨g2, hg2⟩ : ∃ g2 : Nat → Nat, g2 = fun j => if j = 9 then W3.heap.size else g j := ⟨_, rfl⟩
        have e1 : g2 1 = g 1 := by rw [hg2]; rfl
        have e3 : g2 3 = g 3 := by rw [hg2]; rfl
        have e5 : g2 5 = g 5 := by rw [hg2]; rfl
        have e7 : g2 7 = g 7 := by rw [hg2]; rfl
        have e9 : g2 9 = W3.heap.size := by rw [hg2]; rfl
        have k1 := hwb 1 (by decide)
        have k3 := hwb 3 (by decide)
        have k5 := hwb 5 (by decide)
        have k7 := hwb 7 (by decide)
        generalize W3.alloc (obG fl.length 9) = W4 at *
        have up : ∀ i ∈ ([1, 3, 5, 7] : List Nat), w1.heap.size ≤ g i ∧ W4.heap[g i]? = some (obG fl.length i) := fun i hi => ⟨(hs.blk i hi).1, (HB4.out.block _ (hwb i hi)).trans (hs.blk i hi).2⟩
        have b9 : w1.heap.size ≤ g2 9 ∧ W4.heap[g2 9]? = some (obG fl.length 9) := by rw [e9]; exact ⟨hs.b.size, HN9.out⟩
        have GMX := GM.of (n := fl.length) (g := g2) (Below.on hs.b HB4.out) (by rw [e1]; exact up 1 (by decide)) (by rw [e3]; exact up 3 (by decide)) (by rw [e5]; exact up 5 (by decide)) (by rw [e7]; exact up 7 (by decide)) b9 (by rw [e1, e3]; exact hs.inj 1 (by decide) 3 (by decide) (by decide)) (by rw [e1, e5]; exact hs.inj 1 (by decide) 5 (by decide) (by decide)) (by rw [e3, e5]; exact hs.inj 3 (by decide) 5 (by decide) (by decide)) (by rw [e7, e1]; exact hs.inj 7 (by decide) 1 (by decide) (by decide)) (by rw [e7, e3]; exact hs.inj 7 (by decide) 3 (by decide) (by decide)) (by rw [e7, e5]; exact hs.inj 7 (by decide) 5 (by decide) (by decide)) (by omega) (by omega) (by omega) (by omega)
        rw [← e1, ← e3, ← e5, ← e7, ← e9]
        simp only [obG] at b9
        clear e1 e3 e5 e7 e9 hg2 up HB4 HN9 k1 k3 k5 k7
        have c0 := cell_of_obj b9.2 (j := 0) (v := .slice none 0 0) rfl
        have c1 := cell_of_obj b9.2 (j := 1) (v := .slice none 0 0) rfl
        have c2 := cell_of_obj b9.2 (j := 2) (v := .slice none 0 0) rfl
        have c3 := cell_of_obj b9.2 (j := 3) (v := .slice none 0 0) rfl
        have f0 := Lib.frozen_of_heap b9.2 0
        have f1 := Lib.frozen_of_heap b9.2 1
        have f2 := Lib.frozen_of_heap b9.2 2
        have f3 := Lib.frozen_of_heap b9.2 3
        refine wpAny_all (rs := [10]) (by kernel_rfl) (by simp) ?_
        intro i hi
        obtain rfl : i = 10 := by simpa using hi
        refine wpOp_step rfl fun K' hK => ?_
        clear hs hi
        go_simp
        refine hK _ _ (wpAny_done (by kernel_rfl) ⟨rfl, _, _, _, rfl, GMX⟩ _)
      · simp only [setL, dstG, valG, List.setIfInBounds_toArray, List.set_cons_zero, List.set_cons_succ, List.length_cons, List.length_nil, Nat.reduceAdd, Nat.reduceSub]
        refine wpAny_take (i := 8) (v := .agg #[.slice (some ⟨g 1, 0, none⟩) fl.length fl.length, .slice (some ⟨g 3, 0, none⟩) fl.length fl.length, .slice (some ⟨g 5, 0, none⟩) fl.length fl.length, .slice (some ⟨g 7, 0, none⟩) fl.length fl.length]) rfl (by kernel_rfl) (by kernel_rfl) (by kernel_rfl) (fun _ _ _ h => by cases h.1) (.inl ⟨rfl, fun w => ?y8⟩) ?_
        case y8 => go_simp
        simp only [Act.put, List.setIfInBounds_toArray]
        have b9 := hs.blk 9 (by decide)
        simp only [obG] at b9
        have GMX := GM.of hs.b (hs.blk 1 (by decide)) (hs.blk 3 (by decide)) (hs.blk 5 (by decide)) (hs.blk 7 (by decide)) (hs.blk 9 (by decide)) (hs.inj 1 (by decide) 3 (by decide) (by decide)) (hs.inj 1 (by decide) 5 (by decide) (by decide)) (hs.inj 3 (by decide) 5 (by decide) (by decide)) (hs.inj 7 (by decide) 1 (by decide) (by decide)) (hs.inj 7 (by decide) 3 (by decide) (by decide)) (hs.inj 7 (by decide) 5 (by decide) (by decide)) (hs.inj 9 (by decide) 1 (by decide) (by decide)) (hs.inj 9 (by decide) 3 (by decide) (by decide)) (hs.inj 9 (by decide) 5 (by decide) (by decide)) (hs.inj 9 (by decide) 7 (by decide) (by decide))
        have c0 := cell_of_obj b9.2 (j := 0) (v := .slice none 0 0) rfl
        have c1 := cell_of_obj b9.2 (j := 1) (v := .slice none 0 0) rfl
        have c2 := cell_of_obj b9.2 (j := 2) (v := .slice none 0 0) rfl
        have c3 := cell_of_obj b9.2 (j := 3) (v := .slice none 0 0) rfl
        have f0 := Lib.frozen_of_heap b9.2 0
        have f1 := Lib.frozen_of_heap b9.2 1
        have f2 := Lib.frozen_of_heap b9.2 2
        have f3 := Lib.frozen_of_heap b9.2 3
        refine wpAny_all (rs := [10]) (by kernel_rfl) (by simp) ?_
        intro i hi
        obtain rfl : i = 10 := by simpa using hi
        refine wpOp_step rfl fun K' hK => ?_
        clear hs hi
        go_simp
        refine hK _ _ (wpAny_done (by kernel_rfl) ⟨rfl, _, _, _, rfl, GMX⟩ _)
  case rest =>
    rintro e a' W1 ⟨rfl, F, FB, x, rfl, hgm⟩
    have HGM := Hid.mk' hgm
    have hb1 := hgm.lw
    have HBW1 := Hid.mk' (HB0.out.trans (hb1.mono HB0.out.size))
    have hx2 := blk_stay HX1.out hb1
    have HX2 := Hid.mk' hx2
    have HR2 := Hid.mk' (blk_stay HR0.out hb1)
    have HS1' : Hid (w.heap.size + 1 + 1 ≤ W1.heap.size) := (by have := HS0'.out; have := hb1.size; omega : _ ≤ _)
    have HGX : Hid (w.heap.size + 1 + 1 ≤ x ∧ w.heap.size + 1 + 1 ≤ FB ∧ ∀ a, a < 3 → w.heap.size + 1 + 1 ≤ F a) := ⟨by have := HS0'.out; have := hgm.hx.1; omega, by have := HS0'.out; have := hgm.b.1; omega, fun a ha => by have := HS0'.out; have := (hgm.f a ha).1; omega⟩
    clear hgm hb1 HB0 HX1 HR0 z4 hmk hmkB
    have z0 := cell_of_obj hx2 (j := 0) (v := .string fn) rfl
    have z1 := cell_of_obj hx2 (j := 1) (v := .slice fpa fps.length fpc) rfl
    have z2 := cell_of_obj hx2 (j := 2) (v := .int .i64 frg) rfl
    have z3 := cell_of_obj hx2 (j := 3) (v := .int .i64 fwd) rfl
    have z4 := cell_of_obj hx2 (j := 4) (v := .slice fca fl.length fcc) rfl
    clear hx2
    gi_wp2_with fail
    refine ⟨trivial, ?_⟩
    refine (callsIn_wide.2 (HTR.out _ HBW1.out)).mono ?_
    rintro e W2 ⟨tg, ts, rfl, hit, hoi, bb2⟩
    have HIT := Hid.mk' hit
    obtain ⟨W3, hW3⟩ : ∃ X, X = W2.alloc (.cells #[.slice (some ⟨tg, 0, none⟩) ts.length ts.length] 38) := ⟨_, rfl⟩
    have hb3 : Below W2.heap.size W2 W3 := by rw [hW3]; exact Below.one (Below.refl _ W2) _
    have hs3 : W3.heap.size = W2.heap.size + 1 := by rw [hW3]; simp
    have hbt : Boxed W3 W2.heap.size 38 (.slice (some ⟨tg, 0, none⟩) ts.length ts.length) := by rw [hW3]; exact Boxed.new W2 38 (.slice (some ⟨tg, 0, none⟩) ts.length ts.length)
    have hb23 : Below W1.heap.size W1 W3 := bb2.trans (hb3.mono bb2.size)
    have hlt : ∀ {k : Nat} {o : Obj}, W1.heap[k]? = some o → k < W1.heap.size := fun e => (Array.getElem?_eq_some_iff.1 e).1
    have hf3 : ∀ a, a < 3 → W3.heap[F a]? = some (.cells (mkR fl.length) 38 (0, 0)) := fun a ha => blk_stay (HGM.out.f a ha).2 hb23
    have HBT := Hid.mk' hbt
    have HBW3 := Hid.mk' (HBW1.out.trans (hb23.mono HBW1.out.size))
    have HX3 := Hid.mk' (blk_stay HX2.out hb23)
    have HR3 := Hid.mk' (blk_stay HR2.out hb23)
    have hoiw := own_mono hoi HBW1.out.size
    have HGP : Hid (∀ N, W3.heap.size ≤ N → GP fl.length x W2.heap.size FB N W3.heap.size F w.heap.size (.slice (some ⟨tg, 0, none⟩) ts.length ts.length)) := fun N hN => by
      have hg := HGX.out
      have k1 := hlt HGM.out.hx.2
      have k2 := hlt HGM.out.b.2
      have k3 := bb2.size
      refine ⟨⟨by omega, by omega⟩, ⟨by omega, by omega⟩, ⟨by omega, by omega⟩, fun a ha => ⟨by have := hg.2.2 a ha; omega, by have := hlt (HGM.out.f a ha).2; omega⟩, hN, HGM.out.xf, fun a ha => by have := hlt (HGM.out.f a ha).2; omega, HGM.out.bf, HGM.out.xb, by omega, HGM.out.ff, fun k e => by have := (hoi.lt k e).2; omega⟩
    have HD3 : Hid (GD w fl.length x W2.heap.size FB W3.heap.size F (.slice (some ⟨tg, 0, none⟩) ts.length ts.length) ts (Lg fl []) (fun _ => List.replicate fl.length (.slice none 0 0)) (fbL fl fl.length []) W3) := by
      refine ⟨G3.start hf3 (Nat.le_refl _) fl, blk_stay HGM.out.hx.2 hb23, hbt, own_stay hoiw hb3, fbL_len _ _ _, ?_, HBW3.out⟩
      rw [fbL_nil]
      exact ob_mkB (by omega) (by have := HGX.out; omega) (blk_stay HGM.out.b.2 hb23)
    have HFS : Hid (∀ G ∈ fsG F, G < W3.heap.size) := fun G hG => by
      obtain ⟨a, ha, rfl⟩ := mem_fsG hG
      exact (Array.getElem?_eq_some_iff.1 (hf3 a ha)).1
    have hx3 := HX3.out
    have z0 := cell_of_obj hx3 (j := 0) (v := .string fn) rfl
    have z1 := cell_of_obj hx3 (j := 1) (v := .slice fpa fps.length fpc) rfl
    have z2 := cell_of_obj hx3 (j := 2) (v := .int .i64 frg) rfl
    have z3 := cell_of_obj hx3 (j := 3) (v := .int .i64 fwd) rfl
    have z4 := cell_of_obj hx3 (j := 4) (v := .slice fca fl.length fcc) rfl
    have HW3 := Hid.mk' hW3
    have HSS3 := Hid.mk' hs3
    have HSS2 : Hid (w.heap.size ≤ W2.heap.size) := (by have := HBW1.out.size; have := bb2.size; omega : _ ≤ _)
    clear hit hoi bb2 hb3 hs3 hbt hb23 hlt hf3 hx3 hW3 HX2 HR2 HBW1 hoiw HTR
    rw [HW3.out] at z0 z1 z2 z3 z4
    gi_wp2_with fail
    refine ⟨trivial, ?_⟩
    rw [← HW3.out] at z0 z1 z2 z3 z4 ⊢
    refine (callsIn_wide.2 (HED.out (fsG F) _ HBW3.out HFS.out HD3.out.dok)).mono ?_
    rintro e W4 ⟨B1, B2, rs, rfl, hir, hseq, bb4⟩
    have HSQ := Hid.mk' hseq
    have HIR := Hid.mk' hir
    have HS4 : Hid (W3.heap.size ≤ W4.heap.size) := bb4.size
    have HR4 := Hid.mk' (blk_stay HR3.out bb4)
    have HP4 := Hid.mk' (HGP.out W4.heap.size bb4.size)
    have HD4 : Hid (GD w fl.length x W2.heap.size FB W4.heap.size F (.slice (some ⟨tg, 0, none⟩) ts.length ts.length) ts (Lg fl []) (fun _ => List.replicate fl.length (.slice none 0 0)) (fbL fl fl.length []) W4) := by
      have h := HD3.out.stay bb4
      exact ⟨⟨h.g.f, h.g.len, fun a j ha hj => by
        have hr : (List.replicate fl.length (Value.slice none 0 0)).getD j undef = .slice none 0 0 := by rw [List.getD_eq_getElem?_getD, List.getElem?_replicate, if_pos hj]; rfl
        have hl : Lg fl [] a j = [] := by unfold Lg; simp [intL, outL, bacE, ahdE]
        show On _ _ ((List.replicate fl.length (Value.slice none 0 0)).getD j undef) W4
        rw [hr, hl]; exact on_nil _ _, h.g.ap, Nat.le_refl _⟩, h.bx, h.bt, h.ot, h.fl, h.fr, h.b⟩
    have HME : Hid (∀ pre y, pre ++ [y] <+: edg fl rs → y.1 < fl.length ∧ y.2 < fl.length ∧ Rch fl y.1 ∧ ts ≠ []) := by
      intro pre y hp
      have hm : (y.1, y.2) ∈ edg fl rs := hp.subset (by simp)
      obtain ⟨k1, k2, k3, k4, k5, k6⟩ := mem_edg' HIR.out hm
      refine ⟨k3, k4, k1, fun e => ?_⟩
      rcases HIT.out with ⟨h, _⟩ | ⟨_, _, h, _⟩
      · omega
      · rw [e] at h; simp at h; omega
    have HLN : Hid ((edg fl rs).length ≤ 2900) := by
      have := edU_len fl rs rs.length
      have := HIR.out.le
      show _ ≤ _
      unfold edg
      omega
    have HTL : Hid (ts.length ≤ 1024) := by
      rcases HIT.out with ⟨_, e⟩ | ⟨_, _, h, _⟩
      · rw [e]; exact Nat.zero_le _
      · exact (by omega : ts.length ≤ 1024)
    clear z0 z1 z2 z3 z4 hir hseq bb4 HED HD3 HBW3 HX3 HR3 HGP HFS
    gi_wp2_with fail
    refine range_o (m := 4) (gf := 53) (lb := #[.pointer (some ⟨B1, 0, none⟩), .pointer (some ⟨B2, 0, none⟩)]) rfl (enters_of Tryd.func53 (by kernel_rfl) rfl) HSQ.out (Below.refl _ _) (fun _ => rfl) (fun h k => KpG.trans h k) (fun W o' _ => KpG.put (by omega) (by omega) (fun G hG => by
        obtain ⟨a, ha, rfl⟩ := mem_fsG hG
        have := (HP4.out.f a ha).2
        have := HP4.out.an
        omega) W o')
      (fun pre W => (∃ vs, GD w fl.length x W2.heap.size FB W4.heap.size F (.slice (some ⟨tg, 0, none⟩) ts.length ts.length) ts (Lg fl pre) vs (fbL fl fl.length pre) W) ∧ W.heap[w.heap.size + 1]? = some (.cells #[.slice none 0 0, .slice none 0 0, .slice none 0 0, .slice none 0 0] 58 (0, 0))) BkX ((GD.own w (Lg fl) (fbL fl fl.length) (by have := HP4.out.an; have := HP4.out.px; omega)).and (ownFrom_lies (by have := HP4.out.an; have := HP4.out.px; have := HGX.out; omega))) (fun c => BkX.own _ c) ⟨⟨_, HD4.out⟩, HR4.out⟩ (fun y a' _ => a' = { tmps := #[.agg #[.string fn, .slice fpa fps.length fpc, .int .i64 frg, .int .i64 fwd, .slice fca fl.length fcc], .pointer (some ⟨w.heap.size, 0, none⟩), .pointer (some ⟨w.heap.size + 1, 0, none⟩), .int .i64 (fl.length : Int), .pointer (some ⟨x, 0, none⟩), .pointer (some ⟨W2.heap.size, 0, none⟩), .int .i64 (y.1 : Int), .int .i64 (y.2 : Int), .pointer (some ⟨w.heap.size, 4, none⟩), .slice fca fl.length fcc, .int .i64 (fl.length : Int), .int .i64 (fl.length : Int), .slice (some ⟨F 0, 0, none⟩) fl.length fl.length, .int .i64 (fl.length : Int), .slice (some ⟨F 1, 0, none⟩) fl.length fl.length, .int .i64 (fl.length : Int), .slice (some ⟨F 2, 0, none⟩) fl.length fl.length, .int .i64 (fl.length : Int), .slice (some ⟨FB, 0, none⟩) fl.length fl.length, .agg (gV fl.length FB F), .agg #[.string fn, .slice fpa fps.length fpc, .int .i64 frg, .int .i64 fwd, .slice fca fl.length fcc], .slice (some ⟨tg, 0, none⟩) ts.length ts.length, .agg #[.string fn, .slice fpa fps.length fpc, .int .i64 frg, .int .i64 fwd, .slice fca fl.length fcc], .func (.func 53) #[] #[.pointer (some ⟨B1, 0, none⟩), .pointer (some ⟨B2, 0, none⟩)], .int .i64 (y.1 : Int), .int .i64 (y.2 : Int), undef, undef, undef, undef, undef, undef, undef, undef, undef, undef, undef, undef, undef, undef, undef, undef, undef, undef, undef, undef, undef, undef, undef, undef, undef, undef, undef, undef, undef, undef, undef, undef, undef, undef, undef, undef, undef, undef, undef, undef, undef, undef, undef, undef, undef, undef, undef, undef, undef, undef, undef, undef, undef, undef, undef], defers := [] }) (fun y a' _ _ _ _ h _ _ => h) ?assign ?body ?done ?stop
    case assign =>
      intro l pre y W hi _
      gi_wp2
      exact ⟨keepsFrom_refl' _ _, KpG.refl _ _ _ _ _, hi, trivial⟩
    case stop =>
      rintro c pre W _ h _
      exact h.elim
    case done =>
      rintro W5 ⟨⟨vs, hd5⟩, hr5⟩ hK5
      have hl := hd5.bx
      have hfz := Lib.frozen_of_heap hr5
      have c0 := cell_of_obj hd5.bx (j := 0) (v := .slice (some ⟨F 0, 0, none⟩) fl.length fl.length) rfl
      have c1 := cell_of_obj hd5.bx (j := 1) (v := .slice (some ⟨F 1, 0, none⟩) fl.length fl.length) rfl
      have c2 := cell_of_obj hd5.bx (j := 2) (v := .slice (some ⟨F 2, 0, none⟩) fl.length fl.length) rfl
      have c3 := cell_of_obj hd5.bx (j := 3) (v := .slice (some ⟨FB, 0, none⟩) fl.length fl.length) rfl
      have r0 := cell_of_obj hr5 (j := 0) (v := .slice none 0 0) rfl
      have r1 := cell_of_obj hr5 (j := 1) (v := .slice none 0 0) rfl
      have r2 := cell_of_obj hr5 (j := 2) (v := .slice none 0 0) rfl
      have r3 := cell_of_obj hr5 (j := 3) (v := .slice none 0 0) rfl
      have f0 := hfz 0
      have f1 := hfz 1
      have f2 := hfz 2
      have f3 := hfz 3
      have HD5 := Hid.mk' hd5
      have HR5 := Hid.mk' hr5
      have HK5 := Hid.mk' hK5
      clear hl hfz hd5 hr5 hK5
      gi_wp2
      have hrz : W4.heap.size ≠ w.heap.size + 1 := by have := HP4.out.an; have := HP4.out.px; have := HGX.out; omega
      have hk6 := (put4_other (W := W5) hrz (.slice (some ⟨F 0, 0, none⟩) fl.length fl.length) (.slice (some ⟨F 1, 0, none⟩) fl.length fl.length) (.slice (some ⟨F 2, 0, none⟩) fl.length fl.length) (.slice (some ⟨FB, 0, none⟩) fl.length fl.length)).trans HK5.out
      have hr6 := put4 HR5.out (.slice (some ⟨F 0, 0, none⟩) fl.length fl.length) (.slice (some ⟨F 1, 0, none⟩) fl.length fl.length) (.slice (some ⟨F 2, 0, none⟩) fl.length fl.length) (.slice (some ⟨FB, 0, none⟩) fl.length fl.length)
      have ho6 : ∀ k, k ≠ w.heap.size + 1 → _ := fun k hk => put4_other (W := W5) hk (.slice (some ⟨F 0, 0, none⟩) fl.length fl.length) (.slice (some ⟨F 1, 0, none⟩) fl.length fl.length) (.slice (some ⟨F 2, 0, none⟩) fl.length fl.length) (.slice (some ⟨FB, 0, none⟩) fl.length fl.length)
      have hb6 : Below w.heap.size w ((((W5.setCell ⟨w.heap.size + 1, 0, none⟩ (.slice (some ⟨F 0, 0, none⟩) fl.length fl.length)).setCell ⟨w.heap.size + 1, 1, none⟩ (.slice (some ⟨F 1, 0, none⟩) fl.length fl.length)).setCell ⟨w.heap.size + 1, 2, none⟩ (.slice (some ⟨F 2, 0, none⟩) fl.length fl.length)).setCell ⟨w.heap.size + 1, 3, none⟩ (.slice (some ⟨FB, 0, none⟩) fl.length fl.length)) :=
        (((HD5.out.b.setCell (p := ⟨w.heap.size + 1, 0, none⟩) (Nat.le_succ _) _).setCell (p := ⟨w.heap.size + 1, 1, none⟩) (Nat.le_succ _) _).setCell (p := ⟨w.heap.size + 1, 2, none⟩) (Nat.le_succ _) _).setCell (p := ⟨w.heap.size + 1, 3, none⟩) (Nat.le_succ _) _
      have hs6 : W5.heap.size ≤ ((((W5.setCell ⟨w.heap.size + 1, 0, none⟩ (.slice (some ⟨F 0, 0, none⟩) fl.length fl.length)).setCell ⟨w.heap.size + 1, 1, none⟩ (.slice (some ⟨F 1, 0, none⟩) fl.length fl.length)).setCell ⟨w.heap.size + 1, 2, none⟩ (.slice (some ⟨F 2, 0, none⟩) fl.length fl.length)).setCell ⟨w.heap.size + 1, 3, none⟩ (.slice (some ⟨FB, 0, none⟩) fl.length fl.length)).heap.size := by simp
      clear c0 c1 c2 c3 r0 r1 r2 r3 f0 f1 f2 f3
      generalize (((W5.setCell ⟨w.heap.size + 1, 0, none⟩ (.slice (some ⟨F 0, 0, none⟩) fl.length fl.length)).setCell ⟨w.heap.size + 1, 1, none⟩ (.slice (some ⟨F 1, 0, none⟩) fl.length fl.length)).setCell ⟨w.heap.size + 1, 2, none⟩ (.slice (some ⟨F 2, 0, none⟩) fl.length fl.length)).setCell ⟨w.heap.size + 1, 3, none⟩ (.slice (some ⟨FB, 0, none⟩) fl.length fl.length) = W6 at *
      refine ⟨by simp, .inl ⟨_, _, rfl, run_takeDeferred hk6, ?_⟩⟩
      have hr7 : (W6.putObj W4.heap.size (.deferred none)).heap[w.heap.size + 1]? = _ := (World.putObj_heap_other (Ne.symm hrz)).trans hr6
      have v0 := cell_of_obj hr7 (j := 0) (v := .slice (some ⟨F 0, 0, none⟩) fl.length fl.length) rfl
      have v1 := cell_of_obj hr7 (j := 1) (v := .slice (some ⟨F 1, 0, none⟩) fl.length fl.length) rfl
      have v2 := cell_of_obj hr7 (j := 2) (v := .slice (some ⟨F 2, 0, none⟩) fl.length fl.length) rfl
      have v3 := cell_of_obj hr7 (j := 3) (v := .slice (some ⟨FB, 0, none⟩) fl.length fl.length) rfl
      have hkeep : ∀ (T : TypeId), T ≠ 58 → ∀ (k : Nat) (cs : Array Value) (fz : Nat × Nat), W5.heap[k]? = some (.cells cs T fz) → (W6.putObj W4.heap.size (.deferred none)).heap[k]? = some (.cells cs T fz) := fun T hT k cs fz hk => by
        have n1 : k ≠ w.heap.size + 1 := by
          rintro rfl
          rw [HR5.out] at hk
          injection hk with hk
          injection hk with _ hk
          exact hT hk.symm
        have n2 : k ≠ W4.heap.size := by
          rintro rfl
          rw [HK5.out] at hk; cases hk
        exact (World.putObj_heap_other n2).trans ((ho6 k n1).trans hk)
      have hP := HP4.out
      have hwN : w.heap.size ≤ W4.heap.size := by have := hP.an; have := hP.px; omega
      refine ⟨.agg (gV fl.length FB F), by simp [results, Tryd.results20, go_sem, v0, v1, v2, v3, gV], F, FB, rs, vs, rfl, HIR.out, ⟨fun a ha => hkeep _ (by decide) _ _ _ (HD5.out.g.f a ha), HD5.out.g.len, fun a j ha hj => own_mono (own_keepT (HD5.out.g.rows a j ha hj) (hkeep _ (by decide))) hwN, HD5.out.g.ap, ?_⟩, own_keepT HD5.out.fr (hkeep _ (by decide)), fun a ha => (hP.f a ha).1, hP.fb.1, ?_⟩
      · simp only [World.putObj, Array.size_setIfInBounds]
        have := HD5.out.b.size
        omega
      · exact hb6.trans (belowK_b (w := w) (Nat.le_refl _) _ _ _ _ (by omega) hk6 rfl rfl)
    case body =>
      obtain ⟨W3q, hW3q⟩ : ∃ X, X = W3 := ⟨_, rfl⟩
      subst hW3q
      rintro l pre y a' W ⟨⟨vs, hd⟩, hr⟩ rfl hpx
      obtain ⟨hy1, hy2, hru, htn⟩ := HME.out pre y hpx
      obtain ⟨u, v⟩ := y
      simp only at hy1 hy2 hru ⊢
      have hpl : pre.length + 1 ≤ 3000 := by
        have h2 := hpx.length_le
        have := HLN.out
        rw [List.length_append] at h2
        simp only [List.length_cons, List.length_nil] at h2
        omega
      obtain ⟨q, ⟨aq, cq, rfl⟩, hs0, hoa, hs1, hnx⟩ := hd.pack HP4.out (a := 0) (v := v) (i := W4.heap.size + 1 + 1) (by decide) hy2 (by omega) (lg_len fl (by omega) 0 v) u (Lm fl pre (u, v)) (lm_one fl pre u v) (fun b j _ h => lm_other fl pre u v b j h) 38
      have HS0 := Hid.mk' hs0
      have HOA := Hid.mk' hoa
      have HS1 := Hid.mk' hs1
      have HNX := Hid.mk' hnx
      have HRR := Hid.mk' hr
      have HRU := Hid.mk' hru
      have HTN := Hid.mk' htn
      have HPL := Hid.mk' hpl
      have HY1 := Hid.mk' hy1
      have HY2 := Hid.mk' hy2
      have hui : (u : Int) < (fl.length : Int) := by omega
      have hvi : (v : Int) < (fl.length : Int) := by omega
      clear hs0 hoa hs1 hnx hr hru htn hpl hd hpx hy1 hy2
      gi_wp2_with fail
      refine region_inK (fun w' => w'.cell? ⟨x, 0, none⟩ = some (.slice (some ⟨F 0, 0, none⟩) fl.length fl.length) ∧ w'.cell? ⟨F 0, v, none⟩ = some (.slice aq (Lg fl pre 0 v).length cq)) 12 (by kernel_rfl) ?hq7 (simple_list ?hs7) ?_
      case hq7 =>
        rintro ⟨a, w', h⟩
        exact h.2.2
      case hs7 =>
        intro o ho
        simp only [List.mem_cons, List.not_mem_nil, or_false] at ho
        rcases ho with rfl | rfl | rfl | rfl | rfl | rfl | rfl | rfl | rfl | rfl | rfl | rfl | rfl
        all_goals first
          | exact simple_load _ _ rfl
          | exact simple_move _ rfl
          | exact simple_index _ _ _ rfl
          | exact simple_field _ _ _ rfl
          | exact simple_build _ _ _ rfl
          | exact simple_append _ _ _ _ rfl
          | exact simple_store _ _ _ rfl
      simp only [List.size_toArray, List.length_cons, List.length_nil, Nat.reduceAdd]
      refine wpAnyK_takeL (i := 0) (v := ?tv7x0) rfl (by kernel_rfl) (by kernel_rfl) (by kernel_rfl) (by kernel_rfl) (fun _ _ _ h => h) (by rfl) ?ty7x0 HS0.out ?tr7x0
      case ty7x0 => (intro w' hSw; obtain ⟨hs1, hs2⟩ := hSw; go_simp; try with_reducible rfl)
      simp only [Act.put, List.setIfInBounds_toArray, List.set_cons_zero, List.set_cons_succ]
      refine wpAnyK_takeL (i := 1) (v := ?tv7x1) rfl (by kernel_rfl) (by kernel_rfl) (by kernel_rfl) (by kernel_rfl) (fun _ _ _ h => h) (by rfl) ?ty7x1 HS0.out ?tr7x1
      case ty7x1 => (intro w' hSw; obtain ⟨hs1, hs2⟩ := hSw; go_simp; try with_reducible rfl)
      simp only [Act.put, List.setIfInBounds_toArray, List.set_cons_zero, List.set_cons_succ]
      refine wpAnyK_takeL (i := 2) (v := ?tv7x2) rfl (by kernel_rfl) (by kernel_rfl) (by kernel_rfl) (by kernel_rfl) (fun _ _ _ h => h) (by rfl) ?ty7x2 HS0.out ?tr7x2
      case ty7x2 => (intro w' hSw; obtain ⟨hs1, hs2⟩ := hSw; go_simp; try with_reducible rfl)
      simp only [Act.put, List.setIfInBounds_toArray, List.set_cons_zero, List.set_cons_succ]
      refine wpAnyK_takeL (i := 3) (v := ?tv7x3) rfl (by kernel_rfl) (by kernel_rfl) (by kernel_rfl) (by kernel_rfl) (fun _ _ _ h => h) (by rfl) ?ty7x3 HS0.out ?tr7x3
      case ty7x3 => (intro w' hSw; obtain ⟨hs1, hs2⟩ := hSw; go_simp; try with_reducible rfl)
      simp only [Act.put, List.setIfInBounds_toArray, List.set_cons_zero, List.set_cons_succ]
      refine wpAnyK_takeL (i := 4) (v := ?tv7x4) rfl (by kernel_rfl) (by kernel_rfl) (by kernel_rfl) (by kernel_rfl) (fun _ _ _ h => h) (by rfl) ?ty7x4 HS0.out ?tr7x4
      case ty7x4 => (intro w' hSw; obtain ⟨hs1, hs2⟩ := hSw; go_simp; try with_reducible rfl)
      simp only [Act.put, List.setIfInBounds_toArray, List.set_cons_zero, List.set_cons_succ]
      refine wpAnyK_takeL (i := 5) (v := ?tv7x5) rfl (by kernel_rfl) (by kernel_rfl) (by kernel_rfl) (by kernel_rfl) (fun _ _ _ h => h) (by rfl) ?ty7x5 HS0.out ?tr7x5
      case ty7x5 => (intro w' hSw; obtain ⟨hs1, hs2⟩ := hSw; go_simp; try with_reducible rfl)
      simp only [Act.put, List.setIfInBounds_toArray, List.set_cons_zero, List.set_cons_succ]
      refine wpAnyK_takeL (i := 6) (v := ?tv7x6) rfl (by kernel_rfl) (by kernel_rfl) (by kernel_rfl) (by kernel_rfl) (fun _ _ _ h => h) (by rfl) ?ty7x6 HS0.out ?tr7x6
      case ty7x6 => (intro w' hSw; obtain ⟨hs1, hs2⟩ := hSw; go_simp; try with_reducible rfl)
      simp only [Act.put, List.setIfInBounds_toArray, List.set_cons_zero, List.set_cons_succ]
      refine wpAnyK_takeL (i := 7) (v := ?tv7x7) rfl (by kernel_rfl) (by kernel_rfl) (by kernel_rfl) (by kernel_rfl) (fun _ _ _ h => h) (by rfl) ?ty7x7 HS0.out ?tr7x7
      case ty7x7 => (intro w' hSw; obtain ⟨hs1, hs2⟩ := hSw; go_simp; try with_reducible rfl)
      simp only [Act.put, List.setIfInBounds_toArray, List.set_cons_zero, List.set_cons_succ]
      refine wpAnyK_takeL (i := 8) (v := ?tv7x8) rfl (by kernel_rfl) (by kernel_rfl) (by kernel_rfl) (by kernel_rfl) (fun _ _ _ h => h) (by rfl) ?ty7x8 HS0.out ?tr7x8
      case ty7x8 => (intro w' hSw; obtain ⟨hs1, hs2⟩ := hSw; go_simp; try with_reducible rfl)
      simp only [Act.put, List.setIfInBounds_toArray, List.set_cons_zero, List.set_cons_succ]
      refine wpAnyK_one (i := 9) (by kernel_rfl) rfl (fun K hK => ?_)
      go_simp
      refine hK.out _ _ (fun _ => (HS1.out _ (World.grownBy_alloc _ _ _)).1) ?_
      clear hK K
      refine wpAnyK_one (i := 10) (by kernel_rfl) rfl (fun K hK => ?_)
      refine step_app rfl _ _ 38 38 _ _ rfl rfl rfl HOA.out ?_
      rintro v3 W3 ⟨on3, gr3, ow3⟩
      obtain ⟨a3, c3, rfl⟩ := gown_form on3
      obtain ⟨⟨s1, s2⟩, s3⟩ := HS1.out W3 gr3
      refine hK.out _ _ (fun _ => ⟨s1, s2⟩) ?_
      clear hK K
      refine wpAnyK_one (i := 11) (by kernel_rfl) rfl (fun K hK => ?_)
      go_simp
      refine hK.out _ _ (fun _ => ⟨s1, s2⟩) ?_
      clear hK K
      refine wpAnyK_one (i := 12) (by kernel_rfl) rfl (fun K hK => ?_)
      go_simp
      refine hK.out _ _ (fun h => absurd rfl h) ?_
      clear hK K
      refine wpAnyK_done (by kernel_rfl) ?_ _
      have hfin := HNX.out W3 _ on3 gr3 ow3
      rw [show (Lg fl pre 0 v ++ [u]).length = (Lg fl pre 0 v).length + 1 by simp] at hfin
      clear HS0 HOA HS1 HNX on3 gr3 ow3 s1 s2 s3
      generalize W3.setCell ⟨F 0, v, none⟩ (.slice a3 ((Lg fl pre 0 v).length + 1) c3) = W5 at *
      obtain ⟨⟨vs1, hd1⟩, hkp1, hko1, hkb1⟩ := hfin
      have HD1 := Hid.mk' hd1
      have HK1 := Hid.mk' (And.intro hkp1 hko1)
      have HRB1 := Hid.mk' (hkb1 (w.heap.size + 1) _ (by have := HP4.out.px; have := HP4.out.an; have := HGX.out; omega) (by have := HGX.out.2.2 0 (by decide); omega) HRR.out)
      have e5 := hd1.bt.cell
      have HDM := Hid.mk' (ldom_any fl ts (some ⟨tg, 0, none⟩) ts.length u v W5 HIT.out HTN.out HRU.out (own_lst hd1.ot))
      clear hd1 hkp1 hko1 hkb1 HRR
      gi_wp2_with fail
      refine ⟨trivial, ?_⟩
      refine (callsIn_wide.2 HDM.out).mono ?_
      rintro e W6 ⟨rfl, bb6⟩
      have HD6 := Hid.mk' (HD1.out.stay bb6)
      have HK6 : Hid (KpG W3q.heap.size W4.heap.size (fsG F) (W4.heap.size + 1 + 1) W W6 ∧ KeepsOthers W W6) := ⟨HK1.out.1.trans (KpG.below (fun G hG => by
        obtain ⟨a, ha, rfl⟩ := mem_fsG hG
        exact (Array.getElem?_eq_some_iff.1 (HD1.out.g.f a ha)).1) bb6), HK1.out.2.trans (KeepsOthers.of_grownBy (below_grown bb6) (fun j o e => by cases e))⟩
      have HRB6 := Hid.mk' (blk_stay HRB1.out bb6)
      clear bb6 HD1 HK1 HRB1 HDM e5
      have HI6 : Hid (W4.heap.size ≤ W4.heap.size + 1 + 1) := (by omega : _ ≤ _)
      cases hdd : pD (Dm fl v u)
      · have HDD := Hid.mk' hdd
        obtain ⟨q, ⟨aq, cq, rfl⟩, hs0, hoa, hs1, hnx⟩ := HD6.out.pack HP4.out (a := 2) (v := u) (i := W4.heap.size + 1 + 1) (by decide) HY1.out HI6.out (lm_len fl (u, v) HPL.out 2 u) v (Lg fl (pre ++ [(u, v)])) (la_one fl pre u v hdd) (fun b j hb h => la_other fl pre u v b j hb hdd h) 38
        have HS0 := Hid.mk' hs0
        have HOA := Hid.mk' hoa
        have HS1 := Hid.mk' hs1
        have HNX := Hid.mk' hnx
        clear hs0 hoa hs1 hnx hdd
        gi_wp2_with fail
        refine region_inK (fun w' => w'.cell? ⟨x, 2, none⟩ = some (.slice (some ⟨F 2, 0, none⟩) fl.length fl.length) ∧ w'.cell? ⟨F 2, u, none⟩ = some (.slice aq (Lm fl pre (u, v) 2 u).length cq)) 12 (by kernel_rfl) ?hq10 (simple_list ?hs10) ?_
        case hq10 =>
          rintro ⟨a, w', h⟩
          exact h.2.2
        case hs10 =>
          intro o ho
          simp only [List.mem_cons, List.not_mem_nil, or_false] at ho
          rcases ho with rfl | rfl | rfl | rfl | rfl | rfl | rfl | rfl | rfl | rfl | rfl | rfl | rfl
          all_goals first
            | exact simple_load _ _ rfl
            | exact simple_move _ rfl
            | exact simple_index _ _ _ rfl
            | exact simple_field _ _ _ rfl
            | exact simple_build _ _ _ rfl
            | exact simple_append _ _ _ _ rfl
            | exact simple_store _ _ _ rfl
        simp only [List.size_toArray, List.length_cons, List.length_nil, Nat.reduceAdd]
        refine wpAnyK_takeL (i := 0) (v := ?tv10x0) rfl (by kernel_rfl) (by kernel_rfl) (by kernel_rfl) (by kernel_rfl) (fun _ _ _ h => h) (by rfl) ?ty10x0 HS0.out ?tr10x0
        case ty10x0 => (intro w' hSw; obtain ⟨hs1, hs2⟩ := hSw; go_simp; try with_reducible rfl)
        simp only [Act.put, List.setIfInBounds_toArray, List.set_cons_zero, List.set_cons_succ]
        refine wpAnyK_takeL (i := 1) (v := ?tv10x1) rfl (by kernel_rfl) (by kernel_rfl) (by kernel_rfl) (by kernel_rfl) (fun _ _ _ h => h) (by rfl) ?ty10x1 HS0.out ?tr10x1
        case ty10x1 => (intro w' hSw; obtain ⟨hs1, hs2⟩ := hSw; go_simp; try with_reducible rfl)
        simp only [Act.put, List.setIfInBounds_toArray, List.set_cons_zero, List.set_cons_succ]
        refine wpAnyK_takeL (i := 2) (v := ?tv10x2) rfl (by kernel_rfl) (by kernel_rfl) (by kernel_rfl) (by kernel_rfl) (fun _ _ _ h => h) (by rfl) ?ty10x2 HS0.out ?tr10x2
        case ty10x2 => (intro w' hSw; obtain ⟨hs1, hs2⟩ := hSw; go_simp; try with_reducible rfl)
        simp only [Act.put, List.setIfInBounds_toArray, List.set_cons_zero, List.set_cons_succ]
        refine wpAnyK_takeL (i := 3) (v := ?tv10x3) rfl (by kernel_rfl) (by kernel_rfl) (by kernel_rfl) (by kernel_rfl) (fun _ _ _ h => h) (by rfl) ?ty10x3 HS0.out ?tr10x3
        case ty10x3 => (intro w' hSw; obtain ⟨hs1, hs2⟩ := hSw; go_simp; try with_reducible rfl)
        simp only [Act.put, List.setIfInBounds_toArray, List.set_cons_zero, List.set_cons_succ]
        refine wpAnyK_takeL (i := 4) (v := ?tv10x4) rfl (by kernel_rfl) (by kernel_rfl) (by kernel_rfl) (by kernel_rfl) (fun _ _ _ h => h) (by rfl) ?ty10x4 HS0.out ?tr10x4
        case ty10x4 => (intro w' hSw; obtain ⟨hs1, hs2⟩ := hSw; go_simp; try with_reducible rfl)
        simp only [Act.put, List.setIfInBounds_toArray, List.set_cons_zero, List.set_cons_succ]
        refine wpAnyK_takeL (i := 5) (v := ?tv10x5) rfl (by kernel_rfl) (by kernel_rfl) (by kernel_rfl) (by kernel_rfl) (fun _ _ _ h => h) (by rfl) ?ty10x5 HS0.out ?tr10x5
        case ty10x5 => (intro w' hSw; obtain ⟨hs1, hs2⟩ := hSw; go_simp; try with_reducible rfl)
        simp only [Act.put, List.setIfInBounds_toArray, List.set_cons_zero, List.set_cons_succ]
        refine wpAnyK_takeL (i := 6) (v := ?tv10x6) rfl (by kernel_rfl) (by kernel_rfl) (by kernel_rfl) (by kernel_rfl) (fun _ _ _ h => h) (by rfl) ?ty10x6 HS0.out ?tr10x6
        case ty10x6 => (intro w' hSw; obtain ⟨hs1, hs2⟩ := hSw; go_simp; try with_reducible rfl)
        simp only [Act.put, List.setIfInBounds_toArray, List.set_cons_zero, List.set_cons_succ]
        refine wpAnyK_takeL (i := 7) (v := ?tv10x7) rfl (by kernel_rfl) (by kernel_rfl) (by kernel_rfl) (by kernel_rfl) (fun _ _ _ h => h) (by rfl) ?ty10x7 HS0.out ?tr10x7
        case ty10x7 => (intro w' hSw; obtain ⟨hs1, hs2⟩ := hSw; go_simp; try with_reducible rfl)
        simp only [Act.put, List.setIfInBounds_toArray, List.set_cons_zero, List.set_cons_succ]
        refine wpAnyK_takeL (i := 8) (v := ?tv10x8) rfl (by kernel_rfl) (by kernel_rfl) (by kernel_rfl) (by kernel_rfl) (fun _ _ _ h => h) (by rfl) ?ty10x8 HS0.out ?tr10x8
        case ty10x8 => (intro w' hSw; obtain ⟨hs1, hs2⟩ := hSw; go_simp; try with_reducible rfl)
        simp only [Act.put, List.setIfInBounds_toArray, List.set_cons_zero, List.set_cons_succ]
        refine wpAnyK_one (i := 9) (by kernel_rfl) rfl (fun K hK => ?_)
        go_simp
        refine hK.out _ _ (fun _ => (HS1.out _ (World.grownBy_alloc _ _ _)).1) ?_
        clear hK K
        refine wpAnyK_one (i := 10) (by kernel_rfl) rfl (fun K hK => ?_)
        refine step_app rfl _ _ 38 38 _ _ rfl rfl rfl HOA.out ?_
        rintro v3 W3 ⟨on3, gr3, ow3⟩
        obtain ⟨a3, c3, rfl⟩ := gown_form on3
        obtain ⟨⟨s1, s2⟩, s3⟩ := HS1.out W3 gr3
        refine hK.out _ _ (fun _ => ⟨s1, s2⟩) ?_
        clear hK K
        refine wpAnyK_one (i := 11) (by kernel_rfl) rfl (fun K hK => ?_)
        go_simp
        refine hK.out _ _ (fun _ => ⟨s1, s2⟩) ?_
        clear hK K
        refine wpAnyK_one (i := 12) (by kernel_rfl) rfl (fun K hK => ?_)
        go_simp
        refine hK.out _ _ (fun h => absurd rfl h) ?_
        clear hK K
        refine wpAnyK_done (by kernel_rfl) ?_ _
        have hfin := HNX.out W3 _ on3 gr3 ow3
        rw [show (Lm fl pre (u, v) 2 u ++ [v]).length = (Lm fl pre (u, v) 2 u).length + 1 by simp] at hfin
        clear HS0 HOA HS1 HNX on3 gr3 ow3 s1 s2 s3
        generalize W3.setCell ⟨F 2, u, none⟩ (.slice a3 ((Lm fl pre (u, v) 2 u).length + 1) c3) = W8 at *
        obtain ⟨⟨vs2, hd2⟩, hkp2, hko2, hkb2⟩ := hfin
        have HK8 : Hid (KpG W3q.heap.size W4.heap.size (fsG F) (W4.heap.size + 1 + 1) W W8 ∧ KeepsOthers W W8) := ⟨HK6.out.1.trans hkp2, HK6.out.2.trans hko2⟩
        have HRB8 := Hid.mk' (hkb2 (w.heap.size + 1) _ (by have := HP4.out.px; have := HP4.out.an; have := HGX.out; omega) (by have := HGX.out.2.2 2 (by decide); omega) HRB6.out)
        have hba := fbL_at fl pre HY2.out
        have HFS := Hid.mk' (fun c => fbL_set fl fl.length pre u v HY2.out HDD.out c)
        obtain ⟨hs0, hfz, hbx⟩ := hd2.packB HP4.out (i := W4.heap.size + 1 + 1) hba HI6.out
        have HS0 := Hid.mk' hs0
        have HBX := Hid.mk' hbx
        clear hkp2 hko2 hkb2 hba hs0 hbx hd2
        have hfin2 : ∀ c, c = (abvB fl pre v || decide (v < u)) → postO W4.heap.size (KpG W3q.heap.size W4.heap.size (fsG F) (W4.heap.size + 1 + 1)) (fun pre W => (∃ vs, GD w fl.length x W2.heap.size FB W4.heap.size F (.slice (some ⟨tg, 0, none⟩) ts.length ts.length) ts (Lg fl pre) vs (fbL fl fl.length pre) W) ∧ W.heap[w.heap.size + 1]? = some (.cells #[.slice none 0 0, .slice none 0 0, .slice none 0 0, .slice none 0 0] 58 (0, 0))) BkX (pre ++ [(u, v)]) W .normal { tmps := #[], defers := [] } (W8.drew.setCell ⟨FB, v, none⟩ (.bool c)) := fun c hc => by
          obtain ⟨k1, k2, k3, k4⟩ := HBX.out c
          rw [HFS.out c hc] at k1
          exact ⟨(HK8.out.2.trans k3).from _, HK8.out.1.trans k2, ⟨_, k1⟩, k4 _ _ (by have := HGX.out; omega) HRB8.out⟩
        have HFN := Hid.mk' hfin2
        clear hfin2
        cases hb : abvB fl pre v
        · rw [hb] at HS0 HFN
          clear hb
          gi_wp2_with fail
          refine region_inK (fun w' => w'.cell? ⟨x, 3, none⟩ = some (.slice (some ⟨FB, 0, none⟩) fl.length fl.length) ∧ w'.cell? ⟨FB, v, none⟩ = some (.bool false)) 14 (by kernel_rfl) ?hq11false (simple_list ?hs11false) ?_
          case hq11false =>
            rintro ⟨a, w', h⟩
            exact h.2.2
          case hs11false =>
            intro o ho
            simp only [List.mem_cons, List.not_mem_nil, or_false] at ho
            rcases ho with rfl | rfl | rfl | rfl | rfl | rfl | rfl | rfl | rfl | rfl | rfl | rfl | rfl | rfl | rfl
            all_goals first
              | exact simple_load _ _ rfl
              | exact simple_move _ rfl
              | exact simple_index _ _ _ rfl
              | exact simple_field _ _ _ rfl
              | exact simple_bin _ _ _ _ _ rfl
              | exact simple_pick _ _ _ rfl
              | exact simple_store _ _ _ rfl
          simp only [List.size_toArray, List.length_cons, List.length_nil, Nat.reduceAdd]
          refine wpAnyK_takeL (i := 0) (v := ?tv11falsex0) rfl (by kernel_rfl) (by kernel_rfl) (by kernel_rfl) (by kernel_rfl) (fun _ _ _ h => h) (by rfl) ?ty11falsex0 HS0.out ?tr11falsex0
          case ty11falsex0 => (intro w' hSw; obtain ⟨hs1, hs2⟩ := hSw; go_simp; try with_reducible rfl)
          simp only [Act.put, List.setIfInBounds_toArray, List.set_cons_zero, List.set_cons_succ]
          refine wpAnyK_takeL (i := 1) (v := ?tv11falsex1) rfl (by kernel_rfl) (by kernel_rfl) (by kernel_rfl) (by kernel_rfl) (fun _ _ _ h => h) (by rfl) ?ty11falsex1 HS0.out ?tr11falsex1
          case ty11falsex1 => (intro w' hSw; obtain ⟨hs1, hs2⟩ := hSw; go_simp; try with_reducible rfl)
          simp only [Act.put, List.setIfInBounds_toArray, List.set_cons_zero, List.set_cons_succ]
          refine wpAnyK_takeL (i := 2) (v := ?tv11falsex2) rfl (by kernel_rfl) (by kernel_rfl) (by kernel_rfl) (by kernel_rfl) (fun _ _ _ h => h) (by rfl) ?ty11falsex2 HS0.out ?tr11falsex2
          case ty11falsex2 => (intro w' hSw; obtain ⟨hs1, hs2⟩ := hSw; go_simp; try with_reducible rfl)
          simp only [Act.put, List.setIfInBounds_toArray, List.set_cons_zero, List.set_cons_succ]
          refine wpAnyK_takeL (i := 3) (v := ?tv11falsex3) rfl (by kernel_rfl) (by kernel_rfl) (by kernel_rfl) (by kernel_rfl) (fun _ _ _ h => h) (by rfl) ?ty11falsex3 HS0.out ?tr11falsex3
          case ty11falsex3 => (intro w' hSw; obtain ⟨hs1, hs2⟩ := hSw; go_simp; try with_reducible rfl)
          simp only [Act.put, List.setIfInBounds_toArray, List.set_cons_zero, List.set_cons_succ]
          refine wpAnyK_takeL (i := 4) (v := ?tv11falsex4) rfl (by kernel_rfl) (by kernel_rfl) (by kernel_rfl) (by kernel_rfl) (fun _ _ _ h => h) (by rfl) ?ty11falsex4 HS0.out ?tr11falsex4
          case ty11falsex4 => (intro w' hSw; obtain ⟨hs1, hs2⟩ := hSw; go_simp; try with_reducible rfl)
          simp only [Act.put, List.setIfInBounds_toArray, List.set_cons_zero, List.set_cons_succ]
          refine wpAnyK_takeL (i := 5) (v := ?tv11falsex5) rfl (by kernel_rfl) (by kernel_rfl) (by kernel_rfl) (by kernel_rfl) (fun _ _ _ h => h) (by rfl) ?ty11falsex5 HS0.out ?tr11falsex5
          case ty11falsex5 => (intro w' hSw; obtain ⟨hs1, hs2⟩ := hSw; go_simp; try with_reducible rfl)
          simp only [Act.put, List.setIfInBounds_toArray, List.set_cons_zero, List.set_cons_succ]
          refine wpAnyK_takeL (i := 6) (v := ?tv11falsex6) rfl (by kernel_rfl) (by kernel_rfl) (by kernel_rfl) (by kernel_rfl) (fun _ _ _ h => h) (by rfl) ?ty11falsex6 HS0.out ?tr11falsex6
          case ty11falsex6 => (intro w' hSw; obtain ⟨hs1, hs2⟩ := hSw; go_simp; try with_reducible rfl)
          simp only [Act.put, List.setIfInBounds_toArray, List.set_cons_zero, List.set_cons_succ]
          refine wpAnyK_takeL (i := 7) (v := ?tv11falsex7) rfl (by kernel_rfl) (by kernel_rfl) (by kernel_rfl) (by kernel_rfl) (fun _ _ _ h => h) (by rfl) ?ty11falsex7 HS0.out ?tr11falsex7
          case ty11falsex7 => (intro w' hSw; obtain ⟨hs1, hs2⟩ := hSw; go_simp; try with_reducible rfl)
          simp only [Act.put, List.setIfInBounds_toArray, List.set_cons_zero, List.set_cons_succ]
          refine wpAnyK_takeL (i := 8) (v := ?tv11falsex8) rfl (by kernel_rfl) (by kernel_rfl) (by kernel_rfl) (by kernel_rfl) (fun _ _ _ h => h) (by rfl) ?ty11falsex8 HS0.out ?tr11falsex8
          case ty11falsex8 => (intro w' hSw; obtain ⟨hs1, hs2⟩ := hSw; go_simp; try with_reducible rfl)
          simp only [Act.put, List.setIfInBounds_toArray, List.set_cons_zero, List.set_cons_succ]
          refine wpAnyK_takeL (i := 9) (v := ?tv11falsex9) rfl (by kernel_rfl) (by kernel_rfl) (by kernel_rfl) (by kernel_rfl) (fun _ _ _ h => h) (by rfl) ?ty11falsex9 HS0.out ?tr11falsex9
          case ty11falsex9 => (intro w' hSw; obtain ⟨hs1, hs2⟩ := hSw; go_simp; try with_reducible rfl)
          simp only [Act.put, List.setIfInBounds_toArray, List.set_cons_zero, List.set_cons_succ]
          refine wpAnyK_takeL (i := 10) (v := ?tv11falsex10) rfl (by kernel_rfl) (by kernel_rfl) (by kernel_rfl) (by kernel_rfl) (fun _ _ _ h => h) (by rfl) ?ty11falsex10 HS0.out ?tr11falsex10
          case ty11falsex10 => (intro w' hSw; obtain ⟨hs1, hs2⟩ := hSw; go_simp; try with_reducible rfl)
          simp only [Act.put, List.setIfInBounds_toArray, List.set_cons_zero, List.set_cons_succ]
          refine wpAnyK_takeL (i := 11) (v := ?tv11falsex11) rfl (by kernel_rfl) (by kernel_rfl) (by kernel_rfl) (by kernel_rfl) (fun _ _ _ h => h) (by rfl) ?ty11falsex11 HS0.out ?tr11falsex11
          case ty11falsex11 => (intro w' hSw; obtain ⟨hs1, hs2⟩ := hSw; go_simp; try with_reducible rfl)
          simp only [Act.put, List.setIfInBounds_toArray, List.set_cons_zero, List.set_cons_succ]
          refine wpAnyK_takeL (i := 12) (v := ?tv11falsex12) rfl (by kernel_rfl) (by kernel_rfl) (by kernel_rfl) (by kernel_rfl) (fun _ _ _ h => h) (by rfl) ?ty11falsex12 HS0.out ?tr11falsex12
          case ty11falsex12 => (intro w' hSw; obtain ⟨hs1, hs2⟩ := hSw; go_simp; try with_reducible rfl)
          simp only [Act.put, List.setIfInBounds_toArray, List.set_cons_zero, List.set_cons_succ]
          refine wpAnyK_one (i := 13) (by kernel_rfl) rfl (fun K hK => ?_)
          obtain ⟨s1, s2⟩ := HS0.out
          go_simp
          refine hK.out _ _ (fun _ => ⟨s1, s2⟩) ?_
          clear hK K
          refine wpAnyK_one (i := 14) (by kernel_rfl) rfl (fun K hK => ?_)
          go_simp
          refine hK.out _ _ (fun h => absurd rfl h) ?_
          clear hK K
          refine wpAnyK_done (by kernel_rfl) ?_ _
          exact HFN.out (decide (v < u)) (by simp)
        · rw [hb] at HS0 HFN
          clear hb
          gi_wp2_with fail
          refine region_inK (fun w' => w'.cell? ⟨x, 3, none⟩ = some (.slice (some ⟨FB, 0, none⟩) fl.length fl.length) ∧ w'.cell? ⟨FB, v, none⟩ = some (.bool true)) 14 (by kernel_rfl) ?hq11true (simple_list ?hs11true) ?_
          case hq11true =>
            rintro ⟨a, w', h⟩
            exact h.2.2
          case hs11true =>
            intro o ho
            simp only [List.mem_cons, List.not_mem_nil, or_false] at ho
            rcases ho with rfl | rfl | rfl | rfl | rfl | rfl | rfl | rfl | rfl | rfl | rfl | rfl | rfl | rfl | rfl
            all_goals first
              | exact simple_load _ _ rfl
              | exact simple_move _ rfl
              | exact simple_index _ _ _ rfl
              | exact simple_field _ _ _ rfl
              | exact simple_bin _ _ _ _ _ rfl
              | exact simple_pick _ _ _ rfl
              | exact simple_store _ _ _ rfl
          simp only [List.size_toArray, List.length_cons, List.length_nil, Nat.reduceAdd]
          refine wpAnyK_takeL (i := 0) (v := ?tv11truex0) rfl (by kernel_rfl) (by kernel_rfl) (by kernel_rfl) (by kernel_rfl) (fun _ _ _ h => h) (by rfl) ?ty11truex0 HS0.out ?tr11truex0
          case ty11truex0 => (intro w' hSw; obtain ⟨hs1, hs2⟩ := hSw; go_simp; try with_reducible rfl)
          simp only [Act.put, List.setIfInBounds_toArray, List.set_cons_zero, List.set_cons_succ]
          refine wpAnyK_takeL (i := 1) (v := ?tv11truex1) rfl (by kernel_rfl) (by kernel_rfl) (by kernel_rfl) (by kernel_rfl) (fun _ _ _ h => h) (by rfl) ?ty11truex1 HS0.out ?tr11truex1
          case ty11truex1 => (intro w' hSw; obtain ⟨hs1, hs2⟩ := hSw; go_simp; try with_reducible rfl)
          simp only [Act.put, List.setIfInBounds_toArray, List.set_cons_zero, List.set_cons_succ]
          refine wpAnyK_takeL (i := 2) (v := ?tv11truex2) rfl (by kernel_rfl) (by kernel_rfl) (by kernel_rfl) (by kernel_rfl) (fun _ _ _ h => h) (by rfl) ?ty11truex2 HS0.out ?tr11truex2
          case ty11truex2 => (intro w' hSw; obtain ⟨hs1, hs2⟩ := hSw; go_simp; try with_reducible rfl)
          simp only [Act.put, List.setIfInBounds_toArray, List.set_cons_zero, List.set_cons_succ]
          refine wpAnyK_takeL (i := 3) (v := ?tv11truex3) rfl (by kernel_rfl) (by kernel_rfl) (by kernel_rfl) (by kernel_rfl) (fun _ _ _ h => h) (by rfl) ?ty11truex3 HS0.out ?tr11truex3
          case ty11truex3 => (intro w' hSw; obtain ⟨hs1, hs2⟩ := hSw; go_simp; try with_reducible rfl)
          simp only [Act.put, List.setIfInBounds_toArray, List.set_cons_zero, List.set_cons_succ]
          refine wpAnyK_takeL (i := 4) (v := ?tv11truex4) rfl (by kernel_rfl) (by kernel_rfl) (by kernel_rfl) (by kernel_rfl) (fun _ _ _ h => h) (by rfl) ?ty11truex4 HS0.out ?tr11truex4
          case ty11truex4 => (intro w' hSw; obtain ⟨hs1, hs2⟩ := hSw; go_simp; try with_reducible rfl)
          simp only [Act.put, List.setIfInBounds_toArray, List.set_cons_zero, List.set_cons_succ]
          refine wpAnyK_takeL (i := 5) (v := ?tv11truex5) rfl (by kernel_rfl) (by kernel_rfl) (by kernel_rfl) (by kernel_rfl) (fun _ _ _ h => h) (by rfl) ?ty11truex5 HS0.out ?tr11truex5
          case ty11truex5 => (intro w' hSw; obtain ⟨hs1, hs2⟩ := hSw; go_simp; try with_reducible rfl)
          simp only [Act.put, List.setIfInBounds_toArray, List.set_cons_zero, List.set_cons_succ]
          refine wpAnyK_takeL (i := 6) (v := ?tv11truex6) rfl (by kernel_rfl) (by kernel_rfl) (by kernel_rfl) (by kernel_rfl) (fun _ _ _ h => h) (by rfl) ?ty11truex6 HS0.out ?tr11truex6
          case ty11truex6 => (intro w' hSw; obtain ⟨hs1, hs2⟩ := hSw; go_simp; try with_reducible rfl)
          simp only [Act.put, List.setIfInBounds_toArray, List.set_cons_zero, List.set_cons_succ]
          refine wpAnyK_takeL (i := 7) (v := ?tv11truex7) rfl (by kernel_rfl) (by kernel_rfl) (by kernel_rfl) (by kernel_rfl) (fun _ _ _ h => h) (by rfl) ?ty11truex7 HS0.out ?tr11truex7
          case ty11truex7 => (intro w' hSw; obtain ⟨hs1, hs2⟩ := hSw; go_simp; try with_reducible rfl)
          simp only [Act.put, List.setIfInBounds_toArray, List.set_cons_zero, List.set_cons_succ]
          refine wpAnyK_takeL (i := 8) (v := ?tv11truex8) rfl (by kernel_rfl) (by kernel_rfl) (by kernel_rfl) (by kernel_rfl) (fun _ _ _ h => h) (by rfl) ?ty11truex8 HS0.out ?tr11truex8
          case ty11truex8 => (intro w' hSw; obtain ⟨hs1, hs2⟩ := hSw; go_simp; try with_reducible rfl)
          simp only [Act.put, List.setIfInBounds_toArray, List.set_cons_zero, List.set_cons_succ]
          refine wpAnyK_take (i := 9) (v := undef) rfl (by kernel_rfl) (by kernel_rfl) (by kernel_rfl) (by kernel_rfl) (fun _ _ _ h => h) (.inr ⟨rfl, rfl⟩) HS0.out ?_
          refine wpAnyK_take (i := 10) (v := undef) rfl (by kernel_rfl) (by kernel_rfl) (by kernel_rfl) (by kernel_rfl) (fun _ _ _ h => h) (.inr ⟨rfl, rfl⟩) HS0.out ?_
          refine wpAnyK_take (i := 11) (v := undef) rfl (by kernel_rfl) (by kernel_rfl) (by kernel_rfl) (by kernel_rfl) (fun _ _ _ h => h) (.inr ⟨rfl, rfl⟩) HS0.out ?_
          refine wpAnyK_takeL (i := 12) (v := ?tv11truex12) rfl (by kernel_rfl) (by kernel_rfl) (by kernel_rfl) (by kernel_rfl) (fun _ _ _ h => h) (by rfl) ?ty11truex12 HS0.out ?tr11truex12
          case ty11truex12 => (intro w' hSw; obtain ⟨hs1, hs2⟩ := hSw; go_simp; try with_reducible rfl)
          simp only [Act.put, List.setIfInBounds_toArray]
          refine wpAnyK_one (i := 13) (by kernel_rfl) rfl (fun K hK => ?_)
          obtain ⟨s1, s2⟩ := HS0.out
          go_simp
          refine hK.out _ _ (fun _ => ⟨s1, s2⟩) ?_
          clear hK K
          refine wpAnyK_one (i := 14) (by kernel_rfl) rfl (fun K hK => ?_)
          go_simp
          refine hK.out _ _ (fun h => absurd rfl h) ?_
          clear hK K
          refine wpAnyK_done (by kernel_rfl) ?_ _
          exact HFN.out true (by simp)
      · obtain ⟨q, ⟨aq, cq, rfl⟩, hs0, hoa, hs1, hnx⟩ := HD6.out.pack HP4.out (a := 1) (v := v) (i := W4.heap.size + 1 + 1) (by decide) HY2.out HI6.out (lm_len fl (u, v) HPL.out 1 v) u (Lg fl (pre ++ [(u, v)])) (lb_one fl pre u v hdd) (fun b j _ h => lb_other fl pre u v b j hdd h) 38
        have HS0 := Hid.mk' hs0
        have HOA := Hid.mk' hoa
        have HS1 := Hid.mk' hs1
        have HNX := Hid.mk' hnx
        have HFB := Hid.mk' (fbL_back fl fl.length pre u v hdd)
        clear hs0 hoa hs1 hnx hdd
        gi_wp2_with fail
        refine region_inK (fun w' => w'.cell? ⟨x, 1, none⟩ = some (.slice (some ⟨F 1, 0, none⟩) fl.length fl.length) ∧ w'.cell? ⟨F 1, v, none⟩ = some (.slice aq (Lm fl pre (u, v) 1 v).length cq)) 12 (by kernel_rfl) ?hq9 (simple_list ?hs9) ?_
        case hq9 =>
          rintro ⟨a, w', h⟩
          exact h.2.2
        case hs9 =>
          intro o ho
          simp only [List.mem_cons, List.not_mem_nil, or_false] at ho
          rcases ho with rfl | rfl | rfl | rfl | rfl | rfl | rfl | rfl | rfl | rfl | rfl | rfl | rfl
          all_goals first
            | exact simple_load _ _ rfl
            | exact simple_move _ rfl
            | exact simple_index _ _ _ rfl
            | exact simple_field _ _ _ rfl
            | exact simple_build _ _ _ rfl
            | exact simple_append _ _ _ _ rfl
            | exact simple_store _ _ _ rfl
        simp only [List.size_toArray, List.length_cons, List.length_nil, Nat.reduceAdd]
        refine wpAnyK_takeL (i := 0) (v := ?tv9x0) rfl (by kernel_rfl) (by kernel_rfl) (by kernel_rfl) (by kernel_rfl) (fun _ _ _ h => h) (by rfl) ?ty9x0 HS0.out ?tr9x0
        case ty9x0 => (intro w' hSw; obtain ⟨hs1, hs2⟩ := hSw; go_simp; try with_reducible rfl)
        simp only [Act.put, List.setIfInBounds_toArray, List.set_cons_zero, List.set_cons_succ]
        refine wpAnyK_takeL (i := 1) (v := ?tv9x1) rfl (by kernel_rfl) (by kernel_rfl) (by kernel_rfl) (by kernel_rfl) (fun _ _ _ h => h) (by rfl) ?ty9x1 HS0.out ?tr9x1
        case ty9x1 => (intro w' hSw; obtain ⟨hs1, hs2⟩ := hSw; go_simp; try with_reducible rfl)
        simp only [Act.put, List.setIfInBounds_toArray, List.set_cons_zero, List.set_cons_succ]
        refine wpAnyK_takeL (i := 2) (v := ?tv9x2) rfl (by kernel_rfl) (by kernel_rfl) (by kernel_rfl) (by kernel_rfl) (fun _ _ _ h => h) (by rfl) ?ty9x2 HS0.out ?tr9x2
        case ty9x2 => (intro w' hSw; obtain ⟨hs1, hs2⟩ := hSw; go_simp; try with_reducible rfl)
        simp only [Act.put, List.setIfInBounds_toArray, List.set_cons_zero, List.set_cons_succ]
        refine wpAnyK_takeL (i := 3) (v := ?tv9x3) rfl (by kernel_rfl) (by kernel_rfl) (by kernel_rfl) (by kernel_rfl) (fun _ _ _ h => h) (by rfl) ?ty9x3 HS0.out ?tr9x3
        case ty9x3 => (intro w' hSw; obtain ⟨hs1, hs2⟩ := hSw; go_simp; try with_reducible rfl)
        simp only [Act.put, List.setIfInBounds_toArray, List.set_cons_zero, List.set_cons_succ]
        refine wpAnyK_takeL (i := 4) (v := ?tv9x4) rfl (by kernel_rfl) (by kernel_rfl) (by kernel_rfl) (by kernel_rfl) (fun _ _ _ h => h) (by rfl) ?ty9x4 HS0.out ?tr9x4
        case ty9x4 => (intro w' hSw; obtain ⟨hs1, hs2⟩ := hSw; go_simp; try with_reducible rfl)
        simp only [Act.put, List.setIfInBounds_toArray, List.set_cons_zero, List.set_cons_succ]
        refine wpAnyK_takeL (i := 5) (v := ?tv9x5) rfl (by kernel_rfl) (by kernel_rfl) (by kernel_rfl) (by kernel_rfl) (fun _ _ _ h => h) (by rfl) ?ty9x5 HS0.out ?tr9x5
        case ty9x5 => (intro w' hSw; obtain ⟨hs1, hs2⟩ := hSw; go_simp; try with_reducible rfl)
        simp only [Act.put, List.setIfInBounds_toArray, List.set_cons_zero, List.set_cons_succ]
        refine wpAnyK_takeL (i := 6) (v := ?tv9x6) rfl (by kernel_rfl) (by kernel_rfl) (by kernel_rfl) (by kernel_rfl) (fun _ _ _ h => h) (by rfl) ?ty9x6 HS0.out ?tr9x6
        case ty9x6 => (intro w' hSw; obtain ⟨hs1, hs2⟩ := hSw; go_simp; try with_reducible rfl)
        simp only [Act.put, List.setIfInBounds_toArray, List.set_cons_zero, List.set_cons_succ]
        refine wpAnyK_takeL (i := 7) (v := ?tv9x7) rfl (by kernel_rfl) (by kernel_rfl) (by kernel_rfl) (by kernel_rfl) (fun _ _ _ h => h) (by rfl) ?ty9x7 HS0.out ?tr9x7
        case ty9x7 => (intro w' hSw; obtain ⟨hs1, hs2⟩ := hSw; go_simp; try with_reducible rfl)
        simp only [Act.put, List.setIfInBounds_toArray, List.set_cons_zero, List.set_cons_succ]
        refine wpAnyK_takeL (i := 8) (v := ?tv9x8) rfl (by kernel_rfl) (by kernel_rfl) (by kernel_rfl) (by kernel_rfl) (fun _ _ _ h => h) (by rfl) ?ty9x8 HS0.out ?tr9x8
        case ty9x8 => (intro w' hSw; obtain ⟨hs1, hs2⟩ := hSw; go_simp; try with_reducible rfl)
        simp only [Act.put, List.setIfInBounds_toArray, List.set_cons_zero, List.set_cons_succ]
        refine wpAnyK_one (i := 9) (by kernel_rfl) rfl (fun K hK => ?_)
        go_simp
        refine hK.out _ _ (fun _ => (HS1.out _ (World.grownBy_alloc _ _ _)).1) ?_
        clear hK K
        refine wpAnyK_one (i := 10) (by kernel_rfl) rfl (fun K hK => ?_)
        refine step_app rfl _ _ 38 38 _ _ rfl rfl rfl HOA.out ?_
        rintro v3 W3 ⟨on3, gr3, ow3⟩
        obtain ⟨a3, c3, rfl⟩ := gown_form on3
        obtain ⟨⟨s1, s2⟩, s3⟩ := HS1.out W3 gr3
        refine hK.out _ _ (fun _ => ⟨s1, s2⟩) ?_
        clear hK K
        refine wpAnyK_one (i := 11) (by kernel_rfl) rfl (fun K hK => ?_)
        go_simp
        refine hK.out _ _ (fun _ => ⟨s1, s2⟩) ?_
        clear hK K
        refine wpAnyK_one (i := 12) (by kernel_rfl) rfl (fun K hK => ?_)
        go_simp
        refine hK.out _ _ (fun h => absurd rfl h) ?_
        clear hK K
        refine wpAnyK_done (by kernel_rfl) ?_ _
        have hfin := HNX.out W3 _ on3 gr3 ow3
        rw [show (Lm fl pre (u, v) 1 v ++ [u]).length = (Lm fl pre (u, v) 1 v).length + 1 by simp] at hfin
        clear HS0 HOA HS1 HNX on3 gr3 ow3 s1 s2 s3
        generalize W3.setCell ⟨F 1, v, none⟩ (.slice a3 ((Lm fl pre (u, v) 1 v).length + 1) c3) = W8 at *
        obtain ⟨⟨vs2, hd2⟩, hkp2, hko2, hkb2⟩ := hfin
        have HFN : Hid (KeepsFrom W4.heap.size W W8 ∧ KpG W3q.heap.size W4.heap.size (fsG F) (W4.heap.size + 1 + 1) W W8 ∧ (∃ vs, GD w fl.length x W2.heap.size FB W4.heap.size F (.slice (some ⟨tg, 0, none⟩) ts.length ts.length) ts (Lg fl (pre ++ [(u, v)])) vs (fbL fl fl.length (pre ++ [(u, v)])) W8) ∧ W8.heap[w.heap.size + 1]? = some (.cells #[.slice none 0 0, .slice none 0 0, .slice none 0 0, .slice none 0 0] 58 (0, 0))) :=
          ⟨(HK6.out.2.trans hko2).from _, HK6.out.1.trans hkp2, ⟨vs2, by rw [HFB.out]; exact hd2⟩, hkb2 (w.heap.size + 1) _ (by have := HP4.out.px; have := HP4.out.an; have := HGX.out; omega) (by have := HGX.out.2.2 1 (by decide); omega) HRB6.out⟩
        clear hd2 hkp2 hko2 hkb2 HK6 HRB6
        gi_wp2
        exact HFN.out
theorem graphOf_any (f : Fn) (w : World) (hi : Iss w f.ca f.code) (hc : f.code.length ≤ f.cc) (hl : f.code.length ≤ 1024) (hG : 1 < w.heap.size) (hT : Tb w) : Calls Tryd.prog 20 #[f.val] w (GrP f.code w) := callsIn_wide.1 (graphOf_in f w hi hc hl hG hT)
end Go.Proofs.YtgiokognngllcaaDoor
