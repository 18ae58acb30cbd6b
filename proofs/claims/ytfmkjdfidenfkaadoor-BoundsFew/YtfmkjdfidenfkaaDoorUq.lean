/- Bounds: a way told. -/
import Derived.Test.YtfmkjdfidenfkaaDoorZao
namespace Go.Proofs.YtfmkjdfidenfkaaDoor
open Go.RowKit
open S8 (emB sv)

/-- Is a number, any one, in the list? -/
def hasZ (l : List Nat) (z : Int) : Bool := l.any fun k => decide ((k : Int) = z)
theorem hasZ_iff (l : List Nat) (z : Int) : hasZ l z = true ↔ ∃ k ∈ l, (k : Int) = z := by unfold hasZ; simp
theorem containsZ_any (l : List Nat) (z : Int) (a : Option Addr) (c : Nat) (w : World) (h : Lst w a (l.map nV)) (hl : l.length ≤ 1000000) : Calls Tryd.prog 37 #[.slice a l.length c, .int .i64 z] w fun e w' => e = .returned (.bool (hasZ l z)) ∧ w' = w := by
  have HI := Hid.mk' (index_any l z a c w h hl)
  have HE := Hid.mk' (hasZ_iff l z)
  generalize hasZ l z = b at *
  clear h
  go_enter Tryd.func37, Tryd.ntmps37
  go_wp2_with (go_at_call 63; refine HI.out.mono ?_; rintro e w1 ⟨r, rfl, hr0, rfl⟩; have HR := Hid.mk' hr0; clear hr0)
  go_ret
  refine ⟨ret_bool ?_, rfl⟩
  have hr := HR.out
  rw [← HE.out] at hr
  cases b
  · exact decide_eq_false (by rw [hr]; decide)
  · exact decide_eq_true (by rw [hr])
theorem fld_flt (w : World) (a b c : Int) : (Instr.field 46 (.agg #[.int .i64 a, .int .i64 b, .int .i64 c]) 0).run Tryd.prog w = .ok (.int .i64 a) w := by kernel_rfl
/-- What Edge tells. -/
def edZ (m : Mo) (fn fr gt : Int) (l : List Sp) : Option (List Sp) :=
  if (mayZ m).1 ≠ 0 ∨ fn < 0 ∨ (m.funcs.length : Int) ≤ fn then none else
  match m.funcs[fn.toNat]? with
  | none => none
  | some f => if (l.length : Int) ≠ f.regs ∨ l.any emB = true ∨ hasZ (nxZ f.code fr) gt = false then none
    else match f.code[fr.toNat]? with
    | none => none
    | some x => if (psZ m f x fr.toNat gt.toNat l).1 then some (psZ m f x fr.toNat gt.toNat l).2 else none
def EgP (o : Option (List Sp)) (w : World) (e : Ending) (w' : World) : Prop := Below w.heap.size w w' ∧ match o with
  | none => e = .returned (.tuple #[.slice none 0 0, .bool false])
  | some l => ∃ G : Nat, e = .returned (.tuple #[.slice (some ⟨G, 0, none⟩) l.length l.length, .bool true]) ∧ w.heap.size ≤ G ∧ RgB w' G l

set_option maxRecDepth 100000 in
set_option maxHeartbeats 8000000 in
theorem edge_no (m : Mo) (fn fr gt : Int) (l : List Sp) (a : Option Addr) (c : Nat) (w : World) (ht : Tab w) (hm : m.In w) (hno : (mayZ m).1 ≠ 0 ∨ fn < 0 ∨ (m.funcs.length : Int) ≤ fn) : Calls Tryd.prog 16 #[m.val, .int .i64 fn, .int .i64 fr, .int .i64 gt, .slice a l.length c] w (EgP (edZ m fn fr gt l) w) := by
  have he : edZ m fn fr gt l = none := by unfold edZ; rw [if_pos hno]
  rw [he]
  clear he
  have B := Below.one (Below.refl _ w) (.cells #[.slice m.ta m.ths.length m.tc, .slice m.fa m.funcs.length m.fc] 25)
  have HMAY : Hid (∀ W, Below w.heap.size w W → Calls Tryd.prog 19 #[m.val] W fun e w' => e = .returned (fltV (mayZ m)) ∧ Below W.heap.size W w') := fun W hW => may_any m W (ht.stay hW) (hm.stay hW)
  have hM := heap_alloc_new w (.cells #[.slice m.ta m.ths.length m.tc, .slice m.fa m.funcs.length m.fc] 25)
  obtain ⟨ta, tc, ths, fa, fc, funcs⟩ := m
  simp only at hM B hno
  have hfl : funcs.length < 4611686018427387904 := by have := hm.2.2.1.1; simp only at this; omega
  generalize mayZ ⟨ta, tc, ths, fa, fc, funcs⟩ = mz at *
  have m0 := cell_of_obj hM (j := 0) (v := .slice ta ths.length tc) rfl
  have m1 := cell_of_obj hM (j := 1) (v := .slice fa funcs.length fc) rfl
  have HB := Hid.mk' B
  clear hM B hm ht
  have hff := fld_flt
  unfold Mo.val at HMAY ⊢
  unfold fltV at HMAY
  simp only at HMAY ⊢
  go_enter Tryd.func16, Tryd.ntmps16
  go_upto_region 1 with fail
  generalize w.alloc (.cells #[.slice ta ths.length tc, .slice fa funcs.length fc] 25) = W at *
  by_cases h1 : mz.1 ≠ 0
  · have q1 : (mz.1 != 0) = true := bne_of h1
    clear hno h1
    go_wp2_with (go_at_call 19; refine (HMAY.out _ HB.out).mono ?_; rintro e w5 ⟨rfl, hb5⟩; have n1 := cell_kept_below m1 hb5)
    exact bodyPost_ret (v := .tuple #[.slice none 0 0, .bool false]) (by simp [results, Tryd.results16, go_sem, *]) rfl ⟨Below.on HB.out hb5, rfl⟩
  · have h1' : mz.1 = 0 := by simpa using h1
    have q1 : (mz.1 != 0) = false := bne_no h1'
    by_cases h2 : fn < 0
    · have q2 : decide (fn < 0) = true := decide_eq_true h2
      clear hno h1 h1' h2
      go_wp2_with (go_at_call 19; refine (HMAY.out _ HB.out).mono ?_; rintro e w5 ⟨rfl, hb5⟩; have n1 := cell_kept_below m1 hb5)
      exact bodyPost_ret (v := .tuple #[.slice none 0 0, .bool false]) (by simp [results, Tryd.results16, go_sem, *]) rfl ⟨Below.on HB.out hb5, rfl⟩
    · have q2 : decide (fn < 0) = false := decide_eq_false h2
      have h3 : (funcs.length : Int) ≤ fn := by rcases hno with h | h | h <;> first | exact absurd h h1 | exact absurd h h2 | exact h
      have q3 : decide ((funcs.length : Int) ≤ fn) = true := decide_eq_true h3
      clear hno h1 h1' h2 h3
      go_wp2_with (go_at_call 19; refine (HMAY.out _ HB.out).mono ?_; rintro e w5 ⟨rfl, hb5⟩; have n1 := cell_kept_below m1 hb5)
      exact bodyPost_ret (v := .tuple #[.slice none 0 0, .bool false]) (by simp [results, Tryd.results16, go_sem, *]) rfl ⟨Below.on HB.out hb5, rfl⟩
end Go.Proofs.YtfmkjdfidenfkaaDoor
