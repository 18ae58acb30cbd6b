/- The reference's Ahead and All: the tokens ahead of the first error, it and its place. -/
import Derived.Test.YtdlddloggjckmaaDoorQ8
import Derived.Test.YtdlddloggjckmaaDoorQ9
import Derived.Test.YtdlddloggjckmaaDoorH
namespace Go.Proofs.YtdlddloggjckmaaDoor
open Go.RowKit

/-- What Ahead answers of a source that is not too long. -/
def AheadOut (s : ByteArray) (w : World) (e : Ending) (w' : World) : Prop :=
  Below w.heap.size w w' ∧ ((∃ pre x v, items s = pre ++ [x] ∧ (∀ y ∈ pre, y.err = 0) ∧ x.err ≠ 0 ∧ e = .returned (.tuple #[v, .int .i64 x.err, .int .i64 x.at_]) ∧ w'.ownsRow w.heap.size 33 4 v pre.length (rowCells pre)) ∨
    ((∀ y ∈ items s, y.err = 0) ∧ ∃ v, e = .returned (.tuple #[v, .int .i64 0, .int .i64 0]) ∧ w'.ownsRow w.heap.size 33 4 v (items s).length (rowCells (items s))))

set_option maxHeartbeats 400000 in
theorem ahead_long (s : ByteArray) (w : World) (hs : 65536 < (s.size : Int)) :
    Calls Tryd.prog 13 #[.string s] w fun e w' => e = .returned (.tuple #[.slice none 0 0, .int .i64 4, .int .i64 65536]) ∧ w' = w := by
  go_enter Tryd.func13, Tryd.ntmps13
  go_wp2
  go_ret3
  exact ⟨rfl, rfl⟩

theorem tup3 {v : Value} {a b c d : Int} (h1 : a = b) (h2 : c = d) : Ending.returned (.tuple #[v, .int .i64 a, .int .i64 c]) = .returned (.tuple #[v, .int .i64 b, .int .i64 d]) := by rw [h1, h2]
theorem grown_set1 (W : World) (b o : Nat) (v : Value) : W.grownBy (W.setCell ⟨b, o, none⟩ v) (some b) :=
  ⟨rfl, rfl, rfl, by show W.heap.size ≤ (W.heap.modify _ _).size; rw [Array.size_modify]; exact Nat.le_refl _, fun k _ hk => Below.heap_setCell _ _ _ k (fun e => hk (by rw [e]))⟩

theorem owns_below {W W' : World} {base e sz k : Nat} {v : Value} {xs : List Value} (h : W.ownsRow base e sz v k xs) (hb : Below W.heap.size W W') : W'.ownsRow base e sz v k xs :=
  h.kept (below_grown hb) (Classical.em _)
theorem owns_lt {W : World} {base e sz k : Nat} {v : Value} {xs : List Value} (h : W.ownsRow base e sz v k xs) : ∀ b, v.ownBlock = some b → b < W.heap.size := by
  intro b hb
  rcases h.2 with ⟨rfl, _⟩ | ⟨g, cap, cur, rfl, _, hc, _⟩
  · simp [Value.ownBlock] at hb
  · have : g = b := by simpa [Value.ownBlock] using hb
    subst this; exact (Array.getElem?_eq_some_iff.1 hc).1

/-- The token's box still reads as it did behind the append. -/
theorem ahead_text {w1 w4 : World} {base k : Nat} {v : Value} {xs : List Value} {kd k0 nn : Int} {tx : ByteArray} {o : Obj} (hrow : w1.ownsRow base 33 4 v k xs)
    (hg : ((w1.alloc (.cells #[.int .i64 kd, .int .i64 k0, .string tx, .int .i64 nn] 33)).alloc o).grownBy w4 v.ownBlock) : w4.cell? ⟨w1.heap.size, 2, none⟩ = some (.string tx) := by
  have h1 : w4.heap[w1.heap.size]? = ((w1.alloc (.cells #[.int .i64 kd, .int .i64 k0, .string tx, .int .i64 nn] 33)).alloc o).heap[w1.heap.size]? :=
    hg.block w1.heap.size (by simp; omega) (fun e => by have := owns_lt hrow _ e.symm; omega)
  have h2 : ((w1.alloc (.cells #[.int .i64 kd, .int .i64 k0, .string tx, .int .i64 nn] 33)).alloc o).heap[w1.heap.size]? = some (.cells #[.int .i64 kd, .int .i64 k0, .string tx, .int .i64 nn] 33 (0, 0)) :=
    (Below.heap_alloc _ _ _ (by simp)).trans (World.alloc_heap_new w1 _)
  simp [World.cell?, h1.trans h2]
theorem ahead_below {w w1 w4 : World} {k : Nat} {v : Value} {xs : List Value} {o o' : Obj} (hB : Below w.heap.size w w1) (hrow : w1.ownsRow w.heap.size 33 4 v k xs)
    (hg : ((w1.alloc o).alloc o').grownBy w4 v.ownBlock) : Below w.heap.size w w4 := by
  have hz := hB.size
  refine (((hB.alloc hz o).alloc (by simp; omega) o').grown hg (by simp; omega) fun j ej => ?_)
  rcases hrow.2 with ⟨rfl, _⟩ | ⟨g, cap, cur, rfl, hb, _, _⟩
  · simp [Value.ownBlock] at ej
  · obtain rfl : g = j := by simpa [Value.ownBlock] using ej
    exact hb

set_option maxRecDepth 100000 in
set_option maxHeartbeats 4000000 in
theorem ahead_short (s : ByteArray) (w : World) (hs : ¬ 65536 < (s.size : Int)) : Calls Tryd.prog 13 #[.string s] w (AheadOut s w) := by
  have hitl := items_len s
  have hm : s.size ≤ maxLen := by unfold maxLen; omega
  have hs48 : s.size ≤ 281474976710656 := by omega
  have hp0 := passEnd_le false s.data.toList 0 (Nat.zero_le _)
  rw [ba_len] at hp0
  obtain ⟨i0, hi, hz0, hz1, hz2⟩ := info_parts Tryd.info33
  have h21 : ∀ w, Calls Tryd.prog 21 #[.string s, .int .i64 0] w fun e w' => e = .returned (.int .i64 (passEnd false s.data.toList 0 : Nat)) ∧ w' = w := fun w => blank_any s 0 w hm (by omega) (by omega)
  go_enter Tryd.func13, Tryd.ntmps13
  go_wp2_with (go_at_call 21; refine (h21 _).mono ?_; rintro e w' ⟨rfl, rfl⟩)
  clear h21
  go_loopw [5, 6] (fun o t wr => ∃ (pre : List It) (k f : Nat), t = .int .i64 k ∧ k ≤ s.size ∧ s.size < k + f ∧ Hid (items s = pre ++ itemsFrom s f k) ∧ Hid (∀ y ∈ pre, y.err = 0) ∧ wr.ownsRow w.heap.size 33 4 o pre.length (rowCells pre) ∧ Below w.heap.size w wr ∧ ∃ bo cp, o = .slice bo pre.length cp)
    (fun _ t _ => s.size - (intOf t).toNat)
  case atStart =>
    refine ⟨[], _, s.size + 1, rfl, hp0, by omega, rfl, fun y hy => by simp at hy, ⟨rfl, .inr ⟨w.heap.size, 0, #[], rfl, Nat.le_refl _, World.alloc_heap_new w _, Nat.le_refl _, Nat.zero_le _, rfl, rfl⟩⟩, (Below.refl _ w).alloc (Nat.le_refl _) _, _, _, rfl⟩
  case round =>
    obtain ⟨pre, k, f, rfl, hk, hf, HI, HE, hrow, hB, bo, cp, rfl⟩ := hrel
    by_cases hlt : k < s.size
    · obtain ⟨f', rfl⟩ : ∃ f', f = f' + 1 := ⟨f - 1, by omega⟩
      have hpl : pre.length < (items s).length := by rw [HI.out, itemsFrom_in s f' k hlt]; simp
      have h22 := one_any s k
      obtain ⟨kd, tx, nn, er, hx⟩ : ∃ kd tx nn er, itemAt s k = ⟨kd, k, tx, nn, er⟩ := ⟨_, _, _, _, rfl⟩
      have hts := item_text_size s k
      have hnl := nextAt_le s k hlt
      have HN : Hid (passEnd false s.data.toList (k + tx.size) = nextAt s k) := by
        show passEnd false s.data.toList (k + tx.size) = nextAt s k
        unfold nextAt; rw [hx] at hts; rw [← hts]
      rw [← hts] at hnl
      rw [hx] at hnl h22
      have HX : Hid (itemAt s k = ⟨kd, k, tx, nn, er⟩) := hx
      obtain ⟨hn1, hn2'⟩ := hnl
      have hn2 : k + tx.size ≤ s.size := hn2'
      clear hn2'
      clear hx hts
      by_cases her : er = 0
      · subst her
        have hgt := nextAt_gt s k hlt (by rw [HX.out])
        have g22 : ∀ w, Calls Tryd.prog 22 #[.string s, .int .i64 k] w fun e w' => e = .returned (.tuple #[tokV kd k tx nn, .int .i64 0]) ∧ Below w.heap.size w w' := fun w => h22 w hs48 hlt
        have h21 : ∀ w, Calls Tryd.prog 21 #[.string s, .int .i64 ((k : Int) + (tx.size : Int))] w fun e w' => e = .returned (.int .i64 (nextAt s k : Nat)) ∧ w' = w := fun w => by
          have := blank_any s ((k : Int) + (tx.size : Int)) w hm (by omega) (by omega)
          rw [show ((k : Int) + (tx.size : Int)).toNat = k + tx.size from by omega, HN.out] at this
          exact this
        have hml : pre.length + 1 ≤ maxLen := by unfold maxLen; omega
        clear h22
        go_wp2_with (first
          | (go_at_call 22; refine (g22 _).mono ?_; rintro e w1 ⟨rfl, hb1⟩; have hrow1 := owns_below hrow hb1; have hB1 := hB.trans (hb1.mono hB.size); have hnw := tok_new (w1.alloc (.cells #[.int .i64 kd, .int .i64 k, .string tx, .int .i64 nn] 33)) ⟨kd, k, tx, nn, 0⟩; rw [World.size_alloc] at hnw; clear g22)
          | (at_builtin; refine wpList_append_own _ rfl _ _ 23 rfl w.heap.size 33 i0 _ 4 40 Tryd.underlying23 hi hz0 hz1 hz2 rfl (by decide) _ _ _ rfl ((hrow1.alloc _).alloc _) ⟨w1.heap.size + 1, 0, none⟩ 1 1 (tokCells ⟨kd, k, tx, nn, 0⟩) rfl rfl hnw (by simp [tokCells, Value.oneCell']) hml (by omega) (by have := hB1.size; simp; omega) ?_; intro v' w4 hown' hgrow hnil; obtain ⟨g', cap', rfl⟩ := ownsRow_succ hown'; have ht4 := ahead_text hrow1 hgrow)
          | (go_at_call 21; refine (h21 _).mono ?_; rintro e w5 ⟨rfl, rfl⟩))
        go_roundw
        case rel =>
          refine ⟨pre ++ [⟨kd, k, tx, nn, 0⟩], nextAt s k, f', rfl, hn1, by omega, ?_, ?_, ?_, ?_, ?_⟩
          · show items s = _
            rw [HI.out, itemsFrom_in s f' k hlt, HX.out, if_pos rfl]; simp
          · intro y hy
            rcases List.mem_append.1 hy with h | h
            · exact HE.out y h
            · rw [List.mem_singleton.1 h]
          · rw [rowCells_snoc, List.length_append]; exact hown'
          · exact ahead_below hB1 hrow1 hgrow
          · exact ⟨_, _, by rw [List.length_append]; rfl⟩
        case measure => simp [intOf]; omega
      · have g22 : ∀ w, Calls Tryd.prog 22 #[.string s, .int .i64 k] w fun e w' => e = .returned (.tuple #[tokV kd 0 tx nn, .int .i64 er]) ∧ Below w.heap.size w w' := fun w => by
          have := h22 w hs48 hlt
          unfold OneOut at this
          rw [show atOf ⟨kd, k, tx, nn, er⟩ = 0 from if_neg her] at this
          exact this
        have her1 : (er != 0) = true := by simpa using her
        clear h22
        go_wp2_with (go_at_call 22; refine (g22 _).mono ?_; rintro e w1 ⟨rfl, hb1⟩)
        go_ret3
        have hrow1 := owns_below hrow hb1
        have hB1 := hB.trans (hb1.mono hB.size)
        refine ⟨hB1.alloc (by have := hB1.size; omega) _, .inl ⟨pre, ⟨kd, k, tx, nn, er⟩, _, ?_, HE.out, her, rfl, hrow1.alloc _⟩⟩
        rw [HI.out, itemsFrom_in s f' k hlt, HX.out, if_neg her]
    · have hkz : ¬ ((k : Int) < (s.size : Int)) := by omega
      have hall : items s = pre := by rw [HI.out, itemsFrom_end s f k hlt, List.append_nil]
      go_wp2
      go_ret3
      refine ⟨hB, .inr ⟨by rw [hall]; exact HE.out, _, rfl, ?_⟩⟩
      rw [hall]; exact hrow
end Go.Proofs.YtdlddloggjckmaaDoor
