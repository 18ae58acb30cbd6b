/- pack's writer: numbers and texts are put behind bytes. -/
import Derived.Test.YtfamomjgjamnoaaDoorKa
namespace Go.Proofs.YtfamomjgjamnoaaDoor
open Go.RowKit Go.Sort

/-- Block b holds a writer of these bytes. -/
structure WrAt (N b : Nat) (acc : Bt) (v : Value) (W : World) : Prop where
  bk : W.heap[b]? = some (.cells #[v] 51)
  ow : Ob N acc v W
  nb : N ≤ b
theorem WrAt.lt {N b : Nat} {acc : Bt} {v : Value} {W : World} (h : WrAt N b acc v W) : b < W.heap.size := (Array.getElem?_eq_some_iff.1 h.bk).1
theorem WrAt.cell {N b : Nat} {acc : Bt} {v : Value} {W : World} (h : WrAt N b acc v W) : W.cell? ⟨b, 0, none⟩ = some v := cell_of_obj h.bk rfl
theorem WrAt.frozen {N b : Nat} {acc : Bt} {v : Value} {W : World} (h : WrAt N b acc v W) : W.frozen? ⟨b, 0, none⟩ = false := Lib.frozen_of_heap h.bk _
theorem WrAt.stay {N b : Nat} {acc : Bt} {v : Value} {W W' : World} (h : WrAt N b acc v W) (hb : Below W.heap.size W W') : WrAt N b acc v W' := ⟨blk_stay h.bk hb, own_stay h.ow hb, h.nb⟩
/-- What stays where the writer of block b is at work. -/
structure Kp (N b : Nat) (W W' : World) : Prop where
  bl : Below N W W'
  o : ∀ (k : Nat) (cs : Array Value) (T : TypeId) (fz : Nat × Nat), W.heap[k]? = some (.cells cs T fz) → T ≠ 5 → k ≠ b → W'.heap[k]? = some (.cells cs T fz)
theorem Kp.refl (N b : Nat) (W : World) : Kp N b W W := ⟨Below.refl _ _, fun _ _ _ _ h _ _ => h⟩
theorem Kp.on {N b : Nat} {W W' W'' : World} (h : Kp N b W W') (k : Kp N b W' W'') : Kp N b W W'' := ⟨h.bl.trans k.bl, fun i cs T fz hi hT hk => k.o i cs T fz (h.o i cs T fz hi hT hk) hT hk⟩
theorem Kp.gr {N b : Nat} {W W' : World} (h : Gr N W W') : Kp N b W W' := ⟨h.b, fun i cs T fz hi hT _ => h.o i cs T fz hi hT⟩
theorem Kp.stay {N b : Nat} {W W' : World} (hN : N ≤ W.heap.size) (h : Below W.heap.size W W') : Kp N b W W' := Kp.gr (Gr.stay hN h)
theorem Kp.set {N b : Nat} {W W' : World} (h : Kp N b W W') (hN : N ≤ b) (j : Nat) (u : Value) : Kp N b W (W'.setCell ⟨b, j, none⟩ u) :=
  ⟨h.bl.setCell hN _, fun i cs T fz hi hT hk => (Below.heap_setCell _ _ _ _ (by simpa using hk)).trans (h.o i cs T fz hi hT hk)⟩
/-- Bytes more. -/
theorem WrAt.more {N b : Nat} {acc l : Bt} {v v' : Value} {W W' : World} (h : WrAt N b acc v W) (hg : Gr N W W') (ho : Ob N (acc ++ l) v' W') : W'.heap[b]? = some (.cells #[v] 51) ∧ WrAt N b (acc ++ l) v' (W'.setCell ⟨b, 0, none⟩ v') ∧ Kp N b W (W'.setCell ⟨b, 0, none⟩ v') := by
  have hb := hg.o _ _ _ _ h.bk (by decide)
  exact ⟨hb, ⟨by have := heap_setCell_same W' b 0 _ _ v' hb; simpa using this, own_set ho hb (by decide) _ _, h.nb⟩, (Kp.gr hg).set h.nb _ _⟩
/-- What a call of the writer's comes to. -/
def WrP (N b : Nat) (acc : Bt) (w : World) (e : Ending) (w' : World) : Prop := e = .returned (.tuple #[]) ∧ (∃ v, WrAt N b acc v w') ∧ Kp N b w w'

theorem byte_of (n : Nat) : (.int .u8 ((n : Int) % 256) : Value) = u8V (UInt8.ofNat n) := by
  unfold u8V
  rw [UInt8.toNat_ofNat']
  simp
set_option maxRecDepth 100000 in
set_option maxHeartbeats 2000000 in
theorem number_any (N b : Nat) (acc : Bt) (v : Value) (w : World) (k n : Nat) (h : WrAt N b acc v w) (hk : k ≤ 8) (hn : n < 18446744073709551616) (hl : acc.length ≤ 100000000) :
    Calls Tryd.prog 45 #[.pointer (some ⟨b, 0, none⟩), .int .i64 (k : Int), .int .u64 (n : Int)] w (WrP N b (acc ++ leB k n) w) := by
  have HW := Hid.mk' h
  have hnb := h.nb
  clear h
  go_enter Tryd.func45, Tryd.ntmps45
  go_wp2_with fail
  go_loopw [2, 7] (fun t2 t7 wr => ∃ (j : Nat), j ≤ k ∧ t7 = .int .i64 j ∧ t2 = .int .u64 ((n / 256 ^ j : Nat) : Int) ∧ (∃ v', WrAt N b (acc ++ leB j n) v' wr) ∧ Kp N b w wr) (fun _ t7 _ => k - (intOf t7).toNat)
  case atStart => exact ⟨0, Nat.zero_le _, rfl, by simp, ⟨v, by simpa [leB] using HW.out⟩, Kp.refl _ _ _⟩
  case round =>
    obtain ⟨j, hj, rfl, rfl, ⟨v1, h1⟩, hkp⟩ := hrel
    clear HW
    by_cases hlt : j < k
    · have hli : (j : Int) < (k : Int) := by omega
      have HE := Hid.mk' (leB_succ j n)
      have hq : n / 256 ^ j < 18446744073709551616 := Nat.lt_of_le_of_lt (Nat.div_le_self _ _) hn
      have HQ : Hid (n / 256 ^ (j + 1) = n / 256 ^ j / 256) := (by rw [Nat.pow_succ, Nat.div_div_eq_div_mul] : _ = _)
      obtain ⟨q, hqe⟩ : ∃ q, n / 256 ^ j = q := ⟨_, rfl⟩
      rw [hqe] at hq HE HQ ⊢
      have HQE := Hid.mk' hqe
      obtain ⟨A, hA⟩ : ∃ A, acc ++ leB j n = A := ⟨_, rfl⟩
      have hAl : A.length ≤ 100000008 := by rw [← hA, List.length_append, leB_len]; omega
      rw [hA] at h1
      have HA := Hid.mk' hA
      obtain ⟨a1, c1, rfl⟩ := gown_form h1.ow
      have x0 := h1.cell
      have hN : N ≤ wr.heap.size := Nat.le_of_lt (Nat.lt_of_le_of_lt h1.nb h1.lt)
      have hbo := Below.one (Below.refl _ wr) (.cells #[.int .u8 ((q : Int) % 256)] 5)
      obtain ⟨B, hB⟩ : ∃ B, A ++ [UInt8.ofNat q] = B := ⟨_, rfl⟩
      have HB := Hid.mk' hB
      have HAP : Hid (∃ v' W'', (Builtin.append_ #[27, 27] 27 #[.slice a1 A.length c1, .slice (some ⟨wr.heap.size, 0, none⟩) 1 1]).run Tryd.prog (wr.alloc (.cells #[.int .u8 ((q : Int) % 256)] 5)) = .ok v' W'' ∧ (Ob N B v' W'' ∧ Gr N (wr.alloc (.cells #[.int .u8 ((q : Int) % 256)] 5)) W'')) := by
        rw [byte_of, ← hB]
        exact ob_more (l := [UInt8.ofNat q]) (own_stay h1.ow (Below.one (Below.refl _ wr) _)) (by simp; omega) (by simp; omega) _ _ _ (by simp) (fun a e => by cases e; exact newsT wr 5 [u8V (UInt8.ofNat q)])
      have HM : Hid (∀ (W' : World) (v' : Value), Gr N (wr.alloc (.cells #[.int .u8 ((q : Int) % 256)] 5)) W' → Ob N B v' W' → W'.heap[b]? = some (.cells #[.slice a1 A.length c1] 51) ∧ WrAt N b B v' (W'.setCell ⟨b, 0, none⟩ v') ∧ Kp N b w (W'.setCell ⟨b, 0, none⟩ v')) := fun W' v' hg ho => by
        rw [← hB] at ho ⊢
        obtain ⟨p1, p2, p3⟩ := (h1.stay hbo).more hg ho
        exact ⟨p1, p2, (hkp.on (Kp.stay hN hbo)).on p3⟩
      clear h1 hbo hA hqe hB
      go_wp2_with (at_builtin; refine wpl_app rfl _ _ 27 27 _ _ rfl rfl rfl HAP.out ?_; rintro v2 W2 ⟨ho2, hg2⟩; obtain ⟨bk2, hw2, hk2⟩ := HM.out _ _ hg2 ho2; obtain ⟨a2, c2, rfl⟩ := gown_form ho2; have y0 := cell_of_obj bk2 (j := 0) rfl; have z0 := Lib.frozen_of_heap bk2 0; have HW2 := Hid.mk' hw2; have HK2 := Hid.mk' hk2; clear bk2 hw2 hk2 ho2 hg2)
      go_roundw
      case rel => exact ⟨j + 1, by omega, by go_num, by rw [HQ.out]; rfl, ⟨_, by rw [HE.out, ← List.append_assoc, HA.out, HB.out]; exact HW2.out⟩, HK2.out⟩
      case measure => simp [intOf]; omega
    · have hje : j = k := by omega
      subst hje
      go_wp2_with fail
      go_end0
      exact ⟨rfl, ⟨_, h1⟩, hkp⟩
theorem u64N_cast (z : Int) : ((u64N z : Nat) : Int) = z % 18446744073709551616 := by unfold u64N; omega
theorem u64N_lt (z : Int) : u64N z < 18446744073709551616 := by unfold u64N; omega
set_option maxRecDepth 100000 in
set_option maxHeartbeats 2000000 in
theorem wbyte_any (N b : Nat) (acc : Bt) (v : Value) (w : World) (z : Int) (h : WrAt N b acc v w) (hl : acc.length ≤ 100000000) :
    Calls Tryd.prog 30 #[.pointer (some ⟨b, 0, none⟩), .int .i64 z] w (WrP N b (acc ++ w1B z) w) := by
  have HC := Hid.mk' (number_any N b acc v w 1 (u64N z) h (by omega) (u64N_lt z) hl)
  rw [u64N_cast] at HC
  clear h hl
  go_enter Tryd.func30, Tryd.ntmps30
  go_wp2_with fail
  refine HC.out.mono ?_
  rintro e w1 ⟨rfl, h1, h2⟩
  go_wp2_with fail
  go_end0
  exact ⟨rfl, h1, h2⟩
set_option maxRecDepth 100000 in
set_option maxHeartbeats 2000000 in
theorem wshort_any (N b : Nat) (acc : Bt) (v : Value) (w : World) (z : Int) (h : WrAt N b acc v w) (hl : acc.length ≤ 100000000) :
    Calls Tryd.prog 46 #[.pointer (some ⟨b, 0, none⟩), .int .i64 z] w (WrP N b (acc ++ w2B z) w) := by
  have HC := Hid.mk' (number_any N b acc v w 2 (u64N z) h (by omega) (u64N_lt z) hl)
  rw [u64N_cast] at HC
  clear h hl
  go_enter Tryd.func46, Tryd.ntmps46
  go_wp2_with fail
  refine HC.out.mono ?_
  rintro e w1 ⟨rfl, h1, h2⟩
  go_wp2_with fail
  go_end0
  exact ⟨rfl, h1, h2⟩
set_option maxRecDepth 100000 in
set_option maxHeartbeats 2000000 in
theorem wword_any (N b : Nat) (acc : Bt) (v : Value) (w : World) (z : Int) (h : WrAt N b acc v w) (hl : acc.length ≤ 100000000) :
    Calls Tryd.prog 31 #[.pointer (some ⟨b, 0, none⟩), .int .i64 z] w (WrP N b (acc ++ w8B z) w) := by
  have HC := Hid.mk' (number_any N b acc v w 8 (u64N z) h (by omega) (u64N_lt z) hl)
  rw [u64N_cast] at HC
  clear h hl
  go_enter Tryd.func31, Tryd.ntmps31
  go_wp2_with fail
  refine HC.out.mono ?_
  rintro e w1 ⟨rfl, h1, h2⟩
  go_wp2_with fail
  go_end0
  exact ⟨rfl, h1, h2⟩
set_option maxRecDepth 100000 in
set_option maxHeartbeats 2000000 in
theorem wtext_any (N b : Nat) (acc l : Bt) (v : Value) (w : World) (h : WrAt N b acc v w) (hl : acc.length + l.length ≤ 100000000) :
    Calls Tryd.prog 29 #[.pointer (some ⟨b, 0, none⟩), .string (tb l)] w (WrP N b (acc ++ l) w) := by
  obtain ⟨a1, c1, rfl⟩ := gown_form h.ow
  have x0 := h.cell
  have hN : N ≤ w.heap.size := Nat.le_of_lt (Nat.lt_of_le_of_lt h.nb h.lt)
  have HAP := Hid.mk' (ob_str (l := l) h.ow (by omega) hN 27)
  have HM := Hid.mk' (fun (W' : World) (v' : Value) => WrAt.more (W' := W') (v' := v') (l := l) h)
  clear h
  generalize acc ++ l = B at *
  generalize tb l = s at *
  go_enter Tryd.func29, Tryd.ntmps29
  go_wp2_with (at_builtin; refine wpl_app rfl _ _ 27 9 _ _ rfl rfl rfl HAP.out ?_; rintro v2 W2 ⟨ho2, hg2⟩; obtain ⟨bk2, hw2, hk2⟩ := HM.out _ _ hg2 ho2; obtain ⟨a2, c2, rfl⟩ := gown_form ho2; have y0 := cell_of_obj bk2 (j := 0) rfl; have z0 := Lib.frozen_of_heap bk2 0; have HW2 := Hid.mk' hw2; have HK2 := Hid.mk' hk2; clear bk2 hw2 hk2 ho2 hg2)
  go_end0
  exact ⟨rfl, ⟨_, HW2.out⟩, HK2.out⟩
end Go.Proofs.YtfamomjgjamnoaaDoor
