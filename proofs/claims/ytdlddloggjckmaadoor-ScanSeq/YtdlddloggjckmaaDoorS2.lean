/- The function that steps hands back, for bodies that keep all blocks behind the call: the items of the source in their order. -/
import Derived.Test.YtdlddloggjckmaaDoorS1
namespace Go.Proofs.YtdlddloggjckmaaDoor
open Go.RowKit Go.Shelf
attribute [local go_sem] Oper.semAt_some

/-- What a round that goes on keeps: all blocks from B on, the source's box, the variable. -/
def KpA (Bs B : Nat) (W W' : World) : Prop := W.heap.size ≤ W'.heap.size ∧ ∀ k, k < W.heap.size → (B ≤ k ∨ k = Bs ∨ k = 1) → W'.heap[k]? = W.heap[k]?
theorem KpA.trans {Bs B : Nat} {X Y Z : World} (h : KpA Bs B X Y) (k : KpA Bs B Y Z) : KpA Bs B X Z :=
  ⟨Nat.le_trans h.1 k.1, fun i hi hc => (k.2 i (Nat.lt_of_lt_of_le hi h.1) hc).trans (h.2 i hi hc)⟩
theorem own_abides {β : Type} {B : Nat} {I : β → World → Prop} (h : OwnFrom B I) : AbidesFrom B I :=
  fun s W W' row hs hg hr => h s W W' row hs hg (fun r e => by obtain ⟨h1, o, ho, hw⟩ := hr r e; exact ⟨h1, o, ho, Obj.not_cells_of_walk hw⟩)

set_option maxRecDepth 100000 in
set_option maxHeartbeats 1000000 in
theorem steps1_o (n l Bs : Nat) (hn : 1 ≤ n) (s : ByteArray) (hs : s.size ≤ 281474976710656) (J Jx : List It → World → Prop) (B0 : Nat) (hJ : AbidesFrom B0 J)
    (hY : ∀ pre x W, J pre W → (pre ++ [x]) <+: items s → YieldAt Fence.wide 0 Tryd.prog l (encI x) W fun e W' =>
      KpA Bs B0 W W' ∧ ((e = .returned (.bool true) ∧ J (pre ++ [x]) W') ∨ (e = .returned (.bool false) ∧ Jx (pre ++ [x]) W')))
    (W : World) (hBs : W.cell? ⟨Bs, 0, none⟩ = some (.string s)) (hv : VarOk W) (hB0 : B0 ≤ W.heap.size) (h0 : J [] W) :
    CallsIn Fence.wide n Tryd.prog 32 #[.func (.yield l) #[] #[], .pointer (some ⟨Bs, 0, none⟩)] W fun e W' => (∃ v, e = .returned v) ∧
      (J (items s) W' ∨ ∃ pre, pre <+: items s ∧ Jx pre W') := by
  have hm : s.size ≤ maxLen := by unfold maxLen; omega
  have hm' : s.size ≤ 9223372036854775807 := by omega
  have hp0 := passEnd_le false s.data.toList 0 (Nat.zero_le _)
  rw [ba_len] at hp0
  refine callsIn_of_wp Tryd.func32 rfl trivial ?_ rfl
  simp only [Tryd.ntmps32, List.size_toArray, List.length_cons, List.length_nil, Nat.reduceAdd, Nat.reduceSub, Array.replicate_succ, Array.replicate_zero, List.push_toArray, List.append_toArray, List.nil_append, List.cons_append]
  gi_wp2_with (refine ⟨trivial, ?_⟩; gi_at_call 33; refine (callsIn_wide.2 (pass_any _ _ _ hm (by omega) (by omega))).mono ?_; rintro e w' ⟨rfl, rfl⟩)
  gi_loopw [3] (fun p wr => ∃ (pre : List It) (k f : Nat), p = .int .i64 k ∧ k ≤ s.size ∧ s.size < k + f ∧ Hid (items s = pre ++ itemsFrom s f k) ∧ wr.cell? ⟨Bs, 0, none⟩ = some (.string s) ∧ VarOk wr ∧ B0 ≤ wr.heap.size ∧ J pre wr)
    (fun p _ => s.size - (intOf p).toNat)
  case atStart => exact ⟨[], _, s.size + 1, rfl, hp0, by omega, rfl, hBs, hv, hB0, h0⟩
  case round =>
    obtain ⟨pre, k, f, rfl, hk, hf, HI, hB, hV, hBW, hJs⟩ := hrel
    by_cases hlt : k < s.size
    · have hpl : pre.length < (items s).length := by
        obtain ⟨f', rfl⟩ : ∃ f', f = f' + 1 := ⟨f - 1, by omega⟩
        rw [HI.out, itemsFrom_in s f' k hlt]; simp
      obtain ⟨kd, tx, nn, er, hx⟩ : ∃ kd tx nn er, itemAt s k = ⟨kd, k, tx, nn, er⟩ := ⟨_, _, _, _, rfl⟩
      have h34 : ∀ w, VarOk w → Calls Tryd.prog 34 #[.string (s.extract k s.size)] w fun e w' => e = .returned (.tuple #[tokV kd 0 tx nn, .int .i64 er]) ∧ Below w.heap.size w w' := fun w hv => by
        have := take_at s k w hs hlt hv
        rw [hx] at this; exact this
      have hts := item_text_size s k
      rw [hx] at hts
      have hnl := nextAt_le s k hlt
      have HX : Hid (itemAt s k = ⟨kd, k, tx, nn, er⟩) := hx
      have HT : Hid (tx.size = tkL (takeR (s.data.toList.drop k))) := hts
      rw [← hts] at hnl
      obtain ⟨hn1, hn2⟩ := hnl
      clear hx hts
      gi_wp2_with fail
      refine ⟨trivial, ?_⟩
      refine (callsIn_wide.2 (h34 _ hV)).mono ?_
      rintro e w1 ⟨rfl, hb1⟩
      have hJ2 := hJ pre wr (w1.alloc (.cells #[.int .i64 kd, .int .i64 k, .string tx, .int .i64 nn] 33)) none hJs (below_grown (hb1.alloc hb1.size _)) (by simp)
      have hpx : (pre ++ [⟨kd, k, tx, nn, er⟩]) <+: items s := by
        obtain ⟨f', rfl⟩ : ∃ f', f = f' + 1 := ⟨f - 1, by omega⟩
        rw [HI.out, itemsFrom_in s f' k hlt, HX.out]
        exact ⟨(if er = 0 then itemsFrom s f' (nextAt s k) else []), by simp⟩
      have HP : Hid ((pre ++ [⟨kd, k, tx, nn, er⟩]) <+: items s) := hpx
      obtain ⟨fn, tmps, assign, body, hy, hR⟩ := hY pre ⟨kd, k, tx, nn, er⟩ _ hJ2 hpx
      clear hpx
      gi_wp2_with fail
      refine (round_any hR).mono ?_
      rintro e W3 ⟨hk3, ⟨rfl, hJ3⟩ | ⟨rfl, hJx3⟩⟩
      · obtain ⟨hks, hk4⟩ := hk3
        have hBlt : Bs < wr.heap.size := Lib.lt_of_cell hB
        have hV1 := hV.below hb1
        have hnew : (w1.alloc (.cells #[.int .i64 kd, .int .i64 k, .string tx, .int .i64 nn] 33)).heap[w1.heap.size]? = some (.cells #[.int .i64 kd, .int .i64 k, .string tx, .int .i64 nn] 33 (0, 0)) := World.alloc_heap_new w1 _
        have hsz1 := hb1.size
        have hT3 := (hk4 w1.heap.size (by simp) (.inl (by omega))).trans hnew
        have hkB := hk4 Bs (by simp; omega) (.inr (.inl rfl))
        have hk1 := hk4 1 (by have := hV1.lt; simp; omega) (.inr (.inr rfl))
        have hB1 : (w1.alloc (.cells #[.int .i64 kd, .int .i64 k, .string tx, .int .i64 nn] 33)).cell? ⟨Bs, 0, none⟩ = some (.string s) :=
          (((hb1.alloc hsz1 _).cell (p := ⟨Bs, 0, none⟩) hBlt)).trans hB
        have hB3 : W3.cell? ⟨Bs, 0, none⟩ = some (.string s) := (World.cell?_of_block (a := ⟨Bs, 0, none⟩) hkB).trans hB1
        have hV3 : VarOk W3 := by
          obtain ⟨te, pe, hv⟩ := hV1.alloc (.cells #[.int .i64 kd, .int .i64 k, .string tx, .int .i64 nn] 33)
          exact ⟨te, pe, (World.cell?_of_block (a := ⟨1, 0, none⟩) hk1).trans hv⟩
        have ht3 : W3.cell? ⟨w1.heap.size, 2, none⟩ = some (.string tx) := by simp [World.cell?, hT3]
        clear hk4 hkB hk1 hnew hT3 hB1 hR hy hJ2
        simp only [World.size_alloc] at hks
        by_cases her : er = 0
        · subst her
          have hnx : passEnd false s.data.toList (k + tx.size) = nextAt s k := by unfold nextAt; rw [HT.out]
          have hgt := nextAt_gt s k hlt (by rw [HX.out])
          have HN : Hid (passEnd false s.data.toList (k + tx.size) = nextAt s k) := hnx
          clear hnx
          have h33 : ∀ w, Calls Tryd.prog 33 #[.string s, .int .i64 ((k : Int) + (tx.size : Int))] w fun e w' => e = .returned (.int .i64 (nextAt s k : Nat)) ∧ w' = w := fun w => by
            have := pass_any s ((k : Int) + (tx.size : Int)) w hm (by omega) (by omega)
            rw [show ((k : Int) + (tx.size : Int)).toNat = k + tx.size from by omega, HN.out] at this
            exact this
          gi_wp2_with fail
          refine ⟨trivial, ?_⟩
          refine (callsIn_wide.2 (h33 _)).mono ?_
          rintro e w4 ⟨rfl, rfl⟩
          gi_wp2_with fail
          go_roundw
          case rel =>
            obtain ⟨f', rfl⟩ : ∃ f', f = f' + 1 := ⟨f - 1, by omega⟩
            refine ⟨pre ++ [⟨kd, k, tx, nn, 0⟩], nextAt s k, f', rfl, hn1, by omega, ?_, hB3, hV3, by omega, hJ3⟩
            show items s = _
            rw [HI.out, itemsFrom_in s f' k hlt, HX.out, if_pos rfl]; simp
          case measure => simp [intOf]; omega
        · have her1 : (er == 0) = false := by simpa using her
          have her2 : (er != 0) = true := by simpa using her
          gi_wp2_with fail
          have hit : items s = pre ++ [⟨kd, k, tx, nn, er⟩] := items_last HP.out her
          rw [← hit] at hJ3
          exact bodyPost_ret (results_none rfl _ _ _) rfl ⟨⟨_, rfl⟩, .inl hJ3⟩
      · gi_wp2_with fail
        exact bodyPost_ret (results_none rfl _ _ _) rfl ⟨⟨_, rfl⟩, .inr ⟨_, HP.out, hJx3⟩⟩
    · gi_wp2
      go_end0
      have hit : items s = pre := by rw [HI.out, itemsFrom_end s f k hlt, List.append_nil]
      exact ⟨⟨_, rfl⟩, .inl (by rw [hit]; exact hJs)⟩

theorem steps_o (Bs : Nat) (s : ByteArray) (hs : s.size ≤ 281474976710656) (w : World) (hB : w.cell? ⟨Bs, 0, none⟩ = some (.string s)) (hv : VarOk w) :
    SeqO 32 #[.pointer (some ⟨Bs, 0, none⟩)] encI (KpA Bs) (items s) w :=
  fun l J Jx W hW hJ _ hY h0 =>
    calls_any (steps1_o 1 l Bs (Nat.le_refl _) s hs J Jx W.heap.size (own_abides hJ) hY W ((hW.cell (p := ⟨Bs, 0, none⟩) (Lib.lt_of_cell hB)).trans hB) (hv.below hW) (Nat.le_refl _) h0)
end Go.Proofs.YtdlddloggjckmaaDoor
