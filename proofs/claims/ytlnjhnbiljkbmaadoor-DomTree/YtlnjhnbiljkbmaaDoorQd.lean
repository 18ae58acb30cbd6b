/- math/bits on words; the sets' methods. -/
import Derived.Test.YtlnjhnbiljkbmaaDoorJl
import Derived.Test.YtlnjhnbiljkbmaaDoorQe
import Derived.Shelf.Spec.TrailingZeros
import Derived.Deep.MidRow
namespace Go.Proofs.YtlnjhnbiljkbmaaDoor
open Go.RowKit Go.Sort

def uV (x : Nat) : Value := .int .u64 (x : Int)
theorem testBit_div (x k : Nat) : x.testBit k = decide (x / 2 ^ k % 2 = 1) := by
  rw [Nat.testBit_eq_decide_div_mod_eq]
theorem bit_word (x k : Nat) (hx : x < 18446744073709551616) : (bits BinOp.and IntKind.u64 ((x : Int) / 2 ^ k) 1 == 1) = x.testBit k := by
  have e : ((x : Int) / 2 ^ k) = ((x / 2 ^ k : Nat) : Int) := by simp
  have h1 : x / 2 ^ k < 18446744073709551616 := Nat.lt_of_le_of_lt (Nat.div_le_self _ _) hx
  rw [e, show (1 : Int) = ((1 : Nat) : Int) from rfl, bits_and_u64_nat _ _ h1 (by decide), Nat.and_one_is_mod, testBit_div, Bool.eq_iff_iff]
  simp only [beq_iff_eq, decide_eq_true_eq]
  omega
set_option maxRecDepth 100000 in
set_option maxHeartbeats 4000000 in
theorem shas_any (b o v x : Nat) (w : World) (hv : v < 1024) (hx : x < 18446744073709551616) (hc : w.cell? ⟨b, o + v / 64, none⟩ = some (.int .u64 (x : Int))) : Calls Tryd.prog 19 #[.pointer (some ⟨b, o, none⟩), .int .i64 (v : Int)] w fun e w' => e = .returned (.bool (x.testBit (v % 64))) ∧ w' = w := by
  have HX := Hid.mk' (bit_word x (v % 64) hx)
  clear hx
  go_enter Tryd.func19, Tryd.ntmps19
  go_wp2_with fail
  go_ret
  exact ⟨ret_bool HX.out, rfl⟩
/-- A block's cells; all but one block stay. -/
abbrev Bk (W : World) (b : Nat) (T : TypeId) (C : List Value) : Prop := W.heap[b]? = some (.cells C.toArray T (0, 0))
structure Wr (b : Nat) (w w' : World) : Prop where
  os : w'.os = w.os
  tape : w'.tape = w.tape
  output : w'.output = w.output
  size : w'.heap.size = w.heap.size
  block : ∀ k, k ≠ b → w'.heap[k]? = w.heap[k]?
theorem Wr.refl (b : Nat) (w : World) : Wr b w w := ⟨rfl, rfl, rfl, rfl, fun _ _ => rfl⟩
theorem Wr.trans {b : Nat} {w w' w2 : World} (h : Wr b w w') (h' : Wr b w' w2) : Wr b w w2 := ⟨h'.os.trans h.os, h'.tape.trans h.tape, h'.output.trans h.output, h'.size.trans h.size, fun k hk => (h'.block k hk).trans (h.block k hk)⟩
theorem Wr.put (b i : Nat) (w : World) (v : Value) : Wr b w (w.setCell ⟨b, i, none⟩ v) := ⟨rfl, rfl, rfl, by simp, fun k hk => heap_setCell_other w ⟨b, i, none⟩ k v hk⟩
theorem Wr.drew {b : Nat} {w w' : World} (h : Wr b w w') : Wr b w w'.drew := ⟨h.os, h.tape, h.output, h.size, h.block⟩
theorem Wr.drewN {b : Nat} {w w' : World} (h : Wr b w w') (n : Nat) : Wr b w (w'.drewN n) := ⟨h.os, h.tape, h.output, h.size, h.block⟩
theorem Wr.below {b : Nat} {w w' : World} (h : Wr b w w') {N : Nat} (hN : N ≤ b) : Below N w w' := ⟨h.os, h.tape, h.output, Nat.le_of_eq h.size.symm, fun k hk => h.block k (by omega)⟩
theorem Bk.put {W : World} {b : Nat} {T : TypeId} {C : List Value} (h : Bk W b T C) (i : Nat) (v : Value) : Bk (W.setCell ⟨b, i, none⟩ v) b T (C.set i v) := by
  have := heap_setCell_same W b i C.toArray T v h
  rw [List.setIfInBounds_toArray] at this
  exact this
theorem Bk.cell {W : World} {b : Nat} {T : TypeId} {C : List Value} (h : Bk W b T C) {i : Nat} {v : Value} (hi : C[i]? = some v) : W.cell? ⟨b, i, none⟩ = some v := by
  rw [cell_of_row W b i C.toArray T (0, 0) h]
  simpa using hi
theorem Bk.frozen {W : World} {b : Nat} {T : TypeId} {C : List Value} (h : Bk W b T C) (i : Nat) : W.frozen? ⟨b, i, none⟩ = false := by
  unfold World.frozen?
  rw [h]
  simp
theorem wrap_u64_nat (n : Nat) (h : n < 18446744073709551616) : IntKind.u64.wrap (n : Int) = (n : Int) := by rw [IntKind.wrap_u64]; omega
theorem or_word (x k : Nat) (hx : x < 18446744073709551616) (hk : k < 64) : bits BinOp.or IntKind.u64 (x : Int) (IntKind.u64.wrap (2 ^ k)) = ((x ||| 2 ^ k : Nat) : Int) := by
  have h2 : (2 : Nat) ^ k < 18446744073709551616 := Nat.pow_lt_pow_right (a := 2) (m := k) (n := 64) (by decide) hk
  have e : IntKind.u64.wrap ((2 : Int) ^ k) = ((2 ^ k : Nat) : Int) := by
    have h3 : (2 : Int) ^ k = ((2 ^ k : Nat) : Int) := by simp
    rw [h3]
    exact wrap_u64_nat _ h2
  rw [e, bits_or_u64_nat _ _ hx h2]
set_option maxRecDepth 100000 in
set_option maxHeartbeats 4000000 in
theorem sadd_any (b v x : Nat) (T : TypeId) (C : List Value) (w : World) (hv : v < 1024) (hx : x < 18446744073709551616) (hb : Bk w b T C) (hC : C[v / 64]? = some (.int .u64 (x : Int))) : Calls Tryd.prog 35 #[.pointer (some ⟨b, 0, none⟩), .int .i64 (v : Int)] w fun e w' => (∃ r, e = .returned r) ∧ Bk w' b T (C.set (v / 64) (uV (x ||| 2 ^ (v % 64)))) ∧ Wr b w w' := by
  have hc := hb.cell hC
  have hf := hb.frozen (v / 64)
  have HB := Hid.mk' (hb.put (v / 64) (uV (x ||| 2 ^ (v % 64))))
  have HW := Hid.mk' (Wr.put b (v / 64) w (uV (x ||| 2 ^ (v % 64))))
  have ho := or_word x (v % 64) hx (Nat.mod_lt _ (by decide))
  clear hx hb hC
  go_enter Tryd.func35, Tryd.ntmps35
  go_region
  go_wp2_with fail
  go_end0
  exact ⟨⟨_, rfl⟩, HB.out, HW.out.drew⟩
theorem and_word (a m : Nat) (ha : a < 18446744073709551616) (hm : m < 18446744073709551616) : bits BinOp.and IntKind.u64 (a : Int) (m : Int) = ((a &&& m : Nat) : Int) := bits_and_u64_nat a m ha hm
theorem and_i127 (n : Nat) (h : n < 9223372036854775808) : bits BinOp.and IntKind.i64 (n : Int) 127 = ((n % 128 : Nat) : Int) := by
  have h1 : (BitVec.ofInt 64 (n : Int)).toNat = n := by
    rw [BitVec.ofInt_natCast, BitVec.toNat_ofNat]; exact Nat.mod_eq_of_lt (by omega)
  have h2 : (BitVec.ofInt 64 (127 : Int)).toNat = 127 := by decide
  show IntKind.i64.wrap ((BitVec.ofInt 64 (n : Int) &&& BitVec.ofInt 64 (127 : Int)).toNat : Int) = _
  rw [BitVec.toNat_and, h1, h2, show (127 : Nat) = 2 ^ 7 - 1 from rfl, Nat.and_two_pow_sub_one_eq_mod]
  have : n % 2 ^ 7 < 128 := Nat.mod_lt _ (by decide)
  rw [IntKind.wrap_i64]
  omega
set_option maxRecDepth 100000 in
set_option maxHeartbeats 4000000 in
theorem ones_any (x : Nat) (w : World) (hx : x < 18446744073709551616) : Calls Tryd.prog 28 #[.int .u64 (x : Int)] w fun e w' => e = .returned (.int .i64 (Lib.onesCount x : Int)) ∧ w' = w := by
  obtain ⟨y1, h1⟩ : ∃ y, y = (x / 2 &&& 6148914691236517205) + (x &&& 6148914691236517205) := ⟨_, rfl⟩
  obtain ⟨y2, h2⟩ : ∃ y, y = (y1 / 4 &&& 3689348814741910323) + (y1 &&& 3689348814741910323) := ⟨_, rfl⟩
  obtain ⟨y3, h3⟩ : ∃ y, y = (y2 / 16 + y2) &&& 1085102592571150095 := ⟨_, rfl⟩
  obtain ⟨y4, h4⟩ : ∃ y, y = y3 + y3 / 256 := ⟨_, rfl⟩
  obtain ⟨y5, h5⟩ : ∃ y, y = y4 + y4 / 65536 := ⟨_, rfl⟩
  obtain ⟨y6, h6⟩ : ∃ y, y = y5 + y5 / 4294967296 := ⟨_, rfl⟩
  obtain ⟨g0, g1, g2, g3, g4, g5, g6⟩ := ones_64 x y1 y2 y3 y4 y5 y6 hx h1 h2 h3 h4 h5 h6
  have k1 : IntKind.u64.wrap (bits BinOp.and IntKind.u64 ((x : Int) / 2) 6148914691236517205 + bits BinOp.and IntKind.u64 (x : Int) 6148914691236517205) = (y1 : Int) := by
    rw [show ((x : Int) / 2) = ((x / 2 : Nat) : Int) by omega, show (6148914691236517205 : Int) = ((6148914691236517205 : Nat) : Int) from rfl, and_word _ _ (by omega) (by decide), and_word _ _ hx (by decide), ← Int.natCast_add, ← h1, wrap_u64_nat _ g1]
  have k2 : IntKind.u64.wrap (bits BinOp.and IntKind.u64 ((y1 : Int) / 4) 3689348814741910323 + bits BinOp.and IntKind.u64 (y1 : Int) 3689348814741910323) = (y2 : Int) := by
    rw [show ((y1 : Int) / 4) = ((y1 / 4 : Nat) : Int) by omega, show (3689348814741910323 : Int) = ((3689348814741910323 : Nat) : Int) from rfl, and_word _ _ (by omega) (by decide), and_word _ _ g1 (by decide), ← Int.natCast_add, ← h2, wrap_u64_nat _ (by omega)]
  have k3 : bits BinOp.and IntKind.u64 (IntKind.u64.wrap ((y2 : Int) / 16 + (y2 : Int))) 1085102592571150095 = (y3 : Int) := by
    rw [show ((y2 : Int) / 16 + (y2 : Int)) = ((y2 / 16 + y2 : Nat) : Int) by omega, wrap_u64_nat _ (by omega), show (1085102592571150095 : Int) = ((1085102592571150095 : Nat) : Int) from rfl, and_word _ _ (by omega) (by decide), ← h3]
  have k4 : IntKind.u64.wrap ((y3 : Int) + (y3 : Int) / 256) = (y4 : Int) := by
    rw [show ((y3 : Int) + (y3 : Int) / 256) = ((y3 + y3 / 256 : Nat) : Int) by omega, ← h4, wrap_u64_nat _ (by omega)]
  have k5 : IntKind.u64.wrap ((y4 : Int) + (y4 : Int) / 65536) = (y5 : Int) := by
    rw [show ((y4 : Int) + (y4 : Int) / 65536) = ((y4 + y4 / 65536 : Nat) : Int) by omega, ← h5, wrap_u64_nat _ (by omega)]
  have k6 : IntKind.u64.wrap ((y5 : Int) + (y5 : Int) / 4294967296) = (y6 : Int) := by
    rw [show ((y5 : Int) + (y5 : Int) / 4294967296) = ((y5 + y5 / 4294967296 : Nat) : Int) by omega, ← h6, wrap_u64_nat _ (by omega)]
  have k7 : IntKind.i64.wrap (y6 : Int) = (y6 : Int) := by rw [IntKind.wrap_i64]; omega
  have k8 := and_i127 y6 g6
  rw [g0] at k8
  clear h1 h2 h3 h4 h5 h6 g0 g1 g2 g3 g4 g5 g6 hx
  go_enter Tryd.func28, Tryd.ntmps28
  go_wp2_with fail
  go_ret
  exact ⟨rfl, rfl⟩
set_option maxRecDepth 100000 in
set_option maxHeartbeats 4000000 in
theorem trail_core (x k idx : Nat) (w : World) (hx0 : ((x : Int) == 0) = false)
    (key : IntKind.u64.wrap (bits BinOp.and IntKind.u64 (x : Int) (IntKind.u64.wrap (-(x : Int))) * 285870213051353865) / 288230376151711744 = (idx : Int))
    (hi : idx < 64) (hk : k < 64) (hcell : w.cell? ⟨0, idx, none⟩ = some (.int .u8 k)) :
    Calls Tryd.prog 37 #[.int .u64 (x : Int)] w fun e w' => e = .returned (.int .i64 (k : Int)) ∧ w' = w := by
  go_enter Tryd.func37, Tryd.ntmps37
  go_wp2_with (simp only [key])
  go_ret
  exact ⟨rfl, rfl⟩
theorem trail_any (x : Nat) (hx : x < 18446744073709551616) (hx0 : x ≠ 0) (w : World) (hT : TabAt 0 Lib.deBruijn64tab w) : Calls Tryd.prog 37 #[.int .u64 (x : Int)] w fun e w' => e = .returned (.int .i64 (Lib.ctz 64 x : Int)) ∧ w' = w := by
  obtain ⟨hlow, hk⟩ := Lib.lowest_bit 64 x hx0 hx
  obtain ⟨hi, htab⟩ := Lib.deBruijn64_at _ hk
  have hcell := hT _ hi
  rw [htab] at hcell
  exact trail_core x _ _ w (by simp; omega) (tz64_key x _ hx hx0 hlow) hi hk hcell
set_option maxRecDepth 100000 in
set_option maxHeartbeats 4000000 in
theorem ssize_any (b o : Nat) (ws : List Nat) (w : World) (hk : OkW ws) (hr : w.rangeAt b o (ws.map uV)) : Calls Tryd.prog 21 #[.pointer (some ⟨b, o, none⟩)] w fun e w' => e = .returned (.int .i64 (sizeW ws : Int)) ∧ w' = w := by
  have HR : Hid (∀ j (h : j < ws.length), w.cell? ⟨b, o + j, none⟩ = some (.int .u64 ((ws[j] : Nat) : Int))) := fun j h => hr j _ (by rw [List.getElem?_map, List.getElem?_eq_getElem h]; rfl)
  have HK := Hid.mk' hk
  have hl := hk.len
  have HS := Hid.mk' (sizeW_le hk)
  clear hr hk
  go_enter Tryd.func21, Tryd.ntmps21
  go_wp2_with fail
  go_loopw [3, 7] (fun t3 t7 wr => ∃ j : Nat, j ≤ 16 ∧ t7 = .int .i64 (j : Int) ∧ t3 = .int .i64 (sizeW (ws.take j) : Int) ∧ wr = w) (fun _ t7 _ => 16 - (intOf t7).toNat)
  case atStart => exact ⟨0, by omega, rfl, by simp [sizeW], rfl⟩
  case round =>
    obtain ⟨j, hj, rfl, rfl, rfl⟩ := hrel
    by_cases hlt : j < 16
    · have hlt' : j < ws.length := by omega
      have c0 := HR.out j hlt'
      have HO := Hid.mk' (ones_any ws[j] wr (HK.out.lt _ (List.getElem_mem hlt')))
      have hs : sizeW (ws.take (j + 1)) = sizeW (ws.take j) + Lib.onesCount ws[j] := by
        unfold sizeW
        rw [List.take_succ_eq_append_getElem hlt', List.map_append, List.sum_append]
        simp
      have hs2 : sizeW (ws.take (j + 1)) ≤ sizeW ws := by
        have e : ws = ws.take (j + 1) ++ ws.drop (j + 1) := (List.take_append_drop _ _).symm
        unfold sizeW
        rw [e, List.map_append, List.sum_append, ← e]
        omega
      have hs3 := HS.out
      have hsI : ((sizeW (ws.take j) : Int) + (Lib.onesCount ws[j] : Int)) = (sizeW (ws.take (j + 1)) : Int) := by omega
      have hsB : sizeW (ws.take (j + 1)) ≤ 1024 := by omega
      obtain ⟨s2, e2⟩ : ∃ s, sizeW (ws.take (j + 1)) = s := ⟨_, rfl⟩
      rw [e2] at hs hsI hsB hs2
      have HE := Hid.mk' e2
      clear e2
      generalize sizeW (ws.take j) = s1 at *
      generalize ws[j] = x at *
      clear hs hs2 hs3
      go_wp2_with (go_at_call 28; refine HO.out.mono ?_; rintro e w2 ⟨rfl, rfl⟩)
      go_roundw
      case rel => exact ⟨j + 1, by omega, by go_num, by rw [HE.out], trivial⟩
      case measure => simp [intOf]; omega
    · go_wp2_with fail
      go_ret
      obtain rfl : j = 16 := by omega
      exact ⟨by rw [List.take_of_length_le (by omega)]; rfl, rfl⟩
end Go.Proofs.YtlnjhnbiljkbmaaDoor
