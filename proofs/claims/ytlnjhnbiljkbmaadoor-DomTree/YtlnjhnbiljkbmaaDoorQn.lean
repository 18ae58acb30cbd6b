/- dom.begun. -/
import Derived.Test.YtlnjhnbiljkbmaaDoorQm
import Derived.Test.YtlnjhnbiljkbmaaDoorQi
namespace Go.Proofs.YtlnjhnbiljkbmaaDoor
open Go.RowKit Go.Shelf

def parS (n : Nat) (fr : Nat → List Nat) (j : Nat) : List (List Nat) := (List.range n).map fun v => if v < j ∧ fr v ≠ [] then fullW else zeroW
theorem parS_len (n : Nat) (fr : Nat → List Nat) (j : Nat) : (parS n fr j).length = n := by simp [parS]
theorem parS_16 (n : Nat) (fr : Nat → List Nat) (j : Nat) : ∀ ws ∈ parS n fr j, ws.length = 16 := fun ws hw => by
  unfold parS at hw
  obtain ⟨v, _, rfl⟩ := List.mem_map.1 hw
  split
  · simp [fullW]
  · simp [zeroW]
theorem parS_at {n : Nat} {fr : Nat → List Nat} {j v : Nat} (h : v < n) : (parS n fr j)[v]? = some (if v < j ∧ fr v ≠ [] then fullW else zeroW) := by
  unfold parS
  rw [List.getElem?_map, List.getElem?_range h]
  rfl
theorem parS_zero (n : Nat) (fr : Nat → List Nat) : parS n fr 0 = List.replicate n zeroW := by
  refine List.ext_getElem? fun v => ?_
  by_cases h : v < n
  · rw [parS_at h, if_neg (by omega), List.getElem?_replicate, if_pos h]
  · rw [List.getElem?_eq_none (by rw [parS_len]; omega), List.getElem?_eq_none (by simp; omega)]
theorem parS_yes {n : Nat} {fr : Nat → List Nat} {j : Nat} (hj : j < n) (h : fr j ≠ []) : (parS n fr j).set j fullW = parS n fr (j + 1) := by
  refine List.ext_getElem? fun v => ?_
  by_cases hv : v < n
  · rw [parS_at hv, List.getElem?_set, parS_len, parS_at hv]
    by_cases e : j = v
    · subst e; rw [if_pos rfl, if_pos hj, if_pos ⟨Nat.lt_succ_self _, h⟩]
    · rw [if_neg e]
      congr 1
      by_cases h2 : v < j ∧ fr v ≠ []
      · rw [if_pos h2, if_pos ⟨by omega, h2.2⟩]
      · rw [if_neg h2, if_neg (fun h3 => h2 ⟨by omega, h3.2⟩)]
  · rw [List.getElem?_eq_none (by rw [List.length_set, parS_len]; omega), List.getElem?_eq_none (by rw [parS_len]; omega)]
theorem parS_no {n : Nat} {fr : Nat → List Nat} {j : Nat} (h : fr j = []) : parS n fr (j + 1) = parS n fr j := by
  unfold parS
  refine List.map_congr_left fun v _ => ?_
  by_cases h2 : v < j ∧ fr v ≠ []
  · rw [if_pos h2, if_pos ⟨by omega, h2.2⟩]
  · rw [if_neg h2, if_neg (fun h3 => h2 ⟨by
      have := h3.1
      have : v ≠ j := by rintro rfl; exact h3.2 h
      omega, h3.2⟩)]
theorem parS_all {n : Nat} {fr : Nat → List Nat} : (parS n fr n).set 0 (addW zeroW 0) = begS n fr := by
  refine List.ext_getElem? fun v => ?_
  unfold begS
  rw [List.getElem?_map]
  by_cases hv : v < n
  · rw [List.getElem?_range hv, List.getElem?_set, parS_len, parS_at hv]
    by_cases e : 0 = v
    · subst e; rw [if_pos rfl, if_pos hv]; rfl
    · rw [if_neg e]
      show _ = some (if v = 0 then addW zeroW 0 else if fr v = [] then zeroW else fullW)
      rw [if_neg (Ne.symm e)]
      by_cases h2 : fr v = []
      · rw [if_pos h2, if_neg (fun h3 => h3.2 h2)]
      · rw [if_neg h2, if_pos ⟨hv, h2⟩]
  · rw [List.getElem?_eq_none (by rw [List.length_set, parS_len]; omega), List.getElem?_eq_none (by simp; omega)]
    rfl
def mkS (n : Nat) : Array Value := madeCells (zeroW.map uV).toArray (n * 16)
theorem run_mkS (W : World) (n : Nat) (hn : n ≤ 1000000) : (Instr.makeSlice 46 (.int .i64 (n : Int)) (.int .i64 (n : Int))).run Tryd.prog W = .ok (.slice (some ⟨W.heap.size, 0, none⟩) n n) (W.alloc (.cells (mkS n) 50)) := by
  obtain ⟨i0, hi, hz0, hz1, hz2⟩ := info_parts Tryd.infoSet
  have := run_make (P := Tryd.prog) W 46 50 i0 (.agg (zeroW.map uV).toArray) Tryd.underlying46 hi hz0 .i64 .i64 n n (by omega) (Int.le_refl _) (by rw [hz2]; omega) (by omega)
  rw [hz1, Int.toNat_natCast] at this
  exact this
theorem flat_zero : ∀ n : Nat, flatS (List.replicate n zeroW) = List.replicate (n * 16) (uV 0)
  | 0 => by simp [flatS]
  | n + 1 => by
    have ih := flat_zero n
    unfold flatS at *
    rw [List.replicate_succ, List.flatMap_cons, ih, show (n + 1) * 16 = 16 + n * 16 by omega, ← List.replicate_append_replicate]
    congr 1
theorem mkS_eq {fr0 : Nat → List Nat} (n : Nat) : mkS n = (flatS (parS n fr0 0)).toArray := by
  rw [parS_zero, flat_zero]
  have hz : (zeroW.map uV).toArray = Array.replicate 16 (uV 0) := by unfold zeroW; rw [List.map_replicate, List.toArray_replicate]
  have h : (mkS n).toList = List.replicate (n * 16) (uV 0) := by
    refine List.eq_replicate_iff.2 ⟨by rw [Array.length_toList]; unfold mkS; exact size_madeCells _ _, fun b hb => ?_⟩
    unfold mkS madeCells at hb
    rw [Array.toList_map] at hb
    obtain ⟨k, _, rfl⟩ := List.mem_map.1 hb
    rw [hz]
    have hk : k % 16 < 16 := Nat.mod_lt _ (by decide)
    rw [Array.size_replicate, getElem!_pos _ _ (by rw [Array.size_replicate]; exact hk), Array.getElem_replicate]
  rw [← h]
theorem wpl_put_set {ops : Array Oper} {rest : List Oper} {op : Oper} {a : Act} {w : World} {Q : Exit → Act → World → Prop} (hgd : op.guard = Option.none) (x y : Operand) (ho : op.op = .store 50 x y) {R v : Nat} {S : List (List Nat)} (ws : List Nat) (hb : Bk w R 50 (flatS S)) (h16 : ∀ ws ∈ S, ws.length = 16) (hv : v < S.length) (hx : a.eval x = .pointer (some ⟨R, v * 16, Option.none⟩)) (hy : a.eval y = .agg (ws.map uV).toArray) (hw : ws.length = 16)
    (h : ∀ W1, Bk W1 R 50 (flatS (S.set v ws)) → Wr R w W1 → wpList Tryd.prog ops Q rest (a.put op.dst undef) W1) : wpList Tryd.prog ops Q (op :: rest) a w :=
  wpList_store_mid hgd 50 x y ho R (v * 16) (ws.map uV).toArray hx hy (by rw [List.size_toArray, List.length_map, hw]; exact flat_there hb h16 hv) (by rw [Tryd.sizeSet]; simp [hw]) (uV_one ws) (h _ (flat_put hb h16 hv hw) (Wr.puts R _ _ w))
def BeP (n : Nat) (fr : Nat → List Nat) (w : World) (e : Ending) (w' : World) : Prop := ∃ R, e = .returned (.slice (some ⟨R, 0, none⟩) n n) ∧ w.heap.size ≤ R ∧ Bk w' R 50 (flatS (begS n fr)) ∧ Below w.heap.size w w'
set_option maxRecDepth 100000 in
set_option maxHeartbeats 4000000 in
theorem begun_any (N F n : Nat) (fr : Nat → List Nat) (vs : List Value) (w : World) (hr : Rws N F n fr vs w) (hn : n ≤ 1024) (hz : fr 0 = []) (hl : ∀ j, (fr j).length ≤ 1000000) : Calls Tryd.prog 26 #[.slice (some ⟨F, 0, none⟩) n n] w (BeP n fr w) := by
  have HR := Hid.mk' hr
  have hmk : ∀ W, _ := fun W => run_mkS W n (by omega)
  have HB0 : Hid (Bk (w.alloc (.cells (mkS n) 50)) w.heap.size 50 (flatS (parS n fr 0))) := by
    have := heap_alloc_new w (.cells (mkS n) 50)
    rw [mkS_eq (fr0 := fr)] at this
    rw [mkS_eq (fr0 := fr)]
    exact this
  have HW0 := Hid.mk' (Below.one (Below.refl _ w) (.cells (mkS n) 50))
  have HFL : Hid (F < w.heap.size) := (Array.getElem?_eq_some_iff.1 hr.f).1
  have HZ := Hid.mk' hz
  have HL := Hid.mk' hl
  clear hr hz hl
  go_enter Tryd.func26, Tryd.ntmps26
  go_wp2_with fail
  clear hmk
  go_loopw [10] (fun t10 wr => ∃ j : Nat, j ≤ n ∧ t10 = .int .i64 (j : Int) ∧ Bk wr w.heap.size 50 (flatS (parS n fr j)) ∧ Below w.heap.size w wr) (fun t10 _ => n - (intOf t10).toNat)
  case atStart => exact ⟨0, Nat.zero_le _, rfl, HB0.out, HW0.out⟩
  case round =>
    clear HB0 HW0
    obtain ⟨j, hj, rfl, hb, hw⟩ := hrel
    have HB := Hid.mk' hb
    have HW := Hid.mk' hw
    clear hb hw
    by_cases hlt : j < n
    · have hli : (j : Int) < (n : Int) := by omega
      have hvl : j < vs.length := by have := HR.out.len; omega
      have hfb := (HW.out.block _ HFL.out).trans HR.out.f
      have c0 := cell_of_obj hfb (j := j) (by rw [List.getElem?_toArray]; exact vs_at hvl)
      obtain ⟨a1, c1, e1⟩ := gown_form (HR.out.rows j hlt)
      rw [e1] at c0
      have hlj := HL.out j
      clear hfb e1
      by_cases hq0 : fr j = []
      · have hq : decide ((0 : Int) < ((fr j).length : Int)) = false := by rw [hq0]; rfl
        have hq2 : ¬ (0 : Int) < ((fr j).length : Int) := by rw [hq0]; decide
        have HE := Hid.mk' (parS_no (n := n) hq0)
        clear hq0
        go_wp2_with fail
        go_roundw
        case rel => exact ⟨j + 1, hlt, by go_num, by rw [HE.out]; exact HB.out, HW.out⟩
        case measure => simp [intOf]; omega
      · have hp : 0 < (fr j).length := List.length_pos_iff.2 hq0
        have hq2 : (0 : Int) < ((fr j).length : Int) := by omega
        have HE := Hid.mk' (parS_yes hlt hq0)
        have HF := Hid.mk' (full_any wr)
        have hjl : j < (parS n fr j).length := by rw [parS_len]; exact hlt
        have HJ := Hid.mk' hjl
        clear hjl
        clear hq0
        go_wp2_with (first
          | (go_at_call 34; refine HF.out.mono ?_; rintro e w2 ⟨rfl, bb2⟩; have HB2 := Hid.mk' bb2; clear bb2)
          | (refine wpl_put_set rfl _ _ rfl fullW (blk_stay HB.out HB2.out) (parS_16 _ _ _) HJ.out rfl rfl okW_full.len ?_; rintro W3 b3 wr3; have HB3 := Hid.mk' b3; have HW3 := Hid.mk' wr3; clear b3 wr3))
        go_roundw
        case rel => exact ⟨j + 1, hlt, by go_num, by rw [← HE.out]; exact HB3.out, (Below.on HW.out HB2.out).trans (HW3.out.below (Nat.le_refl _))⟩
        case measure => simp [intOf]; omega
    · have e : j = n := by omega
      rw [e] at HB
      clear e
      by_cases hn0 : n = 0
      · have hq2 : ¬ (0 : Int) < (n : Int) := by omega
        have HN : Hid (flatS (parS n fr n) = flatS (begS n fr)) := by
          show _ = _
          rw [hn0]; rfl
        clear hn0
        go_wp2_with fail
        go_ret
        exact ⟨_, rfl, Nat.le_refl _, by rw [← HN.out]; exact HB.out, HW.out⟩
      · have hq2 : (0 : Int) < (n : Int) := by omega
        have h0 : 0 < (parS n fr n).length := by rw [parS_len]; omega
        have ez : (parS n fr n)[0] = zeroW := by
          have h1 := parS_at (n := n) (fr := fr) (j := n) (v := 0) (by omega)
          rw [if_neg (fun h => h.2 HZ.out), List.getElem?_eq_getElem h0] at h1
          exact Option.some.inj h1
        have HA : Hid (Calls Tryd.prog 35 #[.pointer (some ⟨w.heap.size, 0, none⟩), .int .i64 0] wr fun e w' => (∃ r, e = .returned r) ∧ Bk w' w.heap.size 50 (flatS (begS n fr)) ∧ Wr w.heap.size wr w') := by
          have hb := HB.out
          rw [flatS_split h0, ez] at hb
          have := sadd_set w.heap.size 0 50 zeroW (flatS ((parS n fr n).drop (0 + 1))) wr (by decide) okW_zero hb
          rw [← parS_all, flatS_set h0]
          exact this
        clear hn0 h0 ez
        go_wp2_with (go_at_call 35; refine HA.out.mono ?_; rintro e w3 ⟨⟨r3, rfl⟩, b3, wr3⟩)
        go_ret
        exact ⟨_, rfl, Nat.le_refl _, b3, HW.out.trans (wr3.below (Nat.le_refl _))⟩
end Go.Proofs.YtlnjhnbiljkbmaaDoor
