/- The document's own: operation, instruction. -/
import Derived.Test.YtboidkmnkicoeaaGreatDoorVc
import Derived.Test.YtboidkmnkicoeaaGreatDoorCb
import Derived.Test.YtboidkmnkicoeaaGreatDoorKd
namespace Go.Proofs.YtboidkmnkicoeaaGreatDoor
open Go.RowKit Go.Sort

def opI (o : Option Nat) : Int := match o with | some k => k | none => -1
theorem opN_step (w : Bt) {k : Nat} (hk : k < 20) : opN w (20 - k) k = if (rwN k).word.data.toList = w then some k else opN w (20 - (k + 1)) (k + 1) := by
  rw [show 20 - k = (20 - (k + 1)) + 1 by omega, opN]
theorem strq (a : ByteArray) (l : Bt) : (a.toList == (tb l).toList) = decide (a.data.toList = l) := by
  rw [Lib.toList_data, Lib.toList_data, tb_list]
  by_cases h : a.data.toList = l
  · rw [decide_eq_true h, h]; simp
  · rw [decide_eq_false h, beq_eq_false_iff_ne]; exact h
set_option maxRecDepth 100000 in
set_option maxHeartbeats 4000000 in
theorem oper_any (v : Bt) (w : World) : Calls Tryz.prog 15 #[.string (tb v)] w fun e w' => e = .returned (.int .i64 (opI (opOf v))) ∧ Below w.heap.size w w' := by
  have HW := Hid.mk' words_any
  have HC : Hid (∀ k, k < 20 → (w.alloc (.cells wordsC 9)).cell? ⟨w.heap.size, k, none⟩ = some (.string (rwN k).word)) := fun k hk => words_cell w hk
  have HB := Hid.mk' (Below.one (Below.refl _ w) (.cells wordsC 9))
  have HS : Hid (∀ k, k < 20 → opN v (20 - k) k = if (rwN k).word.data.toList = v then some k else opN v (20 - (k + 1)) (k + 1)) := fun k hk => opN_step v hk
  have HQ : Hid (∀ a : ByteArray, (a.toList == (tb v).toList) = decide (a.data.toList = v)) := fun a => strq a v
  have H0 : Hid (opN v (20 - 0) 0 = opOf v) := (rfl : opN v (20 - 0) 0 = opOf v)
  generalize wordsC = C at *
  generalize opOf v = O at *
  generalize tb v = s at *
  go_enter Tryz.func15, Tryz.ntmps15
  go_wp2_with (go_at_call 32; refine (HW.out _).mono ?_; rintro e w1 ⟨rfl, rfl⟩)
  generalize w.alloc (.cells C 9) = W at *
  generalize hG : w.heap.size = G at *
  go_loopw [4] (fun i wr => ∃ k : Nat, k ≤ 20 ∧ i = .int .i64 k ∧ opN v (20 - k) k = O ∧ wr = W) (fun i _ => 20 - (intOf i).toNat)
  case atStart => exact ⟨0, by omega, rfl, H0.out, by simp⟩
  case round =>
    obtain ⟨k, hk, rfl, ho, rfl⟩ := hrel
    by_cases hlt : k < 20
    · have c0 := HC.out k hlt
      have hst := HS.out k hlt
      have hq := HQ.out (rwN k).word
      have hki : (k : Int) < 20 := by omega
      by_cases he : (rwN k).word.data.toList = v
      · rw [if_pos he] at hst
        rw [decide_eq_true he] at hq
        have HE : Hid (O = some k) := (ho.symm.trans hst : O = some k)
        clear hst ho he
        go_wp2_with fail
        go_ret
        refine ⟨?_, by rw [hG]; exact HB.out⟩
        rw [HE.out]; rfl
      · rw [if_neg he] at hst
        rw [decide_eq_false he] at hq
        have HE := Hid.mk' (hst.symm.trans ho)
        clear hst ho he
        go_wp2_with fail
        go_roundw
        case rel => exact ⟨k + 1, by omega, by go_num, HE.out, by simp⟩
        case measure => simp [intOf]; omega
    · obtain rfl : k = 20 := by omega
      have HE : Hid (O = none) := (ho.symm : O = none)
      clear ho
      go_wp2_with fail
      go_ret
      refine ⟨?_, by rw [hG]; exact HB.out⟩
      rw [HE.out]; rfl
def fStep (o : Option Is) (z : Option Int) (f : Nat) : Option Is := match o, z with | some x, some v => some (setF x v f) | _, _ => none
/-- The fields of an instruction are read. -/
def insQ (n : Nat) : List Nat → Qr → Option Is → Qr × Option Is
  | [], q, o => (q, o)
  | f :: r, q, o => insQ n r (q.num n).1 (fStep o (q.num n).2 f)
def IsR (x : Is) (o : Option Is) : Prop := ∀ y, o = some y → x = y
theorem IsR.step {x : Is} {o : Option Is} (h : IsR x o) {v : Int} {z : Option Int} (hz : ∀ y, z = some y → v = y) (f : Nat) : IsR (setF x v f) (fStep o z f) := by
  intro y hy
  cases o with
  | none => cases hy
  | some x0 =>
    cases z with
    | none => cases hy
    | some v0 =>
      injection hy with hy
      rw [← hy, h x0 rfl, hz v0 rfl]
structure InsS (w : World) (R : Nat) (L : Bt) (q : Qr) (G4 G5 G6 : Nat) (bs : Array Value) (x : Is) (W : World) : Prop where
  z : W.heap[G4]? = some (.cells (cI ⟨0, 0, 0, 0, 0⟩) 36)
  b : W.heap[G5]? = some (.cells bs 82)
  x : W.heap[G6]? = some (.cells (cI x) 36)
  r : RowQ R L q W
  o : OnlyB R w W
  lt : R < w.heap.size ∧ w.heap.size ≤ G4 ∧ G4 < G5 ∧ G5 < G6
theorem OnlyB.new {b : Nat} {A B : World} (h : OnlyB b A B) {g : Nat} (hg : A.heap.size ≤ g) (i : Nat) (v : Value) : OnlyB b A (B.setCell ⟨g, i, none⟩ v) := ⟨h.1, h.2.1, h.2.2.1, by have := h.size; simpa [World.setCell] using this, fun k h1 h2 => (Below.heap_setCell _ _ _ _ (by simp only; omega)).trans (h.2.2.2.2 k h1 h2)⟩
theorem InsS.on {w : World} {R : Nat} {L : Bt} {q q' : Qr} {G4 G5 G6 : Nat} {bs : Array Value} {x : Is} {W W' : World} (h : InsS w R L q G4 G5 G6 bs x W) (hr : RowQ R L q' W') (ho : OnlyB R W W') : InsS w R L q' G4 G5 G6 bs x W' :=
  ⟨ho.blk h.z (by have := h.lt; omega), ho.blk h.b (by have := h.lt; omega), ho.blk h.x (by have := h.lt; omega), hr, h.o.trans ho, h.lt⟩
theorem cI_set (x : Is) (v : Int) (f : Nat) (hf : f < 4) : (cI x).setIfInBounds (f + 1) (.int .i64 v) = cI (setF x v f) := by
  match f, hf with
  | 0, _ => rfl
  | 1, _ => rfl
  | 2, _ => rfl
  | 3, _ => rfl
theorem InsS.set {w : World} {R : Nat} {L : Bt} {q : Qr} {G4 G5 G6 : Nat} {bs : Array Value} {x : Is} {W : World} (h : InsS w R L q G4 G5 G6 bs x W) (v : Int) (f : Nat) (hf : f < 4) : InsS w R L q G4 G5 G6 bs (setF x v f) (W.setCell ⟨G6, f + 1, none⟩ (.int .i64 v)) := by
  have hl := h.lt
  refine ⟨(Below.heap_setCell _ _ _ _ (by simp only; omega)).trans h.z, (Below.heap_setCell _ _ _ _ (by simp only; omega)).trans h.b, ?_, ⟨(Below.heap_setCell _ _ _ _ (by simp only; omega)).trans h.r.1, h.r.2⟩, h.o.new (by omega) _ _, hl⟩
  have := heap_setCell_same W G6 (f + 1) _ _ (.int .i64 v) h.x
  rw [this, cI_set x v f hf]
theorem setF_op (x : Is) (v : Int) (f : Nat) : (setF x v f).op = x.op := by
  match f with
  | 0 => rfl
  | 1 => rfl
  | 2 => rfl
  | _ + 3 => rfl
theorem setF_ok2 {x : Is} {v : Int} (h : x.Ok) (hv : I64 v) (f : Nat) : (setF x v f).Ok := by
  obtain ⟨h0, h1, h2, h3, h4⟩ := h
  match f with
  | 0 => exact ⟨h0, hv, h2, h3, h4⟩
  | 1 => exact ⟨h0, h1, hv, h3, h4⟩
  | 2 => exact ⟨h0, h1, h2, hv, h4⟩
  | _ + 3 => exact ⟨h0, h1, h2, h3, hv⟩
def InsP (w : World) (R : Nat) (L : Bt) (op : Int) (q : Qr) (e : Ending) (w' : World) : Prop := ∃ x : Is, x.Ok ∧ x.op = op ∧ e = .returned x.val ∧ IsR x (insQ L.length (hasL op) q (some ⟨op, 0, 0, 0, 0⟩)).2 ∧ RowQ R L (insQ L.length (hasL op) q (some ⟨op, 0, 0, 0, 0⟩)).1 w' ∧ OnlyB R w w'
theorem ins0_ok {op : Int} (h : I64 op) : (⟨op, 0, 0, 0, 0⟩ : Is).Ok := ⟨h, by unfold I64; simp, by unfold I64; simp, by unfold I64; simp, by unfold I64; simp⟩
theorem ins0_r (op : Int) : IsR ⟨op, 0, 0, 0, 0⟩ (some ⟨op, 0, 0, 0, 0⟩) := fun y hy => by injection hy
theorem InsS.fin {w : World} {R : Nat} {L : Bt} {q : Qr} {G4 G5 G6 : Nat} {bs : Array Value} {x : Is} {W : World} (h : InsS w R L q G4 G5 G6 bs x W) (v0 v1 v2 v3 v4 : Value) : RowQ R L q (((((W.setCell ⟨G4, 0, none⟩ v0).setCell ⟨G4, 1, none⟩ v1).setCell ⟨G4, 2, none⟩ v2).setCell ⟨G4, 3, none⟩ v3).setCell ⟨G4, 4, none⟩ v4) ∧ OnlyB R w (((((W.setCell ⟨G4, 0, none⟩ v0).setCell ⟨G4, 1, none⟩ v1).setCell ⟨G4, 2, none⟩ v2).setCell ⟨G4, 3, none⟩ v3).setCell ⟨G4, 4, none⟩ v4) := by
  have hl := h.lt
  have hs : ∀ {W' : World} (i : Nat) (v : Value), W'.heap[R]? = W.heap[R]? → (W'.setCell ⟨G4, i, none⟩ v).heap[R]? = W.heap[R]? := fun i v e => (Below.heap_setCell _ _ _ _ (by simp only; omega)).trans e
  exact ⟨⟨(hs _ _ (hs _ _ (hs _ _ (hs _ _ (hs _ _ rfl))))).trans h.r.1, h.r.2⟩, ((((h.o.new hl.2.1 _ _).new hl.2.1 _ _).new hl.2.1 _ _).new hl.2.1 _ _).new hl.2.1 _ _⟩
set_option maxRecDepth 100000 in
set_option maxHeartbeats 8000000 in
theorem instr_any (R : Nat) (L : Bt) (hl : L.length ≤ 100000000) (op : Int) (hop : I64 op) (q : Qr) (w : World) (hR : R < w.heap.size) (h : RowQ R L q w) : Calls Tryz.prog 18 #[.pointer (some ⟨R, 0, none⟩), .int .i64 op] w (InsP w R L op q) := by
  have HH := Hid.mk' (rhas_any op)
  have HN : Hid (∀ (q : Qr) (W : World), RowQ R L q W → Calls Tryz.prog 16 #[.pointer (some ⟨R, 0, none⟩)] W fun e w' => ∃ v : Int, I64 v ∧ e = .returned (.int .i64 v) ∧ (∀ z, (q.num L.length).2 = some z → v = z) ∧ RowQ R L (q.num L.length).1 w' ∧ OnlyB R W w') := fun q W h => rnum_any R L hl q W h
  have HL : Hid (hasL op = (if bt (rwOf op).regs 0 then [0] else []) ++ (if bt (rwOf op).regs 1 then [1] else []) ++ (if bt (rwOf op).regs 2 then [2] else []) ++ (if (rwOf op).n != 0 then [3] else [])) := (rfl : hasL op = _)
  have hb0 := Below.one (Below.refl _ w) (.cells (cI ⟨0, 0, 0, 0, 0⟩) 36)
  have HZ := Hid.mk' (heap_alloc_new w (.cells (cI ⟨0, 0, 0, 0, 0⟩) 36))
  have HB := Hid.mk' hb0
  have HRW := Hid.mk' h
  have hG0 : w.heap.size < (w.alloc (.cells (cI ⟨0, 0, 0, 0, 0⟩) 36)).heap.size := by simp
  have HOP := Hid.mk' hop
  clear h hl hb0 hop
  unfold InsP
  unfold hasV at HH
  generalize bt (rwOf op).regs 0 = b0 at *
  generalize bt (rwOf op).regs 1 = b1 at *
  generalize bt (rwOf op).regs 2 = b2 at *
  generalize ((rwOf op).n != 0) = b3 at *
  generalize hasL op = hs at *
  go_enter Tryz.func18, Tryz.ntmps18
  go_wp2_with fail
  generalize w.alloc (.cells (cI ⟨0, 0, 0, 0, 0⟩) 36) = W0 at *
  refine (HH.out _).mono ?_
  rintro e W1 ⟨rfl, hb1⟩
  have hb2 := Below.one hb1 (.cells #[.bool b0, .bool b1, .bool b2, .bool b3] 82)
  have hb3 := Below.one hb2 (.cells (cI ⟨op, 0, 0, 0, 0⟩) 36)
  have hG1 : w.heap.size < W1.heap.size := by have := hb1.size; omega
  have HI : Hid (InsS w R L q w.heap.size W1.heap.size (W1.heap.size + 1) #[.bool b0, .bool b1, .bool b2, .bool b3] ⟨op, 0, 0, 0, 0⟩ ((W1.alloc (.cells #[.bool b0, .bool b1, .bool b2, .bool b3] 82)).alloc (.cells (cI ⟨op, 0, 0, 0, 0⟩) 36))) := by
    refine ⟨(hb3.block _ (Array.getElem?_eq_some_iff.1 HZ.out).1).trans HZ.out, (Below.heap_alloc _ _ _ (by simp)).trans (heap_alloc_new _ _), ?_, ⟨(((Below.on HB.out hb3).block _ (Array.getElem?_eq_some_iff.1 HRW.out.1).1).trans HRW.out.1), HRW.out.2⟩, OnlyB.of_below (Below.on HB.out hb3), by omega⟩
    have := heap_alloc_new (W1.alloc (.cells #[.bool b0, .bool b1, .bool b2, .bool b3] 82)) (.cells (cI ⟨op, 0, 0, 0, 0⟩) 36)
    rwa [World.size_alloc] at this
  clear hb1 hb2 hb3 HH HZ HB HRW
  go_upto_region 3 with fail
  generalize (W1.alloc (.cells #[.bool b0, .bool b1, .bool b2, .bool b3] 82)).alloc (.cells (cI ⟨op, 0, 0, 0, 0⟩) 36) = V at *
  generalize hg1 : W1.heap.size = G5 at *
  generalize hg2 : w.heap.size = G4 at *
  rcases b0 with _ | _ <;> rcases b1 with _ | _ <;> rcases b2 with _ | _ <;> rcases b3 with _ | _
  · have hhs : hs = [] := by have := HL.out; simpa using this
    subst hhs
    have p0 := cell_of_obj HI.out.b (j := 0) (v := .bool false) rfl
    have p1 := cell_of_obj HI.out.b (j := 1) (v := .bool false) rfl
    have p2 := cell_of_obj HI.out.b (j := 2) (v := .bool false) rfl
    have p3 := cell_of_obj HI.out.b (j := 3) (v := .bool false) rfl
    have x0 := cell_of_obj HI.out.x (j := 0) (v := .int .i64 op) rfl
    have x1 := cell_of_obj HI.out.x (j := 1) (v := .int .i64 0) rfl
    have x2 := cell_of_obj HI.out.x (j := 2) (v := .int .i64 0) rfl
    have x3 := cell_of_obj HI.out.x (j := 3) (v := .int .i64 0) rfl
    have x4 := cell_of_obj HI.out.x (j := 4) (v := .int .i64 0) rfl
    have z0 := cell_of_obj HI.out.z (j := 0) (v := .int .i64 0) rfl
    have z1 := cell_of_obj HI.out.z (j := 1) (v := .int .i64 0) rfl
    have z2 := cell_of_obj HI.out.z (j := 2) (v := .int .i64 0) rfl
    have z3 := cell_of_obj HI.out.z (j := 3) (v := .int .i64 0) rfl
    have z4 := cell_of_obj HI.out.z (j := 4) (v := .int .i64 0) rfl
    have zf := Lib.frozen_of_heap HI.out.z
    go_wp2_with fail
    exact bodyPost_ret (v := .agg (cI ⟨op, 0, 0, 0, 0⟩)) (by simp [results, Tryz.results18, go_sem, *]) rfl ⟨⟨op, 0, 0, 0, 0⟩, (ins0_ok HOP.out), rfl, rfl, (ins0_r op), (HI.out.fin _ _ _ _ _).1, (HI.out.fin _ _ _ _ _).2⟩
  · have hhs : hs = [3] := by have := HL.out; simpa using this
    subst hhs
    have p0 := cell_of_obj HI.out.b (j := 0) (v := .bool false) rfl
    have p1 := cell_of_obj HI.out.b (j := 1) (v := .bool false) rfl
    have p2 := cell_of_obj HI.out.b (j := 2) (v := .bool false) rfl
    have p3 := cell_of_obj HI.out.b (j := 3) (v := .bool true) rfl
    have x0 := cell_of_obj HI.out.x (j := 0) (v := .int .i64 op) rfl
    have x1 := cell_of_obj HI.out.x (j := 1) (v := .int .i64 0) rfl
    have x2 := cell_of_obj HI.out.x (j := 2) (v := .int .i64 0) rfl
    have x3 := cell_of_obj HI.out.x (j := 3) (v := .int .i64 0) rfl
    have x4 := cell_of_obj HI.out.x (j := 4) (v := .int .i64 0) rfl
    have z0 := cell_of_obj HI.out.z (j := 0) (v := .int .i64 0) rfl
    have z1 := cell_of_obj HI.out.z (j := 1) (v := .int .i64 0) rfl
    have z2 := cell_of_obj HI.out.z (j := 2) (v := .int .i64 0) rfl
    have z3 := cell_of_obj HI.out.z (j := 3) (v := .int .i64 0) rfl
    have z4 := cell_of_obj HI.out.z (j := 4) (v := .int .i64 0) rfl
    have zf := Lib.frozen_of_heap HI.out.z
    go_wp2_with fail
    refine (HN.out _ _ HI.out.r).mono ?_
    rintro e U3 ⟨v3, hv3, rfl, hz3, hr3, ho3⟩
    clear p0 p1 p2 p3 x0 x1 x2 x3 x4 z0 z1 z2 z3 z4 zf
    replace HI := Hid.mk' (HI.out.on hr3 ho3)
    have yc := cell_of_obj HI.out.x (j := 4) (v := .int .i64 0) rfl
    have yf := Lib.frozen_of_heap HI.out.x
    replace HI := Hid.mk' (HI.out.set v3 3 (by decide))
    have HV3 := Hid.mk' hv3
    have HZ3 := Hid.mk' hz3
    clear hr3 ho3 hz3 hv3
    have p0 := cell_of_obj HI.out.b (j := 0) (v := .bool false) rfl
    have p1 := cell_of_obj HI.out.b (j := 1) (v := .bool false) rfl
    have p2 := cell_of_obj HI.out.b (j := 2) (v := .bool false) rfl
    have p3 := cell_of_obj HI.out.b (j := 3) (v := .bool true) rfl
    have x0 := cell_of_obj HI.out.x (j := 0) (v := .int .i64 op) rfl
    have x1 := cell_of_obj HI.out.x (j := 1) (v := .int .i64 0) rfl
    have x2 := cell_of_obj HI.out.x (j := 2) (v := .int .i64 0) rfl
    have x3 := cell_of_obj HI.out.x (j := 3) (v := .int .i64 0) rfl
    have x4 := cell_of_obj HI.out.x (j := 4) (v := .int .i64 v3) rfl
    have z0 := cell_of_obj HI.out.z (j := 0) (v := .int .i64 0) rfl
    have z1 := cell_of_obj HI.out.z (j := 1) (v := .int .i64 0) rfl
    have z2 := cell_of_obj HI.out.z (j := 2) (v := .int .i64 0) rfl
    have z3 := cell_of_obj HI.out.z (j := 3) (v := .int .i64 0) rfl
    have z4 := cell_of_obj HI.out.z (j := 4) (v := .int .i64 0) rfl
    have zf := Lib.frozen_of_heap HI.out.z
    go_wp2_with fail
    exact bodyPost_ret (v := .agg (cI ⟨op, 0, 0, 0, v3⟩)) (by simp [results, Tryz.results18, go_sem, *]) rfl ⟨⟨op, 0, 0, 0, v3⟩, (setF_ok2 (x := ⟨op, 0, 0, 0, 0⟩) (ins0_ok HOP.out) HV3.out 3), rfl, rfl, (IsR.step (x := ⟨op, 0, 0, 0, 0⟩) (ins0_r op) HZ3.out 3), (HI.out.fin _ _ _ _ _).1, (HI.out.fin _ _ _ _ _).2⟩
  · have hhs : hs = [2] := by have := HL.out; simpa using this
    subst hhs
    have p0 := cell_of_obj HI.out.b (j := 0) (v := .bool false) rfl
    have p1 := cell_of_obj HI.out.b (j := 1) (v := .bool false) rfl
    have p2 := cell_of_obj HI.out.b (j := 2) (v := .bool true) rfl
    have p3 := cell_of_obj HI.out.b (j := 3) (v := .bool false) rfl
    have x0 := cell_of_obj HI.out.x (j := 0) (v := .int .i64 op) rfl
    have x1 := cell_of_obj HI.out.x (j := 1) (v := .int .i64 0) rfl
    have x2 := cell_of_obj HI.out.x (j := 2) (v := .int .i64 0) rfl
    have x3 := cell_of_obj HI.out.x (j := 3) (v := .int .i64 0) rfl
    have x4 := cell_of_obj HI.out.x (j := 4) (v := .int .i64 0) rfl
    have z0 := cell_of_obj HI.out.z (j := 0) (v := .int .i64 0) rfl
    have z1 := cell_of_obj HI.out.z (j := 1) (v := .int .i64 0) rfl
    have z2 := cell_of_obj HI.out.z (j := 2) (v := .int .i64 0) rfl
    have z3 := cell_of_obj HI.out.z (j := 3) (v := .int .i64 0) rfl
    have z4 := cell_of_obj HI.out.z (j := 4) (v := .int .i64 0) rfl
    have zf := Lib.frozen_of_heap HI.out.z
    go_wp2_with fail
    refine (HN.out _ _ HI.out.r).mono ?_
    rintro e U2 ⟨v2, hv2, rfl, hz2, hr2, ho2⟩
    clear p0 p1 p2 p3 x0 x1 x2 x3 x4 z0 z1 z2 z3 z4 zf
    replace HI := Hid.mk' (HI.out.on hr2 ho2)
    have yc := cell_of_obj HI.out.x (j := 3) (v := .int .i64 0) rfl
    have yf := Lib.frozen_of_heap HI.out.x
    replace HI := Hid.mk' (HI.out.set v2 2 (by decide))
    have HV2 := Hid.mk' hv2
    have HZ2 := Hid.mk' hz2
    clear hr2 ho2 hz2 hv2
    have p0 := cell_of_obj HI.out.b (j := 0) (v := .bool false) rfl
    have p1 := cell_of_obj HI.out.b (j := 1) (v := .bool false) rfl
    have p2 := cell_of_obj HI.out.b (j := 2) (v := .bool true) rfl
    have p3 := cell_of_obj HI.out.b (j := 3) (v := .bool false) rfl
    have x0 := cell_of_obj HI.out.x (j := 0) (v := .int .i64 op) rfl
    have x1 := cell_of_obj HI.out.x (j := 1) (v := .int .i64 0) rfl
    have x2 := cell_of_obj HI.out.x (j := 2) (v := .int .i64 0) rfl
    have x3 := cell_of_obj HI.out.x (j := 3) (v := .int .i64 v2) rfl
    have x4 := cell_of_obj HI.out.x (j := 4) (v := .int .i64 0) rfl
    have z0 := cell_of_obj HI.out.z (j := 0) (v := .int .i64 0) rfl
    have z1 := cell_of_obj HI.out.z (j := 1) (v := .int .i64 0) rfl
    have z2 := cell_of_obj HI.out.z (j := 2) (v := .int .i64 0) rfl
    have z3 := cell_of_obj HI.out.z (j := 3) (v := .int .i64 0) rfl
    have z4 := cell_of_obj HI.out.z (j := 4) (v := .int .i64 0) rfl
    have zf := Lib.frozen_of_heap HI.out.z
    go_wp2_with fail
    exact bodyPost_ret (v := .agg (cI ⟨op, 0, 0, v2, 0⟩)) (by simp [results, Tryz.results18, go_sem, *]) rfl ⟨⟨op, 0, 0, v2, 0⟩, (setF_ok2 (x := ⟨op, 0, 0, 0, 0⟩) (ins0_ok HOP.out) HV2.out 2), rfl, rfl, (IsR.step (x := ⟨op, 0, 0, 0, 0⟩) (ins0_r op) HZ2.out 2), (HI.out.fin _ _ _ _ _).1, (HI.out.fin _ _ _ _ _).2⟩
  · have hhs : hs = [2, 3] := by have := HL.out; simpa using this
    subst hhs
    have p0 := cell_of_obj HI.out.b (j := 0) (v := .bool false) rfl
    have p1 := cell_of_obj HI.out.b (j := 1) (v := .bool false) rfl
    have p2 := cell_of_obj HI.out.b (j := 2) (v := .bool true) rfl
    have p3 := cell_of_obj HI.out.b (j := 3) (v := .bool true) rfl
    have x0 := cell_of_obj HI.out.x (j := 0) (v := .int .i64 op) rfl
    have x1 := cell_of_obj HI.out.x (j := 1) (v := .int .i64 0) rfl
    have x2 := cell_of_obj HI.out.x (j := 2) (v := .int .i64 0) rfl
    have x3 := cell_of_obj HI.out.x (j := 3) (v := .int .i64 0) rfl
    have x4 := cell_of_obj HI.out.x (j := 4) (v := .int .i64 0) rfl
    have z0 := cell_of_obj HI.out.z (j := 0) (v := .int .i64 0) rfl
    have z1 := cell_of_obj HI.out.z (j := 1) (v := .int .i64 0) rfl
    have z2 := cell_of_obj HI.out.z (j := 2) (v := .int .i64 0) rfl
    have z3 := cell_of_obj HI.out.z (j := 3) (v := .int .i64 0) rfl
    have z4 := cell_of_obj HI.out.z (j := 4) (v := .int .i64 0) rfl
    have zf := Lib.frozen_of_heap HI.out.z
    go_wp2_with fail
    refine (HN.out _ _ HI.out.r).mono ?_
    rintro e U2 ⟨v2, hv2, rfl, hz2, hr2, ho2⟩
    clear p0 p1 p2 p3 x0 x1 x2 x3 x4 z0 z1 z2 z3 z4 zf
    replace HI := Hid.mk' (HI.out.on hr2 ho2)
    have yc := cell_of_obj HI.out.x (j := 3) (v := .int .i64 0) rfl
    have yf := Lib.frozen_of_heap HI.out.x
    replace HI := Hid.mk' (HI.out.set v2 2 (by decide))
    have HV2 := Hid.mk' hv2
    have HZ2 := Hid.mk' hz2
    clear hr2 ho2 hz2 hv2
    have p0 := cell_of_obj HI.out.b (j := 0) (v := .bool false) rfl
    have p1 := cell_of_obj HI.out.b (j := 1) (v := .bool false) rfl
    have p2 := cell_of_obj HI.out.b (j := 2) (v := .bool true) rfl
    have p3 := cell_of_obj HI.out.b (j := 3) (v := .bool true) rfl
    have x0 := cell_of_obj HI.out.x (j := 0) (v := .int .i64 op) rfl
    have x1 := cell_of_obj HI.out.x (j := 1) (v := .int .i64 0) rfl
    have x2 := cell_of_obj HI.out.x (j := 2) (v := .int .i64 0) rfl
    have x3 := cell_of_obj HI.out.x (j := 3) (v := .int .i64 v2) rfl
    have x4 := cell_of_obj HI.out.x (j := 4) (v := .int .i64 0) rfl
    have z0 := cell_of_obj HI.out.z (j := 0) (v := .int .i64 0) rfl
    have z1 := cell_of_obj HI.out.z (j := 1) (v := .int .i64 0) rfl
    have z2 := cell_of_obj HI.out.z (j := 2) (v := .int .i64 0) rfl
    have z3 := cell_of_obj HI.out.z (j := 3) (v := .int .i64 0) rfl
    have z4 := cell_of_obj HI.out.z (j := 4) (v := .int .i64 0) rfl
    have zf := Lib.frozen_of_heap HI.out.z
    go_wp2_with fail
    clear yc yf
    generalize U2.setCell ⟨G5 + 1, 2 + 1, none⟩ (.int .i64 v2) = T2 at *
    refine (HN.out _ _ HI.out.r).mono ?_
    rintro e U3 ⟨v3, hv3, rfl, hz3, hr3, ho3⟩
    clear p0 p1 p2 p3 x0 x1 x2 x3 x4 z0 z1 z2 z3 z4 zf
    replace HI := Hid.mk' (HI.out.on hr3 ho3)
    have yc := cell_of_obj HI.out.x (j := 4) (v := .int .i64 0) rfl
    have yf := Lib.frozen_of_heap HI.out.x
    replace HI := Hid.mk' (HI.out.set v3 3 (by decide))
    have HV3 := Hid.mk' hv3
    have HZ3 := Hid.mk' hz3
    clear hr3 ho3 hz3 hv3
    have p0 := cell_of_obj HI.out.b (j := 0) (v := .bool false) rfl
    have p1 := cell_of_obj HI.out.b (j := 1) (v := .bool false) rfl
    have p2 := cell_of_obj HI.out.b (j := 2) (v := .bool true) rfl
    have p3 := cell_of_obj HI.out.b (j := 3) (v := .bool true) rfl
    have x0 := cell_of_obj HI.out.x (j := 0) (v := .int .i64 op) rfl
    have x1 := cell_of_obj HI.out.x (j := 1) (v := .int .i64 0) rfl
    have x2 := cell_of_obj HI.out.x (j := 2) (v := .int .i64 0) rfl
    have x3 := cell_of_obj HI.out.x (j := 3) (v := .int .i64 v2) rfl
    have x4 := cell_of_obj HI.out.x (j := 4) (v := .int .i64 v3) rfl
    have z0 := cell_of_obj HI.out.z (j := 0) (v := .int .i64 0) rfl
    have z1 := cell_of_obj HI.out.z (j := 1) (v := .int .i64 0) rfl
    have z2 := cell_of_obj HI.out.z (j := 2) (v := .int .i64 0) rfl
    have z3 := cell_of_obj HI.out.z (j := 3) (v := .int .i64 0) rfl
    have z4 := cell_of_obj HI.out.z (j := 4) (v := .int .i64 0) rfl
    have zf := Lib.frozen_of_heap HI.out.z
    go_wp2_with fail
    exact bodyPost_ret (v := .agg (cI ⟨op, 0, 0, v2, v3⟩)) (by simp [results, Tryz.results18, go_sem, *]) rfl ⟨⟨op, 0, 0, v2, v3⟩, (setF_ok2 (x := ⟨op, 0, 0, v2, 0⟩) (setF_ok2 (x := ⟨op, 0, 0, 0, 0⟩) (ins0_ok HOP.out) HV2.out 2) HV3.out 3), rfl, rfl, (IsR.step (x := ⟨op, 0, 0, v2, 0⟩) (IsR.step (x := ⟨op, 0, 0, 0, 0⟩) (ins0_r op) HZ2.out 2) HZ3.out 3), (HI.out.fin _ _ _ _ _).1, (HI.out.fin _ _ _ _ _).2⟩
  · have hhs : hs = [1] := by have := HL.out; simpa using this
    subst hhs
    have p0 := cell_of_obj HI.out.b (j := 0) (v := .bool false) rfl
    have p1 := cell_of_obj HI.out.b (j := 1) (v := .bool true) rfl
    have p2 := cell_of_obj HI.out.b (j := 2) (v := .bool false) rfl
    have p3 := cell_of_obj HI.out.b (j := 3) (v := .bool false) rfl
    have x0 := cell_of_obj HI.out.x (j := 0) (v := .int .i64 op) rfl
    have x1 := cell_of_obj HI.out.x (j := 1) (v := .int .i64 0) rfl
    have x2 := cell_of_obj HI.out.x (j := 2) (v := .int .i64 0) rfl
    have x3 := cell_of_obj HI.out.x (j := 3) (v := .int .i64 0) rfl
    have x4 := cell_of_obj HI.out.x (j := 4) (v := .int .i64 0) rfl
    have z0 := cell_of_obj HI.out.z (j := 0) (v := .int .i64 0) rfl
    have z1 := cell_of_obj HI.out.z (j := 1) (v := .int .i64 0) rfl
    have z2 := cell_of_obj HI.out.z (j := 2) (v := .int .i64 0) rfl
    have z3 := cell_of_obj HI.out.z (j := 3) (v := .int .i64 0) rfl
    have z4 := cell_of_obj HI.out.z (j := 4) (v := .int .i64 0) rfl
    have zf := Lib.frozen_of_heap HI.out.z
    go_wp2_with fail
    refine (HN.out _ _ HI.out.r).mono ?_
    rintro e U1 ⟨v1, hv1, rfl, hz1, hr1, ho1⟩
    clear p0 p1 p2 p3 x0 x1 x2 x3 x4 z0 z1 z2 z3 z4 zf
    replace HI := Hid.mk' (HI.out.on hr1 ho1)
    have yc := cell_of_obj HI.out.x (j := 2) (v := .int .i64 0) rfl
    have yf := Lib.frozen_of_heap HI.out.x
    replace HI := Hid.mk' (HI.out.set v1 1 (by decide))
    have HV1 := Hid.mk' hv1
    have HZ1 := Hid.mk' hz1
    clear hr1 ho1 hz1 hv1
    have p0 := cell_of_obj HI.out.b (j := 0) (v := .bool false) rfl
    have p1 := cell_of_obj HI.out.b (j := 1) (v := .bool true) rfl
    have p2 := cell_of_obj HI.out.b (j := 2) (v := .bool false) rfl
    have p3 := cell_of_obj HI.out.b (j := 3) (v := .bool false) rfl
    have x0 := cell_of_obj HI.out.x (j := 0) (v := .int .i64 op) rfl
    have x1 := cell_of_obj HI.out.x (j := 1) (v := .int .i64 0) rfl
    have x2 := cell_of_obj HI.out.x (j := 2) (v := .int .i64 v1) rfl
    have x3 := cell_of_obj HI.out.x (j := 3) (v := .int .i64 0) rfl
    have x4 := cell_of_obj HI.out.x (j := 4) (v := .int .i64 0) rfl
    have z0 := cell_of_obj HI.out.z (j := 0) (v := .int .i64 0) rfl
    have z1 := cell_of_obj HI.out.z (j := 1) (v := .int .i64 0) rfl
    have z2 := cell_of_obj HI.out.z (j := 2) (v := .int .i64 0) rfl
    have z3 := cell_of_obj HI.out.z (j := 3) (v := .int .i64 0) rfl
    have z4 := cell_of_obj HI.out.z (j := 4) (v := .int .i64 0) rfl
    have zf := Lib.frozen_of_heap HI.out.z
    go_wp2_with fail
    exact bodyPost_ret (v := .agg (cI ⟨op, 0, v1, 0, 0⟩)) (by simp [results, Tryz.results18, go_sem, *]) rfl ⟨⟨op, 0, v1, 0, 0⟩, (setF_ok2 (x := ⟨op, 0, 0, 0, 0⟩) (ins0_ok HOP.out) HV1.out 1), rfl, rfl, (IsR.step (x := ⟨op, 0, 0, 0, 0⟩) (ins0_r op) HZ1.out 1), (HI.out.fin _ _ _ _ _).1, (HI.out.fin _ _ _ _ _).2⟩
  · have hhs : hs = [1, 3] := by have := HL.out; simpa using this
    subst hhs
    have p0 := cell_of_obj HI.out.b (j := 0) (v := .bool false) rfl
    have p1 := cell_of_obj HI.out.b (j := 1) (v := .bool true) rfl
    have p2 := cell_of_obj HI.out.b (j := 2) (v := .bool false) rfl
    have p3 := cell_of_obj HI.out.b (j := 3) (v := .bool true) rfl
    have x0 := cell_of_obj HI.out.x (j := 0) (v := .int .i64 op) rfl
    have x1 := cell_of_obj HI.out.x (j := 1) (v := .int .i64 0) rfl
    have x2 := cell_of_obj HI.out.x (j := 2) (v := .int .i64 0) rfl
    have x3 := cell_of_obj HI.out.x (j := 3) (v := .int .i64 0) rfl
    have x4 := cell_of_obj HI.out.x (j := 4) (v := .int .i64 0) rfl
    have z0 := cell_of_obj HI.out.z (j := 0) (v := .int .i64 0) rfl
    have z1 := cell_of_obj HI.out.z (j := 1) (v := .int .i64 0) rfl
    have z2 := cell_of_obj HI.out.z (j := 2) (v := .int .i64 0) rfl
    have z3 := cell_of_obj HI.out.z (j := 3) (v := .int .i64 0) rfl
    have z4 := cell_of_obj HI.out.z (j := 4) (v := .int .i64 0) rfl
    have zf := Lib.frozen_of_heap HI.out.z
    go_wp2_with fail
    refine (HN.out _ _ HI.out.r).mono ?_
    rintro e U1 ⟨v1, hv1, rfl, hz1, hr1, ho1⟩
    clear p0 p1 p2 p3 x0 x1 x2 x3 x4 z0 z1 z2 z3 z4 zf
    replace HI := Hid.mk' (HI.out.on hr1 ho1)
    have yc := cell_of_obj HI.out.x (j := 2) (v := .int .i64 0) rfl
    have yf := Lib.frozen_of_heap HI.out.x
    replace HI := Hid.mk' (HI.out.set v1 1 (by decide))
    have HV1 := Hid.mk' hv1
    have HZ1 := Hid.mk' hz1
    clear hr1 ho1 hz1 hv1
    have p0 := cell_of_obj HI.out.b (j := 0) (v := .bool false) rfl
    have p1 := cell_of_obj HI.out.b (j := 1) (v := .bool true) rfl
    have p2 := cell_of_obj HI.out.b (j := 2) (v := .bool false) rfl
    have p3 := cell_of_obj HI.out.b (j := 3) (v := .bool true) rfl
    have x0 := cell_of_obj HI.out.x (j := 0) (v := .int .i64 op) rfl
    have x1 := cell_of_obj HI.out.x (j := 1) (v := .int .i64 0) rfl
    have x2 := cell_of_obj HI.out.x (j := 2) (v := .int .i64 v1) rfl
    have x3 := cell_of_obj HI.out.x (j := 3) (v := .int .i64 0) rfl
    have x4 := cell_of_obj HI.out.x (j := 4) (v := .int .i64 0) rfl
    have z0 := cell_of_obj HI.out.z (j := 0) (v := .int .i64 0) rfl
    have z1 := cell_of_obj HI.out.z (j := 1) (v := .int .i64 0) rfl
    have z2 := cell_of_obj HI.out.z (j := 2) (v := .int .i64 0) rfl
    have z3 := cell_of_obj HI.out.z (j := 3) (v := .int .i64 0) rfl
    have z4 := cell_of_obj HI.out.z (j := 4) (v := .int .i64 0) rfl
    have zf := Lib.frozen_of_heap HI.out.z
    go_wp2_with fail
    clear yc yf
    generalize U1.setCell ⟨G5 + 1, 1 + 1, none⟩ (.int .i64 v1) = T1 at *
    refine (HN.out _ _ HI.out.r).mono ?_
    rintro e U3 ⟨v3, hv3, rfl, hz3, hr3, ho3⟩
    clear p0 p1 p2 p3 x0 x1 x2 x3 x4 z0 z1 z2 z3 z4 zf
    replace HI := Hid.mk' (HI.out.on hr3 ho3)
    have yc := cell_of_obj HI.out.x (j := 4) (v := .int .i64 0) rfl
    have yf := Lib.frozen_of_heap HI.out.x
    replace HI := Hid.mk' (HI.out.set v3 3 (by decide))
    have HV3 := Hid.mk' hv3
    have HZ3 := Hid.mk' hz3
    clear hr3 ho3 hz3 hv3
    have p0 := cell_of_obj HI.out.b (j := 0) (v := .bool false) rfl
    have p1 := cell_of_obj HI.out.b (j := 1) (v := .bool true) rfl
    have p2 := cell_of_obj HI.out.b (j := 2) (v := .bool false) rfl
    have p3 := cell_of_obj HI.out.b (j := 3) (v := .bool true) rfl
    have x0 := cell_of_obj HI.out.x (j := 0) (v := .int .i64 op) rfl
    have x1 := cell_of_obj HI.out.x (j := 1) (v := .int .i64 0) rfl
    have x2 := cell_of_obj HI.out.x (j := 2) (v := .int .i64 v1) rfl
    have x3 := cell_of_obj HI.out.x (j := 3) (v := .int .i64 0) rfl
    have x4 := cell_of_obj HI.out.x (j := 4) (v := .int .i64 v3) rfl
    have z0 := cell_of_obj HI.out.z (j := 0) (v := .int .i64 0) rfl
    have z1 := cell_of_obj HI.out.z (j := 1) (v := .int .i64 0) rfl
    have z2 := cell_of_obj HI.out.z (j := 2) (v := .int .i64 0) rfl
    have z3 := cell_of_obj HI.out.z (j := 3) (v := .int .i64 0) rfl
    have z4 := cell_of_obj HI.out.z (j := 4) (v := .int .i64 0) rfl
    have zf := Lib.frozen_of_heap HI.out.z
    go_wp2_with fail
    exact bodyPost_ret (v := .agg (cI ⟨op, 0, v1, 0, v3⟩)) (by simp [results, Tryz.results18, go_sem, *]) rfl ⟨⟨op, 0, v1, 0, v3⟩, (setF_ok2 (x := ⟨op, 0, v1, 0, 0⟩) (setF_ok2 (x := ⟨op, 0, 0, 0, 0⟩) (ins0_ok HOP.out) HV1.out 1) HV3.out 3), rfl, rfl, (IsR.step (x := ⟨op, 0, v1, 0, 0⟩) (IsR.step (x := ⟨op, 0, 0, 0, 0⟩) (ins0_r op) HZ1.out 1) HZ3.out 3), (HI.out.fin _ _ _ _ _).1, (HI.out.fin _ _ _ _ _).2⟩
  · have hhs : hs = [1, 2] := by have := HL.out; simpa using this
    subst hhs
    have p0 := cell_of_obj HI.out.b (j := 0) (v := .bool false) rfl
    have p1 := cell_of_obj HI.out.b (j := 1) (v := .bool true) rfl
    have p2 := cell_of_obj HI.out.b (j := 2) (v := .bool true) rfl
    have p3 := cell_of_obj HI.out.b (j := 3) (v := .bool false) rfl
    have x0 := cell_of_obj HI.out.x (j := 0) (v := .int .i64 op) rfl
    have x1 := cell_of_obj HI.out.x (j := 1) (v := .int .i64 0) rfl
    have x2 := cell_of_obj HI.out.x (j := 2) (v := .int .i64 0) rfl
    have x3 := cell_of_obj HI.out.x (j := 3) (v := .int .i64 0) rfl
    have x4 := cell_of_obj HI.out.x (j := 4) (v := .int .i64 0) rfl
    have z0 := cell_of_obj HI.out.z (j := 0) (v := .int .i64 0) rfl
    have z1 := cell_of_obj HI.out.z (j := 1) (v := .int .i64 0) rfl
    have z2 := cell_of_obj HI.out.z (j := 2) (v := .int .i64 0) rfl
    have z3 := cell_of_obj HI.out.z (j := 3) (v := .int .i64 0) rfl
    have z4 := cell_of_obj HI.out.z (j := 4) (v := .int .i64 0) rfl
    have zf := Lib.frozen_of_heap HI.out.z
    go_wp2_with fail
    refine (HN.out _ _ HI.out.r).mono ?_
    rintro e U1 ⟨v1, hv1, rfl, hz1, hr1, ho1⟩
    clear p0 p1 p2 p3 x0 x1 x2 x3 x4 z0 z1 z2 z3 z4 zf
    replace HI := Hid.mk' (HI.out.on hr1 ho1)
    have yc := cell_of_obj HI.out.x (j := 2) (v := .int .i64 0) rfl
    have yf := Lib.frozen_of_heap HI.out.x
    replace HI := Hid.mk' (HI.out.set v1 1 (by decide))
    have HV1 := Hid.mk' hv1
    have HZ1 := Hid.mk' hz1
    clear hr1 ho1 hz1 hv1
    have p0 := cell_of_obj HI.out.b (j := 0) (v := .bool false) rfl
    have p1 := cell_of_obj HI.out.b (j := 1) (v := .bool true) rfl
    have p2 := cell_of_obj HI.out.b (j := 2) (v := .bool true) rfl
    have p3 := cell_of_obj HI.out.b (j := 3) (v := .bool false) rfl
    have x0 := cell_of_obj HI.out.x (j := 0) (v := .int .i64 op) rfl
    have x1 := cell_of_obj HI.out.x (j := 1) (v := .int .i64 0) rfl
    have x2 := cell_of_obj HI.out.x (j := 2) (v := .int .i64 v1) rfl
    have x3 := cell_of_obj HI.out.x (j := 3) (v := .int .i64 0) rfl
    have x4 := cell_of_obj HI.out.x (j := 4) (v := .int .i64 0) rfl
    have z0 := cell_of_obj HI.out.z (j := 0) (v := .int .i64 0) rfl
    have z1 := cell_of_obj HI.out.z (j := 1) (v := .int .i64 0) rfl
    have z2 := cell_of_obj HI.out.z (j := 2) (v := .int .i64 0) rfl
    have z3 := cell_of_obj HI.out.z (j := 3) (v := .int .i64 0) rfl
    have z4 := cell_of_obj HI.out.z (j := 4) (v := .int .i64 0) rfl
    have zf := Lib.frozen_of_heap HI.out.z
    go_wp2_with fail
    clear yc yf
    generalize U1.setCell ⟨G5 + 1, 1 + 1, none⟩ (.int .i64 v1) = T1 at *
    refine (HN.out _ _ HI.out.r).mono ?_
    rintro e U2 ⟨v2, hv2, rfl, hz2, hr2, ho2⟩
    clear p0 p1 p2 p3 x0 x1 x2 x3 x4 z0 z1 z2 z3 z4 zf
    replace HI := Hid.mk' (HI.out.on hr2 ho2)
    have yc := cell_of_obj HI.out.x (j := 3) (v := .int .i64 0) rfl
    have yf := Lib.frozen_of_heap HI.out.x
    replace HI := Hid.mk' (HI.out.set v2 2 (by decide))
    have HV2 := Hid.mk' hv2
    have HZ2 := Hid.mk' hz2
    clear hr2 ho2 hz2 hv2
    have p0 := cell_of_obj HI.out.b (j := 0) (v := .bool false) rfl
    have p1 := cell_of_obj HI.out.b (j := 1) (v := .bool true) rfl
    have p2 := cell_of_obj HI.out.b (j := 2) (v := .bool true) rfl
    have p3 := cell_of_obj HI.out.b (j := 3) (v := .bool false) rfl
    have x0 := cell_of_obj HI.out.x (j := 0) (v := .int .i64 op) rfl
    have x1 := cell_of_obj HI.out.x (j := 1) (v := .int .i64 0) rfl
    have x2 := cell_of_obj HI.out.x (j := 2) (v := .int .i64 v1) rfl
    have x3 := cell_of_obj HI.out.x (j := 3) (v := .int .i64 v2) rfl
    have x4 := cell_of_obj HI.out.x (j := 4) (v := .int .i64 0) rfl
    have z0 := cell_of_obj HI.out.z (j := 0) (v := .int .i64 0) rfl
    have z1 := cell_of_obj HI.out.z (j := 1) (v := .int .i64 0) rfl
    have z2 := cell_of_obj HI.out.z (j := 2) (v := .int .i64 0) rfl
    have z3 := cell_of_obj HI.out.z (j := 3) (v := .int .i64 0) rfl
    have z4 := cell_of_obj HI.out.z (j := 4) (v := .int .i64 0) rfl
    have zf := Lib.frozen_of_heap HI.out.z
    go_wp2_with fail
    exact bodyPost_ret (v := .agg (cI ⟨op, 0, v1, v2, 0⟩)) (by simp [results, Tryz.results18, go_sem, *]) rfl ⟨⟨op, 0, v1, v2, 0⟩, (setF_ok2 (x := ⟨op, 0, v1, 0, 0⟩) (setF_ok2 (x := ⟨op, 0, 0, 0, 0⟩) (ins0_ok HOP.out) HV1.out 1) HV2.out 2), rfl, rfl, (IsR.step (x := ⟨op, 0, v1, 0, 0⟩) (IsR.step (x := ⟨op, 0, 0, 0, 0⟩) (ins0_r op) HZ1.out 1) HZ2.out 2), (HI.out.fin _ _ _ _ _).1, (HI.out.fin _ _ _ _ _).2⟩
  · have hhs : hs = [1, 2, 3] := by have := HL.out; simpa using this
    subst hhs
    have p0 := cell_of_obj HI.out.b (j := 0) (v := .bool false) rfl
    have p1 := cell_of_obj HI.out.b (j := 1) (v := .bool true) rfl
    have p2 := cell_of_obj HI.out.b (j := 2) (v := .bool true) rfl
    have p3 := cell_of_obj HI.out.b (j := 3) (v := .bool true) rfl
    have x0 := cell_of_obj HI.out.x (j := 0) (v := .int .i64 op) rfl
    have x1 := cell_of_obj HI.out.x (j := 1) (v := .int .i64 0) rfl
    have x2 := cell_of_obj HI.out.x (j := 2) (v := .int .i64 0) rfl
    have x3 := cell_of_obj HI.out.x (j := 3) (v := .int .i64 0) rfl
    have x4 := cell_of_obj HI.out.x (j := 4) (v := .int .i64 0) rfl
    have z0 := cell_of_obj HI.out.z (j := 0) (v := .int .i64 0) rfl
    have z1 := cell_of_obj HI.out.z (j := 1) (v := .int .i64 0) rfl
    have z2 := cell_of_obj HI.out.z (j := 2) (v := .int .i64 0) rfl
    have z3 := cell_of_obj HI.out.z (j := 3) (v := .int .i64 0) rfl
    have z4 := cell_of_obj HI.out.z (j := 4) (v := .int .i64 0) rfl
    have zf := Lib.frozen_of_heap HI.out.z
    go_wp2_with fail
    refine (HN.out _ _ HI.out.r).mono ?_
    rintro e U1 ⟨v1, hv1, rfl, hz1, hr1, ho1⟩
    clear p0 p1 p2 p3 x0 x1 x2 x3 x4 z0 z1 z2 z3 z4 zf
    replace HI := Hid.mk' (HI.out.on hr1 ho1)
    have yc := cell_of_obj HI.out.x (j := 2) (v := .int .i64 0) rfl
    have yf := Lib.frozen_of_heap HI.out.x
    replace HI := Hid.mk' (HI.out.set v1 1 (by decide))
    have HV1 := Hid.mk' hv1
    have HZ1 := Hid.mk' hz1
    clear hr1 ho1 hz1 hv1
    have p0 := cell_of_obj HI.out.b (j := 0) (v := .bool false) rfl
    have p1 := cell_of_obj HI.out.b (j := 1) (v := .bool true) rfl
    have p2 := cell_of_obj HI.out.b (j := 2) (v := .bool true) rfl
    have p3 := cell_of_obj HI.out.b (j := 3) (v := .bool true) rfl
    have x0 := cell_of_obj HI.out.x (j := 0) (v := .int .i64 op) rfl
    have x1 := cell_of_obj HI.out.x (j := 1) (v := .int .i64 0) rfl
    have x2 := cell_of_obj HI.out.x (j := 2) (v := .int .i64 v1) rfl
    have x3 := cell_of_obj HI.out.x (j := 3) (v := .int .i64 0) rfl
    have x4 := cell_of_obj HI.out.x (j := 4) (v := .int .i64 0) rfl
    have z0 := cell_of_obj HI.out.z (j := 0) (v := .int .i64 0) rfl
    have z1 := cell_of_obj HI.out.z (j := 1) (v := .int .i64 0) rfl
    have z2 := cell_of_obj HI.out.z (j := 2) (v := .int .i64 0) rfl
    have z3 := cell_of_obj HI.out.z (j := 3) (v := .int .i64 0) rfl
    have z4 := cell_of_obj HI.out.z (j := 4) (v := .int .i64 0) rfl
    have zf := Lib.frozen_of_heap HI.out.z
    go_wp2_with fail
    clear yc yf
    generalize U1.setCell ⟨G5 + 1, 1 + 1, none⟩ (.int .i64 v1) = T1 at *
    refine (HN.out _ _ HI.out.r).mono ?_
    rintro e U2 ⟨v2, hv2, rfl, hz2, hr2, ho2⟩
    clear p0 p1 p2 p3 x0 x1 x2 x3 x4 z0 z1 z2 z3 z4 zf
    replace HI := Hid.mk' (HI.out.on hr2 ho2)
    have yc := cell_of_obj HI.out.x (j := 3) (v := .int .i64 0) rfl
    have yf := Lib.frozen_of_heap HI.out.x
    replace HI := Hid.mk' (HI.out.set v2 2 (by decide))
    have HV2 := Hid.mk' hv2
    have HZ2 := Hid.mk' hz2
    clear hr2 ho2 hz2 hv2
    have p0 := cell_of_obj HI.out.b (j := 0) (v := .bool false) rfl
    have p1 := cell_of_obj HI.out.b (j := 1) (v := .bool true) rfl
    have p2 := cell_of_obj HI.out.b (j := 2) (v := .bool true) rfl
    have p3 := cell_of_obj HI.out.b (j := 3) (v := .bool true) rfl
    have x0 := cell_of_obj HI.out.x (j := 0) (v := .int .i64 op) rfl
    have x1 := cell_of_obj HI.out.x (j := 1) (v := .int .i64 0) rfl
    have x2 := cell_of_obj HI.out.x (j := 2) (v := .int .i64 v1) rfl
    have x3 := cell_of_obj HI.out.x (j := 3) (v := .int .i64 v2) rfl
    have x4 := cell_of_obj HI.out.x (j := 4) (v := .int .i64 0) rfl
    have z0 := cell_of_obj HI.out.z (j := 0) (v := .int .i64 0) rfl
    have z1 := cell_of_obj HI.out.z (j := 1) (v := .int .i64 0) rfl
    have z2 := cell_of_obj HI.out.z (j := 2) (v := .int .i64 0) rfl
    have z3 := cell_of_obj HI.out.z (j := 3) (v := .int .i64 0) rfl
    have z4 := cell_of_obj HI.out.z (j := 4) (v := .int .i64 0) rfl
    have zf := Lib.frozen_of_heap HI.out.z
    go_wp2_with fail
    clear yc yf
    generalize U2.setCell ⟨G5 + 1, 2 + 1, none⟩ (.int .i64 v2) = T2 at *
    refine (HN.out _ _ HI.out.r).mono ?_
    rintro e U3 ⟨v3, hv3, rfl, hz3, hr3, ho3⟩
    clear p0 p1 p2 p3 x0 x1 x2 x3 x4 z0 z1 z2 z3 z4 zf
    replace HI := Hid.mk' (HI.out.on hr3 ho3)
    have yc := cell_of_obj HI.out.x (j := 4) (v := .int .i64 0) rfl
    have yf := Lib.frozen_of_heap HI.out.x
    replace HI := Hid.mk' (HI.out.set v3 3 (by decide))
    have HV3 := Hid.mk' hv3
    have HZ3 := Hid.mk' hz3
    clear hr3 ho3 hz3 hv3
    have p0 := cell_of_obj HI.out.b (j := 0) (v := .bool false) rfl
    have p1 := cell_of_obj HI.out.b (j := 1) (v := .bool true) rfl
    have p2 := cell_of_obj HI.out.b (j := 2) (v := .bool true) rfl
    have p3 := cell_of_obj HI.out.b (j := 3) (v := .bool true) rfl
    have x0 := cell_of_obj HI.out.x (j := 0) (v := .int .i64 op) rfl
    have x1 := cell_of_obj HI.out.x (j := 1) (v := .int .i64 0) rfl
    have x2 := cell_of_obj HI.out.x (j := 2) (v := .int .i64 v1) rfl
    have x3 := cell_of_obj HI.out.x (j := 3) (v := .int .i64 v2) rfl
    have x4 := cell_of_obj HI.out.x (j := 4) (v := .int .i64 v3) rfl
    have z0 := cell_of_obj HI.out.z (j := 0) (v := .int .i64 0) rfl
    have z1 := cell_of_obj HI.out.z (j := 1) (v := .int .i64 0) rfl
    have z2 := cell_of_obj HI.out.z (j := 2) (v := .int .i64 0) rfl
    have z3 := cell_of_obj HI.out.z (j := 3) (v := .int .i64 0) rfl
    have z4 := cell_of_obj HI.out.z (j := 4) (v := .int .i64 0) rfl
    have zf := Lib.frozen_of_heap HI.out.z
    go_wp2_with fail
    exact bodyPost_ret (v := .agg (cI ⟨op, 0, v1, v2, v3⟩)) (by simp [results, Tryz.results18, go_sem, *]) rfl ⟨⟨op, 0, v1, v2, v3⟩, (setF_ok2 (x := ⟨op, 0, v1, v2, 0⟩) (setF_ok2 (x := ⟨op, 0, v1, 0, 0⟩) (setF_ok2 (x := ⟨op, 0, 0, 0, 0⟩) (ins0_ok HOP.out) HV1.out 1) HV2.out 2) HV3.out 3), rfl, rfl, (IsR.step (x := ⟨op, 0, v1, v2, 0⟩) (IsR.step (x := ⟨op, 0, v1, 0, 0⟩) (IsR.step (x := ⟨op, 0, 0, 0, 0⟩) (ins0_r op) HZ1.out 1) HZ2.out 2) HZ3.out 3), (HI.out.fin _ _ _ _ _).1, (HI.out.fin _ _ _ _ _).2⟩
  · have hhs : hs = [0] := by have := HL.out; simpa using this
    subst hhs
    have p0 := cell_of_obj HI.out.b (j := 0) (v := .bool true) rfl
    have p1 := cell_of_obj HI.out.b (j := 1) (v := .bool false) rfl
    have p2 := cell_of_obj HI.out.b (j := 2) (v := .bool false) rfl
    have p3 := cell_of_obj HI.out.b (j := 3) (v := .bool false) rfl
    have x0 := cell_of_obj HI.out.x (j := 0) (v := .int .i64 op) rfl
    have x1 := cell_of_obj HI.out.x (j := 1) (v := .int .i64 0) rfl
    have x2 := cell_of_obj HI.out.x (j := 2) (v := .int .i64 0) rfl
    have x3 := cell_of_obj HI.out.x (j := 3) (v := .int .i64 0) rfl
    have x4 := cell_of_obj HI.out.x (j := 4) (v := .int .i64 0) rfl
    have z0 := cell_of_obj HI.out.z (j := 0) (v := .int .i64 0) rfl
    have z1 := cell_of_obj HI.out.z (j := 1) (v := .int .i64 0) rfl
    have z2 := cell_of_obj HI.out.z (j := 2) (v := .int .i64 0) rfl
    have z3 := cell_of_obj HI.out.z (j := 3) (v := .int .i64 0) rfl
    have z4 := cell_of_obj HI.out.z (j := 4) (v := .int .i64 0) rfl
    have zf := Lib.frozen_of_heap HI.out.z
    go_wp2_with fail
    refine (HN.out _ _ HI.out.r).mono ?_
    rintro e U0 ⟨v0, hv0, rfl, hz0, hr0, ho0⟩
    clear p0 p1 p2 p3 x0 x1 x2 x3 x4 z0 z1 z2 z3 z4 zf
    replace HI := Hid.mk' (HI.out.on hr0 ho0)
    have yc := cell_of_obj HI.out.x (j := 1) (v := .int .i64 0) rfl
    have yf := Lib.frozen_of_heap HI.out.x
    replace HI := Hid.mk' (HI.out.set v0 0 (by decide))
    have HV0 := Hid.mk' hv0
    have HZ0 := Hid.mk' hz0
    clear hr0 ho0 hz0 hv0
    have p0 := cell_of_obj HI.out.b (j := 0) (v := .bool true) rfl
    have p1 := cell_of_obj HI.out.b (j := 1) (v := .bool false) rfl
    have p2 := cell_of_obj HI.out.b (j := 2) (v := .bool false) rfl
    have p3 := cell_of_obj HI.out.b (j := 3) (v := .bool false) rfl
    have x0 := cell_of_obj HI.out.x (j := 0) (v := .int .i64 op) rfl
    have x1 := cell_of_obj HI.out.x (j := 1) (v := .int .i64 v0) rfl
    have x2 := cell_of_obj HI.out.x (j := 2) (v := .int .i64 0) rfl
    have x3 := cell_of_obj HI.out.x (j := 3) (v := .int .i64 0) rfl
    have x4 := cell_of_obj HI.out.x (j := 4) (v := .int .i64 0) rfl
    have z0 := cell_of_obj HI.out.z (j := 0) (v := .int .i64 0) rfl
    have z1 := cell_of_obj HI.out.z (j := 1) (v := .int .i64 0) rfl
    have z2 := cell_of_obj HI.out.z (j := 2) (v := .int .i64 0) rfl
    have z3 := cell_of_obj HI.out.z (j := 3) (v := .int .i64 0) rfl
    have z4 := cell_of_obj HI.out.z (j := 4) (v := .int .i64 0) rfl
    have zf := Lib.frozen_of_heap HI.out.z
    go_wp2_with fail
    exact bodyPost_ret (v := .agg (cI ⟨op, v0, 0, 0, 0⟩)) (by simp [results, Tryz.results18, go_sem, *]) rfl ⟨⟨op, v0, 0, 0, 0⟩, (setF_ok2 (x := ⟨op, 0, 0, 0, 0⟩) (ins0_ok HOP.out) HV0.out 0), rfl, rfl, (IsR.step (x := ⟨op, 0, 0, 0, 0⟩) (ins0_r op) HZ0.out 0), (HI.out.fin _ _ _ _ _).1, (HI.out.fin _ _ _ _ _).2⟩
  · have hhs : hs = [0, 3] := by have := HL.out; simpa using this
    subst hhs
    have p0 := cell_of_obj HI.out.b (j := 0) (v := .bool true) rfl
    have p1 := cell_of_obj HI.out.b (j := 1) (v := .bool false) rfl
    have p2 := cell_of_obj HI.out.b (j := 2) (v := .bool false) rfl
    have p3 := cell_of_obj HI.out.b (j := 3) (v := .bool true) rfl
    have x0 := cell_of_obj HI.out.x (j := 0) (v := .int .i64 op) rfl
    have x1 := cell_of_obj HI.out.x (j := 1) (v := .int .i64 0) rfl
    have x2 := cell_of_obj HI.out.x (j := 2) (v := .int .i64 0) rfl
    have x3 := cell_of_obj HI.out.x (j := 3) (v := .int .i64 0) rfl
    have x4 := cell_of_obj HI.out.x (j := 4) (v := .int .i64 0) rfl
    have z0 := cell_of_obj HI.out.z (j := 0) (v := .int .i64 0) rfl
    have z1 := cell_of_obj HI.out.z (j := 1) (v := .int .i64 0) rfl
    have z2 := cell_of_obj HI.out.z (j := 2) (v := .int .i64 0) rfl
    have z3 := cell_of_obj HI.out.z (j := 3) (v := .int .i64 0) rfl
    have z4 := cell_of_obj HI.out.z (j := 4) (v := .int .i64 0) rfl
    have zf := Lib.frozen_of_heap HI.out.z
    go_wp2_with fail
    refine (HN.out _ _ HI.out.r).mono ?_
    rintro e U0 ⟨v0, hv0, rfl, hz0, hr0, ho0⟩
    clear p0 p1 p2 p3 x0 x1 x2 x3 x4 z0 z1 z2 z3 z4 zf
    replace HI := Hid.mk' (HI.out.on hr0 ho0)
    have yc := cell_of_obj HI.out.x (j := 1) (v := .int .i64 0) rfl
    have yf := Lib.frozen_of_heap HI.out.x
    replace HI := Hid.mk' (HI.out.set v0 0 (by decide))
    have HV0 := Hid.mk' hv0
    have HZ0 := Hid.mk' hz0
    clear hr0 ho0 hz0 hv0
    have p0 := cell_of_obj HI.out.b (j := 0) (v := .bool true) rfl
    have p1 := cell_of_obj HI.out.b (j := 1) (v := .bool false) rfl
    have p2 := cell_of_obj HI.out.b (j := 2) (v := .bool false) rfl
    have p3 := cell_of_obj HI.out.b (j := 3) (v := .bool true) rfl
    have x0 := cell_of_obj HI.out.x (j := 0) (v := .int .i64 op) rfl
    have x1 := cell_of_obj HI.out.x (j := 1) (v := .int .i64 v0) rfl
    have x2 := cell_of_obj HI.out.x (j := 2) (v := .int .i64 0) rfl
    have x3 := cell_of_obj HI.out.x (j := 3) (v := .int .i64 0) rfl
    have x4 := cell_of_obj HI.out.x (j := 4) (v := .int .i64 0) rfl
    have z0 := cell_of_obj HI.out.z (j := 0) (v := .int .i64 0) rfl
    have z1 := cell_of_obj HI.out.z (j := 1) (v := .int .i64 0) rfl
    have z2 := cell_of_obj HI.out.z (j := 2) (v := .int .i64 0) rfl
    have z3 := cell_of_obj HI.out.z (j := 3) (v := .int .i64 0) rfl
    have z4 := cell_of_obj HI.out.z (j := 4) (v := .int .i64 0) rfl
    have zf := Lib.frozen_of_heap HI.out.z
    go_wp2_with fail
    clear yc yf
    generalize U0.setCell ⟨G5 + 1, 0 + 1, none⟩ (.int .i64 v0) = T0 at *
    refine (HN.out _ _ HI.out.r).mono ?_
    rintro e U3 ⟨v3, hv3, rfl, hz3, hr3, ho3⟩
    clear p0 p1 p2 p3 x0 x1 x2 x3 x4 z0 z1 z2 z3 z4 zf
    replace HI := Hid.mk' (HI.out.on hr3 ho3)
    have yc := cell_of_obj HI.out.x (j := 4) (v := .int .i64 0) rfl
    have yf := Lib.frozen_of_heap HI.out.x
    replace HI := Hid.mk' (HI.out.set v3 3 (by decide))
    have HV3 := Hid.mk' hv3
    have HZ3 := Hid.mk' hz3
    clear hr3 ho3 hz3 hv3
    have p0 := cell_of_obj HI.out.b (j := 0) (v := .bool true) rfl
    have p1 := cell_of_obj HI.out.b (j := 1) (v := .bool false) rfl
    have p2 := cell_of_obj HI.out.b (j := 2) (v := .bool false) rfl
    have p3 := cell_of_obj HI.out.b (j := 3) (v := .bool true) rfl
    have x0 := cell_of_obj HI.out.x (j := 0) (v := .int .i64 op) rfl
    have x1 := cell_of_obj HI.out.x (j := 1) (v := .int .i64 v0) rfl
    have x2 := cell_of_obj HI.out.x (j := 2) (v := .int .i64 0) rfl
    have x3 := cell_of_obj HI.out.x (j := 3) (v := .int .i64 0) rfl
    have x4 := cell_of_obj HI.out.x (j := 4) (v := .int .i64 v3) rfl
    have z0 := cell_of_obj HI.out.z (j := 0) (v := .int .i64 0) rfl
    have z1 := cell_of_obj HI.out.z (j := 1) (v := .int .i64 0) rfl
    have z2 := cell_of_obj HI.out.z (j := 2) (v := .int .i64 0) rfl
    have z3 := cell_of_obj HI.out.z (j := 3) (v := .int .i64 0) rfl
    have z4 := cell_of_obj HI.out.z (j := 4) (v := .int .i64 0) rfl
    have zf := Lib.frozen_of_heap HI.out.z
    go_wp2_with fail
    exact bodyPost_ret (v := .agg (cI ⟨op, v0, 0, 0, v3⟩)) (by simp [results, Tryz.results18, go_sem, *]) rfl ⟨⟨op, v0, 0, 0, v3⟩, (setF_ok2 (x := ⟨op, v0, 0, 0, 0⟩) (setF_ok2 (x := ⟨op, 0, 0, 0, 0⟩) (ins0_ok HOP.out) HV0.out 0) HV3.out 3), rfl, rfl, (IsR.step (x := ⟨op, v0, 0, 0, 0⟩) (IsR.step (x := ⟨op, 0, 0, 0, 0⟩) (ins0_r op) HZ0.out 0) HZ3.out 3), (HI.out.fin _ _ _ _ _).1, (HI.out.fin _ _ _ _ _).2⟩
  · have hhs : hs = [0, 2] := by have := HL.out; simpa using this
    subst hhs
    have p0 := cell_of_obj HI.out.b (j := 0) (v := .bool true) rfl
    have p1 := cell_of_obj HI.out.b (j := 1) (v := .bool false) rfl
    have p2 := cell_of_obj HI.out.b (j := 2) (v := .bool true) rfl
    have p3 := cell_of_obj HI.out.b (j := 3) (v := .bool false) rfl
    have x0 := cell_of_obj HI.out.x (j := 0) (v := .int .i64 op) rfl
    have x1 := cell_of_obj HI.out.x (j := 1) (v := .int .i64 0) rfl
    have x2 := cell_of_obj HI.out.x (j := 2) (v := .int .i64 0) rfl
    have x3 := cell_of_obj HI.out.x (j := 3) (v := .int .i64 0) rfl
    have x4 := cell_of_obj HI.out.x (j := 4) (v := .int .i64 0) rfl
    have z0 := cell_of_obj HI.out.z (j := 0) (v := .int .i64 0) rfl
    have z1 := cell_of_obj HI.out.z (j := 1) (v := .int .i64 0) rfl
    have z2 := cell_of_obj HI.out.z (j := 2) (v := .int .i64 0) rfl
    have z3 := cell_of_obj HI.out.z (j := 3) (v := .int .i64 0) rfl
    have z4 := cell_of_obj HI.out.z (j := 4) (v := .int .i64 0) rfl
    have zf := Lib.frozen_of_heap HI.out.z
    go_wp2_with fail
    refine (HN.out _ _ HI.out.r).mono ?_
    rintro e U0 ⟨v0, hv0, rfl, hz0, hr0, ho0⟩
    clear p0 p1 p2 p3 x0 x1 x2 x3 x4 z0 z1 z2 z3 z4 zf
    replace HI := Hid.mk' (HI.out.on hr0 ho0)
    have yc := cell_of_obj HI.out.x (j := 1) (v := .int .i64 0) rfl
    have yf := Lib.frozen_of_heap HI.out.x
    replace HI := Hid.mk' (HI.out.set v0 0 (by decide))
    have HV0 := Hid.mk' hv0
    have HZ0 := Hid.mk' hz0
    clear hr0 ho0 hz0 hv0
    have p0 := cell_of_obj HI.out.b (j := 0) (v := .bool true) rfl
    have p1 := cell_of_obj HI.out.b (j := 1) (v := .bool false) rfl
    have p2 := cell_of_obj HI.out.b (j := 2) (v := .bool true) rfl
    have p3 := cell_of_obj HI.out.b (j := 3) (v := .bool false) rfl
    have x0 := cell_of_obj HI.out.x (j := 0) (v := .int .i64 op) rfl
    have x1 := cell_of_obj HI.out.x (j := 1) (v := .int .i64 v0) rfl
    have x2 := cell_of_obj HI.out.x (j := 2) (v := .int .i64 0) rfl
    have x3 := cell_of_obj HI.out.x (j := 3) (v := .int .i64 0) rfl
    have x4 := cell_of_obj HI.out.x (j := 4) (v := .int .i64 0) rfl
    have z0 := cell_of_obj HI.out.z (j := 0) (v := .int .i64 0) rfl
    have z1 := cell_of_obj HI.out.z (j := 1) (v := .int .i64 0) rfl
    have z2 := cell_of_obj HI.out.z (j := 2) (v := .int .i64 0) rfl
    have z3 := cell_of_obj HI.out.z (j := 3) (v := .int .i64 0) rfl
    have z4 := cell_of_obj HI.out.z (j := 4) (v := .int .i64 0) rfl
    have zf := Lib.frozen_of_heap HI.out.z
    go_wp2_with fail
    clear yc yf
    generalize U0.setCell ⟨G5 + 1, 0 + 1, none⟩ (.int .i64 v0) = T0 at *
    refine (HN.out _ _ HI.out.r).mono ?_
    rintro e U2 ⟨v2, hv2, rfl, hz2, hr2, ho2⟩
    clear p0 p1 p2 p3 x0 x1 x2 x3 x4 z0 z1 z2 z3 z4 zf
    replace HI := Hid.mk' (HI.out.on hr2 ho2)
    have yc := cell_of_obj HI.out.x (j := 3) (v := .int .i64 0) rfl
    have yf := Lib.frozen_of_heap HI.out.x
    replace HI := Hid.mk' (HI.out.set v2 2 (by decide))
    have HV2 := Hid.mk' hv2
    have HZ2 := Hid.mk' hz2
    clear hr2 ho2 hz2 hv2
    have p0 := cell_of_obj HI.out.b (j := 0) (v := .bool true) rfl
    have p1 := cell_of_obj HI.out.b (j := 1) (v := .bool false) rfl
    have p2 := cell_of_obj HI.out.b (j := 2) (v := .bool true) rfl
    have p3 := cell_of_obj HI.out.b (j := 3) (v := .bool false) rfl
    have x0 := cell_of_obj HI.out.x (j := 0) (v := .int .i64 op) rfl
    have x1 := cell_of_obj HI.out.x (j := 1) (v := .int .i64 v0) rfl
    have x2 := cell_of_obj HI.out.x (j := 2) (v := .int .i64 0) rfl
    have x3 := cell_of_obj HI.out.x (j := 3) (v := .int .i64 v2) rfl
    have x4 := cell_of_obj HI.out.x (j := 4) (v := .int .i64 0) rfl
    have z0 := cell_of_obj HI.out.z (j := 0) (v := .int .i64 0) rfl
    have z1 := cell_of_obj HI.out.z (j := 1) (v := .int .i64 0) rfl
    have z2 := cell_of_obj HI.out.z (j := 2) (v := .int .i64 0) rfl
    have z3 := cell_of_obj HI.out.z (j := 3) (v := .int .i64 0) rfl
    have z4 := cell_of_obj HI.out.z (j := 4) (v := .int .i64 0) rfl
    have zf := Lib.frozen_of_heap HI.out.z
    go_wp2_with fail
    exact bodyPost_ret (v := .agg (cI ⟨op, v0, 0, v2, 0⟩)) (by simp [results, Tryz.results18, go_sem, *]) rfl ⟨⟨op, v0, 0, v2, 0⟩, (setF_ok2 (x := ⟨op, v0, 0, 0, 0⟩) (setF_ok2 (x := ⟨op, 0, 0, 0, 0⟩) (ins0_ok HOP.out) HV0.out 0) HV2.out 2), rfl, rfl, (IsR.step (x := ⟨op, v0, 0, 0, 0⟩) (IsR.step (x := ⟨op, 0, 0, 0, 0⟩) (ins0_r op) HZ0.out 0) HZ2.out 2), (HI.out.fin _ _ _ _ _).1, (HI.out.fin _ _ _ _ _).2⟩
  · have hhs : hs = [0, 2, 3] := by have := HL.out; simpa using this
    subst hhs
    have p0 := cell_of_obj HI.out.b (j := 0) (v := .bool true) rfl
    have p1 := cell_of_obj HI.out.b (j := 1) (v := .bool false) rfl
    have p2 := cell_of_obj HI.out.b (j := 2) (v := .bool true) rfl
    have p3 := cell_of_obj HI.out.b (j := 3) (v := .bool true) rfl
    have x0 := cell_of_obj HI.out.x (j := 0) (v := .int .i64 op) rfl
    have x1 := cell_of_obj HI.out.x (j := 1) (v := .int .i64 0) rfl
    have x2 := cell_of_obj HI.out.x (j := 2) (v := .int .i64 0) rfl
    have x3 := cell_of_obj HI.out.x (j := 3) (v := .int .i64 0) rfl
    have x4 := cell_of_obj HI.out.x (j := 4) (v := .int .i64 0) rfl
    have z0 := cell_of_obj HI.out.z (j := 0) (v := .int .i64 0) rfl
    have z1 := cell_of_obj HI.out.z (j := 1) (v := .int .i64 0) rfl
    have z2 := cell_of_obj HI.out.z (j := 2) (v := .int .i64 0) rfl
    have z3 := cell_of_obj HI.out.z (j := 3) (v := .int .i64 0) rfl
    have z4 := cell_of_obj HI.out.z (j := 4) (v := .int .i64 0) rfl
    have zf := Lib.frozen_of_heap HI.out.z
    go_wp2_with fail
    refine (HN.out _ _ HI.out.r).mono ?_
    rintro e U0 ⟨v0, hv0, rfl, hz0, hr0, ho0⟩
    clear p0 p1 p2 p3 x0 x1 x2 x3 x4 z0 z1 z2 z3 z4 zf
    replace HI := Hid.mk' (HI.out.on hr0 ho0)
    have yc := cell_of_obj HI.out.x (j := 1) (v := .int .i64 0) rfl
    have yf := Lib.frozen_of_heap HI.out.x
    replace HI := Hid.mk' (HI.out.set v0 0 (by decide))
    have HV0 := Hid.mk' hv0
    have HZ0 := Hid.mk' hz0
    clear hr0 ho0 hz0 hv0
    have p0 := cell_of_obj HI.out.b (j := 0) (v := .bool true) rfl
    have p1 := cell_of_obj HI.out.b (j := 1) (v := .bool false) rfl
    have p2 := cell_of_obj HI.out.b (j := 2) (v := .bool true) rfl
    have p3 := cell_of_obj HI.out.b (j := 3) (v := .bool true) rfl
    have x0 := cell_of_obj HI.out.x (j := 0) (v := .int .i64 op) rfl
    have x1 := cell_of_obj HI.out.x (j := 1) (v := .int .i64 v0) rfl
    have x2 := cell_of_obj HI.out.x (j := 2) (v := .int .i64 0) rfl
    have x3 := cell_of_obj HI.out.x (j := 3) (v := .int .i64 0) rfl
    have x4 := cell_of_obj HI.out.x (j := 4) (v := .int .i64 0) rfl
    have z0 := cell_of_obj HI.out.z (j := 0) (v := .int .i64 0) rfl
    have z1 := cell_of_obj HI.out.z (j := 1) (v := .int .i64 0) rfl
    have z2 := cell_of_obj HI.out.z (j := 2) (v := .int .i64 0) rfl
    have z3 := cell_of_obj HI.out.z (j := 3) (v := .int .i64 0) rfl
    have z4 := cell_of_obj HI.out.z (j := 4) (v := .int .i64 0) rfl
    have zf := Lib.frozen_of_heap HI.out.z
    go_wp2_with fail
    clear yc yf
    generalize U0.setCell ⟨G5 + 1, 0 + 1, none⟩ (.int .i64 v0) = T0 at *
    refine (HN.out _ _ HI.out.r).mono ?_
    rintro e U2 ⟨v2, hv2, rfl, hz2, hr2, ho2⟩
    clear p0 p1 p2 p3 x0 x1 x2 x3 x4 z0 z1 z2 z3 z4 zf
    replace HI := Hid.mk' (HI.out.on hr2 ho2)
    have yc := cell_of_obj HI.out.x (j := 3) (v := .int .i64 0) rfl
    have yf := Lib.frozen_of_heap HI.out.x
    replace HI := Hid.mk' (HI.out.set v2 2 (by decide))
    have HV2 := Hid.mk' hv2
    have HZ2 := Hid.mk' hz2
    clear hr2 ho2 hz2 hv2
    have p0 := cell_of_obj HI.out.b (j := 0) (v := .bool true) rfl
    have p1 := cell_of_obj HI.out.b (j := 1) (v := .bool false) rfl
    have p2 := cell_of_obj HI.out.b (j := 2) (v := .bool true) rfl
    have p3 := cell_of_obj HI.out.b (j := 3) (v := .bool true) rfl
    have x0 := cell_of_obj HI.out.x (j := 0) (v := .int .i64 op) rfl
    have x1 := cell_of_obj HI.out.x (j := 1) (v := .int .i64 v0) rfl
    have x2 := cell_of_obj HI.out.x (j := 2) (v := .int .i64 0) rfl
    have x3 := cell_of_obj HI.out.x (j := 3) (v := .int .i64 v2) rfl
    have x4 := cell_of_obj HI.out.x (j := 4) (v := .int .i64 0) rfl
    have z0 := cell_of_obj HI.out.z (j := 0) (v := .int .i64 0) rfl
    have z1 := cell_of_obj HI.out.z (j := 1) (v := .int .i64 0) rfl
    have z2 := cell_of_obj HI.out.z (j := 2) (v := .int .i64 0) rfl
    have z3 := cell_of_obj HI.out.z (j := 3) (v := .int .i64 0) rfl
    have z4 := cell_of_obj HI.out.z (j := 4) (v := .int .i64 0) rfl
    have zf := Lib.frozen_of_heap HI.out.z
    go_wp2_with fail
    clear yc yf
    generalize U2.setCell ⟨G5 + 1, 2 + 1, none⟩ (.int .i64 v2) = T2 at *
    refine (HN.out _ _ HI.out.r).mono ?_
    rintro e U3 ⟨v3, hv3, rfl, hz3, hr3, ho3⟩
    clear p0 p1 p2 p3 x0 x1 x2 x3 x4 z0 z1 z2 z3 z4 zf
    replace HI := Hid.mk' (HI.out.on hr3 ho3)
    have yc := cell_of_obj HI.out.x (j := 4) (v := .int .i64 0) rfl
    have yf := Lib.frozen_of_heap HI.out.x
    replace HI := Hid.mk' (HI.out.set v3 3 (by decide))
    have HV3 := Hid.mk' hv3
    have HZ3 := Hid.mk' hz3
    clear hr3 ho3 hz3 hv3
    have p0 := cell_of_obj HI.out.b (j := 0) (v := .bool true) rfl
    have p1 := cell_of_obj HI.out.b (j := 1) (v := .bool false) rfl
    have p2 := cell_of_obj HI.out.b (j := 2) (v := .bool true) rfl
    have p3 := cell_of_obj HI.out.b (j := 3) (v := .bool true) rfl
    have x0 := cell_of_obj HI.out.x (j := 0) (v := .int .i64 op) rfl
    have x1 := cell_of_obj HI.out.x (j := 1) (v := .int .i64 v0) rfl
    have x2 := cell_of_obj HI.out.x (j := 2) (v := .int .i64 0) rfl
    have x3 := cell_of_obj HI.out.x (j := 3) (v := .int .i64 v2) rfl
    have x4 := cell_of_obj HI.out.x (j := 4) (v := .int .i64 v3) rfl
    have z0 := cell_of_obj HI.out.z (j := 0) (v := .int .i64 0) rfl
    have z1 := cell_of_obj HI.out.z (j := 1) (v := .int .i64 0) rfl
    have z2 := cell_of_obj HI.out.z (j := 2) (v := .int .i64 0) rfl
    have z3 := cell_of_obj HI.out.z (j := 3) (v := .int .i64 0) rfl
    have z4 := cell_of_obj HI.out.z (j := 4) (v := .int .i64 0) rfl
    have zf := Lib.frozen_of_heap HI.out.z
    go_wp2_with fail
    exact bodyPost_ret (v := .agg (cI ⟨op, v0, 0, v2, v3⟩)) (by simp [results, Tryz.results18, go_sem, *]) rfl ⟨⟨op, v0, 0, v2, v3⟩, (setF_ok2 (x := ⟨op, v0, 0, v2, 0⟩) (setF_ok2 (x := ⟨op, v0, 0, 0, 0⟩) (setF_ok2 (x := ⟨op, 0, 0, 0, 0⟩) (ins0_ok HOP.out) HV0.out 0) HV2.out 2) HV3.out 3), rfl, rfl, (IsR.step (x := ⟨op, v0, 0, v2, 0⟩) (IsR.step (x := ⟨op, v0, 0, 0, 0⟩) (IsR.step (x := ⟨op, 0, 0, 0, 0⟩) (ins0_r op) HZ0.out 0) HZ2.out 2) HZ3.out 3), (HI.out.fin _ _ _ _ _).1, (HI.out.fin _ _ _ _ _).2⟩
  · have hhs : hs = [0, 1] := by have := HL.out; simpa using this
    subst hhs
    have p0 := cell_of_obj HI.out.b (j := 0) (v := .bool true) rfl
    have p1 := cell_of_obj HI.out.b (j := 1) (v := .bool true) rfl
    have p2 := cell_of_obj HI.out.b (j := 2) (v := .bool false) rfl
    have p3 := cell_of_obj HI.out.b (j := 3) (v := .bool false) rfl
    have x0 := cell_of_obj HI.out.x (j := 0) (v := .int .i64 op) rfl
    have x1 := cell_of_obj HI.out.x (j := 1) (v := .int .i64 0) rfl
    have x2 := cell_of_obj HI.out.x (j := 2) (v := .int .i64 0) rfl
    have x3 := cell_of_obj HI.out.x (j := 3) (v := .int .i64 0) rfl
    have x4 := cell_of_obj HI.out.x (j := 4) (v := .int .i64 0) rfl
    have z0 := cell_of_obj HI.out.z (j := 0) (v := .int .i64 0) rfl
    have z1 := cell_of_obj HI.out.z (j := 1) (v := .int .i64 0) rfl
    have z2 := cell_of_obj HI.out.z (j := 2) (v := .int .i64 0) rfl
    have z3 := cell_of_obj HI.out.z (j := 3) (v := .int .i64 0) rfl
    have z4 := cell_of_obj HI.out.z (j := 4) (v := .int .i64 0) rfl
    have zf := Lib.frozen_of_heap HI.out.z
    go_wp2_with fail
    refine (HN.out _ _ HI.out.r).mono ?_
    rintro e U0 ⟨v0, hv0, rfl, hz0, hr0, ho0⟩
    clear p0 p1 p2 p3 x0 x1 x2 x3 x4 z0 z1 z2 z3 z4 zf
    replace HI := Hid.mk' (HI.out.on hr0 ho0)
    have yc := cell_of_obj HI.out.x (j := 1) (v := .int .i64 0) rfl
    have yf := Lib.frozen_of_heap HI.out.x
    replace HI := Hid.mk' (HI.out.set v0 0 (by decide))
    have HV0 := Hid.mk' hv0
    have HZ0 := Hid.mk' hz0
    clear hr0 ho0 hz0 hv0
    have p0 := cell_of_obj HI.out.b (j := 0) (v := .bool true) rfl
    have p1 := cell_of_obj HI.out.b (j := 1) (v := .bool true) rfl
    have p2 := cell_of_obj HI.out.b (j := 2) (v := .bool false) rfl
    have p3 := cell_of_obj HI.out.b (j := 3) (v := .bool false) rfl
    have x0 := cell_of_obj HI.out.x (j := 0) (v := .int .i64 op) rfl
    have x1 := cell_of_obj HI.out.x (j := 1) (v := .int .i64 v0) rfl
    have x2 := cell_of_obj HI.out.x (j := 2) (v := .int .i64 0) rfl
    have x3 := cell_of_obj HI.out.x (j := 3) (v := .int .i64 0) rfl
    have x4 := cell_of_obj HI.out.x (j := 4) (v := .int .i64 0) rfl
    have z0 := cell_of_obj HI.out.z (j := 0) (v := .int .i64 0) rfl
    have z1 := cell_of_obj HI.out.z (j := 1) (v := .int .i64 0) rfl
    have z2 := cell_of_obj HI.out.z (j := 2) (v := .int .i64 0) rfl
    have z3 := cell_of_obj HI.out.z (j := 3) (v := .int .i64 0) rfl
    have z4 := cell_of_obj HI.out.z (j := 4) (v := .int .i64 0) rfl
    have zf := Lib.frozen_of_heap HI.out.z
    go_wp2_with fail
    clear yc yf
    generalize U0.setCell ⟨G5 + 1, 0 + 1, none⟩ (.int .i64 v0) = T0 at *
    refine (HN.out _ _ HI.out.r).mono ?_
    rintro e U1 ⟨v1, hv1, rfl, hz1, hr1, ho1⟩
    clear p0 p1 p2 p3 x0 x1 x2 x3 x4 z0 z1 z2 z3 z4 zf
    replace HI := Hid.mk' (HI.out.on hr1 ho1)
    have yc := cell_of_obj HI.out.x (j := 2) (v := .int .i64 0) rfl
    have yf := Lib.frozen_of_heap HI.out.x
    replace HI := Hid.mk' (HI.out.set v1 1 (by decide))
    have HV1 := Hid.mk' hv1
    have HZ1 := Hid.mk' hz1
    clear hr1 ho1 hz1 hv1
    have p0 := cell_of_obj HI.out.b (j := 0) (v := .bool true) rfl
    have p1 := cell_of_obj HI.out.b (j := 1) (v := .bool true) rfl
    have p2 := cell_of_obj HI.out.b (j := 2) (v := .bool false) rfl
    have p3 := cell_of_obj HI.out.b (j := 3) (v := .bool false) rfl
    have x0 := cell_of_obj HI.out.x (j := 0) (v := .int .i64 op) rfl
    have x1 := cell_of_obj HI.out.x (j := 1) (v := .int .i64 v0) rfl
    have x2 := cell_of_obj HI.out.x (j := 2) (v := .int .i64 v1) rfl
    have x3 := cell_of_obj HI.out.x (j := 3) (v := .int .i64 0) rfl
    have x4 := cell_of_obj HI.out.x (j := 4) (v := .int .i64 0) rfl
    have z0 := cell_of_obj HI.out.z (j := 0) (v := .int .i64 0) rfl
    have z1 := cell_of_obj HI.out.z (j := 1) (v := .int .i64 0) rfl
    have z2 := cell_of_obj HI.out.z (j := 2) (v := .int .i64 0) rfl
    have z3 := cell_of_obj HI.out.z (j := 3) (v := .int .i64 0) rfl
    have z4 := cell_of_obj HI.out.z (j := 4) (v := .int .i64 0) rfl
    have zf := Lib.frozen_of_heap HI.out.z
    go_wp2_with fail
    exact bodyPost_ret (v := .agg (cI ⟨op, v0, v1, 0, 0⟩)) (by simp [results, Tryz.results18, go_sem, *]) rfl ⟨⟨op, v0, v1, 0, 0⟩, (setF_ok2 (x := ⟨op, v0, 0, 0, 0⟩) (setF_ok2 (x := ⟨op, 0, 0, 0, 0⟩) (ins0_ok HOP.out) HV0.out 0) HV1.out 1), rfl, rfl, (IsR.step (x := ⟨op, v0, 0, 0, 0⟩) (IsR.step (x := ⟨op, 0, 0, 0, 0⟩) (ins0_r op) HZ0.out 0) HZ1.out 1), (HI.out.fin _ _ _ _ _).1, (HI.out.fin _ _ _ _ _).2⟩
  · have hhs : hs = [0, 1, 3] := by have := HL.out; simpa using this
    subst hhs
    have p0 := cell_of_obj HI.out.b (j := 0) (v := .bool true) rfl
    have p1 := cell_of_obj HI.out.b (j := 1) (v := .bool true) rfl
    have p2 := cell_of_obj HI.out.b (j := 2) (v := .bool false) rfl
    have p3 := cell_of_obj HI.out.b (j := 3) (v := .bool true) rfl
    have x0 := cell_of_obj HI.out.x (j := 0) (v := .int .i64 op) rfl
    have x1 := cell_of_obj HI.out.x (j := 1) (v := .int .i64 0) rfl
    have x2 := cell_of_obj HI.out.x (j := 2) (v := .int .i64 0) rfl
    have x3 := cell_of_obj HI.out.x (j := 3) (v := .int .i64 0) rfl
    have x4 := cell_of_obj HI.out.x (j := 4) (v := .int .i64 0) rfl
    have z0 := cell_of_obj HI.out.z (j := 0) (v := .int .i64 0) rfl
    have z1 := cell_of_obj HI.out.z (j := 1) (v := .int .i64 0) rfl
    have z2 := cell_of_obj HI.out.z (j := 2) (v := .int .i64 0) rfl
    have z3 := cell_of_obj HI.out.z (j := 3) (v := .int .i64 0) rfl
    have z4 := cell_of_obj HI.out.z (j := 4) (v := .int .i64 0) rfl
    have zf := Lib.frozen_of_heap HI.out.z
    go_wp2_with fail
    refine (HN.out _ _ HI.out.r).mono ?_
    rintro e U0 ⟨v0, hv0, rfl, hz0, hr0, ho0⟩
    clear p0 p1 p2 p3 x0 x1 x2 x3 x4 z0 z1 z2 z3 z4 zf
    replace HI := Hid.mk' (HI.out.on hr0 ho0)
    have yc := cell_of_obj HI.out.x (j := 1) (v := .int .i64 0) rfl
    have yf := Lib.frozen_of_heap HI.out.x
    replace HI := Hid.mk' (HI.out.set v0 0 (by decide))
    have HV0 := Hid.mk' hv0
    have HZ0 := Hid.mk' hz0
    clear hr0 ho0 hz0 hv0
    have p0 := cell_of_obj HI.out.b (j := 0) (v := .bool true) rfl
    have p1 := cell_of_obj HI.out.b (j := 1) (v := .bool true) rfl
    have p2 := cell_of_obj HI.out.b (j := 2) (v := .bool false) rfl
    have p3 := cell_of_obj HI.out.b (j := 3) (v := .bool true) rfl
    have x0 := cell_of_obj HI.out.x (j := 0) (v := .int .i64 op) rfl
    have x1 := cell_of_obj HI.out.x (j := 1) (v := .int .i64 v0) rfl
    have x2 := cell_of_obj HI.out.x (j := 2) (v := .int .i64 0) rfl
    have x3 := cell_of_obj HI.out.x (j := 3) (v := .int .i64 0) rfl
    have x4 := cell_of_obj HI.out.x (j := 4) (v := .int .i64 0) rfl
    have z0 := cell_of_obj HI.out.z (j := 0) (v := .int .i64 0) rfl
    have z1 := cell_of_obj HI.out.z (j := 1) (v := .int .i64 0) rfl
    have z2 := cell_of_obj HI.out.z (j := 2) (v := .int .i64 0) rfl
    have z3 := cell_of_obj HI.out.z (j := 3) (v := .int .i64 0) rfl
    have z4 := cell_of_obj HI.out.z (j := 4) (v := .int .i64 0) rfl
    have zf := Lib.frozen_of_heap HI.out.z
    go_wp2_with fail
    clear yc yf
    generalize U0.setCell ⟨G5 + 1, 0 + 1, none⟩ (.int .i64 v0) = T0 at *
    refine (HN.out _ _ HI.out.r).mono ?_
    rintro e U1 ⟨v1, hv1, rfl, hz1, hr1, ho1⟩
    clear p0 p1 p2 p3 x0 x1 x2 x3 x4 z0 z1 z2 z3 z4 zf
    replace HI := Hid.mk' (HI.out.on hr1 ho1)
    have yc := cell_of_obj HI.out.x (j := 2) (v := .int .i64 0) rfl
    have yf := Lib.frozen_of_heap HI.out.x
    replace HI := Hid.mk' (HI.out.set v1 1 (by decide))
    have HV1 := Hid.mk' hv1
    have HZ1 := Hid.mk' hz1
    clear hr1 ho1 hz1 hv1
    have p0 := cell_of_obj HI.out.b (j := 0) (v := .bool true) rfl
    have p1 := cell_of_obj HI.out.b (j := 1) (v := .bool true) rfl
    have p2 := cell_of_obj HI.out.b (j := 2) (v := .bool false) rfl
    have p3 := cell_of_obj HI.out.b (j := 3) (v := .bool true) rfl
    have x0 := cell_of_obj HI.out.x (j := 0) (v := .int .i64 op) rfl
    have x1 := cell_of_obj HI.out.x (j := 1) (v := .int .i64 v0) rfl
    have x2 := cell_of_obj HI.out.x (j := 2) (v := .int .i64 v1) rfl
    have x3 := cell_of_obj HI.out.x (j := 3) (v := .int .i64 0) rfl
    have x4 := cell_of_obj HI.out.x (j := 4) (v := .int .i64 0) rfl
    have z0 := cell_of_obj HI.out.z (j := 0) (v := .int .i64 0) rfl
    have z1 := cell_of_obj HI.out.z (j := 1) (v := .int .i64 0) rfl
    have z2 := cell_of_obj HI.out.z (j := 2) (v := .int .i64 0) rfl
    have z3 := cell_of_obj HI.out.z (j := 3) (v := .int .i64 0) rfl
    have z4 := cell_of_obj HI.out.z (j := 4) (v := .int .i64 0) rfl
    have zf := Lib.frozen_of_heap HI.out.z
    go_wp2_with fail
    clear yc yf
    generalize U1.setCell ⟨G5 + 1, 1 + 1, none⟩ (.int .i64 v1) = T1 at *
    refine (HN.out _ _ HI.out.r).mono ?_
    rintro e U3 ⟨v3, hv3, rfl, hz3, hr3, ho3⟩
    clear p0 p1 p2 p3 x0 x1 x2 x3 x4 z0 z1 z2 z3 z4 zf
    replace HI := Hid.mk' (HI.out.on hr3 ho3)
    have yc := cell_of_obj HI.out.x (j := 4) (v := .int .i64 0) rfl
    have yf := Lib.frozen_of_heap HI.out.x
    replace HI := Hid.mk' (HI.out.set v3 3 (by decide))
    have HV3 := Hid.mk' hv3
    have HZ3 := Hid.mk' hz3
    clear hr3 ho3 hz3 hv3
    have p0 := cell_of_obj HI.out.b (j := 0) (v := .bool true) rfl
    have p1 := cell_of_obj HI.out.b (j := 1) (v := .bool true) rfl
    have p2 := cell_of_obj HI.out.b (j := 2) (v := .bool false) rfl
    have p3 := cell_of_obj HI.out.b (j := 3) (v := .bool true) rfl
    have x0 := cell_of_obj HI.out.x (j := 0) (v := .int .i64 op) rfl
    have x1 := cell_of_obj HI.out.x (j := 1) (v := .int .i64 v0) rfl
    have x2 := cell_of_obj HI.out.x (j := 2) (v := .int .i64 v1) rfl
    have x3 := cell_of_obj HI.out.x (j := 3) (v := .int .i64 0) rfl
    have x4 := cell_of_obj HI.out.x (j := 4) (v := .int .i64 v3) rfl
    have z0 := cell_of_obj HI.out.z (j := 0) (v := .int .i64 0) rfl
    have z1 := cell_of_obj HI.out.z (j := 1) (v := .int .i64 0) rfl
    have z2 := cell_of_obj HI.out.z (j := 2) (v := .int .i64 0) rfl
    have z3 := cell_of_obj HI.out.z (j := 3) (v := .int .i64 0) rfl
    have z4 := cell_of_obj HI.out.z (j := 4) (v := .int .i64 0) rfl
    have zf := Lib.frozen_of_heap HI.out.z
    go_wp2_with fail
    exact bodyPost_ret (v := .agg (cI ⟨op, v0, v1, 0, v3⟩)) (by simp [results, Tryz.results18, go_sem, *]) rfl ⟨⟨op, v0, v1, 0, v3⟩, (setF_ok2 (x := ⟨op, v0, v1, 0, 0⟩) (setF_ok2 (x := ⟨op, v0, 0, 0, 0⟩) (setF_ok2 (x := ⟨op, 0, 0, 0, 0⟩) (ins0_ok HOP.out) HV0.out 0) HV1.out 1) HV3.out 3), rfl, rfl, (IsR.step (x := ⟨op, v0, v1, 0, 0⟩) (IsR.step (x := ⟨op, v0, 0, 0, 0⟩) (IsR.step (x := ⟨op, 0, 0, 0, 0⟩) (ins0_r op) HZ0.out 0) HZ1.out 1) HZ3.out 3), (HI.out.fin _ _ _ _ _).1, (HI.out.fin _ _ _ _ _).2⟩
  · have hhs : hs = [0, 1, 2] := by have := HL.out; simpa using this
    subst hhs
    have p0 := cell_of_obj HI.out.b (j := 0) (v := .bool true) rfl
    have p1 := cell_of_obj HI.out.b (j := 1) (v := .bool true) rfl
    have p2 := cell_of_obj HI.out.b (j := 2) (v := .bool true) rfl
    have p3 := cell_of_obj HI.out.b (j := 3) (v := .bool false) rfl
    have x0 := cell_of_obj HI.out.x (j := 0) (v := .int .i64 op) rfl
    have x1 := cell_of_obj HI.out.x (j := 1) (v := .int .i64 0) rfl
    have x2 := cell_of_obj HI.out.x (j := 2) (v := .int .i64 0) rfl
    have x3 := cell_of_obj HI.out.x (j := 3) (v := .int .i64 0) rfl
    have x4 := cell_of_obj HI.out.x (j := 4) (v := .int .i64 0) rfl
    have z0 := cell_of_obj HI.out.z (j := 0) (v := .int .i64 0) rfl
    have z1 := cell_of_obj HI.out.z (j := 1) (v := .int .i64 0) rfl
    have z2 := cell_of_obj HI.out.z (j := 2) (v := .int .i64 0) rfl
    have z3 := cell_of_obj HI.out.z (j := 3) (v := .int .i64 0) rfl
    have z4 := cell_of_obj HI.out.z (j := 4) (v := .int .i64 0) rfl
    have zf := Lib.frozen_of_heap HI.out.z
    go_wp2_with fail
    refine (HN.out _ _ HI.out.r).mono ?_
    rintro e U0 ⟨v0, hv0, rfl, hz0, hr0, ho0⟩
    clear p0 p1 p2 p3 x0 x1 x2 x3 x4 z0 z1 z2 z3 z4 zf
    replace HI := Hid.mk' (HI.out.on hr0 ho0)
    have yc := cell_of_obj HI.out.x (j := 1) (v := .int .i64 0) rfl
    have yf := Lib.frozen_of_heap HI.out.x
    replace HI := Hid.mk' (HI.out.set v0 0 (by decide))
    have HV0 := Hid.mk' hv0
    have HZ0 := Hid.mk' hz0
    clear hr0 ho0 hz0 hv0
    have p0 := cell_of_obj HI.out.b (j := 0) (v := .bool true) rfl
    have p1 := cell_of_obj HI.out.b (j := 1) (v := .bool true) rfl
    have p2 := cell_of_obj HI.out.b (j := 2) (v := .bool true) rfl
    have p3 := cell_of_obj HI.out.b (j := 3) (v := .bool false) rfl
    have x0 := cell_of_obj HI.out.x (j := 0) (v := .int .i64 op) rfl
    have x1 := cell_of_obj HI.out.x (j := 1) (v := .int .i64 v0) rfl
    have x2 := cell_of_obj HI.out.x (j := 2) (v := .int .i64 0) rfl
    have x3 := cell_of_obj HI.out.x (j := 3) (v := .int .i64 0) rfl
    have x4 := cell_of_obj HI.out.x (j := 4) (v := .int .i64 0) rfl
    have z0 := cell_of_obj HI.out.z (j := 0) (v := .int .i64 0) rfl
    have z1 := cell_of_obj HI.out.z (j := 1) (v := .int .i64 0) rfl
    have z2 := cell_of_obj HI.out.z (j := 2) (v := .int .i64 0) rfl
    have z3 := cell_of_obj HI.out.z (j := 3) (v := .int .i64 0) rfl
    have z4 := cell_of_obj HI.out.z (j := 4) (v := .int .i64 0) rfl
    have zf := Lib.frozen_of_heap HI.out.z
    go_wp2_with fail
    clear yc yf
    generalize U0.setCell ⟨G5 + 1, 0 + 1, none⟩ (.int .i64 v0) = T0 at *
    refine (HN.out _ _ HI.out.r).mono ?_
    rintro e U1 ⟨v1, hv1, rfl, hz1, hr1, ho1⟩
    clear p0 p1 p2 p3 x0 x1 x2 x3 x4 z0 z1 z2 z3 z4 zf
    replace HI := Hid.mk' (HI.out.on hr1 ho1)
    have yc := cell_of_obj HI.out.x (j := 2) (v := .int .i64 0) rfl
    have yf := Lib.frozen_of_heap HI.out.x
    replace HI := Hid.mk' (HI.out.set v1 1 (by decide))
    have HV1 := Hid.mk' hv1
    have HZ1 := Hid.mk' hz1
    clear hr1 ho1 hz1 hv1
    have p0 := cell_of_obj HI.out.b (j := 0) (v := .bool true) rfl
    have p1 := cell_of_obj HI.out.b (j := 1) (v := .bool true) rfl
    have p2 := cell_of_obj HI.out.b (j := 2) (v := .bool true) rfl
    have p3 := cell_of_obj HI.out.b (j := 3) (v := .bool false) rfl
    have x0 := cell_of_obj HI.out.x (j := 0) (v := .int .i64 op) rfl
    have x1 := cell_of_obj HI.out.x (j := 1) (v := .int .i64 v0) rfl
    have x2 := cell_of_obj HI.out.x (j := 2) (v := .int .i64 v1) rfl
    have x3 := cell_of_obj HI.out.x (j := 3) (v := .int .i64 0) rfl
    have x4 := cell_of_obj HI.out.x (j := 4) (v := .int .i64 0) rfl
    have z0 := cell_of_obj HI.out.z (j := 0) (v := .int .i64 0) rfl
    have z1 := cell_of_obj HI.out.z (j := 1) (v := .int .i64 0) rfl
    have z2 := cell_of_obj HI.out.z (j := 2) (v := .int .i64 0) rfl
    have z3 := cell_of_obj HI.out.z (j := 3) (v := .int .i64 0) rfl
    have z4 := cell_of_obj HI.out.z (j := 4) (v := .int .i64 0) rfl
    have zf := Lib.frozen_of_heap HI.out.z
    go_wp2_with fail
    clear yc yf
    generalize U1.setCell ⟨G5 + 1, 1 + 1, none⟩ (.int .i64 v1) = T1 at *
    refine (HN.out _ _ HI.out.r).mono ?_
    rintro e U2 ⟨v2, hv2, rfl, hz2, hr2, ho2⟩
    clear p0 p1 p2 p3 x0 x1 x2 x3 x4 z0 z1 z2 z3 z4 zf
    replace HI := Hid.mk' (HI.out.on hr2 ho2)
    have yc := cell_of_obj HI.out.x (j := 3) (v := .int .i64 0) rfl
    have yf := Lib.frozen_of_heap HI.out.x
    replace HI := Hid.mk' (HI.out.set v2 2 (by decide))
    have HV2 := Hid.mk' hv2
    have HZ2 := Hid.mk' hz2
    clear hr2 ho2 hz2 hv2
    have p0 := cell_of_obj HI.out.b (j := 0) (v := .bool true) rfl
    have p1 := cell_of_obj HI.out.b (j := 1) (v := .bool true) rfl
    have p2 := cell_of_obj HI.out.b (j := 2) (v := .bool true) rfl
    have p3 := cell_of_obj HI.out.b (j := 3) (v := .bool false) rfl
    have x0 := cell_of_obj HI.out.x (j := 0) (v := .int .i64 op) rfl
    have x1 := cell_of_obj HI.out.x (j := 1) (v := .int .i64 v0) rfl
    have x2 := cell_of_obj HI.out.x (j := 2) (v := .int .i64 v1) rfl
    have x3 := cell_of_obj HI.out.x (j := 3) (v := .int .i64 v2) rfl
    have x4 := cell_of_obj HI.out.x (j := 4) (v := .int .i64 0) rfl
    have z0 := cell_of_obj HI.out.z (j := 0) (v := .int .i64 0) rfl
    have z1 := cell_of_obj HI.out.z (j := 1) (v := .int .i64 0) rfl
    have z2 := cell_of_obj HI.out.z (j := 2) (v := .int .i64 0) rfl
    have z3 := cell_of_obj HI.out.z (j := 3) (v := .int .i64 0) rfl
    have z4 := cell_of_obj HI.out.z (j := 4) (v := .int .i64 0) rfl
    have zf := Lib.frozen_of_heap HI.out.z
    go_wp2_with fail
    exact bodyPost_ret (v := .agg (cI ⟨op, v0, v1, v2, 0⟩)) (by simp [results, Tryz.results18, go_sem, *]) rfl ⟨⟨op, v0, v1, v2, 0⟩, (setF_ok2 (x := ⟨op, v0, v1, 0, 0⟩) (setF_ok2 (x := ⟨op, v0, 0, 0, 0⟩) (setF_ok2 (x := ⟨op, 0, 0, 0, 0⟩) (ins0_ok HOP.out) HV0.out 0) HV1.out 1) HV2.out 2), rfl, rfl, (IsR.step (x := ⟨op, v0, v1, 0, 0⟩) (IsR.step (x := ⟨op, v0, 0, 0, 0⟩) (IsR.step (x := ⟨op, 0, 0, 0, 0⟩) (ins0_r op) HZ0.out 0) HZ1.out 1) HZ2.out 2), (HI.out.fin _ _ _ _ _).1, (HI.out.fin _ _ _ _ _).2⟩
  · have hhs : hs = [0, 1, 2, 3] := by have := HL.out; simpa using this
    subst hhs
    have p0 := cell_of_obj HI.out.b (j := 0) (v := .bool true) rfl
    have p1 := cell_of_obj HI.out.b (j := 1) (v := .bool true) rfl
    have p2 := cell_of_obj HI.out.b (j := 2) (v := .bool true) rfl
    have p3 := cell_of_obj HI.out.b (j := 3) (v := .bool true) rfl
    have x0 := cell_of_obj HI.out.x (j := 0) (v := .int .i64 op) rfl
    have x1 := cell_of_obj HI.out.x (j := 1) (v := .int .i64 0) rfl
    have x2 := cell_of_obj HI.out.x (j := 2) (v := .int .i64 0) rfl
    have x3 := cell_of_obj HI.out.x (j := 3) (v := .int .i64 0) rfl
    have x4 := cell_of_obj HI.out.x (j := 4) (v := .int .i64 0) rfl
    have z0 := cell_of_obj HI.out.z (j := 0) (v := .int .i64 0) rfl
    have z1 := cell_of_obj HI.out.z (j := 1) (v := .int .i64 0) rfl
    have z2 := cell_of_obj HI.out.z (j := 2) (v := .int .i64 0) rfl
    have z3 := cell_of_obj HI.out.z (j := 3) (v := .int .i64 0) rfl
    have z4 := cell_of_obj HI.out.z (j := 4) (v := .int .i64 0) rfl
    have zf := Lib.frozen_of_heap HI.out.z
    go_wp2_with fail
    refine (HN.out _ _ HI.out.r).mono ?_
    rintro e U0 ⟨v0, hv0, rfl, hz0, hr0, ho0⟩
    clear p0 p1 p2 p3 x0 x1 x2 x3 x4 z0 z1 z2 z3 z4 zf
    replace HI := Hid.mk' (HI.out.on hr0 ho0)
    have yc := cell_of_obj HI.out.x (j := 1) (v := .int .i64 0) rfl
    have yf := Lib.frozen_of_heap HI.out.x
    replace HI := Hid.mk' (HI.out.set v0 0 (by decide))
    have HV0 := Hid.mk' hv0
    have HZ0 := Hid.mk' hz0
    clear hr0 ho0 hz0 hv0
    have p0 := cell_of_obj HI.out.b (j := 0) (v := .bool true) rfl
    have p1 := cell_of_obj HI.out.b (j := 1) (v := .bool true) rfl
    have p2 := cell_of_obj HI.out.b (j := 2) (v := .bool true) rfl
    have p3 := cell_of_obj HI.out.b (j := 3) (v := .bool true) rfl
    have x0 := cell_of_obj HI.out.x (j := 0) (v := .int .i64 op) rfl
    have x1 := cell_of_obj HI.out.x (j := 1) (v := .int .i64 v0) rfl
    have x2 := cell_of_obj HI.out.x (j := 2) (v := .int .i64 0) rfl
    have x3 := cell_of_obj HI.out.x (j := 3) (v := .int .i64 0) rfl
    have x4 := cell_of_obj HI.out.x (j := 4) (v := .int .i64 0) rfl
    have z0 := cell_of_obj HI.out.z (j := 0) (v := .int .i64 0) rfl
    have z1 := cell_of_obj HI.out.z (j := 1) (v := .int .i64 0) rfl
    have z2 := cell_of_obj HI.out.z (j := 2) (v := .int .i64 0) rfl
    have z3 := cell_of_obj HI.out.z (j := 3) (v := .int .i64 0) rfl
    have z4 := cell_of_obj HI.out.z (j := 4) (v := .int .i64 0) rfl
    have zf := Lib.frozen_of_heap HI.out.z
    go_wp2_with fail
    clear yc yf
    generalize U0.setCell ⟨G5 + 1, 0 + 1, none⟩ (.int .i64 v0) = T0 at *
    refine (HN.out _ _ HI.out.r).mono ?_
    rintro e U1 ⟨v1, hv1, rfl, hz1, hr1, ho1⟩
    clear p0 p1 p2 p3 x0 x1 x2 x3 x4 z0 z1 z2 z3 z4 zf
    replace HI := Hid.mk' (HI.out.on hr1 ho1)
    have yc := cell_of_obj HI.out.x (j := 2) (v := .int .i64 0) rfl
    have yf := Lib.frozen_of_heap HI.out.x
    replace HI := Hid.mk' (HI.out.set v1 1 (by decide))
    have HV1 := Hid.mk' hv1
    have HZ1 := Hid.mk' hz1
    clear hr1 ho1 hz1 hv1
    have p0 := cell_of_obj HI.out.b (j := 0) (v := .bool true) rfl
    have p1 := cell_of_obj HI.out.b (j := 1) (v := .bool true) rfl
    have p2 := cell_of_obj HI.out.b (j := 2) (v := .bool true) rfl
    have p3 := cell_of_obj HI.out.b (j := 3) (v := .bool true) rfl
    have x0 := cell_of_obj HI.out.x (j := 0) (v := .int .i64 op) rfl
    have x1 := cell_of_obj HI.out.x (j := 1) (v := .int .i64 v0) rfl
    have x2 := cell_of_obj HI.out.x (j := 2) (v := .int .i64 v1) rfl
    have x3 := cell_of_obj HI.out.x (j := 3) (v := .int .i64 0) rfl
    have x4 := cell_of_obj HI.out.x (j := 4) (v := .int .i64 0) rfl
    have z0 := cell_of_obj HI.out.z (j := 0) (v := .int .i64 0) rfl
    have z1 := cell_of_obj HI.out.z (j := 1) (v := .int .i64 0) rfl
    have z2 := cell_of_obj HI.out.z (j := 2) (v := .int .i64 0) rfl
    have z3 := cell_of_obj HI.out.z (j := 3) (v := .int .i64 0) rfl
    have z4 := cell_of_obj HI.out.z (j := 4) (v := .int .i64 0) rfl
    have zf := Lib.frozen_of_heap HI.out.z
    go_wp2_with fail
    clear yc yf
    generalize U1.setCell ⟨G5 + 1, 1 + 1, none⟩ (.int .i64 v1) = T1 at *
    refine (HN.out _ _ HI.out.r).mono ?_
    rintro e U2 ⟨v2, hv2, rfl, hz2, hr2, ho2⟩
    clear p0 p1 p2 p3 x0 x1 x2 x3 x4 z0 z1 z2 z3 z4 zf
    replace HI := Hid.mk' (HI.out.on hr2 ho2)
    have yc := cell_of_obj HI.out.x (j := 3) (v := .int .i64 0) rfl
    have yf := Lib.frozen_of_heap HI.out.x
    replace HI := Hid.mk' (HI.out.set v2 2 (by decide))
    have HV2 := Hid.mk' hv2
    have HZ2 := Hid.mk' hz2
    clear hr2 ho2 hz2 hv2
    have p0 := cell_of_obj HI.out.b (j := 0) (v := .bool true) rfl
    have p1 := cell_of_obj HI.out.b (j := 1) (v := .bool true) rfl
    have p2 := cell_of_obj HI.out.b (j := 2) (v := .bool true) rfl
    have p3 := cell_of_obj HI.out.b (j := 3) (v := .bool true) rfl
    have x0 := cell_of_obj HI.out.x (j := 0) (v := .int .i64 op) rfl
    have x1 := cell_of_obj HI.out.x (j := 1) (v := .int .i64 v0) rfl
    have x2 := cell_of_obj HI.out.x (j := 2) (v := .int .i64 v1) rfl
    have x3 := cell_of_obj HI.out.x (j := 3) (v := .int .i64 v2) rfl
    have x4 := cell_of_obj HI.out.x (j := 4) (v := .int .i64 0) rfl
    have z0 := cell_of_obj HI.out.z (j := 0) (v := .int .i64 0) rfl
    have z1 := cell_of_obj HI.out.z (j := 1) (v := .int .i64 0) rfl
    have z2 := cell_of_obj HI.out.z (j := 2) (v := .int .i64 0) rfl
    have z3 := cell_of_obj HI.out.z (j := 3) (v := .int .i64 0) rfl
    have z4 := cell_of_obj HI.out.z (j := 4) (v := .int .i64 0) rfl
    have zf := Lib.frozen_of_heap HI.out.z
    go_wp2_with fail
    clear yc yf
    generalize U2.setCell ⟨G5 + 1, 2 + 1, none⟩ (.int .i64 v2) = T2 at *
    refine (HN.out _ _ HI.out.r).mono ?_
    rintro e U3 ⟨v3, hv3, rfl, hz3, hr3, ho3⟩
    clear p0 p1 p2 p3 x0 x1 x2 x3 x4 z0 z1 z2 z3 z4 zf
    replace HI := Hid.mk' (HI.out.on hr3 ho3)
    have yc := cell_of_obj HI.out.x (j := 4) (v := .int .i64 0) rfl
    have yf := Lib.frozen_of_heap HI.out.x
    replace HI := Hid.mk' (HI.out.set v3 3 (by decide))
    have HV3 := Hid.mk' hv3
    have HZ3 := Hid.mk' hz3
    clear hr3 ho3 hz3 hv3
    have p0 := cell_of_obj HI.out.b (j := 0) (v := .bool true) rfl
    have p1 := cell_of_obj HI.out.b (j := 1) (v := .bool true) rfl
    have p2 := cell_of_obj HI.out.b (j := 2) (v := .bool true) rfl
    have p3 := cell_of_obj HI.out.b (j := 3) (v := .bool true) rfl
    have x0 := cell_of_obj HI.out.x (j := 0) (v := .int .i64 op) rfl
    have x1 := cell_of_obj HI.out.x (j := 1) (v := .int .i64 v0) rfl
    have x2 := cell_of_obj HI.out.x (j := 2) (v := .int .i64 v1) rfl
    have x3 := cell_of_obj HI.out.x (j := 3) (v := .int .i64 v2) rfl
    have x4 := cell_of_obj HI.out.x (j := 4) (v := .int .i64 v3) rfl
    have z0 := cell_of_obj HI.out.z (j := 0) (v := .int .i64 0) rfl
    have z1 := cell_of_obj HI.out.z (j := 1) (v := .int .i64 0) rfl
    have z2 := cell_of_obj HI.out.z (j := 2) (v := .int .i64 0) rfl
    have z3 := cell_of_obj HI.out.z (j := 3) (v := .int .i64 0) rfl
    have z4 := cell_of_obj HI.out.z (j := 4) (v := .int .i64 0) rfl
    have zf := Lib.frozen_of_heap HI.out.z
    go_wp2_with fail
    exact bodyPost_ret (v := .agg (cI ⟨op, v0, v1, v2, v3⟩)) (by simp [results, Tryz.results18, go_sem, *]) rfl ⟨⟨op, v0, v1, v2, v3⟩, (setF_ok2 (x := ⟨op, v0, v1, v2, 0⟩) (setF_ok2 (x := ⟨op, v0, v1, 0, 0⟩) (setF_ok2 (x := ⟨op, v0, 0, 0, 0⟩) (setF_ok2 (x := ⟨op, 0, 0, 0, 0⟩) (ins0_ok HOP.out) HV0.out 0) HV1.out 1) HV2.out 2) HV3.out 3), rfl, rfl, (IsR.step (x := ⟨op, v0, v1, v2, 0⟩) (IsR.step (x := ⟨op, v0, v1, 0, 0⟩) (IsR.step (x := ⟨op, v0, 0, 0, 0⟩) (IsR.step (x := ⟨op, 0, 0, 0, 0⟩) (ins0_r op) HZ0.out 0) HZ1.out 1) HZ2.out 2) HZ3.out 3), (HI.out.fin _ _ _ _ _).1, (HI.out.fin _ _ _ _ _).2⟩
end Go.Proofs.YtboidkmnkicoeaaGreatDoor

/- The document's own reading of a line comes to the same: plain. -/
namespace Go.Proofs.YtboidkmnkicoeaaGreatDoor
open Go.RowKit Go.Sort

theorem jn_fl (w : Bt) : ∀ ws : List Bt, jn 32 (w :: ws) = w ++ fl ws
  | [] => by simp [jn, fl]
  | v :: t => by rw [jn_cons 32 w (by simp), jn_fl v t, fl_cons]
theorem line_ws (L : Bt) : ∃ w0 ws, spl 32 L = w0 :: ws ∧ L = w0 ++ fl ws ∧ (32 : UInt8) ∉ w0 ∧ ∀ w ∈ ws, (32 : UInt8) ∉ w := by
  have hm := spl_mem (c := 32) L
  cases h : spl 32 L with
  | nil => exact absurd h (spl_ne 32 L)
  | cons w0 ws =>
    refine ⟨w0, ws, rfl, ?_, hm w0 (by rw [h]; simp), fun w hw => hm w (by rw [h]; simp [hw])⟩
    rw [← jn_fl, ← h, jn_spl]
theorem atW_first {L w0 : Bt} {ws : List Bt} (h : L = w0 ++ fl ws) (hn : ∀ w ∈ ws, (32 : UInt8) ∉ w) : AtW L w0.length ws := ⟨by rw [h, List.length_append]; omega, by rw [h]; simp, hn⟩
theorem num_nil {n a p : Nat} : Qr.num n ⟨a, 0, p, []⟩ = (⟨a, 6, n, []⟩, none) := rfl
theorem num_no {n a p : Nat} {v : Bt} {t : List Bt} (h : numB v = none) : Qr.num n ⟨a, 0, p, v :: t⟩ = (⟨a + 1 + v.length, 11, a + 1, t⟩, none) := by
  unfold Qr.num; rw [if_neg (by simp)]; simp only [h]
theorem num_yes {n a p : Nat} {v : Bt} {t : List Bt} {z : Int} (h : numB v = some z) : Qr.num n ⟨a, 0, p, v :: t⟩ = (⟨a + 1 + v.length, 0, p, t⟩, some z) := by
  unfold Qr.num; rw [if_neg (by simp)]; simp only [h]
theorem num_bad {n : Nat} {q : Qr} (h : q.e ≠ 0) : q.num n = (q, none) := by unfold Qr.num; rw [if_pos h]
/-- Thresholds are read. -/
def addT (o : Option (List Int)) (z : Option Int) : Option (List Int) := match o, z with | some l, some v => some (l ++ [v]) | _, _ => none
def thrQ (n : Nat) : Nat → Qr → Option (List Int) → Qr × Option (List Int)
  | 0, q, o => (q, o)
  | k + 1, q, o => if q.e ≠ 0 ∨ q.ws = [] then (q, o) else thrQ n k (q.num n).1 (addT o (q.num n).2)
theorem thrQ_stop {n : Nat} {q : Qr} (h : q.e ≠ 0 ∨ q.ws = []) (o : Option (List Int)) : ∀ k, thrQ n k q o = (q, o)
  | 0 => rfl
  | k + 1 => by rw [thrQ, if_pos h]
/-- Pairs are read. -/
def addP (o : Option (List Sp)) (x y : Option Int) : Option (List Sp) := match o, x, y with | some l, some a, some b => some (l ++ [(a, b)]) | _, _, _ => none
def prQ (n : Nat) : Nat → Qr → Option (List Sp) → Qr × Option (List Sp)
  | 0, q, o => (q, o)
  | k + 1, q, o => if q.e ≠ 0 ∨ q.ws = [] then (q, o) else prQ n k ((q.num n).1.num n).1 (addP o (q.num n).2 ((q.num n).1.num n).2)
theorem prQ_stop {n : Nat} {q : Qr} (h : q.e ≠ 0 ∨ q.ws = []) (o : Option (List Sp)) : ∀ k, prQ n k q o = (q, o)
  | 0 => rfl
  | k + 1 => by rw [prQ, if_pos h]
theorem tk_num {m : Nat} {r : Rs} {p : Nat} {w : Bt} (h0 : r.words ≠ 0) (h1 : ¬ (r.words = 1 ∧ r.kind = -2)) (h2 : ¬ (0 ≤ r.kind ∧ (hasL r.kind).length < r.words)) : tkZ m r p w = match numB w with | none => .error (11, p) | some v => .ok ⟨r.words + 1, r.kind, r.name, r.ns ++ [v]⟩ := by
  unfold tkZ; rw [if_neg h0, if_neg h1, if_neg h2]; cases numB w <;> rfl
theorem thr_eq (m n : Nat) (nm : Bt) : ∀ (ws : List Bt) (k a p j : Nat) (l : List Int), ws.length ≤ k → j ≠ 0 →
    (∃ l', (thrQ n k ⟨a, 0, p, ws⟩ (some l)).2 = some l' ∧ (thrQ n k ⟨a, 0, p, ws⟩ (some l)).1.e = 0 ∧ (thrQ n k ⟨a, 0, p, ws⟩ (some l)).1.ws = [] ∧ rowZ m ⟨j, -1, nm, l⟩ (plc (a + 1) ws) = .ok ⟨j + ws.length, -1, nm, l'⟩) ∨
    ((thrQ n k ⟨a, 0, p, ws⟩ (some l)).1.e ≠ 0 ∧ rowZ m ⟨j, -1, nm, l⟩ (plc (a + 1) ws) = .error ((thrQ n k ⟨a, 0, p, ws⟩ (some l)).1.e, (thrQ n k ⟨a, 0, p, ws⟩ (some l)).1.p))
  | [], k, a, p, j, l, _, _ => by
    rw [thrQ_stop (.inr rfl)]
    exact .inl ⟨l, rfl, rfl, rfl, rfl⟩
  | v :: t, 0, a, p, j, l, h, _ => by simp at h
  | v :: t, k + 1, a, p, j, l, h, hj => by
    rw [thrQ, if_neg (by simp)]
    rw [plc, rowZ, tk_num (by simpa using hj) (by simp) (by simp)]
    cases hv : numB v with
    | none =>
      rw [num_no hv]
      rw [thrQ_stop (.inl (by simp))]
      exact .inr ⟨by simp, rfl⟩
    | some z =>
      rw [num_yes hv]
      have ih := thr_eq m n nm t k (a + 1 + v.length) p (j + 1) (l ++ [z]) (by simp at h; omega) (by omega)
      have e : j + (v :: t).length = j + 1 + t.length := by rw [List.length_cons]; omega
      rw [e]
      exact ih
theorem pr_eq (m n : Nat) (nm : Bt) : ∀ (k : Nat) (ws : List Bt) (a p j : Nat) (l : List Sp) (ns : List Int), ws.length ≤ k → 2 ≤ j →
    (∃ l' zs, (prQ n k ⟨a, 0, p, ws⟩ (some l)).2 = some l' ∧ (prQ n k ⟨a, 0, p, ws⟩ (some l)).1.e = 0 ∧ (prQ n k ⟨a, 0, p, ws⟩ (some l)).1.ws = [] ∧ ws.length % 2 = 0 ∧ rowZ m ⟨j, -2, nm, ns⟩ (plc (a + 1) ws) = .ok ⟨j + ws.length, -2, nm, ns ++ zs⟩ ∧ l' = l ++ prs zs) ∨
    ((prQ n k ⟨a, 0, p, ws⟩ (some l)).1.e ≠ 0 ∧ rowZ m ⟨j, -2, nm, ns⟩ (plc (a + 1) ws) = .error ((prQ n k ⟨a, 0, p, ws⟩ (some l)).1.e, (prQ n k ⟨a, 0, p, ws⟩ (some l)).1.p)) ∨
    ((prQ n k ⟨a, 0, p, ws⟩ (some l)).1.e = 6 ∧ (prQ n k ⟨a, 0, p, ws⟩ (some l)).1.p = n ∧ ws.length % 2 = 1 ∧ ∃ zs, rowZ m ⟨j, -2, nm, ns⟩ (plc (a + 1) ws) = .ok ⟨j + ws.length, -2, nm, zs⟩) := by
  intro k
  induction k using Nat.strongRecOn with
  | _ k ih =>
    intro ws a p j l ns h hj
    have hq : ∀ (r : Rs) (p' : Nat) (w : Bt), r.words ≠ 0 → r.words ≠ 1 → r.kind = -2 → tkZ m r p' w = match numB w with | none => .error (11, p') | some v => .ok ⟨r.words + 1, r.kind, r.name, r.ns ++ [v]⟩ := fun r p' w h0 h1 h2 => tk_num h0 (fun h => h1 h.1) (fun h => by rw [h2] at h; exact absurd h.1 (by decide))
    match ws, k, h with
    | [], k, _ =>
      rw [prQ_stop (.inr rfl)]
      exact .inl ⟨l, [], rfl, rfl, rfl, rfl, by simp [plc, rowZ], by simp [prs]⟩
    | v :: t, k + 1, h =>
      rw [prQ, if_neg (by simp)]
      rw [plc, rowZ, hq _ _ _ (by simp; omega) (by simp; omega) rfl]
      cases hv : numB v with
      | none =>
        rw [num_no hv, num_bad (by simp)]
        rw [prQ_stop (.inl (by simp))]
        exact .inr (.inl ⟨by simp, rfl⟩)
      | some x =>
        rw [num_yes hv]
        match t with
        | [] =>
          rw [num_nil, prQ_stop (.inl (by simp))]
          exact .inr (.inr ⟨rfl, rfl, rfl, ns ++ [x], rfl⟩)
        | u :: t =>
          simp only
          rw [plc, rowZ, hq _ _ _ (by simp) (by simp; omega) rfl]
          cases hu : numB u with
          | none =>
            rw [num_no hu]
            rw [prQ_stop (.inl (by simp))]
            exact .inr (.inl ⟨by simp, rfl⟩)
          | some y =>
            rw [num_yes hu]
            have ih' := ih k (by omega) t (a + 1 + v.length + 1 + u.length) p (j + 1 + 1) (l ++ [(x, y)]) (ns ++ [x] ++ [y]) (by simp at h; omega) (by omega)
            have e : j + (v :: u :: t).length = j + 1 + 1 + t.length := by rw [List.length_cons, List.length_cons]; omega
            have e2 : (v :: u :: t).length % 2 = t.length % 2 := by rw [List.length_cons, List.length_cons]; omega
            rw [e, e2]
            rcases ih' with ⟨l', zs, h1, h2, h3, h4, h5, h6⟩ | h1 | h1
            · refine .inl ⟨l', x :: y :: zs, h1, h2, h3, h4, ?_, ?_⟩
              · rw [show ns ++ x :: y :: zs = ns ++ [x] ++ [y] ++ zs by simp]; exact h5
              · rw [h6, prs]; simp
            · exact .inr (.inl h1)
            · exact .inr (.inr h1)
theorem insQ_bad (n : Nat) : ∀ (hs : List Nat) {q : Qr} (o : Option Is), q.e ≠ 0 → (insQ n hs q o).1 = q
  | [], _, _, _ => rfl
  | f :: r, q, o, h => by rw [insQ, num_bad h]; exact insQ_bad n r _ h
theorem ins_eq (m n : Nat) (nm : Bt) (op : Int) (hop : 0 ≤ op) : ∀ (hs : List Nat) (ws : List Bt) (a p j : Nat) (x : Is) (ns : List Int), j ≠ 0 → j + hs.length = 1 + (hasL op).length →
    (∃ vs, vs.length = hs.length ∧ (insQ n hs ⟨a, 0, p, ws⟩ (some x)).2 = some (setL hs vs x) ∧ (insQ n hs ⟨a, 0, p, ws⟩ (some x)).1.e = 0 ∧ ws.length = hs.length + (insQ n hs ⟨a, 0, p, ws⟩ (some x)).1.ws.length ∧
      ((insQ n hs ⟨a, 0, p, ws⟩ (some x)).1.ws = [] → rowZ m ⟨j, op, nm, ns⟩ (plc (a + 1) ws) = .ok ⟨j + ws.length, op, nm, ns ++ vs⟩) ∧ ((insQ n hs ⟨a, 0, p, ws⟩ (some x)).1.ws ≠ [] → rowZ m ⟨j, op, nm, ns⟩ (plc (a + 1) ws) = .error (7, (insQ n hs ⟨a, 0, p, ws⟩ (some x)).1.a))) ∨
    ((insQ n hs ⟨a, 0, p, ws⟩ (some x)).1.e ≠ 0 ∧ rowZ m ⟨j, op, nm, ns⟩ (plc (a + 1) ws) = .error ((insQ n hs ⟨a, 0, p, ws⟩ (some x)).1.e, (insQ n hs ⟨a, 0, p, ws⟩ (some x)).1.p)) ∨
    ((insQ n hs ⟨a, 0, p, ws⟩ (some x)).1.e = 6 ∧ (insQ n hs ⟨a, 0, p, ws⟩ (some x)).1.p = n ∧ ws.length < hs.length ∧ ∃ zs, rowZ m ⟨j, op, nm, ns⟩ (plc (a + 1) ws) = .ok ⟨j + ws.length, op, nm, zs⟩)
  | [], ws, a, p, j, x, ns, hj, hl => by
    rw [insQ]
    refine .inl ⟨[], rfl, rfl, rfl, by simp, fun h => ?_, fun h => ?_⟩
    · simp only at h; subst h; simp [plc, rowZ]
    · cases ws with
      | nil => exact absurd rfl h
      | cons v t =>
        simp only [List.length_nil, Nat.add_zero] at hl
        rw [plc, rowZ]
        have : tkZ m ⟨j, op, nm, ns⟩ (a + 1) v = .error (7, a + 1 - 1) := by
          unfold tkZ
          rw [if_neg (by simpa using hj), if_neg (fun h => by have := h.2; simp only at this; omega), if_pos ⟨hop, by simp only; omega⟩]
        rw [this]; rfl
  | f :: r, [], a, p, j, x, ns, hj, hl => by
    rw [insQ, num_nil]
    have hb := insQ_bad n r (q := ⟨a, 6, n, []⟩) (fStep (some x) none f) (by simp)
    rw [hb]
    exact .inr (.inr ⟨rfl, rfl, by simp, ns, by simp [plc, rowZ]⟩)
  | f :: r, v :: t, a, p, j, x, ns, hj, hl => by
    rw [List.length_cons] at hl
    rw [insQ, plc, rowZ, tk_num (by simpa using hj) (fun h => by have := h.2; simp only at this; omega) (fun h => by have := h.2; simp only at this; omega)]
    cases hv : numB v with
    | none =>
      rw [num_no hv]
      have hb := insQ_bad n r (q := ⟨a + 1 + v.length, 11, a + 1, t⟩) (fStep (some x) none f) (by simp)
      rw [hb]
      exact .inr (.inl ⟨by simp, rfl⟩)
    | some z =>
      rw [num_yes hv]
      have ih := ins_eq m n nm op hop r t (a + 1 + v.length) p (j + 1) (setF x z f) (ns ++ [z]) (by omega) (by omega)
      have e : j + (v :: t).length = j + 1 + t.length := by rw [List.length_cons]; omega
      rw [e]
      rcases ih with ⟨vs, h1, h2, h3, h4, h5, h6⟩ | h1 | ⟨h1, h2, h3, h4⟩
      · refine .inl ⟨z :: vs, by rw [List.length_cons, List.length_cons, h1], h2, h3, by rw [List.length_cons, List.length_cons, h4]; show _ = _ + (insQ n r ⟨a + 1 + v.length, 0, p, t⟩ (some (setF x z f))).1.ws.length; omega, fun h => ?_, h6⟩
        rw [show ns ++ z :: vs = ns ++ [z] ++ vs by simp]; exact h5 h
      · exact .inr (.inl h1)
      · exact .inr (.inr ⟨h1, h2, by rw [List.length_cons, List.length_cons]; omega, h4⟩)
theorem line_bg {n : Nat} {L w0 : Bt} {ws : List Bt} (h : spl 32 L = w0 :: ws) (ended : Bool) : lineZ n L ended = if (bgZ n w0).1 = 0 then (match rowZ n ⟨1, (bgZ n w0).2, [], []⟩ (plc (w0.length + 1) ws) with | .error e => .error e | .ok r => if ended && whole r then .ok r else .error (6, L.length)) else .error ((bgZ n w0).1, 0) := by
  unfold lineZ
  rw [h, plc, rowZ]
  have : tkZ n rs0 0 w0 = if (bgZ n w0).1 = 0 then .ok ⟨1, (bgZ n w0).2, [], []⟩ else .error ((bgZ n w0).1, 0) := by unfold tkZ; rw [if_pos (show rs0.words = 0 from rfl)]; rfl
  rw [this, Nat.zero_add]
  by_cases hb : (bgZ n w0).1 = 0
  · rw [if_pos hb, if_pos hb]
    show (match rowZ n ⟨1, (bgZ n w0).2, [], []⟩ (plc (w0.length + 1) ws) with | .error e => Except.error e | .ok r => if ended && whole r then Except.ok r else Except.error (6, L.length)) = _
    cases rowZ n ⟨1, (bgZ n w0).2, [], []⟩ (plc (w0.length + 1) ws) <;> rfl
  · rw [if_neg hb, if_neg hb]
theorem done_bad {n : Nat} {b : Bool} {q : Qr} (h : q.e ≠ 0) : q.done n b = q := by unfold Qr.done; rw [if_pos h]
theorem done_rest {n : Nat} {b : Bool} {q : Qr} (h : q.e = 0) (hw : q.ws ≠ []) : q.done n b = ⟨q.a, 7, q.a, q.ws⟩ := by unfold Qr.done; rw [if_neg (by simpa using h), if_pos hw]
theorem done_end {n : Nat} {b : Bool} {q : Qr} (h : q.e = 0) (hw : q.ws = []) : q.done n b = if b then q else ⟨q.a, 6, n, q.ws⟩ := by unfold Qr.done; rw [if_neg (by simpa using h), if_neg (by simpa using hw)]
/-- What becomes of a line: an error, or what was read. -/
def LnR (n : Nat) (L : Bt) (ended : Bool) (q : Qr) (ok : Rs → Prop) : Prop :=
  ((q.done L.length ended).e ≠ 0 ∧ lineZ n L ended = .error ((q.done L.length ended).e, (q.done L.length ended).p)) ∨ ((q.done L.length ended).e = 0 ∧ ended = true ∧ ∃ r, lineZ n L ended = .ok r ∧ ok r)
theorem widen_line {L : Bt} {ws : List Bt} (h : spl 32 L = widenB :: ws) (ended : Bool) (k : Nat) (hk : ws.length ≤ k) : LnR 1 L ended (thrQ L.length k ⟨5, 0, 0, ws⟩ (some [])).1 (fun r => r.kind = -1 ∧ (thrQ L.length k ⟨5, 0, 0, ws⟩ (some [])).2 = some r.ns) := by
  have hb : bgZ 1 widenB = (0, -1) := rfl
  have hl := line_bg (n := 1) h ended
  rw [hb, if_pos rfl] at hl
  rcases thr_eq 1 L.length [] ws k 5 0 1 [] hk (by omega) with ⟨l', h1, h2, h3, h4⟩ | ⟨h1, h2⟩
  · rw [show widenB.length + 1 = 5 + 1 from rfl, h4] at hl
    have hd := done_end (n := L.length) (b := ended) h2 h3
    cases ended with
    | true =>
      right
      rw [hd]
      exact ⟨h2, rfl, _, hl, rfl, h1⟩
    | false =>
      left
      rw [hd]
      exact ⟨by simp, hl⟩
  · rw [show widenB.length + 1 = 5 + 1 from rfl, h2] at hl
    left
    rw [done_bad h1]
    exact ⟨h1, hl⟩
def fnQ (n k : Nat) (q : Qr) : Qr × Option (List Sp) := prQ n k (((q.word n).1.num n).1.num n).1 (some [])
theorem word_bad {n : Nat} {q : Qr} (h : q.e ≠ 0) : q.word n = (q, none) := by unfold Qr.word; rw [if_pos h]
def FnOk (n k : Nat) (q : Qr) (r : Rs) : Prop := r.kind = -2 ∧ (q.word n).2 = some r.name ∧ ((q.word n).1.num n).2 = some (r.ns.getD 0 0) ∧ (((q.word n).1.num n).1.num n).2 = some (r.ns.getD 1 0) ∧ (fnQ n k q).2 = some (prs (r.ns.drop 2))
theorem func_line {n : Nat} (hn : n ≠ 1) {L : Bt} {ws : List Bt} (h : spl 32 L = funcB :: ws) (ended : Bool) (k : Nat) (hk : ws.length ≤ k) : LnR n L ended (fnQ L.length k ⟨4, 0, 0, ws⟩).1 (FnOk L.length k ⟨4, 0, 0, ws⟩) := by
  have hb : bgZ n funcB = (0, -2) := by unfold bgZ; rw [if_neg (fun h => hn h.1), if_pos ⟨hn, rfl⟩]
  have hl := line_bg (n := n) h ended
  rw [hb, if_pos rfl] at hl
  have hshort : ∀ (q : Qr) (r : Rs), q.e = 6 → q.p = L.length → rowZ n ⟨1, -2, [], []⟩ (plc (funcB.length + 1) ws) = .ok r → whole r = false → LnR n L ended q (FnOk L.length k ⟨4, 0, 0, ws⟩) := fun q r h1 h2 h3 h4 => by
    left
    rw [done_bad (by rw [h1]; decide), h1, h2]
    refine ⟨by decide, ?_⟩
    rw [hl, h3]
    simp [h4]
  match ws, hk with
  | [], _ =>
    have e : (fnQ L.length k ⟨4, 0, 0, []⟩).1 = ⟨4, 6, L.length, []⟩ := by
      have h6 : Qr.num L.length ⟨4, 6, L.length, []⟩ = (⟨4, 6, L.length, []⟩, none) := num_bad (by simp)
      have hw : Qr.word L.length ⟨4, 0, 0, []⟩ = (⟨4, 6, L.length, []⟩, none) := rfl
      simp only [fnQ, hw, h6]
      rw [prQ_stop (.inl (by simp))]
    rw [e]
    exact hshort _ _ rfl rfl rfl rfl
  | v :: t, hk =>
    have hw : Qr.word L.length ⟨4, 0, 0, v :: t⟩ = (⟨4 + 1 + v.length, 0, 0, t⟩, some v) := rfl
    have hr : ∀ tl, rowZ n ⟨1, -2, [], []⟩ ((5, v) :: tl) = rowZ n ⟨2, -2, v, []⟩ tl := fun tl => by
      rw [rowZ]
      have : tkZ n ⟨1, -2, [], []⟩ 5 v = .ok ⟨2, -2, v, []⟩ := by unfold tkZ; rw [if_neg (by simp), if_pos ⟨rfl, rfl⟩]
      rw [this]
    rw [show funcB.length + 1 = 5 from rfl, plc, hr] at hl
    have hs2 := hshort
    rw [show funcB.length + 1 = 5 from rfl, plc, hr] at hs2
    have hq : ∀ (r : Rs) (p' : Nat) (w : Bt), r.words ≠ 0 → r.words ≠ 1 → r.kind = -2 → tkZ n r p' w = match numB w with | none => .error (11, p') | some v => .ok ⟨r.words + 1, r.kind, r.name, r.ns ++ [v]⟩ := fun r p' w h0 h1 h2 => tk_num h0 (fun h => h1 h.1) (fun h => by rw [h2] at h; exact absurd h.1 (by decide))
    match t, hk with
    | [], _ =>
      have h5 : Qr.num L.length ⟨4 + 1 + v.length, 0, 0, []⟩ = (⟨4 + 1 + v.length, 6, L.length, []⟩, none) := rfl
      have h6 : Qr.num L.length ⟨4 + 1 + v.length, 6, L.length, []⟩ = (⟨4 + 1 + v.length, 6, L.length, []⟩, none) := num_bad (by simp)
      have e : (fnQ L.length k ⟨4, 0, 0, [v]⟩).1 = ⟨4 + 1 + v.length, 6, L.length, []⟩ := by
        simp only [fnQ, hw, h5, h6]
        rw [prQ_stop (.inl (by simp))]
      rw [e]
      exact hs2 _ _ rfl rfl rfl rfl
    | u :: t, hk =>
      rw [plc, rowZ, hq _ _ _ (by simp) (by simp) rfl] at hl hs2
      cases hu : numB u with
      | none =>
        have h5 : Qr.num L.length ⟨4 + 1 + v.length, 0, 0, u :: t⟩ = (⟨4 + 1 + v.length + 1 + u.length, 11, 4 + 1 + v.length + 1, t⟩, none) := num_no hu
        have h6 : Qr.num L.length ⟨4 + 1 + v.length + 1 + u.length, 11, 4 + 1 + v.length + 1, t⟩ = (⟨4 + 1 + v.length + 1 + u.length, 11, 4 + 1 + v.length + 1, t⟩, none) := num_bad (by simp)
        have e : (fnQ L.length k ⟨4, 0, 0, v :: u :: t⟩).1 = ⟨4 + 1 + v.length + 1 + u.length, 11, 4 + 1 + v.length + 1, t⟩ := by
          simp only [fnQ, hw, h5, h6]
          rw [prQ_stop (.inl (by simp))]
        rw [hu] at hl
        left
        rw [e, done_bad (by simp)]
        exact ⟨by simp, hl⟩
      | some x =>
        have h5 : Qr.num L.length ⟨4 + 1 + v.length, 0, 0, u :: t⟩ = (⟨4 + 1 + v.length + 1 + u.length, 0, 0, t⟩, some x) := num_yes hu
        rw [hu] at hl hs2
        simp only at hl hs2
        match t, hk with
        | [], _ =>
          have h6 : Qr.num L.length ⟨4 + 1 + v.length + 1 + u.length, 0, 0, []⟩ = (⟨4 + 1 + v.length + 1 + u.length, 6, L.length, []⟩, none) := rfl
          have e : (fnQ L.length k ⟨4, 0, 0, [v, u]⟩).1 = ⟨4 + 1 + v.length + 1 + u.length, 6, L.length, []⟩ := by
            simp only [fnQ, hw, h5, h6]
            rw [prQ_stop (.inl (by simp))]
          rw [e]
          exact hs2 _ _ rfl rfl rfl rfl
        | y :: t, hk =>
          rw [plc, rowZ, hq _ _ _ (by simp) (by simp) rfl] at hl hs2
          cases hy : numB y with
          | none =>
            have h6 : Qr.num L.length ⟨4 + 1 + v.length + 1 + u.length, 0, 0, y :: t⟩ = (⟨4 + 1 + v.length + 1 + u.length + 1 + y.length, 11, 4 + 1 + v.length + 1 + u.length + 1, t⟩, none) := num_no hy
            have e : (fnQ L.length k ⟨4, 0, 0, v :: u :: y :: t⟩).1 = ⟨4 + 1 + v.length + 1 + u.length + 1 + y.length, 11, 4 + 1 + v.length + 1 + u.length + 1, t⟩ := by
              simp only [fnQ, hw, h5, h6]
              rw [prQ_stop (.inl (by simp))]
            rw [hy] at hl
            left
            rw [e, done_bad (by simp)]
            exact ⟨by simp, hl⟩
          | some z =>
            have h6 : Qr.num L.length ⟨4 + 1 + v.length + 1 + u.length, 0, 0, y :: t⟩ = (⟨4 + 1 + v.length + 1 + u.length + 1 + y.length, 0, 0, t⟩, some z) := num_yes hy
            rw [hy] at hl hs2
            simp only at hl hs2
            have e : fnQ L.length k ⟨4, 0, 0, v :: u :: y :: t⟩ = prQ L.length k ⟨4 + 1 + v.length + 1 + u.length + 1 + y.length, 0, 0, t⟩ (some []) := by
              simp only [fnQ, hw, h5, h6]
            have hpl : 5 + v.length + 1 + u.length + 1 + y.length + 1 = 4 + 1 + v.length + 1 + u.length + 1 + y.length + 1 := by omega
            rw [hpl] at hl hs2
            rcases pr_eq n L.length v k t (4 + 1 + v.length + 1 + u.length + 1 + y.length) 0 4 [] [x, z] (by simp at hk; omega) (by omega) with ⟨l', zs, g1, g2, g3, g4, g5, g6⟩ | ⟨g1, g2⟩ | ⟨g1, g2, g3, zs, g4⟩
            · rw [← e] at g1 g2 g3
              simp only [List.nil_append, List.cons_append] at hl g5
              rw [g5] at hl
              have hd := done_end (n := L.length) (b := ended) g2 g3
              have hwh : whole ⟨4 + t.length, -2, v, x :: z :: zs⟩ = true := by unfold whole; rw [if_neg (by simp), if_pos rfl]; simp; omega
              cases ended with
              | true =>
                right
                rw [hd]
                refine ⟨g2, rfl, ⟨4 + t.length, -2, v, x :: z :: zs⟩, ?_, rfl, by rw [hw], by rw [hw, h5]; rfl, by rw [hw, h5]; simp only; rw [h6]; rfl, ?_⟩
                · rw [hl]; simp only; rw [hwh]; rfl
                · rw [g1, g6]; rfl
              | false =>
                left
                rw [hd]
                exact ⟨by simp, hl⟩
            · rw [← e] at g1 g2
              simp only [List.nil_append, List.cons_append] at hl g2
              rw [g2] at hl
              left
              rw [done_bad g1]
              exact ⟨g1, hl⟩
            · rw [← e] at g1 g2
              simp only [List.nil_append, List.cons_append] at hs2
              refine hs2 _ _ g1 g2 g4 ?_
              unfold whole
              rw [if_neg (by simp), if_pos rfl]
              simp; omega
theorem ins_line {n : Nat} (hn : ¬ n ≤ 2) {L w0 : Bt} {ws : List Bt} (h : spl 32 L = w0 :: ws) (hf : w0 ≠ funcB) {k : Nat} (hk : opOf w0 = some k) (ended : Bool) : LnR n L ended (insQ L.length (hasL k) ⟨w0.length, 0, 0, ws⟩ (some ⟨k, 0, 0, 0, 0⟩)).1 (fun r => r.kind = k ∧ (insQ L.length (hasL k) ⟨w0.length, 0, 0, ws⟩ (some ⟨k, 0, 0, 0, 0⟩)).2 = some (insF k r.ns)) := by
  have hb : bgZ n w0 = (0, (k : Int)) := by unfold bgZ; rw [if_neg (fun h => by omega), if_neg (fun h => hf h.2), if_neg hn, hk]
  have hl := line_bg (n := n) h ended
  rw [hb, if_pos rfl] at hl
  simp only at hl
  rcases ins_eq n L.length [] k (by omega) (hasL k) ws w0.length 0 1 ⟨k, 0, 0, 0, 0⟩ [] (by omega) rfl with ⟨vs, g1, g2, g3, g4, g5, g6⟩ | ⟨g1, g2⟩ | ⟨g1, g2, g3, zs, g4⟩
  · by_cases hw : (insQ L.length (hasL k) ⟨w0.length, 0, 0, ws⟩ (some ⟨k, 0, 0, 0, 0⟩)).1.ws = []
    · rw [g5 hw] at hl
      have hd := done_end (n := L.length) (b := ended) g3 hw
      rw [hw, List.length_nil, Nat.add_zero] at g4
      have hwh : whole ⟨1 + ws.length, k, [], [] ++ vs⟩ = true := by unfold whole; rw [if_neg (by simp only; omega), if_neg (by simp only; omega)]; simp [g4]
      cases ended with
      | true =>
        right
        rw [hd]
        exact ⟨g3, rfl, ⟨1 + ws.length, k, [], [] ++ vs⟩, by rw [hl]; simp only; rw [hwh]; rfl, rfl, by rw [g2]; unfold insF; rw [List.nil_append]⟩
      | false =>
        left
        rw [hd]
        exact ⟨by simp, hl⟩
    · rw [g6 hw] at hl
      left
      rw [done_rest g3 hw]
      exact ⟨by simp, hl⟩
  · rw [g2] at hl
    left
    rw [done_bad g1]
    exact ⟨g1, hl⟩
  · rw [g4] at hl
    left
    rw [done_bad (by rw [g1]; decide), g1, g2]
    refine ⟨by decide, ?_⟩
    have hwh : whole ⟨1 + ws.length, k, [], zs⟩ = false := by unfold whole; rw [if_neg (by simp only; omega), if_neg (by simp only; omega)]; simp; omega
    rw [hl]; simp [hwh]
theorem bad_line {n : Nat} {L w0 : Bt} {ws : List Bt} (h : spl 32 L = w0 :: ws) (ended : Bool) {z : Int} (hb : (bgZ n w0).1 = z) (hz : z ≠ 0) : lineZ n L ended = .error (z, 0) := by
  rw [line_bg h, if_neg (by rw [hb]; exact hz), hb]
end Go.Proofs.YtboidkmnkicoeaaGreatDoor
