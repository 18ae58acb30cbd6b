/- dom.narrow. -/
import Derived.Test.YtlnjhnbiljkbmaaDoorJe
import Derived.BigQuiet
namespace Go.Proofs.YtlnjhnbiljkbmaaDoor
open Go.RowKit Go.Sort

def foldW (S : List (List Nat)) (us : List Nat) : List Nat := us.foldl (fun acc u => meetW acc (S.getD u [])) fullW
theorem foldW_succ (S : List (List Nat)) (us : List Nat) {j : Nat} (h : j < us.length) : foldW S (us.take (j + 1)) = meetW (foldW S (us.take j)) (S.getD us[j] []) := by
  unfold foldW
  rw [List.take_succ_eq_append_getElem h, List.foldl_append]
  rfl
theorem sixteen {ws : List Nat} (h : ws.length = 16) : ∃ x0 x1 x2 x3 x4 x5 x6 x7 x8 x9 x10 x11 x12 x13 x14 x15, ws = [x0, x1, x2, x3, x4, x5, x6, x7, x8, x9, x10, x11, x12, x13, x14, x15] := by
  match ws, h with
  | [x0, x1, x2, x3, x4, x5, x6, x7, x8, x9, x10, x11, x12, x13, x14, x15], _ => exact ⟨x0, x1, x2, x3, x4, x5, x6, x7, x8, x9, x10, x11, x12, x13, x14, x15, rfl⟩
theorem getD_at {S : List (List Nat)} {v : Nat} (h : v < S.length) : S.getD v [] = S[v] := by rw [List.getD_eq_getElem?_getD, List.getElem?_eq_getElem h]; rfl
theorem getD_ok {S : List (List Nat)} (hok : ∀ ws ∈ S, OkW ws) {v : Nat} (h : v < S.length) : OkW (S.getD v []) := by rw [getD_at h]; exact hok _ (List.getElem_mem h)
theorem wpl_new_set {ops : Array Oper} {rest : List Oper} {op : Oper} {a : Act} {w : World} {cs : Array Value} {Q : Exit → Act → World → Prop} (hgd : op.guard = Option.none) (x y : Operand) (ho : op.op = .store 50 x y) (hx : a.eval x = .pointer (some ⟨w.heap.size, 0, Option.none⟩)) (ws : List Nat) (hy : a.eval y = .agg (ws.map uV).toArray) (hw : ws.length = 16) (hc : cs.size = 16)
    (h : ∀ W1, Bk W1 w.heap.size 50 (ws.map uV) → Below w.heap.size w W1 → wpList Tryd.prog ops Q rest (a.put op.dst undef) W1) : wpList Tryd.prog ops Q (op :: rest) a (w.alloc (.cells cs 50)) := by
  have hb : Bk (w.alloc (.cells cs 50)) w.heap.size 50 cs.toList := heap_alloc_new w _
  refine wpList_store_mid hgd 50 x y ho w.heap.size 0 (ws.map uV).toArray hx hy (hb.there (by simp [hw, hc])) (by rw [Tryd.sizeSet]; simp [hw]) (uV_one ws) (h _ ?_ ?_)
  · exact setCells_blk hb _ (by simp [hw, hc])
  · exact below_setCells (Below.one (Below.refl _ w) _) (Nat.le_refl _) _ _
theorem sadd_set (b v : Nat) (T : TypeId) (ws : List Nat) (rest : List Value) (w : World) (hv : v < 1024) (hk : OkW ws) (hb : Bk w b T (ws.map uV ++ rest)) : Calls Tryd.prog 35 #[.pointer (some ⟨b, 0, none⟩), .int .i64 (v : Int)] w fun e w' => (∃ r, e = .returned r) ∧ Bk w' b T ((addW ws v).map uV ++ rest) ∧ Wr b w w' := by
  have hl := hk.len
  have hd : v / 64 < ws.length := by omega
  have h := sadd_any b v ws[v / 64] T _ w hv (hk.lt _ (List.getElem_mem hd)) hb (by rw [List.getElem?_append_left (by rw [List.length_map]; exact hd)]; exact map_uV_at hd)
  have e : (ws.map uV ++ rest).set (v / 64) (uV (ws[v / 64] ||| 2 ^ (v % 64))) = (addW ws v).map uV ++ rest := by
    rw [List.set_append_left _ _ (by rw [List.length_map]; exact hd)]
    unfold addW
    rw [List.map_set, List.getD_eq_getElem?_getD, List.getElem?_eq_getElem hd]
    rfl
  rw [e] at h
  exact h
/-- What narrow comes to. -/
def NaP (R : Nat) (S : List (List Nat)) (us : List Nat) (v : Nat) (w : World) (e : Ending) (w' : World) : Prop :=
  w.grownBy w' (some R) ∧ ((e = .returned (.bool false) ∧ (us = [] ∨ newW S us v = S.getD v []) ∧ Bk w' R 50 (flatS S)) ∨ (e = .returned (.bool true) ∧ us ≠ [] ∧ newW S us v ≠ S.getD v [] ∧ Bk w' R 50 (flatS (S.set v (newW S us v)))))
theorem grown_refl (w : World) (r : Option Nat) : w.grownBy w r := ⟨rfl, rfl, rfl, Nat.le_refl _, fun _ _ _ => rfl⟩
set_option maxRecDepth 100000 in
set_option maxHeartbeats 4000000 in
theorem narrow_any (R : Nat) (S : List (List Nat)) (us : List Nat) (a : Option Addr) (c v : Nat) (w : World) (hb : Bk w R 50 (flatS S)) (hok : ∀ ws ∈ S, OkW ws) (hv : v < S.length) (hn : S.length ≤ 1024) (hu : ∀ u ∈ us, u < S.length) (hl : Lst w a (us.map nV)) (hul : us.length ≤ 1000000) :
    Calls Tryd.prog 27 #[.slice (some ⟨R, 0, none⟩) S.length S.length, .slice a us.length c, .int .i64 (v : Int)] w (NaP R S us v w) := by
  have HL := Hid.mk' hl
  have HB := Hid.mk' hb
  have HOK := Hid.mk' hok
  have H16 : Hid (∀ ws ∈ S, ws.length = 16) := fun ws hw => (hok ws hw).len
  have HU := Hid.mk' hu
  have HR : Hid (R < w.heap.size) := (Array.getElem?_eq_some_iff.1 hb).1
  clear hl hb hok hu
  by_cases hz : us.length = 0
  · have e : us = [] := List.length_eq_zero_iff.1 hz
    subst e
    have hq : ((([] : List Nat).length : Int) == 0) = true := rfl
    go_enter Tryd.func27, Tryd.ntmps27
    go_wp2_with fail
    go_ret
    exact ⟨grown_refl _ _, .inl ⟨rfl, .inl rfl, HB.out⟩⟩
  have hq : ((us.length : Int) == 0) = false := beq_no (by omega)
  have HZ : Hid (us ≠ []) := fun e => hz (by rw [e]; rfl)
  have HF := Hid.mk' (full_any w)
  clear hz
  go_enter Tryd.func27, Tryd.ntmps27
  go_wp2_with (first
    | (go_at_call 34; refine HF.out.mono ?_; rintro e w2 ⟨rfl, bb2⟩; have HB2 := Hid.mk' bb2; clear bb2)
    | (refine wpl_new_set rfl _ _ rfl rfl fullW rfl okW_full.len rfl ?_; rintro W1 hn1 hn2; have HN1 := Hid.mk' hn1; have HN2 := Hid.mk' hn2; clear hn1 hn2))
  have HRL : Hid (R < w2.heap.size) := Nat.lt_of_lt_of_le HR.out HB2.out.size
  have HB3 : Hid (Bk w2 R 50 (flatS S)) := (HB2.out.block _ HR.out).trans HB.out
  have HL3 := Hid.mk' (HL.out.stay HB2.out)
  clear HF HL HB
  go_loopw [16] (fun t16 wr => ∃ j : Nat, j ≤ us.length ∧ t16 = .int .i64 (j : Int) ∧ Bk wr w2.heap.size 50 ((foldW S (us.take j)).map uV) ∧ Below w2.heap.size w2 wr) (fun t16 _ => us.length - (intOf t16).toNat)
  case atStart => exact ⟨0, Nat.zero_le _, rfl, HN1.out, HN2.out⟩
  case round =>
    obtain ⟨j, hj, rfl, hb, hw⟩ := hrel
    have HBJ := Hid.mk' hb
    have HWJ := Hid.mk' hw
    have HOJ : Hid (∀ i, OkW (foldW S (us.take i))) := fun i => fold_ok _ (fun u hu => getD_ok HOK.out (HU.out u (List.mem_of_mem_take hu))) _ okW_full
    clear hb hw HN1 HN2
    by_cases hlt : j < us.length
    · obtain ⟨b, o, rfl, c0⟩ := lst_n (HL3.out.stay HWJ.out) hlt
      have hli : (j : Int) < (us.length : Int) := by omega
      have hul2 : us[j] < S.length := HU.out _ (List.getElem_mem hlt)
      have HSM := Hid.mk' (smeet_any w2.heap.size R (us[j] * 16) 50 (foldW S (us.take j)) (S.getD us[j] []) wr (HOJ.out j) (getD_ok HOK.out hul2) HBJ.out (by rw [getD_at hul2]; exact flat_range ((HWJ.out.block _ HRL.out).trans HB3.out) H16.out hul2) (Nat.ne_of_lt HRL.out))
      have HS := Hid.mk' (foldW_succ S us hlt)
      generalize us[j] = u at *
      go_wp2_with (go_at_call 36; refine HSM.out.mono ?_; rintro e w3 ⟨⟨r3, rfl⟩, b3, wr3⟩; have HB4 := Hid.mk' b3; have HW4 := Hid.mk' wr3; clear b3 wr3)
      go_roundw
      case rel => exact ⟨j + 1, hlt, by go_num, by rw [HS.out]; exact HB4.out, HWJ.out.trans (HW4.out.below (Nat.le_refl _))⟩
      case measure => simp [intOf]; omega
    · have e : us.take j = us := List.take_of_length_le (by omega)
      rw [e] at HBJ
      clear e
      have HOF : Hid (OkW (foldW S us)) := by
        have := HOJ.out us.length
        rwa [List.take_length] at this
      have hv2 : v < 1024 := Nat.lt_of_lt_of_le hv hn
      have HAD : Hid (Calls Tryd.prog 35 #[.pointer (some ⟨w2.heap.size, 0, none⟩), .int .i64 (v : Int)] wr fun e w' => (∃ r, e = .returned r) ∧ Bk w' w2.heap.size 50 ((newW S us v).map uV) ∧ Wr w2.heap.size wr w') := by
        have := sadd_set w2.heap.size v 50 (foldW S us) [] wr hv2 HOF.out (by rw [List.append_nil]; exact HBJ.out)
        rw [List.append_nil] at this
        exact this
      have HNO : Hid (OkW (newW S us v)) := new_ok (fun u hu => getD_ok HOK.out (HU.out u hu)) v
      obtain ⟨NW, hnw⟩ : ∃ n, newW S us v = n := ⟨_, rfl⟩
      rw [hnw] at HAD HNO
      have HNW := Hid.mk' hnw
      clear hnw HOJ HBJ HOF hv2
      go_upto_region 10 with (go_at_call 35; refine HAD.out.mono ?_; rintro e w3 ⟨⟨r3, rfl⟩, b3, wr3⟩; have HBN := Hid.mk' b3; have HW4 := Hid.mk' wr3; clear b3 wr3)
      have HW5 : Hid (Below w2.heap.size w2 w3) := HWJ.out.trans (HW4.out.below (Nat.le_refl _))
      have HRB : Hid (Bk w3 R 50 (flatS S)) := (HW5.out.block _ HRL.out).trans HB3.out
      have HRO : Hid (w3.rangeAt R (v * 16) ((S.getD v []).map uV)) := by rw [getD_at hv]; exact flat_range HRB.out H16.out hv
      have HO16 : Hid ((S.getD v []).length = 16) := (getD_ok HOK.out hv).len
      have HGR : Hid (∀ n, w.grownBy (w3.drewN n) (some R)) := fun n => by
        have h := HB2.out.trans (HW5.out.mono HB2.out.size)
        exact ⟨h.os, h.tape, h.output, h.size, fun k hk _ => h.block k hk⟩
      obtain ⟨OW, how⟩ : ∃ n, S.getD v [] = n := ⟨_, rfl⟩
      rw [how] at HRO HO16
      have HOW := Hid.mk' how
      clear how HAD HWJ HW4
      obtain ⟨x0, x1, x2, x3, x4, x5, x6, x7, x8, x9, x10, x11, x12, x13, x14, x15, rfl⟩ := sixteen HNO.out.len
      obtain ⟨y0, y1, y2, y3, y4, y5, y6, y7, y8, y9, y10, y11, y12, y13, y14, y15, rfl⟩ := sixteen HO16.out
      have cx0 := HBN.out.cell (i := 0) (v := .int .u64 ((x0 : Nat) : Int)) rfl
      have cx1 := HBN.out.cell (i := 1) (v := .int .u64 ((x1 : Nat) : Int)) rfl
      have cx2 := HBN.out.cell (i := 2) (v := .int .u64 ((x2 : Nat) : Int)) rfl
      have cx3 := HBN.out.cell (i := 3) (v := .int .u64 ((x3 : Nat) : Int)) rfl
      have cx4 := HBN.out.cell (i := 4) (v := .int .u64 ((x4 : Nat) : Int)) rfl
      have cx5 := HBN.out.cell (i := 5) (v := .int .u64 ((x5 : Nat) : Int)) rfl
      have cx6 := HBN.out.cell (i := 6) (v := .int .u64 ((x6 : Nat) : Int)) rfl
      have cx7 := HBN.out.cell (i := 7) (v := .int .u64 ((x7 : Nat) : Int)) rfl
      have cx8 := HBN.out.cell (i := 8) (v := .int .u64 ((x8 : Nat) : Int)) rfl
      have cx9 := HBN.out.cell (i := 9) (v := .int .u64 ((x9 : Nat) : Int)) rfl
      have cx10 := HBN.out.cell (i := 10) (v := .int .u64 ((x10 : Nat) : Int)) rfl
      have cx11 := HBN.out.cell (i := 11) (v := .int .u64 ((x11 : Nat) : Int)) rfl
      have cx12 := HBN.out.cell (i := 12) (v := .int .u64 ((x12 : Nat) : Int)) rfl
      have cx13 := HBN.out.cell (i := 13) (v := .int .u64 ((x13 : Nat) : Int)) rfl
      have cx14 := HBN.out.cell (i := 14) (v := .int .u64 ((x14 : Nat) : Int)) rfl
      have cx15 := HBN.out.cell (i := 15) (v := .int .u64 ((x15 : Nat) : Int)) rfl
      have cy0 : w3.cell? ⟨R, v * 16, none⟩ = some (.int .u64 ((y0 : Nat) : Int)) := HRO.out 0 (uV y0) rfl
      have cy1 : w3.cell? ⟨R, v * 16 + 1, none⟩ = some (.int .u64 ((y1 : Nat) : Int)) := HRO.out 1 (uV y1) rfl
      have cy2 : w3.cell? ⟨R, v * 16 + 2, none⟩ = some (.int .u64 ((y2 : Nat) : Int)) := HRO.out 2 (uV y2) rfl
      have cy3 : w3.cell? ⟨R, v * 16 + 3, none⟩ = some (.int .u64 ((y3 : Nat) : Int)) := HRO.out 3 (uV y3) rfl
      have cy4 : w3.cell? ⟨R, v * 16 + 4, none⟩ = some (.int .u64 ((y4 : Nat) : Int)) := HRO.out 4 (uV y4) rfl
      have cy5 : w3.cell? ⟨R, v * 16 + 5, none⟩ = some (.int .u64 ((y5 : Nat) : Int)) := HRO.out 5 (uV y5) rfl
      have cy6 : w3.cell? ⟨R, v * 16 + 6, none⟩ = some (.int .u64 ((y6 : Nat) : Int)) := HRO.out 6 (uV y6) rfl
      have cy7 : w3.cell? ⟨R, v * 16 + 7, none⟩ = some (.int .u64 ((y7 : Nat) : Int)) := HRO.out 7 (uV y7) rfl
      have cy8 : w3.cell? ⟨R, v * 16 + 8, none⟩ = some (.int .u64 ((y8 : Nat) : Int)) := HRO.out 8 (uV y8) rfl
      have cy9 : w3.cell? ⟨R, v * 16 + 9, none⟩ = some (.int .u64 ((y9 : Nat) : Int)) := HRO.out 9 (uV y9) rfl
      have cy10 : w3.cell? ⟨R, v * 16 + 10, none⟩ = some (.int .u64 ((y10 : Nat) : Int)) := HRO.out 10 (uV y10) rfl
      have cy11 : w3.cell? ⟨R, v * 16 + 11, none⟩ = some (.int .u64 ((y11 : Nat) : Int)) := HRO.out 11 (uV y11) rfl
      have cy12 : w3.cell? ⟨R, v * 16 + 12, none⟩ = some (.int .u64 ((y12 : Nat) : Int)) := HRO.out 12 (uV y12) rfl
      have cy13 : w3.cell? ⟨R, v * 16 + 13, none⟩ = some (.int .u64 ((y13 : Nat) : Int)) := HRO.out 13 (uV y13) rfl
      have cy14 : w3.cell? ⟨R, v * 16 + 14, none⟩ = some (.int .u64 ((y14 : Nat) : Int)) := HRO.out 14 (uV y14) rfl
      have cy15 : w3.cell? ⟨R, v * 16 + 15, none⟩ = some (.int .u64 ((y15 : Nat) : Int)) := HRO.out 15 (uV y15) rfl
      have heq : ∀ W : World, (Op.equalIn 10000 50 (.agg #[.int .u64 ((x0 : Nat) : Int), .int .u64 ((x1 : Nat) : Int), .int .u64 ((x2 : Nat) : Int), .int .u64 ((x3 : Nat) : Int), .int .u64 ((x4 : Nat) : Int), .int .u64 ((x5 : Nat) : Int), .int .u64 ((x6 : Nat) : Int), .int .u64 ((x7 : Nat) : Int), .int .u64 ((x8 : Nat) : Int), .int .u64 ((x9 : Nat) : Int), .int .u64 ((x10 : Nat) : Int), .int .u64 ((x11 : Nat) : Int), .int .u64 ((x12 : Nat) : Int), .int .u64 ((x13 : Nat) : Int), .int .u64 ((x14 : Nat) : Int), .int .u64 ((x15 : Nat) : Int)]) (.agg #[.int .u64 ((y0 : Nat) : Int), .int .u64 ((y1 : Nat) : Int), .int .u64 ((y2 : Nat) : Int), .int .u64 ((y3 : Nat) : Int), .int .u64 ((y4 : Nat) : Int), .int .u64 ((y5 : Nat) : Int), .int .u64 ((y6 : Nat) : Int), .int .u64 ((y7 : Nat) : Int), .int .u64 ((y8 : Nat) : Int), .int .u64 ((y9 : Nat) : Int), .int .u64 ((y10 : Nat) : Int), .int .u64 ((y11 : Nat) : Int), .int .u64 ((y12 : Nat) : Int), .int .u64 ((y13 : Nat) : Int), .int .u64 ((y14 : Nat) : Int), .int .u64 ((y15 : Nat) : Int)])).run Tryd.prog W = .ok (decide ([x0, x1, x2, x3, x4, x5, x6, x7, x8, x9, x10, x11, x12, x13, x14, x15] = [y0, y1, y2, y3, y4, y5, y6, y7, y8, y9, y10, y11, y12, y13, y14, y15])) W := fun W => eq_words W [x0, x1, x2, x3, x4, x5, x6, x7, x8, x9, x10, x11, x12, x13, x14, x15] [y0, y1, y2, y3, y4, y5, y6, y7, y8, y9, y10, y11, y12, y13, y14, y15] rfl rfl
      have hvi : (v : Int) < (S.length : Int) := by omega
      by_cases hE : [x0, x1, x2, x3, x4, x5, x6, x7, x8, x9, x10, x11, x12, x13, x14, x15] = [y0, y1, y2, y3, y4, y5, y6, y7, y8, y9, y10, y11, y12, y13, y14, y15]
      · rw [decide_eq_true hE] at heq
        have HE := Hid.mk' hE
        clear hE
        go_quiet (fail)
        go_wp2_with fail
        go_ret
        exact ⟨HGR.out _, .inl ⟨rfl, .inr (HNW.out.trans (HE.out.trans HOW.out.symm)), HRB.out⟩⟩
      · rw [decide_eq_false hE] at heq
        have HE := Hid.mk' hE
        clear hE
        have HR1 : Hid (∀ n, (w3.drewN n).rangeAt w2.heap.size 0 (([x0, x1, x2, x3, x4, x5, x6, x7, x8, x9, x10, x11, x12, x13, x14, x15] : List Nat).map uV)) := fun n => Bk.range (W := w3.drewN n) HBN.out
        have HR2 : Hid (∀ n, (w3.drewN n).there R (v * 16) 16) := fun n => flat_there (W := w3.drewN n) HRB.out H16.out hv
        have HRP : Hid (∀ n, Bk ((w3.drewN n).setCells R (v * 16) (([x0, x1, x2, x3, x4, x5, x6, x7, x8, x9, x10, x11, x12, x13, x14, x15] : List Nat).map uV)) R 50 (flatS (S.set v [x0, x1, x2, x3, x4, x5, x6, x7, x8, x9, x10, x11, x12, x13, x14, x15]))) := fun n => flat_put (W := w3.drewN n) HRB.out H16.out hv rfl
        have HWP : Hid (∀ n, w.grownBy ((w3.drewN n).setCells R (v * 16) (([x0, x1, x2, x3, x4, x5, x6, x7, x8, x9, x10, x11, x12, x13, x14, x15] : List Nat).map uV)) (some R)) := fun n => by
          have h1 := HGR.out n
          have h2 := Wr.puts R (([x0, x1, x2, x3, x4, x5, x6, x7, x8, x9, x10, x11, x12, x13, x14, x15] : List Nat).map uV) (v * 16) (w3.drewN n)
          exact ⟨h2.os.trans h1.os, h2.tape.trans h1.tape, h2.output.trans h1.output, by rw [h2.size]; exact h1.size, fun k hk hr => (h2.block k (fun e => hr (by rw [e]))).trans (h1.block k hk hr)⟩
        go_quiet (fail)
        clear cx0 cx1 cx2 cx3 cx4 cx5 cx6 cx7 cx8 cx9 cx10 cx11 cx12 cx13 cx14 cx15 cy0 cy1 cy2 cy3 cy4 cy5 cy6 cy7 cy8 cy9 cy10 cy11 cy12 cy13 cy14 cy15 heq
        go_wp2_with (first
          | (refine wpList_load_mid rfl 50 _ rfl w2.heap.size 0 rfl (([x0, x1, x2, x3, x4, x5, x6, x7, x8, x9, x10, x11, x12, x13, x14, x15] : List Nat).map uV) _ (HR1.out _) Tryd.underlying50 rfl Tryd.sizeSet ?_)
          | (refine wpList_store_mid rfl 50 _ _ rfl R (v * 16) (([x0, x1, x2, x3, x4, x5, x6, x7, x8, x9, x10, x11, x12, x13, x14, x15] : List Nat).map uV).toArray rfl rfl (HR2.out _) Tryd.sizeSet (uV_one _) ?_))
        go_ret
        refine ⟨HWP.out _, .inr ⟨rfl, HZ.out, by rw [HNW.out, HOW.out]; exact HE.out, ?_⟩⟩
        rw [HNW.out]
        exact HRP.out _
end Go.Proofs.YtlnjhnbiljkbmaaDoor
