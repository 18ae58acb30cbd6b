/- asm.number: a word's number. -/
import Derived.Test.YtboidkmnkicoeaaGreatDoorYa
import Derived.Test.YtboidkmnkicoeaaGreatDoorKb
namespace Go.Proofs.YtboidkmnkicoeaaGreatDoor
open Go.RowKit Go.Sort

def nmV (o : Option Int) : Value := .tuple #[.int .i64 (o.getD 0), .bool o.isSome]
theorem parse_ok (s : ByteArray) (v : Int) (w : World) (hs : s.size ≤ 281474976710656) (h : Lib.parseIntB 64 s.data.toList = .ok v) :
    Calls Tryz.prog 41 #[.string s, .int .i64 10, .int .i64 64] w fun e w' => e = .returned (.tuple #[.int .i64 v, .nilIface]) ∧ Below w.heap.size w w' :=
  (Tryz.strconv_ParseInt_10_at64_ok s (by omega) v h w).mono fun e w' hx => ⟨hx.1, by
    rcases hx.2 with rfl | ⟨t, rfl⟩
    · exact Below.refl _ _
    · exact Lib.bytesWorld_below _ _ _⟩
theorem parse_no (s : ByteArray) (w : World) (hs : s.size ≤ 281474976710656) (h : ∀ v, Lib.parseIntB 64 s.data.toList ≠ .ok v) (he : Env w) :
    Calls Tryz.prog 41 #[.string s, .int .i64 10, .int .i64 64] w fun e w' => ∃ N v, e = .returned (.tuple #[.int .i64 v, .iface 125 (.pointer (some ⟨N, 0, none⟩))]) ∧ Below w.heap.size w w' := by
  by_cases hr : Lib.parseIntB 64 s.data.toList = .range
  · obtain ⟨te, pe, hv⟩ := he.er
    exact (Tryz.strconv_ParseInt_10_at64_range s hs hr _ w hv (.inr ⟨te, pe, rfl⟩)).mono fun e w' ⟨N, h1, _, _, h2⟩ => ⟨N, _, h1, h2⟩
  · obtain ⟨te, pe, hv⟩ := he.es
    exact (Tryz.strconv_ParseInt_10_at64_bad s hs h hr _ w hv (.inr ⟨te, pe, rfl⟩)).mono fun e w' ⟨N, h1, _, _, h2⟩ => ⟨N, _, h1, h2⟩
theorem numB_ok {l : Bt} {v : Int} (h : Lib.parseIntB 64 l = .ok v) : numB l = if Lib.itoa v = l then some v else none := by unfold numB; rw [h]
theorem numB_no {l : Bt} (h : ∀ v, Lib.parseIntB 64 l ≠ .ok v) : numB l = none := by
  unfold numB
  split
  · rename_i v e; exact absurd e (h v)
  · rfl
set_option maxHeartbeats 1000000 in
theorem number_any (l : Bt) (w : World) (hl : l.length ≤ 281474976710656) (h : Env w) : Calls Tryz.prog 27 #[.string (tb l)] w fun e w' => e = .returned (nmV (numB l)) ∧ Below w.heap.size w w' := by
  have hs : (tb l).size ≤ 281474976710656 := by rw [tb_size]; exact hl
  by_cases hk : ∃ v, Lib.parseIntB 64 l = .ok v
  · obtain ⟨v, hv⟩ := hk
    have hb := Lib.parseIntB_bounds hv
    have hi : I64 v := by
      have e : ((2 ^ (64 - 1) : Nat) : Int) = 9223372036854775808 := rfl
      rw [e] at hb
      unfold I64; omega
    have HP := Hid.mk' (parse_ok (tb l) v w hs hv)
    have HF : Hid (∀ w', Below w.heap.size w w' → Calls Tryz.prog 42 #[.int .i64 v, .int .i64 10] w' fun e w'' => e = .returned (.string (tb (Lib.itoa v))) ∧ Below w'.heap.size w' w'') := fun w' hb => format_any v w' hi (h.stay hb)
    rw [numB_ok hv]
    clear hb hi h hv hl hs
    by_cases he : Lib.itoa v = l
    · subst he
      rw [if_pos rfl]
      generalize tb (Lib.itoa v) = s at *
      go_enter Tryz.func27, Tryz.ntmps27
      go_wp2_with (first | (go_at_call 41; refine HP.out.mono ?_; rintro e w1 ⟨rfl, hb1⟩) | (go_at_call 42; refine (HF.out _ hb1).mono ?_; rintro e w2 ⟨rfl, hb2⟩))
      go_ret2
      exact ⟨rfl, Below.on hb1 hb2⟩
    · rw [if_neg he]
      have hq : ((tb (Lib.itoa v)).toList == (tb l).toList) = false := by
        rw [beq_eq_false_iff_ne]
        intro e
        rw [Lib.toList_data, Lib.toList_data] at e
        exact he e
      generalize tb (Lib.itoa v) = s at *
      generalize tb l = t at *
      clear he
      go_enter Tryz.func27, Tryz.ntmps27
      go_wp2_with (first | (go_at_call 41; refine HP.out.mono ?_; rintro e w1 ⟨rfl, hb1⟩) | (go_at_call 42; refine (HF.out _ hb1).mono ?_; rintro e w2 ⟨rfl, hb2⟩))
      go_ret2
      exact ⟨rfl, Below.on hb1 hb2⟩
  · have hk' : ∀ v, Lib.parseIntB 64 l ≠ .ok v := fun v e => hk ⟨v, e⟩
    rw [numB_no hk']
    have HP := Hid.mk' (parse_no (tb l) w hs hk' h)
    clear hk hk' h hl hs
    generalize tb l = t at *
    go_enter Tryz.func27, Tryz.ntmps27
    go_wp2_with (first | (go_at_call 41; refine HP.out.mono ?_; rintro e w1 ⟨N, v, rfl, hb1⟩))
    go_ret2
    exact ⟨rfl, hb1⟩
end Go.Proofs.YtboidkmnkicoeaaGreatDoor

/- asm.row: what a line's first word says. -/
namespace Go.Proofs.YtboidkmnkicoeaaGreatDoor
open Go.RowKit Go.Sort

/-- Block b holds a line as far as it has been read: of its numbers no more than 20. -/
structure RwAt (N b n : Nat) (r : Rs) (v : Value) (W : World) : Prop where
  bk : W.heap[b]? = some (.cells #[.int .i64 n, .int .i64 r.words, .int .i64 r.kind, .string (tb r.name), v] 46)
  ow : W.ownsRow N 2 1 v (r.ns.take 20).length ((r.ns.take 20).flatMap thC)
  nb : N ≤ b
theorem RwAt.stay {N b n : Nat} {r : Rs} {v : Value} {W W' : World} (h : RwAt N b n r v W) (hb : Below W.heap.size W W') : RwAt N b n r v W' :=
  ⟨(hb.block _ (Array.getElem?_eq_some_iff.1 h.bk).1).trans h.bk, own_stay h.ow hb, h.nb⟩
theorem RwAt.lt {N b n : Nat} {r : Rs} {v : Value} {W : World} (h : RwAt N b n r v W) : b < W.heap.size := (Array.getElem?_eq_some_iff.1 h.bk).1
theorem known_nat {k : Nat} (h : k < 20) (w : World) : Calls Tryz.prog 38 #[.int .i64 (k : Int)] w fun e w' => e = .returned (.bool true) ∧ w' = w := by
  have := known_any k w
  rwa [show knB k = true by simp [knB]; omega] at this
theorem known_20 (w : World) : Calls Tryz.prog 38 #[.int .i64 20] w fun e w' => e = .returned (.bool false) ∧ w' = w := known_any 20 w
/-- What begin leaves. -/
def BgP (b : Nat) (z : Int × Int) (w : World) (e : Ending) (w' : World) : Prop := e = .returned (.int .i64 z.1) ∧ ∃ w1, Below w.heap.size w w1 ∧ (z.1 = 0 → w' = w1.setCell ⟨b, 2, none⟩ (.int .i64 z.2)) ∧ (z.1 ≠ 0 → w' = w1)
theorem str_eq {l t : Bt} (h : l = t) : ((tb l).toList == t) = true := by rw [Lib.toList_data, tb_list, h]; simp
theorem str_ne {l t : Bt} (h : l ≠ t) : ((tb l).toList == t) = false := by rw [Lib.toList_data, tb_list]; exact beq_eq_false_iff_ne.2 h
set_option maxRecDepth 100000 in
set_option maxHeartbeats 2000000 in
theorem begin_any (b n : Nat) (l : Bt) (w : World) (h : Env w) (hn1 : 1 ≤ n) (hn2 : n ≤ 9223372036854775807) (c0 : w.cell? ⟨b, 0, none⟩ = some (.int .i64 n)) (ck : Value) (c2 : w.cell? ⟨b, 2, none⟩ = some ck) (fz : w.frozen? ⟨b, 2, none⟩ = false) :
    Calls Tryz.prog 25 #[.pointer (some ⟨b, 0, none⟩), .string (tb l)] w (BgP b (bgZ n l) w) := by
  by_cases h1 : n = 1
  · have hq : ((n : Int) == 1) = true := by simp [h1]
    have hq2 : decide ((1 : Int) < (n : Int)) = false := decide_eq_false (by omega)
    have hq3 : decide ((n : Int) ≤ 2) = true := decide_eq_true (by omega)
    have hq4 : decide (1 < n) = false := decide_eq_false (by omega)
    have hq5 : decide (n ≤ 2) = true := decide_eq_true (by omega)
    by_cases h2 : l = widenB
    · have hz : bgZ n l = (0, -1) := by unfold bgZ; rw [if_pos ⟨h1, h2⟩]
      have hs := str_eq h2
      unfold widenB at hs
      rw [hz]
      clear hz h1 h2 hq2 hq3 hq4 hq5
      generalize tb l = s at *
      go_enter Tryz.func25, Tryz.ntmps25
      go_wp2_with fail
      go_ret
      exact ⟨rfl, _, Below.refl _ _, fun _ => rfl, fun h => absurd rfl h⟩
    · have hz : bgZ n l = (5, 0) := by unfold bgZ; rw [if_neg (fun h => h2 h.2), if_neg (fun h => h.1 h1), if_pos (by omega)]
      have hs := str_ne h2
      unfold widenB at hs
      rw [hz]
      clear hz h1 h2
      generalize tb l = s at *
      go_enter Tryz.func25, Tryz.ntmps25
      go_wp2_with fail
      go_ret
      exact ⟨rfl, _, Below.refl _ _, fun h => (by cases h), fun _ => rfl⟩
  · have hq : ((n : Int) == 1) = false := beq_no (by omega)
    have hq2 : decide ((1 : Int) < (n : Int)) = true := decide_eq_true (by omega)
    have hq4 : decide (1 < n) = true := decide_eq_true (by omega)
    by_cases h2 : l = funcB
    · have hz : bgZ n l = (0, -2) := by unfold bgZ; rw [if_neg (fun h => h1 h.1), if_pos ⟨h1, h2⟩]
      have hs := str_eq h2
      unfold funcB at hs
      rw [hz]
      clear hz h1 h2
      generalize tb l = s at *
      go_enter Tryz.func25, Tryz.ntmps25
      go_wp2_with fail
      go_ret
      exact ⟨rfl, _, Below.refl _ _, fun _ => rfl, fun h => absurd rfl h⟩
    · have hs := str_ne h2
      unfold funcB at hs
      by_cases h3 : n ≤ 2
      · have hz : bgZ n l = (5, 0) := by unfold bgZ; rw [if_neg (fun h => h1 h.1), if_neg (fun h => h2 h.2), if_pos h3]
        have hq3 : decide ((n : Int) ≤ 2) = true := decide_eq_true (by omega)
        have hq5 : decide (n ≤ 2) = true := decide_eq_true (by omega)
        rw [hz]
        clear hz h1 h2 h3
        generalize tb l = s at *
        go_enter Tryz.func25, Tryz.ntmps25
        go_wp2_with fail
        go_ret
        exact ⟨rfl, _, Below.refl _ _, fun h => (by cases h), fun _ => rfl⟩
      · have hz : bgZ n l = match opOf l with | some k => (0, (k : Int)) | none => (60, 0) := by unfold bgZ; rw [if_neg (fun h => h1 h.1), if_neg (fun h => h2 h.2), if_neg h3]; cases opOf l <;> rfl
        have hq3 : decide ((n : Int) ≤ 2) = false := decide_eq_false (by omega)
        have hq5 : decide (n ≤ 2) = false := decide_eq_false (by omega)
        have HK := Hid.mk' (fun (k : Nat) (h : k < 20) (w' : World) => known_nat h w')
        have HK2 := Hid.mk' known_20
        have HW : Hid (∀ (k : Nat), k < 20 → ∀ w', Below w.heap.size w w' → Calls Tryz.prog 39 #[.int .i64 (k : Int)] w' fun e w'' => e = .returned (.string (rwN k).word) ∧ Below w'.heap.size w' w'') := fun k hk w' hb => by
          have := word_of k w' (h.stay hb).tab
          rwa [rwOf_nat hk] at this
        have HZ := Hid.mk' hz
        have HS : Hid (∀ k, ((rwN k).word.toList == (tb l).toList) = decide ((rwN k).word.data.toList = l)) := fun k => by
          rw [Lib.toList_data, Lib.toList_data, tb_list, Bool.eq_iff_iff]; simp
        clear h hz h1 h2 h3
        generalize tb l = s at *
        go_enter Tryz.func25, Tryz.ntmps25
        go_wp2_with fail
        go_loopw [5] (fun t5 wr => ∃ k : Nat, k ≤ 20 ∧ t5 = .int .i64 k ∧ opN l (20 - k) k = opOf l ∧ Below w.heap.size w wr) (fun t5 _ => 20 - (intOf t5).toNat)
        case atStart => exact ⟨0, Nat.zero_le _, rfl, rfl, Below.refl _ _⟩
        case round =>
          obtain ⟨k, hk, rfl, ho, hbr⟩ := hrel
          have d0 := cell_kept_below c0 hbr
          have HO := Hid.mk' ho
          clear ho
          by_cases hlt : k < 20
          · have HKk := Hid.mk' (HK.out k hlt)
            have HWk := Hid.mk' (HW.out k hlt _ hbr)
            have HOk : Hid (opN l (20 - k) k = if (rwN k).word.data.toList = l then some k else opN l (20 - (k + 1)) (k + 1)) := by
              show _ = _
              rw [show 20 - k = (20 - (k + 1)) + 1 by omega, opN]
            have hsk := HS.out k
            cases hd : decide ((rwN k).word.data.toList = l)
            · rw [hd] at hsk
              have hd := of_decide_eq_false hd
              have HD := Hid.mk' hd
              clear hd
              generalize (rwN k).word = u at *
              go_wp2_with (first | (go_at_call 38; refine (HKk.out _).mono ?_; rintro e w1 ⟨rfl, rfl⟩) | (go_at_call 39; refine HWk.out.mono ?_; rintro e w2 ⟨rfl, hb2⟩))
              go_roundw
              case rel => exact ⟨k + 1, by omega, by go_num, by rw [← HO.out, HOk.out, if_neg HD.out], Below.on hbr hb2⟩
              case measure => simp [intOf]; omega
            · rw [hd] at hsk
              have hd := of_decide_eq_true hd
              have HD := Hid.mk' hd
              clear hd
              generalize (rwN k).word = u at *
              have HFR : Hid (∀ w2, Below wr.heap.size wr w2 → w2.frozen? ⟨b, 2, none⟩ = false ∧ w2.cell? ⟨b, 2, none⟩ = some ck) := fun w2 hb2 => ⟨((Below.on hbr hb2).frozen (p := ⟨b, 2, none⟩) (lt_of_cell c2)).trans fz, cell_kept_below c2 (Below.on hbr hb2)⟩
              go_wp2_with (first | (go_at_call 38; refine (HKk.out _).mono ?_; rintro e w1 ⟨rfl, rfl⟩) | (go_at_call 39; refine HWk.out.mono ?_; rintro e w2 ⟨rfl, hb2⟩; obtain ⟨fz2, d2⟩ := HFR.out _ hb2))
              go_ret
              rw [HZ.out, ← HO.out, HOk.out, if_pos HD.out]
              exact ⟨rfl, _, Below.on hbr hb2, fun _ => rfl, fun h => absurd rfl h⟩
          · obtain rfl : k = 20 := by omega
            go_wp2_with (first | (go_at_call 38; refine (HK2.out _).mono ?_; rintro e w1 ⟨rfl, rfl⟩))
            go_ret
            rw [HZ.out, ← HO.out]
            exact ⟨rfl, _, hbr, fun h => (by cases h), fun _ => rfl⟩
end Go.Proofs.YtboidkmnkicoeaaGreatDoor
