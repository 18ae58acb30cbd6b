/- A set gone through by rising number. -/
import Derived.Test.YtlnjhnbiljkbmaaDoorJg
import Derived.Sort.BigQuietIn
namespace Go.Proofs.YtlnjhnbiljkbmaaDoor
open Go.RowKit Go.Shelf
attribute [local go_sem] Oper.semAt_some

theorem low_bit {x : Nat} (h0 : x ≠ 0) (h : x < 18446744073709551616) : Lib.ctz 64 x < 64 ∧ x.testBit (Lib.ctz 64 x) = true ∧ ∀ j, (x &&& (x - 1)).testBit j = (x.testBit j && decide (j ≠ Lib.ctz 64 x)) := by
  obtain ⟨m, hm, hk⟩ := Lib.ctzFrom_spec 64 x (by omega) h
  have e : Lib.ctz 64 x = Lib.ctzFrom 64 x := by simp [Lib.ctz, h0]
  rw [e]
  generalize Lib.ctzFrom 64 x = k at *
  have hp : 0 < 2 ^ k := Nat.pow_pos (by decide)
  have e1 : x = 2 ^ (k + 1) * m + 2 ^ k := by
    rw [hm, Nat.pow_succ, Nat.mul_add, Nat.mul_one, Nat.mul_assoc]
  have e2 : x - 1 = 2 ^ (k + 1) * m + (2 ^ k - 1) := by omega
  have h1 : 2 ^ k < 2 ^ (k + 1) := by rw [Nat.pow_succ]; omega
  have b1 : ∀ j, x.testBit j = if j < k + 1 then decide (k = j) else m.testBit (j - (k + 1)) := fun j => by
    rw [e1, Nat.testBit_two_pow_mul_add _ h1, Nat.testBit_two_pow]
  have b2 : ∀ j, (x - 1).testBit j = if j < k + 1 then decide (j < k) else m.testBit (j - (k + 1)) := fun j => by
    rw [e2, Nat.testBit_two_pow_mul_add _ (by omega), Nat.testBit_two_pow_sub_one]
  refine ⟨hk, by rw [b1, if_pos (by omega)]; simp, fun j => ?_⟩
  rw [Nat.testBit_and, b1, b2]
  by_cases hj : j < k + 1
  · rw [if_pos hj, if_pos hj]
    by_cases e : k = j
    · subst e; simp
    · simp [e]
  · rw [if_neg hj, if_neg hj]
    have : j ≠ k := by omega
    simp [this]
theorem less_and {x : Nat} (h0 : x ≠ 0) : x &&& (x - 1) < x := Nat.lt_of_le_of_lt Nat.and_le_right (by omega)
/-- The numbers of a word's bits, by rising number. -/
def bl (x : Nat) : List Nat := if h : x = 0 then [] else Lib.ctz 64 x :: bl (x &&& (x - 1))
termination_by x
decreasing_by exact less_and h
theorem bl_zero : bl 0 = [] := by rw [bl]; simp
theorem bl_cons {x : Nat} (h : x ≠ 0) : bl x = Lib.ctz 64 x :: bl (x &&& (x - 1)) := by rw [bl, dif_neg h]
theorem and_lt' {x : Nat} (h : x < 18446744073709551616) : x &&& (x - 1) < 18446744073709551616 := Nat.lt_of_le_of_lt Nat.and_le_left h
theorem mem_bl : ∀ (n x : Nat), x ≤ n → x < 18446744073709551616 → ∀ j, j ∈ bl x ↔ x.testBit j = true
  | n, 0, _, _, j => by rw [bl_zero]; simp
  | 0, x + 1, h, _, _ => by omega
  | n + 1, x + 1, h, hl, j => by
    obtain ⟨_, h2, h3⟩ := low_bit (x := x + 1) (by omega) hl
    have ih := mem_bl n ((x + 1) &&& (x + 1 - 1)) (by have := less_and (x := x + 1) (by omega); omega) (and_lt' hl) j
    rw [bl_cons (by omega), List.mem_cons, ih, h3]
    simp only [Bool.and_eq_true, decide_eq_true_eq]
    constructor
    · rintro (rfl | h)
      · exact h2
      · exact h.1
    · intro h
      by_cases e : j = Lib.ctz 64 (x + 1)
      · exact .inl e
      · exact .inr ⟨h, e⟩
/-- A set's numbers, of its first words. -/
def upE (ws : List Nat) (i : Nat) : List Nat := (List.range i).flatMap fun k => (bl (ws.getD k 0)).map fun j => k * 64 + j
theorem upE_succ (ws : List Nat) (i : Nat) : upE ws (i + 1) = upE ws i ++ (bl (ws.getD i 0)).map fun j => i * 64 + j := by
  unfold upE; rw [List.range_succ, List.flatMap_append]; simp
theorem upE_pre (ws : List Nat) {i n : Nat} (h : i ≤ n) : upE ws i <+: upE ws n := by
  induction n with
  | zero => obtain rfl : i = 0 := by omega
            exact List.prefix_refl _
  | succ n ih =>
    rcases Nat.lt_or_ge i (n + 1) with hlt | hge
    · rw [upE_succ]
      exact (ih (by omega)).trans (List.prefix_append _ _)
    · obtain rfl : i = n + 1 := by omega
      exact List.prefix_refl _
theorem mem_upE {ws : List Nat} (h : OkW ws) {v : Nat} : v ∈ upE ws 16 ↔ hasW ws v = true := by
  unfold upE
  rw [List.mem_flatMap]
  constructor
  · rintro ⟨k, _, hm⟩
    obtain ⟨j, hj, rfl⟩ := List.mem_map.1 hm
    have hx := h.at k
    have ht := (mem_bl _ _ (Nat.le_refl _) hx j).1 hj
    have hj64 : j < 64 := Classical.byContradiction fun hn => by
      rw [Nat.testBit_lt_two_pow (Nat.lt_of_lt_of_le hx (by rw [show (18446744073709551616 : Nat) = 2 ^ 64 from rfl]; exact Nat.pow_le_pow_right (by decide) (by omega)))] at ht
      cases ht
    unfold hasW
    rw [show (k * 64 + j) / 64 = k by omega, show (k * 64 + j) % 64 = j by omega]
    exact ht
  · intro hv
    have hl := has_lt h hv
    unfold hasW at hv
    refine ⟨v / 64, List.mem_range.2 (by omega), List.mem_map.2 ⟨v % 64, (mem_bl _ _ (Nat.le_refl _) (h.at _) _).2 hv, by omega⟩⟩
theorem upE_part {ws : List Nat} {i y : Nat} {d : List Nat} (hi : i < 16) (hd : bl (ws.getD i 0) = d ++ bl y) (hy : y ≠ 0) : (upE ws i ++ d.map fun j => i * 64 + j) ++ [i * 64 + Lib.ctz 64 y] <+: upE ws 16 ∧
    (upE ws i ++ d.map fun j => i * 64 + j) ++ [i * 64 + Lib.ctz 64 y] = upE ws i ++ (d ++ [Lib.ctz 64 y]).map fun j => i * 64 + j := by
  have e2 : (upE ws i ++ d.map fun j => i * 64 + j) ++ [i * 64 + Lib.ctz 64 y] = upE ws i ++ (d ++ [Lib.ctz 64 y]).map fun j => i * 64 + j := by
    rw [List.map_append, List.append_assoc]; rfl
  refine ⟨?_, e2⟩
  rw [e2]
  refine List.IsPrefix.trans ?_ (upE_pre ws (n := 16) (i := i + 1) hi)
  rw [upE_succ, hd, bl_cons hy]
  refine (List.prefix_append_right_inj _).2 (List.IsPrefix.map _ ?_)
  rw [show d ++ Lib.ctz 64 y :: bl (y &&& (y - 1)) = (d ++ [Lib.ctz 64 y]) ++ bl (y &&& (y - 1)) by simp]
  exact List.prefix_append _ _
end Go.Proofs.YtlnjhnbiljkbmaaDoor

/- The method all of a set. -/
namespace Go.Proofs.YtlnjhnbiljkbmaaDoor
open Go.RowKit Go.Shelf
attribute [local go_sem] Oper.semAt_some

/-- What a round keeps: the set's block, and the table's. -/
structure KpR (R : Nat) (_ : Nat) (W W' : World) : Prop where
  size : W.heap.size ≤ W'.heap.size
  set : W'.heap[R]? = W.heap[R]?
  tab : W'.heap[0]? = W.heap[0]?
theorem KpR.trans {R i : Nat} {X Y Z : World} (h : KpR R i X Y) (k : KpR R i Y Z) : KpR R i X Z := ⟨Nat.le_trans h.size k.size, k.set.trans h.set, k.tab.trans h.tab⟩
theorem KpR.refl (R i : Nat) (W : World) : KpR R i W W := ⟨Nat.le_refl _, rfl, rfl⟩
abbrev Tb (W : World) : Prop := TabAt 0 Lib.deBruijn64tab W
theorem Tb.keep {W W' : World} (h : Tb W) (hb : W'.heap[0]? = W.heap[0]?) : Tb W' := fun j hj => by
  rw [World.cell?_of_block (w := W) hb]
  exact h j hj
theorem range_keep {W W' : World} {b o : Nat} {cs : List Value} (h : W.rangeAt b o cs) (hb : W'.heap[b]? = W.heap[b]?) : W'.rangeAt b o cs := fun j v hv => by
  rw [World.cell?_of_block (w := W) hb]
  exact h j v hv
abbrev encN (x : Nat) : Array Value := #[.int .i64 (x : Int)]
theorem sub_word {y : Nat} (h0 : y ≠ 0) (h : y < 18446744073709551616) : bits BinOp.and IntKind.u64 (y : Int) (IntKind.u64.wrap ((y : Int) - 1)) = ((y &&& (y - 1) : Nat) : Int) := by
  rw [show (y : Int) - 1 = ((y - 1 : Nat) : Int) by omega, wrap_u64_nat _ (by omega), and_word _ _ h (by omega)]
set_option maxRecDepth 100000 in
set_option maxHeartbeats 4000000 in
theorem all1_m (lq R o : Nat) (ws : List Nat) (hk : OkW ws) (J Jx : List Nat → World → Prop) (W : World) (hJo : OwnFrom W.heap.size J)
    (hY : ∀ pre x W1, J pre W1 → (pre ++ [x]) <+: upE ws 16 → YieldAt Fence.wide 0 Tryd.prog lq (encN x) W1 fun e W' =>
      KpR R W.heap.size W1 W' ∧ ((e = .returned (.bool true) ∧ J (pre ++ [x]) W') ∨ (e = .returned (.bool false) ∧ Jx (pre ++ [x]) W')))
    (hr : W.rangeAt R o (ws.map uV)) (hT : Tb W) (h0 : J [] W) :
    CallsIn Fence.wide 1 Tryd.prog 29 #[.pointer (some ⟨R, o, none⟩), .func (.yield lq) #[] #[]] W fun e W' => (∃ v, e = .returned v) ∧
      (J (upE ws 16) W' ∨ ∃ pre, pre <+: upE ws 16 ∧ Jx pre W') := by
  have HY := Hid.mk' hY
  have HJO := Hid.mk' hJo
  have HRG := Hid.mk' hr
  have HT := Hid.mk' hT
  have HK := Hid.mk' hk
  have hl := hk.len
  clear hY hr hT hk hJo
  refine callsIn_of_wp Tryd.func29 rfl trivial ?_ rfl
  simp only [Tryd.ntmps29, List.size_toArray, List.length_cons, List.length_nil, Nat.reduceAdd, Nat.reduceSub, Array.replicate_succ, Array.replicate_zero, List.push_toArray, List.append_toArray, List.nil_append, List.cons_append]
  gi_wp2_with fail
  gi_loopw [7] (fun t wr => ∃ (i : Nat), t = .int .i64 i ∧ i ≤ 16 ∧ wr.rangeAt R o (ws.map uV) ∧ Tb wr ∧ J (upE ws i) wr) (fun t _ => 16 - (intOf t).toNat)
  case atStart => exact ⟨0, rfl, Nat.zero_le _, HRG.out, HT.out, h0⟩
  case round =>
    obtain ⟨i, rfl, hi, hr, hT, hJ⟩ := hrel
    clear HRG HT
    have HRG := Hid.mk' hr
    have HT := Hid.mk' hT
    have HJ := Hid.mk' hJ
    clear hr hT hJ
    by_cases hlt : i < 16
    · have hil : i < ws.length := by omega
      have hli : (i : Int) < 16 := by omega
      have hld : decide ((i : Int) < 16) = true := decide_eq_true hli
      have c0 : wr.cell? ⟨R, o + i, none⟩ = some (.int .u64 ((ws[i] : Nat) : Int)) := HRG.out i _ (map_uV_at hil)
      have HX : Hid (ws.getD i 0 = ws[i]) := getN hil
      have HXL : Hid (ws[i] < 18446744073709551616) := HK.out.lt _ (List.getElem_mem hil)
      have HBL : Hid (bl (ws.getD i 0) = [] ++ bl ws[i]) := (by rw [HX.out]; rfl : _ = _)
      clear HX
      generalize ws[i] = x at *
      gi_wp2_with fail
      gi_quiet (fail)
      gi_wp2_with fail
      have HBD : Hid (Below wr.heap.size wr (wr.drewN nq)) := Below.drewN (Below.refl _ wr) nq
      have HJ2 : Hid (J (upE ws i ++ ([] : List Nat).map fun j => i * 64 + j) (wr.drewN nq)) := by
        have := HJO.out _ _ _ none HJ.out (below_grown HBD.out) (fun r e => by cases e)
        show J _ _
        simpa using this
      have HR2 : Hid ((wr.drewN nq).rangeAt R o (ws.map uV)) := range_keep HRG.out rfl
      have HT2 : Hid (Tb (wr.drewN nq)) := HT.out.keep rfl
      clear c0 HBD HJ HRG HT
      gi_loopw [5] (fun t wr => ∃ (y : Nat) (d : List Nat), t = .int .u64 (y : Int) ∧ y < 18446744073709551616 ∧ bl (ws.getD i 0) = d ++ bl y ∧ wr.rangeAt R o (ws.map uV) ∧ Tb wr ∧ J (upE ws i ++ d.map fun j => i * 64 + j) wr) (fun t _ => (intOf t).toNat)
      case atStart => exact ⟨x, [], rfl, HXL.out, HBL.out, HR2.out, HT2.out, HJ2.out⟩
      case round =>
        obtain ⟨y, d, rfl, hy, hbl, hr, hT, hJ⟩ := hrel
        clear HXL HBL HR2 HT2 HJ2
        have HYL := Hid.mk' hy
        have HBL := Hid.mk' hbl
        have HRG := Hid.mk' hr
        have HT := Hid.mk' hT
        have HJ := Hid.mk' hJ
        clear hy hbl hr hT hJ
        by_cases hy0 : y = 0
        · have hq : ((y : Int) != 0) = false := bne_no (by omega)
          have HE : Hid (upE ws (i + 1) = upE ws i ++ d.map fun j => i * 64 + j) := by
            have := HBL.out
            rw [hy0, bl_zero, List.append_nil] at this
            show _ = _
            rw [upE_succ, this]
          clear hy0
          gi_wp2_with fail
          go_roundw
          case rel => exact ⟨i + 1, by go_num, hlt, HRG.out, HT.out, by rw [HE.out]; exact HJ.out⟩
          case measure => simp [intOf]; omega
        · have hq : ((y : Int) != 0) = true := bne_of (by omega)
          have HTZ := Hid.mk' (trail_any y HYL.out hy0 wr HT.out)
          obtain ⟨hp1, hp2⟩ := upE_part hlt HBL.out hy0
          have HP1 := Hid.mk' hp1
          have HP2 := Hid.mk' hp2
          have hck := (low_bit hy0 HYL.out).1
          have hsub := sub_word hy0 HYL.out
          have HLT := Hid.mk' (less_and hy0)
          have HYL2 := Hid.mk' (and_lt' HYL.out)
          have HB2 : Hid (bl (ws.getD i 0) = (d ++ [Lib.ctz 64 y]) ++ bl (y &&& (y - 1))) := by
            show _ = _
            rw [HBL.out, bl_cons hy0]; simp
          obtain ⟨fn, tmps, assign, body, hyy, hR⟩ := HY.out _ (i * 64 + Lib.ctz 64 y) _ HJ.out hp1
          clear hp1 hp2 hy0
          generalize Lib.ctz 64 y = k at *
          have ek : ((i * 64 + k : Nat) : Int) = (i : Int) * 64 + (k : Int) := by omega
          unfold encN at hyy
          rw [ek] at hyy
          clear ek
          gi_wp2_with fail
          refine ⟨trivial, ?_⟩
          refine (callsIn_wide.2 HTZ.out).mono ?_
          rintro e w2 ⟨rfl, rfl⟩
          gi_wp2_with fail
          refine hR.mono ?_
          rintro e W3 ⟨hk3, ⟨rfl, hJ3⟩ | ⟨rfl, hJx3⟩⟩
          · have HR3 := Hid.mk' (range_keep HRG.out hk3.set)
            have HT3 := Hid.mk' (HT.out.keep hk3.tab)
            rw [HP2.out] at hJ3
            have HJ3 := Hid.mk' hJ3
            clear hk3 hR hyy hJ3 HTZ
            generalize y &&& (y - 1) = y2 at *
            gi_wp2_with fail
            go_roundw
            case rel => exact ⟨y2, d ++ [k], rfl, HYL2.out, HB2.out, HR3.out, HT3.out, HJ3.out⟩
            case measure => have := HLT.out; simp [intOf]; omega
          · gi_wp2_with fail
            exact bodyPost_ret (results_none rfl _ _ _) rfl ⟨⟨_, rfl⟩, .inr ⟨_, HP1.out, hJx3⟩⟩
    · have hie : i = 16 := by omega
      rw [hie] at HJ
      gi_wp2_with fail
      go_end0
      exact ⟨⟨_, rfl⟩, .inl HJ.out⟩
theorem all_m (R o : Nat) (ws : List Nat) (hk : OkW ws) (w : World) (hr : w.rangeAt R o (ws.map uV)) (hR : R < w.heap.size) (hG : 0 < w.heap.size) (hT : Tb w) : SeqM 29 #[.pointer (some ⟨R, o, none⟩)] encN (KpR R) (upE ws 16) w :=
  fun lq J Jx W hW hJ _ hY h0 => calls_any (all1_m lq R o ws hk J Jx W hJ hY (range_keep hr (hW.block _ hR)) (hT.keep (hW.block _ hG)) h0)
end Go.Proofs.YtlnjhnbiljkbmaaDoor
