/- Lists of numbers and of yes and no in memory; are they the same? -/
import Derived.Test.YtdnilonfgbinaaaNa
import Derived.Test.YtdnilonfgbinaaaNb
import Derived.Deep.RegionLaw
import Derived.Lib.SmallJoins
namespace Go.Proofs.Ytdnilonfgbinaaa
open Go.RowKit Go.Sort

theorem cell_of_obj {W : World} {b : Nat} {cs : Array Value} {T : TypeId} {fz : Nat × Nat} (h : W.heap[b]? = some (.cells cs T fz)) {j : Nat} {v : Value} (hj : cs[j]? = some v) : W.cell? ⟨b, j, none⟩ = some v := by
  rw [Lib.cell_of_heap h]; exact hj
theorem blk_stay {W W' : World} {k : Nat} {o : Obj} (h : W.heap[k]? = some o) (hb : Below W.heap.size W W') : W'.heap[k]? = some o := (hb.block _ (Array.getElem?_eq_some_iff.1 h).1).trans h
def nV (k : Nat) : Value := .int .i64 (k : Int)
def bV (b : Bool) : Value := .bool b
/-- A list lies at an address, a cell each. -/
def Lst (W : World) (a : Option Addr) (xs : List Value) : Prop := ∀ j u, xs[j]? = some u → ∃ b o, a = some ⟨b, o, none⟩ ∧ W.cell? ⟨b, o + j, none⟩ = some u
theorem Lst.stay {W W' : World} {a : Option Addr} {xs : List Value} (h : Lst W a xs) (hb : Below W.heap.size W W') : Lst W' a xs := by
  intro j u hj
  obtain ⟨b, o, e, hc⟩ := h j u hj
  exact ⟨b, o, e, cell_kept_below hc hb⟩
theorem own_lst {W : World} {N n : Nat} {T : TypeId} {a : Option Addr} {c : Nat} {xs : List Value} (h : W.ownsRow N T 1 (.slice a n c) n xs) : Lst W a xs := by
  intro j u hj
  rcases h.2 with ⟨e, h0⟩ | ⟨g, cap, cur, e, _, _⟩
  · have := h.1
    have := (List.getElem?_eq_some_iff.1 hj).1
    omega
  · cases e
    refine ⟨g, 0, rfl, ?_⟩
    have := h.cells (g := g) rfl j u hj
    rwa [Addr.add_lit] at this
theorem lst_n {W : World} {a : Option Addr} {l : List Nat} (h : Lst W a (l.map nV)) {j : Nat} (hj : j < l.length) : ∃ b o, a = some ⟨b, o, none⟩ ∧ W.cell? ⟨b, o + j, none⟩ = some (.int .i64 (l[j] : Nat)) := h j (nV l[j]) (by rw [List.getElem?_map, List.getElem?_eq_getElem hj]; rfl)
theorem lst_b {W : World} {a : Option Addr} {l : List Bool} (h : Lst W a (l.map bV)) {j : Nat} (hj : j < l.length) : ∃ b o, a = some ⟨b, o, none⟩ ∧ W.cell? ⟨b, o + j, none⟩ = some (.bool l[j]) := h j (bV l[j]) (by rw [List.getElem?_map, List.getElem?_eq_getElem hj]; rfl)
theorem lst_i {W : World} {a : Option Addr} {l : List Int} (h : Lst W a (l.map (Value.int .i64))) {j : Nat} (hj : j < l.length) : ∃ b o, a = some ⟨b, o, none⟩ ∧ W.cell? ⟨b, o + j, none⟩ = some (.int .i64 l[j]) := h j (.int .i64 l[j]) (by rw [List.getElem?_map, List.getElem?_eq_getElem hj]; rfl)
theorem lst_new (W : World) (cs : Array Value) (T : TypeId) (xs : List Value) (h : cs.toList = xs) : Lst (W.alloc (.cells cs T)) (some ⟨W.heap.size, 0, none⟩) xs := by
  intro j u hj
  refine ⟨_, 0, rfl, ?_⟩
  rw [Nat.zero_add]
  exact new_cell _ _ _ _ _ (by rw [← hj, ← h, Array.getElem?_toList])

set_option maxRecDepth 100000 in
set_option maxHeartbeats 2000000 in
theorem index_any (l : List Nat) (z : Int) (a : Option Addr) (c : Nat) (w : World) (h : Lst w a (l.map nV)) (hl : l.length ≤ 1000000) : Calls Try.prog 62 #[.slice a l.length c, .int .i64 z] w fun e w' => ∃ r : Int, e = .returned (.int .i64 r) ∧ (0 ≤ r ↔ ∃ k ∈ l, (k : Int) = z) ∧ w' = w := by
  have HH := Hid.mk' h
  clear h
  go_enter Try.func62, Try.ntmps62
  go_wp2_with fail
  go_loop [8] (fun t => ∃ (j : Nat), j ≤ l.length ∧ t = .int .i64 j ∧ ∀ k ∈ l.take j, (k : Int) ≠ z) (fun t => l.length - (intOf t).toNat)
  case atStart => exact ⟨0, Nat.zero_le _, rfl, by simp⟩
  case round =>
    obtain ⟨j, hj, rfl, hn⟩ := hrel
    have HN := Hid.mk' hn
    clear hn
    by_cases hlt : j < l.length
    · obtain ⟨b, o, rfl, c0⟩ := lst_n HH.out hlt
      have hli : (j : Int) < (l.length : Int) := by omega
      have HT := Hid.mk' (List.take_succ_eq_append_getElem hlt)
      have HM : Hid (l[j] ∈ l) := List.getElem_mem hlt
      generalize l[j] = x at *
      cases ev : (z == (x : Int))
      · go_wp2_with fail
        go_round
        case rel => exact ⟨j + 1, by omega, by go_num, by
          intro k hk
          rw [HT.out, List.mem_append, List.mem_singleton] at hk
          rcases hk with hk | rfl
          · exact HN.out k hk
          · intro e; rw [e] at ev; simp at ev⟩
        case measure => simp [intOf]; omega
      · go_wp2_with fail
        go_ret
        exact ⟨_, rfl, ⟨fun _ => ⟨x, HM.out, (beq_iff_eq.1 ev).symm⟩, fun _ => by omega⟩, rfl⟩
    · go_wp2_with fail
      go_ret
      refine ⟨_, rfl, ⟨fun h => by omega, fun ⟨k, hk, e⟩ => ?_⟩, rfl⟩
      exact absurd e (HN.out k (by rw [List.take_of_length_le (by omega)]; exact hk))
theorem contains_any (l : List Nat) (k : Nat) (a : Option Addr) (c : Nat) (w : World) (h : Lst w a (l.map nV)) (hl : l.length ≤ 1000000) : Calls Try.prog 52 #[.slice a l.length c, .int .i64 (k : Int)] w fun e w' => e = .returned (.bool (decide (k ∈ l))) ∧ w' = w := by
  have HI := Hid.mk' (index_any l k a c w h hl)
  have HE : Hid ((∃ x ∈ l, (x : Int) = (k : Int)) ↔ k ∈ l) := by
    constructor
    · rintro ⟨x, hx, e⟩
      obtain rfl : x = k := by omega
      exact hx
    · exact fun h => ⟨k, h, rfl⟩
  clear h
  go_enter Try.func52, Try.ntmps52
  go_wp2_with (go_at_call 62; refine HI.out.mono ?_; rintro e w1 ⟨r, rfl, hr0, rfl⟩; have HR := Hid.mk' hr0; clear hr0)
  go_ret
  refine ⟨ret_bool ?_, rfl⟩
  have hr := HR.out
  rw [HE.out] at hr
  exact decide_eq_decide.2 hr

theorem done_eq {α : Type} {xs ys : List α} {j : Nat} (hl : xs.length = ys.length) (h : xs.take j = ys.take j) (hj : ¬ j < xs.length) : xs = ys := by
  rw [List.take_of_length_le (by omega), List.take_of_length_le (by omega)] at h
  exact h
theorem next_eq {α : Type} {xs ys : List α} {j : Nat} (h : xs.take j = ys.take j) (h1 : j < xs.length) (h2 : j < ys.length) (e : xs[j] = ys[j]) : xs.take (j + 1) = ys.take (j + 1) := by
  rw [List.take_succ_eq_append_getElem h1, List.take_succ_eq_append_getElem h2, h, e]
theorem part_ne {α : Type} {xs ys : List α} {j : Nat} (h1 : j < xs.length) (h2 : j < ys.length) (e : xs[j] ≠ ys[j]) : xs ≠ ys := fun h => e (by subst h; rfl)
set_option maxRecDepth 100000 in
set_option maxHeartbeats 2000000 in
theorem sameInts_any (xs ys : List Nat) (a a' : Option Addr) (c c' : Nat) (w : World) (h : Lst w a (xs.map nV)) (h' : Lst w a' (ys.map nV)) (hl : xs.length ≤ 1000000) : Calls Try.prog 11 #[.slice a xs.length c, .slice a' ys.length c'] w fun e w' => e = .returned (.bool (decide (xs = ys))) ∧ Below w.heap.size w w' := by
  have HH := Hid.mk' h
  have HH' := Hid.mk' h'
  have hb0 := Below.refl w.heap.size w
  clear h h'
  by_cases hll : xs.length = ys.length
  · have HL := Hid.mk' hll
    have hq : ((xs.length : Int) != (ys.length : Int)) = false := bne_no (by omega)
    clear hll
    go_enter Try.func11, Try.ntmps11
    go_wp2_with fail
    go_loopw [5] (fun t wr => ∃ (j : Nat), j ≤ xs.length ∧ t = .int .i64 j ∧ xs.take j = ys.take j ∧ Below w.heap.size w wr) (fun t _ => xs.length - (intOf t).toNat)
    case atStart => exact ⟨0, Nat.zero_le _, rfl, by simp, hb0⟩
    case round =>
      obtain ⟨j, hj, rfl, hn, hb⟩ := hrel
      have HN := Hid.mk' hn
      clear hn
      by_cases hlt : j < xs.length
      · have hlt' : j < ys.length := by have := HL.out; omega
        obtain ⟨b, o, rfl, c0⟩ := lst_n (HH.out.stay hb) hlt
        obtain ⟨b', o', rfl, c0'⟩ := lst_n (HH'.out.stay hb) hlt'
        have hli : (j : Int) < (xs.length : Int) := by omega
        have hli' : (j : Int) < (ys.length : Int) := by omega
        have HE := Hid.mk' (next_eq HN.out hlt hlt')
        have HP := Hid.mk' (part_ne hlt hlt')
        generalize xs[j] = x at *
        generalize ys[j] = y at *
        clear hlt'
        by_cases e : x = y
        · have hq2 : ((x : Int) != (y : Int)) = false := bne_no (by omega)
          have HE2 := Hid.mk' (HE.out e)
          clear e HE HP
          go_upto_region 6 with fail
          go_region
          go_wp2_with fail
          go_roundw
          case rel => exact ⟨j + 1, by omega, by go_num, HE2.out, hb.drewN _⟩
          case measure => simp [intOf]; omega
        · have hq2 : ((x : Int) != (y : Int)) = true := bne_of (by omega)
          have HE2 := Hid.mk' (HP.out e)
          clear e HE HP
          go_upto_region 6 with fail
          go_region
          go_wp2_with fail
          go_ret
          exact ⟨ret_bool (by rw [decide_eq_false HE2.out]), hb.drewN _⟩
      · go_wp2_with fail
        go_ret
        exact ⟨ret_bool (by rw [decide_eq_true (done_eq HL.out HN.out hlt)]), hb⟩
  · have hq : ((xs.length : Int) != (ys.length : Int)) = true := bne_of (by omega)
    have HE2 : Hid (¬ xs = ys) := fun e => hll (by rw [e])
    clear hll
    go_enter Try.func11, Try.ntmps11
    go_wp2_with fail
    go_ret
    exact ⟨ret_bool (by rw [decide_eq_false HE2.out]), hb0⟩
end Go.Proofs.Ytdnilonfgbinaaa
