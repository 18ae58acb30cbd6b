/- A strings.Builder in a block of its own: WriteString, String. -/
import Derived.Test.YtboidkmnkicoeaaGreatDoorKb
import Derived.Lib.Builder
import Derived.Lib.AppendStr
import Derived.Lib.OthersKept
import Derived.Shelf.Strings.Builder1
namespace Go.Proofs.YtboidkmnkicoeaaGreatDoor
open Go.RowKit

/-- Block b is a Builder: what its addr holds, its bytes as cells. Its rows lie from block B on. -/
def PgAt (B b : Nat) (p : Value) (bs : List Value) (w : World) : Prop :=
  B ≤ b ∧ ∃ v, w.heap[b]? = some (.cells #[p, v] 100 (0, 0)) ∧ w.ownsRow B 5 1 v bs.length bs ∧ v.ownBlock ≠ some b ∧ (bs = [] → v = .slice none 0 0)
def Pg (B b : Nat) (bs : List Value) (w : World) : Prop := PgAt B b (.pointer none) bs w ∨ PgAt B b (.pointer (some ⟨b, 0, none⟩)) bs w

theorem PgAt.cell0 {B b : Nat} {p : Value} {bs : List Value} {w : World} (h : PgAt B b p bs w) : w.cell? ⟨b, 0, none⟩ = some p := by
  obtain ⟨_, v, hb, _⟩ := h
  simp [World.cell?, hb]
theorem PgAt.frozen {B b : Nat} {p : Value} {bs : List Value} {w : World} (h : PgAt B b p bs w) (j : Nat) : w.frozen? ⟨b, j, none⟩ = false := by
  obtain ⟨_, v, hb, _⟩ := h
  simp [World.frozen?, hb]
theorem PgAt.shape {B b : Nat} {p : Value} {bs : List Value} {w : World} (h : PgAt B b p bs w) : w.shape? b = some (100, 2) := by
  obtain ⟨_, v, hb, _⟩ := h
  simp [World.shape?, hb]
theorem PgAt.lt {B b : Nat} {p : Value} {bs : List Value} {w : World} (h : PgAt B b p bs w) : b < w.heap.size := by
  obtain ⟨_, v, hb, _⟩ := h
  exact (Array.getElem?_eq_some_iff.1 hb).1
theorem grownBy_set (w : World) (b j : Nat) (v : Value) : w.grownBy (w.setCell ⟨b, j, none⟩ v) (some b) :=
  ⟨rfl, rfl, rfl, by simp [World.setCell], fun k _ hk => Below.heap_setCell _ _ _ _ (fun e => hk (by simp [e]))⟩
theorem PgAt.used {B b : Nat} {p : Value} {bs : List Value} {w : World} (h : PgAt B b p bs w) (q : Value) : PgAt B b q bs (w.setCell ⟨b, 0, none⟩ q) := by
  obtain ⟨hB, v, hb, hown, hne, hnil⟩ := h
  refine ⟨hB, v, ?_, hown.kept (grownBy_set w b 0 q) (Or.inr hne), hne, hnil⟩
  simp [World.setCell, Array.getElem?_modify, hb]
theorem PgAt.put {B b : Nat} {p v v' : Value} {bs : List Value} {w : World} (hB : B ≤ b) (hb : w.heap[b]? = some (.cells #[p, v] 100 (0, 0))) (hown : w.ownsRow B 5 1 v' bs.length bs) (hnil : bs = [] → v' = .slice none 0 0) : PgAt B b p bs (w.setCell ⟨b, 1, none⟩ v') := by
  have hne : v'.ownBlock ≠ some b := by
    intro e
    rcases hown.2 with ⟨rfl, _⟩ | ⟨g, cap, cur, rfl, _, hg, _⟩
    · simp [Value.ownBlock] at e
    · simp [Value.ownBlock] at e
      subst e
      rw [hb] at hg; cases hg
  refine ⟨hB, v', ?_, hown.kept (grownBy_set w b 1 _) (Or.inr hne), hne, hnil⟩
  simp [World.setCell, Array.getElem?_modify, hb]
theorem Pg.some {B b : Nat} {bs : List Value} {w : World} (h : Pg B b bs w) : ∃ p, PgAt B b p bs w := by
  rcases h with h | h
  · exact ⟨_, h⟩
  · exact ⟨_, h⟩
theorem PgAt.slice {B b : Nat} {p : Value} {bs : List Value} {w : World} (h : PgAt B b p bs w) : ∃ ao cap, w.heap[b]? = Option.some (.cells #[p, .slice ao bs.length cap] 100 (0, 0)) ∧ w.ownsRow B 5 1 (.slice ao bs.length cap) bs.length bs ∧ (Value.slice ao bs.length cap).ownBlock ≠ Option.some b ∧ (bs = [] → Value.slice ao bs.length cap = .slice none 0 0) := by
  obtain ⟨_, v, hb, hown, hne, hnil⟩ := h
  have hown' := hown
  rcases hown.2 with ⟨rfl, h0⟩ | ⟨g, cap, cur, rfl, _⟩
  · rw [h0] at hown ⊢; exact ⟨none, 0, hb, by rw [h0] at hown'; exact hown', hne, fun _ => rfl⟩
  · exact ⟨_, _, hb, hown', hne, hnil⟩
/-- It stays where nothing older has turned. -/
theorem PgAt.stay {B b : Nat} {p : Value} {bs : List Value} {w w' : World} (h : PgAt B b p bs w) (hb : Below w.heap.size w w') : PgAt B b p bs w' := by
  have hlt := h.lt
  obtain ⟨hB, v, hbk, hown, hne, hnil⟩ := h
  refine ⟨hB, v, (hb.block b hlt).trans hbk, ⟨hown.1, ?_⟩, hne, hnil⟩
  rcases hown.2 with h0 | ⟨g, cap, cur, e, hg1, hg, r⟩
  · exact .inl h0
  · exact .inr ⟨g, cap, cur, e, hg1, (hb.block g (Array.getElem?_eq_some_iff.1 hg).1).trans hg, r⟩
theorem Pg.stay {B b : Nat} {bs : List Value} {w w' : World} (h : Pg B b bs w) (hb : Below w.heap.size w w') : Pg B b bs w' := by
  rcases h with h | h
  · exact .inl (h.stay hb)
  · exact .inr (h.stay hb)
/-- What its writers leave as it was. -/
abbrev Oth (b : Nat) (w w' : World) : Prop := Lib.OthersKept 5 (some b) w w'
theorem oth_below {b : Nat} {w w' : World} (hb : Below w.heap.size w w') : Oth b w w' := fun k _ hk _ _ => (hb.block k (Array.getElem?_eq_some_iff.1 hk).1).trans hk

theorem Tryz.sizeB : (Tryz.prog.info? 100).map (·.size) = some 2 := by kernel_rfl
theorem Tryz.liesB : liesAt Tryz.prog Tryz.prog.depth 100 (2 / Tryz.prog.cellsOf 100) 0 100 1 = true := by kernel_rfl

set_option maxHeartbeats 1000000 in
set_option maxRecDepth 100000 in
theorem copyCheck_used (b : Nat) (w : World) (h0 : w.cell? ⟨b, 0, none⟩ = some (.pointer (some ⟨b, 0, none⟩))) :
    Calls Tryz.prog 69 #[.pointer (some ⟨b, 0, none⟩)] w fun e w' => e = .returned (.tuple #[]) ∧ w' = w := by
  obtain ⟨j, hj, _⟩ := Option.map_eq_some_iff.1 Tryz.sizeB
  go_enter Tryz.func69, Tryz.ntmps69
  go_wp2
  rw [Lib.run_neq_ptr_same w _ Tryz.underlying97 hj]
  go_wp2
  go_end0
  exact ⟨rfl, rfl⟩

set_option maxHeartbeats 1000000 in
set_option maxRecDepth 100000 in
theorem copyCheck_fresh (b : Nat) (w : World) (h0 : w.cell? ⟨b, 0, none⟩ = some (.pointer none)) (hsh : w.shape? b = some (100, 2)) (hfz : w.frozen? ⟨b, 0, none⟩ = false) :
    Calls Tryz.prog 69 #[.pointer (some ⟨b, 0, none⟩)] w fun e w' => e = .returned (.tuple #[]) ∧ w' = w.setCell ⟨b, 0, none⟩ (.pointer (some ⟨b, 0, none⟩)) := by
  obtain ⟨j, hj, hjs⟩ := Option.map_eq_some_iff.1 Tryz.sizeB
  go_enter Tryz.func69, Tryz.ntmps69
  go_wp2
  rw [Lib.run_to_unsafe w ⟨b, 0, none⟩ Tryz.underlying97 Tryz.underlying135 hj (by rw [hjs]; decide) hsh (Nat.zero_lt_succ 1)]
  simp only [Result.andThen]
  rw [Oper.upon_value]
  go_wp2
  rw [run_callFunc_extern Tryz.func85 (by kernel_rfl) (by kernel_rfl) (by kernel_rfl) (e := Extern.AbiNoEscape.same) (by kernel_rfl)]
  rw [Lib.run_noEscape]
  simp only [Result.andThen]
  rw [Oper.upon_value]
  go_wp2
  rw [Lib.run_from_unsafe w ⟨b, 0, none⟩ Tryz.underlying135 Tryz.underlying97 hj hsh Tryz.liesB]
  simp only [Result.andThen]
  rw [Oper.upon_value]
  go_wp2
  go_end0
  exact ⟨rfl, rfl⟩

theorem copyCheck_any (B b : Nat) (bs : List Value) (w : World) (h : Pg B b bs w) :
    Calls Tryz.prog 69 #[.pointer (some ⟨b, 0, none⟩)] w fun e w' => e = .returned (.tuple #[]) ∧ PgAt B b (.pointer (some ⟨b, 0, none⟩)) bs w' ∧ Below B w w' ∧ Oth b w w' := by
  rcases h with h | h
  · refine (copyCheck_fresh b w h.cell0 h.shape (h.frozen 0)).mono ?_
    rintro e w' ⟨rfl, rfl⟩
    exact ⟨rfl, h.used _, (Below.refl B w).setCell (p := ⟨b, 0, none⟩) h.1 _, (Lib.OthersKept.refl _ (some b) w).setCell ⟨b, 0, none⟩ rfl _⟩
  · refine (copyCheck_used b w h.cell0).mono ?_
    rintro e w' ⟨rfl, rfl⟩
    exact ⟨rfl, h, Below.refl B _, Lib.OthersKept.refl _ _ _⟩

theorem row_of {w : World} {B : Nat} {v : Value} {n : Nat} {xs : List Value} (h : w.ownsRow B 5 1 v n xs) : ∀ g, v.ownBlock = some g → ∃ c fz, w.heap[g]? = some (.cells c 5 fz) := by
  intro g e
  rcases h.2 with ⟨rfl, _⟩ | ⟨g', cap, cur, rfl, _, hg, _⟩
  · simp [Value.ownBlock] at e
  · simp [Value.ownBlock] at e
    subst e
    exact ⟨_, _, hg⟩

theorem Tryz.infoByte : (Tryz.prog.info? 5).map (fun i => (i.zero, i.size, i.bytes)) = some (some (.int .u8 0), 1, 1) := by kernel_rfl

set_option maxHeartbeats 2000000 in
set_option maxRecDepth 100000 in
theorem writeString_any (B b : Nat) (bs : List Value) (s : ByteArray) (w : World) (h : Pg B b bs w) (hlen : bs.length + s.size ≤ 140737488355328) (hBw : B ≤ w.heap.size) :
    Calls Tryz.prog 49 #[.pointer (some ⟨b, 0, none⟩), .string s] w fun e w' => e = .returned (.tuple #[.int .i64 s.size, .nilIface]) ∧ Pg B b (bs ++ Lib.strCells s) w' ∧ Below B w w' ∧ Oth b w w' := by
  obtain ⟨i0, hi, hz0, hz1, hz2⟩ := info_parts Tryz.infoByte
  have HK : Hid (Calls Tryz.prog 69 #[.pointer (some ⟨b, 0, none⟩)] w fun e w' => e = .returned (.tuple #[]) ∧ PgAt B b (.pointer (some ⟨b, 0, none⟩)) bs w' ∧ Below B w w' ∧ Oth b w w') := copyCheck_any B b bs w h
  clear h
  go_enter Tryz.func49, Tryz.ntmps49
  go_wp2_with fail
  refine HK.out.mono ?_
  rintro e w1 ⟨rfl, h1, hb1, ho1⟩
  have hlt := h1.lt
  have hB := h1.1
  obtain ⟨ao, cap, hbk, hown, hne, hnil⟩ := h1.slice
  have HNIL : Hid (bs = [] → Value.slice ao bs.length cap = .slice none 0 0) := hnil
  clear hnil
  have c0 : w1.cell? ⟨b, 0, none⟩ = some (.pointer (some ⟨b, 0, none⟩)) := by rw [Lib.cell_of_heap hbk]; rfl
  have c1 : w1.cell? ⟨b, 1, none⟩ = some (.slice ao bs.length cap) := by rw [Lib.cell_of_heap hbk]; rfl
  go_wp2_with (at_builtin; refine Lib.wpList_append_own_string _ rfl _ _ 98 9 rfl B 5 i0 Tryz.underlying98 Tryz.underlying9 hi hz0 hz1 hz2 _ _ _ rfl hown s rfl ?c3 ?c4 ?c5 ?_)
  case c3 => unfold maxLen; omega
  case c4 => omega
  case c5 => have := hb1.size; omega
  intro v' w2 hown' hgrow hv
  have HV : Hid (v' = .slice none 0 0 ↔ (ao = none ∧ bs = [] ∧ cap = 0) ∧ s = ByteArray.empty) := hv
  clear hv
  have hb2 : w2.heap[b]? = some (.cells #[.pointer (some ⟨b, 0, none⟩), .slice ao bs.length cap] 100 (0, 0)) := by
    rw [hgrow.block b hlt (fun e => hne e.symm)]
    exact hbk
  have d0 : w2.cell? ⟨b, 0, none⟩ = some (.pointer (some ⟨b, 0, none⟩)) := by rw [Lib.cell_of_heap hb2]; rfl
  have d1 : w2.cell? ⟨b, 1, none⟩ = some (.slice ao bs.length cap) := by rw [Lib.cell_of_heap hb2]; rfl
  have f1 : w2.frozen? ⟨b, 1, none⟩ = false := Lib.frozen_of_heap hb2 1
  obtain ⟨ao', n', cap', rfl⟩ : ∃ ao n' cap, v' = .slice ao n' cap := by
    rcases hown'.2 with ⟨hv, _⟩ | ⟨g, cap, cur, hv, _⟩
    · exact ⟨_, _, _, hv⟩
    · exact ⟨_, _, _, hv⟩
  go_wp2
  go_ret2
  refine ⟨rfl, ?_, ?_, ?_⟩
  · exact .inr (PgAt.put (bs := bs ++ Lib.strCells s) hB hb2 (by simpa [Lib.strCells_length] using hown') (fun h => by
      have h' := List.append_eq_nil_iff.1 h
      have hn := HNIL.out h'.1
      injection hn with q1 q2 q3
      refine HV.out.2 ⟨⟨q1, h'.1, q3⟩, ?_⟩
      have hz := congrArg List.length h'.2
      rw [Lib.strCells_length] at hz
      apply ByteArray.ext; apply Array.eq_empty_of_size_eq_zero; exact hz))
  · exact (hb1.grown hgrow (by have := hb1.size; omega) (fun k hk => (hown.lt k hk).1)).setCell (p := ⟨b, 1, none⟩) hB _
  · exact (ho1.grown hgrow (row_of hown)).setCell _ rfl _

theorem Tryz.cellsByte : Tryz.prog.cellsOf 5 = 1 := by kernel_rfl
set_option maxHeartbeats 2000000 in
set_option maxRecDepth 100000 in
theorem string_any (B b : Nat) (l : List UInt8) (w : World) (h : Pg B b (Lib.byteCells l) w) :
    Calls Tryz.prog 53 #[.pointer (some ⟨b, 0, none⟩)] w fun e w' => e = .returned (.string ⟨l.toArray⟩) ∧ Below B w w' := by
  obtain ⟨p, h1⟩ := h.some
  clear h
  obtain ⟨hB, v, hbk, hown, hne, hnil⟩ := h1
  rw [Lib.byteCells_length] at hown
  by_cases h0 : l = []
  · subst h0
    obtain rfl := hnil rfl
    have c1 : w.drew.cell? ⟨b, 1, none⟩ = some (.slice none 0 0) := by
      have : w.drew.heap[b]? = some (.cells #[p, .slice none 0 0] 100 (0, 0)) := hbk
      rw [Lib.cell_of_heap this]; rfl
    have hSD : (Builtin.unsafeSliceData_ #[98] 113 #[.slice none 0 0]).run Tryz.prog w.drew = .ok (.pointer none) w.drew := rfl
    have hUS : (Builtin.unsafeString_ #[113, 3] 9 #[.pointer none, .int .i64 0]).run Tryz.prog w.drew = .ok (.string .empty) w.drew := rfl
    clear hown hbk hne hnil
    go_enter Tryz.func53, Tryz.ntmps53
    go_wp2
    go_region
    all_goals (go_wp2; go_ret; exact ⟨rfl, Below.drew (Below.refl B w)⟩)
  · have hl0 : l.length ≠ 0 := by simpa using h0
    obtain ⟨g, cap, cur, rfl, hbg, hg, hnc, hcm, hcs, htake⟩ : ∃ g cap cur, v = .slice (some ⟨g, 0, none⟩) l.length cap ∧ B ≤ g ∧ w.heap[g]? = some (.cells cur 5 (0, 0)) ∧ l.length ≤ cap ∧ cap ≤ maxLen ∧ cur.size = cap * 1 ∧ cur.toList.take (l.length * 1) = Lib.byteCells l := by
      rcases hown.2 with ⟨_, hz⟩ | ⟨g, cap, cur, hv, r⟩
      · exact absurd hz hl0
      · exact ⟨g, cap, cur, hv, r⟩
    have c1 : w.drew.cell? ⟨b, 1, none⟩ = some (.slice (some ⟨g, 0, none⟩) l.length cap) := by
      have : w.drew.heap[b]? = some (.cells #[p, .slice (some ⟨g, 0, none⟩) l.length cap] 100 (0, 0)) := hbk
      rw [Lib.cell_of_heap this]; rfl
    have hSD : (Builtin.unsafeSliceData_ #[98] 113 #[.slice (some ⟨g, 0, none⟩) l.length cap]).run Tryz.prog w.drew = .ok (.pointer (some ⟨g, 0, none⟩)) w.drew :=
      Lib.run_unsafeSliceData_row _ _ _ _ _ _ (by omega)
    have hUS : (Builtin.unsafeString_ #[113, 3] 9 #[.pointer (some ⟨g, 0, none⟩), .int .i64 l.length]).run Tryz.prog w.drew = .ok (.string ⟨l.toArray⟩) (w.drew.freeze ⟨g, 0, none⟩ l.length) := by
      refine Lib.run_unsafeString_row w.drew 113 3 9 5 Tryz.underlying113 Tryz.cellsByte g cur.size (by have hg' : w.drew.heap[g]? = some (.cells cur 5 (0, 0)) := hg; simp [World.shape?, hg']) l h0 (by omega) (by unfold maxLen at hcm; omega) ?_
      intro j x hx
      exact hown.cells (g := g) rfl j (.int .u8 x.toNat) (by simp [Lib.byteCells, hx])
    clear hown hbk hne hnil hg htake
    go_enter Tryz.func53, Tryz.ntmps53
    go_wp2
    go_region
    all_goals (go_wp2; go_ret; exact ⟨rfl, Lib.below_freeze (Below.drew (Below.refl B w)) (p := ⟨g, 0, none⟩) hbg _⟩)
end Go.Proofs.YtboidkmnkicoeaaGreatDoor

/- asm.textOf: a module's text. -/
namespace Go.Proofs.YtboidkmnkicoeaaGreatDoor
open Go.RowKit Go.Sort

abbrev PgT (B b : Nat) (l : Bt) (w : World) : Prop := Pg B b (Lib.byteCells l) w
theorem write_any (B b : Nat) (l t : Bt) (w : World) (h : PgT B b l w) (hlen : (l ++ t).length ≤ 140737488355328) (hBw : B ≤ w.heap.size) :
    Calls Tryz.prog 49 #[.pointer (some ⟨b, 0, none⟩), .string (tb t)] w fun e w' => e = .returned (.tuple #[.int .i64 (tb t).size, .nilIface]) ∧ PgT B b (l ++ t) w' ∧ Below B w w' ∧ Oth b w w' := by
  have := writeString_any B b (Lib.byteCells l) (tb t) w h (by rw [Lib.byteCells_length, tb_size]; rw [List.length_append] at hlen; exact hlen) hBw
  rwa [Lib.strCells_eq, tb_list, ← Lib.byteCells_append] at this
/-- In a world behind one in which the Builder lies. -/
theorem write_in {B b : Nat} {l : Bt} {t : Bt} {W0 W : World} (h : PgT B b l W0) (hb : Below W0.heap.size W0 W) (hB : B ≤ W0.heap.size) (hlen : (l ++ t).length ≤ 140737488355328) :
    Calls Tryz.prog 49 #[.pointer (some ⟨b, 0, none⟩), .string (tb t)] W fun e w' => e = .returned (.tuple #[.int .i64 (tb t).size, .nilIface]) ∧ Hid (PgT B b (l ++ t) w') ∧ Hid (Below B W0 w') ∧ Oth b W0 w' :=
  (write_any B b l t W (h.stay hb) hlen (by have := hb.size; omega)).mono fun _ _ ⟨he, hp, hb', ho⟩ => ⟨he, hp, (hb.mono hB).trans hb', (oth_below hb).trans ho⟩
theorem oth_cell {b k j : Nat} {W W' : World} {cs : Array Value} {T : TypeId} {fz : Nat × Nat} {v : Value} (h : W.heap[k]? = some (.cells cs T fz)) (hT : T ≠ 5) (hk : k ≠ b) (ho : Oth b W W') (hj : cs[j]? = some v) : W'.cell? ⟨k, j, none⟩ = some v :=
  cell_of_obj (ho k _ h (by simpa using hk) (fun c fz' e => hT (by cases e; rfl))) hj
/-- What is asked of a module that is to be written. -/
def PrF (f : Fn) : Prop := f.name.size ≤ 16 ∧ f.params.length ≤ 8 ∧ f.code.length ≤ 1024 ∧ ∀ x ∈ f.code, 0 ≤ x.op ∧ x.op ≤ 19
def PrOk (m : Mo) : Prop := m.ths.length ≤ 16 ∧ m.funcs.length ≤ 32 ∧ ∀ f ∈ m.funcs, PrF f
theorem line_len (b : Bt) (ns : List Int) (h : ∀ n ∈ ns, I64 n) : (lineT b ns).length ≤ b.length + ns.length * 22 + 1 := by
  have := flat_le h
  unfold lineT; simp only [List.length_append, List.length_cons, List.length_nil]; omega
theorem insL_len (x : Is) : (insL x).length ≤ 4 := by
  unfold insL
  rw [List.length_map]
  unfold hasL
  split <;> split <;> split <;> split <;> simp
theorem insL_ok {x : Is} (h : x.Ok) : ∀ n ∈ insL x, I64 n := by
  intro n hn
  unfold insL at hn
  obtain ⟨q, _, rfl⟩ := List.mem_map.1 hn
  obtain ⟨h0, h1, h2, h3, h4⟩ := h
  match q with
  | 0 => exact h1
  | 1 => exact h2
  | 2 => exact h3
  | q + 3 => exact h4
theorem word_len (op : Int) : (rwOf op).word.data.toList.length ≤ 6 := by
  by_cases h : 0 ≤ op ∧ op ≤ 19
  · refine op_cases (P := fun op => (rwOf op).word.data.toList.length ≤ 6) h.1 h.2 ?_ ?_ ?_ ?_ ?_ ?_ ?_ ?_ ?_ ?_ ?_ ?_ ?_ ?_ ?_ ?_ ?_ ?_ ?_ ?_ <;> decide
  · rw [rwOf_no h]; decide
theorem insT_len {x : Is} (h : x.Ok) : (insT x).length ≤ 95 := by
  have := line_len (rwOf x.op).word.data.toList (insL x) (insL_ok h)
  have := word_len x.op
  have := insL_len x
  unfold insT; omega
theorem flat_bd {α : Type} {g : α → Bt} {k : Nat} : ∀ {l : List α}, (∀ x ∈ l, (g x).length ≤ k) → (l.flatMap g).length ≤ l.length * k
  | [], _ => by simp
  | x :: r, h => by
    have h1 := h x (by simp)
    have h2 := flat_bd (l := r) (fun y hy => h y (by simp [hy]))
    rw [List.flatMap_cons, List.length_append, List.length_cons, Nat.add_mul]; omega
theorem hdN_ok {f : Fn} {w : World} (h : f.In w) : ∀ n ∈ hdN f, I64 n := by
  intro n hn
  unfold hdN at hn
  simp only [List.mem_cons, List.mem_flatMap] at hn
  rcases hn with rfl | rfl | ⟨s, hs, hn⟩
  · exact h.2.1
  · exact h.2.2.1
  · have := h.2.2.2.2.1 s hs
    rcases hn with rfl | rfl | hn
    · exact this.1
    · exact this.2
    · simp at hn
theorem hdN_len {f : Fn} (h : f.params.length ≤ 8) : (hdN f).length ≤ 18 := by
  rw [← hdU_all f, hdU_len f (Nat.le_refl _)]; omega
theorem fnT_len {f : Fn} {w : World} (h : f.In w) (hp : PrF f) : (fnT f).length ≤ 98000 := by
  have h1 := line_len (funcB ++ 32 :: f.name.data.toList) (hdN f) (hdN_ok h)
  have h2 := flat_bd (g := insT) (k := 95) (l := f.code) (fun x hx => insT_len (h.2.2.2.2.2.2 x hx))
  have h3 := hdN_len hp.2.1
  have h4 := hp.1
  have h5 := hp.2.2.1
  have h6 : (funcB ++ 32 :: f.name.data.toList).length ≤ 21 := by rw [List.length_append, List.length_cons, ba_len]; simp [funcB]; omega
  unfold fnT; rw [List.length_append]; omega
theorem moT_len {m : Mo} {w : World} (h : m.In w) (hp : PrOk m) : (moT m).length ≤ 4000000 := by
  have h1 := line_len widenB m.ths h.2.1
  have h2 := flat_bd (g := fnT) (k := 98000) (l := m.funcs) (fun f hf => fnT_len (h.2.2.2 f hf) (hp.2.2 f hf))
  have h3 := hp.1
  have h4 := hp.2.1
  have h6 : widenB.length = 5 := rfl
  unfold moT; rw [List.length_append]; omega
theorem fns_take {α : Type} {g : α → Bt} {l : List α} {j : Nat} (h : j < l.length) : (l.take (j + 1)).flatMap g = (l.take j).flatMap g ++ g l[j] := by
  rw [List.take_add_one, List.getElem?_eq_getElem h]
  show (l.take j ++ [l[j]]).flatMap g = _
  rw [List.flatMap_append]; simp
theorem take_le {α : Type} {g : α → Bt} {l : List α} (j : Nat) : ((l.take j).flatMap g).length ≤ (l.flatMap g).length := by
  have : l.flatMap g = (l.take j).flatMap g ++ (l.drop j).flatMap g := by rw [← List.flatMap_append, List.take_append_drop]
  rw [this, List.length_append]; omega
end Go.Proofs.YtboidkmnkicoeaaGreatDoor
