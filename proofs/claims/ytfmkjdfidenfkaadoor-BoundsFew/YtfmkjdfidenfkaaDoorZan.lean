/- Bounds: registers made and copied. Bounds: a copy of registers. Bounds, plain: an instruction passed; what May's yes says of its fields. -/
import Derived.Test.YtfmkjdfidenfkaaDoorUi
import Derived.Laws.CopyRow
import Derived.Deep.WholeRow
namespace Go.Proofs.YtfmkjdfidenfkaaDoor
open Go.RowKit
open S8 (meetB meetS joinS widS belA belB belC allS doR doB doS emB sv)

theorem zero_rep (n : Nat) : (List.replicate n ((0, 0) : Sp)).flatMap spC = List.replicate (n * 2) (.int .i64 0) := by
  induction n with
  | zero => rfl
  | succ n ih => rw [List.replicate_succ, List.flatMap_cons, ih, show (n + 1) * 2 = n * 2 + 1 + 1 by omega, List.replicate_succ, List.replicate_succ]; rfl
theorem made_two (x : Value) (n : Nat) : (madeCells #[x, x] n).toList = List.replicate n x := by
  apply List.ext_getElem?
  intro j
  by_cases hj : j < n
  · have : j % 2 = 0 ∨ j % 2 = 1 := by omega
    rcases this with h | h <;> simp [madeCells, hj, h]
  · simp [madeCells, hj]
theorem Tryd.infoSp : (Tryd.prog.info? 54).map (fun i => (i.zero, i.size, i.bytes)) = some (some (.agg #[.int .i64 0, .int .i64 0]), 2, 16) := by kernel_rfl
/-- Zero spans. -/
def zS (n : Nat) : List Sp := List.replicate n (0, 0)
theorem run_mkS (t : TypeId) (ht : Tryd.prog.underlying t = some (.slice 54)) (W : World) (n : Nat) (hn : n ≤ 1000000) : (Instr.makeSlice t (.int .i64 (n : Int)) (.int .i64 (n : Int))).run Tryd.prog W = .ok (.slice (some ⟨W.heap.size, 0, none⟩) n n) (W.alloc (.cells ((zS n).flatMap spC).toArray 54)) := by
  obtain ⟨i0, hi, hz0, hz1, hz2⟩ := info_parts Tryd.infoSp
  have := run_make (P := Tryd.prog) W t 54 i0 (.agg #[.int .i64 0, .int .i64 0]) ht hi hz0 .i64 .i64 n n (by omega) (Int.le_refl _) (by rw [hz2]; omega) (by omega)
  rw [hz1, Int.toNat_natCast] at this
  have e : madeCells (Value.agg #[.int .i64 0, .int .i64 0]).cells (n * 2) = ((zS n).flatMap spC).toArray := by
    apply Array.toList_inj.1
    rw [show (Value.agg #[.int .i64 0, .int .i64 0]).cells = #[.int .i64 0, .int .i64 0] from rfl, made_two, zS, zero_rep]
  rw [e] at this
  exact this
theorem zS_new (W : World) (n : Nat) : RgB (W.alloc (.cells ((zS n).flatMap spC).toArray 54)) W.heap.size (zS n) := heap_alloc_new _ _
theorem zS_len (n : Nat) : (zS n).length = n := by simp [zS]

/-- A copy over elements of two cells. -/
theorem run_copy_two {P : Program} (w : World) (dT sT ty elem : TypeId) (g dLen dCap : Nat) (a : Addr) (sLen sCap : Nat) (cur : Array Value) (t : TypeId) (cs : List Value)
    (hu : P.underlying dT = some (.slice elem)) (hs : (P.info? elem).map (·.size) = some 2)
    (hg : w.heap[g]? = some (.cells cur t (0, 0))) (hn : cs.length = Nat.min sLen dLen * 2)
    (hsrc : ∀ j v, cs[j]? = some v → w.cell? (a.add j) = some v) (hfit : cs.length ≤ cur.size) (h1 : ∀ v ∈ cs, v.oneCell' = true) :
    (Builtin.copy_ #[dT, sT] ty #[.slice (some ⟨g, 0, none⟩) dLen dCap, .slice (some a) sLen sCap]).run P w =
      .ok (goInt (Nat.min sLen dLen)) (w.setRow g (cs ++ cur.toList.drop cs.length).toArray) := by
  have hl := run_loadCells_list (P := P) w a cs hsrc
  have hst := run_storeCells_at P g 0 t cs 0 cur w hg (by simpa using hfit) h1
  simp only [Nat.add_zero, Nat.zero_add, List.take_zero, List.nil_append] at hst
  cases hq : P.info? elem with
  | none => simp [hq] at hs
  | some i =>
    have hi : i.size = 2 := by simpa [hq] using hs
    simp [Builtin.copy_, run_underlying hu, Builtin.lenOf, Builtin.firstCells, sizeOf, typeInfo, hq, hi, ← hn, hl, hst]
end Go.Proofs.YtfmkjdfidenfkaaDoor
namespace Go.Proofs.YtfmkjdfidenfkaaDoor
open Go.RowKit
open S8 (meetB meetS joinS widS belA belB belC allS doR doB doS emB sv)

def CpR (l : List Sp) (w : World) (e : Ending) (w' : World) : Prop := ∃ G : Nat, e = .returned (.slice (some ⟨G, 0, none⟩) l.length l.length) ∧ w.heap.size ≤ G ∧ RgB w' G l ∧ Below w.heap.size w w'
theorem sps_cells {W : World} {a : Option Addr} {l : List Sp} (h : Sps W a l) (h0 : 0 < l.length) : ∃ b o, a = some ⟨b, o, none⟩ ∧ ∀ j v, (l.flatMap spC)[j]? = some v → W.cell? ⟨b, o + j, none⟩ = some v := by
  obtain ⟨b, o, e, _⟩ := sps_at h h0
  refine ⟨b, o, e, fun j v hj => ?_⟩
  have hjl : j < (l.flatMap spC).length := (List.getElem?_eq_some_iff.1 hj).1
  rw [spc_len] at hjl
  have hi : j / 2 < l.length := by omega
  obtain ⟨b', o', e', h1, h2⟩ := sps_at h hi
  rw [e] at e'
  injection e' with e'
  injection e' with e1 e2 _
  subst e1 e2
  obtain ⟨c0, c1⟩ := spc_at l (j / 2) hi
  rcases Nat.mod_two_eq_zero_or_one j with hm | hm
  · rw [show j = j / 2 * 2 by omega] at hj ⊢
    rw [c0] at hj
    injection hj with hj
    rw [← hj]
    exact h1
  · rw [show j = j / 2 * 2 + 1 by omega] at hj ⊢
    rw [c1] at hj
    injection hj with hj
    rw [← hj]
    exact h2
theorem add_zero (b o j : Nat) : (⟨b, o, none⟩ : Addr).add j = ⟨b, o + j, none⟩ := by unfold Addr.add; split <;> simp_all

set_option maxRecDepth 100000 in
set_option maxHeartbeats 4000000 in
theorem copied_any (l : List Sp) (a : Option Addr) (c : Nat) (h0 : 0 < l.length) (hl : l.length ≤ 64) (w : World) (hs : Sps w a l) : Calls Tryd.prog 39 #[.slice a l.length c] w (CpR l w) := by
  obtain ⟨b, o, rfl, hc⟩ := sps_cells hs h0
  have hmk := run_mkS 63 Tryd.underlying63 w l.length (by omega)
  have B := Below.one (Below.refl _ w) (.cells ((zS l.length).flatMap spC).toArray 54)
  have hz := zS_new w l.length
  have hcp := fun ty => run_copy_two (P := Tryd.prog) (w.alloc (.cells ((zS l.length).flatMap spC).toArray 54)) 63 63 ty 54 w.heap.size l.length l.length ⟨b, o, none⟩ l.length c _ _ (l.flatMap spC) Tryd.underlying63 (by obtain ⟨i0, hi, _, h2, _⟩ := info_parts Tryd.infoSp; rw [hi]; simp [h2]) hz (by rw [spc_len]; simp) (fun j v hj => by rw [add_zero]; exact cell_kept_below (hc j v hj) B) (by rw [List.size_toArray, spc_len, spc_len, zS_len]; exact Nat.le_refl _) (fun v hv => by
    obtain ⟨s, _, hs⟩ := List.mem_flatMap.1 hv
    simp [spC] at hs
    rcases hs with rfl | rfl <;> rfl)
  have hend : (l.flatMap spC ++ (((zS l.length).flatMap spC).toArray).toList.drop (l.flatMap spC).length).toArray = (l.flatMap spC).toArray := by
    rw [List.drop_eq_nil_of_le (by show ((zS l.length).flatMap spC).length ≤ _; rw [spc_len, spc_len, zS_len]; exact Nat.le_refl _), List.append_nil]
  rw [hend, World.setRow_alloc_new, show Nat.min l.length l.length = l.length from Nat.min_self _] at hcp
  have HF : Hid (CpR l w (.returned (.slice (some ⟨w.heap.size, 0, none⟩) l.length l.length)) (w.alloc (.cells (l.flatMap spC).toArray 54))) := ⟨_, rfl, Nat.le_refl _, heap_alloc_new _ _, Below.one (Below.refl _ _) _⟩
  clear hend hz B hc hs
  generalize (l.flatMap spC).toArray = X at *
  generalize ((zS l.length).flatMap spC).toArray = Z at *
  go_enter Tryd.func39, Tryd.ntmps39
  go_wp2_with fail
  exact bodyPost_ret (v := .slice (some ⟨w.heap.size, 0, none⟩) l.length l.length) (by simp [results, Tryd.results39, go_sem, *]) rfl HF.out
end Go.Proofs.YtfmkjdfidenfkaaDoor
namespace Go.Proofs.YtfmkjdfidenfkaaDoor
open Go.RowKit
open S8 (meetB meetS joinS widS belA belB belC allS doR doB doS emB sv)

theorem reg_in {has : Bool} {r regs : Int} (h : regZ has r regs = 0) (hr : 1 ≤ regs) : 0 ≤ r ∧ r < regs := by
  unfold regZ at h
  cases has
  · by_cases h0 : r = 0
    · omega
    · rw [if_neg (by decide), if_pos h0] at h; cases h
  · by_cases h0 : r < 0 ∨ r ≥ regs
    · rw [if_pos rfl, if_pos h0] at h; cases h
    · omega
/-- What May's yes says of an instruction. -/
structure InsOk (m : Mo) (f : Fn) (x : Is) : Prop where
  op : 0 ≤ x.op ∧ x.op ≤ 19
  a : 0 ≤ x.a ∧ x.a < f.regs
  b : 0 ≤ x.b ∧ x.b < f.regs
  c : 0 ≤ x.c ∧ x.c < f.regs
  chk : x.op = 13 → 1 ≤ x.n ∧ x.n ≤ 4096
  call : x.op = 19 → 0 ≤ x.n ∧ x.n < m.funcs.length ∧ wrap64 (x.b + parN m x.n) ≤ f.regs
theorem ins_ok {m : Mo} {f : Fn} {x : Is} (h : insZ m f x = 0) (hr : 1 ≤ f.regs) : InsOk m f x := by
  unfold insZ at h
  by_cases h0 : knB x.op = false
  · rw [if_pos h0] at h; cases h
  rw [if_neg h0] at h
  by_cases h1 : regZ (bt (rwOf x.op).regs 0) x.a f.regs ≠ 0
  · rw [if_pos h1] at h; exact absurd h h1
  rw [if_neg h1] at h
  by_cases h2 : regZ (bt (rwOf x.op).regs 1) x.b f.regs ≠ 0
  · rw [if_pos h2] at h; exact absurd h h2
  rw [if_neg h2] at h
  by_cases h3 : regZ (bt (rwOf x.op).regs 2) x.c f.regs ≠ 0
  · rw [if_pos h3] at h; exact absurd h h3
  rw [if_neg h3] at h
  have hk : 0 ≤ x.op ∧ x.op ≤ 19 := by
    have : knB x.op = true := by simpa using h0
    unfold knB at this
    simpa using this
  refine ⟨hk, reg_in (by simpa using h1) hr, reg_in (by simpa using h2) hr, reg_in (by simpa using h3) hr, fun e => ?_, fun e => ?_⟩
  · have hn : (rwOf x.op).n = 2 := by rw [e]; rfl
    unfold numZ at h
    rw [hn, if_neg (by decide), if_pos rfl] at h
    by_cases h4 : x.n < 1 ∨ x.n > 4096
    · rw [if_pos h4] at h; cases h
    · omega
  · have hn : (rwOf x.op).n = 4 := by rw [e]; rfl
    unfold numZ at h
    rw [hn, if_neg (by decide), if_neg (by decide), if_neg (by decide), if_pos rfl] at h
    by_cases h4 : x.n < 0 ∨ x.n ≥ m.funcs.length ∨ wrap64 (x.b + parN m x.n) > f.regs
    · rw [if_pos h4] at h; cases h
    · omega
/-- What passing an instruction leaves, and whether that way is gone. -/
def psZ (m : Mo) (f : Fn) (x : Is) (fr gt : Nat) (l : List Sp) : Bool × List Sp :=
  if x.op = 15 ∨ x.op = 16 ∨ x.op = 17 then (if x.n = (fr : Int) + 1 then (true, l) else (brB l x (decide (x.n = (gt : Int))), brL l x (decide (x.n = (gt : Int)))))
  else if x.op = 6 ∨ x.op = 7 then (divB l x, divL l x)
  else if x.op = 11 ∨ x.op = 12 then (accB l x f.words, accL l x f.words)
  else if x.op = 13 then (meetB (gS l x.a.toNat) (0, x.n - 1), l.set x.a.toNat (meetS (gS l x.a.toNat) (0, x.n - 1)))
  else if x.op = 19 then (callB l x (match m.funcs[x.n.toNat]? with | some h => h.params | none => []), callL l x (match m.funcs[x.n.toNat]? with | some h => h.params | none => []))
  else (true, wrtL l x)
end Go.Proofs.YtfmkjdfidenfkaaDoor
