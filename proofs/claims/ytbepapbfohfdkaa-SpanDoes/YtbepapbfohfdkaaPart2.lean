/- Lists that lie in memory; raw data read at their types. -/
import Derived.Test.YtbepapbfohfdkaaPart1
import Derived.OpenShut
import Derived.Deep.Slices
import Derived.ChangeMaps5
import Derived.Lib.SmallJoins
import Derived.Deep.DeepHandedRow
import Derived.Carry
import Derived.StillTail
import Derived.Lib.QuietBelow
import Derived.BigQuiet
namespace Go.Proofs.Ytbepapbfohfdkaa
open Go.ChangeShapes Go.WideShapes Go.RowKit

/-- A list's elements, of so many cells each, lie at an address. -/
def RowIn (W : World) (a : Option Addr) (sz : Nat) (rows : List (List Value)) : Prop :=
  ∀ i cs, rows[i]? = some cs → ∃ b o, a = some ⟨b, o, none⟩ ∧ ∀ j v, cs[j]? = some v → W.cell? ⟨b, o + (i * sz + j), none⟩ = some v
theorem lt_of_cell {W : World} {p : Addr} {v : Value} (h : W.cell? p = some v) : p.block < W.heap.size := by
  by_cases hlt : p.block < W.heap.size
  · exact hlt
  · unfold World.cell? at h
    rw [Array.getElem?_eq_none (by omega)] at h
    cases h
theorem RowIn.stay {W W' : World} {a : Option Addr} {sz : Nat} {rows : List (List Value)} (h : RowIn W a sz rows) (hb : Below W.heap.size W W') : RowIn W' a sz rows := fun i cs hi => by
  obtain ⟨b, o, e, hc⟩ := h i cs hi
  exact ⟨b, o, e, fun j v hj => by have := hc j v hj; rw [hb.cell (lt_of_cell this)]; exact this⟩
/-- A list of numbers lies at an address. -/
def Ths (W : World) (a : Option Addr) (ts : List Int) : Prop := RowIn W a 1 (ts.map fun t => [.int .i64 t])
theorem Ths.stay {W W' : World} {a : Option Addr} {ts : List Int} (h : Ths W a ts) (hb : Below W.heap.size W W') : Ths W' a ts := RowIn.stay h hb
theorem Ths.cell {W : World} {a : Option Addr} {ts : List Int} (h : Ths W a ts) {k : Nat} {t : Int} (hk : ts[k]? = some t) : ∃ b o, a = some ⟨b, o, none⟩ ∧ W.cell? ⟨b, o + k, none⟩ = some (.int .i64 t) := by
  obtain ⟨b, o, e, hc⟩ := h k [.int .i64 t] (by simp [hk])
  exact ⟨b, o, e, by simpa using hc 0 _ rfl⟩

theorem spot_none {w : World} {a : Addr} {v : Value} (h : w.cell? a = some v) : a = ⟨a.block, a.off, none⟩ := by
  obtain ⟨b, o, s⟩ := a
  cases s with
  | none => rfl
  | some s =>
    unfold World.cell? at h
    split at h <;> simp at h

theorem add_spot {a : Addr} {n j : Nat} {w : World} {v : Value} (h : w.cell? ((a.add n).add j) = some v) (h0 : a.spot = none) : w.cell? ⟨a.block, a.off + (n + j), none⟩ = some v := by
  have e : (a.add n).add j = ⟨a.block, a.off + (n + j), none⟩ := by
    rw [Go.Deep.add_add]
    unfold Addr.add
    obtain ⟨b, o, s⟩ := a
    simp only at h0
    subst h0
    split
    · rename_i h; simp [h]
    · rfl
  rw [← e]; exact h

def Small {H : Type} (P : Program) (t : TypeId) (d : DataW H) : Prop := ∀ z ∈ d.weights P t, z ≤ 140737488351232

theorem weightsAll_mem {H : Type} {P : Program} {e : TypeId} {l : List (DataW H)} {d : DataW H} (h : d ∈ l) {z : Nat} (hz : z ∈ d.weights P e) : z ∈ DataW.weightsAll P e l := by
  induction l with
  | nil => cases h
  | cons y r ih =>
    rw [DataW.weightsAll, List.mem_append]
    rcases List.mem_cons.1 h with rfl | h
    · exact Or.inl hz
    · exact Or.inr (ih h)
theorem weightsEach_mem {H : Type} {P : Program} : ∀ {ts : List TypeId} {ds : List (DataW H)} {i : Nat} {t : TypeId} {d : DataW H}, ts[i]? = some t → ds[i]? = some d → ∀ {z : Nat}, z ∈ d.weights P t → z ∈ DataW.weightsEach P ts ds
  | [], _, _, _, _, h, _, _, _ => by simp at h
  | _ :: _, [], _, _, _, _, h, _, _ => by simp at h
  | t :: ts, d :: ds, 0, _, _, h1, h2, z, hz => by
    simp at h1 h2; subst h1 h2
    rw [DataW.weightsEach, List.mem_append]; exact Or.inl hz
  | t :: ts, d :: ds, i + 1, _, _, h1, h2, z, hz => by
    rw [DataW.weightsEach, List.mem_append]
    exact Or.inr (weightsEach_mem (ts := ts) (ds := ds) (i := i) (by simpa using h1) (by simpa using h2) hz)

/-- A field of a struct: what it reads as, and that it is small. -/
theorem open_field {H : Type} {enc : TypeId × Value → H} {P : Program} {w : World} {held : Bool} {t : TypeId} {fs : Array Field} {fuel : Nat} {cs : List Value} {x : DataW H × List MemPlace}
    (ht : P.underlying t = some (.struct fs)) (h : DataW.trod enc P w 0 (fun _ => true) held fuel t cs = some x) (hs : Small P t x.1) :
    ∃ n, fuel = n + 1 ∧ cs.length = P.cellsOf t ∧ ∀ (i : Nat) (f : Field), fs[i]? = some f → ∃ y, DataW.trod enc P w 0 (fun _ => true) held n f.type ((cs.drop f.offset).take (P.cellsOf f.type)) = some y ∧ Small P f.type y.1 := by
  obtain ⟨xs, n, hn, rfl, hl, hlen, hf⟩ := DataW.trod_struct ht h
  refine ⟨n, hn, hl, fun i f hi => ?_⟩
  have hlt : i < xs.length := by rw [hlen]; exact (Array.getElem?_eq_some_iff.1 hi).1
  refine ⟨xs[i], ?_, fun z hz => hs z ?_⟩
  · rw [hf i f hi, List.getElem?_eq_getElem hlt]
  · rw [DataW.weights]; simp only [ht]
    refine weightsEach_mem (i := i) (t := f.type) (d := xs[i].1) ?_ ?_ hz
    · simp [hi]
    · simp [List.getElem?_eq_getElem hlt]

/-- A list of whatever elements. -/
theorem open_rows {H : Type} {enc : TypeId × Value → H} {P : Program} {w : World} {held : Bool} {t e : TypeId} {k B fuel : Nat} {cs : List Value} {x : DataW H × List MemPlace} {α : Type} [Inhabited α] {cells : α → List Value} {In : α → Prop}
    (ht : P.underlying t = some (.slice e)) (hk : P.cellsOf e = k) (hk0 : 0 < k) (hB : P.bytesOf e = B)
    (el : ∀ m cs y, m < fuel → DataW.trod enc P w 0 (fun _ => true) held m e cs = some y → Small P e y.1 → ∃ z : α, cs = cells z ∧ In z)
    (h : DataW.trod enc P w 0 (fun _ => true) held fuel t cs = some x) (hs : Small P t x.1) :
    ∃ (a : Option Addr) (c : Nat) (l : List α), cs = [.slice a l.length c] ∧ l.length ≤ c ∧ c * B ≤ 140737488351232 ∧ (a = none → c = 0) ∧ RowIn w a k (l.map cells) ∧ ∀ y ∈ l, In y := by
  rcases DataW.trod_slice ht h with ⟨rfl, rfl⟩ | ⟨a, len, cap, elems, rest, n, hn, rfl, rfl, _, hl, _, hlen, hel, hsp, _⟩
  · exact ⟨none, 0, [], rfl, Nat.le_refl _, by simp, fun _ => rfl, fun i cs h => by simp at h, by simp⟩
  · have hw : ∀ z, z ∈ ((elems.map (·.1)).length + (rest.map (·.1)).length) * P.bytesOf e :: (DataW.weightsAll P e (elems.map (·.1)) ++ DataW.weightsAll P e (rest.map (·.1))) → z ≤ 140737488351232 := fun z hz => hs z (by rw [DataW.weights]; simp only [ht]; exact hz)
    obtain ⟨hr, _⟩ := hsp rfl
    have hcap := hw _ (List.mem_cons_self ..)
    rw [List.length_map, List.length_map, hlen, hr, show len + (cap - len) = cap by omega, hB] at hcap
    have hone : ∀ i, i < len → ∃ z : α, w.cells? 0 (a.add (i * k)) k = some (cells z) ∧ In z := fun i hi => by
      have h1 := hel i hi
      rw [hk, List.getElem?_eq_getElem (by omega)] at h1
      obtain ⟨cs', h2, h3⟩ := Option.bind_eq_some_iff.1 h1
      obtain ⟨z, rfl, hz⟩ := el n cs' _ (by omega) h3 (fun z hz => hw z (List.mem_cons_of_mem _ (List.mem_append_left _ (weightsAll_mem (List.mem_map_of_mem (List.getElem_mem _)) hz))))
      exact ⟨z, h2, hz⟩
    obtain ⟨f, hf⟩ := Go.Deep.choose_lt hone
    refine ⟨some a, cap, (List.range len).map f, by simp, by simpa using hl, hcap, fun h => by simp at h, fun i cs hi => ?_, fun y hy => ?_⟩
    · rw [List.getElem?_map, List.getElem?_map, Option.map_map, Option.map_eq_some_iff] at hi
      obtain ⟨i', hi', rfl⟩ := hi
      obtain ⟨hlt, rfl⟩ := List.getElem?_eq_some_iff.1 hi'
      simp only [List.length_range] at hlt
      obtain ⟨h1, _⟩ := hf i hlt
      obtain ⟨_, hcl, hc⟩ := World.cells?_some h1
      obtain ⟨h01, _⟩ := hf 0 (by omega)
      obtain ⟨_, hcl0, hc0⟩ := World.cells?_some h01
      have hsp : a.spot = none := by
        have := hc0 0 hk0
        rw [List.getElem?_eq_getElem (by omega)] at this
        have := spot_none this
        simp [Addr.add] at this
        rw [this]
      refine ⟨a.block, a.off, by rw [show (⟨a.block, a.off, none⟩ : Addr) = a by obtain ⟨b, o, s⟩ := a; simp_all], fun j v hj => ?_⟩
      simp only [List.getElem_range, Function.comp] at hj ⊢
      have hjl := (List.getElem?_eq_some_iff.1 hj).1
      exact add_spot ((hc j (by omega)).trans hj) hsp
    · obtain ⟨i, hi, rfl⟩ := List.mem_map.1 hy
      exact (hf i (by simpa using hi)).2

theorem i64_of {n : Int} (h : (Lit.int .i64 n).wf = true) : Nm n := by
  simpa [Lit.wf, Nm, IntKind.min, IntKind.max, IntKind.signed, IntKind.bits] using h
end Go.Proofs.Ytbepapbfohfdkaa

/- What every row of this seat shares: spans, numbers and lists of numbers opened and shut. -/
namespace Go.Proofs.Ytbepapbfohfdkaa
open Go.ChangeShapes Go.WideShapes Go.ChangeAt Go.RowKit

theorem ownK : ownKnob Try.prog.godebug = none := by kernel_rfl
theorem laidOutT : laidOutB Try.prog = true := by kernel_rfl
theorem cellsS : Try.prog.cellsOf 23 = 2 := by kernel_rfl
theorem open_span {H : Type} {enc : TypeId × Value → H} {W : World} {base : Nat} {sp : Nat → Bool} {held : Bool} {r : Reach} {b0 : Nat} {v : Value} {d : DataW H} {ps : List MemPlace}
    (hv : Value.okWide Try.prog W r b0 23 v) (h : DataW.Trod enc Try.prog W base sp held 23 v d ps) :
    ∃ a : Sp, a.Ok ∧ v = sv a ∧ ps = [] ∧ ∀ W' base' sp' held', DataW.Trod enc Try.prog W' base' sp' held' 23 (sv a) d [] := by
  obtain ⟨c0, c1, y0, y1, m, rfl, rfl, rfl, hy0, hy1⟩ := Joins.open_agg2 Try.underlying23 (by kernel_rfl) cellsS hv h
  obtain ⟨n0, e0, rfl, w0⟩ := DataW.trod_int Try.underlying2 hy0
  obtain ⟨n1, e1, rfl, w1⟩ := DataW.trod_int Try.underlying2 hy1
  simp at e0 e1
  subst e0 e1
  refine ⟨(n0, n1), ⟨i64_of w0, i64_of w1⟩, rfl, rfl, fun W' base' sp' held' => ?_⟩
  exact Joins.shut_agg2 (y0 := (.lit (.int .i64 n0), [])) (y1 := (.lit (.int .i64 n1), [])) Try.underlying23 (by kernel_rfl) cellsS ⟨1, by simp [DataW.trod, Try.underlying2, w0]⟩ ⟨1, by simp [DataW.trod, Try.underlying2, w1]⟩
theorem trodAll_five {H : Type} {enc : TypeId × Value → H} {P : Program} {w : World} {base : Nat} {spare : Nat → Bool} {held : Bool} {t t1 t2 t3 t4 : TypeId} {v v1 v2 v3 v4 : Value} {d d1 d2 d3 d4 : DataW H} {p p1 p2 p3 p4 : List MemPlace} (h : DataW.Trod enc P w base spare held t v d p) (h1 : DataW.Trod enc P w base spare held t1 v1 d1 p1)
    (h2 : DataW.Trod enc P w base spare held t2 v2 d2 p2) (h3 : DataW.Trod enc P w base spare held t3 v3 d3 p3) (h4 : DataW.Trod enc P w base spare held t4 v4 d4 p4) : DataW.TrodAll enc P w base spare held [t, t1, t2, t3, t4] [v, v1, v2, v3, v4] [d, d1, d2, d3, d4] (p ++ (p1 ++ (p2 ++ (p3 ++ p4)))) := ⟨p, _, h, trodAll_mk4 h1 h2 h3 h4, rfl⟩
/-- A list of numbers. -/
theorem open_nums {H : Type} {enc : TypeId × Value → H} {W : World} {held : Bool} {v : Value} {d : DataW H} {ps : List MemPlace}
    {r : Reach} {b0 : Nat} (hv : Value.okWide Try.prog W r b0 38 v) (h : DataW.Trod enc Try.prog W 0 (fun _ => true) held 38 v d ps) (hs : Small Try.prog 38 d) :
    ∃ (a : Option Addr) (c : Nat) (ts : List Int), v = .slice a ts.length c ∧ ts.length < 4611686018427387904 ∧ Ths W a ts ∧ ∀ t ∈ ts, Nm t := by
  obtain ⟨a0, l0, c0, rfl⟩ := okWide_slice Try.underlying38 hv
  obtain ⟨fuel, h⟩ := h
  obtain ⟨a, c, l, e, h1, h2, _, hr, hq⟩ := open_rows (α := Int) (cells := fun t => [.int .i64 t]) (In := Nm) (k := 1) (B := 8) Try.underlying38 (by kernel_rfl) (by omega) (by kernel_rfl) (fun m cs y _ hy _ => by
    obtain ⟨n, e0, _, e1⟩ := DataW.trod_int Try.underlying2 hy
    exact ⟨n, e0, i64_of e1⟩) h hs
  exact ⟨a, c, l, by simpa [Value.cells] using e, by omega, hr, hq⟩
/-- A list of numbers, with the room that it takes. -/
theorem open_numsB {H : Type} {enc : TypeId × Value → H} {W : World} {held : Bool} {v : Value} {d : DataW H} {ps : List MemPlace}
    {r : Reach} {b0 : Nat} (hv : Value.okWide Try.prog W r b0 38 v) (h : DataW.Trod enc Try.prog W 0 (fun _ => true) held 38 v d ps) (hs : Small Try.prog 38 d) :
    ∃ (a : Option Addr) (c : Nat) (ts : List Int), v = .slice a ts.length c ∧ ts.length * 8 ≤ 140737488351232 ∧ Ths W a ts ∧ ∀ t ∈ ts, Nm t := by
  obtain ⟨a0, l0, c0, rfl⟩ := okWide_slice Try.underlying38 hv
  obtain ⟨fuel, h⟩ := h
  obtain ⟨a, c, l, e, h1, h2, _, hr, hq⟩ := open_rows (α := Int) (cells := fun t => [.int .i64 t]) (In := Nm) (k := 1) (B := 8) Try.underlying38 (by kernel_rfl) (by omega) (by kernel_rfl) (fun m cs y _ hy _ => by
    obtain ⟨n, e0, _, e1⟩ := DataW.trod_int Try.underlying2 hy
    exact ⟨n, e0, i64_of e1⟩) h hs
  exact ⟨a, c, l, by simpa [Value.cells] using e, by omega, hr, hq⟩
end Go.Proofs.Ytbepapbfohfdkaa

/- Spans: Join, Meet, Below, Length; sums and differences of two numbers. -/
namespace Go.Proofs.Ytbepapbfohfdkaa
open Go.RowKit Go.Lib Go.Sort

theorem sum_any (x y : Int) (hx : Nm x) (hy : Nm y) (w : World) : Calls Try.prog 49 #[.int .i64 x, .int .i64 y] w fun e w' => e = .returned (.tuple #[.int .i64 (wr (x + y)), .bool (fitB (x + y))]) ∧ w' = w := by
  have HE : Hid (fitB (x + y) = (decide (wrap64 (x + y) < x) == decide (y < 0))) := by
    show _ = _
    apply Bool.eq_iff_iff.2
    unfold fitB wrap64
    rw [beq_iff_eq, decide_eq_decide, decide_eq_true_iff]
    unfold Nm at *
    omega
  go_enter Try.func49, Try.ntmps49
  go_wp2
  go_ret2
  exact ⟨by rw [HE.out]; rfl, rfl⟩
theorem difference_any (x y : Int) (hx : Nm x) (hy : Nm y) (w : World) : Calls Try.prog 51 #[.int .i64 x, .int .i64 y] w fun e w' => e = .returned (.tuple #[.int .i64 (wr (x - y)), .bool (fitB (x - y))]) ∧ w' = w := by
  have HE : Hid (fitB (x - y) = (decide (x < wrap64 (x - y)) == decide (y < 0))) := by
    show _ = _
    apply Bool.eq_iff_iff.2
    unfold fitB wrap64
    rw [beq_iff_eq, decide_eq_decide, decide_eq_true_iff]
    unfold Nm at *
    omega
  go_enter Try.func51, Try.ntmps51
  go_wp2
  go_ret2
  exact ⟨by rw [HE.out]; rfl, rfl⟩
theorem distance_any (n : Int) (hn : Nm n) (w : World) : Calls Try.prog 53 #[.int .i64 n] w fun e w' => e = .returned (.int .u64 (dis n)) ∧ w' = w := by
  by_cases h : n < 0
  · have HE : Hid (dis n = IntKind.u64.wrap (-(IntKind.u64.wrap n))) := by
      show _ = _
      rw [IntKind.wrap_u64, IntKind.wrap_u64]
      unfold dis Nm at *
      rw [if_pos h]
      omega
    go_enter Try.func53, Try.ntmps53
    go_wp2
    go_ret
    exact ⟨by rw [HE.out]; rfl, rfl⟩
  · have HE : Hid (dis n = IntKind.u64.wrap n) := by
      show _ = _
      rw [IntKind.wrap_u64]
      unfold dis Nm at *
      rw [if_neg h]
      omega
    go_enter Try.func53, Try.ntmps53
    go_wp2
    go_ret
    exact ⟨by rw [HE.out]; rfl, rfl⟩
theorem length_any (a b : Sp) (ha : a.Ok) (hb' : b.Ok) (w : World) : Calls Try.prog 18 #[sv a, sv b] w fun e w' => e = .returned (.int .u64 (lenN a b)) ∧ Below w.heap.size w w' := by
  have hb := fun (o1 o2 : Obj) => (Below.one (Below.one (Below.refl _ w) o1) o2 : Below w.heap.size w _)
  obtain ⟨l, h⟩ := a
  obtain ⟨l2, h2⟩ := b
  by_cases hh : h2 ≤ l
  · have HE : Hid (lenN (l, h) (l2, h2) = 0) := by show _ = _; unfold lenN; rw [if_pos hh]
    go_enter Try.func18, Try.ntmps18
    go_wp2
    go_ret
    exact ⟨by rw [HE.out]; rfl, hb _ _⟩
  · have HE : Hid (lenN (l, h) (l2, h2) = IntKind.u64.wrap (IntKind.u64.wrap h2 - IntKind.u64.wrap l)) := by
      show _ = _
      rw [IntKind.wrap_u64, IntKind.wrap_u64, IntKind.wrap_u64]
      unfold lenN Sp.Ok Nm at *
      rw [if_neg hh]
      omega
    go_enter Try.func18, Try.ntmps18
    go_wp2
    go_ret
    exact ⟨by rw [HE.out]; rfl, hb _ _⟩
theorem empV (l h : Int) (w : World) : Calls Try.prog 27 #[.agg #[.int .i64 l, .int .i64 h]] w fun e w' => e = .returned (.bool (decide (h < l))) ∧ Below w.heap.size w w' := empty_any (l, h) w

set_option maxHeartbeats 1000000 in
theorem join_any (a b : Sp) (w : World) : Calls Try.prog 16 #[sv a, sv b] w fun e w' => e = .returned (sv (joinS a b)) ∧ Below w.heap.size w w' := by
  obtain ⟨al, ah⟩ := a
  obtain ⟨bl, bh⟩ := b
  have HE := Hid.mk' empV
  have hb := fun (o1 o2 o3 : Obj) => (Below.one (Below.one (Below.one (Below.refl _ w) o1) o2) o3 : Below w.heap.size w _)
  by_cases h1 : ah < al
  · have hj : joinS (al, ah) (bl, bh) = (bl, bh) := by unfold joinS; rw [if_pos h1]
    rw [hj]
    go_enter Try.func16, Try.ntmps16
    go_wp2_with (go_at_call_of 27 (Value.agg #[Value.int .i64 al, Value.int .i64 ah]); refine (HE.out _ _ _).mono ?_; rintro e w1 ⟨rfl, hb1⟩; have A0 := At.stay (At.more (At.more (At.new w (al, ah)) _) _) hb1; have A1 := At.stay (At.more (At.new1 w (bl, bh) _) _) hb1; have A2 := At.stay (At.new2 w (0, 0) _ _) hb1; have x0 := A0.c0; have x1 := A0.c1; have y0 := A1.c0; have y1 := A1.c1; have z0 := A2.c0; have z1 := A2.c1; have z2 := A2.f0; have z3 := A2.f1)
    exact bodyPost_ret (v := sv (bl, bh)) (by simp [results, Try.results16, go_sem, *]) rfl ⟨rfl, ((Below.on (hb _ _ _) hb1).setCell (by simp; omega) _).setCell (by simp; omega) _⟩
  · by_cases h2 : bh < bl
    · have hj : joinS (al, ah) (bl, bh) = (al, ah) := by unfold joinS; rw [if_neg h1, if_pos h2]
      rw [hj]
      go_enter Try.func16, Try.ntmps16
      go_wp2_with (first | (go_at_call_of 27 (Value.agg #[Value.int .i64 al, Value.int .i64 ah]); refine (HE.out _ _ _).mono ?_; rintro e w1 ⟨rfl, hb1⟩; have A0 := At.stay (At.more (At.more (At.new w (al, ah)) _) _) hb1; have A1 := At.stay (At.more (At.new1 w (bl, bh) _) _) hb1; have A2 := At.stay (At.new2 w (0, 0) _ _) hb1; have x0 := A0.c0; have x1 := A0.c1; have y0 := A1.c0; have y1 := A1.c1; have z0 := A2.c0; have z1 := A2.c1; have z2 := A2.f0; have z3 := A2.f1) | (go_at_call_of 27 (Value.agg #[Value.int .i64 bl, Value.int .i64 bh]); refine (HE.out _ _ _).mono ?_; rintro e w2 ⟨rfl, hb2⟩; have D0 := A0.stay hb2; have D1 := A1.stay hb2; have D2 := A2.stay hb2; have u0 := D0.c0; have u1 := D0.c1; have v0 := D1.c0; have v1 := D1.c1; have t0 := D2.c0; have t1 := D2.c1; have t2 := D2.f0; have t3 := D2.f1))
      exact bodyPost_ret (v := sv (al, ah)) (by simp [results, Try.results16, go_sem, *]) rfl ⟨rfl, ((Below.on (Below.on (hb _ _ _) hb1) hb2).setCell (by simp; omega) _).setCell (by simp; omega) _⟩
    · have hj : joinS (al, ah) (bl, bh) = (min al bl, max ah bh) := by unfold joinS; rw [if_neg h1, if_neg h2]
      rw [hj]
      go_enter Try.func16, Try.ntmps16
      go_wp2_with (first | (go_at_call_of 27 (Value.agg #[Value.int .i64 al, Value.int .i64 ah]); refine (HE.out _ _ _).mono ?_; rintro e w1 ⟨rfl, hb1⟩; have A0 := At.stay (At.more (At.more (At.new w (al, ah)) _) _) hb1; have A1 := At.stay (At.more (At.new1 w (bl, bh) _) _) hb1; have A2 := At.stay (At.new2 w (0, 0) _ _) hb1; have x0 := A0.c0; have x1 := A0.c1; have y0 := A1.c0; have y1 := A1.c1; have z0 := A2.c0; have z1 := A2.c1; have z2 := A2.f0; have z3 := A2.f1) | (go_at_call_of 27 (Value.agg #[Value.int .i64 bl, Value.int .i64 bh]); refine (HE.out _ _ _).mono ?_; rintro e w2 ⟨rfl, hb2⟩; have D0 := A0.stay hb2; have D1 := A1.stay hb2; have D2 := A2.stay hb2; have u0 := D0.c0; have u1 := D0.c1; have v0 := D1.c0; have v1 := D1.c1; have t0 := D2.c0; have t1 := D2.c1; have t2 := D2.f0; have t3 := D2.f1))
      all_goals exact bodyPost_ret (v := sv (min al bl, max ah bh)) (by simp [results, Try.results16, go_sem, *] <;> omega) rfl ⟨rfl, ((Below.on (Below.on (hb _ _ _) hb1) hb2).setCell (by simp; omega) _).setCell (by simp; omega) _⟩
set_option maxHeartbeats 1000000 in
theorem meet_any (a b : Sp) (w : World) : Calls Try.prog 9 #[sv a, sv b] w fun e w' => e = .returned (.tuple #[sv (meetS a b), .bool (meetB a b)]) ∧ Below w.heap.size w w' := by
  obtain ⟨al, ah⟩ := a
  obtain ⟨bl, bh⟩ := b
  have HE := Hid.mk' empV
  have hb := fun (o1 o2 o3 o4 : Obj) => (Below.one (Below.one (Below.one (Below.one (Below.refl _ w) o1) o2) o3) o4 : Below w.heap.size w _)
  by_cases c1 : al < bl
  · by_cases c2 : bh < ah
    · by_cases c3 : bh < bl
      · have hS : meetS (al, ah) (bl, bh) = (0, 0) := by unfold meetS; rw [if_neg (by simp only; omega)]
        have hB : meetB (al, ah) (bl, bh) = false := decide_eq_false (by simp only; omega)
        rw [hS, hB]
        clear hS hB
        go_enter Try.func9, Try.ntmps9
        go_wp2_with (go_at_call 27; refine (HE.out _ _ _).mono ?_; rintro e w1 ⟨rfl, hb1⟩; have A2 := At.stay (At.more (At.new2 w (0, 0) _ _) _) hb1; have A3 := At.stay (At.new3 w (bl, bh) _ _ _) hb1; have z0 := A2.c0; have z1 := A2.c1; have z2 := A2.f0; have z3 := A2.f1; have x0 := A3.c0; have x1 := A3.c1)
        exact bodyPost_ret (v := .tuple #[sv (0, 0), .bool false]) (by simp [results, Try.results9, go_sem, *]) rfl ⟨rfl, ((Below.on (hb _ _ _ _) hb1).setCell (by simp; omega) _).setCell (by simp; omega) _⟩
      · have hS : meetS (al, ah) (bl, bh) = (bl, bh) := by unfold meetS; rw [if_pos (by simp only; omega)]; exact Prod.ext (by simp only; omega) (by simp only; omega)
        have hB : meetB (al, ah) (bl, bh) = true := decide_eq_true (by simp only; omega)
        rw [hS, hB]
        clear hS hB
        go_enter Try.func9, Try.ntmps9
        go_wp2_with (go_at_call 27; refine (HE.out _ _ _).mono ?_; rintro e w1 ⟨rfl, hb1⟩; have A2 := At.stay (At.more (At.new2 w (0, 0) _ _) _) hb1; have A3 := At.stay (At.new3 w (bl, bh) _ _ _) hb1; have z0 := A2.c0; have z1 := A2.c1; have z2 := A2.f0; have z3 := A2.f1; have x0 := A3.c0; have x1 := A3.c1)
        exact bodyPost_ret (v := .tuple #[sv (bl, bh), .bool true]) (by simp [results, Try.results9, go_sem, *]) rfl ⟨rfl, ((Below.on (hb _ _ _ _) hb1).setCell (by simp; omega) _).setCell (by simp; omega) _⟩
    · by_cases c3 : ah < bl
      · have hS : meetS (al, ah) (bl, bh) = (0, 0) := by unfold meetS; rw [if_neg (by simp only; omega)]
        have hB : meetB (al, ah) (bl, bh) = false := decide_eq_false (by simp only; omega)
        rw [hS, hB]
        clear hS hB
        go_enter Try.func9, Try.ntmps9
        go_wp2_with (go_at_call 27; refine (HE.out _ _ _).mono ?_; rintro e w1 ⟨rfl, hb1⟩; have A2 := At.stay (At.more (At.new2 w (0, 0) _ _) _) hb1; have A3 := At.stay (At.new3 w (bl, ah) _ _ _) hb1; have z0 := A2.c0; have z1 := A2.c1; have z2 := A2.f0; have z3 := A2.f1; have x0 := A3.c0; have x1 := A3.c1)
        exact bodyPost_ret (v := .tuple #[sv (0, 0), .bool false]) (by simp [results, Try.results9, go_sem, *]) rfl ⟨rfl, ((Below.on (hb _ _ _ _) hb1).setCell (by simp; omega) _).setCell (by simp; omega) _⟩
      · have hS : meetS (al, ah) (bl, bh) = (bl, ah) := by unfold meetS; rw [if_pos (by simp only; omega)]; exact Prod.ext (by simp only; omega) (by simp only; omega)
        have hB : meetB (al, ah) (bl, bh) = true := decide_eq_true (by simp only; omega)
        rw [hS, hB]
        clear hS hB
        go_enter Try.func9, Try.ntmps9
        go_wp2_with (go_at_call 27; refine (HE.out _ _ _).mono ?_; rintro e w1 ⟨rfl, hb1⟩; have A2 := At.stay (At.more (At.new2 w (0, 0) _ _) _) hb1; have A3 := At.stay (At.new3 w (bl, ah) _ _ _) hb1; have z0 := A2.c0; have z1 := A2.c1; have z2 := A2.f0; have z3 := A2.f1; have x0 := A3.c0; have x1 := A3.c1)
        exact bodyPost_ret (v := .tuple #[sv (bl, ah), .bool true]) (by simp [results, Try.results9, go_sem, *]) rfl ⟨rfl, ((Below.on (hb _ _ _ _) hb1).setCell (by simp; omega) _).setCell (by simp; omega) _⟩
  · by_cases c2 : bh < ah
    · by_cases c3 : bh < al
      · have hS : meetS (al, ah) (bl, bh) = (0, 0) := by unfold meetS; rw [if_neg (by simp only; omega)]
        have hB : meetB (al, ah) (bl, bh) = false := decide_eq_false (by simp only; omega)
        rw [hS, hB]
        clear hS hB
        go_enter Try.func9, Try.ntmps9
        go_wp2_with (go_at_call 27; refine (HE.out _ _ _).mono ?_; rintro e w1 ⟨rfl, hb1⟩; have A2 := At.stay (At.more (At.new2 w (0, 0) _ _) _) hb1; have A3 := At.stay (At.new3 w (al, bh) _ _ _) hb1; have z0 := A2.c0; have z1 := A2.c1; have z2 := A2.f0; have z3 := A2.f1; have x0 := A3.c0; have x1 := A3.c1)
        exact bodyPost_ret (v := .tuple #[sv (0, 0), .bool false]) (by simp [results, Try.results9, go_sem, *]) rfl ⟨rfl, ((Below.on (hb _ _ _ _) hb1).setCell (by simp; omega) _).setCell (by simp; omega) _⟩
      · have hS : meetS (al, ah) (bl, bh) = (al, bh) := by unfold meetS; rw [if_pos (by simp only; omega)]; exact Prod.ext (by simp only; omega) (by simp only; omega)
        have hB : meetB (al, ah) (bl, bh) = true := decide_eq_true (by simp only; omega)
        rw [hS, hB]
        clear hS hB
        go_enter Try.func9, Try.ntmps9
        go_wp2_with (go_at_call 27; refine (HE.out _ _ _).mono ?_; rintro e w1 ⟨rfl, hb1⟩; have A2 := At.stay (At.more (At.new2 w (0, 0) _ _) _) hb1; have A3 := At.stay (At.new3 w (al, bh) _ _ _) hb1; have z0 := A2.c0; have z1 := A2.c1; have z2 := A2.f0; have z3 := A2.f1; have x0 := A3.c0; have x1 := A3.c1)
        exact bodyPost_ret (v := .tuple #[sv (al, bh), .bool true]) (by simp [results, Try.results9, go_sem, *]) rfl ⟨rfl, ((Below.on (hb _ _ _ _) hb1).setCell (by simp; omega) _).setCell (by simp; omega) _⟩
    · by_cases c3 : ah < al
      · have hS : meetS (al, ah) (bl, bh) = (0, 0) := by unfold meetS; rw [if_neg (by simp only; omega)]
        have hB : meetB (al, ah) (bl, bh) = false := decide_eq_false (by simp only; omega)
        rw [hS, hB]
        clear hS hB
        go_enter Try.func9, Try.ntmps9
        go_wp2_with (go_at_call 27; refine (HE.out _ _ _).mono ?_; rintro e w1 ⟨rfl, hb1⟩; have A2 := At.stay (At.more (At.new2 w (0, 0) _ _) _) hb1; have A3 := At.stay (At.new3 w (al, ah) _ _ _) hb1; have z0 := A2.c0; have z1 := A2.c1; have z2 := A2.f0; have z3 := A2.f1; have x0 := A3.c0; have x1 := A3.c1)
        exact bodyPost_ret (v := .tuple #[sv (0, 0), .bool false]) (by simp [results, Try.results9, go_sem, *]) rfl ⟨rfl, ((Below.on (hb _ _ _ _) hb1).setCell (by simp; omega) _).setCell (by simp; omega) _⟩
      · have hS : meetS (al, ah) (bl, bh) = (al, ah) := by unfold meetS; rw [if_pos (by simp only; omega)]; exact Prod.ext (by simp only; omega) (by simp only; omega)
        have hB : meetB (al, ah) (bl, bh) = true := decide_eq_true (by simp only; omega)
        rw [hS, hB]
        clear hS hB
        go_enter Try.func9, Try.ntmps9
        go_wp2_with (go_at_call 27; refine (HE.out _ _ _).mono ?_; rintro e w1 ⟨rfl, hb1⟩; have A2 := At.stay (At.more (At.new2 w (0, 0) _ _) _) hb1; have A3 := At.stay (At.new3 w (al, ah) _ _ _) hb1; have z0 := A2.c0; have z1 := A2.c1; have z2 := A2.f0; have z3 := A2.f1; have x0 := A3.c0; have x1 := A3.c1)
        exact bodyPost_ret (v := .tuple #[sv (al, ah), .bool true]) (by simp [results, Try.results9, go_sem, *]) rfl ⟨rfl, ((Below.on (hb _ _ _ _) hb1).setCell (by simp; omega) _).setCell (by simp; omega) _⟩
theorem sglV (l h : Int) (w : World) : Calls Try.prog 38 #[.agg #[.int .i64 l, .int .i64 h]] w fun e w' => e = .returned (.bool (l == h)) ∧ Below w.heap.size w w' := single_any (l, h) w
theorem allV (w : World) : Calls Try.prog 12 #[] w fun e w' => e = .returned (.agg #[.int .i64 (-9223372036854775808), .int .i64 9223372036854775807]) ∧ Below w.heap.size w w' := all_any w
set_option maxHeartbeats 1000000 in
theorem settle_any (a b o : Sp) (f : Bool) (w : World) : Calls Try.prog 50 #[sv a, sv b, sv o, .bool f] w fun e w' => e = .returned (sv (setS a b o f)) ∧ Below w.heap.size w w' := by
  obtain ⟨al, ah⟩ := a
  obtain ⟨bl, bh⟩ := b
  obtain ⟨ol, oh⟩ := o
  have HS := Hid.mk' sglV
  have HA := Hid.mk' allV
  have hb := fun (o1 o2 o3 o4 : Obj) => (Below.one (Below.one (Below.one (Below.one (Below.refl _ w) o1) o2) o3) o4 : Below w.heap.size w _)
  cases f
  · by_cases h1 : al = ah
    · by_cases h2 : bl = bh
      · have hS : setS (al, ah) (bl, bh) (ol, oh) false = (ol, oh) := by simp [setS, sgB, h1, h2]
        rw [hS]
        clear hS
        have e1 : (al == ah) = true := by simp [h1]
        have e2 : (bl == bh) = true := by simp [h2]
        clear h1 h2
        go_enter Try.func50, Try.ntmps50
        go_wp2_with (first | (go_at_call_of 38 (Value.agg #[Value.int .i64 al, Value.int .i64 ah]); refine (HS.out _ _ _).mono ?_; rintro e w1 ⟨rfl, hb1⟩; have A0 := At.stay (At.more (At.more (At.more (At.new w (al, ah)) _) _) _) hb1; have A1 := At.stay (At.more (At.more (At.new1 w (bl, bh) _) _) _) hb1; have A2 := At.stay (At.more (At.new2 w (ol, oh) _ _) _) hb1; have A3 := At.stay (At.new3 w (0, 0) _ _ _) hb1; have y0 := A1.c0; have y1 := A1.c1; have x0 := A2.c0; have x1 := A2.c1; have z0 := A3.c0; have z1 := A3.c1; have z2 := A3.f0; have z3 := A3.f1) | (go_at_call_of 38 (Value.agg #[Value.int .i64 bl, Value.int .i64 bh]); refine (HS.out _ _ _).mono ?_; rintro e w2 ⟨rfl, hb2⟩; have D2 := A2.stay hb2; have D3 := A3.stay hb2; have u0 := D2.c0; have u1 := D2.c1; have t0 := D3.c0; have t1 := D3.c1; have t2 := D3.f0; have t3 := D3.f1))
        exact bodyPost_ret (v := sv (ol, oh)) (by simp [results, Try.results50, go_sem, *]) rfl ⟨rfl, ((Below.on (Below.on (hb _ _ _ _) hb1) hb2).setCell (by simp; omega) _).setCell (by simp; omega) _⟩
      · have hS : setS (al, ah) (bl, bh) (ol, oh) false = allS := by simp [setS, sgB, h2]
        rw [hS]
        clear hS
        have e1 : (al == ah) = true := by simp [h1]
        have e2 := beq_no h2
        clear h1 h2
        go_enter Try.func50, Try.ntmps50
        go_wp2_with (first | (go_at_call_of 38 (Value.agg #[Value.int .i64 al, Value.int .i64 ah]); refine (HS.out _ _ _).mono ?_; rintro e w1 ⟨rfl, hb1⟩; have A0 := At.stay (At.more (At.more (At.more (At.new w (al, ah)) _) _) _) hb1; have A1 := At.stay (At.more (At.more (At.new1 w (bl, bh) _) _) _) hb1; have A2 := At.stay (At.more (At.new2 w (ol, oh) _ _) _) hb1; have A3 := At.stay (At.new3 w (0, 0) _ _ _) hb1; have y0 := A1.c0; have y1 := A1.c1; have x0 := A2.c0; have x1 := A2.c1; have z0 := A3.c0; have z1 := A3.c1; have z2 := A3.f0; have z3 := A3.f1) | (go_at_call_of 38 (Value.agg #[Value.int .i64 bl, Value.int .i64 bh]); refine (HS.out _ _ _).mono ?_; rintro e w2 ⟨rfl, hb2⟩; have D2 := A2.stay hb2; have D3 := A3.stay hb2; have u0 := D2.c0; have u1 := D2.c1; have t0 := D3.c0; have t1 := D3.c1; have t2 := D3.f0; have t3 := D3.f1) | (go_at_call 12; refine (HA.out _).mono ?_; rintro e w3 ⟨rfl, hb3⟩; have E3 := D3.stay hb3; have s0 := E3.c0; have s1 := E3.c1; have s2 := E3.f0; have s3 := E3.f1))
        exact bodyPost_ret (v := sv allS) (by simp [results, Try.results50, go_sem, allS, *]) rfl ⟨rfl, ((Below.on (Below.on (Below.on (hb _ _ _ _) hb1) hb2) hb3).setCell (by simp; omega) _).setCell (by simp; omega) _⟩
    · have hS : setS (al, ah) (bl, bh) (ol, oh) false = allS := by simp [setS, sgB, h1]
      rw [hS]
      clear hS
      have e1 := beq_no h1
      clear h1
      have hu : undef = Value.tuple #[] := rfl
      go_enter Try.func50, Try.ntmps50
      go_wp2_with (first | (go_at_call_of 38 (Value.agg #[Value.int .i64 al, Value.int .i64 ah]); refine (HS.out _ _ _).mono ?_; rintro e w1 ⟨rfl, hb1⟩; have A0 := At.stay (At.more (At.more (At.more (At.new w (al, ah)) _) _) _) hb1; have A1 := At.stay (At.more (At.more (At.new1 w (bl, bh) _) _) _) hb1; have A2 := At.stay (At.more (At.new2 w (ol, oh) _ _) _) hb1; have A3 := At.stay (At.new3 w (0, 0) _ _ _) hb1; have y0 := A1.c0; have y1 := A1.c1; have x0 := A2.c0; have x1 := A2.c1; have z0 := A3.c0; have z1 := A3.c1; have z2 := A3.f0; have z3 := A3.f1) | (go_at_call 12; refine (HA.out _).mono ?_; rintro e w3 ⟨rfl, hb3⟩; have E3 := A3.stay hb3; have s0 := E3.c0; have s1 := E3.c1; have s2 := E3.f0; have s3 := E3.f1))
      exact bodyPost_ret (v := sv allS) (by simp [results, Try.results50, go_sem, allS, *]) rfl ⟨rfl, ((Below.on (Below.on (hb _ _ _ _) hb1) hb3).setCell (by simp; omega) _).setCell (by simp; omega) _⟩
  · have hS : setS (al, ah) (bl, bh) (ol, oh) true = (ol, oh) := by simp [setS]
    rw [hS]
    clear hS
    go_enter Try.func50, Try.ntmps50
    go_wp2_with fail
    exact bodyPost_ret (v := sv (ol, oh)) (by simp [results, Try.results50, go_sem, *]) rfl ⟨rfl, hb _ _ _ _⟩
end Go.Proofs.Ytbepapbfohfdkaa

/- A region that draws its order: quiet operations first, and a tail that waits for all of them (a store of what they made). One walk of the quiet ones serves every order; the tail is walked as it stands. -/
namespace Go.Proofs.Ytbepapbfohfdkaa
open Go.Sort

section
variable {P : Program} {ops : Array Oper} {md : Region.Mode} {C : World → Prop}

/-- So many operations of the head come up, in any order; then L. -/
def headQ (P : Program) (md : Region.Mode) (ops : Array Oper) (C : World → Prop) (n : Nat) (L : Array Bool → Act → Prop) : Nat → Array Bool → Act → Prop
  | 0 => L
  | f + 1 => fun done a => Region.ready md ops done ≠ [] ∧ ∀ i ∈ Region.ready md ops done, i < n ∧ qOp P ops C i (headQ P md ops C n L f (done.setIfInBounds i true)) a

theorem any_of_headQ {n g : Nat} {L : Array Bool → Act → Prop} {Q : Exit → Act → World → Prop} (hL : ∀ done a w, C w → L done a → wpAny P md ops Q g done a w) (f : Nat) :
    ∀ (done : Array Bool) (a : Act) (w : World), C w → headQ P md ops C n L f done a → wpAny P md ops Q (f + g) done a w := by
  induction f with
  | zero => intro done a w hw h; rw [Nat.zero_add]; exact hL _ _ _ hw h
  | succ f ih =>
    intro done a w hw h
    rw [Nat.add_right_comm]
    exact ⟨fun h0 => (h.1 h0).elim, fun i hi => wpOp_of_qOp hw (fun a' w' hw' h' => ih _ a' w' hw' h') (h.2 i hi).2⟩

theorem headQ_first {n i : Nat} {oi : Oper} {v : Value} {L : Array Bool → Act → Prop} (hi : ops[i]? = some oi) (hsel : Region.noSelect ops = true)
    (hs : Region.sinkB md ops n = true) (hc : Region.chainB md ops n = true) (hn : n < ops.size) (hin : i < n) (hdone : ∀ done a, L done a → ∀ j ∈ Region.ready md ops done, n ≤ j) (f : Nat) :
    ∀ (done : Array Bool) (a : Act), HeadInv md ops n done →
      (∀ j oj, ops[j]? = some oj → j ≠ i → done.getD j true = false → (∀ e ∈ oj.after, Region.binds md e = true → e.on ≠ i) → oi.apart ops oj = true) →
      i ∈ Region.ready md ops done → YieldsIn P ops C oi v a →
      headQ P md ops C n L f (done.setIfInBounds i true) (a.put oi.dst v) → headQ P md ops C n L (f + 1) done a := by
  have ns := Region.noSelect_spec hsel
  induction f with
  | zero =>
    intro done a inv _ hr hy H
    refine ⟨List.ne_nil_of_mem hr, fun j hj => ?_⟩
    have hjn : j < n := Nat.lt_of_not_le fun h => tail_waits hs hc hn inv _ i rfl hin (mem_ready.1 hr).1 j h hj
    refine ⟨hjn, ?_⟩
    rcases Nat.decEq j i with hji | hji
    · exact absurd (hdone _ _ H j (ready_mono hj hji)) (by omega)
    · subst hji; exact hy.qOp hi H
  | succ f ih =>
    intro done a inv hfree hr hy H
    have hun := (mem_ready.1 hr).1
    refine ⟨List.ne_nil_of_mem hr, fun j hj => ?_⟩
    have hjn : j < n := Nat.lt_of_not_le fun h => tail_waits hs hc hn inv _ i rfl hin hun j h hj
    refine ⟨hjn, ?_⟩
    rcases Nat.decEq j i with hji | hji
    · obtain ⟨hjun, oj, hoj, hall⟩ := mem_ready.1 hj
      have hap := hfree j oj hoj hji hjun fun e he hb heq => by
        have := hall e he hb
        rw [heq, getD_both hun] at this
        exact Bool.noConfusion this
      refine qOp_mono (fun a' h3 => ih _ a' (inv.set hj hjn) (fun k ok hk hki hku hno => hfree k ok hk hki ?_ hno) (ready_mono hr (Ne.symm hji)) h3.1 ?_)
        (qOp_put hoj hap (fun cs b => ns i oi cs b hi) (fun cs b => ns j oj cs b hoj) hy (H.2 j (ready_mono hj hji)).2)
      · rcases Nat.decEq j k with hjk | hjk
        · rwa [getD_set_ne true hjk] at hku
        · exact hjk ▸ hjun
      · rw [Array.setIfInBounds_comm _ _ hji]; exact h3.2
    · subst hji; exact hy.qOp hi H

theorem headQ_lex {n g : Nat} {Lq : Act → Prop} (hsel : Region.noSelect ops = true) (hs : Region.sinkB md ops n = true) (hc : Region.chainB md ops n = true) (hn : n < ops.size) (l : List Oper) :
    ∀ (k : Nat) (done : Array Bool) (a : Act), (∀ j, j < l.length → l[j]? = ops[k + j]?) → k + l.length = n → HeadInv md ops n done → Region.lexHead md ops g l.length k done = true → wpQuiet P ops C Lq l a →
    headQ P md ops C n (fun done' a' => Region.seqB md ops g n done' = true ∧ Lq a') l.length done a := by
  induction l with
  | nil =>
    intro k done a _ hk _ hB h
    obtain rfl : k = n := by simpa using hk
    exact ⟨by simpa [Region.lexHead] using hB, h⟩
  | cons o l ih =>
    intro k done a hl hk inv hB h
    rw [List.length_cons] at hk
    have h0 : ops[k]? = some o := by simpa using (hl 0 (by simp)).symm
    simp only [List.length_cons, Region.lexHead, Bool.and_eq_true] at hB
    have hr : k ∈ Region.ready md ops done := by simpa using hB.1.1
    have hq : qOp P ops C k (wpQuiet P ops C Lq l) a := by unfold qOp; simp only [h0]; exact h
    obtain ⟨v, hy, hK⟩ := yieldsIn_of_qOp h0 hq
    refine headQ_first h0 hsel hs hc hn (by omega) (fun _ _ hL => seqB_ready hL.1) l.length done a inv (Region.free_spec h0 hB.1.2) hr hy ?_
    refine ih (k + 1) _ _ (fun j hj => ?_) (by omega) (inv.set hr (by omega)) hB.2 hK
    have := hl (j + 1) (by simp; omega)
    rwa [List.getElem?_cons_succ, show k + (j + 1) = k + 1 + j by omega] at this

theorem region_quiet_tail {id : Nat} {Q : Exit → Act → World → Prop} {a : Act} {w : World} {l : List Oper} (n : Nat) (hm : P.follows .mixedOrders = true) (hB : Region.lexTailB .any l.toArray n = true) (hC : C { w with drawn := w.drawn + 1 })
    (h : wpQuiet P l.toArray C (fun a' => ∀ w', C w' → wpList P l.toArray Q (l.drop n) a' w') (l.take n) a) : (Code.region id l.toArray true).wp P Q a w := by
  simp only [Region.lexTailB, Bool.and_eq_true, decide_eq_true_eq] at hB
  obtain ⟨⟨⟨⟨hsel, hn⟩, hs⟩, hc⟩, hlex⟩ := hB
  have hn' : n < l.length := by simpa using hn
  have ht : (l.take n).length = n := by simp; omega
  have hd : (l.drop n).length = l.toArray.size - n := by simp
  have inv0 : HeadInv .any l.toArray n (Array.replicate l.toArray.size false) :=
    ⟨by simp, fun j oj _ hj => (by rw [getD_replicate_false] at hj; cases hj), fun t _ ht => getD_in (by simpa using ht) (getD_replicate_false _ _)⟩
  have H := headQ_lex (md := .any) (g := l.toArray.size - n) hsel hs hc hn (l.take n) 0 _ a (fun j hj => by
    have : j < n := by omega
    simp [this]) (by omega) inv0 (by rw [ht]; exact hlex) h
  refine wp_region_any hm ?_
  have := any_of_headQ (Q := Q) (g := l.toArray.size - n) (fun done a' w' hw' hL => by
    have := wpAny_of_seq (md := .any) (Q' := Q) (l.drop n) n done a' w' (fun j => by simp [List.getElem?_drop]) (by rw [hd]; exact hL.1) (hL.2 w' hw')
    rwa [hd] at this) _ _ _ _ hC H
  rwa [ht, show n + (l.toArray.size - n) = l.toArray.size by omega] at this
end
/-- The class: what lay there before lies there still. -/
theorem region_below_tail {P : Program} {id : Nat} {Q : Exit → Act → World → Prop} {a : Act} {w : World} {l : List Oper} (n : Nat) (hm : P.follows .mixedOrders = true) (hB : Region.lexTailB .any l.toArray n = true)
    (h : wpQuiet P l.toArray (fun w' => ∃ p : Regrown, w' = grow (redrawn w p.d) p.os) (fun a' => ∀ w', (∃ p : Regrown, w' = grow (redrawn w p.d) p.os) → wpList P l.toArray Q (l.drop n) a' w') (l.take n) a) : (Code.region id l.toArray true).wp P Q a w :=
  region_quiet_tail (C := fun w' => ∃ p : Regrown, w' = grow (redrawn w p.d) p.os) n hm hB ⟨⟨w.drawn + 1, #[]⟩, by rw [grow_empty]; rfl⟩ h
end Go.Proofs.Ytbepapbfohfdkaa
