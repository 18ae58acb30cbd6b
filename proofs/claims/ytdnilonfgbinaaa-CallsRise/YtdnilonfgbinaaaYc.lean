/- A map whose elements are sets: who waits, and for whom: how it is read and written. Who may be next, and who leads to one, among those that wait: plain. waits.ready: the least one that waits for none. waits.done: one is taken away. waits.leading: all that lead to one. -/
import Derived.Test.YtdnilonfgbinaaaYa
import Derived.Test.YtdnilonfgbinaaaTe
import Derived.Test.YtdnilonfgbinaaaYb
import Derived.Test.YtdnilonfgbinaaaNh
namespace Go.Proofs.Ytdnilonfgbinaaa
open Go.RowKit Go.Sort Go.MapKept Go.ChangeMaps

/-- How an element that is a map reads: by its block. -/
def mapElem : Value → Option (DataW Nat × List MemPlace)
  | .map (some b) => some (.held b, [])
  | _ => none
theorem mapElem_inv {v : Value} {z : DataW Nat × List MemPlace} (h : mapElem v = some z) : ∃ b, v = .map (some b) ∧ z = (.held b, []) := by
  unfold mapElem at h
  split at h
  · exact ⟨_, rfl, (Option.some.inj h).symm⟩
  · cases h
/-- What the map says: its keys, and where each one's set lies. -/
structure Om (D : DataW Nat) (s : List Nat) (bx : Nat → Nat) : Prop where
  size : Maps.size D = s.length
  nd : s.Nodup
  le : ∀ k ∈ s, k ≤ 4611686018427387904
  has : ∀ z : Int, Maps.has D (.int .i64 z) = hasI s z
  at_ : ∀ k ∈ s, ∀ zd, D.atKey (.int .i64 (k : Int)) zd = .held (bx k)
theorem lit_ne {x z : Int} (h : x ≠ z) : Lit.int .i64 x ≠ Lit.int .i64 z := fun e => by cases e; exact h rfl
theorem Om.put {D : DataW Nat} {s : List Nat} {bx : Nat → Nat} (h : Om D s bx) (ht : Maps.Tidy D) {k : Nat} (hk : k ∉ s) (hk6 : k ≤ 4611686018427387904) (c : Nat) : Om (D.put (.int .i64 (k : Int)) (.held c)) (k :: s) (fun x => if x = k then c else bx x) := by
  have hno : Maps.has D (.int .i64 (k : Int)) = false := by rw [h.has, hasI_nat]; exact decide_eq_false hk
  refine ⟨?_, List.nodup_cons.2 ⟨hk, h.nd⟩, fun x hx => ?_, fun z => ?_, fun x hx zd => ?_⟩
  · rw [Maps.size_put ht, hno, if_neg (by simp), h.size]; rfl
  · rcases List.mem_cons.1 hx with rfl | hx
    · exact hk6
    · exact h.le x hx
  · rw [hasI_cons]
    by_cases e : (k : Int) = z
    · subst e
      rw [Maps.has_put_same ht.isMap (by trivial), decide_eq_true rfl, Bool.true_or]
    · rw [Maps.has_put_other (lit_ne (Ne.symm e)), h.has, decide_eq_false e, Bool.false_or]
  · rcases List.mem_cons.1 hx with rfl | hx
    · rw [Maps.atKey_put_same ht.isMap (by trivial), if_pos rfl]
    · have hne : x ≠ k := fun e => hk (e ▸ hx)
      rw [Maps.atKey_put_other (lit_ne (by omega)), if_neg hne]
      exact h.at_ x hx zd
theorem erase_len (s : List Nat) (k : Nat) : (s.erase k).length = s.length - (if k ∈ s then 1 else 0) := by
  split
  · rename_i h; exact List.length_erase_of_mem h
  · rename_i h; rw [List.erase_of_not_mem h]; rfl
theorem mem_er {s : List Nat} (hn : s.Nodup) {k x : Nat} : x ∈ s.erase k ↔ x ∈ s ∧ x ≠ k := by rw [hn.mem_erase_iff]; exact And.comm
theorem ne_mem {s : List Nat} {k x : Nat} (hk : k ∉ s) (hx : x ∈ s) : x ≠ k := fun e => hk (e ▸ hx)
theorem hasI_erase {s : List Nat} (hn : s.Nodup) (k : Nat) {z : Int} (hz : (k : Int) ≠ z) : hasI (s.erase k) z = hasI s z := by
  unfold hasI
  rw [Bool.eq_iff_iff, List.any_eq_true, List.any_eq_true]
  constructor
  · rintro ⟨x, hx, e⟩
    exact ⟨x, ((mem_er hn).1 hx).1, e⟩
  · rintro ⟨x, hx, e⟩
    refine ⟨x, (mem_er hn).2 ⟨hx, ?_⟩, e⟩
    rintro rfl
    exact hz (of_decide_eq_true e)
theorem del_size {H : Type} {D : DataW H} (ht : Maps.Tidy D) {s : List Nat} (hs : Maps.size D = s.length) (hh : ∀ z : Int, Maps.has D (.int .i64 z) = hasI s z) (k : Nat) : Maps.size (D.del (.int .i64 (k : Int))) = (s.erase k).length := by
  have h1 := Maps.size_del (k := .int .i64 (k : Int)) ht
  rw [hh, hasI_nat, hs] at h1
  rw [erase_len]
  by_cases hk : k ∈ s
  · have := List.length_pos_of_mem hk
    rw [decide_eq_true hk, if_pos rfl] at h1
    rw [if_pos hk]
    omega
  · rw [decide_eq_false hk, if_neg (by simp)] at h1
    rw [if_neg hk]
    omega
theorem del_has {H : Type} {D : DataW H} {s : List Nat} (hn : s.Nodup) (hh : ∀ z : Int, Maps.has D (.int .i64 z) = hasI s z) (k : Nat) (z : Int) : Maps.has (D.del (.int .i64 (k : Int))) (.int .i64 z) = hasI (s.erase k) z := by
  by_cases e : (k : Int) = z
  · subst e
    rw [Maps.has_del_same, hasI_nat, decide_eq_false (fun h => ((mem_er hn).1 h).2 rfl)]
  · rw [Maps.has_del_other (lit_ne (Ne.symm e)), hh, hasI_erase hn k e]
theorem Om.del {D : DataW Nat} {s : List Nat} {bx : Nat → Nat} (h : Om D s bx) (ht : Maps.Tidy D) (k : Nat) : Om (D.del (.int .i64 (k : Int))) (s.erase k) bx := by
  refine ⟨del_size ht h.size h.has k, h.nd.erase k, fun x hx => h.le x ((mem_er h.nd).1 hx).1, del_has h.nd h.has k, fun x hx zd => ?_⟩
  obtain ⟨h1, h2⟩ := (mem_er h.nd).1 hx
  rw [Maps.atKey_del_other (lit_ne (by omega))]
  exact h.at_ x h1 zd
/-- A number is taken from a set. -/
theorem Mst.drop {W : World} {b : Nat} {s : List Nat} (h : Mst W b s) (k : Nat) (hk6 : k ≤ 4611686018427387904) :
    ∃ W', (∀ ty, (Builtin.delete_ #[48, 3] ty #[.map (some b), .int .i64 (k : Int)]).run Try.prog W = .ok (.tuple #[]) W') ∧ Mst W' b (s.erase k) ∧ W.grownBy W' (some b) ∧ W'.heap.size = W.heap.size := by
  obtain ⟨D, h, hs, hn, h6, hh⟩ := h
  have htd := h.tidy keyedN
  have hki : I64 (k : Int) := ⟨by omega, by omega⟩
  have hky : keyOf Try.prog 3 (.int .i64 (k : Int)) = some (.int .i64 (k : Int)) := Maps.keyOf_int_mk Try.underlying3 (a := (k : Int)) (by simp [Lit.wf]; exact hki)
  obtain ⟨W', hr, ho, hg⟩ := h.drop keyedN Try.underlying48 hky 3
  have hsz := del_size htd hs hh k
  have ho2 := map_tight ho
  rw [hsz] at ho2
  refine ⟨W', fun ty => hr, ⟨_, ho2, hsz, hn.erase k, fun x hx => h6 x ((mem_er hn).1 hx).1, del_has hn hh k⟩, hg.grown, ?_⟩
  obtain ⟨es, clock, es', clock', hb, rfl⟩ := hg
  simp [setBlock]
theorem Mst.len {W : World} {b : Nat} {s : List Nat} (h : Mst W b s) (ty : TypeId) : (Builtin.len_ #[48] ty #[.map (some b)]).run Try.prog W = .ok (.int .i64 (s.length : Int)) W := by
  obtain ⟨D, h, hs, _⟩ := h
  rw [← hs]
  exact h.len Try.underlying48 ty
/-- Where the sets lie: each one apart. -/
structure Wi (N : Nat) (b : Nat) (s : List Nat) (bx : Nat → Nat) (gs : Nat → List Nat) (W : World) : Prop where
  lb : N ≤ b
  li : ∀ k ∈ s, N ≤ bx k ∧ bx k ≠ b
  inj : ∀ k ∈ s, ∀ j ∈ s, bx k = bx j → k = j
  m : ∀ k ∈ s, Mst W (bx k) (gs k)
  len : ∀ k ∈ s, (gs k).length ≤ 1024
/-- A map of sets. -/
def Wa (N : Nat) (b : Nat) (s : List Nat) (gs : Nat → List Nat) (W : World) : Prop := ∃ D bx, W.ownsMap Try.prog 3 mapElem b s.length D ∧ Om D s bx ∧ Wi N b s bx gs W
theorem Wi.grown {N b : Nat} {s : List Nat} {bx : Nat → Nat} {gs : Nat → List Nat} {W W' : World} {row : Option Nat} (h : Wi N b s bx gs W) (hg : W.grownBy W' row) (hr : ∀ k ∈ s, row ≠ some (bx k)) : Wi N b s bx gs W' :=
  ⟨h.lb, h.li, h.inj, fun k hk => (h.m k hk).kept hg (hr k hk), h.len⟩
theorem Wa.stay {N b : Nat} {s : List Nat} {gs : Nat → List Nat} {W W' : World} (h : Wa N b s gs W) (hb : Below W.heap.size W W') : Wa N b s gs W' := by
  obtain ⟨D, bx, h1, h2, h3⟩ := h
  have hg : W'.heap[b]? = W.heap[b]? := hb.block b h1.lt
  obtain ⟨es, clock, hbk, hr⟩ := h1
  exact ⟨D, bx, ⟨es, clock, hg.trans hbk, hr⟩, h2, ⟨h3.lb, h3.li, h3.inj, fun k hk => (h3.m k hk).stay hb, h3.len⟩⟩
theorem Wa.lt {N b : Nat} {s : List Nat} {gs : Nat → List Nat} {W : World} (h : Wa N b s gs W) : b < W.heap.size := by obtain ⟨D, bx, h1, _⟩ := h; exact h1.lt
theorem Wa.nd {N b : Nat} {s : List Nat} {gs : Nat → List Nat} {W : World} (h : Wa N b s gs W) : s.Nodup := by obtain ⟨D, bx, h1, h2, _⟩ := h; exact h2.nd
theorem Wa.len {N b : Nat} {s : List Nat} {gs : Nat → List Nat} {W : World} (h : Wa N b s gs W) (ty : TypeId) : (Builtin.len_ #[58] ty #[.map (some b)]).run Try.prog W = .ok (.int .i64 (s.length : Int)) W := by
  obtain ⟨D, bx, h1, h2, _⟩ := h
  rw [← h2.size]
  exact h1.len Try.underlying58 ty
/-- All that the map is made of lies from N on. -/
theorem Wa.keep {N b : Nat} {s : List Nat} {gs : Nat → List Nat} {W W' : World} {row : Option Nat} (h : Wa N b s gs W) (hg : W.grownBy W' row) (hr : ∀ k, row = some k → ∃ cs T fz, W.heap[k]? = some (.cells cs T fz)) : Wa N b s gs W' := by
  obtain ⟨D, bx, h1, h2, h3⟩ := h
  have hb : some b ≠ row := fun e => by
    obtain ⟨cs, T, fz, hk⟩ := hr b e.symm
    obtain ⟨es, clock, hbk, _⟩ := h1
    rw [hbk] at hk
    cases hk
  refine ⟨D, bx, h1.kept hg hb, h2, h3.grown hg fun k hk e => ?_⟩
  obtain ⟨cs, T, fz, hc⟩ := hr _ e
  exact (h3.m k hk).ne hc rfl
/-- A new set at a new key. -/
theorem Wa.put {N b : Nat} {s : List Nat} {gs : Nat → List Nat} {W : World} (h : Wa N b s gs W) {k c : Nat} {g : List Nat} (hk : k ∉ s) (hk6 : k ≤ 4611686018427387904) (hl : s.length ≤ 1000000) (hc : Mst W c g) (hgl : g.length ≤ 1024) (hN : N ≤ c) (hb : c ≠ b) (hn : ∀ D bx, W.ownsMap Try.prog 3 mapElem b s.length D → Wi N b s bx gs W → ∀ j ∈ s, bx j ≠ c) :
    ∃ W', (Instr.mapUpdate 58 (.map (some b)) (.int .i64 (k : Int)) (.map (some c))).run Try.prog W = .ok () W' ∧ Wa N b (k :: s) (fun x => if x = k then g else gs x) W' ∧ W.grownBy W' (some b) := by
  obtain ⟨D, bx, h1, h2, h3⟩ := h
  have hno := hn D bx h1 h3
  have htd := h1.tidy keyedN
  have hki : I64 (k : Int) := ⟨by omega, by omega⟩
  obtain ⟨W', hr, ho, hg⟩ := h1.update keyedN Try.underlying58 (by unfold maxLen; omega) (key := .int .i64 (k : Int)) (val := .map (some c)) (d := .held c) (ps := []) (Maps.keyOf_int_mk Try.underlying3 (a := (k : Int)) (by simp [Lit.wf]; exact hki)) rfl
  refine ⟨W', hr, ⟨_, _, ho, h2.put htd hk hk6 c, h3.lb, ?_, ?_, ?_, ?_⟩, hg⟩
  · intro x hx
    rcases List.mem_cons.1 hx with rfl | hx
    · rw [if_pos rfl]; exact ⟨hN, hb⟩
    · rw [if_neg (ne_mem hk hx)]; exact h3.li x hx
  · intro x hx y hy e
    by_cases e1 : x = k <;> by_cases e2 : y = k
    · rw [e1, e2]
    · rw [if_pos e1, if_neg e2] at e
      exact absurd e.symm (hno y ((List.mem_cons.1 hy).resolve_left e2))
    · rw [if_pos e2, if_neg e1] at e
      exact absurd e (hno x ((List.mem_cons.1 hx).resolve_left e1))
    · rw [if_neg e1, if_neg e2] at e
      exact h3.inj x ((List.mem_cons.1 hx).resolve_left e1) y ((List.mem_cons.1 hy).resolve_left e2) e
  · intro x hx
    rcases List.mem_cons.1 hx with rfl | hx
    · rw [if_pos rfl, if_pos rfl]; exact hc.kept hg (fun e => hb (Option.some.inj e).symm)
    · rw [if_neg (ne_mem hk hx), if_neg (ne_mem hk hx)]
      exact (h3.m x hx).kept hg (fun e => (h3.li x hx).2 (Option.some.inj e).symm)
  · intro x hx
    rcases List.mem_cons.1 hx with rfl | hx
    · rw [if_pos rfl]; exact hgl
    · rw [if_neg (ne_mem hk hx)]; exact h3.len x hx
end Go.Proofs.Ytdnilonfgbinaaa
namespace Go.Proofs.Ytdnilonfgbinaaa
open Go.RowKit Go.Sort

/-- Behind a step of a loop over a map one key less is to come. -/
def lessOne (left : Lit → Bool) (k : Nat) : Lit → Bool := fun z => left z && !z.sameKey (.int .i64 (k : Int))
theorem less_or {left : Lit → Bool} {k j : Nat} (h : lessOne left k (.int .i64 (j : Int)) = false) : left (.int .i64 (j : Int)) = false ∨ j = k := by
  unfold lessOne at h
  rw [lit_same] at h
  cases hl : left (.int .i64 (j : Int))
  · exact .inl rfl
  · rw [hl, Bool.true_and] at h
    by_cases e : (j : Int) = (k : Int)
    · exact .inr (by omega)
    · rw [decide_eq_false e] at h
      cases h
theorem less_left {left : Lit → Bool} {k j : Nat} (h : lessOne left k (.int .i64 (j : Int)) = true) : left (.int .i64 (j : Int)) = true ∧ j ≠ k := by
  unfold lessOne at h
  rw [lit_same, Bool.and_eq_true] at h
  refine ⟨h.1, ?_⟩
  rintro rfl
  have := h.2
  simp at this
/-- The least one that waits for none, among those that were met. -/
def RyI (s : List Nat) (gs : Nat → List Nat) (left : Lit → Bool) (least : Nat) (found : Bool) : Prop :=
  (found = false ∧ least = 0 ∧ ∀ k ∈ s, left (.int .i64 (k : Int)) = false → gs k ≠ []) ∨ (found = true ∧ least ∈ s ∧ gs least = [] ∧ ∀ k ∈ s, left (.int .i64 (k : Int)) = false → gs k = [] → least ≤ k)
theorem RyI.start {s : List Nat} {gs : Nat → List Nat} {left : Lit → Bool} (h : ∀ k ∈ s, left (.int .i64 (k : Int)) = true) : RyI s gs left 0 false := .inl ⟨rfl, rfl, fun k hk e => by rw [h k hk] at e; cases e⟩
theorem RyI.pass {s : List Nat} {gs : Nat → List Nat} {left : Lit → Bool} {least k : Nat} {found : Bool} (h : RyI s gs left least found) (hk : gs k ≠ [] ∨ found = true ∧ least ≤ k) : RyI s gs (lessOne left k) least found := by
  rcases h with ⟨h1, h2, h3⟩ | ⟨h1, h2, h3, h4⟩
  · refine .inl ⟨h1, h2, fun j hj e => ?_⟩
    rcases less_or e with e | rfl
    · exact h3 j hj e
    · rcases hk with hk | ⟨hk, _⟩
      · exact hk
      · rw [h1] at hk; cases hk
  · refine .inr ⟨h1, h2, h3, fun j hj e hg => ?_⟩
    rcases less_or e with e | rfl
    · exact h4 j hj e hg
    · rcases hk with hk | ⟨_, hk⟩
      · exact absurd hg hk
      · exact hk
theorem RyI.take {s : List Nat} {gs : Nat → List Nat} {left : Lit → Bool} {least k : Nat} {found : Bool} (h : RyI s gs left least found) (hs : k ∈ s) (hg : gs k = []) (hk : found = false ∨ k < least) : RyI s gs (lessOne left k) k true := by
  refine .inr ⟨rfl, hs, hg, fun j hj e hgj => ?_⟩
  rcases less_or e with e | rfl
  · rcases h with ⟨h1, h2, h3⟩ | ⟨h1, h2, h3, h4⟩
    · exact absurd hgj (h3 j hj e)
    · rcases hk with hk | hk
      · rw [h1] at hk; cases hk
      · have := h4 j hj e hgj; omega
  · exact Nat.le_refl _
/-- What ready tells. -/
def RyO (s : List Nat) (gs : Nat → List Nat) (least : Nat) (found : Bool) : Prop := (found = false ∧ ∀ k ∈ s, gs k ≠ []) ∨ (found = true ∧ least ∈ s ∧ gs least = [] ∧ ∀ k ∈ s, gs k = [] → least ≤ k)
theorem RyI.done {s : List Nat} {gs : Nat → List Nat} {left : Lit → Bool} {least : Nat} {found : Bool} (h : RyI s gs left least found) (hl : ∀ z, left z = false) : RyO s gs least found := by
  rcases h with ⟨h1, h2, h3⟩ | ⟨h1, h2, h3, h4⟩
  · exact .inl ⟨h1, fun k hk => h3 k hk (hl _)⟩
  · exact .inr ⟨h1, h2, h3, fun k hk => h4 k hk (hl _)⟩

/-- In the map one waits for another one. -/
def Gw (s : List Nat) (gs : Nat → List Nat) (k y : Nat) : Prop := k ∈ s ∧ y ∈ gs k
/-- The search of those that lead to t: al is met, bh waits. -/
structure LgO (s : List Nat) (gs : Nat → List Nat) (t : Nat) (al bh : List Nat) : Prop where
  nd : al.Nodup
  so : ∀ k ∈ al, k ∈ s ∧ Ld (Gw s gs) k t
  sr : ∀ x ∈ bh, x = t ∨ x ∈ al
  cl : ∀ x, (x = t ∨ x ∈ al) → x ∉ bh → ∀ k ∈ s, x ∈ gs k → k ∈ al
  ln : bh.length ≤ al.length + 1
structure LgI (s : List Nat) (gs : Nat → List Nat) (t a : Nat) (left : Lit → Bool) (al bh : List Nat) : Prop where
  nd : al.Nodup
  so : ∀ k ∈ al, k ∈ s ∧ Ld (Gw s gs) k t
  sr : ∀ x ∈ bh, x = t ∨ x ∈ al
  ha : a = t ∨ a ∈ al
  cl : ∀ x, (x = t ∨ x ∈ al) → x ∉ bh → x ≠ a → ∀ k ∈ s, x ∈ gs k → k ∈ al
  vi : ∀ k ∈ s, left (.int .i64 (k : Int)) = false → a ∈ gs k → k ∈ al
  ln : bh.length ≤ al.length
theorem LgO.start (s : List Nat) (gs : Nat → List Nat) (t : Nat) : LgO s gs t [] [t] :=
  ⟨List.nodup_nil, (fun _ h => by cases h), fun x h => .inl (List.mem_singleton.1 h), (fun x h hb => by
    rcases h with rfl | h
    · exact absurd (List.mem_singleton.2 rfl) hb
    · cases h), Nat.le_refl _⟩
theorem LgO.pop {s : List Nat} {gs : Nat → List Nat} {t a : Nat} {al bh : List Nat} {left : Lit → Bool} (h : LgO s gs t al (bh ++ [a])) (hl : ∀ k ∈ s, left (.int .i64 (k : Int)) = true) : LgI s gs t a left al bh := by
  refine ⟨h.nd, h.so, fun x hx => h.sr x (List.mem_append_left _ hx), h.sr a (by simp), fun x hx hb hxa => h.cl x hx (fun hm => ?_), (fun k hk e => by rw [hl k hk] at e; cases e), ?_⟩
  · rcases List.mem_append.1 hm with hm | hm
    · exact hb hm
    · exact hxa (List.mem_singleton.1 hm)
  · have := h.ln
    rw [List.length_append] at this
    simp at this
    exact this
theorem LgI.pass {s : List Nat} {gs : Nat → List Nat} {t a k : Nat} {al bh : List Nat} {left : Lit → Bool} (h : LgI s gs t a left al bh) (hk : a ∉ gs k ∨ k ∈ al) : LgI s gs t a (lessOne left k) al bh := by
  refine ⟨h.nd, h.so, h.sr, h.ha, h.cl, fun j hj e hg => ?_, h.ln⟩
  rcases less_or e with e | rfl
  · exact h.vi j hj e hg
  · rcases hk with hk | hk
    · exact absurd hg hk
    · exact hk
theorem LgI.add {s : List Nat} {gs : Nat → List Nat} {t a k : Nat} {al bh : List Nat} {left : Lit → Bool} (h : LgI s gs t a left al bh) (hs : k ∈ s) (hk : a ∈ gs k) (hn : k ∉ al) : LgI s gs t a (lessOne left k) (k :: al) (bh ++ [k]) := by
  refine ⟨List.nodup_cons.2 ⟨hn, h.nd⟩, fun x hx => ?_, fun x hx => ?_, ?_, fun x hx hb hxa j hj hg => ?_, fun j hj e hg => ?_, ?_⟩
  · rcases List.mem_cons.1 hx with rfl | hx
    · refine ⟨hs, ?_⟩
      rcases h.ha with e | e
      · exact e ▸ .one ⟨hs, hk⟩
      · exact .on ⟨hs, hk⟩ (h.so a e).2
    · exact h.so x hx
  · rcases List.mem_append.1 hx with hx | hx
    · rcases h.sr x hx with e | e
      · exact .inl e
      · exact .inr (List.mem_cons_of_mem _ e)
    · rw [List.mem_singleton] at hx
      exact .inr (hx ▸ List.mem_cons_self ..)
  · rcases h.ha with e | e
    · exact .inl e
    · exact .inr (List.mem_cons_of_mem _ e)
  · have hb2 : x ∉ bh := fun e => hb (List.mem_append_left _ e)
    have hxk : x ≠ k := fun e => hb (by simp [e])
    have hx2 : x = t ∨ x ∈ al := by
      rcases hx with e | e
      · exact .inl e
      · rcases List.mem_cons.1 e with e | e
        · exact absurd e hxk
        · exact .inr e
    exact List.mem_cons_of_mem _ (h.cl x hx2 hb2 hxa j hj hg)
  · rcases less_or e with e | rfl
    · exact List.mem_cons_of_mem _ (h.vi j hj e hg)
    · exact List.mem_cons_self ..
  · have := h.ln
    rw [List.length_append, List.length_cons]
    simp
    omega
theorem LgI.done {s : List Nat} {gs : Nat → List Nat} {t a : Nat} {al bh : List Nat} {left : Lit → Bool} (h : LgI s gs t a left al bh) (hl : ∀ z, left z = false) : LgO s gs t al bh :=
  ⟨h.nd, h.so, h.sr, fun x hx hb k hk hg => by
    by_cases e : x = a
    · subst e
      exact h.vi k hk (hl _) hg
    · exact h.cl x hx hb e k hk hg, Nat.le_succ_of_le h.ln⟩
theorem LgO.fin {s : List Nat} {gs : Nat → List Nat} {t : Nat} {al : List Nat} (h : LgO s gs t al []) : ∀ k, k ∈ al ↔ Ld (Gw s gs) k t := by
  intro k
  constructor
  · exact fun hk => (h.so k hk).2
  · intro hk
    induction hk with
    | one e => exact h.cl _ (.inl rfl) (by simp) _ e.1 e.2
    | on e _ ih => exact h.cl _ (.inr (ih h)) (by simp) _ e.1 e.2
theorem LgI.len {s : List Nat} {gs : Nat → List Nat} {t a : Nat} {al bh : List Nat} {left : Lit → Bool} (h : LgI s gs t a left al bh) : al.length ≤ s.length := subU_len h.nd fun x hx => (h.so x hx).1
theorem LgO.len {s : List Nat} {gs : Nat → List Nat} {t : Nat} {al bh : List Nat} (h : LgO s gs t al bh) : al.length ≤ s.length := subU_len h.nd fun x hx => (h.so x hx).1
theorem LgI.room {s : List Nat} {gs : Nat → List Nat} {t a k : Nat} {al bh : List Nat} {left : Lit → Bool} (h : LgI s gs t a left al bh) (hs : k ∈ s) (hn : k ∉ al) : al.length + 1 ≤ s.length :=
  subU_len (a := k :: al) (List.nodup_cons.2 ⟨hn, h.nd⟩) fun x hx => by
    rcases List.mem_cons.1 hx with rfl | hx
    · exact hs
    · exact (h.so x hx).1
end Go.Proofs.Ytdnilonfgbinaaa
namespace Go.Proofs.Ytdnilonfgbinaaa
open Go.RowKit Go.Sort Go.MapKept Go.ChangeMaps

theorem map_inv (v : Value) (y : DataW Nat × List MemPlace) (hv : mapElem v = some y) : ∃ c : Nat, v = .map (some c) := by
  obtain ⟨c, rfl, _⟩ := mapElem_inv hv
  exact ⟨c, rfl⟩
theorem key_inv (key : Value) (kl : Lit) (hk : keyOf Try.prog 3 key = some kl) : ∃ x : Int, key = .int .i64 x := by
  obtain ⟨x, hx, _⟩ := Maps.keyOf_int_inv Try.underlying3 hk
  exact ⟨x, hx⟩
/-- What a step of a loop over the map meets: a key, and its set. -/
theorem Om.met {D : DataW Nat} {s : List Nat} {bx : Nat → Nat} (h : Om D s bx) {x : Int} {c : Nat} {kl : Lit} {y : DataW Nat × List MemPlace} (hkey : keyOf Try.prog 3 (.int .i64 x) = some kl) (hv : mapElem (.map (some c)) = some y) (hat : ∀ zd, D.atKey kl zd = y.1) :
    ∃ k : Nat, x = (k : Int) ∧ kl = .int .i64 (k : Int) ∧ k ∈ s ∧ c = bx k := by
  obtain ⟨x', ex, rfl, _⟩ := Maps.keyOf_int_inv Try.underlying3 hkey
  injection ex with _ ex
  subst ex
  have hhx : Maps.has D (.int .i64 x) = true := Maps.has_true_of_atKey hat
  rw [h.has] at hhx
  obtain ⟨k, hks, ek⟩ := List.any_eq_true.1 hhx
  rw [decide_eq_true_eq] at ek
  subst ek
  refine ⟨k, rfl, rfl, hks, ?_⟩
  have h1 := h.at_ k hks .nil
  rw [hat] at h1
  obtain ⟨c', e1, e2⟩ := mapElem_inv hv
  rw [e2] at h1
  cases e1
  cases h1
  rfl
theorem has_all {D : DataW Nat} {s : List Nat} {bx : Nat → Nat} (h : Om D s bx) : ∀ k ∈ s, Maps.has D (.int .i64 (k : Int)) = true := fun k hk => by rw [h.has, hasI_nat]; exact decide_eq_true hk
theorem Wi.stay {N b : Nat} {s : List Nat} {bx : Nat → Nat} {gs : Nat → List Nat} {W W' : World} (h : Wi N b s bx gs W) (hb : Below W.heap.size W W') : Wi N b s bx gs W' := ⟨h.lb, h.li, h.inj, fun k hk => (h.m k hk).stay hb, h.len⟩
def RyP (s : List Nat) (gs : Nat → List Nat) (w : World) (e : Ending) (w' : World) : Prop := ∃ (least : Nat) (found : Bool), e = .returned (.tuple #[.int .i64 (least : Int), .bool found]) ∧ RyO s gs least found ∧ Below w.heap.size w w'
set_option maxRecDepth 100000 in
set_option maxHeartbeats 4000000 in
theorem ready_any (N b : Nat) (s : List Nat) (gs : Nat → List Nat) (w : World) (h : Wa N b s gs w) : Calls Try.prog 21 #[.map (some b)] w (RyP s gs w) := by
  obtain ⟨D, bx, hown, hom, hwi⟩ := h
  have HOM := Hid.mk' hom
  have HWI := Hid.mk' hwi
  have hsz := hom.size
  clear hom hwi
  go_enter Try.func21, Try.ntmps21
  go_wp2_with (at_range; refine wpList_range_own _ rfl _ 58 rfl 3 48 keyedN Try.underlying58 _ b s.length D rfl hown ?_; intro w0 hrg0 hg0 hs0)
  go_frame
  have HB0 : Hid (Below w.heap.size w w0) := (Below.refl _ _).grown hg0 (Nat.le_refl _) (fun j hj => by cases hj)
  have HWI0 := Hid.mk' (HWI.out.stay HB0.out)
  clear hown hsz HWI
  go_loopw [4, 5] (fun t4 t5 wr => ∃ (left : Lit → Bool) (cnt least : Nat) (found : Bool), t4 = .int .i64 (least : Int) ∧ t5 = .bool found ∧ wr.ranges Try.prog 3 mapElem b w.heap.size s.length D left cnt ∧ RyI s gs left least found ∧ Wi N b s bx gs wr ∧ Below w.heap.size w wr)
    (fun _ _ wr => wr.rangeLeft b w.heap.size)
  case atStart => exact ⟨_, _, 0, false, rfl, rfl, hrg0, RyI.start (has_all HOM.out), HWI0.out, HB0.out⟩
  case round =>
    clear hrg0 hg0 hs0 HB0 HWI0
    obtain ⟨left, cnt, least, found, rfl, rfl, hrg, hry, hwi, hnx⟩ := hrel
    have HRY := Hid.mk' hry
    have HWI := Hid.mk' hwi
    have HNX := Hid.mk' hnx
    have HRG := Hid.mk' hrg
    clear hry hwi hnx
    go_wp2_with (at_next; refine wpList_next_ranges _ rfl _ rfl 3 keyedN mapElem (Value.int .i64) (fun c : Nat => Value.map (some c)) key_inv map_inv b w.heap.size s.length D left cnt rfl hrg ?_ ?_)
    · intro hc0 hl0
      have HO := Hid.mk' (HRY.out.done hl0)
      clear hrg hc0 hl0 HRY
      go_wp2_with fail
      go_ret2
      exact ⟨_, _, rfl, HO.out, HNX.out⟩
    · intro x c kl yd yp w2 cnt2 hkey hlk hv hat hrg2 hlt hg2 hs2 hen
      obtain ⟨k, rfl, rfl, hks, rfl⟩ := HOM.out.met (y := (yd, yp)) hkey hv hat
      have HWI2 : Hid (Wi N b s bx gs w2) := HWI.out.grown hg2 fun j hj e => by
        obtain ⟨D', ⟨es, clock, hb, _⟩, _⟩ := HWI.out.m j hj
        obtain ⟨_, _, _, _, _, _, _, _, _, hr, _⟩ := HRG.out
        injection e with e
        rw [e, hb] at hr
        cases hr
      have HB2 := Hid.mk' (HNX.out.grown hg2 HNX.out.size (fun j hj => by injection hj with hj; omega))
      have hlen := (HWI2.out.m k hks).len 3
      have HR2 := Hid.mk' hrg2
      have HLT := Hid.mk' hlt
      have HKS := Hid.mk' hks
      clear hrg hkey hlk hv hat hrg2 hlt hg2 hs2 hks
      cases hg0 : gs k with
      | cons z zs =>
        have HP := Hid.mk' (HRY.out.pass (k := k) (.inl (by rw [hg0]; simp)))
        rw [hg0] at hlen
        have hq : (((z :: zs).length : Int) == 0) = false := beq_no (by simp; omega)
        clear hg0
        go_wp2_with fail
        go_roundw
        case rel => exact ⟨_, cnt2, least, found, rfl, rfl, HR2.out, HP.out, HWI2.out, HB2.out⟩
        case measure => rw [HR2.out.left_eq, HRG.out.left_eq]; exact HLT.out
      | nil =>
        rw [hg0] at hlen
        have HG0 := Hid.mk' hg0
        clear hg0
        cases found
        · have HP := Hid.mk' (HRY.out.take HKS.out HG0.out (.inl rfl))
          go_wp2_with fail
          go_roundw
          case rel => exact ⟨_, cnt2, k, true, rfl, rfl, HR2.out, HP.out, HWI2.out, HB2.out⟩
          case measure => rw [HR2.out.left_eq, HRG.out.left_eq]; exact HLT.out
        · by_cases hkl : k < least
          · have HP := Hid.mk' (HRY.out.take HKS.out HG0.out (.inr hkl))
            have hkli : (k : Int) < (least : Int) := by omega
            go_wp2_with fail
            go_roundw
            case rel => exact ⟨_, cnt2, k, true, rfl, rfl, HR2.out, HP.out, HWI2.out, HB2.out⟩
            case measure => rw [HR2.out.left_eq, HRG.out.left_eq]; exact HLT.out
          · have HP := Hid.mk' (HRY.out.pass (k := k) (.inr ⟨rfl, by omega⟩))
            have hkli : ¬ (k : Int) < (least : Int) := by omega
            go_wp2_with fail
            go_roundw
            case rel => exact ⟨_, cnt2, least, true, rfl, rfl, HR2.out, HP.out, HWI2.out, HB2.out⟩
            case measure => rw [HR2.out.left_eq, HRG.out.left_eq]; exact HLT.out
end Go.Proofs.Ytdnilonfgbinaaa
namespace Go.Proofs.Ytdnilonfgbinaaa
open Go.RowKit Go.Sort Go.MapKept Go.ChangeMaps

/-- All blocks but maps stay. -/
def Cel (W W' : World) : Prop := ∀ (k : Nat) (o : Obj), W.heap[k]? = some o → (∀ es c, o ≠ .map es c) → W'.heap[k]? = some o
theorem Cel.refl (W : World) : Cel W W := fun _ _ h _ => h
theorem Cel.trans {W W' W'' : World} (h : Cel W W') (k : Cel W' W'') : Cel W W'' := fun i o hi ho => k i o (h i o hi ho) ho
theorem cel_below {W W' : World} (h : Below W.heap.size W W') : Cel W W' := fun _ _ hk _ => blk_stay hk h
theorem Cel.grown {w W W' : World} {row : Option Nat} (h : Cel w W) (hg : W.grownBy W' row) (hr : ∀ k, row = some k → w.heap.size ≤ k ∨ ∃ es c, W.heap[k]? = some (.map es c)) : Cel w W' := fun k o hk ho => by
  have h1 := h k o hk ho
  refine (hg.block k (Array.getElem?_eq_some_iff.1 h1).1 fun e => ?_).trans h1
  rcases hr k e.symm with h2 | ⟨es, c, h2⟩
  · have := (Array.getElem?_eq_some_iff.1 hk).1
    omega
  · rw [h1] at h2
    injection h2 with h2
    exact ho _ _ h2
theorem own_cel {W W' : World} {N n sz : Nat} {T : TypeId} {v : Value} {xs : List Value} (h : W.ownsRow N T sz v n xs) (hc : Cel W W') : W'.ownsRow N T sz v n xs := by
  refine ⟨h.1, ?_⟩
  rcases h.2 with h1 | ⟨g, cap, cur, h1, h2, h3, h4⟩
  · exact .inl h1
  · exact .inr ⟨g, cap, cur, h1, h2, hc _ _ h3 (fun _ _ e => by cases e), h4⟩
theorem Mst.isMap {W : World} {b : Nat} {s : List Nat} (h : Mst W b s) : ∃ es c, W.heap[b]? = some (.map es c) := by
  obtain ⟨D, ⟨es, clock, hb, _⟩, _⟩ := h
  exact ⟨es, clock, hb⟩
/-- While the loop goes on: those that were met are without it. -/
def mixG (gs : Nat → List Nat) (fn : Nat) (left : Lit → Bool) (k : Nat) : List Nat := if left (.int .i64 (k : Int)) = true then gs k else (gs k).erase fn
theorem mix_less {gs : Nat → List Nat} {fn k j : Nat} {left : Lit → Bool} (h : j ≠ k) : mixG gs fn (lessOne left k) j = mixG gs fn left j := by
  unfold mixG lessOne
  rw [lit_same, decide_eq_false (show ¬ (j : Int) = (k : Int) by omega)]
  simp
theorem mix_at {gs : Nat → List Nat} {fn k : Nat} {left : Lit → Bool} : mixG gs fn (lessOne left k) k = (gs k).erase fn := by
  unfold mixG lessOne
  rw [lit_same, decide_eq_true rfl]
  simp
theorem Wi.step {N b : Nat} {s : List Nat} {bx : Nat → Nat} {gs : Nat → List Nat} {fn k : Nat} {left : Lit → Bool} {W W' : World} (h : Wi N b s bx (mixG gs fn left) W) (hk : k ∈ s) (hm : Mst W' (bx k) ((gs k).erase fn)) (hg : W.grownBy W' (some (bx k))) : Wi N b s bx (mixG gs fn (lessOne left k)) W' := by
  refine ⟨h.lb, h.li, h.inj, fun j hj => ?_, fun j hj => ?_⟩
  · by_cases e : j = k
    · subst e
      rw [mix_at]
      exact hm
    · rw [mix_less e]
      exact (h.m j hj).kept hg fun e2 => e (h.inj j hj k hk (Option.some.inj e2).symm)
  · by_cases e : j = k
    · subst e
      rw [mix_at]
      have h1 := h.len j hj
      unfold mixG at h1
      split at h1
      · exact Nat.le_trans (List.length_erase_le ..) h1
      · exact h1
    · rw [mix_less e]
      exact h.len j hj
theorem Wa.drop {N b : Nat} {s : List Nat} {gs : Nat → List Nat} {W : World} (h : Wa N b s gs W) (k : Nat) (hk6 : k ≤ 4611686018427387904) :
    ∃ W' D bx, (∀ ty, (Builtin.delete_ #[58, 3] ty #[.map (some b), .int .i64 (k : Int)]).run Try.prog W = .ok (.tuple #[]) W') ∧ W'.ownsMap Try.prog 3 mapElem b (s.erase k).length D ∧ Om D (s.erase k) bx ∧ Wi N b (s.erase k) bx gs W' ∧ W.grownBy W' (some b) ∧ W'.heap.size = W.heap.size := by
  obtain ⟨D, bx, h1, h2, h3⟩ := h
  have htd := h1.tidy keyedN
  have hki : I64 (k : Int) := ⟨by omega, by omega⟩
  have hky : keyOf Try.prog 3 (.int .i64 (k : Int)) = some (.int .i64 (k : Int)) := Maps.keyOf_int_mk Try.underlying3 (a := (k : Int)) (by simp [Lit.wf]; exact hki)
  obtain ⟨W', hr, ho, hg⟩ := h1.drop keyedN Try.underlying58 hky 3
  have ho2 := map_tight ho
  have hd := h2.del htd k
  rw [hd.size] at ho2
  have hin : ∀ j ∈ s.erase k, j ∈ s := fun j hj => ((mem_er h2.nd).1 hj).1
  refine ⟨W', _, bx, fun ty => hr, ho2, hd, ⟨h3.lb, fun j hj => h3.li j (hin j hj), fun i hi j hj => h3.inj i (hin i hi) j (hin j hj), fun j hj => (h3.m j (hin j hj)).kept hg.grown fun e => (h3.li j (hin j hj)).2 (Option.some.inj e).symm, fun j hj => h3.len j (hin j hj)⟩, hg.grown, ?_⟩
  obtain ⟨es, clock, es', clock', hb, rfl⟩ := hg
  simp [setBlock]
def DnP (N b : Nat) (s : List Nat) (gs : Nat → List Nat) (fn : Nat) (w : World) (e : Ending) (w' : World) : Prop := e = .returned (.tuple #[]) ∧ Wa N b (s.erase fn) (fun k => (gs k).erase fn) w' ∧ Below N w w' ∧ Cel w w'
set_option maxRecDepth 100000 in
set_option maxHeartbeats 4000000 in
theorem done_any (N b : Nat) (s : List Nat) (gs : Nat → List Nat) (fn : Nat) (hf6 : fn ≤ 4611686018427387904) (w : World) (h : Wa N b s gs w) (hN : N ≤ w.heap.size) : Calls Try.prog 23 #[.map (some b), .int .i64 (fn : Int)] w (DnP N b s gs fn w) := by
  have HIM : Hid (∃ es c, w.heap[b]? = some (.map es c)) := by obtain ⟨_, _, ⟨es, c, hb, _⟩, _⟩ := h; exact ⟨es, c, hb⟩
  have HLB : Hid (N ≤ b) := by obtain ⟨_, _, _, _, h3⟩ := h; exact h3.lb
  obtain ⟨W1, D, bx, hdel, hown, hom, hwi, hg1, hsz1⟩ := h.drop fn hf6
  have HOM := Hid.mk' hom
  have HB1 : Hid (Below N w W1) := (Below.refl N w).grown hg1 hN (fun k e => by cases e; exact HLB.out)
  have HC1 : Hid (Cel w W1) := (Cel.refl w).grown hg1 (fun k e => by cases e; exact .inr HIM.out)
  have HN1 : Hid (N ≤ W1.heap.size) := (by omega : N ≤ W1.heap.size)
  have HS1 := Hid.mk' hsz1
  have HWI := Hid.mk' hwi
  clear h hom hwi hg1 hsz1
  generalize hs' : s.erase fn = s' at *
  have HSE := Hid.mk' hs'
  clear hs'
  go_enter Try.func23, Try.ntmps23
  go_wp2_with (at_range; refine wpList_range_own _ rfl _ 58 rfl 3 48 keyedN Try.underlying58 _ b s'.length D rfl hown ?_; intro w0 hrg0 hg0 hs0)
  go_frame
  have HB0 : Hid (Below N w w0) := HB1.out.grown hg0 HN1.out (fun j hj => by cases hj)
  have HC0 : Hid (Cel w w0) := HC1.out.grown hg0 (fun j hj => by cases hj)
  have HN0 : Hid (N ≤ w0.heap.size) := (by have := HN1.out; omega : N ≤ w0.heap.size)
  rw [HOM.out.size] at hrg0
  have HWI0 : Hid (Wi N b s' bx (mixG gs fn (Maps.has D)) w0) := by
    have h := HWI.out.grown hg0 (fun k hk e => by cases e)
    refine ⟨h.lb, h.li, h.inj, fun k hk => ?_, fun k hk => ?_⟩
    · unfold mixG; rw [if_pos (has_all HOM.out k hk)]; exact h.m k hk
    · unfold mixG; rw [if_pos (has_all HOM.out k hk)]; exact h.len k hk
  have HSW : Hid (w.heap.size = W1.heap.size) := HS1.out.symm
  clear hown HWI HB1 HC1 HN1 hdel HS1
  generalize hr : W1.heap.size = r at *
  clear hr
  go_loopw [] (fun wr => ∃ (left : Lit → Bool) (cnt : Nat), wr.ranges Try.prog 3 mapElem b r s'.length D left cnt ∧ Wi N b s' bx (mixG gs fn left) wr ∧ Below N w wr ∧ Cel w wr ∧ N ≤ wr.heap.size)
    (fun wr => wr.rangeLeft b r)
  case atStart => exact ⟨_, _, hrg0, HWI0.out, HB0.out, HC0.out, HN0.out⟩
  case round =>
    clear hrg0 hg0 hs0 HB0 HWI0 HC0 HN0
    obtain ⟨left, cnt, hrg, hwi, hbl, hce, hnn⟩ := hrel
    have HWI := Hid.mk' hwi
    have HBL := Hid.mk' hbl
    have HCE := Hid.mk' hce
    have HNN := Hid.mk' hnn
    have HRG := Hid.mk' hrg
    clear hwi hbl hce hnn
    go_wp2_with (at_next; refine wpList_next_ranges _ rfl _ rfl 3 keyedN mapElem (Value.int .i64) (fun c : Nat => Value.map (some c)) key_inv map_inv b r s'.length D left cnt rfl hrg ?_ ?_)
    · intro hc0 hl0
      have HO : Hid (Wa N b s' (fun k => (gs k).erase fn) wr) := by
        refine ⟨D, bx, HRG.out.owns, HOM.out, ⟨HWI.out.lb, HWI.out.li, HWI.out.inj, fun k hk => ?_, fun k hk => ?_⟩⟩
        · have h := HWI.out.m k hk
          unfold mixG at h
          rw [hl0] at h
          simpa using h
        · have h := HWI.out.len k hk
          unfold mixG at h
          rw [hl0] at h
          simpa using h
      clear hrg hc0 hl0
      go_wp2_with fail
      go_end0
      exact ⟨rfl, by rw [HSE.out]; exact HO.out, HBL.out, HCE.out⟩
    · intro x c kl yd yp w2 cnt2 hkey hlk hv hat hrg2 hlt hg2 hs2 hen
      obtain ⟨k, rfl, rfl, hks, rfl⟩ := HOM.out.met (y := (yd, yp)) hkey hv hat
      have hrr : ∀ j ∈ s', some r ≠ some (bx j) := fun j hj e => by
        obtain ⟨es, clock, hb⟩ := (HWI.out.m j hj).isMap
        obtain ⟨_, _, _, _, _, _, _, _, _, hr, _⟩ := HRG.out
        injection e with e
        rw [e, hb] at hr
        cases hr
      have HWI2 := Hid.mk' (HWI.out.grown hg2 hrr)
      have HB2 := Hid.mk' (HBL.out.grown hg2 HNN.out (fun j hj => by injection hj with hj; have := HSW.out; omega))
      have HC2 := Hid.mk' (HCE.out.grown hg2 (fun j hj => by injection hj with hj; have := HSW.out; exact .inl (by omega)))
      have HN2 : Hid (N ≤ w2.heap.size) := (by have := HNN.out; omega : N ≤ w2.heap.size)
      have hmk : Mst w2 (bx k) (gs k) := by
        have h := HWI2.out.m k hks
        unfold mixG at h
        rw [if_pos hlk] at h
        exact h
      obtain ⟨W3, hd3, hm3, hg3, hs3⟩ := hmk.drop fn hf6
      have HIM3 := Hid.mk' hmk.isMap
      have HWI3 := Hid.mk' (HWI2.out.step hks hm3 hg3)
      have hbr : some b ≠ some (bx k) := fun e => (HWI2.out.li k hks).2 (Option.some.inj e).symm
      have HR3 := Hid.mk' (hrg2.kept hg3 hbr (hrr k hks))
      have HB3 := Hid.mk' (HB2.out.grown hg3 HN2.out (fun j hj => by injection hj with hj; have := (HWI2.out.li k hks).1; omega))
      have HC3 := Hid.mk' (HC2.out.grown hg3 (fun j hj => by injection hj with hj; subst hj; exact .inr HIM3.out))
      have HN3 : Hid (N ≤ W3.heap.size) := (by have := HN2.out; omega : N ≤ W3.heap.size)
      have HLT := Hid.mk' hlt
      have HG3 := Hid.mk' hg3
      clear hrg hkey hlk hv hat hrg2 hlt hg2 hs2 hks hrr hmk hm3 hg3 hs3 hbr
      go_wp2_with fail
      go_roundw
      case rel => exact ⟨_, cnt2, HR3.out, HWI3.out, HB3.out, HC3.out, HN3.out⟩
      case measure => rw [HR3.out.left_eq, HRG.out.left_eq]; exact HLT.out
end Go.Proofs.Ytdnilonfgbinaaa
namespace Go.Proofs.Ytdnilonfgbinaaa
open Go.RowKit Go.Sort Go.MapKept Go.ChangeMaps

def mpS (W : World) (b : Nat) : Nat := match W.heap[b]? with | some (.map es _) => es.size | _ => 0
theorem mps_of {W : World} {b : Nat} {s : List Nat} (h : Mst W b s) : mpS W b = s.length := by
  obtain ⟨D, ⟨es, clock, hb, _, _, rfl⟩, hs, _⟩ := h
  unfold mpS
  rw [hb]
  rw [← hs]
  simp [Maps.size, DataW.length_sorted]
theorem lhas_yes (b : Nat) (s : List Nat) (k : Nat) (w : World) (h : Mst w b s) (hk : k ∈ s) (h6 : k ≤ 4611686018427387904) : Calls Try.prog 31 #[.map (some b), .int .i64 (k : Int)] w fun e w' => e = .returned (.bool true) ∧ Below w.heap.size w w' := by
  have := lhas_any b s (k : Int) w h ⟨by omega, by omega⟩
  rwa [hasI_nat, decide_eq_true hk] at this
theorem lhas_no (b : Nat) (s : List Nat) (k : Nat) (w : World) (h : Mst w b s) (hk : k ∉ s) (h6 : k ≤ 4611686018427387904) : Calls Try.prog 31 #[.map (some b), .int .i64 (k : Int)] w fun e w' => e = .returned (.bool false) ∧ Below w.heap.size w w' := by
  have := lhas_any b s (k : Int) w h ⟨by omega, by omega⟩
  rwa [hasI_nat, decide_eq_false hk] at this
theorem rng_stay {W W' : World} {b r n : Nat} {D : DataW Nat} {left : Lit → Bool} {cnt : Nat} (h : W.ranges Try.prog 3 mapElem b r n D left cnt) (hb : Below W.heap.size W W') : W'.ranges Try.prog 3 mapElem b r n D left cnt := by
  have hlb := h.owns.lt
  have hlr := h.lt
  obtain ⟨es, clock, since, seen, c0, h1, h2, h3, h4, h5, h6⟩ := h
  exact ⟨es, clock, since, seen, c0, (hb.block b hlb).trans h1, h2, h3, h4, (hb.block r hlr).trans h5, h6⟩
theorem own_map {W W' : World} {b n : Nat} {D : DataW Nat} (h : W.ownsMap Try.prog 3 mapElem b n D) (hb : Below W.heap.size W W') : W'.ownsMap Try.prog 3 mapElem b n D := by
  have hlb := h.lt
  obtain ⟨es, clock, h1, h2⟩ := h
  exact ⟨es, clock, (hb.block b hlb).trans h1, h2⟩
theorem rng_map {W : World} {b r n A : Nat} {D : DataW Nat} {left : Lit → Bool} {cnt : Nat} {al : List Nat} (h : W.ranges Try.prog 3 mapElem b r n D left cnt) (hm : Mst W A al) : some r ≠ some A := fun e => by
  obtain ⟨_, _, _, _, _, _, _, _, _, hr, _⟩ := h
  obtain ⟨es, c, hA⟩ := hm.isMap
  injection e with e
  rw [e, hA] at hr
  cases hr
/-- What the loops hold. -/
structure LdI (w : World) (A : Nat) (al bh : List Nat) (v : Value) (W : World) : Prop where
  m : Mst W A al
  q : On w.heap.size bh v W
  b : Below w.heap.size w W
theorem LdI.stay {w : World} {A : Nat} {al bh : List Nat} {v : Value} {W W' : World} (h : LdI w A al bh v W) (hb : Below W.heap.size W W') : LdI w A al bh v W' := ⟨h.m.stay hb, own_stay h.q hb, Below.on h.b hb⟩
def LdP (s : List Nat) (gs : Nat → List Nat) (t : Nat) (w : World) (e : Ending) (w' : World) : Prop := ∃ A al, e = .returned (.map (some A)) ∧ w.heap.size ≤ A ∧ Mst w' A al ∧ (∀ k, k ∈ al ↔ Ld (Gw s gs) k t) ∧ Below w.heap.size w w'
set_option maxRecDepth 100000 in
set_option maxHeartbeats 4000000 in
theorem leading_any (N b : Nat) (s : List Nat) (gs : Nat → List Nat) (t : Nat) (ht6 : t ≤ 4611686018427387904) (hs6 : s.length ≤ 1000) (w : World) (h : Wa N b s gs w) : Calls Try.prog 30 #[.map (some b), .int .i64 (t : Int)] w (LdP s gs t w) := by
  obtain ⟨D, bx, hown, hom, hwi⟩ := h
  have HOM := Hid.mk' hom
  have HWI := Hid.mk' hwi
  have HOW := Hid.mk' hown
  have HS6 := Hid.mk' hs6
  have HT6 := Hid.mk' ht6
  have HK6 : Hid (∀ k ∈ s, k ≤ 4611686018427387904) := hom.le
  have HI0 : Hid (LdI w w.heap.size [] [t] (.slice (some ⟨w.heap.size + 1, 0, none⟩) 1 1) ((w.alloc (.map #[] 0)).alloc (.cells #[.int .i64 (t : Int)] 3))) := by
    have b1 := Below.one (Below.refl _ w) (.map #[] 0)
    have b2 := Below.one (Below.refl _ (w.alloc (.map #[] 0))) (.cells #[.int .i64 (t : Int)] 3)
    have h := own_lit (w.alloc (.map #[] 0)) t
    rw [World.size_alloc] at h
    exact ⟨(mst_made w).stay b2, own_mono h (Nat.le_succ _), Below.on b1 b2⟩
  have hmm := @run_makeMap Try.prog
  have hlt := hown.lt
  clear hown hom hwi hs6 ht6
  go_enter Try.func30, Try.ntmps30
  go_wp2_with fail
  clear hmm
  generalize (w.alloc (.map #[] 0)).alloc (.cells #[.int .i64 (t : Int)] 3) = W0 at *
  go_loopw [6] (fun t6 wr => ∃ (al bh : List Nat) (v : Value), t6 = v ∧ LgO s gs t al bh ∧ LdI w w.heap.size al bh v wr) (fun t6 wr => 2 * (s.length - mpS wr w.heap.size) + lenV t6)
  case atStart => exact ⟨[], [t], _, rfl, LgO.start s gs t, HI0.out⟩
  case round =>
    obtain ⟨al, bh, v, rfl, hlg, hli⟩ := hrel
    have HLG := Hid.mk' hlg
    have HLI := Hid.mk' hli
    obtain ⟨av, cv, rfl⟩ := gown_form hli.q
    clear hlg hli HI0
    by_cases hbh : bh = []
    · subst hbh
      go_wp2_with fail
      go_ret
      exact ⟨_, al, rfl, Nat.le_refl _, HLI.out.m, HLG.out.fin, HLI.out.b⟩
    obtain ⟨bh, a, rfl⟩ := concat_of hbh
    obtain ⟨gw, rfl, d0, hcw, _⟩ := on_at HLI.out.q (j := bh.length) (k := a) (by simp)
    have hlw : (bh ++ [a]).length = bh.length + 1 := by simp
    have hbl : bh.length ≤ 1000 := by have h1 := HLG.out.ln; have h2 := HLG.out.len; have h3 := HS6.out; omega
    have HA6 : Hid (a ≤ 4611686018427387904) := by
      rcases HLG.out.sr a (by simp) with rfl | h
      · exact HT6.out
      · exact HK6.out a (HLG.out.so a h).1
    obtain ⟨M, hM⟩ : ∃ M, M = 2 * (s.length - al.length) + bh.length + 1 := ⟨_, rfl⟩
    rw [hlw] at hcw ⊢
    have HM0 : Hid (2 * (s.length - mpS wr w.heap.size) + lenV (.slice (some ⟨gw, 0, none⟩) (bh.length + 1) cv) = M) := by
      show _ = _
      rw [mps_of HLI.out.m, hM]; rfl
    have HMM : Hid (2 * (s.length - al.length) + bh.length + 1 ≤ M) := Nat.le_of_eq hM.symm
    have hsl : ∀ W, _ := fun W => slice_first W gw (bh.length + 1) cv bh.length (by omega)
    have HLI2 : Hid (LdI w w.heap.size al bh (.slice (some ⟨gw, 0, none⟩) bh.length cv) wr) := ⟨HLI.out.m, on_pop HLI.out.q, HLI.out.b⟩
    have HLG2 := Hid.mk' (HLG.out.pop (left := Maps.has D) (has_all HOM.out))
    have hown2 := own_map HOW.out HLI.out.b
    have hszb := HLI.out.b.size
    clear HLG HLI hM hlw hbh
    go_wp2_with (at_range; refine wpList_range_own _ rfl _ 58 rfl 3 48 keyedN Try.underlying58 _ b s.length D rfl hown2 ?_; intro w0 hrg0 hg0 hs0)
    try go_frame
    rw [HOM.out.size] at hrg0
    have HLI3 := Hid.mk' (HLI2.out.stay ((Below.refl _ _).grown hg0 (Nat.le_refl _) (fun j hj => by cases hj)))
    clear HLI2 hown2 hsl hcw
    generalize hr : wr.heap.size = r at *
    clear hr
    obtain ⟨Wo, hWo⟩ : ∃ Wo, Wo = wr := ⟨_, rfl⟩
    subst hWo
    go_loopw [6] (fun t6 wr => ∃ (left : Lit → Bool) (cnt : Nat) (al bh : List Nat) (v : Value), t6 = v ∧ wr.ranges Try.prog 3 mapElem b r s.length D left cnt ∧ LgI s gs t a left al bh ∧ LdI w w.heap.size al bh v wr ∧ 2 * (s.length - al.length) + bh.length + 1 ≤ M)
      (fun _ wr => wr.rangeLeft b r)
    case atStart => exact ⟨_, _, al, bh, _, rfl, hrg0, HLG2.out, HLI3.out, HMM.out⟩
    case round =>
      clear hrg0 hg0 hs0 HLI3 HLG2 HMM d0 hbl
      obtain ⟨left, cnt, al, bh, v, rfl, hrg, hlg, hli, hmm⟩ := hrel
      have HLG := Hid.mk' hlg
      have HLI := Hid.mk' hli
      have HMM := Hid.mk' hmm
      have HRG := Hid.mk' hrg
      have hbl : bh.length ≤ 1000 := by have h1 := hlg.ln; have h2 := hlg.len; have h3 := HS6.out; omega
      have hall : al.length ≤ 1000 := by have h2 := hlg.len; have h3 := HS6.out; omega
      obtain ⟨av, cv, rfl⟩ := gown_form hli.q
      clear hlg hli hmm
      go_wp2_with (at_next; refine wpList_next_ranges _ rfl _ rfl 3 keyedN mapElem (Value.int .i64) (fun c : Nat => Value.map (some c)) key_inv map_inv b r s.length D left cnt rfl hrg ?_ ?_)
      · intro hc0 hl0
        have HD := Hid.mk' (HLG.out.done hl0)
        clear hrg hc0 hl0 HLG
        go_wp2_with fail
        go_roundw
        case rel => exact ⟨al, bh, _, rfl, HD.out, HLI.out⟩
        case measure =>
          show 2 * (s.length - mpS wr w.heap.size) + bh.length < _
          rw [HM0.out, mps_of HLI.out.m]
          have := HMM.out
          omega
      · intro x c kl yd yp w2 cnt2 hkey hlk hv hat hrg2 hlt2 hg2 hs2 hen
        obtain ⟨k, rfl, rfl, hks, rfl⟩ := HOM.out.met (y := (yd, yp)) hkey hv hat
        have HLI2 : Hid (LdI w w.heap.size al bh (.slice av bh.length cv) w2) := ⟨HLI.out.m.kept hg2 (rng_map HRG.out HLI.out.m), HLI.out.q.kept hg2 (.inr (rng_row HRG.out HLI.out.q).1), HLI.out.b.grown hg2 HLI.out.b.size (fun j hj => by injection hj with hj; omega)⟩
        have HKS := Hid.mk' hks
        have hk6 := HK6.out k hks
        have hmk := (HWI.out.stay HLI2.out.b).m k hks
        have HR2 := Hid.mk' hrg2
        have HLT := Hid.mk' hlt2
        have HLEN := Hid.mk' hg2.size
        clear hrg hkey hlk hv hat hrg2 hlt2 hg2 hs2 hks
        by_cases hag : a ∈ gs k
        rotate_left
        · have HP := Hid.mk' (HLG.out.pass (k := k) (.inl hag))
          have HC := Hid.mk' (lhas_no (bx k) (gs k) a w2 hmk hag HA6.out)
          clear hag hmk
          go_wp2_with fail
          refine HC.out.mono ?_
          rintro e w3 ⟨rfl, hb3⟩
          have HR3 := Hid.mk' (rng_stay HR2.out hb3)
          have HLI3 := Hid.mk' (HLI2.out.stay hb3)
          clear hb3 hen
          go_wp2_with fail
          go_roundw
          case rel => exact ⟨_, cnt2, al, bh, _, rfl, HR3.out, HP.out, HLI3.out, HMM.out⟩
          case measure => rw [HR3.out.left_eq, HRG.out.left_eq]; exact HLT.out
        have HC := Hid.mk' (lhas_yes (bx k) (gs k) a w2 hmk hag HA6.out)
        have HAG := Hid.mk' hag
        clear hag hmk
        by_cases hka : k ∈ al
        · have HP := Hid.mk' (HLG.out.pass (k := k) (.inr hka))
          have HC2 : Hid (∀ w3, Below w2.heap.size w2 w3 → Calls Try.prog 31 #[.map (some w.heap.size), .int .i64 (k : Int)] w3 fun e w' => e = .returned (.bool true) ∧ Below w3.heap.size w3 w') := fun w3 hb => lhas_yes _ al k w3 (HLI2.out.stay hb).m hka hk6
          clear hka
          go_wp2_with fail
          refine HC.out.mono ?_
          rintro e w3 ⟨rfl, hb3⟩
          have HB3 := Hid.mk' hb3
          clear hb3 hen
          go_wp2_with fail
          refine (HC2.out _ HB3.out).mono ?_
          rintro e w4 ⟨rfl, hb4⟩
          have HB4 := Hid.mk' (Below.on HB3.out hb4)
          have HR3 := Hid.mk' (rng_stay HR2.out HB4.out)
          have HLI3 := Hid.mk' (HLI2.out.stay HB4.out)
          clear hb4
          go_wp2_with fail
          go_roundw
          case rel => exact ⟨_, cnt2, al, bh, _, rfl, HR3.out, HP.out, HLI3.out, HMM.out⟩
          case measure => rw [HR3.out.left_eq, HRG.out.left_eq]; exact HLT.out
        · have HP := Hid.mk' (HLG.out.add HKS.out HAG.out hka)
          have HRM := Hid.mk' (HLG.out.room HKS.out hka)
          have HC2 : Hid (∀ w3, Below w2.heap.size w2 w3 → Calls Try.prog 31 #[.map (some w.heap.size), .int .i64 (k : Int)] w3 fun e w' => e = .returned (.bool false) ∧ Below w3.heap.size w3 w') := fun w3 hb => lhas_no _ al k w3 (HLI2.out.stay hb).m hka hk6
          have HC3 : Hid (∀ w3, Below w2.heap.size w2 w3 → Calls Try.prog 27 #[.map (some w.heap.size), .int .i64 (k : Int)] w3 fun e w' => e = .returned (.tuple #[]) ∧ Mst w' w.heap.size (k :: al) ∧ w3.grownBy w' (some w.heap.size)) := fun w3 hb => ladd_any _ al k w3 (HLI2.out.stay hb).m hka hk6 (by omega)
          clear hka
          go_wp2_with fail
          refine HC.out.mono ?_
          rintro e w3 ⟨rfl, hb3⟩
          have HB3 := Hid.mk' hb3
          clear hb3 hen
          go_wp2_with fail
          refine (HC2.out _ HB3.out).mono ?_
          rintro e w4 ⟨rfl, hb4⟩
          have HB4 := Hid.mk' (Below.on HB3.out hb4)
          clear hb4
          go_wp2_with fail
          refine (HC3.out _ HB4.out).mono ?_
          rintro e w5 ⟨rfl, hm5, hg5⟩
          have HLI4 := Hid.mk' (HLI2.out.stay HB4.out)
          have HR4 := Hid.mk' (rng_stay HR2.out HB4.out)
          have HR5 := Hid.mk' (HR4.out.kept hg5 (fun e => by injection e with e; omega) (rng_map HR4.out HLI4.out.m))
          have HLI5 : Hid (LdI w w.heap.size (k :: al) bh (.slice av bh.length cv) w5) := ⟨hm5, HLI4.out.m.own hg5 HLI4.out.q, HLI4.out.b.grown hg5 HLI4.out.b.size (fun j hj => by injection hj with hj; omega)⟩
          have HAP := Hid.mk' (on_app HLI5.out.q HLI5.out.b.size (by omega) k 27)
          clear hm5 hg5
          go_wp2_with (at_builtin; refine wpl_app rfl _ _ 27 27 _ _ rfl rfl rfl HAP.out ?_; rintro v6 W6 ⟨on6, gr6⟩)
          obtain ⟨hne2, hne1⟩ := rng_row HR5.out HLI5.out.q
          have HR6 := Hid.mk' (HR5.out.kept gr6 (Ne.symm hne1) (Ne.symm hne2))
          have HLI6 : Hid (LdI w w.heap.size (k :: al) (bh ++ [k]) v6 W6) := ⟨HLI5.out.m.kept gr6 (HLI5.out.m.row HLI5.out.q), on6, HLI5.out.b.grown gr6 HLI5.out.b.size (fun j hj => own_base HLI5.out.q j hj)⟩
          obtain ⟨a6, c6, rfl⟩ := gown_form on6
          clear on6 gr6 hne1 hne2
          go_roundw
          case rel => exact ⟨_, cnt2, k :: al, bh ++ [k], _, rfl, HR6.out, HP.out, HLI6.out, by have h1 := HMM.out; have h2 := HRM.out; rw [List.length_append, List.length_cons]; simp; omega⟩
          case measure => rw [HR6.out.left_eq, HRG.out.left_eq]; exact HLT.out
end Go.Proofs.Ytdnilonfgbinaaa
