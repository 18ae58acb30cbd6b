/- Rows of numbers that the call owns; what is appended to them. -/
import Derived.Test.YtbepapbfohfdkaaPart2
import Derived.Maps.AppendAt
import Derived.Deep.DeepAppendRoom
import Derived.Deep.AppendSrc
import Derived.Test.YtbepapbfohfdkaaPart8
import Derived.Test.YtbepapbfohfdkaaPart3
import Derived.Deep.RegionLaw
namespace Go.Proofs.Ytbepapbfohfdkaa
open Go.RowKit Go.Lib Go.Sort

def ob (v : Value) : List Nat := v.ownBlock.toList
theorem gown_keep {W W' : World} {N n sz : Nat} {T : TypeId} {v : Value} {xs : List Value} (h : W.ownsRow N T sz v n xs) (hk : ∀ g ∈ ob v, W'.heap[g]? = W.heap[g]?) : W'.ownsRow N T sz v n xs := by
  refine ⟨h.1, ?_⟩
  rcases h.2 with h0 | ⟨g', cap, cur, rfl, h1, h2, h3⟩
  · exact .inl h0
  · exact .inr ⟨g', cap, cur, rfl, h1, (hk g' (by simp [ob, Value.ownBlock])).trans h2, h3⟩
theorem gown_form {W : World} {N n sz : Nat} {T : TypeId} {v : Value} {xs : List Value} (h : W.ownsRow N T sz v n xs) : ∃ ao cap, v = .slice ao n cap := by
  rcases h.2 with ⟨rfl, rfl⟩ | ⟨g', cap, cur, rfl, _⟩
  · exact ⟨_, _, rfl⟩
  · exact ⟨_, _, rfl⟩
/-- What a row holds, cell by cell. -/
theorem gown_cell {W : World} {N n sz : Nat} {T : TypeId} {v : Value} {xs : List Value} (h : W.ownsRow N T sz v n xs) {j : Nat} {u : Value} (hj : xs[j]? = some u) : ∃ g cap, v = .slice (some ⟨g, 0, none⟩) n cap ∧ n ≤ cap ∧ W.cell? ⟨g, j, none⟩ = some u ∧ W.frozen? ⟨g, j, none⟩ = false := by
  rcases h.2 with ⟨rfl, rfl⟩ | ⟨g', cap, cur, rfl, h1, h2, h3, h4, h5, h6⟩
  · have := (List.getElem?_eq_some_iff.1 hj).1; have h1 := h.1; omega
  · refine ⟨g', cap, rfl, h3, ?_, Lib.frozen_of_heap h2 _⟩
    rw [Lib.cell_of_heap h2, ← Array.getElem?_toList]
    rw [← h6, List.getElem?_take] at hj
    split at hj
    · exact hj
    · cases hj
theorem run_append_src {P : Program} (w : World) (base : Nat) (t ty e : TypeId) (i : TypeInfo) (size : Nat) (ht : P.underlying t = some (.slice e)) (hi : P.info? e = some i) (hsize : i.size = size)
    (g n cap : Nat) (xs : List Value) (hown : w.ownsRow base e size (.slice (some ⟨g, 0, none⟩) n cap) n xs)
    (a : Option Addr) (m c : Nat) (news : List Value) (hl : news.length = m * size) (hnone : a = none → m = 0) (hnews : ∀ ad, a = some ad → ∀ j u, news[j]? = some u → w.cell? (ad.add j) = some u) (h1 : ∀ u ∈ news, u.oneCell' = true)
    (hroom : n + m ≤ cap) :
    ∃ w', (Builtin.append_ #[t, t] ty #[.slice (some ⟨g, 0, none⟩) n cap, .slice a m c]).run P w = .ok (.slice (some ⟨g, 0, none⟩) (n + m) cap) w' ∧
      w'.ownsRow base e size (.slice (some ⟨g, 0, none⟩) (n + m) cap) (n + m) (xs ++ news) ∧ w.grownBy w' (some g) := by
  cases a with
  | some ad => exact run_append_own_spare w base t ty e i size ht hi hsize g n cap xs hown ad m c news hl (hnews ad rfl) h1 hroom
  | none =>
    obtain rfl := hnone rfl
    have hn0 : news = [] := List.eq_nil_of_length_eq_zero (by simpa using hl)
    subst hn0
    refine ⟨w, ?_, by simpa using hown, ⟨rfl, rfl, rfl, Nat.le_refl _, fun _ _ _ => rfl⟩⟩
    have hroom' : n ≤ cap := by omega
    simp [Builtin.append_, run_underlying ht, sizeOf, typeInfo, hi, Builtin.lenOf, hroom', Builtin.firstCells, storeCells]

theorem wpList_append_src {P : Program} (w : World) {ops : Array Oper} {rest : List Oper} {o : Oper} {a : Act} {Q : Exit → Act → World → Prop} (hgd : o.guard = none) (s x : Operand) (t : TypeId)
    (ho : o.op = .call { callee := .builtin .append, args := #[s, x], argTypes := #[t, t] })
    (base : Nat) (e : TypeId) (i : TypeInfo) (size : Nat) (ht : P.underlying t = some (.slice e)) (hi : P.info? e = some i) (hsize : i.size = size)
    (g n cap : Nat) (xs : List Value) (hs : a.eval s = .slice (some ⟨g, 0, none⟩) n cap) (hown : w.ownsRow base e size (.slice (some ⟨g, 0, none⟩) n cap) n xs)
    (ad : Option Addr) (m c : Nat) (news : List Value) (hx : a.eval x = .slice ad m c) (hl : news.length = m * size) (hnone : ad = none → m = 0) (hnews : ∀ ad', ad = some ad' → ∀ j u, news[j]? = some u → w.cell? (ad'.add j) = some u) (h1 : ∀ u ∈ news, u.oneCell' = true)
    (hroom : n + m ≤ cap)
    (h : ∀ w', w'.ownsRow base e size (.slice (some ⟨g, 0, none⟩) (n + m) cap) (n + m) (xs ++ news) → w.grownBy w' (some g) → wpList P ops Q rest (a.put o.dst (.slice (some ⟨g, 0, none⟩) (n + m) cap)) w') : wpList P ops Q (o :: rest) a w := by
  obtain ⟨w', hr, h2, h3⟩ := run_append_src (P := P) w base t o.type e i size ht hi hsize g n cap xs hown ad m c news hl hnone hnews h1 hroom
  refine wpList_plain hgd fun K hK => ?_
  unfold Oper.wp execOp
  simp only [ho, resolve, invoke, builtin, Sem.run_bind, Sem.run_pure, Result.andThen_ok, List.map_toArray, List.map_cons, List.map_nil, hs, hx, hr]
  exact hK _ _ (h w' h2 h3)

def iV (x : Int) : Value := .int .i64 x
theorem Try.infoI : (Try.prog.info? 2).map (fun i => (i.zero, i.size, i.bytes)) = some (some (.int .i64 0), 1, 8) := by kernel_rfl
theorem info_parts {o : Option TypeInfo} {z : Option Value} {s b : Nat} (h : o.map (fun i => (i.zero, i.size, i.bytes)) = some (z, s, b)) : ∃ i, o = some i ∧ i.zero = z ∧ i.size = s ∧ i.bytes = b := by
  cases o with
  | none => simp at h
  | some i => simp at h; exact ⟨i, rfl, h.1, h.2.1, h.2.2⟩
/-- A row of numbers that lies in memory of the call's own, at N and above. -/
def Row (W : World) (N : Nat) (v : Value) (l : List Int) : Prop := W.ownsRow N 2 1 v l.length (l.map iV)
theorem Row.form {W : World} {N : Nat} {v : Value} {l : List Int} (h : Row W N v l) : ∃ ao cap, v = .slice ao l.length cap := gown_form h
theorem Row.low {W : World} {N : Nat} {v : Value} {l : List Int} (h : Row W N v l) : ∀ g ∈ ob v, N ≤ g ∧ g < W.heap.size := fun g hg => by
  rcases h.2 with ⟨rfl, _⟩ | ⟨g', cap, cur, rfl, h1, h2, _⟩
  · simp [ob, Value.ownBlock] at hg
  · have : g = g' := by simpa [ob, Value.ownBlock] using hg
    subst this
    exact ⟨h1, (Array.getElem?_eq_some_iff.1 h2).1⟩
theorem Row.stay {W W' : World} {N : Nat} {v : Value} {l : List Int} (h : Row W N v l) (hb : Below W.heap.size W W') : Row W' N v l :=
  gown_keep h fun g hg => hb.block _ (h.low g hg).2
theorem row_new (W : World) : Row (W.alloc (.cells #[] 2)) W.heap.size (.slice (some ⟨W.heap.size, 0, none⟩) 0 0) [] :=
  ⟨rfl, .inr ⟨W.heap.size, 0, #[], rfl, Nat.le_refl _, heap_alloc_new _ _, Nat.le_refl _, by unfold maxLen; omega, rfl, rfl⟩⟩
/-- It is a list of numbers. -/
theorem Row.ths {W : World} {N : Nat} {v : Value} {l : List Int} (h : Row W N v l) : ∃ a c, v = .slice a l.length c ∧ Ths W a l := by
  obtain ⟨a, c, rfl⟩ := h.form
  refine ⟨a, c, rfl, fun i cs hi => ?_⟩
  rw [List.getElem?_map, Option.map_eq_some_iff] at hi
  obtain ⟨x, hx, rfl⟩ := hi
  obtain ⟨g, cap, e, _, hc, _⟩ := gown_cell h (j := i) (u := iV x) (by simp [hx])
  injection e with e1 e2
  refine ⟨g, 0, e1, fun j v hj => ?_⟩
  match j, hj with
  | 0, hj => simp at hj; subst hj; simpa [iV] using hc
end Go.Proofs.Ytbepapbfohfdkaa

/- The document's own quotients. -/
namespace Go.Proofs.Ytbepapbfohfdkaa
open Go.RowKit Go.Lib Go.Sort

theorem step_append_own {P : Program} (w : World) {ops : Array Oper} {o : Oper} {a : Act} {K : Act → World → Prop} {Q : Exit → Act → World → Prop} {E : Prop} (hgd : o.guard = none) (s x : Operand) (t : TypeId)
    (ho : o.op = .call { callee := .builtin .append, args := #[s, x], argTypes := #[t, t] })
    (base : Nat) (e : TypeId) (i : TypeInfo) (z : Value) (size bytes : Nat) (ht : P.underlying t = some (.slice e)) (hi : P.info? e = some i) (hz : i.zero = some z)
    (hsize : i.size = size) (hby : i.bytes = bytes) (hzs : z.cells.size = size) (hsz : 0 < size)
    (v : Value) (n : Nat) (xs : List Value) (hs : a.eval s = v) (hown : w.ownsRow base e size v n xs)
    (ad : Addr) (m c : Nat) (news : List Value) (hx : a.eval x = .slice (some ad) m c) (hl : news.length = m * size) (hnews : ∀ j u, news[j]? = some u → w.cell? (ad.add j) = some u) (h1 : ∀ u ∈ news, u.oneCell' = true)
    (h63 : n + m ≤ maxLen) (hbytes : (n + m) * bytes ≤ 140737488355328) (hbase : base ≤ w.heap.size)
    (h : ∀ v' w', w'.ownsRow base e size v' (n + m) (xs ++ news) → w.grownBy w' v.ownBlock → K (a.put o.dst v') w') :
    if Region.wanted o (yielded ops a.tmps) = true then Oper.wp P o a w K Q else E := by
  have hw : Region.wanted o (yielded ops a.tmps) = true := by simp [Region.wanted, hgd]
  rw [if_pos hw]
  exact wp_append_own w s x t ho base e i z size bytes ht hi hz hsize hby hzs hsz v n xs hs hown ad m c news hx hl hnews h1 h63 hbytes hbase fun v' w' h2 h3 _ => h v' w' h2 h3

theorem Row.push2 {wr w2 : World} {N k : Nat} {v v0 v' : Value} {l : List Int} {x y : Int} (h : Row wr N v l) (hN : N ≤ wr.heap.size) (hk : l.length = k) (o1 : w2.ownsRow N 2 1 v' (k + 2) (l.map iV ++ [.int .i64 x, .int .i64 y])) (o2 : ((wr.alloc (.cells #[.int .i64 x, .int .i64 y] 2)).drew).grownBy w2 v0.ownBlock) (hv : v0.ownBlock = v.ownBlock) : Row w2 N v' (l ++ [x, y]) ∧ Below N wr w2 := by
  subst hk
  rw [hv] at o2
  refine ⟨?_, ?_⟩
  · unfold Row
    rw [List.length_append, List.map_append]
    exact o1
  · have hb : Below N wr ((wr.alloc (.cells #[.int .i64 x, .int .i64 y] 2)).drew) := ((Below.refl _ wr).alloc hN _).drew
    exact hb.grown o2 (by show _ ≤ (wr.alloc _).heap.size; simp; omega) (fun k hk => (h.low k (by simp [ob, hk])).1)
/-- The document's order of divisors. -/
def dvr (b : Sp) : List Int := [b.1, b.2, -1, 1]
def quoR (a b : Sp) (k : Nat) : List Int := quoL a (((dvr b).take k).filter fun d => d ≠ 0 ∧ b.1 ≤ d ∧ d ≤ b.2)
theorem quoR_succ {a b : Sp} {k : Nat} {d : Int} (h : (dvr b)[k]? = some d) : quoR a b (k + 1) = if d ≠ 0 ∧ b.1 ≤ d ∧ d ≤ b.2 then quoR a b k ++ [a.1.tdiv d, a.2.tdiv d] else quoR a b k := by
  unfold quoR
  rw [List.take_add_one, h]
  simp only [Option.toList_some, List.filter_append]
  by_cases hd : d ≠ 0 ∧ b.1 ≤ d ∧ d ≤ b.2
  · rw [if_pos hd, List.filter_cons, if_pos (by simpa using hd)]
    simp [quoL]
  · rw [if_neg hd, List.filter_cons, if_neg (by simpa using hd)]
    simp
theorem quoR_len (a b : Sp) : ∀ k, (quoR a b k).length ≤ 2 * k
  | 0 => by simp [quoR, quoL]
  | k + 1 => by
    have ih := quoR_len a b k
    cases h : (dvr b)[k]? with
    | none =>
      have : quoR a b (k + 1) = quoR a b k := by unfold quoR; rw [List.take_add_one, h]; simp
      rw [this]; omega
    | some d =>
      rw [quoR_succ h]
      split
      · rw [List.length_append]; simp; omega
      · omega
theorem quoR_hull (a b : Sp) : hull (quoR a b 4) = hull (quoL a (cand b)) := hull_same fun v => by
  unfold quoR
  rw [mem_quo, mem_quo]
  have key : ∀ d, d ∈ ((dvr b).take 4).filter (fun d => d ≠ 0 ∧ b.1 ≤ d ∧ d ≤ b.2) ↔ d ∈ cand b := fun d => by
    rw [mem_cand, List.mem_filter]
    simp [dvr]
    omega
  simp only [key]
theorem quoR_some {a b : Sp} (h : b.1 ≤ b.2) (h0 : b ≠ (0, 0)) : 0 < (quoR a b 4).length := by
  obtain ⟨d, hd⟩ := cand_some h h0
  have : a.1.tdiv d ∈ quoR a b 4 := by
    unfold quoR
    rw [mem_quo]
    refine ⟨d, ?_, .inl rfl⟩
    rw [mem_cand] at hd
    rw [List.mem_filter]
    simp [dvr]
    omega
  exact List.length_pos_of_mem this
theorem rhasT {l h n : Int} (H : l ≤ n ∧ n ≤ h) (w : World) : Calls Try.prog 15 #[.agg #[.int .i64 l, .int .i64 h], .int .i64 n] w fun e w' => e = .returned (.bool true) ∧ Below w.heap.size w w' := by
  have := rhas_any (l, h) n w
  rwa [show hasB (l, h) n = true from decide_eq_true H] at this
theorem rhasF {l h n : Int} (H : ¬ (l ≤ n ∧ n ≤ h)) (w : World) : Calls Try.prog 15 #[.agg #[.int .i64 l, .int .i64 h], .int .i64 n] w fun e w' => e = .returned (.bool false) ∧ Below w.heap.size w w' := by
  have := rhas_any (l, h) n w
  rwa [show hasB (l, h) n = false from decide_eq_false H] at this
theorem new_two (W : World) (v u : Value) (t : TypeId) : ∀ j x, [v, u][j]? = some x → ((W.alloc (.cells #[v, u] t)).drew).cell? ((⟨W.heap.size, 0, none⟩ : Addr).add j) = some x := by
  intro j x hj
  have hh : ((W.alloc (.cells #[v, u] t)).drew).heap[W.heap.size]? = some (.cells #[v, u] t) := heap_alloc_new _ _
  match j, hj with
  | 0, hj => simp at hj; subst hj; rw [show (⟨W.heap.size, 0, none⟩ : Addr).add 0 = ⟨W.heap.size, 0, none⟩ from rfl, Lib.cell_of_heap hh]; rfl
  | 1, hj => simp at hj; subst hj; rw [show (⟨W.heap.size, 0, none⟩ : Addr).add 1 = ⟨W.heap.size, 1, none⟩ from rfl, Lib.cell_of_heap hh]; rfl
set_option maxHeartbeats 2000000 in
theorem rquo_all (al ah bl bh : Int) (h1 : al ≤ -9223372036854775808 ∧ -9223372036854775808 ≤ ah) (h2 : bl ≤ -1 ∧ -1 ≤ bh) (w : World) : Calls Try.prog 44 #[sv (al, ah), sv (bl, bh)] w fun e w' => e = .returned (sv allS) ∧ Below w.heap.size w w' := by
  have H1 : Hid (∀ w, Calls Try.prog 15 #[.agg #[.int .i64 al, .int .i64 ah], .int .i64 (-9223372036854775808)] w fun e w' => e = .returned (.bool true) ∧ Below w.heap.size w w') := rhasT h1
  have H2 : Hid (∀ w, Calls Try.prog 15 #[.agg #[.int .i64 bl, .int .i64 bh], .int .i64 (-1)] w fun e w' => e = .returned (.bool true) ∧ Below w.heap.size w w') := rhasT h2
  have HA := Hid.mk' rallV
  have hb := fun (o1 o2 o3 : Obj) => (Below.one (Below.one (Below.one (Below.refl _ w) o1) o2) o3 : Below w.heap.size w _)
  clear h1 h2
  go_enter Try.func44, Try.ntmps44
  go_wp2_with (first | (go_at_call_of 15 (Value.agg #[Value.int .i64 al, Value.int .i64 ah]); refine (H1.out _).mono ?_; rintro e w1 ⟨rfl, hb1⟩; have A0 := At.stay (At.more (At.more (At.new w (al, ah)) _) _) hb1; have A1 := At.stay (At.more (At.new1 w (bl, bh) _) _) hb1; have A2 := At.stay (At.new2 w (0, 0) _ _) hb1; have y0 := A1.c0; have y1 := A1.c1) | (go_at_call_of 15 (Value.agg #[Value.int .i64 bl, Value.int .i64 bh]); refine (H2.out _).mono ?_; rintro e w2 ⟨rfl, hb2⟩) | (go_at_call 13; refine (HA.out _).mono ?_; rintro e w3 ⟨rfl, hb3⟩; have D2 := (A2.stay hb2).stay hb3; have z0 := D2.c0; have z1 := D2.c1; have z2 := D2.f0; have z3 := D2.f1))
  exact bodyPost_ret (v := sv allS) (by simp [results, Try.results44, go_sem, allS, *]) rfl ⟨rfl, ((Below.on (Below.on (Below.on (hb _ _ _) hb1) hb2) hb3).setCell (by simp; omega) _).setCell (by simp; omega) _⟩
end Go.Proofs.Ytbepapbfohfdkaa

/- The document's own quotients: the walk. -/
namespace Go.Proofs.Ytbepapbfohfdkaa
open Go.RowKit Go.Lib Go.Sort

set_option maxHeartbeats 4000000 in
theorem rquo_loop (al ah bl bh : Int) (ha : Sp.Ok (al, ah)) (hle : al ≤ ah) (h1 : ¬ (al ≤ -9223372036854775808 ∧ -9223372036854775808 ≤ ah)) (hbl : bl ≤ bh) (h0 : (bl, bh) ≠ (0, 0)) (w : World) : Calls Try.prog 44 #[sv (al, ah), sv (bl, bh)] w fun e w' => e = .returned (sv (hull (quoL (al, ah) (cand (bl, bh))))) ∧ Below w.heap.size w w' := by
  have H1 : Hid (∀ w, Calls Try.prog 15 #[.agg #[.int .i64 al, .int .i64 ah], .int .i64 (-9223372036854775808)] w fun e w' => e = .returned (.bool false) ∧ Below w.heap.size w w') := rhasF h1
  have hu : undef = Value.tuple #[] := rfl
  have HQ := Hid.mk' (quoR_hull (al, ah) (bl, bh))
  have HQ2 := Hid.mk' (quoR_some (a := (al, ah)) hbl h0)
  have HQ3 := Hid.mk' (quoR_len (al, ah) (bl, bh))
  generalize hull (quoL (al, ah) (cand (bl, bh))) = R at *
  obtain ⟨R1, R2⟩ := R
  obtain ⟨i0, hi, hz0, hz1, hz2⟩ := info_parts Try.infoI
  have hb := fun (o1 o2 o3 : Obj) => (Below.one (Below.one (Below.one (Below.refl _ w) o1) o2) o3 : Below w.heap.size w _)
  go_enter Try.func44, Try.ntmps44
  go_upto_region 4 with (go_at_call_of 15 (Value.agg #[Value.int .i64 al, Value.int .i64 ah]); refine (H1.out _).mono ?_; rintro e w1 ⟨rfl, hb1⟩; have A0 := At.stay (At.more (At.more (At.new w (al, ah)) _) _) hb1; have A1 := At.stay (At.more (At.new1 w (bl, bh) _) _) hb1; have A2 := At.stay (At.new2 w (0, 0) _ _) hb1; have y0 := A1.c0; have y1 := A1.c1)
  have B := Below.on (hb _ _ _) hb1
  clear y0 y1 hb1 hb H1 hu
  replace A0 := A0.more (.cells #[.int .i64 bl, .int .i64 bh, .int .i64 (-1), .int .i64 1] 2)
  replace A1 := A1.more (.cells #[.int .i64 bl, .int .i64 bh, .int .i64 (-1), .int .i64 1] 2)
  replace A2 := A2.more (.cells #[.int .i64 bl, .int .i64 bh, .int .i64 (-1), .int .i64 1] 2)
  have hO := heap_alloc_new w1 (.cells #[.int .i64 bl, .int .i64 bh, .int .i64 (-1), .int .i64 1] 2)
  replace B := Below.one B (.cells #[.int .i64 bl, .int .i64 bh, .int .i64 (-1), .int .i64 1] 2)
  generalize w1.alloc (.cells #[.int .i64 bl, .int .i64 bh, .int .i64 (-1), .int .i64 1] 2) = Wb at *
  generalize w1.heap.size = gD at *
  have HO := Hid.mk' (row_new Wb)
  have HB := Hid.mk' (Below.one (Below.refl _ Wb) (.cells #[] 2))
  have HW := Hid.mk' (And.intro A0 (And.intro A1 (And.intro A2 (And.intro hO B))))
  clear A0 A1 A2 hO B
  go_upto_region 5 with fail
  generalize Wb.alloc (.cells #[] 2) = W2 at *
  go_wp2_with fail
  go_loopw [6, 7] (fun t6 t7 wr => ∃ (k : Nat) (vo : Value), k ≤ 4 ∧ t7 = .int .i64 k ∧ t6 = vo ∧ Row wr Wb.heap.size vo (quoR (al, ah) (bl, bh) k) ∧ Below Wb.heap.size Wb wr) (fun _ t7 _ => 4 - (intOf t7).toNat)
  case atStart => exact ⟨0, _, by omega, rfl, rfl, HO.out, HB.out⟩
  case round =>
    obtain ⟨k, vo, hk, rfl, rfl, a1, a2⟩ := hrel
    obtain ⟨A0, A1, A2, hO, B⟩ := HW.out
    replace A0 := A0.stay a2
    replace A1 := A1.stay a2
    replace A2 := A2.stay a2
    by_cases hlt : k < 4
    · have hli : (k : Int) < 4 := by omega
      obtain ⟨d, hd⟩ : ∃ d, (dvr (bl, bh))[k]? = some d := ⟨_, List.getElem?_eq_getElem (show k < (dvr (bl, bh)).length from hlt)⟩
      have hO2 : wr.heap[gD]? = some (.cells #[.int .i64 bl, .int .i64 bh, .int .i64 (-1), .int .i64 1] 2) := (a2.block _ (Array.getElem?_eq_some_iff.1 hO).1).trans hO
      have hc : wr.cell? ⟨gD, k, none⟩ = some (.int .i64 d) := by
        rw [Lib.cell_of_heap hO2]
        match k, hlt, hd with
        | 0, _, hd => simp [dvr] at hd; simp [hd]
        | 1, _, hd => simp [dvr] at hd; simp [hd]
        | 2, _, hd => simp [dvr] at hd; simp [hd]
        | 3, _, hd => simp [dvr] at hd; simp [hd]
      have f0 := fun d os => cell_regrown hc d os
      have f1 := A1.r0; have f2 := A1.r1
      simp only at f1 f2
      clear hO hO2
      go_upto_region 8 with fail
      by_cases hd0 : d = 0
      · have hd1 : (d == 0) = true := by simp [hd0]
        have hd2 : (d != 0) = false := by simp [hd0]
        refine wp_region_quiet_below (by kernel_rfl) (by kernel_rfl) ?_
        repeat (go_big_quiet_step (fail))
        refine wpQuiet_nil ?_
        intro _ hw'
        obtain ⟨⟨dq, osq⟩, hw''⟩ := hw'
        subst hw''
        have Bq := below_regrown wr dq osq
        replace A0 := A0.stay Bq
        replace A2 := A2.stay Bq
        replace a1 := a1.stay Bq
        replace a2 := Below.on a2 Bq
        replace hc := cell_below hc Bq
        clear Bq f0 f1 f2
        simp only
        generalize grow (redrawn wr dq) osq = Wq at *
        go_wp2_with fail
        go_roundw
        case rel =>
          refine ⟨k + 1, _, by omega, by go_num, rfl, ?_, a2⟩
          rw [quoR_succ hd, if_neg (fun h => h.1 hd0)]
          exact a1
        case measure => simp [intOf]; omega
      · have hd1 := beq_no hd0
        have hd2 : (d != 0) = true := by simp [hd0]
        by_cases hin : bl ≤ d ∧ d ≤ bh
        · have HH : Hid (∀ w, Calls Try.prog 15 #[.agg #[.int .i64 bl, .int .i64 bh], .int .i64 d] w fun e w' => e = .returned (.bool true) ∧ Below w.heap.size w w') := rhasT hin
          refine wp_region_quiet_below (by kernel_rfl) (by kernel_rfl) ?_
          repeat (go_big_quiet_step (first | (go_at_call 15; with_reducible exact Calls.regrown_of (HH.out _))))
          refine wpQuiet_nil ?_
          intro _ hw'
          obtain ⟨⟨dq, osq⟩, hw''⟩ := hw'
          subst hw''
          have Bq := below_regrown wr dq osq
          replace A0 := A0.stay Bq
          replace A2 := A2.stay Bq
          replace a1 := a1.stay Bq
          replace a2 := Below.on a2 Bq
          replace hc := cell_below hc Bq
          clear Bq f0 f1 f2
          simp only
          generalize grow (redrawn wr dq) osq = Wq at *
          have e0 := A0.c0; have e1 := A0.c1
          simp only at e0 e1
          have m1 : Nm (al.tdiv d) := td_nm ha.1 hd0 (by unfold Sp.Ok Nm at ha; simp only at ha; omega)
          have m2 : Nm (ah.tdiv d) := td_nm ha.2 hd0 (by unfold Sp.Ok Nm at ha; simp only at ha; omega)
          have t1 : IntKind.i64.wrap (al.tdiv d) = al.tdiv d := (IntWalk.i64_left _).trans (wr_id m1)
          have t2 : IntKind.i64.wrap (ah.tdiv d) = ah.tdiv d := (IntWalk.i64_left _).trans (wr_id m2)
          have HS : Hid (quoR (al, ah) (bl, bh) (k + 1) = quoR (al, ah) (bl, bh) k ++ [(IntKind.i64.wrap (al.tdiv d)), (IntKind.i64.wrap (ah.tdiv d))]) := by show _ = _; rw [quoR_succ hd, if_pos ⟨hd0, hin⟩, t1, t2]
          have hq3 := HQ3.out k
          obtain ⟨va, vc, hvo⟩ := a1.form
          subst hvo
          have HA := Hid.mk' (And.intro a1 a2)
          have hsw := a2.size
          have hov : Wq.ownsRow Wb.heap.size 2 1 _ _ _ := a1
          clear a1 a2 m1 m2 HH
          generalize hql : (quoR (al, ah) (bl, bh) k).length = n at *
          clear t1 t2
          have hnew : ∀ j2 u, ([.int .i64 (IntKind.i64.wrap (al.tdiv d)), .int .i64 (IntKind.i64.wrap (ah.tdiv d))] : List Value)[j2]? = some u → ((Wq.alloc (.cells #[.int .i64 (IntKind.i64.wrap (al.tdiv d)), .int .i64 (IntKind.i64.wrap (ah.tdiv d))] 2)).drew).cell? ((⟨Wq.heap.size, 0, none⟩ : Addr).add j2) = some u := new_two _ _ _ _
          have hov2 : ((Wq.alloc (.cells #[.int .i64 (IntKind.i64.wrap (al.tdiv d)), .int .i64 (IntKind.i64.wrap (ah.tdiv d))] 2)).drew).ownsRow Wb.heap.size 2 1 (.slice va n vc) n ((quoR (al, ah) (bl, bh) k).map iV) := hov.alloc (.cells #[.int .i64 (IntKind.i64.wrap (al.tdiv d)), .int .i64 (IntKind.i64.wrap (ah.tdiv d))] 2)
          have hm1 : ∀ u ∈ ([.int .i64 (IntKind.i64.wrap (al.tdiv d)), .int .i64 (IntKind.i64.wrap (ah.tdiv d))] : List Value), u.oneCell' = true := fun u hu => by simp at hu; rcases hu with rfl | rfl <;> rfl
          have hm2 : n + 2 ≤ maxLen := by unfold maxLen; omega
          have hm3 : (n + 2) * 8 ≤ 140737488355328 := by omega
          have hm4 : Wb.heap.size ≤ ((Wq.alloc (.cells #[.int .i64 (IntKind.i64.wrap (al.tdiv d)), .int .i64 (IntKind.i64.wrap (ah.tdiv d))] 2)).drew).heap.size := by show _ ≤ (Wq.alloc _).heap.size; simp; omega
          go_wp2_with fail
          go_region_law (refine step_append_own _ (by rfl) _ _ 38 (by rfl) Wb.heap.size 2 i0 (.int .i64 0) 1 8 Try.underlying38 hi hz0 hz1 hz2 rfl (by decide) _ _ _ (by rfl) hov2 ⟨Wq.heap.size, 0, none⟩ 2 2 [.int .i64 (IntKind.i64.wrap (al.tdiv d)), .int .i64 (IntKind.i64.wrap (ah.tdiv d))] (by rfl) (by rfl) hnew hm1 hm2 hm3 hm4 ?_; intro v' w4 hown' hgrow)
          all_goals
            have HW2 := Hid.mk' (And.intro hown' hgrow)
            clear hown' hgrow hov hov2 hnew e0 e1 hm1 hm2 hm3 hm4 hc
            go_wp2_with fail
            go_roundw
            case rel =>
              obtain ⟨a1, a2⟩ := HA.out
              obtain ⟨o1, o2⟩ := HW2.out
              obtain ⟨r1, r2⟩ := a1.push2 (by omega) hql o1 o2 (by rfl)
              refine ⟨k + 1, v', by omega, by go_num, rfl, ?_, a2.trans r2⟩
              rw [HS.out]; exact r1
            case measure => simp [intOf]; omega
        · have HH : Hid (∀ w, Calls Try.prog 15 #[.agg #[.int .i64 bl, .int .i64 bh], .int .i64 d] w fun e w' => e = .returned (.bool false) ∧ Below w.heap.size w w') := rhasF hin
          refine wp_region_quiet_below (by kernel_rfl) (by kernel_rfl) ?_
          repeat (go_big_quiet_step (first | (go_at_call 15; with_reducible exact Calls.regrown_of (HH.out _))))
          refine wpQuiet_nil ?_
          intro _ hw'
          obtain ⟨⟨dq, osq⟩, hw''⟩ := hw'
          subst hw''
          have Bq := below_regrown wr dq osq
          replace A0 := A0.stay Bq
          replace A2 := A2.stay Bq
          replace a1 := a1.stay Bq
          replace a2 := Below.on a2 Bq
          replace hc := cell_below hc Bq
          clear Bq f0 f1 f2
          simp only
          generalize grow (redrawn wr dq) osq = Wq at *
          go_wp2_with fail
          go_roundw
          case rel =>
            refine ⟨k + 1, _, by omega, by go_num, rfl, ?_, a2⟩
            rw [quoR_succ hd, if_neg (fun h => hin h.2)]
            exact a1
          case measure => simp [intOf]; omega
    · have hk4 : 4 = k := by omega
      subst hk4
      have hli : ¬ ((4 : Nat) : Int) < 4 := by omega
      have hql := HQ3.out 4
      have hqp := HQ2.out
      obtain ⟨va, vc, rfl, hT⟩ := a1.ths
      have HE := Hid.mk' (rends_yes (quoR (al, ah) (bl, bh) 4) va vc hqp (by omega) wr hT)
      rw [HQ.out] at HE
      have BB := Below.on B a2
      clear HQ HQ2 HQ3 a1 hT
      generalize (quoR (al, ah) (bl, bh) 4).length = n at *
      go_wp2_with (go_at_call 41; refine HE.out.mono ?_; rintro e w6 ⟨rfl, hb6⟩; have D2 := A2.stay hb6; have s0 := D2.c0; have s1 := D2.c1; have s2 := D2.f0; have s3 := D2.f1)
      exact bodyPost_ret (v := sv (R1, R2)) (by simp [results, Try.results44, go_sem, *]) rfl ⟨rfl, Below.put (Below.on BB hb6) (by omega) _ _⟩
set_option maxHeartbeats 4000000 in
theorem rquo_loop2 (al ah bl bh : Int) (ha : Sp.Ok (al, ah)) (h1 : al ≤ -9223372036854775808 ∧ -9223372036854775808 ≤ ah) (h2 : ¬ (bl ≤ -1 ∧ -1 ≤ bh)) (hbl : bl ≤ bh) (h0 : (bl, bh) ≠ (0, 0)) (w : World) : Calls Try.prog 44 #[sv (al, ah), sv (bl, bh)] w fun e w' => e = .returned (sv (hull (quoL (al, ah) (cand (bl, bh))))) ∧ Below w.heap.size w w' := by
  have H1 : Hid (∀ w, Calls Try.prog 15 #[.agg #[.int .i64 al, .int .i64 ah], .int .i64 (-9223372036854775808)] w fun e w' => e = .returned (.bool true) ∧ Below w.heap.size w w') := rhasT h1
  have H2 : Hid (∀ w, Calls Try.prog 15 #[.agg #[.int .i64 bl, .int .i64 bh], .int .i64 (-1)] w fun e w' => e = .returned (.bool false) ∧ Below w.heap.size w w') := rhasF h2
  have HQ := Hid.mk' (quoR_hull (al, ah) (bl, bh))
  have HQ2 := Hid.mk' (quoR_some (a := (al, ah)) hbl h0)
  have HQ3 := Hid.mk' (quoR_len (al, ah) (bl, bh))
  generalize hull (quoL (al, ah) (cand (bl, bh))) = R at *
  obtain ⟨R1, R2⟩ := R
  obtain ⟨i0, hi, hz0, hz1, hz2⟩ := info_parts Try.infoI
  have hb := fun (o1 o2 o3 : Obj) => (Below.one (Below.one (Below.one (Below.refl _ w) o1) o2) o3 : Below w.heap.size w _)
  go_enter Try.func44, Try.ntmps44
  go_upto_region 4 with (first | (go_at_call_of 15 (Value.agg #[Value.int .i64 al, Value.int .i64 ah]); refine (H1.out _).mono ?_; rintro e w1 ⟨rfl, hb1⟩; have A0 := At.stay (At.more (At.more (At.new w (al, ah)) _) _) hb1; have A1 := At.stay (At.more (At.new1 w (bl, bh) _) _) hb1; have A2 := At.stay (At.new2 w (0, 0) _ _) hb1; have y0 := A1.c0; have y1 := A1.c1) | (go_at_call_of 15 (Value.agg #[Value.int .i64 bl, Value.int .i64 bh]); refine (H2.out _).mono ?_; rintro e w2 ⟨rfl, hb2⟩; have D1 := A1.stay hb2; have v0 := D1.c0; have v1 := D1.c1))
  replace A0 := A0.stay hb2
  replace A1 := A1.stay hb2
  replace A2 := A2.stay hb2
  have B := Below.on (Below.on (hb _ _ _) hb1) hb2
  clear y0 y1 v0 v1 D1 hb1 hb2 hb H1 H2
  replace A0 := A0.more (.cells #[.int .i64 bl, .int .i64 bh, .int .i64 (-1), .int .i64 1] 2)
  replace A1 := A1.more (.cells #[.int .i64 bl, .int .i64 bh, .int .i64 (-1), .int .i64 1] 2)
  replace A2 := A2.more (.cells #[.int .i64 bl, .int .i64 bh, .int .i64 (-1), .int .i64 1] 2)
  have hO := heap_alloc_new w2 (.cells #[.int .i64 bl, .int .i64 bh, .int .i64 (-1), .int .i64 1] 2)
  replace B := Below.one B (.cells #[.int .i64 bl, .int .i64 bh, .int .i64 (-1), .int .i64 1] 2)
  generalize w2.alloc (.cells #[.int .i64 bl, .int .i64 bh, .int .i64 (-1), .int .i64 1] 2) = Wb at *
  generalize w2.heap.size = gD at *
  have HO := Hid.mk' (row_new Wb)
  have HB := Hid.mk' (Below.one (Below.refl _ Wb) (.cells #[] 2))
  have HW := Hid.mk' (And.intro A0 (And.intro A1 (And.intro A2 (And.intro hO B))))
  clear A0 A1 A2 hO B
  go_upto_region 5 with fail
  generalize Wb.alloc (.cells #[] 2) = W2 at *
  go_wp2_with fail
  go_loopw [6, 7] (fun t6 t7 wr => ∃ (k : Nat) (vo : Value), k ≤ 4 ∧ t7 = .int .i64 k ∧ t6 = vo ∧ Row wr Wb.heap.size vo (quoR (al, ah) (bl, bh) k) ∧ Below Wb.heap.size Wb wr) (fun _ t7 _ => 4 - (intOf t7).toNat)
  case atStart => exact ⟨0, _, by omega, rfl, rfl, HO.out, HB.out⟩
  case round =>
    obtain ⟨k, vo, hk, rfl, rfl, a1, a2⟩ := hrel
    obtain ⟨A0, A1, A2, hO, B⟩ := HW.out
    replace A0 := A0.stay a2
    replace A1 := A1.stay a2
    replace A2 := A2.stay a2
    by_cases hlt : k < 4
    · have hli : (k : Int) < 4 := by omega
      obtain ⟨d, hd⟩ : ∃ d, (dvr (bl, bh))[k]? = some d := ⟨_, List.getElem?_eq_getElem (show k < (dvr (bl, bh)).length from hlt)⟩
      have hO2 : wr.heap[gD]? = some (.cells #[.int .i64 bl, .int .i64 bh, .int .i64 (-1), .int .i64 1] 2) := (a2.block _ (Array.getElem?_eq_some_iff.1 hO).1).trans hO
      have hc : wr.cell? ⟨gD, k, none⟩ = some (.int .i64 d) := by
        rw [Lib.cell_of_heap hO2]
        match k, hlt, hd with
        | 0, _, hd => simp [dvr] at hd; simp [hd]
        | 1, _, hd => simp [dvr] at hd; simp [hd]
        | 2, _, hd => simp [dvr] at hd; simp [hd]
        | 3, _, hd => simp [dvr] at hd; simp [hd]
      have f0 := fun d os => cell_regrown hc d os
      have f1 := A1.r0; have f2 := A1.r1
      simp only at f1 f2
      clear hO hO2
      go_upto_region 8 with fail
      by_cases hd0 : d = 0
      · have hd1 : (d == 0) = true := by simp [hd0]
        have hd2 : (d != 0) = false := by simp [hd0]
        refine wp_region_quiet_below (by kernel_rfl) (by kernel_rfl) ?_
        repeat (go_big_quiet_step (fail))
        refine wpQuiet_nil ?_
        intro _ hw'
        obtain ⟨⟨dq, osq⟩, hw''⟩ := hw'
        subst hw''
        have Bq := below_regrown wr dq osq
        replace A0 := A0.stay Bq
        replace A2 := A2.stay Bq
        replace a1 := a1.stay Bq
        replace a2 := Below.on a2 Bq
        replace hc := cell_below hc Bq
        clear Bq f0 f1 f2
        simp only
        generalize grow (redrawn wr dq) osq = Wq at *
        go_wp2_with fail
        go_roundw
        case rel =>
          refine ⟨k + 1, _, by omega, by go_num, rfl, ?_, a2⟩
          rw [quoR_succ hd, if_neg (fun h => h.1 hd0)]
          exact a1
        case measure => simp [intOf]; omega
      · have hd1 := beq_no hd0
        have hd2 : (d != 0) = true := by simp [hd0]
        by_cases hin : bl ≤ d ∧ d ≤ bh
        · have HH : Hid (∀ w, Calls Try.prog 15 #[.agg #[.int .i64 bl, .int .i64 bh], .int .i64 d] w fun e w' => e = .returned (.bool true) ∧ Below w.heap.size w w') := rhasT hin
          refine wp_region_quiet_below (by kernel_rfl) (by kernel_rfl) ?_
          repeat (go_big_quiet_step (first | (go_at_call 15; with_reducible exact Calls.regrown_of (HH.out _))))
          refine wpQuiet_nil ?_
          intro _ hw'
          obtain ⟨⟨dq, osq⟩, hw''⟩ := hw'
          subst hw''
          have Bq := below_regrown wr dq osq
          replace A0 := A0.stay Bq
          replace A2 := A2.stay Bq
          replace a1 := a1.stay Bq
          replace a2 := Below.on a2 Bq
          replace hc := cell_below hc Bq
          clear Bq f0 f1 f2
          simp only
          generalize grow (redrawn wr dq) osq = Wq at *
          have e0 := A0.c0; have e1 := A0.c1
          simp only at e0 e1
          have m1 : Nm (al.tdiv d) := td_nm ha.1 hd0 (by unfold Sp.Ok Nm at ha; simp only at ha; omega)
          have m2 : Nm (ah.tdiv d) := td_nm ha.2 hd0 (by unfold Sp.Ok Nm at ha; simp only at ha; omega)
          have t1 : IntKind.i64.wrap (al.tdiv d) = al.tdiv d := (IntWalk.i64_left _).trans (wr_id m1)
          have t2 : IntKind.i64.wrap (ah.tdiv d) = ah.tdiv d := (IntWalk.i64_left _).trans (wr_id m2)
          have HS : Hid (quoR (al, ah) (bl, bh) (k + 1) = quoR (al, ah) (bl, bh) k ++ [(IntKind.i64.wrap (al.tdiv d)), (IntKind.i64.wrap (ah.tdiv d))]) := by show _ = _; rw [quoR_succ hd, if_pos ⟨hd0, hin⟩, t1, t2]
          have hq3 := HQ3.out k
          obtain ⟨va, vc, hvo⟩ := a1.form
          subst hvo
          have HA := Hid.mk' (And.intro a1 a2)
          have hsw := a2.size
          have hov : Wq.ownsRow Wb.heap.size 2 1 _ _ _ := a1
          clear a1 a2 m1 m2 HH
          generalize hql : (quoR (al, ah) (bl, bh) k).length = n at *
          clear t1 t2
          have hnew : ∀ j2 u, ([.int .i64 (IntKind.i64.wrap (al.tdiv d)), .int .i64 (IntKind.i64.wrap (ah.tdiv d))] : List Value)[j2]? = some u → ((Wq.alloc (.cells #[.int .i64 (IntKind.i64.wrap (al.tdiv d)), .int .i64 (IntKind.i64.wrap (ah.tdiv d))] 2)).drew).cell? ((⟨Wq.heap.size, 0, none⟩ : Addr).add j2) = some u := new_two _ _ _ _
          have hov2 : ((Wq.alloc (.cells #[.int .i64 (IntKind.i64.wrap (al.tdiv d)), .int .i64 (IntKind.i64.wrap (ah.tdiv d))] 2)).drew).ownsRow Wb.heap.size 2 1 (.slice va n vc) n ((quoR (al, ah) (bl, bh) k).map iV) := hov.alloc (.cells #[.int .i64 (IntKind.i64.wrap (al.tdiv d)), .int .i64 (IntKind.i64.wrap (ah.tdiv d))] 2)
          have hm1 : ∀ u ∈ ([.int .i64 (IntKind.i64.wrap (al.tdiv d)), .int .i64 (IntKind.i64.wrap (ah.tdiv d))] : List Value), u.oneCell' = true := fun u hu => by simp at hu; rcases hu with rfl | rfl <;> rfl
          have hm2 : n + 2 ≤ maxLen := by unfold maxLen; omega
          have hm3 : (n + 2) * 8 ≤ 140737488355328 := by omega
          have hm4 : Wb.heap.size ≤ ((Wq.alloc (.cells #[.int .i64 (IntKind.i64.wrap (al.tdiv d)), .int .i64 (IntKind.i64.wrap (ah.tdiv d))] 2)).drew).heap.size := by show _ ≤ (Wq.alloc _).heap.size; simp; omega
          go_wp2_with fail
          go_region_law (refine step_append_own _ (by rfl) _ _ 38 (by rfl) Wb.heap.size 2 i0 (.int .i64 0) 1 8 Try.underlying38 hi hz0 hz1 hz2 rfl (by decide) _ _ _ (by rfl) hov2 ⟨Wq.heap.size, 0, none⟩ 2 2 [.int .i64 (IntKind.i64.wrap (al.tdiv d)), .int .i64 (IntKind.i64.wrap (ah.tdiv d))] (by rfl) (by rfl) hnew hm1 hm2 hm3 hm4 ?_; intro v' w4 hown' hgrow)
          all_goals
            have HW2 := Hid.mk' (And.intro hown' hgrow)
            clear hown' hgrow hov hov2 hnew e0 e1 hm1 hm2 hm3 hm4 hc
            go_wp2_with fail
            go_roundw
            case rel =>
              obtain ⟨a1, a2⟩ := HA.out
              obtain ⟨o1, o2⟩ := HW2.out
              obtain ⟨r1, r2⟩ := a1.push2 (by omega) hql o1 o2 (by rfl)
              refine ⟨k + 1, v', by omega, by go_num, rfl, ?_, a2.trans r2⟩
              rw [HS.out]; exact r1
            case measure => simp [intOf]; omega
        · have HH : Hid (∀ w, Calls Try.prog 15 #[.agg #[.int .i64 bl, .int .i64 bh], .int .i64 d] w fun e w' => e = .returned (.bool false) ∧ Below w.heap.size w w') := rhasF hin
          refine wp_region_quiet_below (by kernel_rfl) (by kernel_rfl) ?_
          repeat (go_big_quiet_step (first | (go_at_call 15; with_reducible exact Calls.regrown_of (HH.out _))))
          refine wpQuiet_nil ?_
          intro _ hw'
          obtain ⟨⟨dq, osq⟩, hw''⟩ := hw'
          subst hw''
          have Bq := below_regrown wr dq osq
          replace A0 := A0.stay Bq
          replace A2 := A2.stay Bq
          replace a1 := a1.stay Bq
          replace a2 := Below.on a2 Bq
          replace hc := cell_below hc Bq
          clear Bq f0 f1 f2
          simp only
          generalize grow (redrawn wr dq) osq = Wq at *
          go_wp2_with fail
          go_roundw
          case rel =>
            refine ⟨k + 1, _, by omega, by go_num, rfl, ?_, a2⟩
            rw [quoR_succ hd, if_neg (fun h => hin h.2)]
            exact a1
          case measure => simp [intOf]; omega
    · have hk4 : 4 = k := by omega
      subst hk4
      have hli : ¬ ((4 : Nat) : Int) < 4 := by omega
      have hql := HQ3.out 4
      have hqp := HQ2.out
      obtain ⟨va, vc, rfl, hT⟩ := a1.ths
      have HE := Hid.mk' (rends_yes (quoR (al, ah) (bl, bh) 4) va vc hqp (by omega) wr hT)
      rw [HQ.out] at HE
      have BB := Below.on B a2
      clear HQ HQ2 HQ3 a1 hT
      generalize (quoR (al, ah) (bl, bh) 4).length = n at *
      go_wp2_with (go_at_call 41; refine HE.out.mono ?_; rintro e w6 ⟨rfl, hb6⟩; have D2 := A2.stay hb6; have s0 := D2.c0; have s1 := D2.c1; have s2 := D2.f0; have s3 := D2.f1)
      exact bodyPost_ret (v := sv (R1, R2)) (by simp [results, Try.results44, go_sem, *]) rfl ⟨rfl, Below.put (Below.on BB hb6) (by omega) _ _⟩
theorem rquotients_any (a b : Sp) (ha : a.Ok) (hle : a.1 ≤ a.2) (hbl : b.1 ≤ b.2) (h0 : b ≠ (0, 0)) (w : World) : Calls Try.prog 44 #[sv a, sv b] w fun e w' => e = .returned (sv (quoS a b)) ∧ Below w.heap.size w w' := by
  obtain ⟨al, ah⟩ := a
  obtain ⟨bl, bh⟩ := b
  by_cases h1 : al ≤ -9223372036854775808 ∧ -9223372036854775808 ≤ ah
  · by_cases h2 : bl ≤ -1 ∧ -1 ≤ bh
    · have e : quoS (al, ah) (bl, bh) = allS := if_pos (by simp only [hasB]; rw [decide_eq_true h1, decide_eq_true h2]; rfl)
      rw [e]
      exact rquo_all al ah bl bh h1 h2 w
    · have e : quoS (al, ah) (bl, bh) = hull (quoL (al, ah) (cand (bl, bh))) := if_neg (by simp only [hasB]; rw [decide_eq_false h2]; simp)
      rw [e]
      exact rquo_loop2 al ah bl bh ha h1 h2 hbl h0 w
  · have e : quoS (al, ah) (bl, bh) = hull (quoL (al, ah) (cand (bl, bh))) := if_neg (by simp only [hasB]; rw [decide_eq_false h1]; simp)
    rw [e]
    exact rquo_loop al ah bl bh ha hle h1 hbl h0 w
end Go.Proofs.Ytbepapbfohfdkaa
