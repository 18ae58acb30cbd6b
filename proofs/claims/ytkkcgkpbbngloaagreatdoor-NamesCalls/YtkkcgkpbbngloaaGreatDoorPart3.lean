/- The program's walker: a body in a scope of its own. -/
import Derived.Test.YtkkcgkpbbngloaaGreatDoorPart2
import Derived.Deep.CutBlock
import Derived.Deep.RegionHeld
import Derived.Test.YtkkcgkpbbngloaaGreatDoorPart1
namespace Go.Proofs.YtkkcgkpbbngloaaGreatDoor
open Go.RowKit Go.Sort

mutual
def qS : St → Nat | .mk _ _ _ a b _ _ l _ _ e _ _ c => 1 + a.sz + b.sz + qSs l + qSs e + qCs c
def qSs : List St → Nat | [] => 0 | x :: r => qS x + qSs r
def qC : Ca → Nat | .mk _ _ _ l => 1 + qSs l
def qCs : List Ca → Nat | [] => 0 | c :: r => qC c + qCs r
end
theorem qS_eq (s : St) : qS s = 1 + s.a.sz + s.b.sz + qSs s.body + qSs s.els + qCs s.cases := by cases s; rw [qS]; rfl
theorem qC_eq (c : Ca) : qC c = 1 + qSs c.body := by cases c; rw [qC]; rfl
/-- A look turns the innermost scope alone. -/
theorem dcEnv_tail (f : Bool × List (List UInt8 × Int)) (env : Env) (s : List UInt8) (k : Int) : ∃ f', f'.1 = f.1 ∧ f'.2.length ≤ f.2.length + 1 ∧ dcEnv (f :: env) s k = f' :: env := by
  unfold dcEnv
  split
  · exact ⟨f, rfl, by omega, rfl⟩
  · exact ⟨(f.1, (s, k) :: f.2), rfl, by simp, rfl⟩
theorem stS_tail (ft : List (List UInt8 × Int)) (s : St) (f : Bool × List (List UInt8 × Int)) (env : Env) (m : Int) : ∃ f', f'.1 = f.1 ∧ f'.2.length ≤ f.2.length + 1 ∧ (stS ft s (f :: env) m).env = f' :: env := by
  obtain ⟨k, nm, n, a, b, ba, bc, l, ea, ec, e, ca, cc, c⟩ := s
  rw [stS]
  split
  · exact dcEnv_tail f env _ _
  split
  · exact dcEnv_tail f env _ _
  split
  · exact ⟨f, rfl, by omega, rfl⟩
  split
  · exact ⟨f, rfl, by omega, rfl⟩
  split
  · split
    · exact ⟨f, rfl, by omega, rfl⟩
    split
    · exact ⟨f, rfl, by omega, rfl⟩
    split
    · exact ⟨f, rfl, by omega, rfl⟩
    · exact ⟨f, rfl, by omega, rfl⟩
  split
  · split
    · exact ⟨f, rfl, by omega, rfl⟩
    · exact ⟨f, rfl, by omega, rfl⟩
  split
  · exact ⟨f, rfl, by omega, rfl⟩
  · exact ⟨f, rfl, by omega, rfl⟩
theorem lsS_tail (ft : List (List UInt8 × Int)) : ∀ (l : List St) (f : Bool × List (List UInt8 × Int)) (env : Env) (m : Int), ∃ f', f'.1 = f.1 ∧ f'.2.length ≤ f.2.length + l.length ∧ (lsS ft l (f :: env) m).env = f' :: env
  | [], f, env, m => ⟨f, rfl, by simp, by rw [lsS]⟩
  | s :: r, f, env, m => by
    obtain ⟨f1, h1, h2, h3⟩ := stS_tail ft s f env (m + 1)
    rw [lsS]
    split
    · exact ⟨f1, h1, by simp only [List.length_cons]; omega, h3⟩
    · rw [h3]
      obtain ⟨f2, g1, g2, g3⟩ := lsS_tail ft r f1 env (stS ft s (f :: env) (m + 1)).m
      exact ⟨f2, g1.trans h1, by simp only [List.length_cons]; omega, g3⟩
/-- What a look at statements leaves. -/
def LP (N b fm : Nat) (a : Option Addr) (x : Nat × Nat) (bs : List (Nat × Nat)) (ft : List (List UInt8 × Int)) (v : Value) (cs : List Int) (k : Nat) (w w' : World) (r : SR) : Prop :=
  ∃ v' cs', WS N w' b fm a (x :: bs) r.env ft r.m v' cs' ∧ (r.e = 0 → cs' = cs ++ r.c) ∧ cs'.length ≤ cs.length + k ∧ Fr (b :: x.2 :: ob v) w w' ∧ ∀ g ∈ ob v', g ∈ ob v ∨ w.heap.size ≤ g
abbrev LsN (w0 : World) (b fm : Nat) (ft : List (List UInt8 × Int)) (k : Nat) : Prop := ∀ (l : List St) (la : Option Addr) (lc : Nat) (a : Option Addr) (x : Nat × Nat) (bs : List (Nat × Nat)) (env : Env) (m : Int) (v : Value) (cs : List Int) (w : World), qSs l ≤ k → Have w0 la lc l → Below w0.heap.size w0 w → WS w0.heap.size w b fm a (x :: bs) env ft m v cs → cs.length + qSs l ≤ 1000000 → (∀ f ∈ env, f.2.length + qSs l ≤ 900000) → 0 ≤ m → m + qSs l ≤ 1000000000 →
  Calls Tryz.prog 28 #[.pointer (some ⟨b, 0, none⟩), .slice la l.length lc] w fun e w' => e = .returned (.int .i64 (lsS ft l env m).e) ∧ LP w0.heap.size b fm a x bs ft v cs (qSs l) w w' (lsS ft l env m)
theorem ws_scope {N b fm : Nat} {W : World} {a a2 bs bs2 env env2 ft m v cs} (h : WS N W b fm a bs env ft m v cs) (hc : Chain W a2 bs2 env2) (hnd : (b :: fm :: chB bs2).Nodup) (ho : ∀ g ∈ ob v, g ∉ b :: fm :: chB bs2) (hN : ∀ g ∈ b :: fm :: chB bs2, N ≤ g) :
    WS N (W.setCell ⟨b, 0, none⟩ (.pointer a2)) b fm a2 bs2 env2 ft m v cs := by
  obtain ⟨k1, k2, k3, k4, k5, k6, k7⟩ := h
  have hset : Fr [b] W (W.setCell ⟨b, 0, none⟩ (.pointer a2)) := (Fr.refl _ W).set (by simp) _ _
  have hn := List.nodup_cons.1 hnd
  refine ⟨by simp [World.setCell, Array.getElem?_modify, k1], hc.fr hset (fun q hq hy => ?_), k3.fr hset (fun hy => ?_), own_keep k4 (fun q hq => hset.2.2.2.2 q (own_lt k4 q hq).2 (fun hy => ?_)), hnd, ho, hN⟩
  · have : q = b := by simpa using hy
    subst this; exact hn.1 (by simp [hq])
  · have : fm = b := by simpa using hy
    exact hn.1 (by simp [this])
  · have : q = b := by simpa using hy
    subst this; exact ho q hq (by simp)

set_option maxRecDepth 100000 in
set_option maxHeartbeats 2000000 in
theorem nbody_of (w0 : World) (b fm : Nat) (ft : List (List UInt8 × Int)) (k : Nat) (ih : LsN w0 b fm ft k) (l : List St) (la : Option Addr) (lc : Nat) (a a2 : Option Addr) (x x2 : Nat × Nat) (bs : List (Nat × Nat)) (f2 : Bool × List (List UInt8 × Int)) (env : Env) (m : Int) (v : Value) (cs : List Int) (w : World)
    (hk : qSs l ≤ k) (hin : Have w0 la lc l) (hB : Below w0.heap.size w0 w) (hw : WS w0.heap.size w b fm a (x :: bs) env ft m v cs) (hc : Chain w a2 (x2 :: x :: bs) (f2 :: env)) (hnd : (b :: fm :: chB (x2 :: x :: bs)).Nodup) (ho : ∀ g ∈ ob v, g ∉ b :: fm :: chB (x2 :: x :: bs)) (hN : ∀ g ∈ b :: fm :: chB (x2 :: x :: bs), w0.heap.size ≤ g)
    (h1 : cs.length + qSs l ≤ 1000000) (h2 : ∀ f ∈ f2 :: env, f.2.length + qSs l ≤ 900000) (h3 : 0 ≤ m) (h4 : m + qSs l ≤ 1000000000) :
    Calls Tryz.prog 101 #[.pointer (some ⟨b, 0, none⟩), .pointer a2, .slice la l.length lc] w fun e w' => e = .returned (.int .i64 (lsS ft l (f2 :: env) m).e) ∧
      ∃ v' cs', WS w0.heap.size w' b fm a (x :: bs) env ft (lsS ft l (f2 :: env) m).m v' cs' ∧ ((lsS ft l (f2 :: env) m).e = 0 → cs' = cs ++ (lsS ft l (f2 :: env) m).c) ∧ cs'.length ≤ cs.length + qSs l ∧ Fr (b :: x2.2 :: ob v) w w' ∧ ∀ g ∈ ob v', g ∈ ob v ∨ w.heap.size ≤ g := by
  have hw1 := ws_scope hw hc hnd ho hN
  have HW : Hid (WS w0.heap.size w b fm a (x :: bs) env ft m v cs) := hw
  have hset : Fr (b :: x2.2 :: ob v) w (w.setCell ⟨b, 0, none⟩ (.pointer a2)) := (Fr.refl _ w).set (by simp) _ _
  have hsz : (w.setCell ⟨b, 0, none⟩ (.pointer a2)).heap.size = w.heap.size := by simp [World.setCell]
  have HLS : Hid (Calls Tryz.prog 28 #[.pointer (some ⟨b, 0, none⟩), .slice la l.length lc] (w.setCell ⟨b, 0, none⟩ (.pointer a2)) fun e w' => e = .returned (.int .i64 (lsS ft l (f2 :: env) m).e) ∧ LP w0.heap.size b fm a2 x2 (x :: bs) ft v cs (qSs l) (w.setCell ⟨b, 0, none⟩ (.pointer a2)) w' (lsS ft l (f2 :: env) m)) :=
    ih l la lc a2 x2 (x :: bs) (f2 :: env) m v cs _ hk hin (hB.trans (hset.below (fun q hq => by
      rcases List.mem_cons.1 hq with rfl | hq
      · exact hN q (by simp)
      rcases List.mem_cons.1 hq with rfl | hq
      · exact hN _ (by simp [chB])
      · exact (own_lt hw.2.2.2.1 q hq).1) hB.size)) hw1 h1 h2 h3 h4
  have ha : ∀ w2 v' cs' f' mm, WS w0.heap.size w2 b fm a2 (x2 :: x :: bs) (f' :: env) ft mm v' cs' → WS w0.heap.size (w2.setCell ⟨b, 0, none⟩ (.pointer a)) b fm a (x :: bs) env ft mm v' cs' := fun w2 v' cs' f' mm h => by
    obtain ⟨_, ⟨a', _, h5⟩, _⟩ := h.2.1
    have e1 : a = a' := by
      match env, hw.2.1, h5 with
      | g :: env, hx, hy => exact hx.1.trans hy.1.symm
      | [], hx, _ => exact hx.elim
    subst e1
    exact ws_scope h h5 hw.2.2.2.2.1 (fun q hq hy => h.2.2.2.2.2.1 q hq (by
      simp only [chB, List.mem_cons] at hy ⊢
      grind)) hw.2.2.2.2.2.2
  have HA : Hid (∀ w2 v' cs' f' mm, WS w0.heap.size w2 b fm a2 (x2 :: x :: bs) (f' :: env) ft mm v' cs' → WS w0.heap.size (w2.setCell ⟨b, 0, none⟩ (.pointer a)) b fm a (x :: bs) env ft mm v' cs') := ha
  obtain ⟨f', _, _, ht⟩ := lsS_tail ft l f2 env m
  have HT : Hid ((lsS ft l (f2 :: env) m).env = f' :: env) := ht
  have HSET : Hid (Fr (b :: x2.2 :: ob v) w (w.setCell ⟨b, 0, none⟩ (.pointer a2)) ∧ (w.setCell ⟨b, 0, none⟩ (.pointer a2)).heap.size = w.heap.size) := ⟨hset, hsz⟩
  have k0 := hw.cellS
  have q0 := hw.frozen 0
  generalize lsS ft l (f2 :: env) m = R at *
  clear hw1 hw hset hsz ha ht hc hnd ho hN hin hB hk h1 h2 h3 h4 ih
  go_enter Tryz.func101, Tryz.ntmps101
  go_upto_region 3 with fail
  generalize w.setCell ⟨b, 0, none⟩ (.pointer a2) = W1 at *
  go_wp2_with fail
  refine HLS.out.mono ?_
  rintro e w2 ⟨rfl, hp⟩
  obtain ⟨v', cs', i1, i2, i3, i4, i5⟩ := hp
  rw [HT.out] at i1
  have k2 := i1.cellS
  have q2 := i1.frozen 0
  have HG : Hid (WS w0.heap.size (w2.setCell ⟨b, 0, none⟩ (.pointer a)) b fm a (x :: bs) env ft R.m v' cs' ∧ (R.e = 0 → cs' = cs ++ R.c) ∧ cs'.length ≤ cs.length + qSs l ∧ Fr (b :: x2.2 :: ob v) w (w2.setCell ⟨b, 0, none⟩ (.pointer a)) ∧ ∀ g ∈ ob v', g ∈ ob v ∨ w.heap.size ≤ g) :=
    ⟨HA.out w2 v' cs' f' R.m i1, i2, i3, (HSET.out.1.trans i4).set (by simp) _ _, fun g hg => by rw [← HSET.out.2]; exact i5 g hg⟩
  clear i1 i2 i3 i4 i5 k0 q0 HLS
  go_wp2_with fail
  go_ret
  exact ⟨rfl, v', cs', HG.out⟩
end Go.Proofs.YtkkcgkpbbngloaaGreatDoor

/- The program's walker: statements, one after the other. -/
namespace Go.Proofs.YtkkcgkpbbngloaaGreatDoor
open Go.RowKit Go.Sort

mutual
theorem stS_m (ft : List (List UInt8 × Int)) : ∀ (s : St) (env : Env) (m : Int), m ≤ (stS ft s env m).m ∧ (stS ft s env m).m + 1 ≤ m + qS s
  | .mk k nm n a b ba bc l ea ec e ca cc c, env, m => by
    have h1 := lsS_m ft l ((lvZ env == 0, []) :: env) m
    have h2 := csS_m ft c env (lsS ft l ((lvZ env == 0, []) :: env) m).m
    have h3 := lsS_m ft e ((lvZ env == 0, []) :: env) (csS ft c env (lsS ft l ((lvZ env == 0, []) :: env) m).m).m
    have h4 := lsS_m ft l (dcEnv ((true, []) :: env) nm.data.toList 3) m
    rw [stS, qS]
    split
    · constructor <;> dsimp only <;> omega
    split
    · constructor <;> dsimp only <;> omega
    split
    · constructor <;> dsimp only <;> omega
    split
    · constructor <;> dsimp only <;> omega
    split
    · split
      · constructor <;> dsimp only <;> omega
      split
      · constructor <;> dsimp only <;> omega
      split
      · constructor <;> dsimp only <;> omega
      · constructor <;> dsimp only <;> omega
    split
    · split
      · constructor <;> dsimp only <;> omega
      · constructor <;> dsimp only <;> omega
    split
    · constructor <;> dsimp only <;> omega
    · constructor <;> dsimp only <;> omega
theorem lsS_m (ft : List (List UInt8 × Int)) : ∀ (l : List St) (env : Env) (m : Int), m ≤ (lsS ft l env m).m ∧ (lsS ft l env m).m ≤ m + qSs l
  | [], env, m => by rw [lsS, qSs]; constructor <;> dsimp only <;> omega
  | s :: r, env, m => by
    have h1 := stS_m ft s env (m + 1)
    have h2 := lsS_m ft r (stS ft s env (m + 1)).env (stS ft s env (m + 1)).m
    rw [lsS, qSs]
    split
    · constructor <;> omega
    · constructor <;> dsimp only <;> omega
theorem caS_m (ft : List (List UInt8 × Int)) : ∀ (c : Ca) (env : Env) (m : Int), m ≤ (caS ft c env m).m ∧ (caS ft c env m).m + 1 ≤ m + qC c
  | .mk n ba bc l, env, m => by
    have h1 := lsS_m ft l ((lvZ env == 0, []) :: env) m
    rw [caS, qC]
    constructor <;> omega
theorem csS_m (ft : List (List UInt8 × Int)) : ∀ (l : List Ca) (env : Env) (m : Int), m ≤ (csS ft l env m).m ∧ (csS ft l env m).m ≤ m + qCs l
  | [], env, m => by rw [csS, qCs]; constructor <;> dsimp only <;> omega
  | c :: r, env, m => by
    have h1 := caS_m ft c env m
    have h2 := csS_m ft r env (caS ft c env m).m
    rw [csS, qCs]
    split
    · constructor <;> dsimp only <;> omega
    · constructor <;> dsimp only <;> omega
end
theorem lsS_drop {ft : List (List UInt8 × Int)} {l : List St} {j : Nat} {env : Env} {m : Int} (h : j < l.length) : lsS ft (l.drop j) env m = if (stS ft l[j] env (m + 1)).e ≠ 0 then stS ft l[j] env (m + 1)
    else ⟨(lsS ft (l.drop (j + 1)) (stS ft l[j] env (m + 1)).env (stS ft l[j] env (m + 1)).m).e, (lsS ft (l.drop (j + 1)) (stS ft l[j] env (m + 1)).env (stS ft l[j] env (m + 1)).m).m, (lsS ft (l.drop (j + 1)) (stS ft l[j] env (m + 1)).env (stS ft l[j] env (m + 1)).m).env, (stS ft l[j] env (m + 1)).c ++ (lsS ft (l.drop (j + 1)) (stS ft l[j] env (m + 1)).env (stS ft l[j] env (m + 1)).m).c⟩ := by
  rw [List.drop_eq_getElem_cons h, lsS]
theorem qSs_drop {l : List St} {j : Nat} (h : j < l.length) : qSs (l.drop j) = qS l[j] + qSs (l.drop (j + 1)) := by
  rw [List.drop_eq_getElem_cons h, qSs]
theorem qSs_mem {l : List St} {x : St} (h : x ∈ l) : qS x ≤ qSs l := by
  induction l with
  | nil => cases h
  | cons y r ih =>
    rw [qSs]
    rcases List.mem_cons.1 h with rfl | h
    · omega
    · have := ih h; omega
theorem qS_pos (s : St) : 1 ≤ qS s := by rw [qS_eq]; omega
theorem ws_at {N b fm : Nat} {W : World} {a bs env ft m v cs} (h : WS N W b fm a bs env ft m v cs) (m' : Int) : WS N (W.setCell ⟨b, 2, none⟩ (.int .i64 m')) b fm a bs env ft m' v cs := by
  obtain ⟨k1, k2, k3, k4, k5, k6, k7⟩ := h
  have hset : Fr [b] W (W.setCell ⟨b, 2, none⟩ (.int .i64 m')) := (Fr.refl _ W).set (by simp) _ _
  have hn := List.nodup_cons.1 k5
  refine ⟨by simp [World.setCell, Array.getElem?_modify, k1], k2.fr hset (fun q hq hy => ?_), k3.fr hset (fun hy => ?_), own_keep k4 (fun q hq => hset.2.2.2.2 q (own_lt k4 q hq).2 (fun hy => ?_)), k5, k6, k7⟩
  · have : q = b := by simpa using hy
    subst this; exact hn.1 (by simp [hq])
  · have : fm = b := by simpa using hy
    exact hn.1 (by simp [this])
  · have : q = b := by simpa using hy
    subst this; exact k6 q hq (by simp)
abbrev StN (w0 : World) (b fm : Nat) (ft : List (List UInt8 × Int)) (k : Nat) : Prop := ∀ (s : St) (a : Option Addr) (x : Nat × Nat) (bs : List (Nat × Nat)) (env : Env) (m : Int) (v : Value) (cs : List Int) (w : World), qS s ≤ k → s.In w0 → Below w0.heap.size w0 w → WS w0.heap.size w b fm a (x :: bs) env ft m v cs → cs.length + qS s ≤ 1000000 → (∀ f ∈ env, f.2.length + qS s ≤ 900000) → 0 ≤ m → m + qS s ≤ 1000000001 →
  Calls Tryz.prog 52 #[.pointer (some ⟨b, 0, none⟩), s.val] w fun e w' => e = .returned (.int .i64 (stS ft s env m).e) ∧ LP w0.heap.size b fm a x bs ft v cs (qS s) w w' (stS ft s env m)
theorem LP.pre {N b fm : Nat} {a : Option Addr} {x : Nat × Nat} {bs : List (Nat × Nat)} {ft : List (List UInt8 × Int)} {v v1 : Value} {cs cs1 : List Int} {k k1 : Nat} {w w1 w2 : World} {r : SR} (h2 : cs1.length ≤ cs.length + k1) (h3 : Fr (b :: x.2 :: ob v) w w1) (h4 : ∀ g ∈ ob v1, g ∈ ob v ∨ w.heap.size ≤ g)
    (h : LP N b fm a x bs ft v1 cs1 k w1 w2 r) : ∃ v' cs', WS N w2 b fm a (x :: bs) r.env ft r.m v' cs' ∧ (r.e = 0 → cs' = cs1 ++ r.c) ∧ cs'.length ≤ cs.length + (k1 + k) ∧ Fr (b :: x.2 :: ob v) w w2 ∧ ∀ g ∈ ob v', g ∈ ob v ∨ w.heap.size ≤ g := by
  obtain ⟨v', cs', i1, i2, i3, i4, i5⟩ := h
  refine ⟨v', cs', i1, i2, by omega, h3.trans' i4 fun q hq => ?_, fun g hg => ?_⟩
  · rcases List.mem_cons.1 hq with rfl | hq
    · exact Or.inl (by simp)
    rcases List.mem_cons.1 hq with rfl | hq
    · exact Or.inl (by simp)
    · rcases h4 q hq with h' | h'
      · exact Or.inl (by simp [h'])
      · exact Or.inr h'
  · rcases i5 g hg with h' | h'
    · exact h4 g h'
    · exact Or.inr (Nat.le_trans h3.size h')

set_option maxRecDepth 100000 in
set_option maxHeartbeats 4000000 in
theorem nlist_step (w0 : World) (b fm : Nat) (ft : List (List UInt8 × Int)) (k : Nat) (ih : StN w0 b fm ft k) : LsN w0 b fm ft k := fun l la lc a x bs env m v cs w hk hin hB hw h1 h2 h3 h4 => by
  obtain ⟨⟨hlc, hcc, _, hrow⟩, hsub⟩ := hin
  have IH : Hid (StN w0 b fm ft k) := ih
  have HS : Hid (∀ y ∈ l, y.In w0) := hsub
  have HR : Hid (RowIn w0 la 14 (List.map St.cells l)) := hrow
  have HBW : Hid (Below w0.heap.size w0 w) := hB
  have HW : Hid (WS w0.heap.size w b fm a (x :: bs) env ft m v cs) := hw
  have HK : Hid (qSs l ≤ k ∧ cs.length + qSs l ≤ 1000000 ∧ (∀ f ∈ env, f.2.length + qSs l ≤ 900000) ∧ m + qSs l ≤ 1000000000) := ⟨hk, h1, h2, h4⟩
  have HN : Hid (∀ q ∈ b :: x.2 :: ob v, w0.heap.size ≤ q) := fun q hq => by
    rcases List.mem_cons.1 hq with rfl | hq
    · exact hw.2.2.2.2.2.2 q (by simp)
    rcases List.mem_cons.1 hq with rfl | hq
    · exact hw.2.2.2.2.2.2 _ (by simp [chB])
    · exact (own_lt hw.2.2.2.1 q hq).1
  obtain ⟨R, HRR⟩ : ∃ R, Hid (lsS ft l env m = R) := ⟨_, rfl⟩
  rw [HRR.out]
  have hNw : w0.heap.size ≤ w.heap.size := hB.size
  clear ih hsub hrow hB hw hk h1 h2 h4
  go_enter Tryz.func28, Tryz.ntmps28
  go_wp2_with fail
  go_loopw [10] (fun t10 wr => ∃ (j : Nat) (v' : Value) (cs' cd : List Int) (env' : Env) (mj : Int), j ≤ l.length ∧ t10 = .int .i64 j ∧ WS w0.heap.size wr b fm a (x :: bs) env' ft mj v' cs' ∧ ((lsS ft (l.drop j) env' mj).e = R.e ∧ (lsS ft (l.drop j) env' mj).m = R.m ∧ (lsS ft (l.drop j) env' mj).env = R.env ∧ (R.e = 0 → R.c = cd ++ (lsS ft (l.drop j) env' mj).c)) ∧ cs' = cs ++ cd ∧ cs'.length + qSs (l.drop j) ≤ cs.length + qSs l ∧ (∀ f ∈ env', f.2.length + qSs (l.drop j) ≤ 900000) ∧ 0 ≤ mj ∧ mj + qSs (l.drop j) ≤ 1000000000 ∧ Fr (b :: x.2 :: ob v) w wr ∧ ∀ g ∈ ob v', g ∈ ob v ∨ w.heap.size ≤ g) (fun t10 _ => l.length - (intOf t10).toNat)
  case atStart => exact ⟨0, v, cs, [], env, m, Nat.zero_le _, rfl, HW.out, ⟨by rw [← HRR.out]; rfl, by rw [← HRR.out]; rfl, by rw [← HRR.out]; rfl, fun _ => by rw [← HRR.out]; rfl⟩, by simp, by simp, by simpa using HK.out.2.2.1, h3, by simpa using HK.out.2.2.2, Fr.refl _ _, fun g hg => Or.inl hg⟩
  case round =>
    obtain ⟨j, v', cs', cd, env', mj, hj, rfl, g1, g2, g3, g4, g5, g6, g7, g8, g9⟩ := hrel
    have HX : Hid (WS w0.heap.size wr b fm a (x :: bs) env' ft mj v' cs' ∧ cs' = cs ++ cd ∧ cs'.length + qSs (l.drop j) ≤ cs.length + qSs l ∧ (∀ f ∈ env', f.2.length + qSs (l.drop j) ≤ 900000) ∧ mj + qSs (l.drop j) ≤ 1000000000 ∧ Fr (b :: x.2 :: ob v) w wr ∧ ∀ g ∈ ob v', g ∈ ob v ∨ w.heap.size ≤ g) := ⟨g1, g3, g4, g5, g7, g8, g9⟩
    have HQ : Hid ((lsS ft (l.drop j) env' mj).e = R.e ∧ (lsS ft (l.drop j) env' mj).m = R.m ∧ (lsS ft (l.drop j) env' mj).env = R.env ∧ (R.e = 0 → R.c = cd ++ (lsS ft (l.drop j) env' mj).c)) := g2
    have HBR : Hid (Below w0.heap.size w0 wr) := HBW.out.trans (g8.below HN.out hNw)
    have hlt0 := g1.lt
    clear g1 g2 g3 g4 g5 g7 g8 g9
    by_cases hlt : j < l.length
    · obtain ⟨g, o, rfl, hcs⟩ := rowS_at (HR.out.below HBR.out) hlt
      have hli : (j : Int) < (l.length : Int) := by omega
      have HD : Hid (lsS ft (l.drop j) env' mj = if (stS ft l[j] env' (mj + 1)).e ≠ 0 then stS ft l[j] env' (mj + 1)
    else ⟨(lsS ft (l.drop (j + 1)) (stS ft l[j] env' (mj + 1)).env (stS ft l[j] env' (mj + 1)).m).e, (lsS ft (l.drop (j + 1)) (stS ft l[j] env' (mj + 1)).env (stS ft l[j] env' (mj + 1)).m).m, (lsS ft (l.drop (j + 1)) (stS ft l[j] env' (mj + 1)).env (stS ft l[j] env' (mj + 1)).m).env, (stS ft l[j] env' (mj + 1)).c ++ (lsS ft (l.drop (j + 1)) (stS ft l[j] env' (mj + 1)).env (stS ft l[j] env' (mj + 1)).m).c⟩) := lsS_drop hlt
      have HSD : Hid (qSs (l.drop j) = qS l[j] + qSs (l.drop (j + 1)) ∧ qS l[j] ≤ qSs l ∧ 1 ≤ qS l[j]) := ⟨qSs_drop hlt, qSs_mem (List.getElem_mem hlt), qS_pos _⟩
      have HTA : Hid (mj + 1 ≤ (stS ft l[j] env' (mj + 1)).m ∧ (stS ft l[j] env' (mj + 1)).m + 1 ≤ mj + 1 + qS l[j]) := stS_m ft l[j] env' (mj + 1)
      have HTE : Hid (∀ f ∈ (stS ft l[j] env' (mj + 1)).env, f.2.length + qSs (l.drop (j + 1)) ≤ 900000) := by
        have hx := HX.out.2.2.2.1
        have hd := HSD.out
        match env', HX.out.1.2.1, hx with
        | [], hx, _ => exact hx.elim
        | f :: er, _, hx =>
          obtain ⟨f', _, hf, he⟩ := stS_tail ft l[j] f er (mj + 1)
          show ∀ _ ∈ _, _
          rw [he]
          intro q hq
          rcases List.mem_cons.1 hq with rfl | hq
          · have := hx f (by simp); omega
          · have := hx q (by simp [hq]); omega
      have HY : Hid (St.In w0 l[j]) := HS.out _ (List.getElem_mem hlt)
      generalize l[j] = y at *
      have hb2 := (Below.refl _ (wr.setCell ⟨b, 2, none⟩ (.int .i64 (mj + 1)))).alloc (Nat.le_refl _) (.cells #[.int .i64 y.kind, .string y.name, .int .i64 y.n, .int .i64 y.a.kind, .int .i64 y.a.n, .string y.a.name, .slice y.a.a y.a.args.length y.a.cap, .int .i64 y.b.kind, .int .i64 y.b.n, .string y.b.name, .slice y.b.a y.b.args.length y.b.cap, .slice y.ba y.body.length y.bc, .slice y.ea y.els.length y.ec, .slice y.ca y.cases.length y.cc] 44)
      have hfr : Fr (b :: x.2 :: ob v') wr ((wr.setCell ⟨b, 2, none⟩ (.int .i64 (mj + 1))).alloc (.cells #[.int .i64 y.kind, .string y.name, .int .i64 y.n, .int .i64 y.a.kind, .int .i64 y.a.n, .string y.a.name, .slice y.a.a y.a.args.length y.a.cap, .int .i64 y.b.kind, .int .i64 y.b.n, .string y.b.name, .slice y.b.a y.b.args.length y.b.cap, .slice y.ba y.body.length y.bc, .slice y.ea y.els.length y.ec, .slice y.ca y.cases.length y.cc] 44)) := ((Fr.refl _ wr).set (by simp) _ _).trans (Fr.of_below hb2)
      have hwA := (ws_at HX.out.1 (mj + 1)).stay hb2
      have HCL : Hid (Calls Tryz.prog 52 #[.pointer (some ⟨b, 0, none⟩), y.val] ((wr.setCell ⟨b, 2, none⟩ (.int .i64 (mj + 1))).alloc (.cells #[.int .i64 y.kind, .string y.name, .int .i64 y.n, .int .i64 y.a.kind, .int .i64 y.a.n, .string y.a.name, .slice y.a.a y.a.args.length y.a.cap, .int .i64 y.b.kind, .int .i64 y.b.n, .string y.b.name, .slice y.b.a y.b.args.length y.b.cap, .slice y.ba y.body.length y.bc, .slice y.ea y.els.length y.ec, .slice y.ca y.cases.length y.cc] 44)) fun e w' => e = .returned (.int .i64 (stS ft y env' (mj + 1)).e) ∧ LP w0.heap.size b fm a x bs ft v' cs' (qS y) ((wr.setCell ⟨b, 2, none⟩ (.int .i64 (mj + 1))).alloc (.cells #[.int .i64 y.kind, .string y.name, .int .i64 y.n, .int .i64 y.a.kind, .int .i64 y.a.n, .string y.a.name, .slice y.a.a y.a.args.length y.a.cap, .int .i64 y.b.kind, .int .i64 y.b.n, .string y.b.name, .slice y.b.a y.b.args.length y.b.cap, .slice y.ba y.body.length y.bc, .slice y.ea y.els.length y.ec, .slice y.ca y.cases.length y.cc] 44)) w' (stS ft y env' (mj + 1))) :=
        IH.out y a x bs env' (mj + 1) v' cs' _ (by have := HSD.out; have := HK.out.1; omega) HY.out (HBR.out.trans (hfr.below (fun q hq => by
          rcases List.mem_cons.1 hq with rfl | hq
          · exact HN.out q (by simp)
          rcases List.mem_cons.1 hq with rfl | hq
          · exact HN.out _ (by simp)
          · exact (own_lt HX.out.1.2.2.2.1 q hq).1) HBR.out.size)) hwA (by have := HSD.out; have := HX.out.2.2.1; have := HK.out.2.1; omega) (fun f hf => by have := HSD.out; have := HX.out.2.2.2.1 f hf; omega) (by omega) (by have := HSD.out; have := HX.out.2.2.2.2.1; omega)
      have HST : Hid (∀ w2, LP w0.heap.size b fm a x bs ft v' cs' (qS y) ((wr.setCell ⟨b, 2, none⟩ (.int .i64 (mj + 1))).alloc (.cells #[.int .i64 y.kind, .string y.name, .int .i64 y.n, .int .i64 y.a.kind, .int .i64 y.a.n, .string y.a.name, .slice y.a.a y.a.args.length y.a.cap, .int .i64 y.b.kind, .int .i64 y.b.n, .string y.b.name, .slice y.b.a y.b.args.length y.b.cap, .slice y.ba y.body.length y.bc, .slice y.ea y.els.length y.ec, .slice y.ca y.cases.length y.cc] 44)) w2 (stS ft y env' (mj + 1)) → ∃ v2 cs2, WS w0.heap.size w2 b fm a (x :: bs) (stS ft y env' (mj + 1)).env ft (stS ft y env' (mj + 1)).m v2 cs2 ∧ ((stS ft y env' (mj + 1)).e = 0 → cs2 = cs' ++ (stS ft y env' (mj + 1)).c) ∧ cs2.length ≤ cs'.length + (0 + qS y) ∧ Fr (b :: x.2 :: ob v') wr w2 ∧ ∀ g ∈ ob v2, g ∈ ob v' ∨ wr.heap.size ≤ g) := fun w2 hp => LP.pre (Nat.le_refl _) hfr (fun g hg => Or.inl hg) hp
      have k2 : wr.cell? ⟨b, 2, none⟩ = some (.int .i64 mj) := HX.out.1.cellM
      have q2 : wr.frozen? ⟨b, 2, none⟩ = false := HX.out.1.frozen 2
      have hmj : mj ≤ 1000000000 := by have := HX.out.2.2.2.2.1; omega
      generalize stS ft y env' (mj + 1) = Q at *
      unfold St.val at HCL
      have c0 : wr.cell? ⟨g, o + j * 14, none⟩ = some (.int .i64 y.kind) := by have := hcs 0 _ rfl; simpa only [← Nat.add_assoc, Nat.add_zero] using this
      have c1 : wr.cell? ⟨g, o + j * 14 + 1, none⟩ = some (.string y.name) := by have := hcs 1 _ rfl; simpa only [← Nat.add_assoc, Nat.add_zero] using this
      have c2 : wr.cell? ⟨g, o + j * 14 + 2, none⟩ = some (.int .i64 y.n) := by have := hcs 2 _ rfl; simpa only [← Nat.add_assoc, Nat.add_zero] using this
      have c3 : wr.cell? ⟨g, o + j * 14 + 3, none⟩ = some (.int .i64 y.a.kind) := by have := hcs 3 _ rfl; simpa only [← Nat.add_assoc, Nat.add_zero] using this
      have c4 : wr.cell? ⟨g, o + j * 14 + 4, none⟩ = some (.int .i64 y.a.n) := by have := hcs 4 _ rfl; simpa only [← Nat.add_assoc, Nat.add_zero] using this
      have c5 : wr.cell? ⟨g, o + j * 14 + 5, none⟩ = some (.string y.a.name) := by have := hcs 5 _ rfl; simpa only [← Nat.add_assoc, Nat.add_zero] using this
      have c6 : wr.cell? ⟨g, o + j * 14 + 6, none⟩ = some (.slice y.a.a y.a.args.length y.a.cap) := by have := hcs 6 _ rfl; simpa only [← Nat.add_assoc, Nat.add_zero] using this
      have c7 : wr.cell? ⟨g, o + j * 14 + 7, none⟩ = some (.int .i64 y.b.kind) := by have := hcs 7 _ rfl; simpa only [← Nat.add_assoc, Nat.add_zero] using this
      have c8 : wr.cell? ⟨g, o + j * 14 + 8, none⟩ = some (.int .i64 y.b.n) := by have := hcs 8 _ rfl; simpa only [← Nat.add_assoc, Nat.add_zero] using this
      have c9 : wr.cell? ⟨g, o + j * 14 + 9, none⟩ = some (.string y.b.name) := by have := hcs 9 _ rfl; simpa only [← Nat.add_assoc, Nat.add_zero] using this
      have c10 : wr.cell? ⟨g, o + j * 14 + 10, none⟩ = some (.slice y.b.a y.b.args.length y.b.cap) := by have := hcs 10 _ rfl; simpa only [← Nat.add_assoc, Nat.add_zero] using this
      have c11 : wr.cell? ⟨g, o + j * 14 + 11, none⟩ = some (.slice y.ba y.body.length y.bc) := by have := hcs 11 _ rfl; simpa only [← Nat.add_assoc, Nat.add_zero] using this
      have c12 : wr.cell? ⟨g, o + j * 14 + 12, none⟩ = some (.slice y.ea y.els.length y.ec) := by have := hcs 12 _ rfl; simpa only [← Nat.add_assoc, Nat.add_zero] using this
      have c13 : wr.cell? ⟨g, o + j * 14 + 13, none⟩ = some (.slice y.ca y.cases.length y.cc) := by have := hcs 13 _ rfl; simpa only [← Nat.add_assoc, Nat.add_zero] using this
      clear hcs hb2 hfr hwA
      go_wp2_with fail
      refine HCL.out.mono ?_
      rintro e w2 ⟨rfl, hp⟩
      have HP2 : Hid (∃ v2 cs2, WS w0.heap.size w2 b fm a (x :: bs) Q.env ft Q.m v2 cs2 ∧ (Q.e = 0 → cs2 = cs' ++ Q.c) ∧ cs2.length ≤ cs'.length + (0 + qS y) ∧ Fr (b :: x.2 :: ob v') wr w2 ∧ ∀ g ∈ ob v2, g ∈ ob v' ∨ wr.heap.size ≤ g) := HST.out w2 hp
      clear hp HCL HST c0 c1 c2 c3 c4 c5 c6 c7 c8 c9 c10 c11 c12 c13 k2 q2
      cases hry : (Q.e != 0)
      · have hry0 : Q.e = 0 := by simpa using hry
        have HV : Hid ((lsS ft (l.drop (j + 1)) Q.env Q.m).e = R.e ∧ (lsS ft (l.drop (j + 1)) Q.env Q.m).m = R.m ∧ (lsS ft (l.drop (j + 1)) Q.env Q.m).env = R.env ∧ (R.e = 0 → R.c = (cd ++ Q.c) ++ (lsS ft (l.drop (j + 1)) Q.env Q.m).c)) := by
          have := HQ.out
          rw [HD.out, if_neg (by simpa using hry0)] at this
          exact ⟨this.1, this.2.1, this.2.2.1, fun e => by rw [this.2.2.2 e]; simp⟩
        obtain ⟨v2, cs2, i1, i2, i3, i4, i5⟩ := HP2.out
        have HG : Hid (WS w0.heap.size w2 b fm a (x :: bs) Q.env ft Q.m v2 cs2 ∧ cs2 = cs ++ (cd ++ Q.c) ∧ cs2.length + qSs (l.drop (j + 1)) ≤ cs.length + qSs l ∧ Fr (b :: x.2 :: ob v) w w2 ∧ ∀ g ∈ ob v2, g ∈ ob v ∨ w.heap.size ≤ g) := by
          refine ⟨i1, ?_, ?_, HX.out.2.2.2.2.2.1.trans' i4 fun q hq => ?_, fun q hq => ?_⟩
          · rw [i2 hry0, HX.out.2.1]; simp only [List.append_assoc]
          · have := HX.out.2.2.1; have := HSD.out; omega
          · rcases List.mem_cons.1 hq with rfl | hq
            · exact Or.inl (by simp)
            rcases List.mem_cons.1 hq with rfl | hq
            · exact Or.inl (by simp)
            · rcases HX.out.2.2.2.2.2.2 q hq with h' | h'
              · exact Or.inl (by simp [h'])
              · exact Or.inr h'
          · rcases i5 q hq with h' | h'
            · exact HX.out.2.2.2.2.2.2 q h'
            · exact Or.inr (Nat.le_trans HX.out.2.2.2.2.2.1.size h')
        clear i1 i2 i3 i4 i5 hry0
        go_wp2_with fail
        go_roundw
        case rel => exact ⟨j + 1, v2, cs2, cd ++ Q.c, Q.env, Q.m, by omega, by go_num, HG.out.1, HV.out, HG.out.2.1, HG.out.2.2.1, HTE.out, by have := HTA.out; omega, by have := HTA.out; have := HSD.out; have := HX.out.2.2.2.2.1; omega, HG.out.2.2.2⟩
        case measure => simp [intOf]; omega
      · have hryn : Q.e ≠ 0 := by simpa using hry
        have HV : Hid (Q.e = R.e ∧ Q.m = R.m ∧ Q.env = R.env) := by
          have := HQ.out
          rw [HD.out, if_pos hryn] at this
          exact ⟨this.1, this.2.1, this.2.2.1⟩
        have HG : Hid (LP w0.heap.size b fm a x bs ft v cs (qSs l) w w2 R) := by
          obtain ⟨v2, cs2, i1, i2, i3, i4, i5⟩ := HP2.out
          refine ⟨v2, cs2, by rw [← HV.out.2.1, ← HV.out.2.2]; exact i1, fun e => absurd (HV.out.1.trans e) hryn, ?_, HX.out.2.2.2.2.2.1.trans' i4 fun q hq => ?_, fun q hq => ?_⟩
          · have := HX.out.2.2.1; have := HSD.out; omega
          · rcases List.mem_cons.1 hq with rfl | hq
            · exact Or.inl (by simp)
            rcases List.mem_cons.1 hq with rfl | hq
            · exact Or.inl (by simp)
            · rcases HX.out.2.2.2.2.2.2 q hq with h' | h'
              · exact Or.inl (by simp [h'])
              · exact Or.inr h'
          · rcases i5 q hq with h' | h'
            · exact HX.out.2.2.2.2.2.2 q h'
            · exact Or.inr (Nat.le_trans HX.out.2.2.2.2.2.1.size h')
        clear hryn
        go_wp2_with fail
        go_ret
        exact ⟨ret_int HV.out.1, HG.out⟩
    · have hli : ¬ (j : Int) < (l.length : Int) := by omega
      have HE : Hid (R.e = 0 ∧ R.m = mj ∧ R.env = env' ∧ R.c = cd) := by
        have := HQ.out
        rw [List.drop_eq_nil_of_le (by omega), lsS] at this
        obtain ⟨e1, e2, e3, e4⟩ := this
        exact ⟨e1.symm, e2.symm, e3.symm, by simpa using e4 e1.symm⟩
      go_wp2_with fail
      go_ret
      refine ⟨ret_int HE.out.1.symm, v', cs', by rw [HE.out.2.1, HE.out.2.2.1]; exact HX.out.1, fun _ => by rw [HE.out.2.2.2]; exact HX.out.2.1, by have := HX.out.2.2.1; omega, HX.out.2.2.2.2.2.1, HX.out.2.2.2.2.2.2⟩
end Go.Proofs.YtkkcgkpbbngloaaGreatDoor

/- The program's walker: the state inside a statement. -/
namespace Go.Proofs.YtkkcgkpbbngloaaGreatDoor
open Go.RowKit Go.Sort

/-- The walker somewhere inside a statement, against the world w that it began in: what was called so far, if all was well. -/
def GS (N b fm : Nat) (a : Option Addr) (x : Nat × Nat) (bs : List (Nat × Nat)) (ft : List (List UInt8 × Int)) (v : Value) (cs : List Int) (L : List Nat) (ok : Prop) (k : Nat) (c : List Int) (w W : World) (env : Env) (m : Int) : Prop :=
  ∃ v' cs', WS N W b fm a (x :: bs) env ft m v' cs' ∧ (ok → cs' = cs ++ c) ∧ cs'.length ≤ cs.length + k ∧ Fr L w W ∧ ∀ g ∈ ob v', g ∈ ob v ∨ w.heap.size ≤ g
theorem GS.start {N b fm : Nat} {a x bs ft v cs L w env m} (h : WS N w b fm a (x :: bs) env ft m v cs) (ok : Prop) : GS N b fm a x bs ft v cs L ok 0 [] w w env m :=
  ⟨v, cs, h, fun _ => by simp, by omega, Fr.refl _ _, fun _ hg => Or.inl hg⟩
theorem GS.below {N b fm : Nat} {a x bs ft v cs L ok k c w W W' env m} (h : GS N b fm a x bs ft v cs L ok k c w W env m) (hb : Below W.heap.size W W') : GS N b fm a x bs ft v cs L ok k c w W' env m := by
  obtain ⟨v', cs', i1, i2, i3, i4, i5⟩ := h
  exact ⟨v', cs', i1.stay hb, i2, i3, i4.trans (Fr.of_below hb), i5⟩
theorem GS.frw {N b fm : Nat} {a x bs ft v cs L ok k c w W env m} (h : GS N b fm a x bs ft v cs L ok k c w W env m) : Fr L w W := by
  obtain ⟨v', cs', i1, i2, i3, i4, i5⟩ := h
  exact i4
theorem GS.scope {N b fm : Nat} {a x bs ft v cs L ok k c w W env m} (h : GS N b fm a x bs ft v cs L ok k c w W env m) : W.cell? ⟨b, 0, none⟩ = some (.pointer a) := by
  obtain ⟨v', cs', i1, i2, i3, i4, i5⟩ := h
  exact i1.cellS
theorem GS.chain {N b fm : Nat} {a x bs ft v cs L ok k c w W env m} (h : GS N b fm a x bs ft v cs L ok k c w W env m) : Chain W a (x :: bs) env := by
  obtain ⟨v', cs', i1, i2, i3, i4, i5⟩ := h
  exact i1.2.1
/-- What stands while a statement is looked at: the world that it began in, but for the walker's own blocks; and the scope at hand. -/
def SX (b : Nat) (a : Option Addr) (L : List Nat) (w W : World) : Prop := Fr L w W ∧ W.cell? ⟨b, 0, none⟩ = some (.pointer a)
theorem GS.sx {N b fm : Nat} {a x bs ft v cs L ok k c w W env m} (h : GS N b fm a x bs ft v cs L ok k c w W env m) : SX b a L w W := ⟨h.frw, h.scope⟩
theorem SX.below {b : Nat} {a : Option Addr} {L : List Nat} {w W W' : World} (h : SX b a L w W) (hb : Below W.heap.size W W') : SX b a L w W' :=
  ⟨h.1.trans (Fr.of_below hb), (hb.cell (World.block_lt_of_cell? W _ h.2)).trans h.2⟩
theorem SX.cell {b : Nat} {a : Option Addr} {L : List Nat} {w W : World} (h : SX b a L w W) {B i : Nat} {y : Value} (hy : w.cell? ⟨B, i, none⟩ = some y) (hB : B ∉ L) : W.cell? ⟨B, i, none⟩ = some y :=
  (h.1.cell (World.block_lt_of_cell? w _ hy) hB).trans hy

/-- An expression. -/
theorem gs_expr (w0 : World) (b fm : Nat) {a x bs ft v cs L ok k c w W env m} (h : GS w0.heap.size b fm a x bs ft v cs L ok k c w W env m) (y : Ex) (hin : y.In w0) (hB : Below w0.heap.size w0 w) (hL : ∀ g ∈ L, w0.heap.size ≤ g) (hs : ∀ g ∈ b :: ob v, g ∈ L) (hl : cs.length + k + y.sz ≤ 1000000) :
    Calls Tryz.prog 73 #[.pointer (some ⟨b, 0, none⟩), y.val] W fun e W' => e = .returned (.int .i64 (exZ env ft y)) ∧ GS w0.heap.size b fm a x bs ft v cs L (ok ∧ exZ env ft y = 0) (k + y.sz) (c ++ exC ft y) w W' env m := by
  obtain ⟨v1, cs1, i1, i2, i3, i4, i5⟩ := h
  have hBW : Below w0.heap.size w0 W := hB.trans (i4.below hL hB.size)
  refine (nexpr_k w0 b fm a (x :: bs) env ft y.sz y m v1 cs1 W (Nat.le_refl _) hin hBW i1 (by omega)).mono ?_
  rintro e W' ⟨rfl, v2, cs2, j1, j2, j3, j4, j5⟩
  refine ⟨rfl, v2, cs2, j1, fun ho => by rw [j2 ho.2, i2 ho.1, List.append_assoc], by omega, i4.trans' j4 fun q hq => ?_, fun g hg => ?_⟩
  · rcases List.mem_cons.1 hq with rfl | hq
    · exact Or.inl (hs q (by simp))
    · rcases i5 q hq with h' | h'
      · exact Or.inl (hs q (by simp [h']))
      · exact Or.inr h'
  · rcases j5 g hg with h' | h'
    · exact i5 g h'
    · exact Or.inr (Nat.le_trans i4.size h')
/-- A name made known. -/
theorem gs_declare (w0 : World) (b fm : Nat) {a x bs ft v cs L ok k c w W env m} (h : GS w0.heap.size b fm a x bs ft v cs L ok k c w W env m) (s : ByteArray) (hz : s.size ≤ 140737488351232) (kd : Int) (hkd : I64 kd) (hs : x.2 ∈ L) (hn : ∀ f ∈ env, f.2.length < 1000000) :
    Calls Tryz.prog 27 #[.pointer a, .string s, .int .i64 kd] W fun e W' => e = .returned (.int .i64 (dcZ env s.data.toList)) ∧ GS w0.heap.size b fm a x bs ft v cs L ok k c w W' (dcEnv env s.data.toList kd) m := by
  obtain ⟨v1, cs1, i1, i2, i3, i4, i5⟩ := h
  have hnd := i1.2.2.2.2.1
  refine (declare_any s hz kd hkd a x bs env W i1.2.1 (List.nodup_cons.1 (List.nodup_cons.1 hnd).2).2 hn).mono ?_
  rintro e W' ⟨rfl, j1, j2⟩
  refine ⟨rfl, v1, cs1, ?_, i2, i3, i4.trans' (Fr.of_only j2) (fun q hq => ?_), i5⟩
  · obtain ⟨k1, k2, k3, k4, k5, k6, k7⟩ := i1
    have hxb : x.2 ∈ chB (x :: bs) := by simp [chB]
    refine ⟨(j2.2.2.2.2 b (Array.getElem?_eq_some_iff.1 k1).1 (fun e => ?_)).trans k1, j1, k3.fr (Fr.of_only j2) (fun hy => ?_), own_keep k4 (fun g hg => j2.2.2.2.2 g (own_lt k4 g hg).2 (fun e => ?_)), k5, k6, k7⟩
    · exact (List.nodup_cons.1 k5).1 (by rw [e]; simp [hxb])
    · have : fm = x.2 := by simpa using hy
      exact (List.nodup_cons.1 (List.nodup_cons.1 k5).2).1 (by rw [this]; exact hxb)
    · exact k6 g hg (by rw [e]; simp [hxb])
  · have : q = x.2 := by simpa using hq
    subst this; exact Or.inl hs
end Go.Proofs.YtkkcgkpbbngloaaGreatDoor

/- The program's walker: a statement that makes a name known. -/
namespace Go.Proofs.YtkkcgkpbbngloaaGreatDoor
open Go.RowKit Go.Sort

theorem GS.lp {N b fm : Nat} {a x bs ft v cs ok k c w w1 W env m} {r : SR} {K : Nat} (h : GS N b fm a x bs ft v cs (b :: x.2 :: ob v) ok k c w1 W env m) (hb : Below w.heap.size w w1) (h1 : r.e = 0 → ok ∧ c = r.c) (h2 : env = r.env) (h3 : m = r.m) (h4 : k ≤ K) : LP N b fm a x bs ft v cs K w W r := by
  obtain ⟨v', cs', i1, i2, i3, i4, i5⟩ := h
  subst h2 h3
  exact ⟨v', cs', i1, fun e => by rw [i2 (h1 e).1, (h1 e).2], by omega, (Fr.of_below hb).trans i4, fun g hg => by
    rcases i5 g hg with h' | h'
    · exact Or.inl h'
    · exact Or.inr (Nat.le_trans hb.size h')⟩
theorem or2 (r1 r2 : Int) (W : World) : Calls Tryz.prog 72 #[.slice (some ⟨W.heap.size, 0, none⟩) 2 2] (W.alloc (.cells #[.int .i64 r1, .int .i64 r2] 27)) fun e w' => e = .returned (.int .i64 (orF [r1, r2])) ∧ w' = W.alloc (.cells #[.int .i64 r1, .int .i64 r2] 27) :=
  or_any [r1, r2] W.heap.size 2 _ (by simp) (fun j h => by
    rw [World.cell?_alloc_at _ _ _ _ rfl]
    match j, h with
    | 0, _ => rfl
    | 1, _ => rfl)
theorem or3 (r1 r2 r3 : Int) (W : World) : Calls Tryz.prog 72 #[.slice (some ⟨W.heap.size, 0, none⟩) 3 3] (W.alloc (.cells #[.int .i64 r1, .int .i64 r2, .int .i64 r3] 27)) fun e w' => e = .returned (.int .i64 (orF [r1, r2, r3])) ∧ w' = W.alloc (.cells #[.int .i64 r1, .int .i64 r2, .int .i64 r3] 27) :=
  or_any [r1, r2, r3] W.heap.size 3 _ (by simp) (fun j h => by
    rw [World.cell?_alloc_at _ _ _ _ rfl]
    match j, h with
    | 0, _ => rfl
    | 1, _ => rfl
    | 2, _ => rfl)
theorem orF2 {r1 r2 : Int} : orF [r1, r2] = 0 ↔ r1 = 0 ∧ r2 = 0 := by
  simp only [orF]; split <;> (try split) <;> simp_all
theorem orF3 {r1 r2 r3 : Int} : orF [r1, r2, r3] = 0 ↔ r1 = 0 ∧ r2 = 0 ∧ r3 = 0 := by
  simp only [orF]; split <;> (try split) <;> (try split) <;> simp_all
abbrev stBox (s : St) : Obj := .cells #[.int .i64 s.kind, .string s.name, .int .i64 s.n, .int .i64 s.a.kind, .int .i64 s.a.n, .string s.a.name, .slice s.a.a s.a.args.length s.a.cap, .int .i64 s.b.kind, .int .i64 s.b.n, .string s.b.name, .slice s.b.a s.b.args.length s.b.cap, .slice s.ba s.body.length s.bc, .slice s.ea s.els.length s.ec, .slice s.ca s.cases.length s.cc] 44
theorem SX.box {b : Nat} {a : Option Addr} {L : List Nat} {w W : World} {s : St} {i : Nat} {y : Value} (hL : w.heap.size ∉ L) (hy : (w.alloc (stBox s)).cell? ⟨w.heap.size, i, none⟩ = some y) (h : SX b a L (w.alloc (stBox s)) W) : W.cell? ⟨w.heap.size, i, none⟩ = some y := h.cell hy hL
theorem ws_new {N b fm : Nat} {a x bs ft v cs w env m} (h : WS N w b fm a (x :: bs) env ft m v cs) : w.heap.size ∉ b :: x.2 :: ob v := fun hy => by
  rcases List.mem_cons.1 hy with e | hy
  · have := h.lt; omega
  rcases List.mem_cons.1 hy with e | hy
  · have := h.2.1.lt x.2 (by simp [chB]); omega
  · have := (own_lt h.2.2.2.1 _ hy).2; omega

theorem stS_let {ft : List (List UInt8 × Int)} {s : St} {env : Env} {m : Int} (h : s.kind = 1) : stS ft s env m = ⟨orF [exZ env ft s.a, dcZ env s.name.data.toList], m, dcEnv env s.name.data.toList 1, exC ft s.a⟩ := by
  obtain ⟨k, nm, n, a, b, ba, bc, l, ea, ec, e, ca, cc, c⟩ := s
  subst h
  rw [stS, if_pos rfl]; rfl
set_option maxRecDepth 100000 in
set_option maxHeartbeats 2000000 in
theorem nst_let (w0 : World) (b fm : Nat) (ft : List (List UInt8 × Int)) (s : St) (a : Option Addr) (x : Nat × Nat) (bs : List (Nat × Nat)) (env : Env) (m : Int) (v : Value) (cs : List Int) (w : World) (hk : s.kind = 1) (hin : s.In w0) (hB : Below w0.heap.size w0 w) (hw : WS w0.heap.size w b fm a (x :: bs) env ft m v cs) (h1 : cs.length + qS s ≤ 1000000) (h2 : ∀ f ∈ env, f.2.length + qS s ≤ 900000) :
    Calls Tryz.prog 52 #[.pointer (some ⟨b, 0, none⟩), s.val] w fun e w' => e = .returned (.int .i64 (stS ft s env m).e) ∧ LP w0.heap.size b fm a x bs ft v cs (qS s) w w' (stS ft s env m) := by
  rw [stS_let hk]
  have hq := qS_eq s
  obtain ⟨_, hz, _, hia, hib, _⟩ := St.in_iff.1 hin
  have hb0 := (Below.refl _ w).alloc (Nat.le_refl _) (stBox s)
  have hB1 : Below w0.heap.size w0 (w.alloc (stBox s)) := hB.trans (hb0.mono hB.size)
  have hL : ∀ g ∈ b :: x.2 :: ob v, w0.heap.size ≤ g := fun q hq => by
    rcases List.mem_cons.1 hq with rfl | hq
    · exact hw.2.2.2.2.2.2 q (by simp)
    rcases List.mem_cons.1 hq with rfl | hq
    · exact hw.2.2.2.2.2.2 _ (by simp [chB])
    · exact (own_lt hw.2.2.2.1 q hq).1
  have hs : ∀ g ∈ b :: ob v, g ∈ b :: x.2 :: ob v := fun g hg => by
    rcases List.mem_cons.1 hg with rfl | hg <;> simp_all
  have hnL := ws_new hw
  have g0 : GS w0.heap.size b fm a x bs ft v cs (b :: x.2 :: ob v) True 0 [] (w.alloc (stBox s)) (w.alloc (stBox s)).drew env m := (GS.start (hw.stay hb0) True).below (Below.drew (Below.refl _ _))
  have HE : Hid (∀ W, GS w0.heap.size b fm a x bs ft v cs (b :: x.2 :: ob v) True 0 [] (w.alloc (stBox s)) W env m → Calls Tryz.prog 73 #[.pointer (some ⟨b, 0, none⟩), .agg #[.int .i64 s.a.kind, .int .i64 s.a.n, .string s.a.name, .slice s.a.a s.a.args.length s.a.cap]] W fun e W' => e = .returned (.int .i64 (exZ env ft s.a)) ∧ GS w0.heap.size b fm a x bs ft v cs (b :: x.2 :: ob v) (True ∧ exZ env ft s.a = 0) (0 + s.a.sz) ([] ++ exC ft s.a) (w.alloc (stBox s)) W' env m) :=
    fun W h => gs_expr w0 b fm h s.a hia hB1 hL hs (by omega)
  have HD : Hid (∀ W, GS w0.heap.size b fm a x bs ft v cs (b :: x.2 :: ob v) (True ∧ exZ env ft s.a = 0) (0 + s.a.sz) ([] ++ exC ft s.a) (w.alloc (stBox s)) W env m → Calls Tryz.prog 27 #[.pointer a, .string s.name, .int .i64 1] W fun e W' => e = .returned (.int .i64 (dcZ env s.name.data.toList)) ∧ GS w0.heap.size b fm a x bs ft v cs (b :: x.2 :: ob v) (True ∧ exZ env ft s.a = 0) (0 + s.a.sz) ([] ++ exC ft s.a) (w.alloc (stBox s)) W' (dcEnv env s.name.data.toList 1) m) :=
    fun W h => gs_declare w0 b fm h s.name hz 1 (by unfold I64; omega) (by simp) (fun f hf => by have := h2 f hf; omega)
  have HF : Hid (∀ W, GS w0.heap.size b fm a x bs ft v cs (b :: x.2 :: ob v) (True ∧ exZ env ft s.a = 0) (0 + s.a.sz) ([] ++ exC ft s.a) (w.alloc (stBox s)) W (dcEnv env s.name.data.toList 1) m → LP w0.heap.size b fm a x bs ft v cs (qS s) w (W.alloc (.cells #[.int .i64 (exZ env ft s.a), .int .i64 (dcZ env s.name.data.toList)] 27)) ⟨orF [exZ env ft s.a, dcZ env s.name.data.toList], m, dcEnv env s.name.data.toList 1, exC ft s.a⟩) :=
    fun W h => (h.below ((Below.refl _ _).alloc (Nat.le_refl _) _)).lp hb0 (fun e => ⟨⟨trivial, (orF2.1 e).1⟩, by simp⟩) rfl rfl (by omega)
  have y0 : ∀ W, SX b a (b :: x.2 :: ob v) (w.alloc (stBox s)) W → W.cell? ⟨b, 0, none⟩ = some (.pointer a) := fun W h => h.2
  have y1 : ∀ W, SX b a (b :: x.2 :: ob v) (w.alloc (stBox s)) W → W.cell? ⟨w.heap.size, 1, none⟩ = some (.string s.name) := fun W h => SX.box hnL (by rw [World.cell?_alloc_at _ _ _ _ rfl]; rfl) h
  have y3 : ∀ W, SX b a (b :: x.2 :: ob v) (w.alloc (stBox s)) W → W.cell? ⟨w.heap.size, 3, none⟩ = some (.int .i64 s.a.kind) := fun W h => SX.box hnL (by rw [World.cell?_alloc_at _ _ _ _ rfl]; rfl) h
  have y4 : ∀ W, SX b a (b :: x.2 :: ob v) (w.alloc (stBox s)) W → W.cell? ⟨w.heap.size, 4, none⟩ = some (.int .i64 s.a.n) := fun W h => SX.box hnL (by rw [World.cell?_alloc_at _ _ _ _ rfl]; rfl) h
  have y5 : ∀ W, SX b a (b :: x.2 :: ob v) (w.alloc (stBox s)) W → W.cell? ⟨w.heap.size, 5, none⟩ = some (.string s.a.name) := fun W h => SX.box hnL (by rw [World.cell?_alloc_at _ _ _ _ rfl]; rfl) h
  have y6 : ∀ W, SX b a (b :: x.2 :: ob v) (w.alloc (stBox s)) W → W.cell? ⟨w.heap.size, 6, none⟩ = some (.slice s.a.a s.a.args.length s.a.cap) := fun W h => SX.box hnL (by rw [World.cell?_alloc_at _ _ _ _ rfl]; rfl) h
  clear hin hB hw h1 h2 hq hz hia hib hb0 hB1 hL hs hnL
  obtain ⟨W1, hW1⟩ : ∃ W1, w.alloc (stBox s) = W1 := ⟨_, rfl⟩
  rw [hW1] at g0 HE HD HF y0 y1 y3 y4 y5 y6
  unfold stBox at hW1
  rw [hk] at hW1
  have HW1 := show Hid _ from hW1
  clear hW1
  generalize exZ env ft s.a = ra at *
  generalize dcZ env s.name.data.toList = rd at *
  unfold St.val
  rw [hk]
  go_enter Tryz.func52, Tryz.ntmps52
  go_wp2_with fail
  rw [HW1.out]
  clear HW1
  go_region_held (fun w' => SX b a (b :: x.2 :: ob v) W1 w') (first | exact GS.sx (by assumption) | exact SX.below (by assumption) ((Below.refl _ _).alloc (Nat.le_refl _) _) | assumption)
    (first
      | (go_at_call 73; refine (HE.out _ (by assumption)).mono ?_; rintro e w' ⟨rfl, hg⟩)
      | (go_at_call 27; refine (HD.out _ (by assumption)).mono ?_; rintro e w' ⟨rfl, hg⟩)
      | (go_at_call 72; refine (or2 ra rd _).mono ?_; rintro e w' ⟨rfl, rfl⟩))
  all_goals go_wp2_with fail
  all_goals go_ret
  all_goals exact ⟨rfl, HF.out _ (by assumption)⟩
end Go.Proofs.YtkkcgkpbbngloaaGreatDoor

/- The program's walker: an array, a write, a store. -/
namespace Go.Proofs.YtkkcgkpbbngloaaGreatDoor
open Go.RowKit Go.Sort

theorem stS_arr {ft : List (List UInt8 × Int)} {s : St} {env : Env} {m : Int} (h : s.kind = 2) : stS ft s env m = ⟨dcZ env s.name.data.toList, m, dcEnv env s.name.data.toList 2, []⟩ := by
  obtain ⟨k, nm, n, a, b, ba, bc, l, ea, ec, e, ca, cc, c⟩ := s
  subst h
  rw [stS, if_neg (by decide), if_pos rfl]; rfl
set_option maxRecDepth 100000 in
set_option maxHeartbeats 2000000 in
theorem nst_arr (w0 : World) (b fm : Nat) (ft : List (List UInt8 × Int)) (s : St) (a : Option Addr) (x : Nat × Nat) (bs : List (Nat × Nat)) (env : Env) (m : Int) (v : Value) (cs : List Int) (w : World) (hk : s.kind = 2) (hin : s.In w0) (hB : Below w0.heap.size w0 w) (hw : WS w0.heap.size w b fm a (x :: bs) env ft m v cs) (h1 : cs.length + qS s ≤ 1000000) (h2 : ∀ f ∈ env, f.2.length + qS s ≤ 900000) :
    Calls Tryz.prog 52 #[.pointer (some ⟨b, 0, none⟩), s.val] w fun e w' => e = .returned (.int .i64 (stS ft s env m).e) ∧ LP w0.heap.size b fm a x bs ft v cs (qS s) w w' (stS ft s env m) := by
  rw [stS_arr hk]
  have hq := qS_eq s
  obtain ⟨_, hz, _, hia, hib, _⟩ := St.in_iff.1 hin
  have hb0 := (Below.refl _ w).alloc (Nat.le_refl _) (stBox s)
  have hB1 : Below w0.heap.size w0 (w.alloc (stBox s)) := hB.trans (hb0.mono hB.size)
  have hL : ∀ g ∈ b :: x.2 :: ob v, w0.heap.size ≤ g := fun q hq => by
    rcases List.mem_cons.1 hq with rfl | hq
    · exact hw.2.2.2.2.2.2 q (by simp)
    rcases List.mem_cons.1 hq with rfl | hq
    · exact hw.2.2.2.2.2.2 _ (by simp [chB])
    · exact (own_lt hw.2.2.2.1 q hq).1
  have hs : ∀ g ∈ b :: ob v, g ∈ b :: x.2 :: ob v := fun g hg => by
    rcases List.mem_cons.1 hg with rfl | hg <;> simp_all
  have hnL := ws_new hw
  have g0 : GS w0.heap.size b fm a x bs ft v cs (b :: x.2 :: ob v) True 0 [] (w.alloc (stBox s)) (w.alloc (stBox s)).drew env m := (GS.start (hw.stay hb0) True).below (Below.drew (Below.refl _ _))
  have HD : Hid (∀ W, GS w0.heap.size b fm a x bs ft v cs (b :: x.2 :: ob v) True 0 [] (w.alloc (stBox s)) W env m → Calls Tryz.prog 27 #[.pointer a, .string s.name, .int .i64 2] W fun e W' => e = .returned (.int .i64 (dcZ env s.name.data.toList)) ∧ GS w0.heap.size b fm a x bs ft v cs (b :: x.2 :: ob v) True 0 [] (w.alloc (stBox s)) W' (dcEnv env s.name.data.toList 2) m) :=
    fun W h => gs_declare w0 b fm h s.name hz 2 (by unfold I64; omega) (by simp) (fun f hf => by have := h2 f hf; omega)
  have HF : Hid (∀ W, GS w0.heap.size b fm a x bs ft v cs (b :: x.2 :: ob v) True 0 [] (w.alloc (stBox s)) W (dcEnv env s.name.data.toList 2) m → LP w0.heap.size b fm a x bs ft v cs (qS s) w W ⟨dcZ env s.name.data.toList, m, dcEnv env s.name.data.toList 2, []⟩) :=
    fun W h => h.lp hb0 (fun _ => ⟨trivial, rfl⟩) rfl rfl (by omega)
  have y0 : ∀ W, SX b a (b :: x.2 :: ob v) (w.alloc (stBox s)) W → W.cell? ⟨b, 0, none⟩ = some (.pointer a) := fun W h => h.2
  have y1 : ∀ W, SX b a (b :: x.2 :: ob v) (w.alloc (stBox s)) W → W.cell? ⟨w.heap.size, 1, none⟩ = some (.string s.name) := fun W h => SX.box hnL (by rw [World.cell?_alloc_at _ _ _ _ rfl]; rfl) h
  clear hin hB hw h1 h2 hq hz hia hib hb0 hB1 hL hs hnL
  obtain ⟨W1, hW1⟩ : ∃ W1, w.alloc (stBox s) = W1 := ⟨_, rfl⟩
  rw [hW1] at g0 HD HF y0 y1
  unfold stBox at hW1
  rw [hk] at hW1
  have HW1 := show Hid _ from hW1
  clear hW1
  generalize dcZ env s.name.data.toList = rd at *
  unfold St.val
  rw [hk]
  go_enter Tryz.func52, Tryz.ntmps52
  go_wp2_with fail
  rw [HW1.out]
  clear HW1
  go_region_held (fun w' => SX b a (b :: x.2 :: ob v) W1 w') (first | exact GS.sx (by assumption) | exact SX.below (by assumption) ((Below.refl _ _).alloc (Nat.le_refl _) _) | assumption)
    (first | (go_at_call 27; refine (HD.out _ (by assumption)).mono ?_; rintro e w' ⟨rfl, hg⟩))
  all_goals go_wp2_with fail
  all_goals go_ret
  all_goals exact ⟨rfl, HF.out _ (by assumption)⟩
theorem stS_asg {ft : List (List UInt8 × Int)} {s : St} {env : Env} {m : Int} (h : s.kind = 3) : stS ft s env m = ⟨orF [wrZ (envAt env s.name.data.toList), exZ env ft s.a], m, env, exC ft s.a⟩ := by
  obtain ⟨k, nm, n, a, b, ba, bc, l, ea, ec, e, ca, cc, c⟩ := s
  subst h
  rw [stS, if_neg (by decide), if_neg (by decide), if_pos rfl]; rfl
set_option maxRecDepth 100000 in
set_option maxHeartbeats 2000000 in
theorem nst_asg (w0 : World) (b fm : Nat) (ft : List (List UInt8 × Int)) (s : St) (a : Option Addr) (x : Nat × Nat) (bs : List (Nat × Nat)) (env : Env) (m : Int) (v : Value) (cs : List Int) (w : World) (hk : s.kind = 3) (hin : s.In w0) (hB : Below w0.heap.size w0 w) (hw : WS w0.heap.size w b fm a (x :: bs) env ft m v cs) (h1 : cs.length + qS s ≤ 1000000) (_h2 : ∀ f ∈ env, f.2.length + qS s ≤ 900000) :
    Calls Tryz.prog 52 #[.pointer (some ⟨b, 0, none⟩), s.val] w fun e w' => e = .returned (.int .i64 (stS ft s env m).e) ∧ LP w0.heap.size b fm a x bs ft v cs (qS s) w w' (stS ft s env m) := by
  rw [stS_asg hk]
  have hq := qS_eq s
  obtain ⟨_, hz, _, hia, hib, _⟩ := St.in_iff.1 hin
  have hb0 := (Below.refl _ w).alloc (Nat.le_refl _) (stBox s)
  have hB1 : Below w0.heap.size w0 (w.alloc (stBox s)) := hB.trans (hb0.mono hB.size)
  have hL : ∀ g ∈ b :: x.2 :: ob v, w0.heap.size ≤ g := fun q hq => by
    rcases List.mem_cons.1 hq with rfl | hq
    · exact hw.2.2.2.2.2.2 q (by simp)
    rcases List.mem_cons.1 hq with rfl | hq
    · exact hw.2.2.2.2.2.2 _ (by simp [chB])
    · exact (own_lt hw.2.2.2.1 q hq).1
  have hs : ∀ g ∈ b :: ob v, g ∈ b :: x.2 :: ob v := fun g hg => by
    rcases List.mem_cons.1 hg with rfl | hg <;> simp_all
  have hnL := ws_new hw
  have g0 : GS w0.heap.size b fm a x bs ft v cs (b :: x.2 :: ob v) True 0 [] (w.alloc (stBox s)) (w.alloc (stBox s)).drew env m := (GS.start (hw.stay hb0) True).below (Below.drew (Below.refl _ _))
  have HE : Hid (∀ W, GS w0.heap.size b fm a x bs ft v cs (b :: x.2 :: ob v) True 0 [] (w.alloc (stBox s)) W env m → Calls Tryz.prog 73 #[.pointer (some ⟨b, 0, none⟩), .agg #[.int .i64 s.a.kind, .int .i64 s.a.n, .string s.a.name, .slice s.a.a s.a.args.length s.a.cap]] W fun e W' => e = .returned (.int .i64 (exZ env ft s.a)) ∧ GS w0.heap.size b fm a x bs ft v cs (b :: x.2 :: ob v) (True ∧ exZ env ft s.a = 0) (0 + s.a.sz) ([] ++ exC ft s.a) (w.alloc (stBox s)) W' env m) :=
    fun W h => gs_expr w0 b fm h s.a hia hB1 hL hs (by omega)
  have HC : Hid (∀ W, GS w0.heap.size b fm a x bs ft v cs (b :: x.2 :: ob v) True 0 [] (w.alloc (stBox s)) W env m → Calls Tryz.prog 74 #[.pointer a, .string s.name] W fun e W' => e = .returned (.int .i64 (wrZ (envAt env s.name.data.toList))) ∧ W' = W) := fun W h => write_scope s.name hz a (x :: bs) env W h.chain
  have HF : Hid (∀ W, GS w0.heap.size b fm a x bs ft v cs (b :: x.2 :: ob v) (True ∧ exZ env ft s.a = 0) (0 + s.a.sz) ([] ++ exC ft s.a) (w.alloc (stBox s)) W env m → LP w0.heap.size b fm a x bs ft v cs (qS s) w (W.alloc (.cells #[.int .i64 (wrZ (envAt env s.name.data.toList)), .int .i64 (exZ env ft s.a)] 27)) ⟨orF [wrZ (envAt env s.name.data.toList), exZ env ft s.a], m, env, exC ft s.a⟩) :=
    fun W h => (h.below ((Below.refl _ _).alloc (Nat.le_refl _) _)).lp hb0 (fun e => ⟨⟨trivial, (orF2.1 e).2⟩, by simp⟩) rfl rfl (by omega)
  have y0 : ∀ W, SX b a (b :: x.2 :: ob v) (w.alloc (stBox s)) W → W.cell? ⟨b, 0, none⟩ = some (.pointer a) := fun W h => h.2
  have y1 : ∀ W, SX b a (b :: x.2 :: ob v) (w.alloc (stBox s)) W → W.cell? ⟨w.heap.size, 1, none⟩ = some (.string s.name) := fun W h => SX.box hnL (by rw [World.cell?_alloc_at _ _ _ _ rfl]; rfl) h
  have y3 : ∀ W, SX b a (b :: x.2 :: ob v) (w.alloc (stBox s)) W → W.cell? ⟨w.heap.size, 3, none⟩ = some (.int .i64 s.a.kind) := fun W h => SX.box hnL (by rw [World.cell?_alloc_at _ _ _ _ rfl]; rfl) h
  have y4 : ∀ W, SX b a (b :: x.2 :: ob v) (w.alloc (stBox s)) W → W.cell? ⟨w.heap.size, 4, none⟩ = some (.int .i64 s.a.n) := fun W h => SX.box hnL (by rw [World.cell?_alloc_at _ _ _ _ rfl]; rfl) h
  have y5 : ∀ W, SX b a (b :: x.2 :: ob v) (w.alloc (stBox s)) W → W.cell? ⟨w.heap.size, 5, none⟩ = some (.string s.a.name) := fun W h => SX.box hnL (by rw [World.cell?_alloc_at _ _ _ _ rfl]; rfl) h
  have y6 : ∀ W, SX b a (b :: x.2 :: ob v) (w.alloc (stBox s)) W → W.cell? ⟨w.heap.size, 6, none⟩ = some (.slice s.a.a s.a.args.length s.a.cap) := fun W h => SX.box hnL (by rw [World.cell?_alloc_at _ _ _ _ rfl]; rfl) h
  clear hin hB hw h1 _h2 hq hz hia hib hb0 hB1 hL hs hnL
  obtain ⟨W1, hW1⟩ : ∃ W1, w.alloc (stBox s) = W1 := ⟨_, rfl⟩
  rw [hW1] at g0 HE HC HF y0 y1 y3 y4 y5 y6
  unfold stBox at hW1
  rw [hk] at hW1
  have HW1 := show Hid _ from hW1
  clear hW1
  generalize exZ env ft s.a = ra at *
  generalize wrZ (envAt env s.name.data.toList) = rd at *
  unfold St.val
  rw [hk]
  go_enter Tryz.func52, Tryz.ntmps52
  go_wp2_with fail
  rw [HW1.out]
  clear HW1
  go_region_held (fun w' => SX b a (b :: x.2 :: ob v) W1 w') (first | exact GS.sx (by assumption) | exact SX.below (by assumption) ((Below.refl _ _).alloc (Nat.le_refl _) _) | assumption)
    (first
      | (go_at_call 74; refine (HC.out _ (by assumption)).mono ?_; rintro e w' ⟨rfl, rfl⟩)
      | (go_at_call 73; refine (HE.out _ (by assumption)).mono ?_; rintro e w' ⟨rfl, hg⟩)
      | (go_at_call 72; refine (or2 rd ra _).mono ?_; rintro e w' ⟨rfl, rfl⟩))
  all_goals go_wp2_with fail
  all_goals go_ret
  all_goals exact ⟨rfl, HF.out _ (by assumption)⟩
end Go.Proofs.YtkkcgkpbbngloaaGreatDoor

/- The program's walker: a store. -/
namespace Go.Proofs.YtkkcgkpbbngloaaGreatDoor
open Go.RowKit Go.Sort

theorem stS_sto {ft : List (List UInt8 × Int)} {s : St} {env : Env} {m : Int} (h : s.kind = 4) : stS ft s env m = ⟨orF [ixZ (envAt env s.name.data.toList), exZ env ft s.a, exZ env ft s.b], m, env, exC ft s.a ++ exC ft s.b⟩ := by
  obtain ⟨k, nm, n, a, b, ba, bc, l, ea, ec, e, ca, cc, c⟩ := s
  subst h
  rw [stS, if_neg (by decide), if_neg (by decide), if_neg (by decide), if_pos rfl]; rfl
set_option maxRecDepth 100000 in
set_option maxHeartbeats 2000000 in
theorem nst_sto (w0 : World) (b fm : Nat) (ft : List (List UInt8 × Int)) (s : St) (a : Option Addr) (x : Nat × Nat) (bs : List (Nat × Nat)) (env : Env) (m : Int) (v : Value) (cs : List Int) (w : World) (hk : s.kind = 4) (hin : s.In w0) (hB : Below w0.heap.size w0 w) (hw : WS w0.heap.size w b fm a (x :: bs) env ft m v cs) (h1 : cs.length + qS s ≤ 1000000) (_h2 : ∀ f ∈ env, f.2.length + qS s ≤ 900000) :
    Calls Tryz.prog 52 #[.pointer (some ⟨b, 0, none⟩), s.val] w fun e w' => e = .returned (.int .i64 (stS ft s env m).e) ∧ LP w0.heap.size b fm a x bs ft v cs (qS s) w w' (stS ft s env m) := by
  rw [stS_sto hk]
  have hq := qS_eq s
  obtain ⟨_, hz, _, hia, hib, _⟩ := St.in_iff.1 hin
  have hb0 := (Below.refl _ w).alloc (Nat.le_refl _) (stBox s)
  have hB1 : Below w0.heap.size w0 (w.alloc (stBox s)) := hB.trans (hb0.mono hB.size)
  have hL : ∀ g ∈ b :: x.2 :: ob v, w0.heap.size ≤ g := fun q hq => by
    rcases List.mem_cons.1 hq with rfl | hq
    · exact hw.2.2.2.2.2.2 q (by simp)
    rcases List.mem_cons.1 hq with rfl | hq
    · exact hw.2.2.2.2.2.2 _ (by simp [chB])
    · exact (own_lt hw.2.2.2.1 q hq).1
  have hs : ∀ g ∈ b :: ob v, g ∈ b :: x.2 :: ob v := fun g hg => by
    rcases List.mem_cons.1 hg with rfl | hg <;> simp_all
  have hnL := ws_new hw
  have g0 : GS w0.heap.size b fm a x bs ft v cs (b :: x.2 :: ob v) True 0 [] (w.alloc (stBox s)) (w.alloc (stBox s)).drew env m := (GS.start (hw.stay hb0) True).below (Below.drew (Below.refl _ _))
  have HE : Hid (∀ W, GS w0.heap.size b fm a x bs ft v cs (b :: x.2 :: ob v) True 0 [] (w.alloc (stBox s)) W env m → Calls Tryz.prog 73 #[.pointer (some ⟨b, 0, none⟩), .agg #[.int .i64 s.a.kind, .int .i64 s.a.n, .string s.a.name, .slice s.a.a s.a.args.length s.a.cap]] W fun e W' => e = .returned (.int .i64 (exZ env ft s.a)) ∧ GS w0.heap.size b fm a x bs ft v cs (b :: x.2 :: ob v) (True ∧ exZ env ft s.a = 0) (0 + s.a.sz) ([] ++ exC ft s.a) (w.alloc (stBox s)) W' env m) :=
    fun W h => gs_expr w0 b fm h s.a hia hB1 hL hs (by omega)
  have HB : Hid (∀ W, GS w0.heap.size b fm a x bs ft v cs (b :: x.2 :: ob v) (True ∧ exZ env ft s.a = 0) (0 + s.a.sz) ([] ++ exC ft s.a) (w.alloc (stBox s)) W env m → Calls Tryz.prog 73 #[.pointer (some ⟨b, 0, none⟩), .agg #[.int .i64 s.b.kind, .int .i64 s.b.n, .string s.b.name, .slice s.b.a s.b.args.length s.b.cap]] W fun e W' => e = .returned (.int .i64 (exZ env ft s.b)) ∧ GS w0.heap.size b fm a x bs ft v cs (b :: x.2 :: ob v) ((True ∧ exZ env ft s.a = 0) ∧ exZ env ft s.b = 0) ((0 + s.a.sz) + s.b.sz) (([] ++ exC ft s.a) ++ exC ft s.b) (w.alloc (stBox s)) W' env m) :=
    fun W h => gs_expr w0 b fm h s.b hib hB1 hL hs (by omega)
  have HC : Hid (∀ W, GS w0.heap.size b fm a x bs ft v cs (b :: x.2 :: ob v) True 0 [] (w.alloc (stBox s)) W env m → Calls Tryz.prog 75 #[.pointer a, .string s.name] W fun e W' => e = .returned (.int .i64 (ixZ (envAt env s.name.data.toList))) ∧ W' = W) := fun W h => index_any' s.name hz a (x :: bs) env W h.chain
  have HF : Hid (∀ W, GS w0.heap.size b fm a x bs ft v cs (b :: x.2 :: ob v) ((True ∧ exZ env ft s.a = 0) ∧ exZ env ft s.b = 0) ((0 + s.a.sz) + s.b.sz) (([] ++ exC ft s.a) ++ exC ft s.b) (w.alloc (stBox s)) W env m → LP w0.heap.size b fm a x bs ft v cs (qS s) w (W.alloc (.cells #[.int .i64 (ixZ (envAt env s.name.data.toList)), .int .i64 (exZ env ft s.a), .int .i64 (exZ env ft s.b)] 27)) ⟨orF [ixZ (envAt env s.name.data.toList), exZ env ft s.a, exZ env ft s.b], m, env, exC ft s.a ++ exC ft s.b⟩) :=
    fun W h => (h.below ((Below.refl _ _).alloc (Nat.le_refl _) _)).lp hb0 (fun e => ⟨⟨⟨trivial, (orF3.1 e).2.1⟩, (orF3.1 e).2.2⟩, by simp⟩) rfl rfl (by omega)
  have y0 : ∀ W, SX b a (b :: x.2 :: ob v) (w.alloc (stBox s)) W → W.cell? ⟨b, 0, none⟩ = some (.pointer a) := fun W h => h.2
  have y1 : ∀ W, SX b a (b :: x.2 :: ob v) (w.alloc (stBox s)) W → W.cell? ⟨w.heap.size, 1, none⟩ = some (.string s.name) := fun W h => SX.box hnL (by rw [World.cell?_alloc_at _ _ _ _ rfl]; rfl) h
  have y3 : ∀ W, SX b a (b :: x.2 :: ob v) (w.alloc (stBox s)) W → W.cell? ⟨w.heap.size, 3, none⟩ = some (.int .i64 s.a.kind) := fun W h => SX.box hnL (by rw [World.cell?_alloc_at _ _ _ _ rfl]; rfl) h
  have y4 : ∀ W, SX b a (b :: x.2 :: ob v) (w.alloc (stBox s)) W → W.cell? ⟨w.heap.size, 4, none⟩ = some (.int .i64 s.a.n) := fun W h => SX.box hnL (by rw [World.cell?_alloc_at _ _ _ _ rfl]; rfl) h
  have y5 : ∀ W, SX b a (b :: x.2 :: ob v) (w.alloc (stBox s)) W → W.cell? ⟨w.heap.size, 5, none⟩ = some (.string s.a.name) := fun W h => SX.box hnL (by rw [World.cell?_alloc_at _ _ _ _ rfl]; rfl) h
  have y6 : ∀ W, SX b a (b :: x.2 :: ob v) (w.alloc (stBox s)) W → W.cell? ⟨w.heap.size, 6, none⟩ = some (.slice s.a.a s.a.args.length s.a.cap) := fun W h => SX.box hnL (by rw [World.cell?_alloc_at _ _ _ _ rfl]; rfl) h
  have y7 : ∀ W, SX b a (b :: x.2 :: ob v) (w.alloc (stBox s)) W → W.cell? ⟨w.heap.size, 7, none⟩ = some (.int .i64 s.b.kind) := fun W h => SX.box hnL (by rw [World.cell?_alloc_at _ _ _ _ rfl]; rfl) h
  have y8 : ∀ W, SX b a (b :: x.2 :: ob v) (w.alloc (stBox s)) W → W.cell? ⟨w.heap.size, 8, none⟩ = some (.int .i64 s.b.n) := fun W h => SX.box hnL (by rw [World.cell?_alloc_at _ _ _ _ rfl]; rfl) h
  have y9 : ∀ W, SX b a (b :: x.2 :: ob v) (w.alloc (stBox s)) W → W.cell? ⟨w.heap.size, 9, none⟩ = some (.string s.b.name) := fun W h => SX.box hnL (by rw [World.cell?_alloc_at _ _ _ _ rfl]; rfl) h
  have y10 : ∀ W, SX b a (b :: x.2 :: ob v) (w.alloc (stBox s)) W → W.cell? ⟨w.heap.size, 10, none⟩ = some (.slice s.b.a s.b.args.length s.b.cap) := fun W h => SX.box hnL (by rw [World.cell?_alloc_at _ _ _ _ rfl]; rfl) h
  clear hin hB hw h1 _h2 hq hz hia hib hb0 hB1 hL hs hnL
  obtain ⟨W1, hW1⟩ : ∃ W1, w.alloc (stBox s) = W1 := ⟨_, rfl⟩
  rw [hW1] at g0 HE HB HC HF y0 y1 y3 y4 y5 y6 y7 y8 y9 y10
  unfold stBox at hW1
  rw [hk] at hW1
  have HW1 := show Hid _ from hW1
  clear hW1
  generalize exZ env ft s.a = ra at *
  generalize exZ env ft s.b = rb at *
  generalize ixZ (envAt env s.name.data.toList) = rd at *
  unfold St.val
  rw [hk]
  go_enter Tryz.func52, Tryz.ntmps52
  go_wp2_with fail
  rw [HW1.out]
  clear HW1
  go_region_held (fun w' => SX b a (b :: x.2 :: ob v) W1 w') (first | exact GS.sx (by assumption) | exact SX.below (by assumption) ((Below.refl _ _).alloc (Nat.le_refl _) _) | assumption)
    (first
      | (go_at_call 75; refine (HC.out _ (by assumption)).mono ?_; rintro e w' ⟨rfl, rfl⟩)
      | (go_at_call_of 73 (s.a.kind); refine (HE.out _ (by assumption)).mono ?_; rintro e w' ⟨rfl, hg⟩)
      | (go_at_call_of 73 (s.b.kind); refine (HB.out _ (by assumption)).mono ?_; rintro e w' ⟨rfl, hg⟩)
      | (go_at_call 72; refine (or3 rd ra rb _).mono ?_; rintro e w' ⟨rfl, rfl⟩))
  all_goals go_wp2_with fail
  all_goals go_ret
  all_goals exact ⟨rfl, HF.out _ (by assumption)⟩
end Go.Proofs.YtkkcgkpbbngloaaGreatDoor

/- A test that is false. -/
namespace Go.Proofs.YtkkcgkpbbngloaaGreatDoor
theorem beq_no {a b : Int} (h : a ≠ b) : (a == b) = false := by rw [beq_eq_false_iff_ne]; exact h
end Go.Proofs.YtkkcgkpbbngloaaGreatDoor

/- The program's walker: a break, and a statement that is an expression alone. -/
namespace Go.Proofs.YtkkcgkpbbngloaaGreatDoor
open Go.RowKit Go.Sort

theorem stS_brk {ft : List (List UInt8 × Int)} {s : St} {env : Env} {m : Int} (h : s.kind = 8) : stS ft s env m = ⟨lvZ env, m, env, []⟩ := by
  obtain ⟨k, nm, n, a, b, ba, bc, l, ea, ec, e, ca, cc, c⟩ := s
  subst h
  rw [stS, if_neg (by decide), if_neg (by decide), if_neg (by decide), if_neg (by decide), if_neg (by decide), if_neg (by decide), if_pos rfl]
set_option maxRecDepth 100000 in
set_option maxHeartbeats 2000000 in
theorem nst_brk (w0 : World) (b fm : Nat) (ft : List (List UInt8 × Int)) (s : St) (a : Option Addr) (x : Nat × Nat) (bs : List (Nat × Nat)) (env : Env) (m : Int) (v : Value) (cs : List Int) (w : World) (hk : s.kind = 8) (hin : s.In w0) (hB : Below w0.heap.size w0 w) (hw : WS w0.heap.size w b fm a (x :: bs) env ft m v cs) (_h1 : cs.length + qS s ≤ 1000000) (_h2 : ∀ f ∈ env, f.2.length + qS s ≤ 900000) :
    Calls Tryz.prog 52 #[.pointer (some ⟨b, 0, none⟩), s.val] w fun e w' => e = .returned (.int .i64 (stS ft s env m).e) ∧ LP w0.heap.size b fm a x bs ft v cs (qS s) w w' (stS ft s env m) := by
  rw [stS_brk hk]
  have hq := qS_eq s
  obtain ⟨_, hz, _, hia, hib, _⟩ := St.in_iff.1 hin
  have hb0 := (Below.refl _ w).alloc (Nat.le_refl _) (stBox s)
  have hB1 : Below w0.heap.size w0 (w.alloc (stBox s)) := hB.trans (hb0.mono hB.size)
  have hL : ∀ g ∈ b :: x.2 :: ob v, w0.heap.size ≤ g := fun q hq => by
    rcases List.mem_cons.1 hq with rfl | hq
    · exact hw.2.2.2.2.2.2 q (by simp)
    rcases List.mem_cons.1 hq with rfl | hq
    · exact hw.2.2.2.2.2.2 _ (by simp [chB])
    · exact (own_lt hw.2.2.2.1 q hq).1
  have hs : ∀ g ∈ b :: ob v, g ∈ b :: x.2 :: ob v := fun g hg => by
    rcases List.mem_cons.1 hg with rfl | hg <;> simp_all
  have hnL := ws_new hw
  have g0 : GS w0.heap.size b fm a x bs ft v cs (b :: x.2 :: ob v) True 0 [] (w.alloc (stBox s)) (w.alloc (stBox s)) env m := GS.start (hw.stay hb0) True
  have k0 := hw.cellS
  have hlt := hw.lt
  have hne : env ≠ [] := fun e => by have := hw.2.1; rw [e] at this; exact this.elim
  have HC : Hid (∀ W, GS w0.heap.size b fm a x bs ft v cs (b :: x.2 :: ob v) True 0 [] (w.alloc (stBox s)) W env m → Calls Tryz.prog 78 #[.pointer a] W fun e W' => e = .returned (.int .i64 (lvZ env)) ∧ W' = W) := fun W h => leave_any a (x :: bs) env W h.chain hne
  have HF : Hid (∀ W, GS w0.heap.size b fm a x bs ft v cs (b :: x.2 :: ob v) True 0 [] (w.alloc (stBox s)) W env m → LP w0.heap.size b fm a x bs ft v cs (qS s) w W ⟨lvZ env, m, env, []⟩) :=
    fun W h => h.lp hb0 (fun _ => ⟨trivial, rfl⟩) rfl rfl (by omega)
  clear hin hB hw _h1 _h2 hq hz hia hib hb0 hB1 hL hs hnL hne
  obtain ⟨W1, hW1⟩ : ∃ W1, w.alloc (stBox s) = W1 := ⟨_, rfl⟩
  rw [hW1] at g0 HC HF
  unfold stBox at hW1
  rw [hk] at hW1
  have HW1 := show Hid _ from hW1
  clear hW1
  unfold St.val
  rw [hk]
  go_enter Tryz.func52, Tryz.ntmps52
  go_wp2_with fail
  rw [HW1.out]
  refine (HC.out _ g0).mono ?_
  rintro e w' ⟨rfl, rfl⟩
  go_wp2_with fail
  go_ret
  exact ⟨rfl, HF.out _ g0⟩
theorem stS_oth {ft : List (List UInt8 × Int)} {s : St} {env : Env} {m : Int} (h : s.kind ≠ 1 ∧ s.kind ≠ 2 ∧ s.kind ≠ 3 ∧ s.kind ≠ 4 ∧ s.kind ≠ 5 ∧ s.kind ≠ 6 ∧ s.kind ≠ 7 ∧ s.kind ≠ 8) : stS ft s env m = ⟨exZ env ft s.a, m, env, exC ft s.a⟩ := by
  obtain ⟨k, nm, n, a, b, ba, bc, l, ea, ec, e, ca, cc, c⟩ := s
  obtain ⟨h1, _h2, h3, h4, h5, h6, h7, h8⟩ := h
  simp only [St.kind] at h1 _h2 h3 h4 h5 h6 h7 h8
  rw [stS, if_neg h1, if_neg _h2, if_neg h3, if_neg h4, if_neg (fun e => e.elim h5 h6), if_neg h7, if_neg h8]; rfl
set_option maxRecDepth 100000 in
set_option maxHeartbeats 2000000 in
theorem nst_oth (w0 : World) (b fm : Nat) (ft : List (List UInt8 × Int)) (s : St) (a : Option Addr) (x : Nat × Nat) (bs : List (Nat × Nat)) (env : Env) (m : Int) (v : Value) (cs : List Int) (w : World) (hk : s.kind ≠ 1 ∧ s.kind ≠ 2 ∧ s.kind ≠ 3 ∧ s.kind ≠ 4 ∧ s.kind ≠ 5 ∧ s.kind ≠ 6 ∧ s.kind ≠ 7 ∧ s.kind ≠ 8) (hin : s.In w0) (hB : Below w0.heap.size w0 w) (hw : WS w0.heap.size w b fm a (x :: bs) env ft m v cs) (h1 : cs.length + qS s ≤ 1000000) (_h2 : ∀ f ∈ env, f.2.length + qS s ≤ 900000) :
    Calls Tryz.prog 52 #[.pointer (some ⟨b, 0, none⟩), s.val] w fun e w' => e = .returned (.int .i64 (stS ft s env m).e) ∧ LP w0.heap.size b fm a x bs ft v cs (qS s) w w' (stS ft s env m) := by
  rw [stS_oth hk]
  have hq := qS_eq s
  obtain ⟨_, hz, _, hia, hib, _⟩ := St.in_iff.1 hin
  have hb0 := (Below.refl _ w).alloc (Nat.le_refl _) (stBox s)
  have hB1 : Below w0.heap.size w0 (w.alloc (stBox s)) := hB.trans (hb0.mono hB.size)
  have hL : ∀ g ∈ b :: x.2 :: ob v, w0.heap.size ≤ g := fun q hq => by
    rcases List.mem_cons.1 hq with rfl | hq
    · exact hw.2.2.2.2.2.2 q (by simp)
    rcases List.mem_cons.1 hq with rfl | hq
    · exact hw.2.2.2.2.2.2 _ (by simp [chB])
    · exact (own_lt hw.2.2.2.1 q hq).1
  have hs : ∀ g ∈ b :: ob v, g ∈ b :: x.2 :: ob v := fun g hg => by
    rcases List.mem_cons.1 hg with rfl | hg <;> simp_all
  have hnL := ws_new hw
  have g0 : GS w0.heap.size b fm a x bs ft v cs (b :: x.2 :: ob v) True 0 [] (w.alloc (stBox s)) (w.alloc (stBox s)) env m := GS.start (hw.stay hb0) True
  have HE : Hid (∀ W, GS w0.heap.size b fm a x bs ft v cs (b :: x.2 :: ob v) True 0 [] (w.alloc (stBox s)) W env m → Calls Tryz.prog 73 #[.pointer (some ⟨b, 0, none⟩), .agg #[.int .i64 s.a.kind, .int .i64 s.a.n, .string s.a.name, .slice s.a.a s.a.args.length s.a.cap]] W fun e W' => e = .returned (.int .i64 (exZ env ft s.a)) ∧ GS w0.heap.size b fm a x bs ft v cs (b :: x.2 :: ob v) (True ∧ exZ env ft s.a = 0) (0 + s.a.sz) ([] ++ exC ft s.a) (w.alloc (stBox s)) W' env m) :=
    fun W h => gs_expr w0 b fm h s.a hia hB1 hL hs (by omega)
  have HF : Hid (∀ W, GS w0.heap.size b fm a x bs ft v cs (b :: x.2 :: ob v) (True ∧ exZ env ft s.a = 0) (0 + s.a.sz) ([] ++ exC ft s.a) (w.alloc (stBox s)) W env m → LP w0.heap.size b fm a x bs ft v cs (qS s) w W ⟨exZ env ft s.a, m, env, exC ft s.a⟩) :=
    fun W h => h.lp hb0 (fun e => ⟨⟨trivial, e⟩, by simp⟩) rfl rfl (by omega)
  obtain ⟨e1, e2, e3, e4, e5, e6, e7, e8⟩ := hk
  replace e1 := beq_no e1
  replace e2 := beq_no e2
  replace e3 := beq_no e3
  replace e4 := beq_no e4
  replace e5 := beq_no e5
  replace e6 := beq_no e6
  replace e7 := beq_no e7
  replace e8 := beq_no e8
  clear hin hB hw h1 _h2 hq hz hia hib hb0 hB1 hL hs hnL
  obtain ⟨W1, hW1⟩ : ∃ W1, w.alloc (stBox s) = W1 := ⟨_, rfl⟩
  rw [hW1] at g0 HE HF
  unfold stBox at hW1
  have HW1 := show Hid _ from hW1
  clear hW1
  generalize exZ env ft s.a = ra at *
  unfold St.val
  go_enter Tryz.func52, Tryz.ntmps52
  go_wp2_with fail
  rw [HW1.out]
  refine (HE.out _ g0).mono ?_
  rintro e w' ⟨rfl, hg⟩
  have HG : Hid _ := hg
  clear hg g0
  go_wp2_with fail
  go_ret
  exact ⟨rfl, HF.out _ HG.out⟩
end Go.Proofs.YtkkcgkpbbngloaaGreatDoor

/- The program's walker: a scope of its own inside a statement. -/
namespace Go.Proofs.YtkkcgkpbbngloaaGreatDoor
open Go.RowKit Go.Sort

/-- The walker inside a statement, with a scope made that lies in the one at hand. -/
def GB (N b fm : Nat) (a : Option Addr) (x : Nat × Nat) (bs : List (Nat × Nat)) (ft : List (List UInt8 × Int)) (v : Value) (cs : List Int) (L : List Nat) (ok : Prop) (k : Nat) (c : List Int) (w W : World) (env : Env) (m : Int) (a2 : Option Addr) (x2 : Nat × Nat) (f2 : Bool × List (List UInt8 × Int)) : Prop :=
  ∃ v' cs', WS N W b fm a (x :: bs) env ft m v' cs' ∧ (ok → cs' = cs ++ c) ∧ cs'.length ≤ cs.length + k ∧ Fr L w W ∧ (∀ g ∈ ob v', g ∈ ob v ∨ w.heap.size ≤ g) ∧ Chain W a2 (x2 :: x :: bs) (f2 :: env) ∧ (b :: fm :: chB (x2 :: x :: bs)).Nodup ∧ (∀ g ∈ ob v', g ∉ b :: fm :: chB (x2 :: x :: bs)) ∧ (∀ g ∈ b :: fm :: chB (x2 :: x :: bs), N ≤ g) ∧ (w.heap.size ≤ x2.1 ∧ w.heap.size ≤ x2.2)
theorem GB.gs {N b fm : Nat} {a x bs ft v cs L ok k c w W env m a2 x2 f2} (h : GB N b fm a x bs ft v cs L ok k c w W env m a2 x2 f2) : GS N b fm a x bs ft v cs L ok k c w W env m := by
  obtain ⟨v', cs', i1, i2, i3, i4, i5, _⟩ := h
  exact ⟨v', cs', i1, i2, i3, i4, i5⟩
theorem GB.sx {N b fm : Nat} {a x bs ft v cs L ok k c w W env m a2 x2 f2} (h : GB N b fm a x bs ft v cs L ok k c w W env m a2 x2 f2) : SX b a L w W := h.gs.sx
theorem gs_within (N b fm : Nat) {a x bs ft v cs L ok k c w W env m} (h : GS N b fm a x bs ft v cs L ok k c w W env m) (hN : N ≤ w.heap.size) :
    Calls Tryz.prog 102 #[.pointer a] W fun e W' => e = .returned (.pointer (some ⟨W.heap.size + 1, 0, none⟩)) ∧ GB N b fm a x bs ft v cs L ok k c w W' env m (some ⟨W.heap.size + 1, 0, none⟩) (W.heap.size + 1, W.heap.size) (lvZ env == 0, []) := by
  obtain ⟨v1, cs1, i1, i2, i3, i4, i5⟩ := h
  have hne : env ≠ [] := fun e => by have := i1.2.1; rw [e] at this; exact this.elim
  refine (within_any a (x :: bs) env W i1.2.1 hne).mono ?_
  rintro e W' ⟨rfl, j1, j2, j3⟩
  have hsz := i4.size
  have hlt : ∀ g ∈ b :: fm :: chB (x :: bs), g < W.heap.size := fun g hg => by
    rcases List.mem_cons.1 hg with rfl | hg
    · exact i1.lt
    rcases List.mem_cons.1 hg with rfl | hg
    · exact i1.2.2.1.lt
    · exact i1.2.1.lt g hg
  have hnd := i1.2.2.2.2.1
  refine ⟨rfl, v1, cs1, i1.stay j2, i2, i3, i4.trans (Fr.of_below j2), i5, j1, ?_, fun g hg hy => ?_, fun g hg => ?_, by simp only; omega, hsz⟩
  · have h1 := hlt b (by simp)
    have h2 := hlt fm (by simp)
    have h3 : ∀ g ∈ chB (x :: bs), g < W.heap.size := fun g hg => hlt g (by simp [hg])
    have e0 : chB ((W.heap.size + 1, W.heap.size) :: x :: bs) = (W.heap.size + 1) :: W.heap.size :: chB (x :: bs) := rfl
    rw [e0]
    obtain ⟨n1, n2⟩ := List.nodup_cons.1 hnd
    obtain ⟨n3, n4⟩ := List.nodup_cons.1 n2
    simp only [List.mem_cons, not_or] at n1
    simp only [List.nodup_cons, List.mem_cons, not_or]
    exact ⟨⟨n1.1, by omega, by omega, n1.2⟩, ⟨by omega, by omega, n3⟩, ⟨by omega, fun hx => by have := h3 _ hx; omega⟩, fun hx => by have := h3 _ hx; omega, n4⟩
  · have h1 := (own_lt i1.2.2.2.1 g hg).2
    have e0 : chB ((W.heap.size + 1, W.heap.size) :: x :: bs) = (W.heap.size + 1) :: W.heap.size :: chB (x :: bs) := rfl
    have h2 := i1.2.2.2.2.2.1 g hg
    rw [e0] at hy
    simp only [List.mem_cons, not_or] at hy h2
    rcases hy with hy | hy | hy | hy | hy
    · exact h2.1 hy
    · exact h2.2.1 hy
    · omega
    · omega
    · exact h2.2.2 hy
  · have e0 : chB ((W.heap.size + 1, W.heap.size) :: x :: bs) = (W.heap.size + 1) :: W.heap.size :: chB (x :: bs) := rfl
    have h2 := i1.2.2.2.2.2.2 g
    rw [e0] at hg
    simp only [List.mem_cons] at hg h2
    rcases hg with hg | hg | hg | hg | hg
    · exact h2 (Or.inl hg)
    · exact h2 (Or.inr (Or.inl hg))
    · omega
    · omega
    · exact h2 (Or.inr (Or.inr hg))
theorem gb_body (w0 : World) (b fm : Nat) (K : Nat) {a x bs ft v cs L ok k c w W env m a2 x2 f2} (ih : LsN w0 b fm ft K) (h : GB w0.heap.size b fm a x bs ft v cs L ok k c w W env m a2 x2 f2) (l : List St) (la : Option Addr) (lc : Nat) (hk : qSs l ≤ K) (hin : Have w0 la lc l) (hB : Below w0.heap.size w0 w) (hL : ∀ g ∈ L, w0.heap.size ≤ g) (hs : ∀ g ∈ b :: ob v, g ∈ L)
    (h1 : cs.length + k + qSs l ≤ 1000000) (h2 : ∀ f ∈ f2 :: env, f.2.length + qSs l ≤ 900000) (h3 : 0 ≤ m) (h4 : m + qSs l ≤ 1000000000) :
    Calls Tryz.prog 101 #[.pointer (some ⟨b, 0, none⟩), .pointer a2, .slice la l.length lc] W fun e W' => e = .returned (.int .i64 (lsS ft l (f2 :: env) m).e) ∧ GS w0.heap.size b fm a x bs ft v cs L (ok ∧ (lsS ft l (f2 :: env) m).e = 0) (k + qSs l) (c ++ (lsS ft l (f2 :: env) m).c) w W' env (lsS ft l (f2 :: env) m).m := by
  obtain ⟨v1, cs1, i1, i2, i3, i4, i5, i6, i7, i8, i9, i10⟩ := h
  have hBW : Below w0.heap.size w0 W := hB.trans (i4.below hL hB.size)
  refine (nbody_of w0 b fm ft K ih l la lc a a2 x x2 bs f2 env m v1 cs1 W hk hin hBW i1 i6 i7 i8 i9 (by omega) h2 h3 h4).mono ?_
  rintro e W' ⟨rfl, v2, cs2, j1, j2, j3, j4, j5⟩
  refine ⟨rfl, v2, cs2, j1, fun ho => by rw [j2 ho.2, i2 ho.1, List.append_assoc], by omega, i4.trans' j4 fun q hq => ?_, fun g hg => ?_⟩
  · rcases List.mem_cons.1 hq with rfl | hq
    · exact Or.inl (hs q (by simp))
    rcases List.mem_cons.1 hq with rfl | hq
    · exact Or.inr i10.2
    · rcases i5 q hq with h' | h'
      · exact Or.inl (hs q (by simp [h']))
      · exact Or.inr h'
  · rcases j5 g hg with h' | h'
    · exact i5 g h'
    · exact Or.inr (Nat.le_trans i4.size h')
end Go.Proofs.YtkkcgkpbbngloaaGreatDoor

/- The program's walker: an if, a switch. -/
namespace Go.Proofs.YtkkcgkpbbngloaaGreatDoor
open Go.RowKit Go.Sort

theorem Hid.mk' {p : Prop} (h : p) : Hid p := h
theorem GS.wk {N b fm : Nat} {a x bs ft v cs L ok ok' k k' c c' w W env m} (h : GS N b fm a x bs ft v cs L ok k c w W env m) (ho : ok' → ok) (hk : k ≤ k') (hc : c = c') : GS N b fm a x bs ft v cs L ok' k' c' w W env m := by
  obtain ⟨v', cs', i1, i2, i3, i4, i5⟩ := h
  subst hc
  exact ⟨v', cs', i1, fun o => i2 (ho o), by omega, i4, i5⟩
theorem GS.comp {N b fm : Nat} {a : Option Addr} {x : Nat × Nat} {bs : List (Nat × Nat)} {ft : List (List UInt8 × Int)} {v v1 : Value} {cs cs1 c c1 : List Int} {k k1 : Nat} {ok : Prop} {w W W2 W3 : World} {env3 : Env} {m3 : Int} (i2 : cs1 = cs ++ c) (i3 : cs1.length ≤ cs.length + k) (i4 : Fr (b :: x.2 :: ob v) w W) (i5 : ∀ g ∈ ob v1, g ∈ ob v ∨ w.heap.size ≤ g) (hb : Below W.heap.size W W2)
    (h : GS N b fm a x bs ft v1 cs1 (b :: x.2 :: ob v1) ok k1 c1 W2 W3 env3 m3) : GS N b fm a x bs ft v cs (b :: x.2 :: ob v) ok (k + k1) (c ++ c1) w W3 env3 m3 := by
  obtain ⟨v2, cs2, j1, j2, j3, j4, j5⟩ := h
  have h3 := i4.trans (Fr.of_below (S := b :: x.2 :: ob v) hb)
  refine ⟨v2, cs2, j1, fun o => by rw [j2 o, i2, List.append_assoc], by omega, h3.trans' j4 fun q hq => ?_, fun g hg => ?_⟩
  · rcases List.mem_cons.1 hq with rfl | hq
    · exact Or.inl (by simp)
    rcases List.mem_cons.1 hq with rfl | hq
    · exact Or.inl (by simp)
    · rcases i5 q hq with h' | h'
      · exact Or.inl (by simp [h'])
      · exact Or.inr h'
  · rcases j5 g hg with h' | h'
    · exact i5 g h'
    · exact Or.inr (Nat.le_trans h3.size h')
theorem csS_drop {ft : List (List UInt8 × Int)} {l : List Ca} {j : Nat} {env : Env} {m : Int} (h : j < l.length) : csS ft (l.drop j) env m = if (lsS ft l[j].body ((lvZ env == 0, []) :: env) m).e ≠ 0 then ⟨(lsS ft l[j].body ((lvZ env == 0, []) :: env) m).e, (lsS ft l[j].body ((lvZ env == 0, []) :: env) m).m, env, []⟩
    else ⟨(csS ft (l.drop (j + 1)) env (lsS ft l[j].body ((lvZ env == 0, []) :: env) m).m).e, (csS ft (l.drop (j + 1)) env (lsS ft l[j].body ((lvZ env == 0, []) :: env) m).m).m, env, (lsS ft l[j].body ((lvZ env == 0, []) :: env) m).c ++ (csS ft (l.drop (j + 1)) env (lsS ft l[j].body ((lvZ env == 0, []) :: env) m).m).c⟩ := by
  rw [List.drop_eq_getElem_cons h, csS]
  have : ∀ (y : Ca), caS ft y env m = lsS ft y.body ((lvZ env == 0, []) :: env) m := fun y => by cases y; rw [caS]; rfl
  rw [this]
theorem qCs_drop {l : List Ca} {j : Nat} (h : j < l.length) : qCs (l.drop j) = 1 + qSs l[j].body + qCs (l.drop (j + 1)) := by
  rw [List.drop_eq_getElem_cons h, qCs, qC_eq]
theorem qCs_mem {l : List Ca} {x : Ca} (h : x ∈ l) : 1 + qSs x.body ≤ qCs l := by
  induction l with
  | nil => cases h
  | cons y r ih =>
    rw [qCs, qC_eq]
    rcases List.mem_cons.1 h with rfl | h
    · omega
    · have := ih h; omega
theorem stS_cho {ft : List (List UInt8 × Int)} {s : St} {env : Env} {m : Int} (h : s.kind = 5 ∨ s.kind = 6) : stS ft s env m =
    (if exZ env ft s.a ≠ 0 then ⟨exZ env ft s.a, m, env, []⟩
     else if (lsS ft s.body ((lvZ env == 0, []) :: env) m).e ≠ 0 then ⟨(lsS ft s.body ((lvZ env == 0, []) :: env) m).e, (lsS ft s.body ((lvZ env == 0, []) :: env) m).m, env, []⟩
     else if (csS ft s.cases env (lsS ft s.body ((lvZ env == 0, []) :: env) m).m).e ≠ 0 then ⟨(csS ft s.cases env (lsS ft s.body ((lvZ env == 0, []) :: env) m).m).e, (csS ft s.cases env (lsS ft s.body ((lvZ env == 0, []) :: env) m).m).m, env, []⟩
     else ⟨(lsS ft s.els ((lvZ env == 0, []) :: env) (csS ft s.cases env (lsS ft s.body ((lvZ env == 0, []) :: env) m).m).m).e, (lsS ft s.els ((lvZ env == 0, []) :: env) (csS ft s.cases env (lsS ft s.body ((lvZ env == 0, []) :: env) m).m).m).m, env, exC ft s.a ++ (lsS ft s.body ((lvZ env == 0, []) :: env) m).c ++ (csS ft s.cases env (lsS ft s.body ((lvZ env == 0, []) :: env) m).m).c ++ (lsS ft s.els ((lvZ env == 0, []) :: env) (csS ft s.cases env (lsS ft s.body ((lvZ env == 0, []) :: env) m).m).m).c⟩) := by
  obtain ⟨k, nm, n, a, b, ba, bc, l, ea, ec, e, ca, cc, c⟩ := s
  simp only [St.kind] at h
  rw [stS, if_neg (by omega), if_neg (by omega), if_neg (by omega), if_neg (by omega), if_pos h]; rfl
set_option maxRecDepth 100000 in
set_option maxHeartbeats 2000000 in
theorem nchoice_of (w0 : World) (b fm : Nat) (ft : List (List UInt8 × Int)) (K : Nat) (ih : LsN w0 b fm ft K) (s : St) (a : Option Addr) (x : Nat × Nat) (bs : List (Nat × Nat)) (env : Env) (m : Int) (v : Value) (cs : List Int) (w : World) (hk : s.kind = 5 ∨ s.kind = 6) (hin : s.In w0) (hB : Below w0.heap.size w0 w) (hw : WS w0.heap.size w b fm a (x :: bs) env ft m v cs) (h1 : cs.length + qS s ≤ 1000000) (h2 : ∀ f ∈ env, f.2.length + qS s ≤ 900000) (h3 : 0 ≤ m) (h4 : m + qS s ≤ 1000000001) (hK : qS s ≤ K + 1) :
    Calls Tryz.prog 76 #[.pointer (some ⟨b, 0, none⟩), s.val] w fun e w' => e = .returned (.int .i64 (stS ft s env m).e) ∧ LP w0.heap.size b fm a x bs ft v cs (qS s) w w' (stS ft s env m) := by
  have HRR : Hid (stS ft s env m = (if exZ env ft s.a ≠ 0 then ⟨exZ env ft s.a, m, env, []⟩ else if (lsS ft s.body ((lvZ env == 0, []) :: env) m).e ≠ 0 then ⟨(lsS ft s.body ((lvZ env == 0, []) :: env) m).e, (lsS ft s.body ((lvZ env == 0, []) :: env) m).m, env, []⟩ else if (csS ft s.cases env (lsS ft s.body ((lvZ env == 0, []) :: env) m).m).e ≠ 0 then ⟨(csS ft s.cases env (lsS ft s.body ((lvZ env == 0, []) :: env) m).m).e, (csS ft s.cases env (lsS ft s.body ((lvZ env == 0, []) :: env) m).m).m, env, []⟩ else ⟨(lsS ft s.els ((lvZ env == 0, []) :: env) (csS ft s.cases env (lsS ft s.body ((lvZ env == 0, []) :: env) m).m).m).e, (lsS ft s.els ((lvZ env == 0, []) :: env) (csS ft s.cases env (lsS ft s.body ((lvZ env == 0, []) :: env) m).m).m).m, env, exC ft s.a ++ (lsS ft s.body ((lvZ env == 0, []) :: env) m).c ++ (csS ft s.cases env (lsS ft s.body ((lvZ env == 0, []) :: env) m).m).c ++ (lsS ft s.els ((lvZ env == 0, []) :: env) (csS ft s.cases env (lsS ft s.body ((lvZ env == 0, []) :: env) m).m).m).c⟩)) := stS_cho hk
  generalize stS ft s env m = R at HRR ⊢
  have hq := qS_eq s
  obtain ⟨_, hz, _, hia, hib, hbo, hel, hca, hci⟩ := St.in_iff.1 hin
  have hb0 := (Below.refl _ w).alloc (Nat.le_refl _) (stBox s)
  have hB1 : Below w0.heap.size w0 (w.alloc (stBox s)) := hB.trans (hb0.mono hB.size)
  have hL : ∀ g ∈ b :: x.2 :: ob v, w0.heap.size ≤ g := fun q hq => by
    rcases List.mem_cons.1 hq with rfl | hq
    · exact hw.2.2.2.2.2.2 q (by simp)
    rcases List.mem_cons.1 hq with rfl | hq
    · exact hw.2.2.2.2.2.2 _ (by simp [chB])
    · exact (own_lt hw.2.2.2.1 q hq).1
  have hs : ∀ g ∈ b :: ob v, g ∈ b :: x.2 :: ob v := fun g hg => by
    rcases List.mem_cons.1 hg with rfl | hg <;> simp_all
  have hnL := ws_new hw
  have g0 : GS w0.heap.size b fm a x bs ft v cs (b :: x.2 :: ob v) True 0 [] (w.alloc (stBox s)) (w.alloc (stBox s)) env m := GS.start (hw.stay hb0) True
  have HE : Hid (∀ W, GS w0.heap.size b fm a x bs ft v cs (b :: x.2 :: ob v) True 0 [] (w.alloc (stBox s)) W env m → Calls Tryz.prog 73 #[.pointer (some ⟨b, 0, none⟩), .agg #[.int .i64 s.a.kind, .int .i64 s.a.n, .string s.a.name, .slice s.a.a s.a.args.length s.a.cap]] W fun e W' => e = .returned (.int .i64 (exZ env ft s.a)) ∧ GS w0.heap.size b fm a x bs ft v cs (b :: x.2 :: ob v) (True ∧ exZ env ft s.a = 0) (0 + s.a.sz) ([] ++ exC ft s.a) (w.alloc (stBox s)) W' env m) :=
    fun W h => gs_expr w0 b fm h s.a hia hB1 hL hs (by omega)
  have hq900 : qS s ≤ 900000 := by
    have hne := hw.2.1
    match env, hne, h2 with
    | [], hne, _ => exact hne.elim
    | f :: _, _, h2 => have := h2 f (by simp); omega
  have HWI : Hid (∀ W kk (cc : List Int) (mm : Int), GS w0.heap.size b fm a x bs ft v cs (b :: x.2 :: ob v) True kk cc (w.alloc (stBox s)) W env mm → Calls Tryz.prog 102 #[.pointer a] W fun e W' => ∃ a2 x2, e = .returned (.pointer a2) ∧ GB w0.heap.size b fm a x bs ft v cs (b :: x.2 :: ob v) True kk cc (w.alloc (stBox s)) W' env mm a2 x2 (lvZ env == 0, [])) :=
    fun W kk cc mm h => (gs_within w0.heap.size b fm h hB1.size).mono fun e W' hh => ⟨_, _, hh⟩
  have HBO : Hid (∀ W a2 x2 kk (cc : List Int) (mm : Int) (l : List St) (la : Option Addr) (lc : Nat), Have w0 la lc l → qSs l < qS s → kk + qSs l ≤ qS s → 0 ≤ mm → mm + qSs l ≤ 1000000000 → GB w0.heap.size b fm a x bs ft v cs (b :: x.2 :: ob v) True kk cc (w.alloc (stBox s)) W env mm a2 x2 (lvZ env == 0, []) → Calls Tryz.prog 101 #[.pointer (some ⟨b, 0, none⟩), .pointer a2, .slice la l.length lc] W fun e W' => e = .returned (.int .i64 (lsS ft l ((lvZ env == 0, []) :: env) mm).e) ∧ GS w0.heap.size b fm a x bs ft v cs (b :: x.2 :: ob v) (True ∧ (lsS ft l ((lvZ env == 0, []) :: env) mm).e = 0) (kk + qSs l) (cc ++ (lsS ft l ((lvZ env == 0, []) :: env) mm).c) (w.alloc (stBox s)) W' env (lsS ft l ((lvZ env == 0, []) :: env) mm).m) :=
    fun W a2 x2 kk cc mm l la lc q1 q2 q3 q4 q5 h => gb_body w0 b fm K ih h l la lc (by omega) q1 hB1 hL hs (by omega) (fun f hf => by
      rcases List.mem_cons.1 hf with rfl | hf
      · simp only [List.length_nil]; have := hq900; omega
      · have := h2 f hf; omega) q4 q5
  have HRO : Hid (∀ (W2 W : World) (v1 : Value) (cs1 : List Int) (a2 : Option Addr) (x2 : Nat × Nat) (mm : Int) (l : List St) (la : Option Addr) (lc : Nat), Below w0.heap.size w0 W2 → (∀ g ∈ b :: x.2 :: ob v1, w0.heap.size ≤ g) → cs1.length + qSs l ≤ cs.length + qS s → Have w0 la lc l → qSs l < qS s → 0 ≤ mm → mm + qSs l ≤ 1000000000 → GB w0.heap.size b fm a x bs ft v1 cs1 (b :: x.2 :: ob v1) True 0 [] W2 W env mm a2 x2 (lvZ env == 0, []) → Calls Tryz.prog 101 #[.pointer (some ⟨b, 0, none⟩), .pointer a2, .slice la l.length lc] W fun e W' => e = .returned (.int .i64 (lsS ft l ((lvZ env == 0, []) :: env) mm).e) ∧ GS w0.heap.size b fm a x bs ft v1 cs1 (b :: x.2 :: ob v1) (True ∧ (lsS ft l ((lvZ env == 0, []) :: env) mm).e = 0) (0 + qSs l) ([] ++ (lsS ft l ((lvZ env == 0, []) :: env) mm).c) W2 W' env (lsS ft l ((lvZ env == 0, []) :: env) mm).m) :=
    fun W2 W v1 cs1 a2 x2 mm l la lc p1 p2 p3 q1 q2 q4 q5 h => gb_body w0 b fm K ih h l la lc (by omega) q1 p1 p2 (fun g hg => by rcases List.mem_cons.1 hg with rfl | hg <;> simp_all) (by omega) (fun f hf => by
      rcases List.mem_cons.1 hf with rfl | hf
      · simp only [List.length_nil]; have := hq900; omega
      · have := h2 f hf; omega) q4 q5
  have HLP : Hid (∀ W (ok : Prop) kk (cc : List Int) (mm : Int) (r : SR), GS w0.heap.size b fm a x bs ft v cs (b :: x.2 :: ob v) ok kk cc (w.alloc (stBox s)) W env mm → (r.e = 0 → ok ∧ cc = r.c) → env = r.env → mm = r.m → kk ≤ qS s → LP w0.heap.size b fm a x bs ft v cs (qS s) w W r) :=
    fun W ok kk cc mm r h p1 p2 p3 p4 => h.lp hb0 p1 p2 p3 p4
  have y0 : ∀ W, SX b a (b :: x.2 :: ob v) (w.alloc (stBox s)) W → W.cell? ⟨b, 0, none⟩ = some (.pointer a) := fun W h => h.2
  have y11 : ∀ W, SX b a (b :: x.2 :: ob v) (w.alloc (stBox s)) W → W.cell? ⟨w.heap.size, 11, none⟩ = some (.slice s.ba s.body.length s.bc) := fun W h => SX.box hnL (by rw [World.cell?_alloc_at _ _ _ _ rfl]; rfl) h
  have y12 : ∀ W, SX b a (b :: x.2 :: ob v) (w.alloc (stBox s)) W → W.cell? ⟨w.heap.size, 12, none⟩ = some (.slice s.ea s.els.length s.ec) := fun W h => SX.box hnL (by rw [World.cell?_alloc_at _ _ _ _ rfl]; rfl) h
  have y13 : ∀ W, SX b a (b :: x.2 :: ob v) (w.alloc (stBox s)) W → W.cell? ⟨w.heap.size, 13, none⟩ = some (.slice s.ca s.cases.length s.cc) := fun W h => SX.box hnL (by rw [World.cell?_alloc_at _ _ _ _ rfl]; rfl) h
  have HSZ : Hid (qS s = 1 + s.a.sz + s.b.sz + qSs s.body + qSs s.els + qCs s.cases ∧ m + qS s ≤ 1000000001) := ⟨hq, h4⟩
  have HIN : Hid (Have w0 s.ba s.bc s.body ∧ Have w0 s.ea s.ec s.els ∧ LiesC w0 s.ca s.cc s.cases ∧ ∀ y ∈ s.cases, y.In w0) := ⟨hbo, hel, hca, hci⟩
  have HON : Hid (∀ W, SX b a (b :: x.2 :: ob v) (w.alloc (stBox s)) W → Below w0.heap.size w0 W) := fun W h => hB1.trans (h.1.below hL hB1.size)
  have HBM := Hid.mk' (lsS_m ft s.body ((lvZ env == 0, []) :: env) m)
  have HCM := Hid.mk' (csS_m ft s.cases env (lsS ft s.body ((lvZ env == 0, []) :: env) m).m)
  clear hin hB hw h1 h2 hq hz hia hib hb0 hB1 hL hs hnL hbo hel hca hci h4 hK ih hq900
  obtain ⟨W1, hW1⟩ : ∃ W1, w.alloc (stBox s) = W1 := ⟨_, rfl⟩
  rw [hW1] at g0 HE HWI HBO HLP HON y0 y11 y12 y13
  unfold stBox at hW1
  have HW1 := show Hid _ from hW1
  clear hW1
  generalize exZ env ft s.a = za at *
  unfold St.val
  generalize s.ca = sca at *
  go_enter Tryz.func76, Tryz.ntmps76
  go_wp2_with fail
  rw [HW1.out]
  refine (HE.out _ g0).mono ?_
  rintro e w1 ⟨rfl, hg1⟩
  clear g0 HE HW1
  cases hza : (za != 0)
  · have hza0 : za = 0 := by simpa using hza
    have g1 : GS w0.heap.size b fm a x bs ft v cs (b :: x.2 :: ob v) True s.a.sz (exC ft s.a) W1 w1.drew env m := (hg1.wk (fun _ => ⟨trivial, hza0⟩) (by omega) (by simp)).below (Below.drew (Below.refl _ _))
    clear hg1
    have HR1 : Hid (R = (if (lsS ft s.body ((lvZ env == 0, []) :: env) m).e ≠ 0 then ⟨(lsS ft s.body ((lvZ env == 0, []) :: env) m).e, (lsS ft s.body ((lvZ env == 0, []) :: env) m).m, env, []⟩ else if (csS ft s.cases env (lsS ft s.body ((lvZ env == 0, []) :: env) m).m).e ≠ 0 then ⟨(csS ft s.cases env (lsS ft s.body ((lvZ env == 0, []) :: env) m).m).e, (csS ft s.cases env (lsS ft s.body ((lvZ env == 0, []) :: env) m).m).m, env, []⟩ else ⟨(lsS ft s.els ((lvZ env == 0, []) :: env) (csS ft s.cases env (lsS ft s.body ((lvZ env == 0, []) :: env) m).m).m).e, (lsS ft s.els ((lvZ env == 0, []) :: env) (csS ft s.cases env (lsS ft s.body ((lvZ env == 0, []) :: env) m).m).m).m, env, exC ft s.a ++ (lsS ft s.body ((lvZ env == 0, []) :: env) m).c ++ (csS ft s.cases env (lsS ft s.body ((lvZ env == 0, []) :: env) m).m).c ++ (lsS ft s.els ((lvZ env == 0, []) :: env) (csS ft s.cases env (lsS ft s.body ((lvZ env == 0, []) :: env) m).m).m).c⟩)) := by show _ = _; rw [HRR.out, if_neg (by simpa using hza0)]
    clear HRR
    have HB1 := Hid.mk' (fun W a2 x2 => HBO.out W a2 x2 s.a.sz (exC ft s.a) m s.body s.ba s.bc HIN.out.1 (by have := HSZ.out; omega) (by have := HSZ.out; omega) h3 (by have := HSZ.out; omega))
    obtain ⟨RB, hRB⟩ : ∃ RB, lsS ft s.body ((lvZ env == 0, []) :: env) m = RB := ⟨_, rfl⟩
    rw [hRB] at HB1 HBM HCM HR1
    go_wp2_with fail
    go_region_held (fun w' => SX b a (b :: x.2 :: ob v) W1 w') (first | exact GS.sx (by assumption) | exact GB.sx (by assumption) | exact SX.below (by assumption) ((Below.refl _ _).alloc (Nat.le_refl _) _) | assumption)
      (first
        | (go_at_call 102; refine (HWI.out _ _ _ _ (by assumption)).mono ?_; rintro e w' ⟨a2, x2, rfl, hg⟩)
        | (go_at_call 101; refine (HB1.out _ _ _ (by assumption)).mono ?_; rintro e w' ⟨rfl, hg⟩))
    have hg2 := hg
    clear hg g1 HB1
    cases hRe : (RB.e != 0)
    · have hRe0 : RB.e = 0 := by simpa using hRe
      have g2 : GS w0.heap.size b fm a x bs ft v cs (b :: x.2 :: ob v) True (s.a.sz + qSs s.body) (exC ft s.a ++ RB.c) W1 w' env RB.m := hg2.wk (fun _ => ⟨trivial, hRe0⟩) (Nat.le_refl _) rfl
      have HR2 : Hid (R = (if (csS ft s.cases env RB.m).e ≠ 0 then ⟨(csS ft s.cases env RB.m).e, (csS ft s.cases env RB.m).m, env, []⟩ else ⟨(lsS ft s.els ((lvZ env == 0, []) :: env) (csS ft s.cases env RB.m).m).e, (lsS ft s.els ((lvZ env == 0, []) :: env) (csS ft s.cases env RB.m).m).m, env, exC ft s.a ++ RB.c ++ (csS ft s.cases env RB.m).c ++ (lsS ft s.els ((lvZ env == 0, []) :: env) (csS ft s.cases env RB.m).m).c⟩)) := by show _ = _; rw [HR1.out, if_neg (by simpa using hRe0)]
      obtain ⟨RC, HRC⟩ : ∃ RC, Hid (csS ft s.cases env RB.m = RC) := ⟨_, rfl⟩
      rw [HRC.out] at HR2 HCM
      have c13 := y13 _ g2.sx
      clear hg2 HR1
      have HG2 : Hid (GS w0.heap.size b fm a x bs ft v cs (b :: x.2 :: ob v) True (s.a.sz + qSs s.body) (exC ft s.a ++ RB.c) W1 w' env RB.m) := g2
      clear g2
      go_wp2_with fail
      clear hRe hRe0 hza hza0
      go_loopw [32] (fun t32 wr => ∃ (j : Nat) (kj : Nat) (cd : List Int) (mj : Int), j ≤ s.cases.length ∧ t32 = .int .i64 j ∧ GS w0.heap.size b fm a x bs ft v cs (b :: x.2 :: ob v) True kj (exC ft s.a ++ RB.c ++ cd) W1 wr env mj ∧ ((csS ft (s.cases.drop j) env mj).e = RC.e ∧ (csS ft (s.cases.drop j) env mj).m = RC.m ∧ (RC.e = 0 → RC.c = cd ++ (csS ft (s.cases.drop j) env mj).c)) ∧ kj + qCs (s.cases.drop j) ≤ s.a.sz + qSs s.body + qCs s.cases ∧ 0 ≤ mj ∧ mj + qCs (s.cases.drop j) ≤ m + qSs s.body + qCs s.cases) (fun t32 _ => s.cases.length - (intOf t32).toNat)
      case atStart => exact ⟨0, s.a.sz + qSs s.body, [], RB.m, Nat.zero_le _, rfl, by simpa using HG2.out, ⟨by rw [← HRC.out]; rfl, by rw [← HRC.out]; rfl, fun _ => by rw [← HRC.out]; rfl⟩, by simp, by have := HBM.out; omega, by have := HBM.out; simp only [List.drop_zero]; omega⟩
      case round =>
        obtain ⟨j, kj, cd, mj, hj, rfl, q1, q2, q3, q4, q5⟩ := hrel
        have HX : Hid (GS w0.heap.size b fm a x bs ft v cs (b :: x.2 :: ob v) True kj (exC ft s.a ++ RB.c ++ cd) W1 wr env mj) := q1
        have HQ : Hid ((csS ft (s.cases.drop j) env mj).e = RC.e ∧ (csS ft (s.cases.drop j) env mj).m = RC.m ∧ (RC.e = 0 → RC.c = cd ++ (csS ft (s.cases.drop j) env mj).c)) := q2
        have HQ3 : Hid (kj + qCs (s.cases.drop j) ≤ s.a.sz + qSs s.body + qCs s.cases ∧ mj + qCs (s.cases.drop j) ≤ m + qSs s.body + qCs s.cases) := ⟨q3, q5⟩
        clear q1 q2 q3 q5 c13 HG2
        by_cases hlt : j < s.cases.length
        · obtain ⟨g, o, rfl, d0, d1⟩ := rowC_at (HIN.out.2.2.1.2.2.2.below (HON.out _ HX.out.sx)) hlt
          have hli : (j : Int) < (s.cases.length : Int) := by omega
          have hjc : s.cases.length ≤ s.cc := HIN.out.2.2.1.1
          have hjd := HIN.out.2.2.1.2.1
          have HYI : Hid (Have w0 s.cases[j].ba s.cases[j].bc s.cases[j].body) := (Ca.in_iff.1 (HIN.out.2.2.2 _ (List.getElem_mem hlt))).2
          have HCD : Hid (csS ft (s.cases.drop j) env mj = if (lsS ft s.cases[j].body ((lvZ env == 0, []) :: env) mj).e ≠ 0 then ⟨(lsS ft s.cases[j].body ((lvZ env == 0, []) :: env) mj).e, (lsS ft s.cases[j].body ((lvZ env == 0, []) :: env) mj).m, env, []⟩
            else ⟨(csS ft (s.cases.drop (j + 1)) env (lsS ft s.cases[j].body ((lvZ env == 0, []) :: env) mj).m).e, (csS ft (s.cases.drop (j + 1)) env (lsS ft s.cases[j].body ((lvZ env == 0, []) :: env) mj).m).m, env, (lsS ft s.cases[j].body ((lvZ env == 0, []) :: env) mj).c ++ (csS ft (s.cases.drop (j + 1)) env (lsS ft s.cases[j].body ((lvZ env == 0, []) :: env) mj).m).c⟩) := csS_drop hlt
          have HQD : Hid (qCs (s.cases.drop j) = 1 + qSs s.cases[j].body + qCs (s.cases.drop (j + 1)) ∧ 1 + qSs s.cases[j].body ≤ qCs s.cases) := ⟨qCs_drop hlt, qCs_mem (List.getElem_mem hlt)⟩
          have HLM := Hid.mk' (lsS_m ft s.cases[j].body ((lvZ env == 0, []) :: env) mj)
          generalize s.cases[j] = y at *
          obtain ⟨v1, cs1, i1, i2, i3, i4, i5⟩ := HX.out
          have hb2 := (Below.refl _ wr).alloc (Nat.le_refl _) (.cells #[.int .i64 y.n, .slice y.ba y.body.length y.bc] 115)
          have hN1 : ∀ g ∈ b :: x.2 :: ob v1, w0.heap.size ≤ g := fun q hq => by
            rcases List.mem_cons.1 hq with rfl | hq
            · exact i1.2.2.2.2.2.2 q (by simp)
            rcases List.mem_cons.1 hq with rfl | hq
            · exact i1.2.2.2.2.2.2 _ (by simp [chB])
            · exact (own_lt i1.2.2.2.1 q hq).1
          have hB2 : Below w0.heap.size w0 (wr.alloc (.cells #[.int .i64 y.n, .slice y.ba y.body.length y.bc] 115)) := (HON.out _ HX.out.sx).trans (hb2.mono (HON.out _ HX.out.sx).size)
          have hnL1 := ws_new i1
          have z1 : ∀ W, SX b a (b :: x.2 :: ob v1) (wr.alloc (.cells #[.int .i64 y.n, .slice y.ba y.body.length y.bc] 115)) W → W.cell? ⟨wr.heap.size, 1, none⟩ = some (.slice y.ba y.body.length y.bc) := fun W h => h.cell (by rw [World.cell?_alloc_at _ _ _ _ rfl]; rfl) hnL1
          have z0 : ∀ W, SX b a (b :: x.2 :: ob v1) (wr.alloc (.cells #[.int .i64 y.n, .slice y.ba y.body.length y.bc] 115)) W → W.cell? ⟨b, 0, none⟩ = some (.pointer a) := fun W h => h.2
          have g5 : GS w0.heap.size b fm a x bs ft v1 cs1 (b :: x.2 :: ob v1) True 0 [] (wr.alloc (.cells #[.int .i64 y.n, .slice y.ba y.body.length y.bc] 115)) (wr.alloc (.cells #[.int .i64 y.n, .slice y.ba y.body.length y.bc] 115)).drew env mj := (GS.start (i1.stay hb2) True).below (Below.drew (Below.refl _ _))
          have HW5 : Hid (∀ W, GS w0.heap.size b fm a x bs ft v1 cs1 (b :: x.2 :: ob v1) True 0 [] (wr.alloc (.cells #[.int .i64 y.n, .slice y.ba y.body.length y.bc] 115)) W env mj → Calls Tryz.prog 102 #[.pointer a] W fun e W' => ∃ a2 x2, e = .returned (.pointer a2) ∧ GB w0.heap.size b fm a x bs ft v1 cs1 (b :: x.2 :: ob v1) True 0 [] (wr.alloc (.cells #[.int .i64 y.n, .slice y.ba y.body.length y.bc] 115)) W' env mj a2 x2 (lvZ env == 0, [])) :=
            fun W h => (gs_within w0.heap.size b fm h hB2.size).mono fun e W' hh => ⟨_, _, hh⟩
          have HB5 := Hid.mk' (fun W a2 x2 => HRO.out (wr.alloc (.cells #[.int .i64 y.n, .slice y.ba y.body.length y.bc] 115)) W v1 cs1 a2 x2 mj y.body y.ba y.bc hB2 hN1 (by have := HSZ.out; have := HQ3.out; have := HQD.out; omega) HYI.out (by have := HSZ.out; have := HQD.out; omega) q4 (by have := HSZ.out; have := HQ3.out; have := HQD.out; omega))
          have HC5 : Hid (∀ W (ok : Prop) k1 (c1 : List Int) m3, GS w0.heap.size b fm a x bs ft v1 cs1 (b :: x.2 :: ob v1) ok k1 c1 (wr.alloc (.cells #[.int .i64 y.n, .slice y.ba y.body.length y.bc] 115)) W env m3 → GS w0.heap.size b fm a x bs ft v cs (b :: x.2 :: ob v) ok (kj + k1) (exC ft s.a ++ RB.c ++ cd ++ c1) W1 W env m3) := fun W ok k1 c1 m3 h => GS.comp (i2 trivial) i3 i4 i5 hb2 h
          clear i1 i2 i3 i4 i5 hN1 hB2 hnL1 hb2
          obtain ⟨RY, hRY⟩ : ∃ RY, lsS ft y.body ((lvZ env == 0, []) :: env) mj = RY := ⟨_, rfl⟩
          rw [hRY] at HCD HLM HB5
          clear hRY
          go_wp2_with fail
          generalize wr.alloc (.cells #[.int .i64 y.n, .slice y.ba y.body.length y.bc] 115) = W2 at *
          go_region_held (fun w' => SX b a (b :: x.2 :: ob v1) W2 w') (first | exact GS.sx (by assumption) | exact GB.sx (by assumption) | exact SX.below (by assumption) ((Below.refl _ _).alloc (Nat.le_refl _) _) | assumption)
            (first
              | (go_at_call 102; refine (HW5.out _ (by assumption)).mono ?_; rintro e w' ⟨a2, x2, rfl, hg⟩)
              | (go_at_call 101; refine (HB5.out _ _ _ (by assumption)).mono ?_; rintro e w' ⟨rfl, hg⟩))
          have hg6 := HC5.out _ _ _ _ _ hg
          clear hg g5 HB5 HW5 HC5 z0 z1 d0 d1
          cases hRy : (RY.e != 0)
          · have hRy0 : RY.e = 0 := by simpa using hRy
            have HG6 : Hid (GS w0.heap.size b fm a x bs ft v cs (b :: x.2 :: ob v) True (kj + (0 + qSs y.body)) (exC ft s.a ++ RB.c ++ (cd ++ RY.c)) W1 w' env RY.m) := hg6.wk (fun _ => ⟨trivial, hRy0⟩) (Nat.le_refl _) (by simp)
            have HV : Hid ((csS ft (s.cases.drop (j + 1)) env RY.m).e = RC.e ∧ (csS ft (s.cases.drop (j + 1)) env RY.m).m = RC.m ∧ (RC.e = 0 → RC.c = (cd ++ RY.c) ++ (csS ft (s.cases.drop (j + 1)) env RY.m).c)) := by
              have := HQ.out
              rw [HCD.out, if_neg (by simpa using hRy0)] at this
              exact ⟨this.1, this.2.1, fun e => by rw [this.2.2 e]; simp⟩
            clear hg6 hRy0
            go_wp2_with fail
            go_roundw
            case rel => exact ⟨j + 1, _, cd ++ RY.c, RY.m, by omega, by go_num, HG6.out, HV.out, by have := HQ3.out; have := HQD.out; omega, by have := HLM.out; omega, by have := HLM.out; have := HQ3.out; have := HQD.out; omega⟩
            case measure => simp [intOf]; omega
          · have hRyn : RY.e ≠ 0 := by simpa using hRy
            have HV : Hid (RY.e = RC.e ∧ RY.m = RC.m) := by
              have := HQ.out
              rw [HCD.out, if_pos hRyn] at this
              exact ⟨this.1, this.2.1⟩
            have HR5 : Hid (R = ⟨RY.e, RY.m, env, []⟩) := by
              show _ = _
              rw [HR2.out, if_pos (by rw [← HV.out.1]; exact hRyn), HV.out.1, HV.out.2]
            have HF := Hid.mk' (HLP.out w' _ _ _ _ ⟨RY.e, RY.m, env, []⟩ hg6 (fun e => absurd e hRyn) rfl rfl (by have := HSZ.out; have := HQ3.out; have := HQD.out; omega))
            clear hg6 hRyn
            go_wp2_with fail
            go_ret
            exact ⟨ret_int (by rw [HR5.out]), by rw [HR5.out]; exact HF.out⟩
        · have hli : ¬ (j : Int) < (s.cases.length : Int) := by omega
          have HE2 : Hid (RC.e = 0 ∧ RC.m = mj ∧ RC.c = cd) := by
            have := HQ.out
            rw [List.drop_eq_nil_of_le (by omega), csS] at this
            exact ⟨this.1.symm, this.2.1.symm, by simpa using this.2.2 this.1.symm⟩
          have HR3 : Hid (R = ⟨(lsS ft s.els ((lvZ env == 0, []) :: env) mj).e, (lsS ft s.els ((lvZ env == 0, []) :: env) mj).m, env, exC ft s.a ++ RB.c ++ cd ++ (lsS ft s.els ((lvZ env == 0, []) :: env) mj).c⟩) := by show _ = _; rw [HR2.out, if_neg (by simpa using HE2.out.1), HE2.out.2.1, HE2.out.2.2]
          have g3 : GS w0.heap.size b fm a x bs ft v cs (b :: x.2 :: ob v) True kj (exC ft s.a ++ RB.c ++ cd) W1 wr.drew env mj := HX.out.below (Below.drew (Below.refl _ _))
          have HB3 := Hid.mk' (fun W a2 x2 => HBO.out W a2 x2 kj (exC ft s.a ++ RB.c ++ cd) mj s.els s.ea s.ec HIN.out.2.1 (by have := HSZ.out; omega) (by have := HSZ.out; have := HQ3.out; omega) q4 (by have := HSZ.out; have := HQ3.out; omega))
          have HL3 : Hid (∀ W, GS w0.heap.size b fm a x bs ft v cs (b :: x.2 :: ob v) (True ∧ (lsS ft s.els ((lvZ env == 0, []) :: env) mj).e = 0) (kj + qSs s.els) (exC ft s.a ++ RB.c ++ cd ++ (lsS ft s.els ((lvZ env == 0, []) :: env) mj).c) W1 W env (lsS ft s.els ((lvZ env == 0, []) :: env) mj).m → LP w0.heap.size b fm a x bs ft v cs (qS s) w W R) :=
            fun W h => HLP.out W _ _ _ _ R h (by rw [HR3.out]; exact fun e => ⟨⟨trivial, e⟩, rfl⟩) (by rw [HR3.out]) (by rw [HR3.out]) (by have := HSZ.out; have := HQ3.out; omega)
          have HR4 : Hid (R.e = (lsS ft s.els ((lvZ env == 0, []) :: env) mj).e) := by show _ = _; rw [HR3.out]
          generalize lsS ft s.els ((lvZ env == 0, []) :: env) mj = RE at HB3 HL3 HR4
          go_wp2_with fail
          go_region_held (fun w' => SX b a (b :: x.2 :: ob v) W1 w') (first | exact GS.sx (by assumption) | exact GB.sx (by assumption) | exact SX.below (by assumption) ((Below.refl _ _).alloc (Nat.le_refl _) _) | assumption)
            (first
              | (go_at_call 102; refine (HWI.out _ _ _ _ (by assumption)).mono ?_; rintro e w' ⟨a2, x2, rfl, hg⟩)
              | (go_at_call 101; refine (HB3.out _ _ _ (by assumption)).mono ?_; rintro e w' ⟨rfl, hg⟩))
          go_wp2_with fail
          go_ret
          exact ⟨ret_int HR4.out.symm, HL3.out _ hg⟩
    · have hRn : RB.e ≠ 0 := by simpa using hRe
      have HR2 : Hid (R = ⟨RB.e, RB.m, env, []⟩) := by show _ = _; rw [HR1.out, if_pos hRn]
      have HF := Hid.mk' (HLP.out w' _ _ _ _ ⟨RB.e, RB.m, env, []⟩ hg2 (fun e => absurd e hRn) rfl rfl (by have := HSZ.out; omega))
      clear hg2 HR1
      go_wp2_with fail
      go_ret
      exact ⟨ret_int (by rw [HR2.out]), by rw [HR2.out]; exact HF.out⟩
  · have hzan : za ≠ 0 := by simpa using hza
    have HF := Hid.mk' (HLP.out w1 _ _ _ _ ⟨za, m, env, []⟩ hg1 (fun e => absurd e hzan) rfl rfl (by have := HSZ.out; omega))
    have HR1 : Hid (R = ⟨za, m, env, []⟩) := by show _ = _; rw [HRR.out, if_pos hzan]
    clear hg1 HRR
    go_wp2_with fail
    go_ret
    exact ⟨ret_int (by rw [HR1.out]), by rw [HR1.out]; exact HF.out⟩
end Go.Proofs.YtkkcgkpbbngloaaGreatDoor

/- The program's walker: a scope made inside a statement, and what is looked at then. -/
namespace Go.Proofs.YtkkcgkpbbngloaaGreatDoor
open Go.RowKit Go.Sort

theorem GB.below {N b fm : Nat} {a x bs ft v cs L ok k c w W W' env m a2 x2 f2} (h : GB N b fm a x bs ft v cs L ok k c w W env m a2 x2 f2) (hb : Below W.heap.size W W') : GB N b fm a x bs ft v cs L ok k c w W' env m a2 x2 f2 := by
  obtain ⟨v1, cs1, i1, i2, i3, i4, i5, i6, i7⟩ := h
  exact ⟨v1, cs1, i1.stay hb, i2, i3, i4.trans (Fr.of_below hb), i5, i6.stay hb, i7⟩
theorem gb_expr (w0 : World) (b fm : Nat) {a x bs ft v cs L ok k c w W env m a2 x2 f2} (h : GB w0.heap.size b fm a x bs ft v cs L ok k c w W env m a2 x2 f2) (y : Ex) (hin : y.In w0) (hB : Below w0.heap.size w0 w) (hL : ∀ g ∈ L, w0.heap.size ≤ g) (hs : ∀ g ∈ b :: ob v, g ∈ L) (hl : cs.length + k + y.sz ≤ 1000000) :
    Calls Tryz.prog 73 #[.pointer (some ⟨b, 0, none⟩), y.val] W fun e W' => e = .returned (.int .i64 (exZ env ft y)) ∧ GB w0.heap.size b fm a x bs ft v cs L (ok ∧ exZ env ft y = 0) (k + y.sz) (c ++ exC ft y) w W' env m a2 x2 f2 := by
  obtain ⟨v1, cs1, i1, i2, i3, i4, i5, i6, i7, i8, i9, i10⟩ := h
  have hBW : Below w0.heap.size w0 W := hB.trans (i4.below hL hB.size)
  refine (nexpr_k w0 b fm a (x :: bs) env ft y.sz y m v1 cs1 W (Nat.le_refl _) hin hBW i1 (by omega)).mono ?_
  rintro e W' ⟨rfl, v2, cs2, j1, j2, j3, j4, j5⟩
  refine ⟨rfl, v2, cs2, j1, fun ho => by rw [j2 ho.2, i2 ho.1, List.append_assoc], by omega, i4.trans' j4 fun q hq => ?_, fun g hg => ?_, i6.fr j4 fun q hq hy => ?_, i7, fun g hg hy => ?_, i9, i10⟩
  · rcases List.mem_cons.1 hq with rfl | hq
    · exact Or.inl (hs q (by simp))
    · rcases i5 q hq with h' | h'
      · exact Or.inl (hs q (by simp [h']))
      · exact Or.inr h'
  · rcases j5 g hg with h' | h'
    · exact i5 g h'
    · exact Or.inr (Nat.le_trans i4.size h')
  · rcases List.mem_cons.1 hy with rfl | hy
    · exact (List.nodup_cons.1 i7).1 (by simp [hq])
    · exact i8 q hy (by simp [hq])
  · rcases j5 g hg with h' | h'
    · exact i8 g h' hy
    · rcases List.mem_cons.1 hy with rfl | hy
      · have := i1.lt; omega
      rcases List.mem_cons.1 hy with rfl | hy
      · have := i1.2.2.1.lt; omega
      · have := i6.lt g hy; omega
theorem gb_declare (w0 : World) (b fm : Nat) {a x bs ft v cs L ok k c w W env m a2 x2 f2} (h : GB w0.heap.size b fm a x bs ft v cs L ok k c w W env m a2 x2 f2) (s : ByteArray) (hz : s.size ≤ 140737488351232) (kd : Int) (hkd : I64 kd) (hn : ∀ f ∈ f2 :: env, f.2.length < 1000000) :
    Calls Tryz.prog 27 #[.pointer a2, .string s, .int .i64 kd] W fun e W' => e = .returned (.int .i64 (dcZ (f2 :: env) s.data.toList)) ∧ ∃ f3, dcEnv (f2 :: env) s.data.toList kd = f3 :: env ∧ f3.2.length ≤ f2.2.length + 1 ∧ GB w0.heap.size b fm a x bs ft v cs L ok k c w W' env m a2 x2 f3 := by
  obtain ⟨v1, cs1, i1, i2, i3, i4, i5, i6, i7, i8, i9, i10⟩ := h
  have n2 := (List.nodup_cons.1 (List.nodup_cons.1 i7).2).2
  refine (declare_any s hz kd hkd a2 x2 (x :: bs) (f2 :: env) W i6 n2 hn).mono ?_
  rintro e W' ⟨rfl, j1, j2⟩
  obtain ⟨f3, _, e2, e3⟩ := dcEnv_tail f2 env s.data.toList kd
  rw [e3] at j1
  have e0 : chB (x2 :: x :: bs) = x2.1 :: x2.2 :: chB (x :: bs) := rfl
  have hnd := i7
  rw [e0] at hnd
  simp only [List.nodup_cons, List.mem_cons, not_or] at hnd
  refine ⟨rfl, f3, e3, e2, v1, cs1, i1.fr (Fr.of_only j2) (fun g hg hy => ?_) (fun g hg hy => ?_), i2, i3, i4.trans' (Fr.of_only j2) (fun q hq => ?_), i5, j1, i7, i8, i9, i10⟩
  · have : g = x2.2 := by simpa using hy
    subst this
    simp only [List.mem_cons] at hg
    rcases hg with hg | hg | hg
    · exact hnd.1.2.2.1 hg.symm
    · exact hnd.2.1.2.1 hg.symm
    · exact hnd.2.2.2.1 hg
  · have : g = x2.2 := by simpa using hy
    subst this
    exact i8 _ hg (by simp [chB])
  · have : q = x2.2 := by simpa using hq
    subst this; exact Or.inr i10.2
theorem gb_in {N b fm : Nat} {a x bs ft v cs L ok k c w W env m a2 x2 f2} (h : GB N b fm a x bs ft v cs L ok k c w W env m a2 x2 f2) : GB N b fm a x bs ft v cs L ok k c w (W.setCell ⟨x2.1, 2, none⟩ (.bool true)) env m a2 x2 (true, f2.2) := by
  obtain ⟨v1, cs1, i1, i2, i3, i4, i5, i6, i7, i8, i9, i10⟩ := h
  have hset : Fr [x2.1] W (W.setCell ⟨x2.1, 2, none⟩ (.bool true)) := (Fr.refl _ W).set (by simp) _ _
  have e0 : chB (x2 :: x :: bs) = x2.1 :: x2.2 :: chB (x :: bs) := rfl
  have hnd := i7
  rw [e0] at hnd
  simp only [List.nodup_cons, List.mem_cons, not_or] at hnd
  refine ⟨v1, cs1, i1.fr hset (fun g hg hy => ?_) (fun g hg hy => ?_), i2, i3, i4.trans' hset (fun q hq => ?_), i5, ?_, i7, i8, i9, i10⟩
  · have : g = x2.1 := by simpa using hy
    subst this
    simp only [List.mem_cons] at hg
    rcases hg with hg | hg | hg
    · exact hnd.1.2.1 hg.symm
    · exact hnd.2.1.1 hg.symm
    · exact hnd.2.2.1.2 hg
  · have : g = x2.1 := by simpa using hy
    subst this
    exact i8 _ hg (by simp [chB])
  · have : q = x2.1 := by simpa using hq
    subst this; exact Or.inr i10.1
  · obtain ⟨h1, ⟨a1, h2, h3⟩, h4⟩ := i6
    refine ⟨h1, ⟨a1, by simp [World.setCell, Array.getElem?_modify, h2], h3.fr hset (fun q hq hy => ?_)⟩, h4.fr hset (fun hy => ?_)⟩
    · have : q = x2.1 := by simpa using hy
      subst this; exact hnd.2.2.1.2 hq
    · have : x2.2 = x2.1 := by simpa using hy
      exact hnd.2.2.1.1 this.symm
end Go.Proofs.YtkkcgkpbbngloaaGreatDoor
