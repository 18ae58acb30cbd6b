/- A table of names and numbers, as a map holds it. -/
import Derived.Test.YtakaldbhaoidiaaDoorPart2
import Derived.Maps.OwnSet
import Derived.Maps.Views
import Derived.Deep.LoopGhost
import Derived.Maps.AppendAt
import Derived.Lib.SmallJoins
import Derived.Lib.QuietBelow
import Derived.Deep.CutBlock
import Derived.Deep.RegionHeld
namespace Go.Proofs.YtakaldbhaoidiaaDoor
open Go.RowKit Go.Sort

/-- The number of a name, the latest one; 0 where there is none. -/
def tabAt (l : List (List UInt8 × Int)) (s : List UInt8) : Int := match l.find? (fun p => p.1 == s) with | some p => p.2 | none => 0
def tabHas (l : List (List UInt8 × Int)) (s : List UInt8) : Bool := l.any fun p => p.1 == s
theorem tabAt_cons (l : List (List UInt8 × Int)) (k : List UInt8) (v : Int) (s : List UInt8) : tabAt ((k, v) :: l) s = if k = s then v else tabAt l s := by
  unfold tabAt
  rw [List.find?_cons]
  by_cases h : k = s
  · subst h; simp
  · rw [if_neg h]
    have : (k == s) = false := by simpa using h
    simp only [this]
theorem tabHas_cons (l : List (List UInt8 × Int)) (k : List UInt8) (v : Int) (s : List UInt8) : tabHas ((k, v) :: l) s = if k = s then true else tabHas l s := by
  unfold tabHas
  rw [List.any_cons]
  by_cases h : k = s
  · subst h; simp
  · rw [if_neg h]
    have : (k == s) = false := by simpa using h
    simp only [this, Bool.false_or]

theorem zero_int (w : World) : (zeroValue 3).run Tryd.prog w = .ok (.int .i64 0) w := by kernel_rfl
theorem keyedS : Maps.Keyed Tryd.prog 9 := Maps.string_keyed Tryd.underlying9
/-- Block b is a map that holds the table l. -/
def Tab (W : World) (b : Nat) (l : List (List UInt8 × Int)) : Prop :=
  ∃ D : DataW Unit, W.ownsMap Tryd.prog 9 (plainElem Tryd.prog 3) b l.length D ∧ ∀ s : List UInt8, Maps.has D (.string s) = tabHas l s ∧ D.atKey (.string s) (.lit (.int .i64 0)) = .lit (.int .i64 (tabAt l s))
theorem tab_made (w : World) : Tab (w.alloc (.map #[] 0)) w.heap.size [] := ⟨.map [], World.ownsMap_made w _ _ _, fun _ => ⟨rfl, rfl⟩⟩
theorem Tab.lt {W : World} {b : Nat} {l : List (List UInt8 × Int)} (h : Tab W b l) : b < W.heap.size := by
  obtain ⟨D, h, _⟩ := h; exact h.lt
theorem Tab.keep {W W' : World} {b : Nat} {l : List (List UInt8 × Int)} (h : Tab W b l) (he : W'.heap[b]? = W.heap[b]?) : Tab W' b l := by
  obtain ⟨D, ⟨es, clock, hb, hr⟩, h2⟩ := h
  exact ⟨D, ⟨es, clock, he.trans hb, hr⟩, h2⟩
theorem Tab.stay {W W' : World} {b : Nat} {l : List (List UInt8 × Int)} (h : Tab W b l) (hb : Below W.heap.size W W') : Tab W' b l := h.keep (hb.block b h.lt)
theorem Tab.only {W W' : World} {b m : Nat} {l : List (List UInt8 × Int)} (h : Tab W b l) (ho : OnlyB m W W') (hm : b ≠ m) : Tab W' b l := h.keep (ho.2.2.2.2 b h.lt hm)
/-- What 'v, ok := m[s]' answers. -/
theorem Tab.look {W : World} {b : Nat} {l : List (List UInt8 × Int)} (h : Tab W b l) (s : ByteArray) (hs : s.size ≤ maxLen) :
    (Instr.lookup 64 (.map (some b)) (.string s) true).run Tryd.prog W = .ok (.tuple #[.int .i64 (tabAt l s.data.toList), .bool (tabHas l s.data.toList)]) W := by
  obtain ⟨D, h, h2⟩ := h
  obtain ⟨v, ps, hr, hv⟩ := h.look_ok keyedS Tryd.underlying64 (z := .int .i64 0) (zero_int W) (zd := .lit (.int .i64 0)) (zp := []) (plainElem_int Tryd.underlying3 (by decide)) (key := .string s) (WideMaps.keyOf_string_mk Tryd.underlying9 hs)
  obtain ⟨c, rfl, hc, _⟩ := plainElem_int_inv Tryd.underlying3 hv
  obtain ⟨e1, e2⟩ := h2 s.data.toList
  have hc' := congrArg Prod.fst hc
  simp only at hc'
  rw [e2] at hc'
  cases hc'
  rw [hr, e1]
/-- What 'm[s] = v' does. -/
theorem Tab.put {W : World} {b : Nat} {l : List (List UInt8 × Int)} (h : Tab W b l) (s : ByteArray) (hs : s.size ≤ maxLen) (v : Int) (hv : I64 v) (hn : l.length < 1000000) :
    ∃ W', (Instr.mapUpdate 64 (.map (some b)) (.string s) (.int .i64 v)).run Tryd.prog W = .ok () W' ∧ Tab W' b ((s.data.toList, v) :: l) ∧ OnlyB b W W' := by
  obtain ⟨D, h, h2⟩ := h
  have hm := h.isMap
  obtain ⟨W', hr, ho, hg⟩ := h.update keyedS Tryd.underlying64 (by unfold maxLen; omega) (key := .string s) (val := .int .i64 v) (WideMaps.keyOf_string_mk Tryd.underlying9 hs) (plainElem_int Tryd.underlying3 (by simp [Lit.wf]; exact hv))
  refine ⟨W', hr, ⟨_, ho, fun k => ?_⟩, hg.1, hg.2, hg.3, hg.4, fun i h1 h2 => hg.5 i h1 (by simpa using h2)⟩
  by_cases e : s.data.toList = k
  · subst e
    rw [tabHas_cons, tabAt_cons, if_pos rfl, if_pos rfl]
    exact ⟨Maps.has_put_same hm (by trivial) _, Maps.atKey_put_same hm (by trivial) _ _⟩
  · rw [tabHas_cons, tabAt_cons, if_neg e, if_neg e]
    have hne : (Lit.string k) ≠ Lit.string s.data.toList := fun h => by cases h; exact e rfl
    rw [Maps.has_put_other hne, Maps.atKey_put_other hne]
    exact h2 k
end Go.Proofs.YtakaldbhaoidiaaDoor

/- The program's scopes: what is known, from the inside out. -/
namespace Go.Proofs.YtakaldbhaoidiaaDoor
open Go.RowKit Go.Sort

abbrev Env := List (Bool × List (List UInt8 × Int))
/-- The kind of a name; 0: it is not known. -/
def envAt : Env → List UInt8 → Int
  | [], _ => 0
  | f :: r, s => if tabHas f.2 s = true then tabAt f.2 s else envAt r s
/-- Scopes in memory: their blocks and their maps' blocks, from the inside out. -/
def Chain (W : World) : Option Addr → List (Nat × Nat) → Env → Prop
  | a, [], [] => a = none
  | a, x :: bs, f :: env => a = some ⟨x.1, 0, none⟩ ∧ (∃ a', W.heap[x.1]? = some (.cells #[.pointer a', .map (some x.2), .bool f.1] 80 (0, 0)) ∧ Chain W a' bs env) ∧ Tab W x.2 f.2
  | _, _, _ => False
def chB : List (Nat × Nat) → List Nat
  | [] => []
  | x :: bs => x.1 :: x.2 :: chB bs
theorem Chain.keep {W W' : World} : ∀ {a : Option Addr} {bs : List (Nat × Nat)} {env : Env}, Chain W a bs env → (∀ b ∈ chB bs, W'.heap[b]? = W.heap[b]?) → Chain W' a bs env
  | _, [], [], h, _ => h
  | _, x :: bs, f :: env, ⟨h1, ⟨a', h2, h3⟩, h4⟩, hk => ⟨h1, ⟨a', (hk x.1 (by simp [chB])).trans h2, h3.keep fun b hb => hk b (by simp [chB, hb])⟩, h4.keep (hk x.2 (by simp [chB]))⟩
  | _, [], _ :: _, h, _ => h.elim
  | _, _ :: _, [], h, _ => h.elim
theorem Chain.lt {W : World} : ∀ {a : Option Addr} {bs : List (Nat × Nat)} {env : Env}, Chain W a bs env → ∀ b ∈ chB bs, b < W.heap.size
  | _, [], [], _, b, hb => by simp [chB] at hb
  | _, x :: bs, f :: env, ⟨_, ⟨a', h2, h3⟩, h4⟩, b, hb => by
    simp only [chB, List.mem_cons] at hb
    rcases hb with rfl | rfl | hb
    · exact (Array.getElem?_eq_some_iff.1 h2).1
    · exact h4.lt
    · exact h3.lt b hb
  | _, [], _ :: _, h, _, _ => h.elim
  | _, _ :: _, [], h, _, _ => h.elim
theorem Chain.stay {W W' : World} {a : Option Addr} {bs : List (Nat × Nat)} {env : Env} (h : Chain W a bs env) (hb : Below W.heap.size W W') : Chain W' a bs env := h.keep fun b hx => hb.block b (h.lt b hx)
theorem Chain.only {W W' : World} {a : Option Addr} {bs : List (Nat × Nat)} {env : Env} {m : Nat} (h : Chain W a bs env) (ho : OnlyB m W W') (hm : m ∉ chB bs) : Chain W' a bs env := h.keep fun b hx => ho.2.2.2.2 b (h.lt b hx) (fun e => hm (e ▸ hx))

set_option maxRecDepth 100000 in
set_option maxHeartbeats 1000000 in
theorem kind_any (s : ByteArray) (hs : s.size ≤ 140737488351232) (a : Option Addr) (bs : List (Nat × Nat)) (env : Env) (w : World) (hc : Chain w a bs env) :
    Calls Tryd.prog 45 #[.pointer a, .string s] w fun e w' => e = .returned (.int .i64 (envAt env s.data.toList)) ∧ w' = w := by
  have hs' : s.size ≤ maxLen := by unfold maxLen; omega
  have HLK : Hid (∀ b l, Tab w b l → (Instr.lookup 64 (.map (some b)) (.string s) true).run Tryd.prog w = .ok (.tuple #[.int .i64 (tabAt l s.data.toList), .bool (tabHas l s.data.toList)]) w) := fun b l h => h.look s hs'
  have HC : Hid (Chain w a bs env) := hc
  clear hs hs' hc
  go_enter Tryd.func45, Tryd.ntmps45
  go_wp2_with fail
  go_loopg [0] env.length (fun g t0 wx => ∃ a' bs' env', env'.length = g ∧ t0 = .pointer a' ∧ Aside (Chain w a' bs' env') ∧ Aside (envAt env' s.data.toList = envAt env s.data.toList) ∧ wx = w)
  case atStart => exact ⟨a, bs, env, rfl, rfl, HC.out, rfl, rfl⟩
  case round =>
    obtain ⟨a', bs', env', hg, rfl, HCH, HEV, hwx⟩ := hrel
    obtain rfl := hwx.symm
    match bs', env', HCH, HEV, hg with
    | [], [], HCH, HEV, hg =>
      obtain rfl : a' = none := HCH.out
      have HF : Hid (envAt env s.data.toList = 0) := HEV.out.symm
      go_wp2_with fail
      go_ret
      exact ⟨ret_int HF.out.symm, rfl⟩
    | x :: bs1, f :: env1, HCH, HEV, hg =>
      obtain ⟨rfl, ⟨a1, h2, h3⟩, h4⟩ := HCH.out
      have HC1 : Hid (Chain w a1 bs1 env1) := h3
      have hl := HLK.out x.2 f.2 h4
      have k0 : w.cell? ⟨x.1, 0, none⟩ = some (.pointer a1) := by rw [Lib.cell_of_heap h2]; rfl
      have k1 : w.cell? ⟨x.1, 1, none⟩ = some (.map (some x.2)) := by rw [Lib.cell_of_heap h2]; rfl
      have HE : Hid (envAt env s.data.toList = if tabHas f.2 s.data.toList = true then tabAt f.2 s.data.toList else envAt env1 s.data.toList) := HEV.out.symm
      clear h2 h3 h4 HCH HEV
      generalize x.1 = xb at *
      generalize x.2 = xm at *
      generalize tabAt f.2 s.data.toList = tv at *
      cases hh : tabHas f.2 s.data.toList
      · rw [hh] at hl
        have HN : Hid (envAt env1 s.data.toList = envAt env s.data.toList) := by show _ = _; rw [HE.out, hh]; rfl
        obtain ⟨g1, rfl⟩ : ∃ g1, gk = g1 + 1 := ⟨env1.length, by simpa using hg.symm⟩
        have hg1 : env1.length = g1 := by simpa using hg
        clear hg
        go_wp2_with fail
        go_roundg g1
        case rel => exact ⟨a1, bs1, env1, hg1, rfl, HC1.out, HN.out, rfl⟩
        case measure => omega
      · rw [hh] at hl
        have HF : Hid (envAt env s.data.toList = tv) := by show _ = _; rw [HE.out, hh]; rfl
        clear hg
        go_wp2_with fail
        go_ret
        exact ⟨ret_int HF.out.symm, rfl⟩
    | [], _ :: _, HCH, HEV, hg => exact HCH.out.elim
    | _ :: _, [], HCH, HEV, hg => exact HCH.out.elim
end Go.Proofs.YtakaldbhaoidiaaDoor

/- The program's scopes: what is declared, read, written, and left. -/
namespace Go.Proofs.YtakaldbhaoidiaaDoor
open Go.RowKit Go.Sort

def rdZ (k : Int) : Int := if k = 0 then 8 else if k = 2 then 30 else 0
def wrZ (k : Int) : Int := if k = 3 then 31 else rdZ k
def ixZ (k : Int) : Int := if k = 0 then 8 else if k = 2 then 0 else 30
def lvZ : Env → Int
  | [] => 32
  | f :: _ => if f.1 = true then 0 else 32
/-- One more name, in the innermost scope. -/
def envPut : Env → List UInt8 → Int → Env
  | [], _, _ => []
  | f :: r, s, k => (f.1, (s, k) :: f.2) :: r
def dcZ (env : Env) (s : List UInt8) : Int := if envAt env s ≠ 0 then 9 else 0
def dcEnv (env : Env) (s : List UInt8) (k : Int) : Env := if envAt env s ≠ 0 then env else envPut env s k

set_option maxHeartbeats 1000000 in
theorem read_any (s : ByteArray) (hs : s.size ≤ 140737488351232) (a : Option Addr) (bs : List (Nat × Nat)) (env : Env) (w : World) (hc : Chain w a bs env) :
    Calls Tryd.prog 77 #[.pointer a, .string s] w fun e w' => e = .returned (.int .i64 (rdZ (envAt env s.data.toList))) ∧ w' = w := by
  have HK : Hid (Calls Tryd.prog 45 #[.pointer a, .string s] w fun e w' => e = .returned (.int .i64 (envAt env s.data.toList)) ∧ w' = w) := kind_any s hs a bs env w hc
  clear hs hc
  generalize envAt env s.data.toList = k at *
  cases e0 : (k == 0)
  · cases e2 : (k == 2)
    · have HV : Hid (rdZ k = 0) := by show _ = _; unfold rdZ; rw [if_neg (by simpa using e0), if_neg (by simpa using e2)]
      go_enter Tryd.func77, Tryd.ntmps77
      go_wp2_with fail
      refine HK.out.mono ?_
      rintro e w' ⟨rfl, rfl⟩
      go_wp2_with fail
      go_ret
      exact ⟨ret_int HV.out.symm, rfl⟩
    · have HV : Hid (rdZ k = 30) := by show _ = _; unfold rdZ; rw [if_neg (by simpa using e0), if_pos (by simpa using e2)]
      go_enter Tryd.func77, Tryd.ntmps77
      go_wp2_with fail
      refine HK.out.mono ?_
      rintro e w' ⟨rfl, rfl⟩
      go_wp2_with fail
      go_ret
      exact ⟨ret_int HV.out.symm, rfl⟩
  · have HV : Hid (rdZ k = 8) := by show _ = _; unfold rdZ; rw [if_pos (by simpa using e0)]
    go_enter Tryd.func77, Tryd.ntmps77
    go_wp2_with fail
    refine HK.out.mono ?_
    rintro e w' ⟨rfl, rfl⟩
    go_wp2_with fail
    go_ret
    exact ⟨ret_int HV.out.symm, rfl⟩
set_option maxHeartbeats 1000000 in
theorem index_any' (s : ByteArray) (hs : s.size ≤ 140737488351232) (a : Option Addr) (bs : List (Nat × Nat)) (env : Env) (w : World) (hc : Chain w a bs env) :
    Calls Tryd.prog 65 #[.pointer a, .string s] w fun e w' => e = .returned (.int .i64 (ixZ (envAt env s.data.toList))) ∧ w' = w := by
  have HK : Hid (Calls Tryd.prog 45 #[.pointer a, .string s] w fun e w' => e = .returned (.int .i64 (envAt env s.data.toList)) ∧ w' = w) := kind_any s hs a bs env w hc
  clear hs hc
  generalize envAt env s.data.toList = k at *
  cases e0 : (k == 0)
  · cases e2 : (k == 2)
    · have HV : Hid (ixZ k = 30) := by show _ = _; unfold ixZ; rw [if_neg (by simpa using e0), if_neg (by simpa using e2)]
      go_enter Tryd.func65, Tryd.ntmps65
      go_wp2_with fail
      refine HK.out.mono ?_
      rintro e w' ⟨rfl, rfl⟩
      go_wp2_with fail
      go_ret
      exact ⟨ret_int HV.out.symm, rfl⟩
    · have HV : Hid (ixZ k = 0) := by show _ = _; unfold ixZ; rw [if_neg (by simpa using e0), if_pos (by simpa using e2)]
      go_enter Tryd.func65, Tryd.ntmps65
      go_wp2_with fail
      refine HK.out.mono ?_
      rintro e w' ⟨rfl, rfl⟩
      go_wp2_with fail
      go_ret
      exact ⟨ret_int HV.out.symm, rfl⟩
  · have HV : Hid (ixZ k = 8) := by show _ = _; unfold ixZ; rw [if_pos (by simpa using e0)]
    go_enter Tryd.func65, Tryd.ntmps65
    go_wp2_with fail
    refine HK.out.mono ?_
    rintro e w' ⟨rfl, rfl⟩
    go_wp2_with fail
    go_ret
    exact ⟨ret_int HV.out.symm, rfl⟩
set_option maxHeartbeats 1000000 in
theorem write_scope (s : ByteArray) (hs : s.size ≤ 140737488351232) (a : Option Addr) (bs : List (Nat × Nat)) (env : Env) (w : World) (hc : Chain w a bs env) :
    Calls Tryd.prog 64 #[.pointer a, .string s] w fun e w' => e = .returned (.int .i64 (wrZ (envAt env s.data.toList))) ∧ w' = w := by
  have HK : Hid (Calls Tryd.prog 45 #[.pointer a, .string s] w fun e w' => e = .returned (.int .i64 (envAt env s.data.toList)) ∧ w' = w) := kind_any s hs a bs env w hc
  have HR : Hid (Calls Tryd.prog 77 #[.pointer a, .string s] w fun e w' => e = .returned (.int .i64 (rdZ (envAt env s.data.toList))) ∧ w' = w) := read_any s hs a bs env w hc
  clear hs hc
  generalize envAt env s.data.toList = k at *
  cases e3 : (k == 3)
  · have HV : Hid (wrZ k = rdZ k) := by show _ = _; unfold wrZ; rw [if_neg (by simpa using e3)]
    generalize rdZ k = r at *
    go_enter Tryd.func64, Tryd.ntmps64
    go_wp2_with fail
    refine HK.out.mono ?_
    rintro e w' ⟨rfl, hw⟩
    obtain rfl := hw.symm
    go_wp2_with fail
    refine HR.out.mono ?_
    rintro e w' ⟨rfl, hw⟩
    obtain rfl := hw.symm
    go_wp2_with fail
    go_ret
    exact ⟨ret_int HV.out.symm, rfl⟩
  · have HV : Hid (wrZ k = 31) := by show _ = _; unfold wrZ; rw [if_pos (by simpa using e3)]
    go_enter Tryd.func64, Tryd.ntmps64
    go_wp2_with fail
    refine HK.out.mono ?_
    rintro e w' ⟨rfl, rfl⟩
    go_wp2_with fail
    go_ret
    exact ⟨ret_int HV.out.symm, rfl⟩
set_option maxHeartbeats 1000000 in
theorem leave_any (a : Option Addr) (bs : List (Nat × Nat)) (env : Env) (w : World) (hc : Chain w a bs env) (hne : env ≠ []) :
    Calls Tryd.prog 68 #[.pointer a] w fun e w' => e = .returned (.int .i64 (lvZ env)) ∧ w' = w := by
  match bs, env, hc, hne with
  | [], [], _, h => exact absurd rfl h
  | x :: bs, f :: env, hc, _ =>
    obtain ⟨rfl, ⟨a1, h2, h3⟩, h4⟩ := hc
    have k2 : w.cell? ⟨x.1, 2, none⟩ = some (.bool f.1) := by rw [Lib.cell_of_heap h2]; rfl
    have HV : Hid (lvZ (f :: env) = if f.1 = true then 0 else 32) := (rfl : lvZ (f :: env) = _)
    generalize lvZ (f :: env) = v at *
    clear h2 h3 h4
    generalize x.1 = xb at *
    cases hf : f.1
    · rw [hf] at k2 HV
      go_enter Tryd.func68, Tryd.ntmps68
      go_wp2_with fail
      go_ret
      exact ⟨ret_int (by rw [HV.out]; rfl), rfl⟩
    · rw [hf] at k2 HV
      go_enter Tryd.func68, Tryd.ntmps68
      go_wp2_with fail
      go_ret
      exact ⟨ret_int (by rw [HV.out]; rfl), rfl⟩
  | [], _ :: _, h, _ => exact h.elim
  | _ :: _, [], h, _ => exact h.elim
set_option maxHeartbeats 1000000 in
theorem declare_any (s : ByteArray) (hs : s.size ≤ 140737488351232) (k : Int) (hk : I64 k) (a : Option Addr) (x : Nat × Nat) (bs : List (Nat × Nat)) (env : Env) (w : World) (hc : Chain w a (x :: bs) env) (hnd : (chB (x :: bs)).Nodup) (hn : ∀ f ∈ env, f.2.length < 1000000) :
    Calls Tryd.prog 27 #[.pointer a, .string s, .int .i64 k] w fun e w' => e = .returned (.int .i64 (dcZ env s.data.toList)) ∧ Chain w' a (x :: bs) (dcEnv env s.data.toList k) ∧ OnlyB x.2 w w' := by
  have HK : Hid (Calls Tryd.prog 45 #[.pointer a, .string s] w fun e w' => e = .returned (.int .i64 (envAt env s.data.toList)) ∧ w' = w) := kind_any s hs a _ env w hc
  by_cases hv : envAt env s.data.toList = 0
  · have HZ : Hid (dcZ env s.data.toList = 0 ∧ dcEnv env s.data.toList k = envPut env s.data.toList k) := by
      unfold dcZ dcEnv; rw [if_neg (by simpa using hv), if_neg (by simpa using hv)]; exact ⟨rfl, rfl⟩
    match env, hc, hn, HZ, HK, hv with
    | f :: env, hc, hn, HZ, HK, hv =>
      obtain ⟨rfl, ⟨a1, h2, h3⟩, h4⟩ := hc
      obtain ⟨W', hr, ht, ho⟩ := h4.put s (by unfold maxLen; omega) k hk (hn f (by simp))
      have k1 : w.cell? ⟨x.1, 1, none⟩ = some (.map (some x.2)) := by rw [Lib.cell_of_heap h2]; rfl
      simp only [chB, List.nodup_cons, List.mem_cons, not_or] at hnd
      have HP : Hid (Chain W' (some ⟨x.1, 0, none⟩) (x :: bs) (envPut (f :: env) s.data.toList k) ∧ OnlyB x.2 w W') := ⟨⟨rfl, ⟨a1, (ho.2.2.2.2 x.1 (Array.getElem?_eq_some_iff.1 h2).1 hnd.1.1).trans h2, h3.only ho hnd.2.1⟩, ht⟩, ho⟩
      rw [hv] at HK
      clear h2 h3 h4 ht ho hn hnd hs hk hv
      generalize x.1 = xb at *
      generalize x.2 = xm at *
      go_enter Tryd.func27, Tryd.ntmps27
      go_wp2_with fail
      refine HK.out.mono ?_
      rintro e w' ⟨rfl, hw⟩
      obtain rfl := hw.symm
      go_wp2_with fail
      go_ret
      exact ⟨ret_int HZ.out.1.symm, by rw [HZ.out.2]; exact HP.out.1, HP.out.2⟩
    | [], h, _, _, _, _ => exact h.elim
  · have HZ : Hid (dcZ env s.data.toList = 9 ∧ dcEnv env s.data.toList k = env) := by
      unfold dcZ dcEnv; rw [if_pos hv, if_pos hv]; exact ⟨rfl, rfl⟩
    have HC : Hid (Chain w a (x :: bs) env) := hc
    have hne : (envAt env s.data.toList != 0) = true := by simpa using hv
    clear hc hv hs hk hn hnd
    generalize envAt env s.data.toList = v at *
    go_enter Tryd.func27, Tryd.ntmps27
    go_wp2_with fail
    refine HK.out.mono ?_
    rintro e w' ⟨rfl, hw⟩
    obtain rfl := hw.symm
    go_wp2_with fail
    go_ret
    exact ⟨ret_int HZ.out.1.symm, by rw [HZ.out.2]; exact HC.out, OnlyB.refl _ _⟩
end Go.Proofs.YtakaldbhaoidiaaDoor

/- The program's walker: its block, its scopes, the functions ahead, and those called so far. -/
namespace Go.Proofs.YtakaldbhaoidiaaDoor
open Go.RowKit Go.Sort

/-- All but some blocks lie as they did. -/
def Fr (S : List Nat) (W W' : World) : Prop := W'.os = W.os ∧ W'.tape = W.tape ∧ W'.output = W.output ∧ W.heap.size ≤ W'.heap.size ∧ ∀ k, k < W.heap.size → k ∉ S → W'.heap[k]? = W.heap[k]?
theorem Fr.refl (S : List Nat) (W : World) : Fr S W W := ⟨rfl, rfl, rfl, Nat.le_refl _, fun _ _ _ => rfl⟩
theorem Fr.size {S : List Nat} {A B : World} (h : Fr S A B) : A.heap.size ≤ B.heap.size := h.2.2.2.1
theorem Fr.trans' {S S' : List Nat} {A B C : World} (h : Fr S A B) (k : Fr S' B C) (hs : ∀ x ∈ S', x ∈ S ∨ A.heap.size ≤ x) : Fr S A C :=
  ⟨k.1.trans h.1, k.2.1.trans h.2.1, k.2.2.1.trans h.2.2.1, Nat.le_trans h.2.2.2.1 k.2.2.2.1, fun i h1 h2 => (k.2.2.2.2 i (Nat.lt_of_lt_of_le h1 h.2.2.2.1) (fun hx => by rcases hs i hx with h' | h'; exact h2 h'; omega)).trans (h.2.2.2.2 i h1 h2)⟩
theorem Fr.trans {S : List Nat} {A B C : World} (h : Fr S A B) (k : Fr S B C) : Fr S A C := h.trans' k fun _ hx => .inl hx
theorem Fr.mono {S S' : List Nat} {A B : World} (h : Fr S A B) (hs : ∀ k ∈ S, k ∈ S') : Fr S' A B := ⟨h.1, h.2.1, h.2.2.1, h.2.2.2.1, fun i h1 h2 => h.2.2.2.2 i h1 (fun e => h2 (hs i e))⟩
theorem Fr.of_below {S : List Nat} {A B : World} (h : Below A.heap.size A B) : Fr S A B := ⟨h.os, h.tape, h.output, h.size, fun i h1 _ => h.block i h1⟩
theorem Fr.of_only {b : Nat} {A B : World} (h : OnlyB b A B) : Fr [b] A B := ⟨h.1, h.2.1, h.2.2.1, h.2.2.2.1, fun i h1 h2 => h.2.2.2.2 i h1 (fun e => h2 (by simp [e]))⟩
theorem Fr.of_grown {r : Option Nat} {A B : World} (h : A.grownBy B r) : Fr r.toList A B := ⟨h.1, h.2, h.3, h.4, fun i h1 h2 => h.5 i h1 (fun e => h2 (by rw [← e]; simp))⟩
theorem Fr.below {S : List Nat} {A B : World} {N : Nat} (h : Fr S A B) (hs : ∀ k ∈ S, N ≤ k) (hN : N ≤ A.heap.size) : Below N A B := ⟨h.1, h.2.1, h.2.2.1, h.2.2.2.1, fun k hk => h.2.2.2.2 k (by omega) (fun e => by have := hs k e; omega)⟩
theorem Fr.set {S : List Nat} {A B : World} (h : Fr S A B) {g : Nat} (hg : g ∈ S) (i : Nat) (v : Value) : Fr S A (B.setCell ⟨g, i, none⟩ v) := h.trans ⟨rfl, rfl, rfl, by simp [World.setCell], fun k _ h2 => Below.heap_setCell _ _ _ _ (fun e => h2 (e ▸ hg))⟩
theorem Fr.alloc {S : List Nat} {A B : World} (h : Fr S A B) (o : Obj) : Fr S A (B.alloc o) := h.trans (Fr.of_below ((Below.refl _ B).alloc (Nat.le_refl _) o))
theorem Fr.cell {S : List Nat} {A B : World} (h : Fr S A B) {k i : Nat} (hk : k < A.heap.size) (hb : k ∉ S) : B.cell? ⟨k, i, none⟩ = A.cell? ⟨k, i, none⟩ := by
  have := h.2.2.2.2 k hk hb
  simp only [World.cell?, this]
theorem Tab.fr {W W' : World} {b : Nat} {l : List (List UInt8 × Int)} {S : List Nat} (h : Tab W b l) (ho : Fr S W W') (hm : b ∉ S) : Tab W' b l := h.keep (ho.2.2.2.2 b h.lt hm)
theorem Chain.fr {W W' : World} {a : Option Addr} {bs : List (Nat × Nat)} {env : Env} {S : List Nat} (h : Chain W a bs env) (ho : Fr S W W') (hm : ∀ b ∈ chB bs, b ∉ S) : Chain W' a bs env := h.keep fun b hx => ho.2.2.2.2 b (h.lt b hx) (hm b hx)

set_option maxHeartbeats 1000000 in
theorem within_any (a : Option Addr) (bs : List (Nat × Nat)) (env : Env) (w : World) (hc : Chain w a bs env) (hne : env ≠ []) :
    Calls Tryd.prog 79 #[.pointer a] w fun e w' => e = .returned (.pointer (some ⟨w.heap.size + 1, 0, none⟩)) ∧ Chain w' (some ⟨w.heap.size + 1, 0, none⟩) ((w.heap.size + 1, w.heap.size) :: bs) ((lvZ env == 0, []) :: env) ∧ Below w.heap.size w w' ∧ w.heap.size + 2 ≤ w'.heap.size := by
  match bs, env, hc, hne with
  | [], [], _, h => exact absurd rfl h
  | x :: bs, f :: env, hc, _ =>
    have HC := hc
    obtain ⟨rfl, ⟨a1, h2, h3⟩, h4⟩ := hc
    have k2 : w.cell? ⟨x.1, 2, none⟩ = some (.bool f.1) := by rw [Lib.cell_of_heap h2]; rfl
    have hx := (Array.getElem?_eq_some_iff.1 h2).1
    have hb1 : Below w.heap.size w (w.alloc (.map #[] 0)) := (Below.refl _ w).alloc (Nat.le_refl _) _
    have hb2 : Below w.heap.size w ((w.alloc (.map #[] 0)).alloc (.cells #[.pointer (some ⟨x.1, 0, none⟩), .map (some w.heap.size), .bool f.1] 80)) := hb1.alloc (by simp) _
    have hlv : (lvZ (f :: env) == 0) = f.1 := by
      show ((if f.1 = true then (0 : Int) else 32) == 0) = f.1
      cases f.1 <;> rfl
    have HP : Hid (Chain ((w.alloc (.map #[] 0)).alloc (.cells #[.pointer (some ⟨x.1, 0, none⟩), .map (some w.heap.size), .bool f.1] 80)) (some ⟨w.heap.size + 1, 0, none⟩) ((w.heap.size + 1, w.heap.size) :: x :: bs) ((lvZ (f :: env) == 0, []) :: f :: env)) := by
      refine ⟨rfl, ⟨_, ?_, HC.stay hb2⟩, (tab_made w).stay ((Below.refl _ _).alloc (Nat.le_refl _) _)⟩
      rw [hlv]
      have := heap_alloc_new (w.alloc (.map #[] 0)) (.cells #[.pointer (some ⟨x.1, 0, none⟩), .map (some w.heap.size), .bool f.1] 80)
      rwa [World.size_alloc] at this
    have HBB : Hid (Below w.heap.size w ((w.alloc (.map #[] 0)).alloc (.cells #[.pointer (some ⟨x.1, 0, none⟩), .map (some w.heap.size), .bool f.1] 80))) := hb2
    clear h2 h3 h4 HC hb1 hb2 hlv
    generalize x.1 = xb at *
    have hmm := @run_makeMap Tryd.prog
    go_enter Tryd.func79, Tryd.ntmps79
    go_wp2_with fail
    go_ret
    exact ⟨rfl, HP.out, HBB.out, by simp⟩
  | [], _ :: _, h, _ => exact h.elim
  | _ :: _, [], h, _ => exact h.elim
end Go.Proofs.YtakaldbhaoidiaaDoor

/- The program's walker: a call of a function ahead. -/
namespace Go.Proofs.YtakaldbhaoidiaaDoor
open Go.RowKit Go.Sort

def ob (v : Value) : List Nat := v.ownBlock.toList
/-- The walker: its block b, its scopes, the functions ahead (map fm), the statement's number, the calls so far; all of it behind N, no block twice. -/
def WS (N : Nat) (W : World) (b fm : Nat) (a : Option Addr) (bs : List (Nat × Nat)) (env : Env) (ft : List (List UInt8 × Int)) (m : Int) (v : Value) (cs : List Int) : Prop :=
  W.heap[b]? = some (.cells #[.pointer a, .map (some fm), .int .i64 m, v] 67 (0, 0)) ∧ Chain W a bs env ∧ Tab W fm ft ∧ W.ownsRow N 3 1 v cs.length (cs.map (Value.int .i64)) ∧
  (b :: fm :: chB bs).Nodup ∧ (∀ g ∈ ob v, g ∉ b :: fm :: chB bs) ∧ ∀ g ∈ b :: fm :: chB bs, N ≤ g
theorem WS.cellS {N b fm : Nat} {W : World} {a bs env ft m v cs} (h : WS N W b fm a bs env ft m v cs) : W.cell? ⟨b, 0, none⟩ = some (.pointer a) := by rw [Lib.cell_of_heap h.1]; rfl
theorem WS.cellF {N b fm : Nat} {W : World} {a bs env ft m v cs} (h : WS N W b fm a bs env ft m v cs) : W.cell? ⟨b, 1, none⟩ = some (.map (some fm)) := by rw [Lib.cell_of_heap h.1]; rfl
theorem WS.cellM {N b fm : Nat} {W : World} {a bs env ft m v cs} (h : WS N W b fm a bs env ft m v cs) : W.cell? ⟨b, 2, none⟩ = some (.int .i64 m) := by rw [Lib.cell_of_heap h.1]; rfl
theorem WS.cellV {N b fm : Nat} {W : World} {a bs env ft m v cs} (h : WS N W b fm a bs env ft m v cs) : W.cell? ⟨b, 3, none⟩ = some v := by rw [Lib.cell_of_heap h.1]; rfl
theorem WS.frozen {N b fm : Nat} {W : World} {a bs env ft m v cs} (h : WS N W b fm a bs env ft m v cs) (j : Nat) : W.frozen? ⟨b, j, none⟩ = false := Lib.frozen_of_heap h.1 _
theorem WS.lt {N b fm : Nat} {W : World} {a bs env ft m v cs} (h : WS N W b fm a bs env ft m v cs) : b < W.heap.size := (Array.getElem?_eq_some_iff.1 h.1).1
theorem own_lt {W : World} {N n : Nat} {v : Value} {xs : List Value} (h : W.ownsRow N 3 1 v n xs) : ∀ g ∈ ob v, N ≤ g ∧ g < W.heap.size := by
  intro g hg
  rcases h.2 with ⟨rfl, _⟩ | ⟨g', cap, cur, rfl, h1, h2, _⟩
  · simp [ob, Value.ownBlock] at hg
  · have : g = g' := by simpa [ob, Value.ownBlock] using hg
    subst this
    exact ⟨h1, (Array.getElem?_eq_some_iff.1 h2).1⟩
theorem own_keep {W W' : World} {N n : Nat} {v : Value} {xs : List Value} (h : W.ownsRow N 3 1 v n xs) (hk : ∀ g ∈ ob v, W'.heap[g]? = W.heap[g]?) : W'.ownsRow N 3 1 v n xs := by
  refine ⟨h.1, ?_⟩
  rcases h.2 with h0 | ⟨g', cap, cur, rfl, h1, h2, h3⟩
  · exact .inl h0
  · exact .inr ⟨g', cap, cur, rfl, h1, (hk g' (by simp [ob, Value.ownBlock])).trans h2, h3⟩
/-- Blocks laid behind leave the walker as it is. -/
theorem WS.fr {N b fm : Nat} {W W' : World} {a bs env ft m v cs} {S : List Nat} (h : WS N W b fm a bs env ft m v cs) (ho : Fr S W W') (h1 : ∀ g ∈ b :: fm :: chB bs, g ∉ S) (h2 : ∀ g ∈ ob v, g ∉ S) : WS N W' b fm a bs env ft m v cs := by
  obtain ⟨k1, k2, k3, k4, k5, k6, k7⟩ := h
  exact ⟨(ho.2.2.2.2 b (Array.getElem?_eq_some_iff.1 k1).1 (h1 b (by simp))).trans k1, k2.fr ho (fun g hg => h1 g (by simp [hg])), k3.fr ho (h1 fm (by simp)), own_keep k4 (fun g hg => ho.2.2.2.2 g (own_lt k4 g hg).2 (h2 g hg)), k5, k6, k7⟩
theorem WS.stay {N b fm : Nat} {W W' : World} {a bs env ft m v cs} (h : WS N W b fm a bs env ft m v cs) (hb : Below W.heap.size W W') : WS N W' b fm a bs env ft m v cs := h.fr (S := []) (Fr.of_below hb) (by simp) (by simp)

theorem own_form {W : World} {N n : Nat} {v : Value} {xs : List Value} (h : W.ownsRow N 3 1 v n xs) : ∃ ao cap, v = .slice ao n cap := by
  rcases h.2 with ⟨rfl, rfl⟩ | ⟨g', cap, cur, rfl, _⟩
  · exact ⟨_, _, rfl⟩
  · exact ⟨_, _, rfl⟩
theorem Tryd.infoInt : (Tryd.prog.info? 3).map (fun i => (i.zero, i.size, i.bytes)) = some (some (.int .i64 0), 1, 8) := by kernel_rfl
/-- What a call of a name comes to. -/
def clZ (ft : List (List UInt8 × Int)) (s : List UInt8) : Int := if tabHas ft s = true then 0 else 8

set_option maxRecDepth 100000 in
set_option maxHeartbeats 2000000 in
theorem call_any (s : ByteArray) (hs : s.size ≤ 140737488351232) (N b fm : Nat) (a : Option Addr) (bs : List (Nat × Nat)) (env : Env) (ft : List (List UInt8 × Int)) (m : Int) (v : Value) (cs : List Int) (w : World) (h : WS N w b fm a bs env ft m v cs) (hN : N ≤ w.heap.size) (hl : cs.length ≤ 1000000) :
    Calls Tryd.prog 80 #[.pointer (some ⟨b, 0, none⟩), .string s] w fun e w' => e = .returned (.int .i64 (clZ ft s.data.toList)) ∧ ∃ v' cs', WS N w' b fm a bs env ft m v' cs' ∧ (clZ ft s.data.toList = 0 → cs' = cs ++ [tabAt ft s.data.toList]) ∧ cs'.length ≤ cs.length + 1 ∧ Fr (b :: ob v) w w' ∧ ∀ g ∈ ob v', g ∈ ob v ∨ w.heap.size ≤ g := by
  have HL := h.2.2.1.look s (by unfold maxLen; omega)
  have c1 := h.cellF
  have c3 := h.cellV
  cases hh : tabHas ft s.data.toList
  · rw [hh] at HL
    have HZ : Hid (clZ ft s.data.toList = 8) := by show _ = _; unfold clZ; rw [hh]; rfl
    have HW : Hid (WS N w b fm a bs env ft m v cs) := h
    clear h hs hl
    go_enter Tryd.func80, Tryd.ntmps80
    go_wp2_with fail
    go_ret
    exact ⟨ret_int HZ.out.symm, v, cs, HW.out, fun e => absurd (HZ.out.symm.trans e) (by decide), by omega, Fr.refl _ _, fun g hg => Or.inl hg⟩
  · rw [hh] at HL
    have HZ : Hid (clZ ft s.data.toList = 0) := by show _ = _; unfold clZ; rw [hh]; rfl
    generalize tabAt ft s.data.toList = num at *
    obtain ⟨ao, cap, rfl⟩ := own_form h.2.2.2.1
    have HW : Hid (WS N w b fm a bs env ft m (.slice ao cs.length cap) cs) := h
    have hlt := h.lt
    have hov := h.2.2.2.1
    have hbo : b ∉ ob (.slice ao cs.length cap) := fun hx => h.2.2.2.2.2.1 b hx (by simp)
    obtain ⟨i0, hi, hz0, hz1, hz2⟩ := info_parts Tryd.infoInt
    clear h hs
    have hnew : ∀ j u, ([.int .i64 num] : List Value)[j]? = some u → (w.alloc (.cells #[.int .i64 num] 3)).cell? ((⟨w.heap.size, 0, none⟩ : Addr).add j) = some u := new_cell _ _ _
    go_enter Tryd.func80, Tryd.ntmps80
    go_wp2_with (at_builtin; refine wpList_append_own_at _ rfl _ _ 48 rfl N 3 i0 (.int .i64 0) 1 8 Tryd.underlying48 hi hz0 hz1 hz2 rfl (by decide) _ _ _ rfl (hov.alloc _) ⟨w.heap.size, 0, none⟩ 1 1 [.int .i64 num] rfl rfl hnew ?c2 ?c3 ?c4 ?c5 ?_)
    case c2 => intro u hu; simp at hu; subst hu; rfl
    case c3 => unfold maxLen; omega
    case c4 => omega
    case c5 => simp; omega
    intro v' w2 hown' hgrow _ hat
    have hfr1 : Fr (b :: ob (.slice ao cs.length cap)) w (w.alloc (.cells #[.int .i64 num] 3)) := (Fr.refl _ w).alloc _
    have hfr2 : Fr (b :: ob (.slice ao cs.length cap)) (w.alloc (.cells #[.int .i64 num] 3)) w2 := (Fr.of_grown hgrow).mono fun k hk => List.mem_cons_of_mem _ hk
    have hfr : Fr (ob (.slice ao cs.length cap)) w w2 := ((Fr.refl _ w).alloc _).trans (Fr.of_grown hgrow)
    have hblk := hfr.2.2.2.2 b hlt hbo
    have hb2 : w2.heap[b]? = some (.cells #[.pointer a, .map (some fm), .int .i64 m, .slice ao cs.length cap] 67 (0, 0)) := hblk.trans HW.out.1
    have d3 : w2.cell? ⟨b, 3, none⟩ = some (.slice ao cs.length cap) := by rw [Lib.cell_of_heap hb2]; rfl
    have f3 : w2.frozen? ⟨b, 3, none⟩ = false := Lib.frozen_of_heap hb2 3
    obtain ⟨g, cap', rfl⟩ : ∃ g cap', v' = .slice (some ⟨g, 0, none⟩) (cs.length + 1) cap' := by
      rcases hown'.2 with ⟨_, h0⟩ | ⟨g, cap', cur, hv, _⟩
      · omega
      · exact ⟨g, cap', hv⟩
    have HP : Hid (WS N (w2.setCell ⟨b, 3, none⟩ (.slice (some ⟨g, 0, none⟩) (cs.length + 1) cap')) b fm a bs env ft m (.slice (some ⟨g, 0, none⟩) (cs.length + 1) cap') (cs ++ [num]) ∧ Fr (b :: ob (.slice ao cs.length cap)) w (w2.setCell ⟨b, 3, none⟩ (.slice (some ⟨g, 0, none⟩) (cs.length + 1) cap')) ∧ (g ∈ ob (.slice ao cs.length cap) ∨ w.heap.size ≤ g)) := by
      obtain ⟨k1, k2, k3, k4, k5, k6, k7⟩ := HW.out
      have hg0 : g ∈ ob (.slice ao cs.length cap) ∨ w.heap.size ≤ g := by
        rcases hat with e | e
        · left; unfold ob; rw [← e]; simp [Value.ownBlock]
        · right
          have : g = w.heap.size + 1 := by simpa [Value.ownBlock] using e
          omega
      have hgn : g ∉ b :: fm :: chB bs := by
        rcases hg0 with hx | hx
        · exact k6 g hx
        · intro hm
          rcases List.mem_cons.1 hm with rfl | hm
          · omega
          rcases List.mem_cons.1 hm with rfl | hm
          · have := k3.lt; omega
          · have := k2.lt g hm; omega
      have hset : Fr [b] w2 (w2.setCell ⟨b, 3, none⟩ (.slice (some ⟨g, 0, none⟩) (cs.length + 1) cap')) := (Fr.refl _ w2).set (by simp) _ _
      have hnd := List.nodup_cons.1 k5
      refine ⟨⟨?_, (k2.fr hfr (fun x hx hy => k6 x hy (by simp [hx]))).fr hset (fun x hx hy => ?_), (k3.fr hfr (fun hy => k6 fm hy (by simp))).fr hset (fun hy => ?_), ?_, k5, fun x hx => ?_, k7⟩, ?_, hg0⟩
      · simp [World.setCell, Array.getElem?_modify, hb2]
      · have : x = b := by simpa using hy
        subst this
        exact hnd.1 (by simp [hx])
      · have : fm = b := by simpa using hy
        exact hnd.1 (by simp [this])
      · refine own_keep (W := w2) ?_ (fun x hx => ?_)
        · simpa using hown'
        · refine hset.2.2.2.2 x ?_ (fun hy => ?_)
          · rcases hown'.2 with ⟨h0, _⟩ | ⟨g', _, _, hv, _, h2, _⟩
            · cases h0
            · have e1 : x = g := by simpa [ob, Value.ownBlock] using hx
              have e2 : g = g' := by cases hv; rfl
              subst e1 e2
              exact (Array.getElem?_eq_some_iff.1 h2).1
          · have e1 : x = g := by simpa [ob, Value.ownBlock] using hx
            have e2 : x = b := by simpa using hy
            exact hgn (by rw [← e1, e2]; simp)
      · have e1 : x = g := by simpa [ob, Value.ownBlock] using hx
        rw [e1]; exact hgn
      · exact (hfr1.trans hfr2).set (by simp) _ _
    clear hfr hfr1 hfr2 hblk hb2 hown' hgrow hat hov hnew
    go_wp2_with fail
    go_ret
    exact ⟨ret_int HZ.out.symm, _, _, HP.out.1, fun _ => rfl, by simp, HP.out.2.1, fun x hx => by
      have e1 : x = g := by simpa [ob, Value.ownBlock] using hx
      rw [e1]; exact HP.out.2.2⟩
end Go.Proofs.YtakaldbhaoidiaaDoor

/- The program's walker: a name in an expression. -/
namespace Go.Proofs.YtakaldbhaoidiaaDoor
open Go.RowKit Go.Sort

/-- What an expression's own name comes to, and whom it calls. -/
def nmZ (env : Env) (ft : List (List UInt8 × Int)) (k : Int) (s : List UInt8) : Int := if k = 2 then rdZ (envAt env s) else if k = 3 then ixZ (envAt env s) else if k = 4 then clZ ft s else 0
def nmC (ft : List (List UInt8 × Int)) (k : Int) (s : List UInt8) : List Int := if k = 4 then [tabAt ft s] else []
/-- What a look at expressions leaves: the walker, with more calls; all else as it was. -/
def NP (N b fm : Nat) (a : Option Addr) (bs : List (Nat × Nat)) (env : Env) (ft : List (List UInt8 × Int)) (m : Int) (v : Value) (cs : List Int) (k : Nat) (w w' : World) (r : Int) (c : List Int) : Prop :=
  ∃ v' cs', WS N w' b fm a bs env ft m v' cs' ∧ (r = 0 → cs' = cs ++ c) ∧ cs'.length ≤ cs.length + k ∧ Fr (b :: ob v) w w' ∧ ∀ g ∈ ob v', g ∈ ob v ∨ w.heap.size ≤ g
theorem NP.stay {N b fm : Nat} {a bs env ft m v cs k} {w w' : World} {r : Int} {c : List Int} (h : WS N w b fm a bs env ft m v cs) (hb : Below w.heap.size w w') (hc : r = 0 → c = []) : NP N b fm a bs env ft m v cs k w w' r c :=
  ⟨v, cs, h.stay hb, fun e => by rw [hc e, List.append_nil], by omega, Fr.of_below hb, fun g hg => Or.inl hg⟩
theorem NP.step {N b fm : Nat} {a bs env ft m v cs k v1 cs1 k1} {w w1 w2 : World} {r : Int} {c c1 : List Int} (h1 : cs1 = cs ++ c1) (h2 : cs1.length ≤ cs.length + k1) (h3 : Fr (b :: ob v) w w1) (h4 : ∀ g ∈ ob v1, g ∈ ob v ∨ w.heap.size ≤ g)
    (h : NP N b fm a bs env ft m v1 cs1 k w1 w2 r c) : NP N b fm a bs env ft m v cs (k1 + k) w w2 r (c1 ++ c) := by
  obtain ⟨v', cs', i1, i2, i3, i4, i5⟩ := h
  refine ⟨v', cs', i1, fun e => by rw [i2 e, h1, List.append_assoc], by omega, h3.trans' i4 fun x hx => ?_, fun g hg => ?_⟩
  · rcases List.mem_cons.1 hx with rfl | hx
    · exact Or.inl (by simp)
    · rcases h4 x hx with h' | h'
      · exact Or.inl (by simp [h'])
      · exact Or.inr h'
  · rcases i5 g hg with h' | h'
    · exact h4 g h'
    · exact Or.inr (Nat.le_trans h3.size h')

set_option maxRecDepth 100000 in
set_option maxHeartbeats 2000000 in
theorem nnamed_any (x : Ex) (hs : x.name.size ≤ 140737488351232) (N b fm : Nat) (a : Option Addr) (bs : List (Nat × Nat)) (env : Env) (ft : List (List UInt8 × Int)) (m : Int) (v : Value) (cs : List Int) (w : World) (h : WS N w b fm a bs env ft m v cs) (hN : N ≤ w.heap.size) (hl : cs.length ≤ 1000000) :
    Calls Tryd.prog 76 #[.pointer (some ⟨b, 0, none⟩), x.val] w fun e w' => e = .returned (.int .i64 (nmZ env ft x.kind x.name.data.toList)) ∧ NP N b fm a bs env ft m v cs 1 w w' (nmZ env ft x.kind x.name.data.toList) (nmC ft x.kind x.name.data.toList) := by
  have hb1 := (Below.refl _ w).alloc (Nat.le_refl _) (.cells #[.int .i64 x.kind, .int .i64 x.n, .string x.name, .slice x.a x.args.length x.cap] 40)
  have hw1 := h.stay hb1
  have xc := cell_new w #[.int .i64 x.kind, .int .i64 x.n, .string x.name, .slice x.a x.args.length x.cap] 40
  have x2 := xc 2 _ rfl
  have k0 := cell_regrown hw1.cellS
  have HB : Hid (∀ d os, Below w.heap.size w (grow (redrawn (w.alloc (.cells #[.int .i64 x.kind, .int .i64 x.n, .string x.name, .slice x.a x.args.length x.cap] 40)) d) os)) := fun d os => hb1.trans ((below_regrown _ d os).mono (by simp))
  have HW : Hid (WS N w b fm a bs env ft m v cs) := h
  have KR : Hid (∀ w', Below w.heap.size w w' → Calls Tryd.prog 77 #[.pointer a, .string x.name] w' fun e w'' => e = .returned (.int .i64 (rdZ (envAt env x.name.data.toList))) ∧ Below w'.heap.size w' w'') := fun w' hb => (read_any x.name hs a bs env w' (h.2.1.stay hb)).mono fun e w'' ⟨h1, h2⟩ => ⟨h1, by rw [h2]; exact Below.refl _ _⟩
  have KI : Hid (∀ w', Below w.heap.size w w' → Calls Tryd.prog 65 #[.pointer a, .string x.name] w' fun e w'' => e = .returned (.int .i64 (ixZ (envAt env x.name.data.toList))) ∧ Below w'.heap.size w' w'') := fun w' hb => (index_any' x.name hs a bs env w' (h.2.1.stay hb)).mono fun e w'' ⟨h1, h2⟩ => ⟨h1, by rw [h2]; exact Below.refl _ _⟩
  have KC : Hid (∀ w', Below w.heap.size w w' → Calls Tryd.prog 80 #[.pointer (some ⟨b, 0, none⟩), .string x.name] w' fun e w'' => e = .returned (.int .i64 (clZ ft x.name.data.toList)) ∧ NP N b fm a bs env ft m v cs 1 w' w'' (clZ ft x.name.data.toList) [tabAt ft x.name.data.toList]) := fun w' hb => call_any x.name hs N b fm a bs env ft m v cs w' (h.stay hb) (Nat.le_trans hN hb.size) hl
  clear xc h hw1
  unfold Ex.val
  cases e2 : (x.kind == 2)
  · cases e3 : (x.kind == 3)
    · cases e4 : (x.kind == 4)
      · have HZ : Hid (nmZ env ft x.kind x.name.data.toList = 0 ∧ nmC ft x.kind x.name.data.toList = []) := by
          unfold nmZ nmC; rw [if_neg (by simpa using e2), if_neg (by simpa using e3), if_neg (by simpa using e4), if_neg (by simpa using e4)]; exact ⟨rfl, rfl⟩
        clear x2 k0
        go_enter Tryd.func76, Tryd.ntmps76
        go_wp2_with fail
        go_ret
        exact ⟨ret_int HZ.out.1.symm, NP.stay HW.out hb1 fun _ => HZ.out.2⟩
      · have HZ : Hid (nmZ env ft x.kind x.name.data.toList = clZ ft x.name.data.toList ∧ nmC ft x.kind x.name.data.toList = [tabAt ft x.name.data.toList]) := by
          unfold nmZ nmC; rw [if_neg (by simpa using e2), if_neg (by simpa using e3), if_pos (by simpa using e4), if_pos (by simpa using e4)]; exact ⟨rfl, rfl⟩
        rw [HZ.out.1, HZ.out.2]
        generalize clZ ft x.name.data.toList = r at *
        clear x2 k0
        go_enter Tryd.func76, Tryd.ntmps76
        go_wp2_with fail
        refine (KC.out _ hb1).mono ?_
        rintro e w2 ⟨rfl, hp⟩
        have HP : Hid (NP N b fm a bs env ft m v cs 1 w w2 r [tabAt ft x.name.data.toList]) := NP.step (k1 := 0) (c1 := []) (by simp) (by omega) (Fr.of_below hb1) (fun g hg => Or.inl hg) hp
        clear hp
        go_wp2_with fail
        go_ret
        exact ⟨rfl, HP.out⟩
    · have HZ : Hid (nmZ env ft x.kind x.name.data.toList = ixZ (envAt env x.name.data.toList) ∧ nmC ft x.kind x.name.data.toList = []) := by
        have h3 : x.kind = 3 := by simpa using e3
        unfold nmZ nmC; rw [if_neg (by simpa using e2), if_pos h3, if_neg (by omega)]; exact ⟨rfl, rfl⟩
      rw [HZ.out.1, HZ.out.2]
      generalize ixZ (envAt env x.name.data.toList) = r at *
      go_enter Tryd.func76, Tryd.ntmps76
      go_wp2_with fail
      refine wp_region_quiet_below (by kernel_rfl) (by kernel_rfl) ?_
      repeat (go_big_quiet_step (first | (go_at_call 65; with_reducible exact Calls.regrown_of (KI.out _ (HB.out _ _)))))
      refine wpQuiet_nil ?_
      intro _ hw'
      obtain ⟨⟨dq, osq⟩, hw''⟩ := hw'
      subst hw''
      clear x2 k0
      have hbq := HB.out dq osq
      go_wp2_with fail
      go_ret
      exact ⟨rfl, NP.stay HW.out hbq fun _ => rfl⟩
  · have HZ : Hid (nmZ env ft x.kind x.name.data.toList = rdZ (envAt env x.name.data.toList) ∧ nmC ft x.kind x.name.data.toList = []) := by
      have h2 : x.kind = 2 := by simpa using e2
      unfold nmZ nmC; rw [if_pos h2, if_neg (by omega)]; exact ⟨rfl, rfl⟩
    rw [HZ.out.1, HZ.out.2]
    generalize rdZ (envAt env x.name.data.toList) = r at *
    go_enter Tryd.func76, Tryd.ntmps76
    go_wp2_with fail
    refine wp_region_quiet_below (by kernel_rfl) (by kernel_rfl) ?_
    repeat (go_big_quiet_step (first | (go_at_call 77; with_reducible exact Calls.regrown_of (KR.out _ (HB.out _ _)))))
    refine wpQuiet_nil ?_
    intro _ hw'
    obtain ⟨⟨dq, osq⟩, hw''⟩ := hw'
    subst hw''
    clear x2 k0
    have hbq := HB.out dq osq
    go_wp2_with fail
    go_ret
    exact ⟨rfl, NP.stay HW.out hbq fun _ => rfl⟩
end Go.Proofs.YtakaldbhaoidiaaDoor

/- The program's walker: an expression. -/
namespace Go.Proofs.YtakaldbhaoidiaaDoor
open Go.RowKit Go.Sort

mutual
def exZ (env : Env) (ft : List (List UInt8 × Int)) : Ex → Int
  | .mk k _ s _ _ l => if nmZ env ft k s.data.toList ≠ 0 then nmZ env ft k s.data.toList else exLZ env ft l
def exLZ (env : Env) (ft : List (List UInt8 × Int)) : List Ex → Int
  | [] => 0
  | x :: r => if exZ env ft x ≠ 0 then exZ env ft x else exLZ env ft r
end
mutual
def exC (ft : List (List UInt8 × Int)) : Ex → List Int
  | .mk k _ s _ _ l => nmC ft k s.data.toList ++ exLC ft l
def exLC (ft : List (List UInt8 × Int)) : List Ex → List Int
  | [] => []
  | x :: r => exC ft x ++ exLC ft r
end
theorem exZ_eq (env : Env) (ft : List (List UInt8 × Int)) (x : Ex) : exZ env ft x = if nmZ env ft x.kind x.name.data.toList ≠ 0 then nmZ env ft x.kind x.name.data.toList else exLZ env ft x.args := by cases x; rw [exZ]; rfl
theorem exC_eq (ft : List (List UInt8 × Int)) (x : Ex) : exC ft x = nmC ft x.kind x.name.data.toList ++ exLC ft x.args := by cases x; simp only [exC, Ex.kind, Ex.name, Ex.args]
theorem exLZ_drop {env : Env} {ft : List (List UInt8 × Int)} {l : List Ex} {j : Nat} (h : j < l.length) : exLZ env ft (l.drop j) = if exZ env ft l[j] ≠ 0 then exZ env ft l[j] else exLZ env ft (l.drop (j + 1)) := by
  rw [List.drop_eq_getElem_cons h, exLZ]
theorem exLC_take (ft : List (List UInt8 × Int)) : ∀ (l : List Ex) (j : Nat) (h : j < l.length), exLC ft (l.take (j + 1)) = exLC ft (l.take j) ++ exC ft l[j]
  | x :: r, 0, _ => by simp [exLC]
  | x :: r, j + 1, h => by rw [List.take_succ_cons, exLC, exLC_take ft r j (by simpa using h), List.take_succ_cons, exLC, List.getElem_cons_succ, List.append_assoc]
theorem szL_take : ∀ (l : List Ex) (j : Nat) (h : j < l.length), szL (l.take (j + 1)) = szL (l.take j) + l[j].sz
  | x :: r, 0, _ => by simp [szL]
  | x :: r, j + 1, h => by rw [List.take_succ_cons, szL, szL_take r j (by simpa using h), List.take_succ_cons, szL, List.getElem_cons_succ]; omega
theorem szL_take_le : ∀ (l : List Ex) (j : Nat), szL (l.take j) ≤ szL l
  | [], j => by simp
  | x :: r, 0 => by simp [szL]
  | x :: r, j + 1 => by rw [List.take_succ_cons, szL, szL]; have := szL_take_le r j; omega
theorem WS.on {N b fm : Nat} {W W' : World} {a bs env ft m v cs} (h : WS N W b fm a bs env ft m v cs) (hf : Fr (b :: ob v) W W') (hN : N ≤ W.heap.size) : Below N W W' := hf.below (fun k hk => by
  rcases List.mem_cons.1 hk with rfl | hk
  · exact h.2.2.2.2.2.2 k (by simp)
  · exact (own_lt h.2.2.2.1 k hk).1) hN
theorem WS.new {N b fm : Nat} {W : World} {a bs env ft m v cs} (h : WS N W b fm a bs env ft m v cs) {k : Nat} (hk : W.heap.size ≤ k) : k ∉ b :: ob v := fun hx => by
  rcases List.mem_cons.1 hx with rfl | hx
  · have := h.lt; omega
  · have := (own_lt h.2.2.2.1 k hx).2; omega

set_option maxRecDepth 100000 in
set_option maxHeartbeats 4000000 in
theorem nexpr_step (w0 : World) (b fm : Nat) (a : Option Addr) (bs : List (Nat × Nat)) (env : Env) (ft : List (List UInt8 × Int)) (k : Nat)
    (ih : ∀ (x : Ex) (m : Int) (v : Value) (cs : List Int) (w : World), x.sz ≤ k → x.In w0 → Below w0.heap.size w0 w → WS w0.heap.size w b fm a bs env ft m v cs → cs.length + x.sz ≤ 1000000 → Calls Tryd.prog 63 #[.pointer (some ⟨b, 0, none⟩), x.val] w fun e w' => e = .returned (.int .i64 (exZ env ft x)) ∧ NP w0.heap.size b fm a bs env ft m v cs x.sz w w' (exZ env ft x) (exC ft x))
    (x : Ex) (m : Int) (v : Value) (cs : List Int) (w : World) (hk : x.sz ≤ k + 1) (hin : x.In w0) (hB : Below w0.heap.size w0 w) (hw : WS w0.heap.size w b fm a bs env ft m v cs) (hl : cs.length + x.sz ≤ 1000000) :
    Calls Tryd.prog 63 #[.pointer (some ⟨b, 0, none⟩), x.val] w fun e w' => e = .returned (.int .i64 (exZ env ft x)) ∧ NP w0.heap.size b fm a bs env ft m v cs x.sz w w' (exZ env ft x) (exC ft x) := by
  obtain ⟨_, _, hnm, hlc, hcc, _, hrow, hsub⟩ := Ex.in_iff.1 hin
  have hsz := x.sz_args
  have IH : Hid (∀ (x : Ex) (m : Int) (v : Value) (cs : List Int) (w : World), x.sz ≤ k → x.In w0 → Below w0.heap.size w0 w → WS w0.heap.size w b fm a bs env ft m v cs → cs.length + x.sz ≤ 1000000 → Calls Tryd.prog 63 #[.pointer (some ⟨b, 0, none⟩), x.val] w fun e w' => e = .returned (.int .i64 (exZ env ft x)) ∧ NP w0.heap.size b fm a bs env ft m v cs x.sz w w' (exZ env ft x) (exC ft x)) := ih
  have HS : Hid (∀ y ∈ x.args, Ex.In w0 y) := hsub
  have HR : Hid (RowIn w0 x.a 4 (List.map Ex.cells x.args)) := hrow
  have HBW : Hid (Below w0.heap.size w0 w) := hB
  have HW : Hid (WS w0.heap.size w b fm a bs env ft m v cs) := hw
  have HSZ : Hid (x.sz = szL x.args + 1 ∧ x.sz ≤ k + 1 ∧ cs.length + x.sz ≤ 1000000) := ⟨by omega, hk, hl⟩
  have hb1 := (Below.refl _ w).alloc (Nat.le_refl _) (.cells #[.int .i64 x.kind, .int .i64 x.n, .string x.name, .slice x.a x.args.length x.cap] 40)
  have HNM : Hid (Calls Tryd.prog 76 #[.pointer (some ⟨b, 0, none⟩), x.val] (w.alloc (.cells #[.int .i64 x.kind, .int .i64 x.n, .string x.name, .slice x.a x.args.length x.cap] 40)) fun e w' => e = .returned (.int .i64 (nmZ env ft x.kind x.name.data.toList)) ∧ NP w0.heap.size b fm a bs env ft m v cs 1 (w.alloc (.cells #[.int .i64 x.kind, .int .i64 x.n, .string x.name, .slice x.a x.args.length x.cap] 40)) w' (nmZ env ft x.kind x.name.data.toList) (nmC ft x.kind x.name.data.toList)) :=
    nnamed_any x hnm _ b fm a bs env ft m v cs _ (hw.stay hb1) (by have := hB.size; simp; omega) (by omega)
  have HZ : Hid (exZ env ft x = if nmZ env ft x.kind x.name.data.toList ≠ 0 then nmZ env ft x.kind x.name.data.toList else exLZ env ft x.args) := exZ_eq env ft x
  have HCC : Hid (exC ft x = nmC ft x.kind x.name.data.toList ++ exLC ft x.args) := exC_eq ft x
  have hbx := boxE_new w x
  have hNw : w0.heap.size ≤ w.heap.size := hB.size
  generalize exZ env ft x = res at HZ ⊢
  generalize exC ft x = resC at HCC ⊢
  generalize nmZ env ft x.kind x.name.data.toList = r0 at HZ HNM
  generalize nmC ft x.kind x.name.data.toList = c0 at HCC HNM
  clear ih hin hB hw hrow hsub hk hl hnm hsz
  unfold Ex.val at HNM ⊢
  go_enter Tryd.func63, Tryd.ntmps63
  go_wp2_with fail
  refine HNM.out.mono ?_
  rintro e w1 ⟨rfl, hp⟩
  have hs1 : w.heap.size < (w.alloc (.cells #[.int .i64 x.kind, .int .i64 x.n, .string x.name, .slice x.a x.args.length x.cap] 40)).heap.size := by simp
  have hp0 : NP w0.heap.size b fm a bs env ft m v cs 1 w w1 r0 c0 := NP.step (k1 := 0) (c1 := []) (by simp) (by omega) (Fr.of_below hb1) (fun g hg => Or.inl hg) hp
  have hbx1 : BoxE w1 w.heap.size x := by
    obtain ⟨_, _, _, _, _, hf, _⟩ := hp
    exact fun i u hi => (hf.cell hs1 (HW.out.new (Nat.le_refl _))).trans (hbx i u hi)
  have HBX : Hid (BoxE w1 w.heap.size x) := hbx1
  have HNP : Hid (NP w0.heap.size b fm a bs env ft m v cs 1 w w1 r0 c0) := hp0
  have x3 := hbx1 3 _ rfl
  clear hp hp0 hbx1 hbx hb1 hs1 HNM
  cases hr : (r0 != 0)
  · have hr0 : r0 = 0 := by simpa using hr
    have HF : Hid (res = exLZ env ft x.args) := by show _ = _; rw [HZ.out, if_neg (by simpa using hr0)]
    obtain ⟨v1, cs1, i1, i2, i3, i4, i5⟩ := HNP.out
    have HI : Hid (WS w0.heap.size w1 b fm a bs env ft m v1 cs1 ∧ cs1 = cs ++ c0 ∧ Fr (b :: ob v) w w1 ∧ (∀ g ∈ ob v1, g ∈ ob v ∨ w.heap.size ≤ g) ∧ cs1.length ≤ cs.length + 1) := ⟨i1, i2 hr0, i4, i5, i3⟩
    clear i1 i2 i3 i4 i5 HNP HZ hr0
    obtain ⟨kd, nn, nm, xa, xc, l⟩ := x
    simp only [Ex.kind, Ex.n, Ex.name, Ex.a, Ex.cap, Ex.args] at *
    go_wp2_with fail
    go_loopw [18] (fun t18 wr => ∃ (j : Nat) (v' : Value) (cs' : List Int), j ≤ l.length ∧ t18 = .int .i64 j ∧ exLZ env ft (l.drop j) = res ∧ WS w0.heap.size wr b fm a bs env ft m v' cs' ∧ cs' = cs ++ (c0 ++ exLC ft (l.take j)) ∧ cs'.length ≤ cs.length + 1 + szL (l.take j) ∧ Fr (b :: ob v) w wr ∧ ∀ g ∈ ob v', g ∈ ob v ∨ w.heap.size ≤ g) (fun t18 _ => l.length - (intOf t18).toNat)
    case atStart => exact ⟨0, v1, cs1, Nat.zero_le _, rfl, HF.out.symm, HI.out.1, by rw [HI.out.2.1]; simp [exLC], by have := HI.out.2.2.2.2; simp [szL]; omega, HI.out.2.2.1, HI.out.2.2.2.1⟩
    case round =>
      obtain ⟨j, v', cs', hj, rfl, hz, hws, hcs, hcl, hfr, hob⟩ := hrel
      have HX : Hid (WS w0.heap.size wr b fm a bs env ft m v' cs' ∧ cs' = cs ++ (c0 ++ exLC ft (l.take j)) ∧ cs'.length ≤ cs.length + 1 + szL (l.take j) ∧ Fr (b :: ob v) w wr ∧ ∀ g ∈ ob v', g ∈ ob v ∨ w.heap.size ≤ g) := ⟨hws, hcs, hcl, hfr, hob⟩
      have HQ : Hid (exLZ env ft (l.drop j) = res) := hz
      have HBR : Hid (Below w0.heap.size w0 wr) := HBW.out.trans (HW.out.on hfr hNw)
      clear hws hcs hcl hfr hob hz
      by_cases hlt : j < l.length
      · obtain ⟨g, o, rfl, c0', c1, c2, c3⟩ := row_at (HR.out.below HBR.out) hlt
        have hli : (j : Int) < (l.length : Int) := by omega
        have HD : Hid (exLZ env ft (l.drop j) = if exZ env ft l[j] ≠ 0 then exZ env ft l[j] else exLZ env ft (l.drop (j + 1))) := exLZ_drop hlt
        have HT : Hid (exLC ft (l.take (j + 1)) = exLC ft (l.take j) ++ exC ft l[j] ∧ szL (l.take (j + 1)) = szL (l.take j) + l[j].sz ∧ l[j].sz ≤ szL l ∧ szL (l.take (j + 1)) ≤ szL l) := ⟨exLC_take ft l j hlt, szL_take l j hlt, szL_mem (List.getElem_mem hlt), szL_take_le l _⟩
        have HY : Hid (Ex.In w0 l[j]) := HS.out _ (List.getElem_mem hlt)
        generalize l[j] = y at *
        have hb2 := (Below.refl _ wr).alloc (Nat.le_refl _) (.cells #[.int .i64 y.kind, .int .i64 y.n, .string y.name, .slice y.a y.args.length y.cap] 40)
        have HCL : Hid (Calls Tryd.prog 63 #[.pointer (some ⟨b, 0, none⟩), y.val] (wr.alloc (.cells #[.int .i64 y.kind, .int .i64 y.n, .string y.name, .slice y.a y.args.length y.cap] 40)) fun e w' => e = .returned (.int .i64 (exZ env ft y)) ∧ NP w0.heap.size b fm a bs env ft m v' cs' y.sz (wr.alloc (.cells #[.int .i64 y.kind, .int .i64 y.n, .string y.name, .slice y.a y.args.length y.cap] 40)) w' (exZ env ft y) (exC ft y)) :=
          IH.out y m v' cs' _ (by have := HT.out.2.2.1; have := HSZ.out; omega) HY.out (HBR.out.trans (hb2.mono HBR.out.size)) (HX.out.1.stay hb2) (by have := HT.out.2; have := HSZ.out; have := HX.out.2.2.1; omega)
        have HST : Hid (∀ w2, NP w0.heap.size b fm a bs env ft m v' cs' y.sz (wr.alloc (.cells #[.int .i64 y.kind, .int .i64 y.n, .string y.name, .slice y.a y.args.length y.cap] 40)) w2 (exZ env ft y) (exC ft y) → NP w0.heap.size b fm a bs env ft m v' cs' y.sz wr w2 (exZ env ft y) (exC ft y)) := fun w2 hp => by
          have := NP.step (v := v') (cs := cs') (k1 := 0) (c1 := []) (w := wr) (by simp : cs' = cs' ++ []) (by omega) (Fr.of_below hb2) (fun g hg => Or.inl hg) hp
          simpa using this
        generalize exZ env ft y = ry at *
        generalize exC ft y = cy at *
        unfold Ex.val at HCL
        clear hb2
        go_wp2_with fail
        refine HCL.out.mono ?_
        rintro e w2 ⟨rfl, hp⟩
        have HP2 : Hid (NP w0.heap.size b fm a bs env ft m v' cs' y.sz wr w2 ry cy) := HST.out w2 hp
        clear hp HCL HST c0' c1 c2 c3 x3
        cases hry : (ry != 0)
        · have hry0 : ry = 0 := by simpa using hry
          have HV : Hid (exLZ env ft (l.drop (j + 1)) = res) := by show _ = _; rw [← HQ.out, HD.out, if_neg (by simpa using hry0)]
          obtain ⟨v2, cs2, i1, i2, i3, i4, i5⟩ := HP2.out
          have HG : Hid (∃ v2 cs2, WS w0.heap.size w2 b fm a bs env ft m v2 cs2 ∧ cs2 = cs ++ (c0 ++ exLC ft (l.take (j + 1))) ∧ cs2.length ≤ cs.length + 1 + szL (l.take (j + 1)) ∧ Fr (b :: ob v) w w2 ∧ ∀ g ∈ ob v2, g ∈ ob v ∨ w.heap.size ≤ g) := by
            refine ⟨v2, cs2, i1, ?_, ?_, HX.out.2.2.2.1.trans' i4 fun q hq => ?_, fun q hq => ?_⟩
            · rw [i2 hry0, HX.out.2.1, HT.out.1]; simp only [List.append_assoc]
            · have := HX.out.2.2.1; have := HT.out.2.1; omega
            · rcases List.mem_cons.1 hq with rfl | hq
              · exact Or.inl (by simp)
              · rcases HX.out.2.2.2.2 q hq with h' | h'
                · exact Or.inl (by simp [h'])
                · exact Or.inr h'
            · rcases i5 q hq with h' | h'
              · exact HX.out.2.2.2.2 q h'
              · exact Or.inr (Nat.le_trans HX.out.2.2.2.1.size h')
          clear i1 i2 i3 i4 i5 hry0
          go_wp2_with fail
          go_roundw
          case rel =>
            obtain ⟨v2, cs2, j1, j2, j3, j4, j5⟩ := HG.out
            exact ⟨j + 1, v2, cs2, by omega, by go_num, HV.out, j1, j2, j3, j4, j5⟩
          case measure => simp [intOf]; omega
        · have hryn : ry ≠ 0 := by simpa using hry
          have HV : Hid (res = ry) := by show _ = _; rw [← HQ.out, HD.out, if_pos hryn]
          have HG : Hid (NP w0.heap.size b fm a bs env ft m v cs (Ex.mk kd nn nm (some ⟨g, o, none⟩) xc l).sz w w2 ry resC) := by
            obtain ⟨v2, cs2, i1, i2, i3, i4, i5⟩ := HP2.out
            refine ⟨v2, cs2, i1, fun e => absurd e hryn, ?_, HX.out.2.2.2.1.trans' i4 fun q hq => ?_, fun q hq => ?_⟩
            · have := HX.out.2.2.1; have := HT.out.2; have := HSZ.out.1; omega
            · rcases List.mem_cons.1 hq with rfl | hq
              · exact Or.inl (by simp)
              · rcases HX.out.2.2.2.2 q hq with h' | h'
                · exact Or.inl (by simp [h'])
                · exact Or.inr h'
            · rcases i5 q hq with h' | h'
              · exact HX.out.2.2.2.2 q h'
              · exact Or.inr (Nat.le_trans HX.out.2.2.2.1.size h')
          clear hryn
          go_wp2_with fail
          go_ret
          exact ⟨ret_int HV.out.symm, by rw [HV.out]; exact HG.out⟩
      · have hli : ¬ (j : Int) < (l.length : Int) := by omega
        have HV : Hid (res = 0) := by show _ = _; rw [← HQ.out, List.drop_eq_nil_of_le (by omega), exLZ]
        have HG : Hid (NP w0.heap.size b fm a bs env ft m v cs (Ex.mk kd nn nm xa xc l).sz w wr 0 resC) := by
          refine ⟨v', cs', HX.out.1, fun _ => ?_, ?_, HX.out.2.2.2.1, HX.out.2.2.2.2⟩
          · rw [HX.out.2.1, HCC.out, List.take_of_length_le (by omega)]
          · have := HX.out.2.2.1; have := szL_take_le l j; have := HSZ.out.1; omega
        go_wp2_with fail
        go_ret
        exact ⟨ret_int HV.out.symm, by rw [HV.out]; exact HG.out⟩
  · have hrn : r0 ≠ 0 := by simpa using hr
    have HF : Hid (res = r0) := by show _ = _; rw [HZ.out, if_pos hrn]
    have HG : Hid (NP w0.heap.size b fm a bs env ft m v cs x.sz w w1 r0 resC) := by
      obtain ⟨v2, cs2, i1, i2, i3, i4, i5⟩ := HNP.out
      exact ⟨v2, cs2, i1, fun e => absurd e hrn, by have := HSZ.out.1; omega, i4, i5⟩
    clear hrn
    go_wp2_with fail
    go_ret
    exact ⟨ret_int HF.out.symm, by rw [HF.out]; exact HG.out⟩
theorem nexpr_k (w0 : World) (b fm : Nat) (a : Option Addr) (bs : List (Nat × Nat)) (env : Env) (ft : List (List UInt8 × Int)) (k : Nat) :
    ∀ (x : Ex) (m : Int) (v : Value) (cs : List Int) (w : World), x.sz ≤ k → x.In w0 → Below w0.heap.size w0 w → WS w0.heap.size w b fm a bs env ft m v cs → cs.length + x.sz ≤ 1000000 → Calls Tryd.prog 63 #[.pointer (some ⟨b, 0, none⟩), x.val] w fun e w' => e = .returned (.int .i64 (exZ env ft x)) ∧ NP w0.heap.size b fm a bs env ft m v cs x.sz w w' (exZ env ft x) (exC ft x) := by
  induction k with
  | zero => intro x m v cs w hk; have := x.sz_args; omega
  | succ k ih => exact fun x m v cs w hk hin hB hw hl => nexpr_step w0 b fm a bs env ft k ih x m v cs w hk hin hB hw hl
end Go.Proofs.YtakaldbhaoidiaaDoor

/- The first number that is not 0; what the walker's looks at statements come to. -/
namespace Go.Proofs.YtakaldbhaoidiaaDoor
open Go.RowKit Go.Sort

def orF : List Int → Int
  | [] => 0
  | x :: r => if x ≠ 0 then x else orF r
theorem orF_drop {l : List Int} {j : Nat} (h : j < l.length) : orF (l.drop j) = if l[j] ≠ 0 then l[j] else orF (l.drop (j + 1)) := by
  rw [List.drop_eq_getElem_cons h, orF]
set_option maxRecDepth 100000 in
set_option maxHeartbeats 1000000 in
theorem or_any (l : List Int) (g cap : Nat) (w : World) (hl : l.length ≤ 1000) (hc : ∀ j (h : j < l.length), w.cell? ⟨g, j, none⟩ = some (.int .i64 l[j])) :
    Calls Tryd.prog 62 #[.slice (some ⟨g, 0, none⟩) l.length cap] w fun e w' => e = .returned (.int .i64 (orF l)) ∧ w' = w := by
  have HCL : Hid (∀ j (h : j < l.length), w.cell? ⟨g, j, none⟩ = some (.int .i64 l[j])) := hc
  clear hc
  go_enter Tryd.func62, Tryd.ntmps62
  go_wp2_with fail
  go_loopw [8] (fun t8 wr => ∃ (j : Nat), j ≤ l.length ∧ t8 = .int .i64 j ∧ orF (l.drop j) = orF l ∧ wr = w) (fun t8 _ => l.length - (intOf t8).toNat)
  case atStart => exact ⟨0, Nat.zero_le _, rfl, rfl, rfl⟩
  case round =>
    obtain ⟨j, hj, rfl, hcnt, hwr⟩ := hrel
    obtain rfl := hwr.symm
    have HC : Hid (orF (l.drop j) = orF l) := hcnt
    clear hcnt
    by_cases hlt : j < l.length
    · have hcell := HCL.out j hlt
      have hli : (j : Int) < (l.length : Int) := by omega
      have HD : Hid (orF (l.drop j) = if l[j] ≠ 0 then l[j] else orF (l.drop (j + 1))) := orF_drop hlt
      generalize l[j] = z at *
      cases hz : (z != 0)
      · have HV : Hid (orF (l.drop (j + 1)) = orF l) := by show _ = _; rw [← HC.out, HD.out, if_neg (by simpa using hz)]
        go_wp2_with fail
        go_roundw
        case rel => exact ⟨j + 1, by omega, by go_num, HV.out, trivial⟩
        case measure => simp [intOf]; omega
      · have HV : Hid (orF l = z) := by show _ = _; rw [← HC.out, HD.out, if_pos (by simpa using hz)]
        go_wp2_with fail
        go_ret
        exact ⟨ret_int HV.out.symm, rfl⟩
    · have hli : ¬ (j : Int) < (l.length : Int) := by omega
      have HV : Hid (orF l = 0) := by show _ = _; rw [← HC.out, List.drop_eq_nil_of_le (by omega)]; rfl
      go_wp2_with fail
      go_ret
      exact ⟨ret_int HV.out.symm, rfl⟩

/-- What a look at statements comes to: what is wrong, the statement's number, what is known then, and whom was called. -/
structure SR where
  e : Int
  m : Int
  env : Env
  c : List Int
mutual
def stS (ft : List (List UInt8 × Int)) : St → Env → Int → SR
  | .mk k s _ a b _ _ l _ _ els _ _ cs, env, m =>
    if k = 1 then ⟨orF [exZ env ft a, dcZ env s.data.toList], m, dcEnv env s.data.toList 1, exC ft a⟩
    else if k = 2 then ⟨dcZ env s.data.toList, m, dcEnv env s.data.toList 2, []⟩
    else if k = 3 then ⟨orF [wrZ (envAt env s.data.toList), exZ env ft a], m, env, exC ft a⟩
    else if k = 4 then ⟨orF [ixZ (envAt env s.data.toList), exZ env ft a, exZ env ft b], m, env, exC ft a ++ exC ft b⟩
    else if k = 5 ∨ k = 6 then
      (if exZ env ft a ≠ 0 then ⟨exZ env ft a, m, env, []⟩
       else if (lsS ft l ((lvZ env == 0, []) :: env) m).e ≠ 0 then ⟨(lsS ft l ((lvZ env == 0, []) :: env) m).e, (lsS ft l ((lvZ env == 0, []) :: env) m).m, env, []⟩
       else if (csS ft cs env (lsS ft l ((lvZ env == 0, []) :: env) m).m).e ≠ 0 then ⟨(csS ft cs env (lsS ft l ((lvZ env == 0, []) :: env) m).m).e, (csS ft cs env (lsS ft l ((lvZ env == 0, []) :: env) m).m).m, env, []⟩
       else ⟨(lsS ft els ((lvZ env == 0, []) :: env) (csS ft cs env (lsS ft l ((lvZ env == 0, []) :: env) m).m).m).e, (lsS ft els ((lvZ env == 0, []) :: env) (csS ft cs env (lsS ft l ((lvZ env == 0, []) :: env) m).m).m).m, env,
          exC ft a ++ (lsS ft l ((lvZ env == 0, []) :: env) m).c ++ (csS ft cs env (lsS ft l ((lvZ env == 0, []) :: env) m).m).c ++ (lsS ft els ((lvZ env == 0, []) :: env) (csS ft cs env (lsS ft l ((lvZ env == 0, []) :: env) m).m).m).c⟩)
    else if k = 7 then
      (if orF [exZ env ft a, exZ env ft b, dcZ ((true, []) :: env) s.data.toList] ≠ 0 then ⟨orF [exZ env ft a, exZ env ft b, dcZ ((true, []) :: env) s.data.toList], m, env, []⟩
       else ⟨(lsS ft l (dcEnv ((true, []) :: env) s.data.toList 3) m).e, (lsS ft l (dcEnv ((true, []) :: env) s.data.toList 3) m).m, env, exC ft a ++ exC ft b ++ (lsS ft l (dcEnv ((true, []) :: env) s.data.toList 3) m).c⟩)
    else if k = 8 then ⟨lvZ env, m, env, []⟩
    else ⟨exZ env ft a, m, env, exC ft a⟩
def lsS (ft : List (List UInt8 × Int)) : List St → Env → Int → SR
  | [], env, m => ⟨0, m, env, []⟩
  | s :: r, env, m => if (stS ft s env (m + 1)).e ≠ 0 then stS ft s env (m + 1)
    else ⟨(lsS ft r (stS ft s env (m + 1)).env (stS ft s env (m + 1)).m).e, (lsS ft r (stS ft s env (m + 1)).env (stS ft s env (m + 1)).m).m, (lsS ft r (stS ft s env (m + 1)).env (stS ft s env (m + 1)).m).env, (stS ft s env (m + 1)).c ++ (lsS ft r (stS ft s env (m + 1)).env (stS ft s env (m + 1)).m).c⟩
def caS (ft : List (List UInt8 × Int)) : Ca → Env → Int → SR
  | .mk _ _ _ l, env, m => lsS ft l ((lvZ env == 0, []) :: env) m
def csS (ft : List (List UInt8 × Int)) : List Ca → Env → Int → SR
  | [], env, m => ⟨0, m, env, []⟩
  | c :: r, env, m => if (caS ft c env m).e ≠ 0 then ⟨(caS ft c env m).e, (caS ft c env m).m, env, []⟩
    else ⟨(csS ft r env (caS ft c env m).m).e, (csS ft r env (caS ft c env m).m).m, env, (caS ft c env m).c ++ (csS ft r env (caS ft c env m).m).c⟩
end
end Go.Proofs.YtakaldbhaoidiaaDoor

/- The program's walker: a body in a scope of its own. -/
namespace Go.Proofs.YtakaldbhaoidiaaDoor
open Go.RowKit Go.Sort

mutual
def qS : St → Nat | .mk _ _ _ a b _ _ l _ _ e _ _ c => 1 + a.sz + b.sz + qSs l + qSs e + qCs c
def qSs : List St → Nat | [] => 0 | x :: r => qS x + qSs r
def qC : Ca → Nat | .mk _ _ _ l => 1 + qSs l
def qCs : List Ca → Nat | [] => 0 | c :: r => qC c + qCs r
end
theorem qS_eq (s : St) : qS s = 1 + s.a.sz + s.b.sz + qSs s.body + qSs s.els + qCs s.cases := by cases s; rw [qS]; rfl
theorem qC_eq (c : Ca) : qC c = 1 + qSs c.body := by cases c; rw [qC]; rfl
/-- A look turns the innermost scope alone. -/
theorem dcEnv_tail (f : Bool × List (List UInt8 × Int)) (env : Env) (s : List UInt8) (k : Int) : ∃ f', f'.1 = f.1 ∧ f'.2.length ≤ f.2.length + 1 ∧ dcEnv (f :: env) s k = f' :: env := by
  unfold dcEnv
  split
  · exact ⟨f, rfl, by omega, rfl⟩
  · exact ⟨(f.1, (s, k) :: f.2), rfl, by simp, rfl⟩
theorem stS_tail (ft : List (List UInt8 × Int)) (s : St) (f : Bool × List (List UInt8 × Int)) (env : Env) (m : Int) : ∃ f', f'.1 = f.1 ∧ f'.2.length ≤ f.2.length + 1 ∧ (stS ft s (f :: env) m).env = f' :: env := by
  obtain ⟨k, nm, n, a, b, ba, bc, l, ea, ec, e, ca, cc, c⟩ := s
  rw [stS]
  split
  · exact dcEnv_tail f env _ _
  split
  · exact dcEnv_tail f env _ _
  split
  · exact ⟨f, rfl, by omega, rfl⟩
  split
  · exact ⟨f, rfl, by omega, rfl⟩
  split
  · split
    · exact ⟨f, rfl, by omega, rfl⟩
    split
    · exact ⟨f, rfl, by omega, rfl⟩
    split
    · exact ⟨f, rfl, by omega, rfl⟩
    · exact ⟨f, rfl, by omega, rfl⟩
  split
  · split
    · exact ⟨f, rfl, by omega, rfl⟩
    · exact ⟨f, rfl, by omega, rfl⟩
  split
  · exact ⟨f, rfl, by omega, rfl⟩
  · exact ⟨f, rfl, by omega, rfl⟩
theorem lsS_tail (ft : List (List UInt8 × Int)) : ∀ (l : List St) (f : Bool × List (List UInt8 × Int)) (env : Env) (m : Int), ∃ f', f'.1 = f.1 ∧ f'.2.length ≤ f.2.length + l.length ∧ (lsS ft l (f :: env) m).env = f' :: env
  | [], f, env, m => ⟨f, rfl, by simp, by rw [lsS]⟩
  | s :: r, f, env, m => by
    obtain ⟨f1, h1, h2, h3⟩ := stS_tail ft s f env (m + 1)
    rw [lsS]
    split
    · exact ⟨f1, h1, by simp only [List.length_cons]; omega, h3⟩
    · rw [h3]
      obtain ⟨f2, g1, g2, g3⟩ := lsS_tail ft r f1 env (stS ft s (f :: env) (m + 1)).m
      exact ⟨f2, g1.trans h1, by simp only [List.length_cons]; omega, g3⟩
/-- What a look at statements leaves. -/
def LP (N b fm : Nat) (a : Option Addr) (x : Nat × Nat) (bs : List (Nat × Nat)) (ft : List (List UInt8 × Int)) (v : Value) (cs : List Int) (k : Nat) (w w' : World) (r : SR) : Prop :=
  ∃ v' cs', WS N w' b fm a (x :: bs) r.env ft r.m v' cs' ∧ (r.e = 0 → cs' = cs ++ r.c) ∧ cs'.length ≤ cs.length + k ∧ Fr (b :: x.2 :: ob v) w w' ∧ ∀ g ∈ ob v', g ∈ ob v ∨ w.heap.size ≤ g
abbrev LsN (w0 : World) (b fm : Nat) (ft : List (List UInt8 × Int)) (k : Nat) : Prop := ∀ (l : List St) (la : Option Addr) (lc : Nat) (a : Option Addr) (x : Nat × Nat) (bs : List (Nat × Nat)) (env : Env) (m : Int) (v : Value) (cs : List Int) (w : World), qSs l ≤ k → Have w0 la lc l → Below w0.heap.size w0 w → WS w0.heap.size w b fm a (x :: bs) env ft m v cs → cs.length + qSs l ≤ 1000000 → (∀ f ∈ env, f.2.length + qSs l ≤ 900000) → 0 ≤ m → m + qSs l ≤ 1000000000 →
  Calls Tryd.prog 28 #[.pointer (some ⟨b, 0, none⟩), .slice la l.length lc] w fun e w' => e = .returned (.int .i64 (lsS ft l env m).e) ∧ LP w0.heap.size b fm a x bs ft v cs (qSs l) w w' (lsS ft l env m)
theorem ws_scope {N b fm : Nat} {W : World} {a a2 bs bs2 env env2 ft m v cs} (h : WS N W b fm a bs env ft m v cs) (hc : Chain W a2 bs2 env2) (hnd : (b :: fm :: chB bs2).Nodup) (ho : ∀ g ∈ ob v, g ∉ b :: fm :: chB bs2) (hN : ∀ g ∈ b :: fm :: chB bs2, N ≤ g) :
    WS N (W.setCell ⟨b, 0, none⟩ (.pointer a2)) b fm a2 bs2 env2 ft m v cs := by
  obtain ⟨k1, k2, k3, k4, k5, k6, k7⟩ := h
  have hset : Fr [b] W (W.setCell ⟨b, 0, none⟩ (.pointer a2)) := (Fr.refl _ W).set (by simp) _ _
  have hn := List.nodup_cons.1 hnd
  refine ⟨by simp [World.setCell, Array.getElem?_modify, k1], hc.fr hset (fun q hq hy => ?_), k3.fr hset (fun hy => ?_), own_keep k4 (fun q hq => hset.2.2.2.2 q (own_lt k4 q hq).2 (fun hy => ?_)), hnd, ho, hN⟩
  · have : q = b := by simpa using hy
    subst this; exact hn.1 (by simp [hq])
  · have : fm = b := by simpa using hy
    exact hn.1 (by simp [this])
  · have : q = b := by simpa using hy
    subst this; exact ho q hq (by simp)

set_option maxRecDepth 100000 in
set_option maxHeartbeats 2000000 in
theorem nbody_of (w0 : World) (b fm : Nat) (ft : List (List UInt8 × Int)) (k : Nat) (ih : LsN w0 b fm ft k) (l : List St) (la : Option Addr) (lc : Nat) (a a2 : Option Addr) (x x2 : Nat × Nat) (bs : List (Nat × Nat)) (f2 : Bool × List (List UInt8 × Int)) (env : Env) (m : Int) (v : Value) (cs : List Int) (w : World)
    (hk : qSs l ≤ k) (hin : Have w0 la lc l) (hB : Below w0.heap.size w0 w) (hw : WS w0.heap.size w b fm a (x :: bs) env ft m v cs) (hc : Chain w a2 (x2 :: x :: bs) (f2 :: env)) (hnd : (b :: fm :: chB (x2 :: x :: bs)).Nodup) (ho : ∀ g ∈ ob v, g ∉ b :: fm :: chB (x2 :: x :: bs)) (hN : ∀ g ∈ b :: fm :: chB (x2 :: x :: bs), w0.heap.size ≤ g)
    (h1 : cs.length + qSs l ≤ 1000000) (h2 : ∀ f ∈ f2 :: env, f.2.length + qSs l ≤ 900000) (h3 : 0 ≤ m) (h4 : m + qSs l ≤ 1000000000) :
    Calls Tryd.prog 78 #[.pointer (some ⟨b, 0, none⟩), .pointer a2, .slice la l.length lc] w fun e w' => e = .returned (.int .i64 (lsS ft l (f2 :: env) m).e) ∧
      ∃ v' cs', WS w0.heap.size w' b fm a (x :: bs) env ft (lsS ft l (f2 :: env) m).m v' cs' ∧ ((lsS ft l (f2 :: env) m).e = 0 → cs' = cs ++ (lsS ft l (f2 :: env) m).c) ∧ cs'.length ≤ cs.length + qSs l ∧ Fr (b :: x2.2 :: ob v) w w' ∧ ∀ g ∈ ob v', g ∈ ob v ∨ w.heap.size ≤ g := by
  have hw1 := ws_scope hw hc hnd ho hN
  have HW : Hid (WS w0.heap.size w b fm a (x :: bs) env ft m v cs) := hw
  have hset : Fr (b :: x2.2 :: ob v) w (w.setCell ⟨b, 0, none⟩ (.pointer a2)) := (Fr.refl _ w).set (by simp) _ _
  have hsz : (w.setCell ⟨b, 0, none⟩ (.pointer a2)).heap.size = w.heap.size := by simp [World.setCell]
  have HLS : Hid (Calls Tryd.prog 28 #[.pointer (some ⟨b, 0, none⟩), .slice la l.length lc] (w.setCell ⟨b, 0, none⟩ (.pointer a2)) fun e w' => e = .returned (.int .i64 (lsS ft l (f2 :: env) m).e) ∧ LP w0.heap.size b fm a2 x2 (x :: bs) ft v cs (qSs l) (w.setCell ⟨b, 0, none⟩ (.pointer a2)) w' (lsS ft l (f2 :: env) m)) :=
    ih l la lc a2 x2 (x :: bs) (f2 :: env) m v cs _ hk hin (hB.trans (hset.below (fun q hq => by
      rcases List.mem_cons.1 hq with rfl | hq
      · exact hN q (by simp)
      rcases List.mem_cons.1 hq with rfl | hq
      · exact hN _ (by simp [chB])
      · exact (own_lt hw.2.2.2.1 q hq).1) hB.size)) hw1 h1 h2 h3 h4
  have ha : ∀ w2 v' cs' f' mm, WS w0.heap.size w2 b fm a2 (x2 :: x :: bs) (f' :: env) ft mm v' cs' → WS w0.heap.size (w2.setCell ⟨b, 0, none⟩ (.pointer a)) b fm a (x :: bs) env ft mm v' cs' := fun w2 v' cs' f' mm h => by
    obtain ⟨_, ⟨a', _, h5⟩, _⟩ := h.2.1
    have e1 : a = a' := by
      match env, hw.2.1, h5 with
      | g :: env, hx, hy => exact hx.1.trans hy.1.symm
      | [], hx, _ => exact hx.elim
    subst e1
    exact ws_scope h h5 hw.2.2.2.2.1 (fun q hq hy => h.2.2.2.2.2.1 q hq (by
      simp only [chB, List.mem_cons] at hy ⊢
      grind)) hw.2.2.2.2.2.2
  have HA : Hid (∀ w2 v' cs' f' mm, WS w0.heap.size w2 b fm a2 (x2 :: x :: bs) (f' :: env) ft mm v' cs' → WS w0.heap.size (w2.setCell ⟨b, 0, none⟩ (.pointer a)) b fm a (x :: bs) env ft mm v' cs') := ha
  obtain ⟨f', _, _, ht⟩ := lsS_tail ft l f2 env m
  have HT : Hid ((lsS ft l (f2 :: env) m).env = f' :: env) := ht
  have HSET : Hid (Fr (b :: x2.2 :: ob v) w (w.setCell ⟨b, 0, none⟩ (.pointer a2)) ∧ (w.setCell ⟨b, 0, none⟩ (.pointer a2)).heap.size = w.heap.size) := ⟨hset, hsz⟩
  have k0 := hw.cellS
  have q0 := hw.frozen 0
  generalize lsS ft l (f2 :: env) m = R at *
  clear hw1 hw hset hsz ha ht hc hnd ho hN hin hB hk h1 h2 h3 h4 ih
  go_enter Tryd.func78, Tryd.ntmps78
  go_upto_region 3 with fail
  generalize w.setCell ⟨b, 0, none⟩ (.pointer a2) = W1 at *
  go_wp2_with fail
  refine HLS.out.mono ?_
  rintro e w2 ⟨rfl, hp⟩
  obtain ⟨v', cs', i1, i2, i3, i4, i5⟩ := hp
  rw [HT.out] at i1
  have k2 := i1.cellS
  have q2 := i1.frozen 0
  have HG : Hid (WS w0.heap.size (w2.setCell ⟨b, 0, none⟩ (.pointer a)) b fm a (x :: bs) env ft R.m v' cs' ∧ (R.e = 0 → cs' = cs ++ R.c) ∧ cs'.length ≤ cs.length + qSs l ∧ Fr (b :: x2.2 :: ob v) w (w2.setCell ⟨b, 0, none⟩ (.pointer a)) ∧ ∀ g ∈ ob v', g ∈ ob v ∨ w.heap.size ≤ g) :=
    ⟨HA.out w2 v' cs' f' R.m i1, i2, i3, (HSET.out.1.trans i4).set (by simp) _ _, fun g hg => by rw [← HSET.out.2]; exact i5 g hg⟩
  clear i1 i2 i3 i4 i5 k0 q0 HLS
  go_wp2_with fail
  go_ret
  exact ⟨rfl, v', cs', HG.out⟩
end Go.Proofs.YtakaldbhaoidiaaDoor

/- The program's walker: statements, one after the other. -/
namespace Go.Proofs.YtakaldbhaoidiaaDoor
open Go.RowKit Go.Sort

mutual
theorem stS_m (ft : List (List UInt8 × Int)) : ∀ (s : St) (env : Env) (m : Int), m ≤ (stS ft s env m).m ∧ (stS ft s env m).m + 1 ≤ m + qS s
  | .mk k nm n a b ba bc l ea ec e ca cc c, env, m => by
    have h1 := lsS_m ft l ((lvZ env == 0, []) :: env) m
    have h2 := csS_m ft c env (lsS ft l ((lvZ env == 0, []) :: env) m).m
    have h3 := lsS_m ft e ((lvZ env == 0, []) :: env) (csS ft c env (lsS ft l ((lvZ env == 0, []) :: env) m).m).m
    have h4 := lsS_m ft l (dcEnv ((true, []) :: env) nm.data.toList 3) m
    rw [stS, qS]
    split
    · constructor <;> dsimp only <;> omega
    split
    · constructor <;> dsimp only <;> omega
    split
    · constructor <;> dsimp only <;> omega
    split
    · constructor <;> dsimp only <;> omega
    split
    · split
      · constructor <;> dsimp only <;> omega
      split
      · constructor <;> dsimp only <;> omega
      split
      · constructor <;> dsimp only <;> omega
      · constructor <;> dsimp only <;> omega
    split
    · split
      · constructor <;> dsimp only <;> omega
      · constructor <;> dsimp only <;> omega
    split
    · constructor <;> dsimp only <;> omega
    · constructor <;> dsimp only <;> omega
theorem lsS_m (ft : List (List UInt8 × Int)) : ∀ (l : List St) (env : Env) (m : Int), m ≤ (lsS ft l env m).m ∧ (lsS ft l env m).m ≤ m + qSs l
  | [], env, m => by rw [lsS, qSs]; constructor <;> dsimp only <;> omega
  | s :: r, env, m => by
    have h1 := stS_m ft s env (m + 1)
    have h2 := lsS_m ft r (stS ft s env (m + 1)).env (stS ft s env (m + 1)).m
    rw [lsS, qSs]
    split
    · constructor <;> omega
    · constructor <;> dsimp only <;> omega
theorem caS_m (ft : List (List UInt8 × Int)) : ∀ (c : Ca) (env : Env) (m : Int), m ≤ (caS ft c env m).m ∧ (caS ft c env m).m + 1 ≤ m + qC c
  | .mk n ba bc l, env, m => by
    have h1 := lsS_m ft l ((lvZ env == 0, []) :: env) m
    rw [caS, qC]
    constructor <;> omega
theorem csS_m (ft : List (List UInt8 × Int)) : ∀ (l : List Ca) (env : Env) (m : Int), m ≤ (csS ft l env m).m ∧ (csS ft l env m).m ≤ m + qCs l
  | [], env, m => by rw [csS, qCs]; constructor <;> dsimp only <;> omega
  | c :: r, env, m => by
    have h1 := caS_m ft c env m
    have h2 := csS_m ft r env (caS ft c env m).m
    rw [csS, qCs]
    split
    · constructor <;> dsimp only <;> omega
    · constructor <;> dsimp only <;> omega
end
theorem lsS_drop {ft : List (List UInt8 × Int)} {l : List St} {j : Nat} {env : Env} {m : Int} (h : j < l.length) : lsS ft (l.drop j) env m = if (stS ft l[j] env (m + 1)).e ≠ 0 then stS ft l[j] env (m + 1)
    else ⟨(lsS ft (l.drop (j + 1)) (stS ft l[j] env (m + 1)).env (stS ft l[j] env (m + 1)).m).e, (lsS ft (l.drop (j + 1)) (stS ft l[j] env (m + 1)).env (stS ft l[j] env (m + 1)).m).m, (lsS ft (l.drop (j + 1)) (stS ft l[j] env (m + 1)).env (stS ft l[j] env (m + 1)).m).env, (stS ft l[j] env (m + 1)).c ++ (lsS ft (l.drop (j + 1)) (stS ft l[j] env (m + 1)).env (stS ft l[j] env (m + 1)).m).c⟩ := by
  rw [List.drop_eq_getElem_cons h, lsS]
theorem qSs_drop {l : List St} {j : Nat} (h : j < l.length) : qSs (l.drop j) = qS l[j] + qSs (l.drop (j + 1)) := by
  rw [List.drop_eq_getElem_cons h, qSs]
theorem qSs_mem {l : List St} {x : St} (h : x ∈ l) : qS x ≤ qSs l := by
  induction l with
  | nil => cases h
  | cons y r ih =>
    rw [qSs]
    rcases List.mem_cons.1 h with rfl | h
    · omega
    · have := ih h; omega
theorem qS_pos (s : St) : 1 ≤ qS s := by rw [qS_eq]; omega
theorem ws_at {N b fm : Nat} {W : World} {a bs env ft m v cs} (h : WS N W b fm a bs env ft m v cs) (m' : Int) : WS N (W.setCell ⟨b, 2, none⟩ (.int .i64 m')) b fm a bs env ft m' v cs := by
  obtain ⟨k1, k2, k3, k4, k5, k6, k7⟩ := h
  have hset : Fr [b] W (W.setCell ⟨b, 2, none⟩ (.int .i64 m')) := (Fr.refl _ W).set (by simp) _ _
  have hn := List.nodup_cons.1 k5
  refine ⟨by simp [World.setCell, Array.getElem?_modify, k1], k2.fr hset (fun q hq hy => ?_), k3.fr hset (fun hy => ?_), own_keep k4 (fun q hq => hset.2.2.2.2 q (own_lt k4 q hq).2 (fun hy => ?_)), k5, k6, k7⟩
  · have : q = b := by simpa using hy
    subst this; exact hn.1 (by simp [hq])
  · have : fm = b := by simpa using hy
    exact hn.1 (by simp [this])
  · have : q = b := by simpa using hy
    subst this; exact k6 q hq (by simp)
abbrev StN (w0 : World) (b fm : Nat) (ft : List (List UInt8 × Int)) (k : Nat) : Prop := ∀ (s : St) (a : Option Addr) (x : Nat × Nat) (bs : List (Nat × Nat)) (env : Env) (m : Int) (v : Value) (cs : List Int) (w : World), qS s ≤ k → s.In w0 → Below w0.heap.size w0 w → WS w0.heap.size w b fm a (x :: bs) env ft m v cs → cs.length + qS s ≤ 1000000 → (∀ f ∈ env, f.2.length + qS s ≤ 900000) → 0 ≤ m → m + qS s ≤ 1000000001 →
  Calls Tryd.prog 46 #[.pointer (some ⟨b, 0, none⟩), s.val] w fun e w' => e = .returned (.int .i64 (stS ft s env m).e) ∧ LP w0.heap.size b fm a x bs ft v cs (qS s) w w' (stS ft s env m)
theorem LP.pre {N b fm : Nat} {a : Option Addr} {x : Nat × Nat} {bs : List (Nat × Nat)} {ft : List (List UInt8 × Int)} {v v1 : Value} {cs cs1 : List Int} {k k1 : Nat} {w w1 w2 : World} {r : SR} (h2 : cs1.length ≤ cs.length + k1) (h3 : Fr (b :: x.2 :: ob v) w w1) (h4 : ∀ g ∈ ob v1, g ∈ ob v ∨ w.heap.size ≤ g)
    (h : LP N b fm a x bs ft v1 cs1 k w1 w2 r) : ∃ v' cs', WS N w2 b fm a (x :: bs) r.env ft r.m v' cs' ∧ (r.e = 0 → cs' = cs1 ++ r.c) ∧ cs'.length ≤ cs.length + (k1 + k) ∧ Fr (b :: x.2 :: ob v) w w2 ∧ ∀ g ∈ ob v', g ∈ ob v ∨ w.heap.size ≤ g := by
  obtain ⟨v', cs', i1, i2, i3, i4, i5⟩ := h
  refine ⟨v', cs', i1, i2, by omega, h3.trans' i4 fun q hq => ?_, fun g hg => ?_⟩
  · rcases List.mem_cons.1 hq with rfl | hq
    · exact Or.inl (by simp)
    rcases List.mem_cons.1 hq with rfl | hq
    · exact Or.inl (by simp)
    · rcases h4 q hq with h' | h'
      · exact Or.inl (by simp [h'])
      · exact Or.inr h'
  · rcases i5 g hg with h' | h'
    · exact h4 g h'
    · exact Or.inr (Nat.le_trans h3.size h')

set_option maxRecDepth 100000 in
set_option maxHeartbeats 4000000 in
theorem nlist_step (w0 : World) (b fm : Nat) (ft : List (List UInt8 × Int)) (k : Nat) (ih : StN w0 b fm ft k) : LsN w0 b fm ft k := fun l la lc a x bs env m v cs w hk hin hB hw h1 h2 h3 h4 => by
  obtain ⟨⟨hlc, hcc, _, hrow⟩, hsub⟩ := hin
  have IH : Hid (StN w0 b fm ft k) := ih
  have HS : Hid (∀ y ∈ l, y.In w0) := hsub
  have HR : Hid (RowIn w0 la 14 (List.map St.cells l)) := hrow
  have HBW : Hid (Below w0.heap.size w0 w) := hB
  have HW : Hid (WS w0.heap.size w b fm a (x :: bs) env ft m v cs) := hw
  have HK : Hid (qSs l ≤ k ∧ cs.length + qSs l ≤ 1000000 ∧ (∀ f ∈ env, f.2.length + qSs l ≤ 900000) ∧ m + qSs l ≤ 1000000000) := ⟨hk, h1, h2, h4⟩
  have HN : Hid (∀ q ∈ b :: x.2 :: ob v, w0.heap.size ≤ q) := fun q hq => by
    rcases List.mem_cons.1 hq with rfl | hq
    · exact hw.2.2.2.2.2.2 q (by simp)
    rcases List.mem_cons.1 hq with rfl | hq
    · exact hw.2.2.2.2.2.2 _ (by simp [chB])
    · exact (own_lt hw.2.2.2.1 q hq).1
  obtain ⟨R, HRR⟩ : ∃ R, Hid (lsS ft l env m = R) := ⟨_, rfl⟩
  rw [HRR.out]
  have hNw : w0.heap.size ≤ w.heap.size := hB.size
  clear ih hsub hrow hB hw hk h1 h2 h4
  go_enter Tryd.func28, Tryd.ntmps28
  go_wp2_with fail
  go_loopw [10] (fun t10 wr => ∃ (j : Nat) (v' : Value) (cs' cd : List Int) (env' : Env) (mj : Int), j ≤ l.length ∧ t10 = .int .i64 j ∧ WS w0.heap.size wr b fm a (x :: bs) env' ft mj v' cs' ∧ ((lsS ft (l.drop j) env' mj).e = R.e ∧ (lsS ft (l.drop j) env' mj).m = R.m ∧ (lsS ft (l.drop j) env' mj).env = R.env ∧ (R.e = 0 → R.c = cd ++ (lsS ft (l.drop j) env' mj).c)) ∧ cs' = cs ++ cd ∧ cs'.length + qSs (l.drop j) ≤ cs.length + qSs l ∧ (∀ f ∈ env', f.2.length + qSs (l.drop j) ≤ 900000) ∧ 0 ≤ mj ∧ mj + qSs (l.drop j) ≤ 1000000000 ∧ Fr (b :: x.2 :: ob v) w wr ∧ ∀ g ∈ ob v', g ∈ ob v ∨ w.heap.size ≤ g) (fun t10 _ => l.length - (intOf t10).toNat)
  case atStart => exact ⟨0, v, cs, [], env, m, Nat.zero_le _, rfl, HW.out, ⟨by rw [← HRR.out]; rfl, by rw [← HRR.out]; rfl, by rw [← HRR.out]; rfl, fun _ => by rw [← HRR.out]; rfl⟩, by simp, by simp, by simpa using HK.out.2.2.1, h3, by simpa using HK.out.2.2.2, Fr.refl _ _, fun g hg => Or.inl hg⟩
  case round =>
    obtain ⟨j, v', cs', cd, env', mj, hj, rfl, g1, g2, g3, g4, g5, g6, g7, g8, g9⟩ := hrel
    have HX : Hid (WS w0.heap.size wr b fm a (x :: bs) env' ft mj v' cs' ∧ cs' = cs ++ cd ∧ cs'.length + qSs (l.drop j) ≤ cs.length + qSs l ∧ (∀ f ∈ env', f.2.length + qSs (l.drop j) ≤ 900000) ∧ mj + qSs (l.drop j) ≤ 1000000000 ∧ Fr (b :: x.2 :: ob v) w wr ∧ ∀ g ∈ ob v', g ∈ ob v ∨ w.heap.size ≤ g) := ⟨g1, g3, g4, g5, g7, g8, g9⟩
    have HQ : Hid ((lsS ft (l.drop j) env' mj).e = R.e ∧ (lsS ft (l.drop j) env' mj).m = R.m ∧ (lsS ft (l.drop j) env' mj).env = R.env ∧ (R.e = 0 → R.c = cd ++ (lsS ft (l.drop j) env' mj).c)) := g2
    have HBR : Hid (Below w0.heap.size w0 wr) := HBW.out.trans (g8.below HN.out hNw)
    have hlt0 := g1.lt
    clear g1 g2 g3 g4 g5 g7 g8 g9
    by_cases hlt : j < l.length
    · obtain ⟨g, o, rfl, hcs⟩ := rowS_at (HR.out.below HBR.out) hlt
      have hli : (j : Int) < (l.length : Int) := by omega
      have HD : Hid (lsS ft (l.drop j) env' mj = if (stS ft l[j] env' (mj + 1)).e ≠ 0 then stS ft l[j] env' (mj + 1)
    else ⟨(lsS ft (l.drop (j + 1)) (stS ft l[j] env' (mj + 1)).env (stS ft l[j] env' (mj + 1)).m).e, (lsS ft (l.drop (j + 1)) (stS ft l[j] env' (mj + 1)).env (stS ft l[j] env' (mj + 1)).m).m, (lsS ft (l.drop (j + 1)) (stS ft l[j] env' (mj + 1)).env (stS ft l[j] env' (mj + 1)).m).env, (stS ft l[j] env' (mj + 1)).c ++ (lsS ft (l.drop (j + 1)) (stS ft l[j] env' (mj + 1)).env (stS ft l[j] env' (mj + 1)).m).c⟩) := lsS_drop hlt
      have HSD : Hid (qSs (l.drop j) = qS l[j] + qSs (l.drop (j + 1)) ∧ qS l[j] ≤ qSs l ∧ 1 ≤ qS l[j]) := ⟨qSs_drop hlt, qSs_mem (List.getElem_mem hlt), qS_pos _⟩
      have HTA : Hid (mj + 1 ≤ (stS ft l[j] env' (mj + 1)).m ∧ (stS ft l[j] env' (mj + 1)).m + 1 ≤ mj + 1 + qS l[j]) := stS_m ft l[j] env' (mj + 1)
      have HTE : Hid (∀ f ∈ (stS ft l[j] env' (mj + 1)).env, f.2.length + qSs (l.drop (j + 1)) ≤ 900000) := by
        have hx := HX.out.2.2.2.1
        have hd := HSD.out
        match env', HX.out.1.2.1, hx with
        | [], hx, _ => exact hx.elim
        | f :: er, _, hx =>
          obtain ⟨f', _, hf, he⟩ := stS_tail ft l[j] f er (mj + 1)
          show ∀ _ ∈ _, _
          rw [he]
          intro q hq
          rcases List.mem_cons.1 hq with rfl | hq
          · have := hx f (by simp); omega
          · have := hx q (by simp [hq]); omega
      have HY : Hid (St.In w0 l[j]) := HS.out _ (List.getElem_mem hlt)
      generalize l[j] = y at *
      have hb2 := (Below.refl _ (wr.setCell ⟨b, 2, none⟩ (.int .i64 (mj + 1)))).alloc (Nat.le_refl _) (.cells #[.int .i64 y.kind, .string y.name, .int .i64 y.n, .int .i64 y.a.kind, .int .i64 y.a.n, .string y.a.name, .slice y.a.a y.a.args.length y.a.cap, .int .i64 y.b.kind, .int .i64 y.b.n, .string y.b.name, .slice y.b.a y.b.args.length y.b.cap, .slice y.ba y.body.length y.bc, .slice y.ea y.els.length y.ec, .slice y.ca y.cases.length y.cc] 43)
      have hfr : Fr (b :: x.2 :: ob v') wr ((wr.setCell ⟨b, 2, none⟩ (.int .i64 (mj + 1))).alloc (.cells #[.int .i64 y.kind, .string y.name, .int .i64 y.n, .int .i64 y.a.kind, .int .i64 y.a.n, .string y.a.name, .slice y.a.a y.a.args.length y.a.cap, .int .i64 y.b.kind, .int .i64 y.b.n, .string y.b.name, .slice y.b.a y.b.args.length y.b.cap, .slice y.ba y.body.length y.bc, .slice y.ea y.els.length y.ec, .slice y.ca y.cases.length y.cc] 43)) := ((Fr.refl _ wr).set (by simp) _ _).trans (Fr.of_below hb2)
      have hwA := (ws_at HX.out.1 (mj + 1)).stay hb2
      have HCL : Hid (Calls Tryd.prog 46 #[.pointer (some ⟨b, 0, none⟩), y.val] ((wr.setCell ⟨b, 2, none⟩ (.int .i64 (mj + 1))).alloc (.cells #[.int .i64 y.kind, .string y.name, .int .i64 y.n, .int .i64 y.a.kind, .int .i64 y.a.n, .string y.a.name, .slice y.a.a y.a.args.length y.a.cap, .int .i64 y.b.kind, .int .i64 y.b.n, .string y.b.name, .slice y.b.a y.b.args.length y.b.cap, .slice y.ba y.body.length y.bc, .slice y.ea y.els.length y.ec, .slice y.ca y.cases.length y.cc] 43)) fun e w' => e = .returned (.int .i64 (stS ft y env' (mj + 1)).e) ∧ LP w0.heap.size b fm a x bs ft v' cs' (qS y) ((wr.setCell ⟨b, 2, none⟩ (.int .i64 (mj + 1))).alloc (.cells #[.int .i64 y.kind, .string y.name, .int .i64 y.n, .int .i64 y.a.kind, .int .i64 y.a.n, .string y.a.name, .slice y.a.a y.a.args.length y.a.cap, .int .i64 y.b.kind, .int .i64 y.b.n, .string y.b.name, .slice y.b.a y.b.args.length y.b.cap, .slice y.ba y.body.length y.bc, .slice y.ea y.els.length y.ec, .slice y.ca y.cases.length y.cc] 43)) w' (stS ft y env' (mj + 1))) :=
        IH.out y a x bs env' (mj + 1) v' cs' _ (by have := HSD.out; have := HK.out.1; omega) HY.out (HBR.out.trans (hfr.below (fun q hq => by
          rcases List.mem_cons.1 hq with rfl | hq
          · exact HN.out q (by simp)
          rcases List.mem_cons.1 hq with rfl | hq
          · exact HN.out _ (by simp)
          · exact (own_lt HX.out.1.2.2.2.1 q hq).1) HBR.out.size)) hwA (by have := HSD.out; have := HX.out.2.2.1; have := HK.out.2.1; omega) (fun f hf => by have := HSD.out; have := HX.out.2.2.2.1 f hf; omega) (by omega) (by have := HSD.out; have := HX.out.2.2.2.2.1; omega)
      have HST : Hid (∀ w2, LP w0.heap.size b fm a x bs ft v' cs' (qS y) ((wr.setCell ⟨b, 2, none⟩ (.int .i64 (mj + 1))).alloc (.cells #[.int .i64 y.kind, .string y.name, .int .i64 y.n, .int .i64 y.a.kind, .int .i64 y.a.n, .string y.a.name, .slice y.a.a y.a.args.length y.a.cap, .int .i64 y.b.kind, .int .i64 y.b.n, .string y.b.name, .slice y.b.a y.b.args.length y.b.cap, .slice y.ba y.body.length y.bc, .slice y.ea y.els.length y.ec, .slice y.ca y.cases.length y.cc] 43)) w2 (stS ft y env' (mj + 1)) → ∃ v2 cs2, WS w0.heap.size w2 b fm a (x :: bs) (stS ft y env' (mj + 1)).env ft (stS ft y env' (mj + 1)).m v2 cs2 ∧ ((stS ft y env' (mj + 1)).e = 0 → cs2 = cs' ++ (stS ft y env' (mj + 1)).c) ∧ cs2.length ≤ cs'.length + (0 + qS y) ∧ Fr (b :: x.2 :: ob v') wr w2 ∧ ∀ g ∈ ob v2, g ∈ ob v' ∨ wr.heap.size ≤ g) := fun w2 hp => LP.pre (Nat.le_refl _) hfr (fun g hg => Or.inl hg) hp
      have k2 : wr.cell? ⟨b, 2, none⟩ = some (.int .i64 mj) := HX.out.1.cellM
      have q2 : wr.frozen? ⟨b, 2, none⟩ = false := HX.out.1.frozen 2
      have hmj : mj ≤ 1000000000 := by have := HX.out.2.2.2.2.1; omega
      generalize stS ft y env' (mj + 1) = Q at *
      unfold St.val at HCL
      have c0 : wr.cell? ⟨g, o + j * 14, none⟩ = some (.int .i64 y.kind) := by have := hcs 0 _ rfl; simpa only [← Nat.add_assoc, Nat.add_zero] using this
      have c1 : wr.cell? ⟨g, o + j * 14 + 1, none⟩ = some (.string y.name) := by have := hcs 1 _ rfl; simpa only [← Nat.add_assoc, Nat.add_zero] using this
      have c2 : wr.cell? ⟨g, o + j * 14 + 2, none⟩ = some (.int .i64 y.n) := by have := hcs 2 _ rfl; simpa only [← Nat.add_assoc, Nat.add_zero] using this
      have c3 : wr.cell? ⟨g, o + j * 14 + 3, none⟩ = some (.int .i64 y.a.kind) := by have := hcs 3 _ rfl; simpa only [← Nat.add_assoc, Nat.add_zero] using this
      have c4 : wr.cell? ⟨g, o + j * 14 + 4, none⟩ = some (.int .i64 y.a.n) := by have := hcs 4 _ rfl; simpa only [← Nat.add_assoc, Nat.add_zero] using this
      have c5 : wr.cell? ⟨g, o + j * 14 + 5, none⟩ = some (.string y.a.name) := by have := hcs 5 _ rfl; simpa only [← Nat.add_assoc, Nat.add_zero] using this
      have c6 : wr.cell? ⟨g, o + j * 14 + 6, none⟩ = some (.slice y.a.a y.a.args.length y.a.cap) := by have := hcs 6 _ rfl; simpa only [← Nat.add_assoc, Nat.add_zero] using this
      have c7 : wr.cell? ⟨g, o + j * 14 + 7, none⟩ = some (.int .i64 y.b.kind) := by have := hcs 7 _ rfl; simpa only [← Nat.add_assoc, Nat.add_zero] using this
      have c8 : wr.cell? ⟨g, o + j * 14 + 8, none⟩ = some (.int .i64 y.b.n) := by have := hcs 8 _ rfl; simpa only [← Nat.add_assoc, Nat.add_zero] using this
      have c9 : wr.cell? ⟨g, o + j * 14 + 9, none⟩ = some (.string y.b.name) := by have := hcs 9 _ rfl; simpa only [← Nat.add_assoc, Nat.add_zero] using this
      have c10 : wr.cell? ⟨g, o + j * 14 + 10, none⟩ = some (.slice y.b.a y.b.args.length y.b.cap) := by have := hcs 10 _ rfl; simpa only [← Nat.add_assoc, Nat.add_zero] using this
      have c11 : wr.cell? ⟨g, o + j * 14 + 11, none⟩ = some (.slice y.ba y.body.length y.bc) := by have := hcs 11 _ rfl; simpa only [← Nat.add_assoc, Nat.add_zero] using this
      have c12 : wr.cell? ⟨g, o + j * 14 + 12, none⟩ = some (.slice y.ea y.els.length y.ec) := by have := hcs 12 _ rfl; simpa only [← Nat.add_assoc, Nat.add_zero] using this
      have c13 : wr.cell? ⟨g, o + j * 14 + 13, none⟩ = some (.slice y.ca y.cases.length y.cc) := by have := hcs 13 _ rfl; simpa only [← Nat.add_assoc, Nat.add_zero] using this
      clear hcs hb2 hfr hwA
      go_wp2_with fail
      refine HCL.out.mono ?_
      rintro e w2 ⟨rfl, hp⟩
      have HP2 : Hid (∃ v2 cs2, WS w0.heap.size w2 b fm a (x :: bs) Q.env ft Q.m v2 cs2 ∧ (Q.e = 0 → cs2 = cs' ++ Q.c) ∧ cs2.length ≤ cs'.length + (0 + qS y) ∧ Fr (b :: x.2 :: ob v') wr w2 ∧ ∀ g ∈ ob v2, g ∈ ob v' ∨ wr.heap.size ≤ g) := HST.out w2 hp
      clear hp HCL HST c0 c1 c2 c3 c4 c5 c6 c7 c8 c9 c10 c11 c12 c13 k2 q2
      cases hry : (Q.e != 0)
      · have hry0 : Q.e = 0 := by simpa using hry
        have HV : Hid ((lsS ft (l.drop (j + 1)) Q.env Q.m).e = R.e ∧ (lsS ft (l.drop (j + 1)) Q.env Q.m).m = R.m ∧ (lsS ft (l.drop (j + 1)) Q.env Q.m).env = R.env ∧ (R.e = 0 → R.c = (cd ++ Q.c) ++ (lsS ft (l.drop (j + 1)) Q.env Q.m).c)) := by
          have := HQ.out
          rw [HD.out, if_neg (by simpa using hry0)] at this
          exact ⟨this.1, this.2.1, this.2.2.1, fun e => by rw [this.2.2.2 e]; simp⟩
        obtain ⟨v2, cs2, i1, i2, i3, i4, i5⟩ := HP2.out
        have HG : Hid (WS w0.heap.size w2 b fm a (x :: bs) Q.env ft Q.m v2 cs2 ∧ cs2 = cs ++ (cd ++ Q.c) ∧ cs2.length + qSs (l.drop (j + 1)) ≤ cs.length + qSs l ∧ Fr (b :: x.2 :: ob v) w w2 ∧ ∀ g ∈ ob v2, g ∈ ob v ∨ w.heap.size ≤ g) := by
          refine ⟨i1, ?_, ?_, HX.out.2.2.2.2.2.1.trans' i4 fun q hq => ?_, fun q hq => ?_⟩
          · rw [i2 hry0, HX.out.2.1]; simp only [List.append_assoc]
          · have := HX.out.2.2.1; have := HSD.out; omega
          · rcases List.mem_cons.1 hq with rfl | hq
            · exact Or.inl (by simp)
            rcases List.mem_cons.1 hq with rfl | hq
            · exact Or.inl (by simp)
            · rcases HX.out.2.2.2.2.2.2 q hq with h' | h'
              · exact Or.inl (by simp [h'])
              · exact Or.inr h'
          · rcases i5 q hq with h' | h'
            · exact HX.out.2.2.2.2.2.2 q h'
            · exact Or.inr (Nat.le_trans HX.out.2.2.2.2.2.1.size h')
        clear i1 i2 i3 i4 i5 hry0
        go_wp2_with fail
        go_roundw
        case rel => exact ⟨j + 1, v2, cs2, cd ++ Q.c, Q.env, Q.m, by omega, by go_num, HG.out.1, HV.out, HG.out.2.1, HG.out.2.2.1, HTE.out, by have := HTA.out; omega, by have := HTA.out; have := HSD.out; have := HX.out.2.2.2.2.1; omega, HG.out.2.2.2⟩
        case measure => simp [intOf]; omega
      · have hryn : Q.e ≠ 0 := by simpa using hry
        have HV : Hid (Q.e = R.e ∧ Q.m = R.m ∧ Q.env = R.env) := by
          have := HQ.out
          rw [HD.out, if_pos hryn] at this
          exact ⟨this.1, this.2.1, this.2.2.1⟩
        have HG : Hid (LP w0.heap.size b fm a x bs ft v cs (qSs l) w w2 R) := by
          obtain ⟨v2, cs2, i1, i2, i3, i4, i5⟩ := HP2.out
          refine ⟨v2, cs2, by rw [← HV.out.2.1, ← HV.out.2.2]; exact i1, fun e => absurd (HV.out.1.trans e) hryn, ?_, HX.out.2.2.2.2.2.1.trans' i4 fun q hq => ?_, fun q hq => ?_⟩
          · have := HX.out.2.2.1; have := HSD.out; omega
          · rcases List.mem_cons.1 hq with rfl | hq
            · exact Or.inl (by simp)
            rcases List.mem_cons.1 hq with rfl | hq
            · exact Or.inl (by simp)
            · rcases HX.out.2.2.2.2.2.2 q hq with h' | h'
              · exact Or.inl (by simp [h'])
              · exact Or.inr h'
          · rcases i5 q hq with h' | h'
            · exact HX.out.2.2.2.2.2.2 q h'
            · exact Or.inr (Nat.le_trans HX.out.2.2.2.2.2.1.size h')
        clear hryn
        go_wp2_with fail
        go_ret
        exact ⟨ret_int HV.out.1, HG.out⟩
    · have hli : ¬ (j : Int) < (l.length : Int) := by omega
      have HE : Hid (R.e = 0 ∧ R.m = mj ∧ R.env = env' ∧ R.c = cd) := by
        have := HQ.out
        rw [List.drop_eq_nil_of_le (by omega), lsS] at this
        obtain ⟨e1, e2, e3, e4⟩ := this
        exact ⟨e1.symm, e2.symm, e3.symm, by simpa using e4 e1.symm⟩
      go_wp2_with fail
      go_ret
      refine ⟨ret_int HE.out.1.symm, v', cs', by rw [HE.out.2.1, HE.out.2.2.1]; exact HX.out.1, fun _ => by rw [HE.out.2.2.2]; exact HX.out.2.1, by have := HX.out.2.2.1; omega, HX.out.2.2.2.2.2.1, HX.out.2.2.2.2.2.2⟩
end Go.Proofs.YtakaldbhaoidiaaDoor

/- The program's walker: the state inside a statement. -/
namespace Go.Proofs.YtakaldbhaoidiaaDoor
open Go.RowKit Go.Sort

/-- The walker somewhere inside a statement, against the world w that it began in: what was called so far, if all was well. -/
def GS (N b fm : Nat) (a : Option Addr) (x : Nat × Nat) (bs : List (Nat × Nat)) (ft : List (List UInt8 × Int)) (v : Value) (cs : List Int) (L : List Nat) (ok : Prop) (k : Nat) (c : List Int) (w W : World) (env : Env) (m : Int) : Prop :=
  ∃ v' cs', WS N W b fm a (x :: bs) env ft m v' cs' ∧ (ok → cs' = cs ++ c) ∧ cs'.length ≤ cs.length + k ∧ Fr L w W ∧ ∀ g ∈ ob v', g ∈ ob v ∨ w.heap.size ≤ g
theorem GS.start {N b fm : Nat} {a x bs ft v cs L w env m} (h : WS N w b fm a (x :: bs) env ft m v cs) (ok : Prop) : GS N b fm a x bs ft v cs L ok 0 [] w w env m :=
  ⟨v, cs, h, fun _ => by simp, by omega, Fr.refl _ _, fun _ hg => Or.inl hg⟩
theorem GS.below {N b fm : Nat} {a x bs ft v cs L ok k c w W W' env m} (h : GS N b fm a x bs ft v cs L ok k c w W env m) (hb : Below W.heap.size W W') : GS N b fm a x bs ft v cs L ok k c w W' env m := by
  obtain ⟨v', cs', i1, i2, i3, i4, i5⟩ := h
  exact ⟨v', cs', i1.stay hb, i2, i3, i4.trans (Fr.of_below hb), i5⟩
theorem GS.frw {N b fm : Nat} {a x bs ft v cs L ok k c w W env m} (h : GS N b fm a x bs ft v cs L ok k c w W env m) : Fr L w W := by
  obtain ⟨v', cs', i1, i2, i3, i4, i5⟩ := h
  exact i4
theorem GS.scope {N b fm : Nat} {a x bs ft v cs L ok k c w W env m} (h : GS N b fm a x bs ft v cs L ok k c w W env m) : W.cell? ⟨b, 0, none⟩ = some (.pointer a) := by
  obtain ⟨v', cs', i1, i2, i3, i4, i5⟩ := h
  exact i1.cellS
theorem GS.chain {N b fm : Nat} {a x bs ft v cs L ok k c w W env m} (h : GS N b fm a x bs ft v cs L ok k c w W env m) : Chain W a (x :: bs) env := by
  obtain ⟨v', cs', i1, i2, i3, i4, i5⟩ := h
  exact i1.2.1
/-- What stands while a statement is looked at: the world that it began in, but for the walker's own blocks; and the scope at hand. -/
def SX (b : Nat) (a : Option Addr) (L : List Nat) (w W : World) : Prop := Fr L w W ∧ W.cell? ⟨b, 0, none⟩ = some (.pointer a)
theorem GS.sx {N b fm : Nat} {a x bs ft v cs L ok k c w W env m} (h : GS N b fm a x bs ft v cs L ok k c w W env m) : SX b a L w W := ⟨h.frw, h.scope⟩
theorem SX.below {b : Nat} {a : Option Addr} {L : List Nat} {w W W' : World} (h : SX b a L w W) (hb : Below W.heap.size W W') : SX b a L w W' :=
  ⟨h.1.trans (Fr.of_below hb), (hb.cell (World.block_lt_of_cell? W _ h.2)).trans h.2⟩
theorem SX.cell {b : Nat} {a : Option Addr} {L : List Nat} {w W : World} (h : SX b a L w W) {B i : Nat} {y : Value} (hy : w.cell? ⟨B, i, none⟩ = some y) (hB : B ∉ L) : W.cell? ⟨B, i, none⟩ = some y :=
  (h.1.cell (World.block_lt_of_cell? w _ hy) hB).trans hy

/-- An expression. -/
theorem gs_expr (w0 : World) (b fm : Nat) {a x bs ft v cs L ok k c w W env m} (h : GS w0.heap.size b fm a x bs ft v cs L ok k c w W env m) (y : Ex) (hin : y.In w0) (hB : Below w0.heap.size w0 w) (hL : ∀ g ∈ L, w0.heap.size ≤ g) (hs : ∀ g ∈ b :: ob v, g ∈ L) (hl : cs.length + k + y.sz ≤ 1000000) :
    Calls Tryd.prog 63 #[.pointer (some ⟨b, 0, none⟩), y.val] W fun e W' => e = .returned (.int .i64 (exZ env ft y)) ∧ GS w0.heap.size b fm a x bs ft v cs L (ok ∧ exZ env ft y = 0) (k + y.sz) (c ++ exC ft y) w W' env m := by
  obtain ⟨v1, cs1, i1, i2, i3, i4, i5⟩ := h
  have hBW : Below w0.heap.size w0 W := hB.trans (i4.below hL hB.size)
  refine (nexpr_k w0 b fm a (x :: bs) env ft y.sz y m v1 cs1 W (Nat.le_refl _) hin hBW i1 (by omega)).mono ?_
  rintro e W' ⟨rfl, v2, cs2, j1, j2, j3, j4, j5⟩
  refine ⟨rfl, v2, cs2, j1, fun ho => by rw [j2 ho.2, i2 ho.1, List.append_assoc], by omega, i4.trans' j4 fun q hq => ?_, fun g hg => ?_⟩
  · rcases List.mem_cons.1 hq with rfl | hq
    · exact Or.inl (hs q (by simp))
    · rcases i5 q hq with h' | h'
      · exact Or.inl (hs q (by simp [h']))
      · exact Or.inr h'
  · rcases j5 g hg with h' | h'
    · exact i5 g h'
    · exact Or.inr (Nat.le_trans i4.size h')
/-- A name made known. -/
theorem gs_declare (w0 : World) (b fm : Nat) {a x bs ft v cs L ok k c w W env m} (h : GS w0.heap.size b fm a x bs ft v cs L ok k c w W env m) (s : ByteArray) (hz : s.size ≤ 140737488351232) (kd : Int) (hkd : I64 kd) (hs : x.2 ∈ L) (hn : ∀ f ∈ env, f.2.length < 1000000) :
    Calls Tryd.prog 27 #[.pointer a, .string s, .int .i64 kd] W fun e W' => e = .returned (.int .i64 (dcZ env s.data.toList)) ∧ GS w0.heap.size b fm a x bs ft v cs L ok k c w W' (dcEnv env s.data.toList kd) m := by
  obtain ⟨v1, cs1, i1, i2, i3, i4, i5⟩ := h
  have hnd := i1.2.2.2.2.1
  refine (declare_any s hz kd hkd a x bs env W i1.2.1 (List.nodup_cons.1 (List.nodup_cons.1 hnd).2).2 hn).mono ?_
  rintro e W' ⟨rfl, j1, j2⟩
  refine ⟨rfl, v1, cs1, ?_, i2, i3, i4.trans' (Fr.of_only j2) (fun q hq => ?_), i5⟩
  · obtain ⟨k1, k2, k3, k4, k5, k6, k7⟩ := i1
    have hxb : x.2 ∈ chB (x :: bs) := by simp [chB]
    refine ⟨(j2.2.2.2.2 b (Array.getElem?_eq_some_iff.1 k1).1 (fun e => ?_)).trans k1, j1, k3.fr (Fr.of_only j2) (fun hy => ?_), own_keep k4 (fun g hg => j2.2.2.2.2 g (own_lt k4 g hg).2 (fun e => ?_)), k5, k6, k7⟩
    · exact (List.nodup_cons.1 k5).1 (by rw [e]; simp [hxb])
    · have : fm = x.2 := by simpa using hy
      exact (List.nodup_cons.1 (List.nodup_cons.1 k5).2).1 (by rw [this]; exact hxb)
    · exact k6 g hg (by rw [e]; simp [hxb])
  · have : q = x.2 := by simpa using hq
    subst this; exact Or.inl hs
end Go.Proofs.YtakaldbhaoidiaaDoor

/- The program's walker: a statement that makes a name known. -/
namespace Go.Proofs.YtakaldbhaoidiaaDoor
open Go.RowKit Go.Sort

theorem GS.lp {N b fm : Nat} {a x bs ft v cs ok k c w w1 W env m} {r : SR} {K : Nat} (h : GS N b fm a x bs ft v cs (b :: x.2 :: ob v) ok k c w1 W env m) (hb : Below w.heap.size w w1) (h1 : r.e = 0 → ok ∧ c = r.c) (h2 : env = r.env) (h3 : m = r.m) (h4 : k ≤ K) : LP N b fm a x bs ft v cs K w W r := by
  obtain ⟨v', cs', i1, i2, i3, i4, i5⟩ := h
  subst h2 h3
  exact ⟨v', cs', i1, fun e => by rw [i2 (h1 e).1, (h1 e).2], by omega, (Fr.of_below hb).trans i4, fun g hg => by
    rcases i5 g hg with h' | h'
    · exact Or.inl h'
    · exact Or.inr (Nat.le_trans hb.size h')⟩
theorem or2 (r1 r2 : Int) (W : World) : Calls Tryd.prog 62 #[.slice (some ⟨W.heap.size, 0, none⟩) 2 2] (W.alloc (.cells #[.int .i64 r1, .int .i64 r2] 27)) fun e w' => e = .returned (.int .i64 (orF [r1, r2])) ∧ w' = W.alloc (.cells #[.int .i64 r1, .int .i64 r2] 27) :=
  or_any [r1, r2] W.heap.size 2 _ (by simp) (fun j h => by
    rw [World.cell?_alloc_at _ _ _ _ rfl]
    match j, h with
    | 0, _ => rfl
    | 1, _ => rfl)
theorem or3 (r1 r2 r3 : Int) (W : World) : Calls Tryd.prog 62 #[.slice (some ⟨W.heap.size, 0, none⟩) 3 3] (W.alloc (.cells #[.int .i64 r1, .int .i64 r2, .int .i64 r3] 27)) fun e w' => e = .returned (.int .i64 (orF [r1, r2, r3])) ∧ w' = W.alloc (.cells #[.int .i64 r1, .int .i64 r2, .int .i64 r3] 27) :=
  or_any [r1, r2, r3] W.heap.size 3 _ (by simp) (fun j h => by
    rw [World.cell?_alloc_at _ _ _ _ rfl]
    match j, h with
    | 0, _ => rfl
    | 1, _ => rfl
    | 2, _ => rfl)
theorem orF2 {r1 r2 : Int} : orF [r1, r2] = 0 ↔ r1 = 0 ∧ r2 = 0 := by
  simp only [orF]; split <;> (try split) <;> simp_all
theorem orF3 {r1 r2 r3 : Int} : orF [r1, r2, r3] = 0 ↔ r1 = 0 ∧ r2 = 0 ∧ r3 = 0 := by
  simp only [orF]; split <;> (try split) <;> (try split) <;> simp_all
abbrev stBox (s : St) : Obj := .cells #[.int .i64 s.kind, .string s.name, .int .i64 s.n, .int .i64 s.a.kind, .int .i64 s.a.n, .string s.a.name, .slice s.a.a s.a.args.length s.a.cap, .int .i64 s.b.kind, .int .i64 s.b.n, .string s.b.name, .slice s.b.a s.b.args.length s.b.cap, .slice s.ba s.body.length s.bc, .slice s.ea s.els.length s.ec, .slice s.ca s.cases.length s.cc] 43
theorem SX.box {b : Nat} {a : Option Addr} {L : List Nat} {w W : World} {s : St} {i : Nat} {y : Value} (hL : w.heap.size ∉ L) (hy : (w.alloc (stBox s)).cell? ⟨w.heap.size, i, none⟩ = some y) (h : SX b a L (w.alloc (stBox s)) W) : W.cell? ⟨w.heap.size, i, none⟩ = some y := h.cell hy hL
theorem ws_new {N b fm : Nat} {a x bs ft v cs w env m} (h : WS N w b fm a (x :: bs) env ft m v cs) : w.heap.size ∉ b :: x.2 :: ob v := fun hy => by
  rcases List.mem_cons.1 hy with e | hy
  · have := h.lt; omega
  rcases List.mem_cons.1 hy with e | hy
  · have := h.2.1.lt x.2 (by simp [chB]); omega
  · have := (own_lt h.2.2.2.1 _ hy).2; omega

theorem stS_let {ft : List (List UInt8 × Int)} {s : St} {env : Env} {m : Int} (h : s.kind = 1) : stS ft s env m = ⟨orF [exZ env ft s.a, dcZ env s.name.data.toList], m, dcEnv env s.name.data.toList 1, exC ft s.a⟩ := by
  obtain ⟨k, nm, n, a, b, ba, bc, l, ea, ec, e, ca, cc, c⟩ := s
  subst h
  rw [stS, if_pos rfl]; rfl
set_option maxRecDepth 100000 in
set_option maxHeartbeats 2000000 in
theorem nst_let (w0 : World) (b fm : Nat) (ft : List (List UInt8 × Int)) (s : St) (a : Option Addr) (x : Nat × Nat) (bs : List (Nat × Nat)) (env : Env) (m : Int) (v : Value) (cs : List Int) (w : World) (hk : s.kind = 1) (hin : s.In w0) (hB : Below w0.heap.size w0 w) (hw : WS w0.heap.size w b fm a (x :: bs) env ft m v cs) (h1 : cs.length + qS s ≤ 1000000) (h2 : ∀ f ∈ env, f.2.length + qS s ≤ 900000) :
    Calls Tryd.prog 46 #[.pointer (some ⟨b, 0, none⟩), s.val] w fun e w' => e = .returned (.int .i64 (stS ft s env m).e) ∧ LP w0.heap.size b fm a x bs ft v cs (qS s) w w' (stS ft s env m) := by
  rw [stS_let hk]
  have hq := qS_eq s
  obtain ⟨_, hz, _, hia, hib, _⟩ := St.in_iff.1 hin
  have hb0 := (Below.refl _ w).alloc (Nat.le_refl _) (stBox s)
  have hB1 : Below w0.heap.size w0 (w.alloc (stBox s)) := hB.trans (hb0.mono hB.size)
  have hL : ∀ g ∈ b :: x.2 :: ob v, w0.heap.size ≤ g := fun q hq => by
    rcases List.mem_cons.1 hq with rfl | hq
    · exact hw.2.2.2.2.2.2 q (by simp)
    rcases List.mem_cons.1 hq with rfl | hq
    · exact hw.2.2.2.2.2.2 _ (by simp [chB])
    · exact (own_lt hw.2.2.2.1 q hq).1
  have hs : ∀ g ∈ b :: ob v, g ∈ b :: x.2 :: ob v := fun g hg => by
    rcases List.mem_cons.1 hg with rfl | hg <;> simp_all
  have hnL := ws_new hw
  have g0 : GS w0.heap.size b fm a x bs ft v cs (b :: x.2 :: ob v) True 0 [] (w.alloc (stBox s)) (w.alloc (stBox s)).drew env m := (GS.start (hw.stay hb0) True).below (Below.drew (Below.refl _ _))
  have HE : Hid (∀ W, GS w0.heap.size b fm a x bs ft v cs (b :: x.2 :: ob v) True 0 [] (w.alloc (stBox s)) W env m → Calls Tryd.prog 63 #[.pointer (some ⟨b, 0, none⟩), .agg #[.int .i64 s.a.kind, .int .i64 s.a.n, .string s.a.name, .slice s.a.a s.a.args.length s.a.cap]] W fun e W' => e = .returned (.int .i64 (exZ env ft s.a)) ∧ GS w0.heap.size b fm a x bs ft v cs (b :: x.2 :: ob v) (True ∧ exZ env ft s.a = 0) (0 + s.a.sz) ([] ++ exC ft s.a) (w.alloc (stBox s)) W' env m) :=
    fun W h => gs_expr w0 b fm h s.a hia hB1 hL hs (by omega)
  have HD : Hid (∀ W, GS w0.heap.size b fm a x bs ft v cs (b :: x.2 :: ob v) (True ∧ exZ env ft s.a = 0) (0 + s.a.sz) ([] ++ exC ft s.a) (w.alloc (stBox s)) W env m → Calls Tryd.prog 27 #[.pointer a, .string s.name, .int .i64 1] W fun e W' => e = .returned (.int .i64 (dcZ env s.name.data.toList)) ∧ GS w0.heap.size b fm a x bs ft v cs (b :: x.2 :: ob v) (True ∧ exZ env ft s.a = 0) (0 + s.a.sz) ([] ++ exC ft s.a) (w.alloc (stBox s)) W' (dcEnv env s.name.data.toList 1) m) :=
    fun W h => gs_declare w0 b fm h s.name hz 1 (by unfold I64; omega) (by simp) (fun f hf => by have := h2 f hf; omega)
  have HF : Hid (∀ W, GS w0.heap.size b fm a x bs ft v cs (b :: x.2 :: ob v) (True ∧ exZ env ft s.a = 0) (0 + s.a.sz) ([] ++ exC ft s.a) (w.alloc (stBox s)) W (dcEnv env s.name.data.toList 1) m → LP w0.heap.size b fm a x bs ft v cs (qS s) w (W.alloc (.cells #[.int .i64 (exZ env ft s.a), .int .i64 (dcZ env s.name.data.toList)] 27)) ⟨orF [exZ env ft s.a, dcZ env s.name.data.toList], m, dcEnv env s.name.data.toList 1, exC ft s.a⟩) :=
    fun W h => (h.below ((Below.refl _ _).alloc (Nat.le_refl _) _)).lp hb0 (fun e => ⟨⟨trivial, (orF2.1 e).1⟩, by simp⟩) rfl rfl (by omega)
  have y0 : ∀ W, SX b a (b :: x.2 :: ob v) (w.alloc (stBox s)) W → W.cell? ⟨b, 0, none⟩ = some (.pointer a) := fun W h => h.2
  have y1 : ∀ W, SX b a (b :: x.2 :: ob v) (w.alloc (stBox s)) W → W.cell? ⟨w.heap.size, 1, none⟩ = some (.string s.name) := fun W h => SX.box hnL (by rw [World.cell?_alloc_at _ _ _ _ rfl]; rfl) h
  have y3 : ∀ W, SX b a (b :: x.2 :: ob v) (w.alloc (stBox s)) W → W.cell? ⟨w.heap.size, 3, none⟩ = some (.int .i64 s.a.kind) := fun W h => SX.box hnL (by rw [World.cell?_alloc_at _ _ _ _ rfl]; rfl) h
  have y4 : ∀ W, SX b a (b :: x.2 :: ob v) (w.alloc (stBox s)) W → W.cell? ⟨w.heap.size, 4, none⟩ = some (.int .i64 s.a.n) := fun W h => SX.box hnL (by rw [World.cell?_alloc_at _ _ _ _ rfl]; rfl) h
  have y5 : ∀ W, SX b a (b :: x.2 :: ob v) (w.alloc (stBox s)) W → W.cell? ⟨w.heap.size, 5, none⟩ = some (.string s.a.name) := fun W h => SX.box hnL (by rw [World.cell?_alloc_at _ _ _ _ rfl]; rfl) h
  have y6 : ∀ W, SX b a (b :: x.2 :: ob v) (w.alloc (stBox s)) W → W.cell? ⟨w.heap.size, 6, none⟩ = some (.slice s.a.a s.a.args.length s.a.cap) := fun W h => SX.box hnL (by rw [World.cell?_alloc_at _ _ _ _ rfl]; rfl) h
  clear hin hB hw h1 h2 hq hz hia hib hb0 hB1 hL hs hnL
  obtain ⟨W1, hW1⟩ : ∃ W1, w.alloc (stBox s) = W1 := ⟨_, rfl⟩
  rw [hW1] at g0 HE HD HF y0 y1 y3 y4 y5 y6
  unfold stBox at hW1
  rw [hk] at hW1
  have HW1 := show Hid _ from hW1
  clear hW1
  generalize exZ env ft s.a = ra at *
  generalize dcZ env s.name.data.toList = rd at *
  unfold St.val
  rw [hk]
  go_enter Tryd.func46, Tryd.ntmps46
  go_wp2_with fail
  rw [HW1.out]
  clear HW1
  go_region_held (fun w' => SX b a (b :: x.2 :: ob v) W1 w') (first | exact GS.sx (by assumption) | exact SX.below (by assumption) ((Below.refl _ _).alloc (Nat.le_refl _) _) | assumption)
    (first
      | (go_at_call 63; refine (HE.out _ (by assumption)).mono ?_; rintro e w' ⟨rfl, hg⟩)
      | (go_at_call 27; refine (HD.out _ (by assumption)).mono ?_; rintro e w' ⟨rfl, hg⟩)
      | (go_at_call 62; refine (or2 ra rd _).mono ?_; rintro e w' ⟨rfl, rfl⟩))
  all_goals go_wp2_with fail
  all_goals go_ret
  all_goals exact ⟨rfl, HF.out _ (by assumption)⟩
end Go.Proofs.YtakaldbhaoidiaaDoor

/- The program's walker: an array, a write, a store. -/
namespace Go.Proofs.YtakaldbhaoidiaaDoor
open Go.RowKit Go.Sort

theorem stS_arr {ft : List (List UInt8 × Int)} {s : St} {env : Env} {m : Int} (h : s.kind = 2) : stS ft s env m = ⟨dcZ env s.name.data.toList, m, dcEnv env s.name.data.toList 2, []⟩ := by
  obtain ⟨k, nm, n, a, b, ba, bc, l, ea, ec, e, ca, cc, c⟩ := s
  subst h
  rw [stS, if_neg (by decide), if_pos rfl]; rfl
set_option maxRecDepth 100000 in
set_option maxHeartbeats 2000000 in
theorem nst_arr (w0 : World) (b fm : Nat) (ft : List (List UInt8 × Int)) (s : St) (a : Option Addr) (x : Nat × Nat) (bs : List (Nat × Nat)) (env : Env) (m : Int) (v : Value) (cs : List Int) (w : World) (hk : s.kind = 2) (hin : s.In w0) (hB : Below w0.heap.size w0 w) (hw : WS w0.heap.size w b fm a (x :: bs) env ft m v cs) (h1 : cs.length + qS s ≤ 1000000) (h2 : ∀ f ∈ env, f.2.length + qS s ≤ 900000) :
    Calls Tryd.prog 46 #[.pointer (some ⟨b, 0, none⟩), s.val] w fun e w' => e = .returned (.int .i64 (stS ft s env m).e) ∧ LP w0.heap.size b fm a x bs ft v cs (qS s) w w' (stS ft s env m) := by
  rw [stS_arr hk]
  have hq := qS_eq s
  obtain ⟨_, hz, _, hia, hib, _⟩ := St.in_iff.1 hin
  have hb0 := (Below.refl _ w).alloc (Nat.le_refl _) (stBox s)
  have hB1 : Below w0.heap.size w0 (w.alloc (stBox s)) := hB.trans (hb0.mono hB.size)
  have hL : ∀ g ∈ b :: x.2 :: ob v, w0.heap.size ≤ g := fun q hq => by
    rcases List.mem_cons.1 hq with rfl | hq
    · exact hw.2.2.2.2.2.2 q (by simp)
    rcases List.mem_cons.1 hq with rfl | hq
    · exact hw.2.2.2.2.2.2 _ (by simp [chB])
    · exact (own_lt hw.2.2.2.1 q hq).1
  have hs : ∀ g ∈ b :: ob v, g ∈ b :: x.2 :: ob v := fun g hg => by
    rcases List.mem_cons.1 hg with rfl | hg <;> simp_all
  have hnL := ws_new hw
  have g0 : GS w0.heap.size b fm a x bs ft v cs (b :: x.2 :: ob v) True 0 [] (w.alloc (stBox s)) (w.alloc (stBox s)).drew env m := (GS.start (hw.stay hb0) True).below (Below.drew (Below.refl _ _))
  have HD : Hid (∀ W, GS w0.heap.size b fm a x bs ft v cs (b :: x.2 :: ob v) True 0 [] (w.alloc (stBox s)) W env m → Calls Tryd.prog 27 #[.pointer a, .string s.name, .int .i64 2] W fun e W' => e = .returned (.int .i64 (dcZ env s.name.data.toList)) ∧ GS w0.heap.size b fm a x bs ft v cs (b :: x.2 :: ob v) True 0 [] (w.alloc (stBox s)) W' (dcEnv env s.name.data.toList 2) m) :=
    fun W h => gs_declare w0 b fm h s.name hz 2 (by unfold I64; omega) (by simp) (fun f hf => by have := h2 f hf; omega)
  have HF : Hid (∀ W, GS w0.heap.size b fm a x bs ft v cs (b :: x.2 :: ob v) True 0 [] (w.alloc (stBox s)) W (dcEnv env s.name.data.toList 2) m → LP w0.heap.size b fm a x bs ft v cs (qS s) w W ⟨dcZ env s.name.data.toList, m, dcEnv env s.name.data.toList 2, []⟩) :=
    fun W h => h.lp hb0 (fun _ => ⟨trivial, rfl⟩) rfl rfl (by omega)
  have y0 : ∀ W, SX b a (b :: x.2 :: ob v) (w.alloc (stBox s)) W → W.cell? ⟨b, 0, none⟩ = some (.pointer a) := fun W h => h.2
  have y1 : ∀ W, SX b a (b :: x.2 :: ob v) (w.alloc (stBox s)) W → W.cell? ⟨w.heap.size, 1, none⟩ = some (.string s.name) := fun W h => SX.box hnL (by rw [World.cell?_alloc_at _ _ _ _ rfl]; rfl) h
  clear hin hB hw h1 h2 hq hz hia hib hb0 hB1 hL hs hnL
  obtain ⟨W1, hW1⟩ : ∃ W1, w.alloc (stBox s) = W1 := ⟨_, rfl⟩
  rw [hW1] at g0 HD HF y0 y1
  unfold stBox at hW1
  rw [hk] at hW1
  have HW1 := show Hid _ from hW1
  clear hW1
  generalize dcZ env s.name.data.toList = rd at *
  unfold St.val
  rw [hk]
  go_enter Tryd.func46, Tryd.ntmps46
  go_wp2_with fail
  rw [HW1.out]
  clear HW1
  go_region_held (fun w' => SX b a (b :: x.2 :: ob v) W1 w') (first | exact GS.sx (by assumption) | exact SX.below (by assumption) ((Below.refl _ _).alloc (Nat.le_refl _) _) | assumption)
    (first | (go_at_call 27; refine (HD.out _ (by assumption)).mono ?_; rintro e w' ⟨rfl, hg⟩))
  all_goals go_wp2_with fail
  all_goals go_ret
  all_goals exact ⟨rfl, HF.out _ (by assumption)⟩
theorem stS_asg {ft : List (List UInt8 × Int)} {s : St} {env : Env} {m : Int} (h : s.kind = 3) : stS ft s env m = ⟨orF [wrZ (envAt env s.name.data.toList), exZ env ft s.a], m, env, exC ft s.a⟩ := by
  obtain ⟨k, nm, n, a, b, ba, bc, l, ea, ec, e, ca, cc, c⟩ := s
  subst h
  rw [stS, if_neg (by decide), if_neg (by decide), if_pos rfl]; rfl
set_option maxRecDepth 100000 in
set_option maxHeartbeats 2000000 in
theorem nst_asg (w0 : World) (b fm : Nat) (ft : List (List UInt8 × Int)) (s : St) (a : Option Addr) (x : Nat × Nat) (bs : List (Nat × Nat)) (env : Env) (m : Int) (v : Value) (cs : List Int) (w : World) (hk : s.kind = 3) (hin : s.In w0) (hB : Below w0.heap.size w0 w) (hw : WS w0.heap.size w b fm a (x :: bs) env ft m v cs) (h1 : cs.length + qS s ≤ 1000000) (_h2 : ∀ f ∈ env, f.2.length + qS s ≤ 900000) :
    Calls Tryd.prog 46 #[.pointer (some ⟨b, 0, none⟩), s.val] w fun e w' => e = .returned (.int .i64 (stS ft s env m).e) ∧ LP w0.heap.size b fm a x bs ft v cs (qS s) w w' (stS ft s env m) := by
  rw [stS_asg hk]
  have hq := qS_eq s
  obtain ⟨_, hz, _, hia, hib, _⟩ := St.in_iff.1 hin
  have hb0 := (Below.refl _ w).alloc (Nat.le_refl _) (stBox s)
  have hB1 : Below w0.heap.size w0 (w.alloc (stBox s)) := hB.trans (hb0.mono hB.size)
  have hL : ∀ g ∈ b :: x.2 :: ob v, w0.heap.size ≤ g := fun q hq => by
    rcases List.mem_cons.1 hq with rfl | hq
    · exact hw.2.2.2.2.2.2 q (by simp)
    rcases List.mem_cons.1 hq with rfl | hq
    · exact hw.2.2.2.2.2.2 _ (by simp [chB])
    · exact (own_lt hw.2.2.2.1 q hq).1
  have hs : ∀ g ∈ b :: ob v, g ∈ b :: x.2 :: ob v := fun g hg => by
    rcases List.mem_cons.1 hg with rfl | hg <;> simp_all
  have hnL := ws_new hw
  have g0 : GS w0.heap.size b fm a x bs ft v cs (b :: x.2 :: ob v) True 0 [] (w.alloc (stBox s)) (w.alloc (stBox s)).drew env m := (GS.start (hw.stay hb0) True).below (Below.drew (Below.refl _ _))
  have HE : Hid (∀ W, GS w0.heap.size b fm a x bs ft v cs (b :: x.2 :: ob v) True 0 [] (w.alloc (stBox s)) W env m → Calls Tryd.prog 63 #[.pointer (some ⟨b, 0, none⟩), .agg #[.int .i64 s.a.kind, .int .i64 s.a.n, .string s.a.name, .slice s.a.a s.a.args.length s.a.cap]] W fun e W' => e = .returned (.int .i64 (exZ env ft s.a)) ∧ GS w0.heap.size b fm a x bs ft v cs (b :: x.2 :: ob v) (True ∧ exZ env ft s.a = 0) (0 + s.a.sz) ([] ++ exC ft s.a) (w.alloc (stBox s)) W' env m) :=
    fun W h => gs_expr w0 b fm h s.a hia hB1 hL hs (by omega)
  have HC : Hid (∀ W, GS w0.heap.size b fm a x bs ft v cs (b :: x.2 :: ob v) True 0 [] (w.alloc (stBox s)) W env m → Calls Tryd.prog 64 #[.pointer a, .string s.name] W fun e W' => e = .returned (.int .i64 (wrZ (envAt env s.name.data.toList))) ∧ W' = W) := fun W h => write_scope s.name hz a (x :: bs) env W h.chain
  have HF : Hid (∀ W, GS w0.heap.size b fm a x bs ft v cs (b :: x.2 :: ob v) (True ∧ exZ env ft s.a = 0) (0 + s.a.sz) ([] ++ exC ft s.a) (w.alloc (stBox s)) W env m → LP w0.heap.size b fm a x bs ft v cs (qS s) w (W.alloc (.cells #[.int .i64 (wrZ (envAt env s.name.data.toList)), .int .i64 (exZ env ft s.a)] 27)) ⟨orF [wrZ (envAt env s.name.data.toList), exZ env ft s.a], m, env, exC ft s.a⟩) :=
    fun W h => (h.below ((Below.refl _ _).alloc (Nat.le_refl _) _)).lp hb0 (fun e => ⟨⟨trivial, (orF2.1 e).2⟩, by simp⟩) rfl rfl (by omega)
  have y0 : ∀ W, SX b a (b :: x.2 :: ob v) (w.alloc (stBox s)) W → W.cell? ⟨b, 0, none⟩ = some (.pointer a) := fun W h => h.2
  have y1 : ∀ W, SX b a (b :: x.2 :: ob v) (w.alloc (stBox s)) W → W.cell? ⟨w.heap.size, 1, none⟩ = some (.string s.name) := fun W h => SX.box hnL (by rw [World.cell?_alloc_at _ _ _ _ rfl]; rfl) h
  have y3 : ∀ W, SX b a (b :: x.2 :: ob v) (w.alloc (stBox s)) W → W.cell? ⟨w.heap.size, 3, none⟩ = some (.int .i64 s.a.kind) := fun W h => SX.box hnL (by rw [World.cell?_alloc_at _ _ _ _ rfl]; rfl) h
  have y4 : ∀ W, SX b a (b :: x.2 :: ob v) (w.alloc (stBox s)) W → W.cell? ⟨w.heap.size, 4, none⟩ = some (.int .i64 s.a.n) := fun W h => SX.box hnL (by rw [World.cell?_alloc_at _ _ _ _ rfl]; rfl) h
  have y5 : ∀ W, SX b a (b :: x.2 :: ob v) (w.alloc (stBox s)) W → W.cell? ⟨w.heap.size, 5, none⟩ = some (.string s.a.name) := fun W h => SX.box hnL (by rw [World.cell?_alloc_at _ _ _ _ rfl]; rfl) h
  have y6 : ∀ W, SX b a (b :: x.2 :: ob v) (w.alloc (stBox s)) W → W.cell? ⟨w.heap.size, 6, none⟩ = some (.slice s.a.a s.a.args.length s.a.cap) := fun W h => SX.box hnL (by rw [World.cell?_alloc_at _ _ _ _ rfl]; rfl) h
  clear hin hB hw h1 _h2 hq hz hia hib hb0 hB1 hL hs hnL
  obtain ⟨W1, hW1⟩ : ∃ W1, w.alloc (stBox s) = W1 := ⟨_, rfl⟩
  rw [hW1] at g0 HE HC HF y0 y1 y3 y4 y5 y6
  unfold stBox at hW1
  rw [hk] at hW1
  have HW1 := show Hid _ from hW1
  clear hW1
  generalize exZ env ft s.a = ra at *
  generalize wrZ (envAt env s.name.data.toList) = rd at *
  unfold St.val
  rw [hk]
  go_enter Tryd.func46, Tryd.ntmps46
  go_wp2_with fail
  rw [HW1.out]
  clear HW1
  go_region_held (fun w' => SX b a (b :: x.2 :: ob v) W1 w') (first | exact GS.sx (by assumption) | exact SX.below (by assumption) ((Below.refl _ _).alloc (Nat.le_refl _) _) | assumption)
    (first
      | (go_at_call 64; refine (HC.out _ (by assumption)).mono ?_; rintro e w' ⟨rfl, rfl⟩)
      | (go_at_call 63; refine (HE.out _ (by assumption)).mono ?_; rintro e w' ⟨rfl, hg⟩)
      | (go_at_call 62; refine (or2 rd ra _).mono ?_; rintro e w' ⟨rfl, rfl⟩))
  all_goals go_wp2_with fail
  all_goals go_ret
  all_goals exact ⟨rfl, HF.out _ (by assumption)⟩
end Go.Proofs.YtakaldbhaoidiaaDoor
