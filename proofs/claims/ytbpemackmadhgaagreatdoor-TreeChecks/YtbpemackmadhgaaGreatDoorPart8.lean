/- The two programs of the statements' first question, and what the plain functions say of them. -/
import Derived.Test.YtbpemackmadhgaaGreatDoorPart7
import Derived.Test.YtbpemackmadhgaaGreatDoorPart6
namespace Go.Proofs.YtbpemackmadhgaaGreatDoor
open Go.RowKit Go.Sort

def zEx : Ex := .mk 0 0 ⟨#[]⟩ none 0 []
def aX : Ex := .mk 2 0 ⟨#[110]⟩ none 0 []
def aNeg (B : Nat) : Ex := .mk 5 0 ⟨#[]⟩ (some ⟨B + 1 + 1 + 1, 0, none⟩) 1 [aX]
def aRet (B : Nat) : St := .mk 9 ⟨#[]⟩ 0 (aNeg B) zEx none 0 [] none 0 [] none 0 []
def aLet : St := .mk 1 ⟨#[]⟩ 1 zEx zEx none 0 [] none 0 [] none 0 []
def aPa : Pa := ⟨⟨#[110]⟩, 0, 10⟩
def aFn (B : Nat) (l : List St) : Fu := ⟨⟨#[102]⟩, some ⟨B + 1 + 1, 0, none⟩, 1, [aPa], some ⟨B + 1 + 1 + 1 + 1, 0, none⟩, 2, l⟩
def aPr (B g : Nat) (l : List St) : Pr := ⟨some ⟨B + 1, 0, none⟩, 2, [-5, 0], some ⟨g, 0, none⟩, 1, [aFn B l]⟩
theorem zE_z : zeroE zEx = true := by simp [zeroE, zEx, Ex.kind, Ex.n, Ex.name, Ex.args]
theorem zE_neg (B : Nat) : zeroE (aNeg B) = false := by simp [zeroE, aNeg, Ex.kind]
theorem us_z : usesE zEx = 0 := by simp [usesE, zEx, Ex.name, Ex.n]; decide
theorem us_x : usesE aX = 1 := by simp [usesE, aX, Ex.name, Ex.n]; decide
theorem us_neg (B : Nat) : usesE (aNeg B) = 0 := by simp [usesE, aNeg, Ex.name, Ex.n]; decide
theorem us_ret (B : Nat) : usesS (aRet B) = 4 := by
  simp [usesS, aRet, St.name, St.n, St.a, St.b, St.body, St.els, St.cases, zE_z, zE_neg]; decide
theorem us_let : usesS aLet = 2 := by
  simp [usesS, aLet, St.name, St.n, St.a, St.b, St.body, St.els, St.cases, zE_z]; decide
theorem nm_n : nameZ ⟨#[110]⟩ = true := by decide
theorem nm_f : nameZ ⟨#[102]⟩ = true := by decide
theorem self_x : selfE aX = 0 := by unfold selfE; rw [us_x]; decide
theorem self_neg (B : Nat) : selfE (aNeg B) = 0 := by
  unfold selfE; rw [us_neg]
  show (if isE 5 = false then (5 : Int) else if (bits .andNot .i64 0 (formE 5).fields != 0) = true then 5 else if ((formE 5).args != -1 && (((1 : Nat) : Int) != (formE 5).args)) = true then 5 else if (bits .and .i64 (formE 5).fields 1 != 0 && !nameZ ⟨#[]⟩) = true then 8 else if (0 : Int) < 0 then 1 else 0) = 0
  decide
theorem chk_x (lv : Int) (h : lv ≤ 32) : chkE aX lv = 0 := by
  rw [chkE_eq, if_neg (by omega), self_x]; rfl
theorem chk_neg (B : Nat) (lv : Int) (h : lv ≤ 31) : chkE (aNeg B) lv = 0 := by
  rw [chkE_eq, if_neg (by omega), self_neg, if_neg (by simp)]
  show chkL [aX] (lv + 1) = 0
  rw [chkL, chk_x _ (by omega)]; rfl
theorem selfS_ret (B : Nat) : selfS (aRet B) = 0 := by
  unfold selfS; rw [us_ret]
  show (if isS 9 = false then (5 : Int) else if (bits .andNot .i64 4 (fldS 9) != 0) = true then 5 else if (bits .and .i64 (fldS 9) 1 != 0 && !nameZ ⟨#[]⟩) = true then 8 else if (decide ((0 : Int) < 0) || leastC []) = true then 1 else if ((9 : Int) == 10 && (5 : Int) != 4) = true then 5 else 0) = 0
  decide
theorem selfS_let : selfS aLet = 5 := by unfold selfS; rw [us_let]; decide
theorem chkS_ret (B : Nat) : chkS (aRet B) 1 = 0 := by
  unfold chkS; rw [if_neg (by omega), selfS_ret, if_neg (by simp)]
  show (if _ then _ else _) = _
  rw [show (aRet B).a = aNeg B from rfl, chk_neg B _ (by omega)]
  show (if (bits .and .i64 (fldS 9) 4 != 0 && (0 : Int) != 0) = true then (0 : Int) else if (bits .and .i64 (fldS 9) 8 != 0) = true then chkE zEx 2 else 0) = 0
  rw [if_neg (by decide), if_neg (by decide)]
theorem chkS_let : chkS aLet 1 = 5 := by unfold chkS; rw [if_neg (by omega), selfS_let]; rfl
theorem chkT_ret (B : Nat) (at_ : Int) : chkT (aRet B) 1 at_ = (0, at_ + 1) := by
  rw [chkT_eq, chkS_ret, if_neg (by simp)]; rfl
theorem chkT_let (at_ : Int) : chkT aLet 1 at_ = (5, at_ + 1) := by
  rw [chkT_eq, chkS_let]; rfl
theorem chkSs_q (B : Nat) : chkSs [aRet B] 1 0 = (0, 1) := by
  rw [chkSs, chkT_ret]; rfl
theorem chkSs_p (B : Nat) : chkSs [aRet B, aLet] 1 0 = (5, 2) := by
  rw [chkSs, chkT_ret, thenZ, if_neg (by simp), chkSs, chkT_let]; rfl
theorem head_a (B : Nat) (l : List St) : headZ (aFn B l) = 0 := by
  unfold headZ; rw [show (aFn B l).name = ⟨#[102]⟩ from rfl, nm_f]
  show (if _ then _ else _) = _
  rw [if_neg (by simp), if_neg (by show ¬ 8 < 1; omega)]
  show parsZ [aPa] = 0
  rw [parsZ, show aPa.name = ⟨#[110]⟩ from rfl, nm_n]; decide
theorem cnt_ret (B : Nat) : cntS (aRet B) 0 = 3 := by
  rw [cntS_eq]
  show cntB _ (cntZ zEx (cntZ (aNeg B) (0 + (1 + 0)))) = 3
  rw [cntZ, cntZ, zE_neg, zE_z]; rfl
theorem cnt_let : cntS aLet 3 = 4 := by
  rw [cntS_eq]
  show cntB _ (cntZ zEx (cntZ zEx (3 + (1 + 0)))) = 4
  rw [cntZ, cntZ, zE_z]; rfl
theorem nodes_q (B g : Nat) : nodesZ (aPr B g [aRet B]) = 3 := by
  unfold nodesZ
  show min (cntF [aFn B [aRet B]] 0) 4097 = 3
  rw [cntF, cntF]
  show min (cntSs [aRet B] 0) 4097 = 3
  rw [cntSs, if_neg (by omega), cnt_ret]; rfl
theorem nodes_p (B g : Nat) : nodesZ (aPr B g [aRet B, aLet]) = 4 := by
  unfold nodesZ
  show min (cntF [aFn B [aRet B, aLet]] 0) 4097 = 4
  rw [cntF, cntF]
  show min (cntSs [aRet B, aLet] 0) 4097 = 4
  rw [cntSs, if_neg (by omega), cnt_ret, cntSs, if_neg (by omega), cnt_let]; rfl
theorem chkF_q (B : Nat) : chkF (aFn B [aRet B]) = (0, 1) := by unfold chkF; rw [head_a, if_neg (by simp)]; exact chkSs_q B
theorem chkF_p (B : Nat) : chkF (aFn B [aRet B, aLet]) = (5, 2) := by unfold chkF; rw [head_a, if_neg (by simp)]; exact chkSs_p B
theorem check_q (B g : Nat) : checkZ (aPr B g [aRet B]) = (0, 0, 0) := by
  have hw : wholeZ (aPr B g [aRet B]) = 0 := by unfold wholeZ; rw [nodes_q]; rfl
  unfold checkZ; rw [hw, if_neg (by simp)]
  show chkFs [aFn B [aRet B]] 0 = _
  rw [chkFs, chkF_q]; rfl
theorem check_p (B g : Nat) : checkZ (aPr B g [aRet B, aLet]) = (5, 0, 2) := by
  have hw : wholeZ (aPr B g [aRet B, aLet]) = 0 := by unfold wholeZ; rw [nodes_p]; rfl
  unfold checkZ; rw [hw, if_neg (by simp)]
  show chkFs [aFn B [aRet B, aLet]] 0 = _
  rw [chkFs, chkF_p]; rfl
theorem ok_neg (B : Nat) : OkE (aNeg B) := ⟨1, chk_neg B 1 (by omega)⟩
def awText : List UInt8 := [119, 105, 100, 101, 110, 32, 45, 53, 44, 32, 48, 59, 10, 102, 110, 32, 102, 40, 110, 32, 105, 110, 32, 48, 46, 46, 49, 48, 41, 32, 123, 10, 32, 32, 114, 101, 116, 117, 114, 110, 32, 45, 110, 59, 10, 125, 10]
theorem text_q (B g : Nat) : txP (aPr B g [aRet B]) = awText := by
  have h0 : txE aX = [110] := by rw [txE_eq]; decide
  have h1 : txE (aNeg B) = [45, 110] := by
    rw [txE_eq]; show txOf 5 0 ⟨#[]⟩ [2] [txE aX] = _
    rw [h0]; decide
  have h2 : txS (aRet B) 1 = lineB 1 ([114, 101, 116, 117, 114, 110, 32] ++ txE (aNeg B) ++ [59]) := by unfold aRet; simp [txS]
  show txW [-5, 0] ++ txFs [aFn B [aRet B]] = _
  rw [txFs, txFs]
  unfold txF
  show txW [-5, 0] ++ (lineB 0 _ ++ txSs [aRet B] 1 ++ _ ++ []) = _
  rw [txSs, txSs, h2, h1]
  show txW [-5, 0] ++ (lineB 0 ([102, 110, 32] ++ [102] ++ [40] ++ comB [paB aPa] ++ [41, 32, 123]) ++ (lineB 1 ([114, 101, 116, 117, 114, 110, 32] ++ [45, 110] ++ [59]) ++ []) ++ lineB 0 [125] ++ []) = awText
  decide +kernel
theorem samE_refl_x : samE aX aX = true := by rw [samE_eq]; simp [aX, Ex.kind, Ex.n, Ex.name, Ex.args, samEs]
theorem samE_z : samE zEx zEx = true := by rw [samE_eq]; simp [zEx, Ex.kind, Ex.n, Ex.name, Ex.args, samEs]
theorem samE_neg (B : Nat) : samE (aNeg B) (aNeg B) = true := by rw [samE_eq]; simp [aNeg, Ex.kind, Ex.n, Ex.name, Ex.args, samEs, samE_refl_x]
theorem samS_ret (B : Nat) : samS (aRet B) (aRet B) = true := by rw [samS_eq]; simp [aRet, St.kind, St.name, St.n, St.a, St.b, St.body, St.els, St.cases, samE_neg, samE_z, samSs, samCs]
theorem same_qq (B g : Nat) : samPr (aPr B g [aRet B]) (aPr B g [aRet B]) = true := by
  simp [samPr, aPr, samI, samFs, samF, aFn, samPs, samP, samSs, samS_ret]
theorem same_pq (B g g' : Nat) : samPr (aPr B g [aRet B, aLet]) (aPr B g' [aRet B]) = false := by
  simp [samPr, aPr, samFs, samF, aFn, samSs]
end Go.Proofs.YtbpemackmadhgaaGreatDoor

/- The statements' own first question: answers that the document fixes. -/
namespace Go.Proofs.YtbpemackmadhgaaGreatDoor
open Go.RowKit Go.Sort

theorem flat_at (sz : Nat) : ∀ (rows : List (List Value)), (∀ r ∈ rows, r.length = sz) → ∀ (i j : Nat) cs v, rows[i]? = some cs → cs[j]? = some v → rows.flatten[i * sz + j]? = some v
  | [], _, i, j, cs, v, hi, _ => by simp at hi
  | r :: rs, h, 0, j, cs, v, hi, hj => by
    simp only [List.getElem?_cons_zero, Option.some.injEq] at hi
    subst hi
    have hlt := (List.getElem?_eq_some_iff.1 hj).1
    rw [List.flatten_cons, Nat.zero_mul, Nat.zero_add, List.getElem?_append_left hlt]; exact hj
  | r :: rs, h, i + 1, j, cs, v, hi, hj => by
    have hr := h r (by simp)
    rw [List.flatten_cons, List.getElem?_append_right (by rw [hr, Nat.succ_mul]; omega), hr, show (i + 1) * sz + j - sz = i * sz + j from by rw [Nat.succ_mul]; omega]
    exact flat_at sz rs (fun x hx => h x (by simp [hx])) i j cs v (by simpa using hi) hj
theorem rowIn_block {W : World} {g sz : Nat} {rows : List (List Value)} {arr : Array Value} {t : TypeId} {fz : Nat × Nat} (h : W.heap[g]? = some (.cells arr t fz)) (hf : arr.toList = rows.flatten ∨ ∃ rest, arr.toList = rows.flatten ++ rest) (hl : ∀ r ∈ rows, r.length = sz) : RowIn W (some ⟨g, 0, none⟩) sz rows := by
  intro i cs hi
  refine ⟨g, 0, rfl, fun j v hj => ?_⟩
  have h1 := flat_at sz rows hl i j cs v hi hj
  rw [Lib.cell_of_heap h, Nat.zero_add, ← Array.getElem?_toList]
  rcases hf with hf | ⟨rest, hf⟩
  · rw [hf]; exact h1
  · rw [hf, List.getElem?_append_left (List.getElem?_eq_some_iff.1 h1).1]; exact h1
theorem rowIn_nil {W : World} {a : Option Addr} {sz : Nat} : RowIn W a sz [] := fun i cs h => by simp at h

/-- The blocks in which the first question's lists lie. -/
structure Lay (W : World) (B : Nat) : Prop where
  l1 : W.heap[B + 1]? = some (.cells #[.int .i64 (-5), .int .i64 0] 2 (0, 0))
  l2 : W.heap[B + 1 + 1]? = some (.cells #[.string ⟨#[110]⟩, .int .i64 0, .int .i64 10] 38 (0, 0))
  l3 : W.heap[B + 1 + 1 + 1]? = some (.cells #[.int .i64 2, .int .i64 0, .string ⟨#[110]⟩, .slice none 0 0] 36 (0, 0))
  l4 : W.heap[B + 1 + 1 + 1 + 1]? = some (.cells #[.int .i64 9, .string ⟨#[]⟩, .int .i64 0, .int .i64 5, .int .i64 0, .string ⟨#[]⟩, .slice (some ⟨B + 1 + 1 + 1, 0, none⟩) 1 1, .int .i64 0, .int .i64 0, .string ⟨#[]⟩, .slice none 0 0, .slice none 0 0, .slice none 0 0, .slice none 0 0, .int .i64 1, .string ⟨#[]⟩, .int .i64 1, .int .i64 0, .int .i64 0, .string ⟨#[]⟩, .slice none 0 0, .int .i64 0, .int .i64 0, .string ⟨#[]⟩, .slice none 0 0, .slice none 0 0, .slice none 0 0, .slice none 0 0] 43 (0, 0))
theorem Lay.stay {W W' : World} {B : Nat} (h : Lay W B) (hb : Below W.heap.size W W') : Lay W' B := by
  have k : ∀ {g : Nat} {o : Obj}, W.heap[g]? = some o → W'.heap[g]? = some o := fun e => (hb.block _ (Array.getElem?_eq_some_iff.1 e).1).trans e
  exact ⟨k h.l1, k h.l2, k h.l3, k h.l4⟩
theorem i0 : I64 0 := ⟨by decide, by decide⟩
theorem i1 : I64 1 := ⟨by decide, by decide⟩
theorem i2 : I64 2 := ⟨by decide, by decide⟩
theorem i5 : I64 5 := ⟨by decide, by decide⟩
theorem i9 : I64 9 := ⟨by decide, by decide⟩
theorem i10 : I64 10 := ⟨by decide, by decide⟩
theorem im5 : I64 (-5) := ⟨by decide, by decide⟩
theorem n0 : (0 : Nat) ≤ 140737488351232 := by decide
theorem n1 : (1 : Nat) ≤ 140737488351232 := by decide
theorem lenE (l : List Ex) : ∀ r ∈ l.map Ex.cells, r.length = 4 := by intro r hr; obtain ⟨x, _, rfl⟩ := List.mem_map.1 hr; rfl
theorem lenS (l : List St) : ∀ r ∈ l.map St.cells, r.length = 14 := by intro r hr; obtain ⟨x, _, rfl⟩ := List.mem_map.1 hr; rfl
theorem lenP (l : List Pa) : ∀ r ∈ l.map Pa.cells, r.length = 3 := by intro r hr; obtain ⟨x, _, rfl⟩ := List.mem_map.1 hr; rfl
theorem lenF (l : List Fu) : ∀ r ∈ l.map Fu.cells, r.length = 3 := by intro r hr; obtain ⟨x, _, rfl⟩ := List.mem_map.1 hr; rfl
theorem lenI (l : List Int) : ∀ r ∈ l.map (fun z => ([.int .i64 z] : List Value)), r.length = 1 := by intro r hr; obtain ⟨x, _, rfl⟩ := List.mem_map.1 hr; rfl
theorem zEx_in (W : World) : zEx.In W := Ex.in_iff.2 ⟨i0, i0, n0, Nat.le_refl _, n0, fun _ => rfl, rowIn_nil, fun y hy => by cases hy⟩
theorem aX_in (W : World) : aX.In W := Ex.in_iff.2 ⟨i2, i0, n1, Nat.le_refl _, n0, fun _ => rfl, rowIn_nil, fun y hy => by cases hy⟩
theorem aNeg_in {W : World} {B : Nat} (h : Lay W B) : (aNeg B).In W :=
  Ex.in_iff.2 ⟨i5, i0, n0, Nat.le_refl _, (by show 1 * 56 ≤ 140737488351232; decide), (fun e => by cases e), rowIn_block (rows := [aX.cells]) h.l3 (.inl rfl) (lenE [aX]), fun y hy => by
    rcases List.mem_singleton.1 (show y ∈ [aX] from hy) with rfl
    exact aX_in W⟩
theorem have_nil (W : World) : Have W none 0 [] := ⟨⟨Nat.le_refl _, n0, fun _ => rfl, rowIn_nil⟩, fun y hy => by cases hy⟩
theorem aRet_in {W : World} {B : Nat} (h : Lay W B) : (aRet B).In W := St.in_iff.2 ⟨i9, n0, i0, aNeg_in h, zEx_in W, have_nil W, have_nil W, ⟨Nat.le_refl _, n0, fun _ => rfl, rowIn_nil⟩, fun y hy => by cases hy⟩
theorem aLet_in (W : World) : aLet.In W := St.in_iff.2 ⟨i1, n0, i1, zEx_in W, zEx_in W, have_nil W, have_nil W, ⟨Nat.le_refl _, n0, fun _ => rfl, rowIn_nil⟩, fun y hy => by cases hy⟩
theorem body_q {W : World} {B : Nat} (h : Lay W B) : Have W (some ⟨B + 1 + 1 + 1 + 1, 0, none⟩) 2 [aRet B] :=
  ⟨⟨by show 1 ≤ 2; decide, by decide, (fun e => by cases e), rowIn_block (rows := [(aRet B).cells]) h.l4 (.inr ⟨aLet.cells, rfl⟩) (lenS [aRet B])⟩, fun s hs => by rcases List.mem_singleton.1 hs with rfl; exact aRet_in h⟩
theorem body_p {W : World} {B : Nat} (h : Lay W B) : Have W (some ⟨B + 1 + 1 + 1 + 1, 0, none⟩) 2 [aRet B, aLet] :=
  ⟨⟨by show 2 ≤ 2; decide, by decide, (fun e => by cases e), rowIn_block (rows := [(aRet B).cells, aLet.cells]) h.l4 (.inl rfl) (lenS [aRet B, aLet])⟩, fun s hs => by
    rcases List.mem_cons.1 hs with rfl | hs
    · exact aRet_in h
    · rcases List.mem_singleton.1 hs with rfl; exact aLet_in W⟩
theorem aFn_in {W : World} {B : Nat} (h : Lay W B) {l : List St} (hl : Have W (some ⟨B + 1 + 1 + 1 + 1, 0, none⟩) 2 l) : (aFn B l).In W :=
  ⟨n1, Nat.le_refl _, (by show 1 * 32 ≤ 140737488351232; decide), (fun e => by cases e), rowIn_block (rows := [aPa.cells]) h.l2 (.inl rfl) (lenP [aPa]), (fun q hq => by rcases List.mem_singleton.1 (show q ∈ [aPa] from hq) with rfl; exact ⟨n1, i0, i10⟩), hl⟩
theorem aPr_in {W : World} {B g : Nat} (h : Lay W B) {l : List St} (hl : Have W (some ⟨B + 1 + 1 + 1 + 1, 0, none⟩) 2 l) (hg : W.heap[g]? = some (.cells #[.string ⟨#[102]⟩, .slice (some ⟨B + 1 + 1, 0, none⟩) 1 1, .slice (some ⟨B + 1 + 1 + 1 + 1, 0, none⟩) l.length 2] 45 (0, 0))) : (aPr B g l).In W :=
  ⟨Nat.le_refl _, (by show 2 * 8 ≤ 140737488351232; decide), (fun e => by cases e), rowIn_block (rows := [[.int .i64 (-5)], [.int .i64 0]]) h.l1 (.inl rfl) (lenI [-5, 0]), (fun z hz => by
    rcases List.mem_cons.1 (show z ∈ [(-5 : Int), 0] from hz) with rfl | hz
    · exact im5
    · rcases List.mem_singleton.1 hz with rfl; exact i0), Nat.le_refl _, (by show 1 * 64 ≤ 140737488351232; decide), (fun e => by cases e), rowIn_block (rows := [(aFn B l).cells]) hg (.inl rfl) (lenF [aFn B l]), (fun f hf => by
    rcases List.mem_singleton.1 (show f ∈ [aFn B l] from hf) with rfl; exact aFn_in h hl)⟩
/-- The first question's text, printed. -/
theorem awPrint (W : World) (B g : Nat) (h : Lay W B) (hg : W.heap[g]? = some (.cells #[.string ⟨#[102]⟩, .slice (some ⟨B + 1 + 1, 0, none⟩) 1 1, .slice (some ⟨B + 1 + 1 + 1 + 1, 0, none⟩) 1 2] 45 (0, 0))) (ht : Tabs W) (hnt : NumT W) :
    Calls Tryz.prog 8 #[(aPr B g [aRet B]).val] W fun e w' => e = .returned (.tuple #[sB awText, fltV 0 0 0]) ∧ Below W.heap.size W w' := by
  have := print_ok (aPr B g [aRet B]) W (aPr_in h (body_q h) hg) ht hnt (check_q B g) (by show 2 ≤ 16; decide) (fun f hf => by
    rcases List.mem_singleton.1 (show f ∈ [aFn B [aRet B]] from hf) with rfl
    refine ⟨fun s hs => ?_, fun q hq => ?_, by show 1 ≤ 8; decide⟩
    · rcases List.mem_singleton.1 (show s ∈ [aRet B] from hs) with rfl
      exact stmtD_le (stmt9 W (aRet B) rfl (aRet_in h) ht hnt (ok_neg B) (by show (aNeg B).sz ≤ _; rw [Ex.sz_args]; show szL [aX] + 1 ≤ _; decide)) (by decide)
    · rcases List.mem_singleton.1 (show q ∈ [aPa] from hq) with rfl
      decide +kernel) (by rw [text_q]; decide)
  rwa [text_q] at this
end Go.Proofs.YtbpemackmadhgaaGreatDoor

/- The statements' own first question answers yes. -/
namespace Go.Proofs.YtbpemackmadhgaaGreatDoor
open Go.RowKit Go.Sort

theorem equalIn_flt (a b c a' b' c' : Int) (w : World) : (Op.equalIn 10000 29 (fltV a b c) (fltV a' b' c')).run Tryz.prog w = .ok (a == a' && (b == b' && c == c')) w := by
  have u3 := Tryz.underlying3
  have a3 := Tryz.isAgg3
  have z3 := Tryz.sizeOf3
  have u31 := Tryz.underlying27
  have a31 := Tryz.isAgg27
  have z31 := Tryz.sizeOf27
  have hS : Tryz.prog.underlying 29 = some (.struct (Tryz.prog.fieldsOf 29)) := by kernel_rfl
  have hp : Tryz.prog.stoodInHeld 29 = false := by kernel_rfl
  unfold fltV
  rw [show (10000 : Nat) = 9999 + 1 from rfl, run_equalIn_agg w 9999 29 _ _ hS hp]
  simp only [Program.fieldsOf, Tryz.underlying29]
  go_simp
  by_cases h1 : a = a' <;> by_cases h2 : b = b' <;> by_cases h3 : c = c' <;> simp [h1, h2, h3]

theorem keep_heap {W : World} {k : Nat} {o : Obj} (h : W.heap[k]? = some o) (o' : Obj) : (W.alloc o').heap[k]? = some o := (Lib.alloc_old W o' k (Array.getElem?_eq_some_iff.1 h).1).trans h
theorem new_heap {W : World} {k : Nat} (o : Obj) (h : W.heap.size = k) : (W.alloc o).heap[k]? = some o := by rw [← h]; exact heap_alloc_new W o
theorem set_keep {W : World} {k : Nat} {o : Obj} (a : Addr) (v : Value) (h : W.heap[k]? = some o) (hk : k ≠ a.block) : (W.setCell a v).drew.heap[k]? = some o := (Below.heap_setCell W a v k hk).trans h
theorem set_same {W : World} {b : Nat} {cs : Array Value} {T : TypeId} {fz : Nat × Nat} (h : W.heap[b]? = some (.cells cs T fz)) (i : Nat) (v : Value) : (W.setCell ⟨b, i, none⟩ v).drew.heap[b]? = some (.cells (cs.setIfInBounds i v) T fz) := by
  show (W.setCell ⟨b, i, none⟩ v).heap[b]? = _
  simp [World.setCell, Array.getElem?_modify, h]
/-- The world in which the first question's first program lies. -/
def awW (w : World) : World := ((((((w.alloc (.cells #[.int .i64 2, .int .i64 0, .string ⟨#[110]⟩, .slice none 0 0] 36)).alloc (.cells #[.int .i64 (-5), .int .i64 0] 2)).alloc (.cells #[.string ⟨#[110]⟩, .int .i64 0, .int .i64 10] 38)).alloc (.cells #[.int .i64 2, .int .i64 0, .string ⟨#[110]⟩, .slice none 0 0] 36)).alloc (.cells #[.int .i64 9, .string ⟨#[]⟩, .int .i64 0, .int .i64 5, .int .i64 0, .string ⟨#[]⟩, .slice (some ⟨w.heap.size + 1 + 1 + 1, 0, none⟩) 1 1, .int .i64 0, .int .i64 0, .string ⟨#[]⟩, .slice none 0 0, .slice none 0 0, .slice none 0 0, .slice none 0 0, .int .i64 1, .string ⟨#[]⟩, .int .i64 1, .int .i64 0, .int .i64 0, .string ⟨#[]⟩, .slice none 0 0, .int .i64 0, .int .i64 0, .string ⟨#[]⟩, .slice none 0 0, .slice none 0 0, .slice none 0 0, .slice none 0 0] 43)).alloc (.cells #[.string ⟨#[102]⟩, .slice (some ⟨w.heap.size + 1 + 1, 0, none⟩) 1 1, .slice (some ⟨w.heap.size + 1 + 1 + 1 + 1, 0, none⟩) 2 2] 45)).alloc (.cells #[.slice (some ⟨w.heap.size + 1, 0, none⟩) 2 2, .slice (some ⟨w.heap.size + 1 + 1 + 1 + 1 + 1, 0, none⟩) 1 1] 25)
theorem awW_facts (w : World) : Lay (awW w) w.heap.size ∧ (awW w).heap[w.heap.size + 1 + 1 + 1 + 1 + 1]? = some (.cells #[.string ⟨#[102]⟩, .slice (some ⟨w.heap.size + 1 + 1, 0, none⟩) 1 1, .slice (some ⟨w.heap.size + 1 + 1 + 1 + 1, 0, none⟩) 2 2] 45 (0, 0)) ∧ (awW w).heap[w.heap.size + 1 + 1 + 1 + 1 + 1 + 1]? = some (.cells #[.slice (some ⟨w.heap.size + 1, 0, none⟩) 2 2, .slice (some ⟨w.heap.size + 1 + 1 + 1 + 1 + 1, 0, none⟩) 1 1] 25 (0, 0)) ∧ Below w.heap.size w (awW w) ∧ (awW w).heap.size = w.heap.size + 1 + 1 + 1 + 1 + 1 + 1 + 1 := by
  unfold awW
  refine ⟨⟨?_, ?_, ?_, ?_⟩, ?_, ?_, ?_, by simp⟩
  · exact keep_heap (keep_heap (keep_heap (keep_heap (keep_heap (new_heap _ (by simp)) _) _) _) _) _
  · exact keep_heap (keep_heap (keep_heap (keep_heap (new_heap _ (by simp)) _) _) _) _
  · exact keep_heap (keep_heap (keep_heap (new_heap _ (by simp)) _) _) _
  · exact keep_heap (keep_heap (new_heap _ (by simp)) _) _
  · exact keep_heap (new_heap _ (by simp)) _
  · exact new_heap _ (by simp)
  · exact Below.one (Below.one (Below.one (Below.one (Below.one (Below.one (Below.one (Below.refl _ w) _) _) _) _) _) _) _

set_option maxRecDepth 100000 in
set_option maxHeartbeats 16000000 in
theorem awake_any (w : World) (ht : Tabs w) (hnt : NumT w) : Calls Tryz.prog 5 #[] w fun e w' => e = .returned (.bool true) ∧ Below w.heap.size w w' := by
  obtain ⟨lay, k5, k6, hb0, hs0⟩ := awW_facts w
  have HT : Hid (Tabs w) := ht
  have HN : Hid (NumT w) := hnt
  clear ht hnt
  go_enter Tryz.func5, Tryz.ntmps5
  go_wp2_with fail
  obtain ⟨W7, hW7⟩ : ∃ W7, awW w = W7 := ⟨_, rfl⟩
  rw [hW7] at lay k5 k6 hb0 hs0
  unfold awW at hW7
  rw [hW7]
  clear hW7
  obtain ⟨B, hB⟩ : ∃ B, w.heap.size = B := ⟨_, rfl⟩
  have HB : Hid (w.heap.size = B) := hB
  rw [hB] at lay k5 k6 hs0 ⊢
  have hck := check_any (aPr B (B + 1 + 1 + 1 + 1 + 1) [aRet B, aLet]) W7 (aPr_in lay (body_p lay) k5) (HT.out.stay hb0)
  rw [check_p] at hck
  have HCK : Hid (Calls Tryz.prog 6 #[.agg #[.slice (some ⟨B + 1, 0, none⟩) 2 2, .slice (some ⟨B + 1 + 1 + 1 + 1 + 1, 0, none⟩) 1 1]] W7 fun e w' => e = .returned (fltV 5 0 2) ∧ Below W7.heap.size W7 w') := hck
  clear hck hB
  refine HCK.out.mono ?_
  rintro e w1 ⟨rfl, hb1⟩
  have lay1 := lay.stay hb1
  have K5 := (hb1.block (B + 1 + 1 + 1 + 1 + 1) (by omega)).trans k5
  have K6 := (hb1.block (B + 1 + 1 + 1 + 1 + 1 + 1) (by omega)).trans k6
  have hbw := Below.on hb0 hb1
  have HLAY : Hid (Lay w1 B) := lay1
  have p0 : w1.cell? ⟨B + 1 + 1 + 1 + 1 + 1 + 1, 0, none⟩ = some (.slice (some ⟨B + 1, 0, none⟩) 2 2) := by rw [Lib.cell_of_heap K6]; rfl
  have p1 : w1.cell? ⟨B + 1 + 1 + 1 + 1 + 1 + 1, 1, none⟩ = some (.slice (some ⟨B + 1 + 1 + 1 + 1 + 1, 0, none⟩) 1 1) := by rw [Lib.cell_of_heap K6]; rfl
  have f0 : w1.cell? ⟨B + 1 + 1 + 1 + 1 + 1, 0, none⟩ = some (.string ⟨#[102]⟩) := by rw [Lib.cell_of_heap K5]; rfl
  have f1 : w1.cell? ⟨B + 1 + 1 + 1 + 1 + 1, 1, none⟩ = some (.slice (some ⟨B + 1 + 1, 0, none⟩) 1 1) := by rw [Lib.cell_of_heap K5]; rfl
  have f2 : w1.cell? ⟨B + 1 + 1 + 1 + 1 + 1, 2, none⟩ = some (.slice (some ⟨B + 1 + 1 + 1 + 1, 0, none⟩) 2 2) := by rw [Lib.cell_of_heap K5]; rfl
  have hs1 : B + 1 + 1 + 1 + 1 + 1 + 1 < w1.heap.size := by have := hb1.size; omega
  have hs2 : B + 1 + 1 + 1 + 1 + 1 < w1.heap.size := by omega
  have g0 : ∀ o1 o2, ((w1.alloc o1).alloc o2).cell? ⟨B + 1 + 1 + 1 + 1 + 1, 0, none⟩ = some (.string ⟨#[102]⟩) := fun o1 o2 => by rw [Lib.cell_of_heap (keep_heap (keep_heap K5 o1) o2)]; rfl
  have g1 : ∀ o1 o2, ((w1.alloc o1).alloc o2).cell? ⟨B + 1 + 1 + 1 + 1 + 1, 1, none⟩ = some (.slice (some ⟨B + 1 + 1, 0, none⟩) 1 1) := fun o1 o2 => by rw [Lib.cell_of_heap (keep_heap (keep_heap K5 o1) o2)]; rfl
  have g2 : ∀ o1 o2, ((w1.alloc o1).alloc o2).cell? ⟨B + 1 + 1 + 1 + 1 + 1, 2, none⟩ = some (.slice (some ⟨B + 1 + 1 + 1 + 1, 0, none⟩) 2 2) := fun o1 o2 => by rw [Lib.cell_of_heap (keep_heap (keep_heap K5 o1) o2)]; rfl
  have HK5 : Hid (w1.heap[B + 1 + 1 + 1 + 1 + 1]? = some (.cells #[.string ⟨#[102]⟩, .slice (some ⟨B + 1 + 1, 0, none⟩) 1 1, .slice (some ⟨B + 1 + 1 + 1 + 1, 0, none⟩) 2 2] 45 (0, 0))) := K5
  have HK6 : Hid (w1.heap[B + 1 + 1 + 1 + 1 + 1 + 1]? = some (.cells #[.slice (some ⟨B + 1, 0, none⟩) 2 2, .slice (some ⟨B + 1 + 1 + 1 + 1 + 1, 0, none⟩) 1 1] 25 (0, 0))) := K6
  clear lay lay1 k5 k6 K5 K6 hb0 hb1 HCK hs0
  go_wp2_with fail
  clear f0 f1 f2 g0 g1 g2 p0
  obtain ⟨W3, hW3⟩ : ∃ W3, (((w1.alloc (.cells #[.int .i64 5, .int .i64 0, .int .i64 2] 29)).alloc (.cells #[.slice (some ⟨B + 1, 0, none⟩) 2 2, .slice (some ⟨w1.heap.size + 1 + 1, 0, none⟩) 1 1] 25)).alloc (.cells #[.string ⟨#[102]⟩, .slice (some ⟨B + 1 + 1, 0, none⟩) 1 1, .slice (some ⟨B + 1 + 1 + 1 + 1, 0, none⟩) 2 2] 45)) = W3 := ⟨_, rfl⟩
  have hb3 : Below w1.heap.size w1 W3 := by rw [← hW3]; exact Below.one (Below.one (Below.one (Below.refl _ w1) _) _) _
  obtain ⟨S, hS⟩ : ∃ S, w1.heap.size = S := ⟨_, rfl⟩
  have k7 : W3.heap[S]? = some (.cells #[.int .i64 5, .int .i64 0, .int .i64 2] 29 (0, 0)) := by rw [← hW3]; exact keep_heap (keep_heap (new_heap _ hS) _) _
  have k8 : W3.heap[S + 1]? = some (.cells #[.slice (some ⟨B + 1, 0, none⟩) 2 2, .slice (some ⟨S + 1 + 1, 0, none⟩) 1 1] 25 (0, 0)) := by rw [← hW3, hS]; exact keep_heap (new_heap _ (by simp [hS])) _
  have k9 : W3.heap[S + 1 + 1]? = some (.cells #[.string ⟨#[102]⟩, .slice (some ⟨B + 1 + 1, 0, none⟩) 1 1, .slice (some ⟨B + 1 + 1 + 1 + 1, 0, none⟩) 2 2] 45 (0, 0)) := by rw [← hW3]; exact new_heap _ (by simp [hS])
  have k5 := (hb3.block (B + 1 + 1 + 1 + 1 + 1) (by omega)).trans HK5.out
  have k6 := (hb3.block (B + 1 + 1 + 1 + 1 + 1 + 1) (by omega)).trans HK6.out
  have hS3 : W3.heap.size = S + 1 + 1 + 1 := by rw [← hW3]; simp [hS]
  rw [hW3]
  rw [hS] at hs1 hs2 ⊢
  have e0 : W3.drew.cell? ⟨S + 1, 1, none⟩ = some (.slice (some ⟨S + 1 + 1, 0, none⟩) 1 1) := by
    have : W3.drew.heap[S + 1]? = _ := k8
    rw [Lib.cell_of_heap this]; rfl
  have e1 : W3.drew.cell? ⟨B + 1 + 1 + 1 + 1 + 1 + 1, 1, none⟩ = some (.slice (some ⟨B + 1 + 1 + 1 + 1 + 1, 0, none⟩) 1 1) := by
    have : W3.drew.heap[B + 1 + 1 + 1 + 1 + 1 + 1]? = _ := k6
    rw [Lib.cell_of_heap this]; rfl
  have e2 : W3.drew.cell? ⟨B + 1 + 1 + 1 + 1 + 1, 2, none⟩ = some (.slice (some ⟨B + 1 + 1 + 1 + 1, 0, none⟩) 2 2) := by
    have : W3.drew.heap[B + 1 + 1 + 1 + 1 + 1]? = _ := k5
    rw [Lib.cell_of_heap this]; rfl
  have e3 : W3.drew.cell? ⟨S + 1 + 1, 2, none⟩ = some (.slice (some ⟨B + 1 + 1 + 1 + 1, 0, none⟩) 2 2) := by
    have : W3.drew.heap[S + 1 + 1]? = _ := k9
    rw [Lib.cell_of_heap this]; rfl
  have e4 : W3.frozen? ⟨S + 1 + 1, 2, none⟩ = false := by simp [World.frozen?, k9]
  have HH : Hid (Below w1.heap.size w1 W3 ∧ Lay w1 B ∧ Below w.heap.size w w1 ∧ w1.heap.size = S ∧ W3.heap.size = S + 1 + 1 + 1) := ⟨hb3, HLAY.out, hbw, hS, hS3⟩
  have K5 := show Hid _ from k5
  have K6 := show Hid _ from k6
  have K7 := show Hid _ from k7
  have K8 := show Hid _ from k8
  have K9 := show Hid _ from k9
  clear hb3 hS hS3 hW3 HLAY hbw k5 k6 k7 k8 k9 p1 HK5 HK6
  go_region
  obtain ⟨W4, hW4⟩ : ∃ W4, (W3.setCell ⟨S + 1 + 1, 2, none⟩ (.slice (some ⟨B + 1 + 1 + 1 + 1, 0, none⟩) 1 2)).drew = W4 := ⟨_, rfl⟩
  rw [hW4]
  have k5 := set_keep ⟨S + 1 + 1, 2, none⟩ (.slice (some ⟨B + 1 + 1 + 1 + 1, 0, none⟩) 1 2) K5.out (by show _ ≠ S + 1 + 1; omega)
  have k6 := set_keep ⟨S + 1 + 1, 2, none⟩ (.slice (some ⟨B + 1 + 1 + 1 + 1, 0, none⟩) 1 2) K6.out (by show _ ≠ S + 1 + 1; omega)
  have k7 := set_keep ⟨S + 1 + 1, 2, none⟩ (.slice (some ⟨B + 1 + 1 + 1 + 1, 0, none⟩) 1 2) K7.out (by show _ ≠ S + 1 + 1; omega)
  have k8 := set_keep ⟨S + 1 + 1, 2, none⟩ (.slice (some ⟨B + 1 + 1 + 1 + 1, 0, none⟩) 1 2) K8.out (by show _ ≠ S + 1 + 1; omega)
  rw [hW4] at k5 k6 k7 k8
  have k9 : W4.heap[S + 1 + 1]? = some (.cells #[.string ⟨#[102]⟩, .slice (some ⟨B + 1 + 1, 0, none⟩) 1 1, .slice (some ⟨B + 1 + 1 + 1 + 1, 0, none⟩) 1 2] 45 (0, 0)) := by rw [← hW4]; exact set_same K9.out 2 _
  obtain ⟨hb3, hlay, hbw, hS, hS3⟩ := HH.out
  have hb4 : Below w1.heap.size w1 W4 := by rw [← hW4]; exact Below.drew (Below.setCell hb3 (by show _ ≤ S + 1 + 1; omega) _)
  have hS4 : W4.heap.size = S + 1 + 1 + 1 := by rw [← hW4]; show (W3.setCell _ _).heap.size = _; simp [World.setCell, hS3]
  have hbw4 : Below w.heap.size w W4 := Below.on hbw hb4
  have hlay4 : Lay W4 B := hlay.stay hb4
  have hpr := awPrint W4 B (S + 1 + 1) hlay4 k9 (HT.out.stay hbw4) (HN.out.stay hbw4)
  have HPR : Hid (Calls Tryz.prog 8 #[.agg #[.slice (some ⟨B + 1, 0, none⟩) 2 2, .slice (some ⟨S + 1 + 1, 0, none⟩) 1 1]] W4 fun e w' => e = .returned (.tuple #[.string ⟨#[119, 105, 100, 101, 110, 32, 45, 53, 44, 32, 48, 59, 10, 102, 110, 32, 102, 40, 110, 32, 105, 110, 32, 48, 46, 46, 49, 48, 41, 32, 123, 10, 32, 32, 114, 101, 116, 117, 114, 110, 32, 45, 110, 59, 10, 125, 10]⟩, .agg #[.int .i64 0, .int .i64 0, .int .i64 0]]) ∧ Below W4.heap.size W4 w') := hpr
  have q0 : W4.cell? ⟨S + 1, 0, none⟩ = some (.slice (some ⟨B + 1, 0, none⟩) 2 2) := by rw [Lib.cell_of_heap k8]; rfl
  have q1 : W4.cell? ⟨S + 1, 1, none⟩ = some (.slice (some ⟨S + 1 + 1, 0, none⟩) 1 1) := by rw [Lib.cell_of_heap k8]; rfl
  clear K5 K6 K7 K8 K9 HH e0 e1 e2 e3 e4 hb3 hlay hbw hpr hW4 hS hS3
  have K5 := show Hid _ from k5
  have K6 := show Hid _ from k6
  have K7 := show Hid _ from k7
  have K8 := show Hid _ from k8
  have K9 := show Hid _ from k9
  have HH : Hid (Below w.heap.size w W4 ∧ Lay W4 B ∧ W4.heap.size = S + 1 + 1 + 1) := ⟨hbw4, hlay4, hS4⟩
  clear k5 k6 k7 k8 k9 hbw4 hlay4 hS4 hb4
  go_wp2_with fail
  refine HPR.out.mono ?_
  rintro e w5 ⟨rfl, hb5⟩
  clear q0 q1 HPR
  obtain ⟨hbw4, hlay4, hS4⟩ := HH.out
  have hbw5 := Below.on hbw4 hb5
  have hlay5 := hlay4.stay hb5
  have k5 := (hb5.block (B + 1 + 1 + 1 + 1 + 1) (by omega)).trans K5.out
  have k6 := (hb5.block (B + 1 + 1 + 1 + 1 + 1 + 1) (by omega)).trans K6.out
  have k7 := (hb5.block S (by omega)).trans K7.out
  have k8 := (hb5.block (S + 1) (by omega)).trans K8.out
  have k9 := (hb5.block (S + 1 + 1) (by omega)).trans K9.out
  have hs5 := hb5.size
  rw [hS4] at hs5
  have s5 : S + 1 < w5.heap.size := by omega
  have s6 : S < w5.heap.size := by omega
  have s7 : B + 1 + 1 + 1 + 1 + 1 + 1 < w5.heap.size := by omega
  clear K5 K6 K7 K8 K9 HH hb5 hbw4 hlay4 hS4 hs5 hs1 hs2
  have a0 : w5.cell? ⟨S, 0, none⟩ = some (.int .i64 5) := by rw [Lib.cell_of_heap k7]; rfl
  have a1 : w5.cell? ⟨S, 1, none⟩ = some (.int .i64 0) := by rw [Lib.cell_of_heap k7]; rfl
  have a2 : w5.cell? ⟨S, 2, none⟩ = some (.int .i64 2) := by rw [Lib.cell_of_heap k7]; rfl
  have q0 : w5.cell? ⟨S + 1, 0, none⟩ = some (.slice (some ⟨B + 1, 0, none⟩) 2 2) := by rw [Lib.cell_of_heap k8]; rfl
  have q1 : w5.cell? ⟨S + 1, 1, none⟩ = some (.slice (some ⟨S + 1 + 1, 0, none⟩) 1 1) := by rw [Lib.cell_of_heap k8]; rfl
  have hq := equalIn_flt
  have hg : ∀ (w : World) (op : BinOp) (a b : Operand) (xs ys : Array Value), (eqGuard op 29 a b (.agg xs) (.agg ys)).run Tryz.prog w = .ok () w := fun w op a b xs ys => run_eqGuard_agg w op 29 a b xs ys (by kernel_rfl)
  unfold fltV at hq
  have K5 := show Hid _ from k5
  have K6 := show Hid _ from k6
  have K8 := show Hid _ from k8
  have K9 := show Hid _ from k9
  have HQ : Hid ((aPr B (S + 1 + 1) [aRet B]).In w5) := aPr_in hlay5 (body_q hlay5) k9
  have HP : Hid ((aPr B (B + 1 + 1 + 1 + 1 + 1) [aRet B, aLet]).In w5) := aPr_in hlay5 (body_p hlay5) k5
  have HH : Hid (Below w.heap.size w w5) := hbw5
  have g0 : Hid (w5.cell? ⟨B + 1 + 1 + 1 + 1 + 1 + 1, 0, none⟩ = some (.slice (some ⟨B + 1, 0, none⟩) 2 2)) := by rw [Lib.cell_of_heap k6]; rfl
  have g1 : Hid (w5.cell? ⟨B + 1 + 1 + 1 + 1 + 1 + 1, 1, none⟩ = some (.slice (some ⟨B + 1 + 1 + 1 + 1 + 1, 0, none⟩) 1 1)) := by rw [Lib.cell_of_heap k6]; rfl
  have HN1 : Hid (∀ w', Below w5.heap.size w5 w' → Calls Tryz.prog 10 #[.agg #[.slice (some ⟨B + 1, 0, none⟩) 2 2, .slice (some ⟨S + 1 + 1, 0, none⟩) 1 1]] w' fun e w'' => e = .returned (.int .i64 3) ∧ Below w'.heap.size w' w'') := fun w' hb => by
    have := nodes_any (aPr B (S + 1 + 1) [aRet B]) w' (HQ.out.stay hb)
    rw [nodes_q] at this; exact this
  have HS1 : Hid (∀ w', Below w5.heap.size w5 w' → Calls Tryz.prog 11 #[.agg #[.slice (some ⟨B + 1, 0, none⟩) 2 2, .slice (some ⟨S + 1 + 1, 0, none⟩) 1 1], .agg #[.slice (some ⟨B + 1, 0, none⟩) 2 2, .slice (some ⟨S + 1 + 1, 0, none⟩) 1 1]] w' fun e w'' => e = .returned (.bool true) ∧ Below w'.heap.size w' w'') := fun w' hb => by
    have := same_any (aPr B (S + 1 + 1) [aRet B]) (aPr B (S + 1 + 1) [aRet B]) w' (HQ.out.stay hb) (HQ.out.stay hb)
    rw [same_qq] at this; exact this
  have HS2 : Hid (∀ w', Below w5.heap.size w5 w' → Calls Tryz.prog 11 #[.agg #[.slice (some ⟨B + 1, 0, none⟩) 2 2, .slice (some ⟨B + 1 + 1 + 1 + 1 + 1, 0, none⟩) 1 1], .agg #[.slice (some ⟨B + 1, 0, none⟩) 2 2, .slice (some ⟨S + 1 + 1, 0, none⟩) 1 1]] w' fun e w'' => e = .returned (.bool false) ∧ Below w'.heap.size w' w'') := fun w' hb => by
    have := same_any (aPr B (B + 1 + 1 + 1 + 1 + 1) [aRet B, aLet]) (aPr B (S + 1 + 1) [aRet B]) w' (HP.out.stay hb) (HQ.out.stay hb)
    rw [same_pq] at this; exact this
  have g2 := show Hid _ from q0
  have g3 := show Hid _ from q1
  clear k5 k6 k7 k8 k9 hbw5 hlay5 HQ HP
  go_wp2_with fail
  have hba := Below.one (Below.refl w5.heap.size w5) (.cells #[.int .i64 0, .int .i64 0, .int .i64 0] 29)
  refine (HN1.out _ hba).mono ?_
  rintro e w6 ⟨rfl, hb6⟩
  have hb6' := Below.on hba hb6
  clear q0 q1 a0 a1 a2 hq hg hb6 hba HN1
  have q0 := (hb6'.cell (p := ⟨S + 1, 0, none⟩) s5).trans g2.out
  have q1 := (hb6'.cell (p := ⟨S + 1, 1, none⟩) s5).trans g3.out
  go_wp2_with fail
  refine (HS1.out _ hb6').mono ?_
  rintro e w7 ⟨rfl, hb7⟩
  have hb7' := Below.on hb6' hb7
  clear q0 q1 hb6' hb7 HS1
  have q0 := (hb7'.cell (p := ⟨S + 1, 0, none⟩) s5).trans g2.out
  have q1 := (hb7'.cell (p := ⟨S + 1, 1, none⟩) s5).trans g3.out
  have p0 := (hb7'.cell (p := ⟨B + 1 + 1 + 1 + 1 + 1 + 1, 0, none⟩) s7).trans g0.out
  have p1 := (hb7'.cell (p := ⟨B + 1 + 1 + 1 + 1 + 1 + 1, 1, none⟩) s7).trans g1.out
  go_wp2_with fail
  refine (HS2.out _ hb7').mono ?_
  rintro e w8 ⟨rfl, hb8⟩
  have hb8' := Below.on HH.out (Below.on hb7' hb8)
  clear q0 q1 p0 p1 hb7' hb8 HS2
  go_wp2_with fail
  go_ret
  exact ⟨rfl, hb8'⟩
end Go.Proofs.YtbpemackmadhgaaGreatDoor

/- The statement of forms, at a program that lies in memory. -/
namespace Go.Proofs.YtbpemackmadhgaaGreatDoor
open Go.RowKit Go.Sort

set_option maxRecDepth 100000 in
set_option maxHeartbeats 4000000 in
theorem treeChecks_any (p : Pr) (w : World) (hin : p.In w) (ht : Tabs w) (hnt : NumT w) : Calls Tryz.prog 3 #[p.val] w fun e w' => e = .returned (.bool true) ∧ Below w.heap.size w w' := by
  have HA : Hid (∀ w', Below w.heap.size w w' → Calls Tryz.prog 5 #[] w' fun e w'' => e = .returned (.bool true) ∧ Below w'.heap.size w' w'') := fun w' h => awake_any w' (ht.stay h) (hnt.stay h)
  have HN : Hid (∀ w', Below w.heap.size w w' → Calls Tryz.prog 6 #[p.val] w' fun e w'' => e = .returned (fltV (checkZ p).1 (checkZ p).2.1 (checkZ p).2.2) ∧ Below w'.heap.size w' w'') := fun w' h => check_any p w' (hin.stay h) (ht.stay h)
  have HR : Hid (∀ w', Below w.heap.size w w' → Calls Tryz.prog 7 #[p.val] w' fun e w'' => e = .returned (fltV (checkZ p).1 (checkZ p).2.1 (checkZ p).2.2) ∧ Below w'.heap.size w' w'') := fun w' h => rcheck_any p w' (hin.stay h)
  clear hin ht hnt
  generalize (checkZ p).1 = n0 at *
  generalize (checkZ p).2.1 = n1 at *
  generalize (checkZ p).2.2 = n2 at *
  have hq : ∀ w, (Op.equalIn 10000 29 (.agg #[.int .i64 n0, .int .i64 n1, .int .i64 n2]) (.agg #[.int .i64 n0, .int .i64 n1, .int .i64 n2])).run Tryz.prog w = .ok true w := fun w => by
    have := equalIn_flt n0 n1 n2 n0 n1 n2 w
    simpa using this
  have hg : ∀ (w : World) (op : BinOp) (a b : Operand) (xs ys : Array Value), (eqGuard op 29 a b (.agg xs) (.agg ys)).run Tryz.prog w = .ok () w := fun w op a b xs ys => run_eqGuard_agg w op 29 a b xs ys (by kernel_rfl)
  unfold Pr.val at *
  obtain ⟨W1, hW1⟩ : ∃ W1, w.alloc (.cells #[.slice p.wa p.widen.length p.wc, .slice p.fa p.funcs.length p.fc] 25) = W1 := ⟨_, rfl⟩
  have HW1 := show Hid _ from hW1
  have hb1 : Below w.heap.size w W1 := by rw [← hW1]; exact (Below.refl _ w).alloc (Nat.le_refl _) _
  have c0 : ∀ w', Below W1.heap.size W1 w' → w'.cell? ⟨w.heap.size, 0, none⟩ = some (.slice p.wa p.widen.length p.wc) := fun w' h => by
    refine (h.cell (p := ⟨w.heap.size, 0, none⟩) (by rw [← hW1]; simp)).trans ?_
    rw [← hW1, World.cell?_alloc_at _ _ _ _ rfl]; rfl
  have c1 : ∀ w', Below W1.heap.size W1 w' → w'.cell? ⟨w.heap.size, 1, none⟩ = some (.slice p.fa p.funcs.length p.fc) := fun w' h => by
    refine (h.cell (p := ⟨w.heap.size, 1, none⟩) (by rw [← hW1]; simp)).trans ?_
    rw [← hW1, World.cell?_alloc_at _ _ _ _ rfl]; rfl
  clear hW1
  go_enter Tryz.func3, Tryz.ntmps3
  go_wp2_with fail
  rw [HW1.out]
  clear HW1
  go_region_held3 (fun w' => Below W1.heap.size W1 w') (first | exact Below.drew (Below.refl _ _) | exact Below.on (by assumption) (by assumption) | exact Below.one (by assumption) _)
    (first
      | (go_at_call 5; refine (HA.out _ (Below.on hb1 (by assumption))).mono ?_; rintro e w' ⟨rfl, hb⟩)
      | (go_at_call 6; refine (HN.out _ (Below.on hb1 (by assumption))).mono ?_; rintro e w' ⟨rfl, hb⟩)
      | (go_at_call 7; refine (HR.out _ (Below.on hb1 (by assumption))).mono ?_; rintro e w' ⟨rfl, hb⟩))
  all_goals go_wp2_with fail
  all_goals go_ret
  all_goals exact ⟨by simp, Below.on hb1 (by assumption)⟩
end Go.Proofs.YtbpemackmadhgaaGreatDoor
