/- The two programs of the statements' first question, and what the plain functions say of them. -/
import Derived.Test.YtbpemackmadhgaaDoorP13
namespace Go.Proofs.YtbpemackmadhgaaDoor
open Go.RowKit Go.Sort

def zEx : Ex := .mk 0 0 ⟨#[]⟩ none 0 []
def aX : Ex := .mk 2 0 ⟨#[110]⟩ none 0 []
def aNeg (B : Nat) : Ex := .mk 5 0 ⟨#[]⟩ (some ⟨B + 1 + 1 + 1, 0, none⟩) 1 [aX]
def aRet (B : Nat) : St := .mk 9 ⟨#[]⟩ 0 (aNeg B) zEx none 0 [] none 0 [] none 0 []
def aLet : St := .mk 1 ⟨#[]⟩ 1 zEx zEx none 0 [] none 0 [] none 0 []
def aPa : Pa := ⟨⟨#[110]⟩, 0, 10⟩
def aFn (B : Nat) (l : List St) : Fu := ⟨⟨#[102]⟩, some ⟨B + 1 + 1, 0, none⟩, 1, [aPa], some ⟨B + 1 + 1 + 1 + 1, 0, none⟩, 2, l⟩
def aPr (B g : Nat) (l : List St) : Pr := ⟨some ⟨B + 1, 0, none⟩, 2, [-5, 0], some ⟨g, 0, none⟩, 1, [aFn B l]⟩
theorem zE_z : zeroE zEx = true := by simp [zeroE, zEx, Ex.kind, Ex.n, Ex.name, Ex.args]
theorem zE_neg (B : Nat) : zeroE (aNeg B) = false := by simp [zeroE, aNeg, Ex.kind]
theorem us_z : usesE zEx = 0 := by simp [usesE, zEx, Ex.name, Ex.n]; decide
theorem us_x : usesE aX = 1 := by simp [usesE, aX, Ex.name, Ex.n]; decide
theorem us_neg (B : Nat) : usesE (aNeg B) = 0 := by simp [usesE, aNeg, Ex.name, Ex.n]; decide
theorem us_ret (B : Nat) : usesS (aRet B) = 4 := by
  simp [usesS, aRet, St.name, St.n, St.a, St.b, St.body, St.els, St.cases, zE_z, zE_neg]; decide
theorem us_let : usesS aLet = 2 := by
  simp [usesS, aLet, St.name, St.n, St.a, St.b, St.body, St.els, St.cases, zE_z]; decide
theorem nm_n : nameZ ⟨#[110]⟩ = true := by decide
theorem nm_f : nameZ ⟨#[102]⟩ = true := by decide
theorem self_x : selfE aX = 0 := by unfold selfE; rw [us_x]; decide
theorem self_neg (B : Nat) : selfE (aNeg B) = 0 := by
  unfold selfE; rw [us_neg]
  show (if isE 5 = false then (5 : Int) else if (bits .andNot .i64 0 (formE 5).fields != 0) = true then 5 else if ((formE 5).args != -1 && (((1 : Nat) : Int) != (formE 5).args)) = true then 5 else if (bits .and .i64 (formE 5).fields 1 != 0 && !nameZ ⟨#[]⟩) = true then 8 else if (0 : Int) < 0 then 1 else 0) = 0
  decide
theorem chk_x (lv : Int) (h : lv ≤ 32) : chkE aX lv = 0 := by
  rw [chkE_eq, if_neg (by omega), self_x]; rfl
theorem chk_neg (B : Nat) (lv : Int) (h : lv ≤ 31) : chkE (aNeg B) lv = 0 := by
  rw [chkE_eq, if_neg (by omega), self_neg, if_neg (by simp)]
  show chkL [aX] (lv + 1) = 0
  rw [chkL, chk_x _ (by omega)]; rfl
theorem selfS_ret (B : Nat) : selfS (aRet B) = 0 := by
  unfold selfS; rw [us_ret]
  show (if isS 9 = false then (5 : Int) else if (bits .andNot .i64 4 (fldS 9) != 0) = true then 5 else if (bits .and .i64 (fldS 9) 1 != 0 && !nameZ ⟨#[]⟩) = true then 8 else if (decide ((0 : Int) < 0) || leastC []) = true then 1 else if ((9 : Int) == 10 && (5 : Int) != 4) = true then 5 else 0) = 0
  decide
theorem selfS_let : selfS aLet = 5 := by unfold selfS; rw [us_let]; decide
theorem chkS_ret (B : Nat) : chkS (aRet B) 1 = 0 := by
  unfold chkS; rw [if_neg (by omega), selfS_ret, if_neg (by simp)]
  show (if _ then _ else _) = _
  rw [show (aRet B).a = aNeg B from rfl, chk_neg B _ (by omega)]
  show (if (bits .and .i64 (fldS 9) 4 != 0 && (0 : Int) != 0) = true then (0 : Int) else if (bits .and .i64 (fldS 9) 8 != 0) = true then chkE zEx 2 else 0) = 0
  rw [if_neg (by decide), if_neg (by decide)]
theorem chkS_let : chkS aLet 1 = 5 := by unfold chkS; rw [if_neg (by omega), selfS_let]; rfl
theorem chkT_ret (B : Nat) (at_ : Int) : chkT (aRet B) 1 at_ = (0, at_ + 1) := by
  rw [chkT_eq, chkS_ret, if_neg (by simp)]; rfl
theorem chkT_let (at_ : Int) : chkT aLet 1 at_ = (5, at_ + 1) := by
  rw [chkT_eq, chkS_let]; rfl
theorem chkSs_q (B : Nat) : chkSs [aRet B] 1 0 = (0, 1) := by
  rw [chkSs, chkT_ret]; rfl
theorem chkSs_p (B : Nat) : chkSs [aRet B, aLet] 1 0 = (5, 2) := by
  rw [chkSs, chkT_ret, thenZ, if_neg (by simp), chkSs, chkT_let]; rfl
theorem head_a (B : Nat) (l : List St) : headZ (aFn B l) = 0 := by
  unfold headZ; rw [show (aFn B l).name = ⟨#[102]⟩ from rfl, nm_f]
  show (if _ then _ else _) = _
  rw [if_neg (by simp), if_neg (by show ¬ 8 < 1; omega)]
  show parsZ [aPa] = 0
  rw [parsZ, show aPa.name = ⟨#[110]⟩ from rfl, nm_n]; decide
theorem cnt_ret (B : Nat) : cntS (aRet B) 0 = 3 := by
  rw [cntS_eq]
  show cntB _ (cntZ zEx (cntZ (aNeg B) (0 + (1 + 0)))) = 3
  rw [cntZ, cntZ, zE_neg, zE_z]; rfl
theorem cnt_let : cntS aLet 3 = 4 := by
  rw [cntS_eq]
  show cntB _ (cntZ zEx (cntZ zEx (3 + (1 + 0)))) = 4
  rw [cntZ, cntZ, zE_z]; rfl
theorem nodes_q (B g : Nat) : nodesZ (aPr B g [aRet B]) = 3 := by
  unfold nodesZ
  show min (cntF [aFn B [aRet B]] 0) 4097 = 3
  rw [cntF, cntF]
  show min (cntSs [aRet B] 0) 4097 = 3
  rw [cntSs, if_neg (by omega), cnt_ret]; rfl
theorem nodes_p (B g : Nat) : nodesZ (aPr B g [aRet B, aLet]) = 4 := by
  unfold nodesZ
  show min (cntF [aFn B [aRet B, aLet]] 0) 4097 = 4
  rw [cntF, cntF]
  show min (cntSs [aRet B, aLet] 0) 4097 = 4
  rw [cntSs, if_neg (by omega), cnt_ret, cntSs, if_neg (by omega), cnt_let]; rfl
theorem chkF_q (B : Nat) : chkF (aFn B [aRet B]) = (0, 1) := by unfold chkF; rw [head_a, if_neg (by simp)]; exact chkSs_q B
theorem chkF_p (B : Nat) : chkF (aFn B [aRet B, aLet]) = (5, 2) := by unfold chkF; rw [head_a, if_neg (by simp)]; exact chkSs_p B
theorem check_q (B g : Nat) : checkZ (aPr B g [aRet B]) = (0, 0, 0) := by
  have hw : wholeZ (aPr B g [aRet B]) = 0 := by unfold wholeZ; rw [nodes_q]; rfl
  unfold checkZ; rw [hw, if_neg (by simp)]
  show chkFs [aFn B [aRet B]] 0 = _
  rw [chkFs, chkF_q]; rfl
theorem check_p (B g : Nat) : checkZ (aPr B g [aRet B, aLet]) = (5, 0, 2) := by
  have hw : wholeZ (aPr B g [aRet B, aLet]) = 0 := by unfold wholeZ; rw [nodes_p]; rfl
  unfold checkZ; rw [hw, if_neg (by simp)]
  show chkFs [aFn B [aRet B, aLet]] 0 = _
  rw [chkFs, chkF_p]; rfl
theorem ok_neg (B : Nat) : OkE (aNeg B) := ⟨1, chk_neg B 1 (by omega)⟩
def awText : List UInt8 := [119, 105, 100, 101, 110, 32, 45, 53, 44, 32, 48, 59, 10, 102, 110, 32, 102, 40, 110, 32, 105, 110, 32, 48, 46, 46, 49, 48, 41, 32, 123, 10, 32, 32, 114, 101, 116, 117, 114, 110, 32, 45, 110, 59, 10, 125, 10]
theorem text_q (B g : Nat) : txP (aPr B g [aRet B]) = awText := by
  have h0 : txE aX = [110] := by rw [txE_eq]; decide
  have h1 : txE (aNeg B) = [45, 110] := by
    rw [txE_eq]; show txOf 5 0 ⟨#[]⟩ [2] [txE aX] = _
    rw [h0]; decide
  have h2 : txS (aRet B) 1 = lineB 1 ([114, 101, 116, 117, 114, 110, 32] ++ txE (aNeg B) ++ [59]) := by unfold aRet; simp [txS]
  show txW [-5, 0] ++ txFs [aFn B [aRet B]] = _
  rw [txFs, txFs]
  unfold txF
  show txW [-5, 0] ++ (lineB 0 _ ++ txSs [aRet B] 1 ++ _ ++ []) = _
  rw [txSs, txSs, h2, h1]
  show txW [-5, 0] ++ (lineB 0 ([102, 110, 32] ++ [102] ++ [40] ++ comB [paB aPa] ++ [41, 32, 123]) ++ (lineB 1 ([114, 101, 116, 117, 114, 110, 32] ++ [45, 110] ++ [59]) ++ []) ++ lineB 0 [125] ++ []) = awText
  decide +kernel
theorem samE_refl_x : samE aX aX = true := by rw [samE_eq]; simp [aX, Ex.kind, Ex.n, Ex.name, Ex.args, samEs]
theorem samE_z : samE zEx zEx = true := by rw [samE_eq]; simp [zEx, Ex.kind, Ex.n, Ex.name, Ex.args, samEs]
theorem samE_neg (B : Nat) : samE (aNeg B) (aNeg B) = true := by rw [samE_eq]; simp [aNeg, Ex.kind, Ex.n, Ex.name, Ex.args, samEs, samE_refl_x]
theorem samS_ret (B : Nat) : samS (aRet B) (aRet B) = true := by rw [samS_eq]; simp [aRet, St.kind, St.name, St.n, St.a, St.b, St.body, St.els, St.cases, samE_neg, samE_z, samSs, samCs]
theorem same_qq (B g : Nat) : samPr (aPr B g [aRet B]) (aPr B g [aRet B]) = true := by
  simp [samPr, aPr, samI, samFs, samF, aFn, samPs, samP, samSs, samS_ret]
theorem same_pq (B g g' : Nat) : samPr (aPr B g [aRet B, aLet]) (aPr B g' [aRet B]) = false := by
  simp [samPr, aPr, samFs, samF, aFn, samSs]
end Go.Proofs.YtbpemackmadhgaaDoor
