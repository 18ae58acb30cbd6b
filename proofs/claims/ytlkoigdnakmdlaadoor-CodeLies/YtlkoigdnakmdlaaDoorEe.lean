/- Answers hang on addresses in nothing. -/
import Derived.Test.YtlkoigdnakmdlaaDoorEc
import Derived.Test.YtlkoigdnakmdlaaDoorDd
namespace Go.Proofs.YtlkoigdnakmdlaaDoor
open Go.RowKit Go.Sort

theorem fndN_er (s : ByteArray) : ∀ (l : List Fn) (i : Nat), fndN (l.map Fn.er) s i = fndN l s i
  | [], _ => rfl
  | f :: r, i => by rw [List.map_cons, fndN, fndN, fndN_er s r (i + 1)]; rfl
theorem headZ_er (m : Mo) (f : Fn) (k : Nat) : headZ m.er f.er k = headZ m f k := by
  unfold headZ
  simp only [Mo.er, fndN_er]
  rfl
theorem headsN_er (m : Mo) : ∀ (l : List Fn) (i : Nat), headsN m.er (l.map Fn.er) i = headsN m l i
  | [], _ => rfl
  | f :: r, i => by rw [List.map_cons, headsN, headsN, headZ_er, headsN_er m r (i + 1)]
theorem parN_er (m : Mo) (n : Int) : parN m.er n = parN m n := by
  unfold parN
  simp only [Mo.er, List.getElem?_map]
  cases m.funcs[n.toNat]? <;> rfl
theorem insZ_er (m : Mo) (f : Fn) (x : Is) : insZ m.er f.er x = insZ m f x := by
  have h : numZ m.er f.er x = numZ m f x := by
    unfold numZ
    rw [parN_er]
    simp only [Mo.er, List.length_map]
    rfl
  unfold insZ
  rw [h]
  rfl
theorem codeN_er (m : Mo) (f : Fn) : ∀ (l : List Is) (i : Nat), codeN m.er f.er l i = codeN m f l i
  | [], _ => rfl
  | x :: r, i => by rw [codeN, codeN, insZ_er, codeN_er m f r (i + 1)]
theorem codeZ_er (m : Mo) (f : Fn) : codeZ m.er f.er = codeZ m f := by
  unfold codeZ
  rw [codeN_er]
  rfl
theorem codesN_er (m : Mo) : ∀ (l : List Fn) (i : Nat), codesN m.er (l.map Fn.er) i = codesN m l i
  | [], _ => rfl
  | f :: r, i => by rw [List.map_cons, codesN, codesN, codeZ_er, codesN_er m r (i + 1)]
theorem mayZ_er (m : Mo) : mayZ m.er = mayZ m := by
  have h1 : wholeZ m.er = wholeZ m := by unfold wholeZ; simp only [Mo.er, List.length_map]
  have h2 : headsN m.er m.er.funcs 0 = headsN m m.funcs 0 := headsN_er m m.funcs 0
  have h3 : codesN m.er m.er.funcs 0 = codesN m m.funcs 0 := codesN_er m m.funcs 0
  unfold mayZ
  rw [h1, h2, h3]
theorem mayZ_same {p q : Mo} (h : p.er = q.er) : mayZ p = mayZ q := by rw [← mayZ_er p, h, mayZ_er]

theorem samI_refl : ∀ l, samI l l = true
  | [] => rfl
  | x :: l => by rw [samI, samI_refl l]; simp
theorem samPs_refl : ∀ l, samPs l l = true
  | [] => rfl
  | x :: l => by rw [samPs, samPs_refl l]; simp [samP]
theorem samXs_refl : ∀ l, samXs l l = true
  | [] => rfl
  | x :: l => by rw [samXs, samXs_refl l]; simp [samX]
theorem samF_refl (f : Fn) : samF f f = true := by simp [samF, samPs_refl, samXs_refl]
theorem samFs_er : ∀ (l t : List Fn), samFs (l.map Fn.er) (t.map Fn.er) = samFs l t
  | [], [] => rfl
  | [], _ :: _ => rfl
  | _ :: _, [] => rfl
  | x :: l, y :: t => by rw [List.map_cons, List.map_cons, samFs, samFs, samFs_er l t]; rfl
theorem samFs_refl : ∀ l, samFs l l = true
  | [] => rfl
  | x :: l => by rw [samFs, samFs_refl l, samF_refl]; rfl
theorem samM_er (p q : Mo) : samM p.er q.er = samM p q := by unfold samM; simp only [Mo.er, samFs_er]
theorem samM_same {p q : Mo} (h : p.er = q.er) : samM p q = true := by
  rw [← samM_er, h]; simp [samM, samI_refl, samFs_refl]
theorem samI_comm : ∀ l t, samI l t = samI t l
  | [], [] => rfl
  | [], _ :: _ => rfl
  | _ :: _, [] => rfl
  | x :: l, y :: t => by rw [samI, samI, samI_comm l t, show (x == y) = (y == x) by rw [Bool.eq_iff_iff, beq_iff_eq, beq_iff_eq]; exact eq_comm]
theorem beq_comm' (a b : Int) : (a == b) = (b == a) := by rw [Bool.eq_iff_iff, beq_iff_eq, beq_iff_eq]; exact eq_comm
theorem samPs_comm : ∀ l t, samPs l t = samPs t l
  | [], [] => rfl
  | [], _ :: _ => rfl
  | _ :: _, [] => rfl
  | x :: l, y :: t => by rw [samPs, samPs, samPs_comm l t, samP, samP, beq_comm' x.1, beq_comm' x.2]
theorem samXs_comm : ∀ l t, samXs l t = samXs t l
  | [], [] => rfl
  | [], _ :: _ => rfl
  | _ :: _, [] => rfl
  | x :: l, y :: t => by rw [samXs, samXs, samXs_comm l t, samX, samX, beq_comm' x.op, beq_comm' x.a, beq_comm' x.b, beq_comm' x.c, beq_comm' x.n]
theorem samF_comm (x y : Fn) : samF x y = samF y x := by
  rw [samF, samF, samPs_comm, samXs_comm, beq_comm' x.regs, beq_comm' x.words, show (x.name.toList == y.name.toList) = (y.name.toList == x.name.toList) by rw [Bool.eq_iff_iff, beq_iff_eq, beq_iff_eq]; exact eq_comm]
theorem samFs_comm : ∀ l t, samFs l t = samFs t l
  | [], [] => rfl
  | [], _ :: _ => rfl
  | _ :: _, [] => rfl
  | x :: l, y :: t => by rw [samFs, samFs, samFs_comm l t, samF_comm]
theorem samM_comm (p q : Mo) : samM p q = samM q p := by rw [samM, samM, samI_comm, samFs_comm]
end Go.Proofs.YtlkoigdnakmdlaaDoor
