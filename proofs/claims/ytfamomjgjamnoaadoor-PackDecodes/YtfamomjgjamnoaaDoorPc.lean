/- Plain: a module's bytes are read as that module; what is cut off, and what goes on, is told at its place; bytes that are taken are the bytes of what was read. -/
import Derived.Test.YtfamomjgjamnoaaDoorPb
import Derived.Test.YtfamomjgjamnoaaDoorJe
namespace Go.Proofs.YtfamomjgjamnoaaDoor
open Go.RowKit

/-- Wherever these bytes lie, they are read as that, and no further; a part of them is too short. -/
structure Cod {α : Type} (r : Rd α) (l : Bt) (x : α) : Prop where
  get : ∀ pre post : Bt, r (pre ++ (l ++ post)) pre.length = .ok (x, pre.length + l.length)
  cut : ∀ (pre : Bt) (k : Nat), k < l.length → r (pre ++ l.take k) pre.length = .error (6, ((pre.length + k : Nat) : Int))
theorem Cod.ret {α : Type} (x : α) : Cod (Rd.ret x) [] x := ⟨fun _ _ => rfl, fun _ _ h => by simp at h⟩
theorem Cod.bind {α β : Type} {r : Rd α} {f : α → Rd β} {l l' : Bt} {x : α} {y : β} (h : Cod r l x) (k : Cod (f x) l' y) : Cod (r.bind f) (l ++ l') y := by
  constructor
  · intro pre post
    have h1 := h.get pre (l' ++ post)
    have h2 := k.get (pre ++ l) post
    rw [List.append_assoc, List.length_append] at h2
    unfold Rd.bind
    rw [List.append_assoc, h1]
    simp only
    rw [h2, List.length_append, Nat.add_assoc]
  · intro pre j hj
    unfold Rd.bind
    by_cases hl : j < l.length
    · have h1 := h.cut pre j hl
      rw [List.take_append_of_le_length (by omega), h1]
    · obtain ⟨i, rfl⟩ : ∃ i, j = l.length + i := ⟨j - l.length, by omega⟩
      rw [List.length_append] at hj
      have h1 := h.get pre (l'.take i)
      have h2 := k.cut (pre ++ l) i (by omega)
      rw [List.append_assoc, List.length_append] at h2
      rw [List.take_length_add_append, h1]
      simp only
      rw [h2, Nat.add_assoc]
theorem Cod.map {α β : Type} {r : Rd α} {f : α → β} {l : Bt} {x : α} (h : Cod r l x) : Cod (r.bind fun a => Rd.ret (f a)) l (f x) := by
  have := h.bind (f := fun a => Rd.ret (f a)) (Cod.ret (f x))
  rwa [List.append_nil] at this
theorem cod_raw (l : Bt) : Cod (rawR l.length) l l := by
  constructor
  · intro pre post
    unfold rawR
    rw [if_neg (by simp only [List.length_append]; omega)]
    simp
  · intro pre k hk
    unfold rawR
    rw [if_pos (by simp only [List.length_append, List.length_take]; omega), List.length_append, List.length_take, Nat.min_eq_left (by omega)]
theorem leB_cons (k n : Nat) : leB (k + 1) n = UInt8.ofNat n :: leB k (n / 256) := by
  unfold leB
  rw [List.range_succ_eq_map, List.map_cons, List.map_map]
  congr 1
  · simp
  · apply List.map_congr_left
    intro j _
    show UInt8.ofNat (n / 256 ^ (j + 1)) = UInt8.ofNat (n / 256 / 256 ^ j)
    rw [Nat.pow_succ, Nat.mul_comm, Nat.div_div_eq_div_mul]
theorem leN_leB : ∀ (k n : Nat), leN (leB k n) = n % 256 ^ k
  | 0, n => by simp [leB, leN, Nat.mod_one]
  | k + 1, n => by
    rw [leB_cons, leN, leN_leB k, Nat.pow_succ, Nat.mul_comm (256 ^ k) 256, Nat.mod_mul]
    simp
theorem leB_leN : ∀ (l : Bt), leB l.length (leN l) = l
  | [] => rfl
  | b :: l => by
    have hb := b.toNat_lt
    rw [List.length_cons, leB_cons, leN]
    have h1 : (b.toNat + 256 * leN l) / 256 = leN l := by omega
    rw [h1, leB_leN l]
    congr 1
    apply UInt8.toNat.inj
    simp
theorem cod_num {k n : Nat} (h : n < 256 ^ k) : Cod (numR k) (leB k n) n := by
  have := (cod_raw (leB k n)).map (f := leN)
  rw [leB_len, leN_leB, Nat.mod_eq_of_lt h] at this
  exact this
theorem cod_cnt {k n most : Nat} (e : Int) (h : n < 256 ^ k) (hm : n ≤ most) : Cod (cntR k most e) (leB k n) n := by
  have h1 := cod_num h
  constructor
  · intro pre post
    unfold cntR
    rw [h1.get]
    simp only
    rw [if_neg (by omega)]
  · intro pre j hj
    unfold cntR
    rw [h1.cut pre j hj]
theorem u64N_nat {n : Nat} (h : n < 18446744073709551616) : u64N (n : Int) = n := by unfold u64N; omega
theorem cod_w8 {z : Int} (h : I64 z) : Cod w8R (w8B z) z := by
  have h1 := (cod_num (k := 8) (n := u64N z) (by have := u64N_lt z; simpa using this)).map (f := sgn)
  have h2 : sgn (u64N z) = z := by unfold sgn u64N; unfold I64 at h; split <;> omega
  rw [h2] at h1
  exact h1
theorem cod_w1 {z : Int} (h : In8 z) : Cod w1R (w1B z) z := by
  unfold In8 at h
  have h1 := (cod_num (k := 1) (n := u64N z) (by unfold u64N; omega)).map (f := fun n : Nat => (n : Int))
  have h2 : ((u64N z : Nat) : Int) = z := by unfold u64N; omega
  simp only [h2] at h1
  exact h1
theorem cod_w2 {z : Int} (h : 0 ≤ z ∧ z ≤ 65535) : Cod w2R (w2B z) z := by
  have h1 := (cod_num (k := 2) (n := u64N z) (by unfold u64N; omega)).map (f := fun n : Nat => (n : Int))
  have h2 : ((u64N z : Nat) : Int) = z := by unfold u64N; omega
  simp only [h2] at h1
  exact h1
theorem cod_c1 {n most : Nat} (e : Int) (h : n < 256) (hm : n ≤ most) : Cod (cntR 1 most e) (w1B (n : Int)) n := by
  have := cod_cnt (k := 1) e (by omega) hm
  unfold w1B
  rw [u64N_nat (by omega)]
  exact this
theorem cod_c2 {n most : Nat} (e : Int) (h : n < 65536) (hm : n ≤ most) : Cod (cntR 2 most e) (w2B (n : Int)) n := by
  have := cod_cnt (k := 2) (n := n) e (by omega) hm
  unfold w2B
  rw [u64N_nat (by omega)]
  exact this
theorem cod_list {α β : Type} {r : Rd α} {g : β → Bt} {f : β → α} (l : List β) (h : ∀ x ∈ l, Cod r (g x) (f x)) : ∀ j, j ≤ l.length → Cod (listR r j) ((l.take j).flatMap g) ((l.take j).map f)
  | 0, _ => Cod.ret _
  | j + 1, hj => by
    have h1 := cod_list l h j (by omega)
    have h2 := h l[j] (List.getElem_mem _)
    have h3 := h1.bind (f := fun l => r.bind fun x => Rd.ret (l ++ [x])) (h2.map (f := fun x => (l.take j).map f ++ [x]))
    have e : l.take (j + 1) = l.take j ++ [l[j]] := by rw [List.take_add_one, List.getElem?_eq_getElem (by omega)]; rfl
    rw [e, List.flatMap_append, List.map_append]
    simp only [List.flatMap_cons, List.flatMap_nil, List.append_nil, List.map_cons, List.map_nil]
    exact h3
theorem cod_all {α β : Type} {r : Rd α} {g : β → Bt} {f : β → α} (l : List β) (h : ∀ x ∈ l, Cod r (g x) (f x)) : Cod (listR r l.length) (l.flatMap g) (l.map f) := by
  have := cod_list l h l.length (Nat.le_refl _)
  rwa [List.take_length] at this
theorem cod_sp {s : Sp} (h : spOk s) : Cod spR (spB s) s := (cod_w8 h.1).bind ((cod_w8 h.2).map)
theorem cod_is {x : Is} (h : In8 x.op ∧ In8 x.a ∧ In8 x.b ∧ In8 x.c) (hn : I64 x.n) : Cod isR (insB x) x := by
  unfold insB isR
  simp only [List.append_assoc]
  exact (cod_w1 h.1).bind ((cod_w1 h.2.1).bind ((cod_w1 h.2.2.1).bind ((cod_w1 h.2.2.2).bind ((cod_w8 hn).map))))
theorem cod_fn {f : Fn} (h : FOk f) (hp : ∀ p ∈ f.params, spOk p) (hx : ∀ x ∈ f.code, I64 x.n) : Cod fnR (fnB f) f.er := by
  unfold fnB fnR
  simp only [List.append_assoc]
  have hnl := h.nl
  have hpl := h.pl
  have hcl := h.cl
  have hln : f.name.data.toList.length = f.name.size := rfl
  have h2 := cod_raw f.name.data.toList
  rw [hln] at h2
  have h4 := cod_all (f := id) f.params (fun p hq => cod_sp (hp p hq))
  have h8 := cod_all (f := id) f.code (fun x hq => cod_is (h.ins x hq) (hx x hq))
  rw [List.map_id] at h4 h8
  have e : (⟨tb f.name.data.toList, none, 0, f.params, f.regs, f.words, none, 0, f.code⟩ : Fn) = f.er := by rw [tb_of]; rfl
  rw [← e]
  exact (cod_c1 8 (by omega) hnl).bind (h2.bind ((cod_c1 3 (by omega) hpl).bind (h4.bind ((cod_w1 h.rg).bind ((cod_w2 h.wd).bind ((cod_c2 97 (by omega) hcl).bind (h8.map)))))))
theorem cod_sig : Cod (marksR 4) sigB () := by
  have h (i : Nat) (hi : In8 (sigI i)) : Cod (markR i) (w1B (sigI i)) () := by
    have := (cod_w1 hi).bind (f := fun c => if c = sigI i then Rd.ret () else Rd.bad 5 i) (y := ()) (l' := []) (by rw [if_pos rfl]; exact Cod.ret _)
    rwa [List.append_nil] at this
  have h0 := h 0 ⟨by decide, by decide⟩
  have h1 := h 1 ⟨by decide, by decide⟩
  have h2 := h 2 ⟨by decide, by decide⟩
  have h3 := h 3 ⟨by decide, by decide⟩
  have hh := (((((Cod.ret ()).bind (f := fun _ => markR 0) h0).bind (f := fun _ => markR 1) h1).bind (f := fun _ => markR 2) h2).bind (f := fun _ => markR 3) h3)
  have e : (((([] ++ w1B (sigI 0)) ++ w1B (sigI 1)) ++ w1B (sigI 2)) ++ w1B (sigI 3)) = sigB := by decide
  rw [e] at hh
  exact hh
/-- A module, and not yet the end. -/
def moK : Rd Mo := (marksR 4).bind fun _ => (cntR 1 16 3).bind fun n => (listR w8R n).bind fun ths => (cntR 1 32 3).bind fun k => (listR fnR k).bind fun fs => Rd.ret ⟨none, 0, ths, none, 0, fs⟩
theorem bind_assoc {α β γ : Type} (m : Rd α) (f : α → Rd β) (g : β → Rd γ) : (m.bind f).bind g = m.bind fun x => (f x).bind g := by
  funext bs a
  unfold Rd.bind
  cases m bs a <;> rfl
theorem ret_bind {α β : Type} (x : α) (f : α → Rd β) : (Rd.ret x).bind f = f x := rfl
theorem moR_eq : moR = moK.bind fun m => endR.bind fun _ => Rd.ret m := by
  unfold moR moK
  simp only [bind_assoc, ret_bind]
/-- The numbers of a module are numbers of 64 bits. -/
structure Nums (m : Mo) : Prop where
  t : ∀ z ∈ m.ths, I64 z
  p : ∀ f ∈ m.funcs, ∀ p ∈ f.params, spOk p
  c : ∀ f ∈ m.funcs, ∀ x ∈ f.code, I64 x.n
theorem nums_in {W : World} {m : Mo} (h : m.In W) : Nums m := ⟨h.2.1, fun f hf => (h.2.2.2 f hf).2.2.2.2.1, fun f hf x hx => ((h.2.2.2 f hf).2.2.2.2.2.2 x hx).2.2.2.2⟩
theorem cod_mo {m : Mo} (h : MOk m) (hn : Nums m) : Cod moK (moB m) m.er := by
  unfold moB moK
  simp only [List.append_assoc]
  have h3 := cod_all (f := id) m.ths (fun z hz => cod_w8 (hn.t z hz))
  rw [List.map_id] at h3
  have h5 := cod_all (f := Fn.er) m.funcs (fun f hf => cod_fn (h.fs f hf) (hn.p f hf) (hn.c f hf))
  have htl := h.tl
  have hfl := h.fl
  exact cod_sig.bind ((cod_c1 3 (by omega) htl).bind (h3.bind ((cod_c1 3 (by omega) hfl).bind (h5.map))))
/-- There and back. -/
theorem dec_enc {m : Mo} (h : MOk m) (hn : Nums m) : decZ (moB m) = .ok m.er := by
  have hl := moB_len h
  have h1 := (cod_mo h hn).get [] []
  rw [List.append_nil, List.nil_append] at h1
  unfold decZ
  rw [if_neg (by omega), moR_eq]
  unfold Rd.bind
  rw [show (0 : Nat) = ([] : Bt).length from rfl, h1]
  simp only [endR, List.length_nil, Nat.zero_add, Nat.lt_irrefl, if_false, Rd.ret]
theorem dec_cut {m : Mo} (h : MOk m) (hn : Nums m) {k : Nat} (hk : k < (moB m).length) : decZ ((moB m).take k) = .error (6, (k : Int)) := by
  have hl := moB_len h
  have h1 := (cod_mo h hn).cut [] k hk
  rw [List.nil_append] at h1
  unfold decZ
  rw [if_neg (by rw [List.length_take]; omega), moR_eq]
  unfold Rd.bind
  rw [show (0 : Nat) = ([] : Bt).length from rfl, h1]
  simp
theorem dec_more {m : Mo} (h : MOk m) (hn : Nums m) {t : Bt} (ht : 0 < t.length) (hs : ¬ 1048576 < ((moB m) ++ t).length) : decZ (moB m ++ t) = .error (7, ((moB m).length : Int)) := by
  have h1 := (cod_mo h hn).get [] t
  rw [List.nil_append] at h1
  unfold decZ
  rw [if_neg hs, moR_eq]
  unfold Rd.bind
  rw [show (0 : Nat) = ([] : Bt).length from rfl, h1]
  simp only [endR, List.length_nil, Nat.zero_add]
  rw [if_pos (by rw [List.length_append]; omega)]
theorem dec_long {bs : Bt} (h : 1048576 < bs.length) : decZ bs = .error (4, 1048576) := by unfold decZ; rw [if_pos h]

/-- What was read lay there. -/
def Lay {α : Type} (r : Rd α) (g : α → Bt) : Prop := ∀ bs a x a', r bs a = .ok (x, a') → a ≤ bs.length → a' ≤ bs.length ∧ bs.drop a = g x ++ bs.drop a'
theorem bind_ok {α β : Type} {m : Rd α} {f : α → Rd β} {bs : Bt} {a : Nat} {y : β} {a' : Nat} (h : m.bind f bs a = .ok (y, a')) : ∃ x a1, m bs a = .ok (x, a1) ∧ f x bs a1 = .ok (y, a') := by
  unfold Rd.bind at h
  cases hm : m bs a with
  | error e => rw [hm] at h; cases h
  | ok xa => rw [hm] at h; exact ⟨xa.1, xa.2, rfl, h⟩
theorem ret_ok {α : Type} {x y : α} {bs : Bt} {a a' : Nat} (h : Rd.ret x bs a = .ok (y, a')) : x = y ∧ a = a' := by
  unfold Rd.ret at h
  injection h with h
  injection h with h1 h2
  exact ⟨h1, h2⟩
theorem lay_raw {n : Nat} {bs : Bt} {a : Nat} {x : Bt} {a' : Nat} (h : rawR n bs a = .ok (x, a')) (ha : a ≤ bs.length) : a' ≤ bs.length ∧ bs.drop a = x ++ bs.drop a' ∧ x.length = n := by
  unfold rawR at h
  split at h
  · cases h
  · injection h with h
    injection h with h1 h2
    subst h1; subst h2
    refine ⟨by omega, ?_, by rw [List.length_take, List.length_drop]; omega⟩
    rw [← List.drop_drop, List.take_append_drop]
theorem lay_num {k : Nat} {bs : Bt} {a : Nat} {n a' : Nat} (h : numR k bs a = .ok (n, a')) (ha : a ≤ bs.length) : a' ≤ bs.length ∧ bs.drop a = leB k n ++ bs.drop a' ∧ n < 256 ^ k := by
  obtain ⟨l, a1, h1, h2⟩ := bind_ok h
  obtain ⟨rfl, rfl⟩ := ret_ok h2
  obtain ⟨h3, h4, h5⟩ := lay_raw h1 ha
  subst h5
  exact ⟨h3, by rw [leB_leN]; exact h4, leN_lt l⟩
theorem lay_cnt {k most : Nat} {e : Int} {bs : Bt} {a : Nat} {n a' : Nat} (h : cntR k most e bs a = .ok (n, a')) (ha : a ≤ bs.length) : a' ≤ bs.length ∧ bs.drop a = leB k n ++ bs.drop a' ∧ n < 256 ^ k := by
  unfold cntR at h
  cases hn : numR k bs a with
  | error e => rw [hn] at h; cases h
  | ok na =>
    rw [hn] at h
    simp only at h
    split at h
    · cases h
    · injection h with h
      injection h with h1 h2
      subst h1; subst h2
      exact lay_num hn ha
theorem u64N_sgn {n : Nat} (h : n < 18446744073709551616) : u64N (sgn n) = n := by unfold sgn u64N; split <;> omega
theorem lay_w8 : Lay w8R w8B := by
  intro bs a x a' h ha
  obtain ⟨n, a1, h1, h2⟩ := bind_ok h
  obtain ⟨rfl, rfl⟩ := ret_ok h2
  obtain ⟨h3, h4, h5⟩ := lay_num h1 ha
  refine ⟨h3, ?_⟩
  unfold w8B
  rw [u64N_sgn (by simpa using h5)]
  exact h4
theorem lay_w1 : Lay w1R w1B := by
  intro bs a x a' h ha
  obtain ⟨n, a1, h1, h2⟩ := bind_ok h
  obtain ⟨rfl, rfl⟩ := ret_ok h2
  obtain ⟨h3, h4, h5⟩ := lay_num h1 ha
  refine ⟨h3, ?_⟩
  unfold w1B
  rw [u64N_nat (by omega)]
  exact h4
theorem lay_w2 : Lay w2R w2B := by
  intro bs a x a' h ha
  obtain ⟨n, a1, h1, h2⟩ := bind_ok h
  obtain ⟨rfl, rfl⟩ := ret_ok h2
  obtain ⟨h3, h4, h5⟩ := lay_num h1 ha
  refine ⟨h3, ?_⟩
  unfold w2B
  rw [u64N_nat (by omega)]
  exact h4
theorem lay_list {α : Type} {r : Rd α} {g : α → Bt} (hr : Lay r g) : ∀ (n : Nat) {bs : Bt} {a : Nat} {l : List α} {a' : Nat}, listR r n bs a = .ok (l, a') → a ≤ bs.length → a' ≤ bs.length ∧ bs.drop a = l.flatMap g ++ bs.drop a' ∧ l.length = n
  | 0, bs, a, l, a', h, ha => by
    obtain ⟨rfl, rfl⟩ := ret_ok h
    exact ⟨ha, rfl, rfl⟩
  | n + 1, bs, a, l, a', h, ha => by
    obtain ⟨l1, a1, h1, h2⟩ := bind_ok h
    obtain ⟨x, a2, h3, h4⟩ := bind_ok h2
    obtain ⟨rfl, rfl⟩ := ret_ok h4
    obtain ⟨k1, k2, k3⟩ := lay_list hr n h1 ha
    obtain ⟨k4, k5⟩ := hr _ _ _ _ h3 k1
    refine ⟨k4, ?_, by simp [k3]⟩
    rw [k2, k5, List.flatMap_append]
    simp
theorem lay_sp : Lay spR spB := by
  intro bs a x a' h ha
  obtain ⟨lo, a1, h1, h⟩ := bind_ok h
  obtain ⟨hi, a2, h2, h⟩ := bind_ok h
  obtain ⟨rfl, rfl⟩ := ret_ok h
  obtain ⟨k1, e1⟩ := lay_w8 _ _ _ _ h1 ha
  obtain ⟨k2, e2⟩ := lay_w8 _ _ _ _ h2 k1
  exact ⟨k2, by rw [e1, e2, spB, List.append_assoc]⟩
theorem lay_is : Lay isR insB := by
  intro bs a x a' h ha
  obtain ⟨x0, a1, h1, h⟩ := bind_ok h
  obtain ⟨x1, a2, h2, h⟩ := bind_ok h
  obtain ⟨x2, a3, h3, h⟩ := bind_ok h
  obtain ⟨x3, a4, h4, h⟩ := bind_ok h
  obtain ⟨x4, a5, h5, h⟩ := bind_ok h
  obtain ⟨rfl, rfl⟩ := ret_ok h
  obtain ⟨k1, e1⟩ := lay_w1 _ _ _ _ h1 ha
  obtain ⟨k2, e2⟩ := lay_w1 _ _ _ _ h2 k1
  obtain ⟨k3, e3⟩ := lay_w1 _ _ _ _ h3 k2
  obtain ⟨k4, e4⟩ := lay_w1 _ _ _ _ h4 k3
  obtain ⟨k5, e5⟩ := lay_w8 _ _ _ _ h5 k4
  exact ⟨k5, by rw [e1, e2, e3, e4, e5, insB]; simp only [List.append_assoc]⟩
theorem lay_fn : Lay fnR fnB := by
  intro bs a x a' h ha
  obtain ⟨n, a1, h1, h⟩ := bind_ok h
  obtain ⟨nm, a2, h2, h⟩ := bind_ok h
  obtain ⟨k, a3, h3, h⟩ := bind_ok h
  obtain ⟨ps, a4, h4, h⟩ := bind_ok h
  obtain ⟨rg, a5, h5, h⟩ := bind_ok h
  obtain ⟨wd, a6, h6, h⟩ := bind_ok h
  obtain ⟨c, a7, h7, h⟩ := bind_ok h
  obtain ⟨co, a8, h8, h⟩ := bind_ok h
  obtain ⟨rfl, rfl⟩ := ret_ok h
  obtain ⟨k1, e1, b1⟩ := lay_cnt h1 ha
  obtain ⟨k2, e2, l2⟩ := lay_raw h2 k1
  obtain ⟨k3, e3, b3⟩ := lay_cnt h3 k2
  obtain ⟨k4, e4, l4⟩ := lay_list lay_sp _ h4 k3
  obtain ⟨k5, e5⟩ := lay_w1 _ _ _ _ h5 k4
  obtain ⟨k6, e6⟩ := lay_w2 _ _ _ _ h6 k5
  obtain ⟨k7, e7, b7⟩ := lay_cnt h7 k6
  obtain ⟨k8, e8, l8⟩ := lay_list lay_is _ h8 k7
  refine ⟨k8, ?_⟩
  rw [e1, e2, e3, e4, e5, e6, e7, e8, fnB]
  simp only [tb_size, w1B, w2B, l2, l4, l8]
  rw [u64N_nat (by omega : n < _), u64N_nat (by omega : k < _), u64N_nat (by omega : c < _)]
  simp only [List.append_assoc]
theorem lay_mark {i : Nat} {bs : Bt} {a : Nat} {a' : Nat} {u : Unit} (h : markR i bs a = .ok (u, a')) (ha : a ≤ bs.length) : a' ≤ bs.length ∧ bs.drop a = w1B (sigI i) ++ bs.drop a' := by
  obtain ⟨c, a1, h1, h⟩ := bind_ok h
  obtain ⟨k1, e1⟩ := lay_w1 _ _ _ _ h1 ha
  split at h
  · rename_i hc
    subst hc
    obtain ⟨_, rfl⟩ := ret_ok h
    exact ⟨k1, e1⟩
  · cases h
theorem lay_sig {bs : Bt} {a : Nat} {a' : Nat} {u : Unit} (h : marksR 4 bs a = .ok (u, a')) (ha : a ≤ bs.length) : a' ≤ bs.length ∧ bs.drop a = sigB ++ bs.drop a' := by
  obtain ⟨_, a4, h, h4⟩ := bind_ok h
  obtain ⟨_, a3, h, h3⟩ := bind_ok h
  obtain ⟨_, a2, h, h2⟩ := bind_ok h
  obtain ⟨_, a1, h, h1⟩ := bind_ok h
  obtain ⟨_, rfl⟩ := ret_ok h
  obtain ⟨k1, e1⟩ := lay_mark h1 ha
  obtain ⟨k2, e2⟩ := lay_mark h2 k1
  obtain ⟨k3, e3⟩ := lay_mark h3 k2
  obtain ⟨k4, e4⟩ := lay_mark h4 k3
  refine ⟨k4, ?_⟩
  rw [e1, e2, e3, e4]
  have e : w1B (sigI 0) ++ (w1B (sigI 1) ++ (w1B (sigI 2) ++ w1B (sigI 3))) = sigB := by decide
  rw [← e]
  simp only [List.append_assoc]
theorem lay_mo : Lay moK moB := by
  intro bs a x a' h ha
  obtain ⟨_, a1, h1, h⟩ := bind_ok h
  obtain ⟨n, a2, h2, h⟩ := bind_ok h
  obtain ⟨ts, a3, h3, h⟩ := bind_ok h
  obtain ⟨k, a4, h4, h⟩ := bind_ok h
  obtain ⟨fs, a5, h5, h⟩ := bind_ok h
  obtain ⟨rfl, rfl⟩ := ret_ok h
  obtain ⟨k1, e1⟩ := lay_sig h1 ha
  obtain ⟨k2, e2, b2⟩ := lay_cnt h2 k1
  obtain ⟨k3, e3, l3⟩ := lay_list lay_w8 _ h3 k2
  obtain ⟨k4, e4, b4⟩ := lay_cnt h4 k3
  obtain ⟨k5, e5, l5⟩ := lay_list lay_fn _ h5 k4
  refine ⟨k5, ?_⟩
  rw [e1, e2, e3, e4, e5, moB]
  simp only [w1B, l3, l5]
  rw [u64N_nat (by omega : n < _), u64N_nat (by omega : k < _)]
  simp only [List.append_assoc]
/-- Bytes that are taken are the bytes of what was read. -/
theorem enc_dec {bs : Bt} {m : Mo} (h : decZ bs = .ok m) : moB m = bs := by
  unfold decZ at h
  split at h
  · cases h
  · cases hm : moR bs 0 with
    | error e => rw [hm] at h; cases h
    | ok xa =>
      rw [hm] at h
      obtain ⟨x, a⟩ := xa
      injection h with h
      subst h
      rw [moR_eq] at hm
      obtain ⟨y, a1, h1, h2⟩ := bind_ok hm
      obtain ⟨_, a2, h3, h4⟩ := bind_ok h2
      obtain ⟨rfl, rfl⟩ := ret_ok h4
      obtain ⟨k1, e1⟩ := lay_mo _ _ _ _ h1 (Nat.zero_le _)
      unfold endR at h3
      split at h3
      · cases h3
      · rename_i hlt
        have hz : bs.drop a1 = [] := List.drop_eq_nil_of_le (by omega)
        rw [List.drop_zero, hz, List.append_nil] at e1
        exact e1.symm

/-- What is wrong is told at a place within the bytes. -/
def Wth {α : Type} (r : Rd α) : Prop := ∀ bs a, a ≤ bs.length → match r bs a with
  | .error (_, p) => 0 ≤ p ∧ p ≤ (bs.length : Int)
  | .ok (_, a') => a' ≤ bs.length
theorem Wth.ret {α : Type} (x : α) : Wth (Rd.ret x) := fun _ _ h => h
theorem Wth.bind {α β : Type} {r : Rd α} {f : α → Rd β} (h : Wth r) (k : ∀ x, Wth (f x)) : Wth (r.bind f) := by
  intro bs a ha
  have h1 := h bs a ha
  unfold Rd.bind
  cases hr : r bs a with
  | error ep => rw [hr] at h1; exact h1
  | ok xa => rw [hr] at h1; exact k xa.1 bs xa.2 h1
theorem wth_raw (n : Nat) : Wth (rawR n) := by
  intro bs a ha
  unfold rawR
  split
  · rename_i h
    split at h
    · injection h with h; injection h with _ h; subst h; exact ⟨by omega, by omega⟩
    · cases h
  · rename_i h
    split at h
    · cases h
    · injection h with h; injection h with _ h; subst h; omega
theorem wth_num (k : Nat) : Wth (numR k) := (wth_raw k).bind fun _ => Wth.ret _
theorem wth_cnt (k most : Nat) (e : Int) : Wth (cntR k most e) := by
  intro bs a ha
  have h1 := wth_num k bs a ha
  unfold cntR
  cases hn : numR k bs a with
  | error ep => rw [hn] at h1; exact h1
  | ok na =>
    rw [hn] at h1
    simp only at h1 ⊢
    by_cases hm : most < na.1
    · rw [if_pos hm]; exact ⟨by omega, by omega⟩
    · rw [if_neg hm]; exact h1
theorem wth_list {α : Type} {r : Rd α} (h : Wth r) : ∀ n, Wth (listR r n)
  | 0 => Wth.ret _
  | n + 1 => (wth_list h n).bind fun _ => h.bind fun _ => Wth.ret _
theorem wth_w8 : Wth w8R := (wth_num 8).bind fun _ => Wth.ret _
theorem wth_w1 : Wth w1R := (wth_num 1).bind fun _ => Wth.ret _
theorem wth_w2 : Wth w2R := (wth_num 2).bind fun _ => Wth.ret _
theorem wth_sp : Wth spR := wth_w8.bind fun _ => wth_w8.bind fun _ => Wth.ret _
theorem wth_is : Wth isR := wth_w1.bind fun _ => wth_w1.bind fun _ => wth_w1.bind fun _ => wth_w1.bind fun _ => wth_w8.bind fun _ => Wth.ret _
theorem wth_fn : Wth fnR := (wth_cnt _ _ _).bind fun _ => (wth_raw _).bind fun _ => (wth_cnt _ _ _).bind fun _ => (wth_list wth_sp _).bind fun _ => wth_w1.bind fun _ => wth_w2.bind fun _ => (wth_cnt _ _ _).bind fun _ => (wth_list wth_is _).bind fun _ => Wth.ret _
theorem wth_end : Wth endR := by
  intro bs a ha
  unfold endR
  by_cases h : a < bs.length
  · rw [if_pos h]; exact ⟨by omega, by omega⟩
  · rw [if_neg h]; exact ha
def WthN (bs : Bt) (n : Nat) : Except (Int × Int) (Unit × Nat) → Prop
  | .error (_, p) => 0 ≤ p ∧ p ≤ (bs.length : Int)
  | .ok (_, a') => a' = n ∧ n ≤ bs.length
theorem marks_at {bs : Bt} : ∀ (n : Nat), WthN bs n (marksR n bs 0)
  | 0 => ⟨rfl, Nat.zero_le _⟩
  | n + 1 => by
    have h1 := marks_at (bs := bs) n
    unfold marksR Rd.bind
    cases hm : marksR n bs 0 with
    | error ep => rw [hm] at h1; exact h1
    | ok xa =>
      rw [hm] at h1
      obtain ⟨u, a⟩ := xa
      simp only [WthN] at h1
      obtain ⟨rfl, hn⟩ := h1
      show WthN bs (a + 1) (markR a bs a)
      unfold markR
      have h2 := wth_w1 bs a hn
      unfold Rd.bind
      cases hw : w1R bs a with
      | error ep => rw [hw] at h2; exact h2
      | ok ca =>
        obtain ⟨c, a'⟩ := ca
        rw [hw] at h2
        have e : a' = a + 1 ∧ a + 1 ≤ bs.length := by
          obtain ⟨l, a1, k1, k2⟩ := bind_ok hw
          obtain ⟨l2, a2, k3, k4⟩ := bind_ok k1
          obtain ⟨_, rfl⟩ := ret_ok k2
          obtain ⟨_, rfl⟩ := ret_ok k4
          unfold rawR at k3
          split at k3
          · cases k3
          · injection k3 with k3
            injection k3 with _ k3
            exact ⟨k3.symm, by omega⟩
        show WthN bs (a + 1) ((if c = sigI a then Rd.ret () else Rd.bad 5 a) bs a')
        by_cases hc : c = sigI a
        · rw [if_pos hc]; exact e
        · rw [if_neg hc]; exact ⟨by omega, by omega⟩
theorem dec_place {bs : Bt} {e p : Int} (h : decZ bs = .error (e, p)) : 0 ≤ p ∧ p ≤ (bs.length : Int) := by
  unfold decZ at h
  split at h
  · injection h with h; injection h with _ h; omega
  · have hk : Wth ((cntR 1 16 3).bind fun n => (listR w8R n).bind fun ths => (cntR 1 32 3).bind fun k => (listR fnR k).bind fun fs => endR.bind fun _ => Rd.ret (⟨none, 0, ths, none, 0, fs⟩ : Mo)) := (wth_cnt _ _ _).bind fun _ => (wth_list wth_w8 _).bind fun _ => (wth_cnt _ _ _).bind fun _ => (wth_list wth_fn _).bind fun _ => wth_end.bind fun _ => Wth.ret _
    have h0 := marks_at (bs := bs) 4
    cases hm : moR bs 0 with
    | ok xa => rw [hm] at h; cases h
    | error ep =>
      rw [hm] at h
      injection h with h
      subst h
      unfold moR at hm
      rw [Rd.bind] at hm
      cases h4 : marksR 4 bs 0 with
      | error ep => rw [h4] at hm h0; injection hm with hm; subst hm; exact h0
      | ok xa =>
        rw [h4] at hm h0
        obtain ⟨u, a⟩ := xa
        simp only [WthN] at hm h0
        obtain ⟨rfl, hl⟩ := h0
        have h5 := hk bs 4 hl
        rw [hm] at h5
        exact h5
end Go.Proofs.YtfamomjgjamnoaaDoor
