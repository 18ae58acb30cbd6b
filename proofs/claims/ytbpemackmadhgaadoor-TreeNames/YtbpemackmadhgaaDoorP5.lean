/- What is written of each element: thresholds, parameters. -/
import Derived.Test.YtbpemackmadhgaaDoorP4
namespace Go.Proofs.YtbpemackmadhgaaDoor
open Go.RowKit Go.Sort

/-- A slice of strings that a call has made. -/
def Strs (w : World) (v : Value) (xs : List ByteArray) : Prop := ∃ a cap, v = .slice a xs.length cap ∧ xs.length ≤ cap ∧ (xs ≠ [] → ∃ g, a = some ⟨g, 0, none⟩ ∧ g < w.heap.size ∧ ∀ (j : Nat) x, xs[j]? = some x → w.cell? ⟨g, j, none⟩ = some (.string x))
theorem strs_own {w : World} {B : Nat} {v : Value} {xs : List ByteArray} (h : w.ownsRow B 9 1 v xs.length (xs.map Value.string)) : Strs w v xs := by
  rcases h.2 with ⟨rfl, h0⟩ | ⟨g, cap, cur, rfl, _, hg, hcap, _⟩
  · refine ⟨none, 0, by rw [h0], by omega, fun hne => absurd (List.eq_nil_of_length_eq_zero h0) hne⟩
  · refine ⟨some ⟨g, 0, none⟩, cap, rfl, hcap, fun _ => ⟨g, rfl, (Array.getElem?_eq_some_iff.1 hg).1, fun j x hj => ?_⟩⟩
    have := h.cells (g := g) rfl j (.string x) (by simp [hj])
    rwa [Addr.add_lit, Nat.zero_add] at this
theorem Tryd.infoStr : (Tryd.prog.info? 9).map (fun i => (i.zero, i.size, i.bytes)) = some (some (.string ⟨#[]⟩), 1, 16) := by kernel_rfl
theorem owns_slice {W : World} {base : Nat} {e : TypeId} {v : Value} {n : Nat} {xs : List Value} (h : W.ownsRow base e 1 v n xs) : ∃ a cap, v = .slice a n cap := by
  rcases h.2 with ⟨rfl, rfl⟩ | ⟨g, cap, _, h, _⟩
  · exact ⟨none, 0, rfl⟩
  · exact ⟨_, cap, h⟩
theorem map_take {α : Type} (f : α → ByteArray) (l : List α) (j : Nat) (h : j < l.length) : ((l.take (j + 1)).map f).map Value.string = ((l.take j).map f).map Value.string ++ [.string (f l[j])] := by
  rw [List.take_add_one, List.getElem?_eq_getElem h, Option.toList_some, List.map_append, List.map_append]; rfl

theorem owns_stay {w w' : World} {B : Nat} {e : TypeId} {v : Value} {n : Nat} {xs : List Value} (h : w.ownsRow B e 1 v n xs) (hb : Below w.heap.size w w') : w'.ownsRow B e 1 v n xs := by
  refine ⟨h.1, ?_⟩
  rcases h.2 with h0 | ⟨g, cap, cur, e, hg1, hg, r⟩
  · exact .inl h0
  · exact .inr ⟨g, cap, cur, e, hg1, (hb.block g (Array.getElem?_eq_some_iff.1 hg).1).trans hg, r⟩

set_option maxRecDepth 100000 in
set_option maxHeartbeats 4000000 in
theorem eachint64_any (l : List Int) (a : Option Addr) (c : Nat) (w : World) (hm : l.length ≤ 1000000) (hrow : RowIn w a 1 (l.map fun z => [.int .i64 z]))
    (hf : ∀ x ∈ l, ∀ w', Below w.heap.size w w' → Calls Tryd.prog 39 #[.int .i64 x] w' fun e w'' => e = .returned (sB (Lib.itoa x)) ∧ Below w'.heap.size w' w'') :
    Calls Tryd.prog 38 #[.slice a l.length c, .func (.func 39) #[] #[]] w fun e w' => ∃ v, e = .returned v ∧ Strs w' v (l.map fun x => ⟨(Lib.itoa x).toArray⟩) ∧ Below w.heap.size w w' := by
  obtain ⟨i0, hi, hz0, hz1, hz2⟩ := info_parts Tryd.infoStr
  have HI : Hid (Tryd.prog.info? 9 = some i0) := hi
  have HR : Hid (RowIn w a 1 (l.map fun z => [.int .i64 z])) := hrow
  have HF : Hid (∀ x ∈ l, ∀ w', Below w.heap.size w w' → Calls Tryd.prog 39 #[.int .i64 x] w' fun e w'' => e = .returned (sB (Lib.itoa x)) ∧ Below w'.heap.size w' w'') := hf
  clear hrow hf hi
  go_enter Tryd.func38, Tryd.ntmps38
  go_wp2_with fail
  go_loopw [5, 10] (fun t5 t10 wr => ∃ (j : Nat), j ≤ l.length ∧ t10 = .int .i64 j ∧ wr.ownsRow w.heap.size 9 1 t5 j (((l.take j).map fun x => (⟨(Lib.itoa x).toArray⟩ : ByteArray)).map Value.string) ∧ Below w.heap.size w wr) (fun _ t10 _ => l.length - (intOf t10).toNat)
  case atStart => exact ⟨0, Nat.zero_le _, rfl, World.ownsRow_nil _ _ _ _, Below.refl _ w⟩
  case round =>
    obtain ⟨j, hj, rfl, hown, hb⟩ := hrel
    obtain ⟨va, vc, rfl⟩ := owns_slice hown
    have HO : Hid (wr.ownsRow w.heap.size 9 1 (.slice va j vc) j (((l.take j).map fun x => (⟨(Lib.itoa x).toArray⟩ : ByteArray)).map Value.string)) := hown
    clear hown
    have hws := hb.size
    by_cases hlt : j < l.length
    · obtain ⟨b, o, rfl, c0⟩ := rowW_at (HR.out.below hb) hlt
      have hli : (j : Int) < (l.length : Int) := by omega
      have HT := map_take (fun x => (⟨(Lib.itoa x).toArray⟩ : ByteArray)) l j hlt
      have HM : Hid (l[j] ∈ l) := List.getElem_mem hlt
      have HT' : Hid (((l.take (j + 1)).map fun x => (⟨(Lib.itoa x).toArray⟩ : ByteArray)).map Value.string = ((l.take j).map fun x => (⟨(Lib.itoa x).toArray⟩ : ByteArray)).map Value.string ++ [.string ⟨(Lib.itoa l[j]).toArray⟩]) := HT
      clear HT
      generalize l[j] = x at *
      generalize ((l.take j).map fun x => (⟨(Lib.itoa x).toArray⟩ : ByteArray)).map Value.string = pre at HO HT'
      have hb1 : Below w.heap.size w _ := hb
      have hs1 := hb1.size
      go_wp2_with fail
      refine (HF.out x HM.out _ hb1).mono ?_
      rintro e w1 ⟨rfl, hbf⟩
      have hb2 : Below w.heap.size w w1 := hb1.trans (hbf.mono hs1)
      have hs2 := hb2.size
      have HO1 : Hid (w1.ownsRow w.heap.size 9 1 (.slice va j vc) j pre) := owns_stay HO.out hbf
      clear c0 hbf
      go_wp2_with (at_builtin; refine wpList_append_own _ rfl _ _ 79 rfl w.heap.size 9 i0 (.string ⟨#[]⟩) 1 16 Tryd.underlying79 HI.out hz0 hz1 hz2 rfl (by decide) _ _ _ rfl (HO1.out.alloc _) ⟨w1.heap.size, 0, none⟩ 1 1 [sB (Lib.itoa x)] rfl rfl (new_cell _ _ _) ?c2 ?c3 ?c4 ?c5 ?_)
      case c2 => intro u hu; simp at hu; subst hu; rfl
      case c3 => unfold maxLen; omega
      case c4 => omega
      case c5 => simp; omega
      intro v' w2 hown' hgrow _
      obtain ⟨g', cap', rfl⟩ := owns_succ hown'
      have HO' : Hid (w2.ownsRow w.heap.size 9 1 (.slice (some ⟨g', 0, none⟩) (j + 1) cap') (j + 1) (pre ++ [sB (Lib.itoa x)])) := hown'
      clear hown'
      go_wp2_with fail
      go_roundw
      case rel =>
        refine ⟨j + 1, by omega, by go_num, ?_, ?_⟩
        · rw [HT'.out]; exact HO'.out
        · exact (hb2.alloc hs2 _).grown hgrow (by simp; omega) (fun k hk => (HO1.out.lt k hk).1)
      case measure => simp [intOf]; omega
    · obtain rfl : j = l.length := by omega
      go_wp2_with fail
      go_ret
      refine ⟨_, rfl, strs_own (B := w.heap.size) ?_, hb⟩
      have := HO.out
      rw [List.take_length] at this
      simpa using this

set_option maxRecDepth 100000 in
set_option maxHeartbeats 4000000 in
theorem eachParam_any (l : List Pa) (a : Option Addr) (c : Nat) (w : World) (hm : l.length ≤ 1000000) (hrow : RowIn w a 3 (l.map Pa.cells))
    (hf : ∀ x ∈ l, ∀ w', Below w.heap.size w w' → Calls Tryd.prog 41 #[x.val] w' fun e w'' => e = .returned (sB (paB x)) ∧ Below w'.heap.size w' w'') :
    Calls Tryd.prog 40 #[.slice a l.length c, .func (.func 41) #[] #[]] w fun e w' => ∃ v, e = .returned v ∧ Strs w' v (l.map fun x => ⟨(paB x).toArray⟩) ∧ Below w.heap.size w w' := by
  obtain ⟨i0, hi, hz0, hz1, hz2⟩ := info_parts Tryd.infoStr
  have HI : Hid (Tryd.prog.info? 9 = some i0) := hi
  have HR : Hid (RowIn w a 3 (l.map Pa.cells)) := hrow
  have HF : Hid (∀ x ∈ l, ∀ w', Below w.heap.size w w' → Calls Tryd.prog 41 #[x.val] w' fun e w'' => e = .returned (sB (paB x)) ∧ Below w'.heap.size w' w'') := hf
  clear hrow hf hi
  go_enter Tryd.func40, Tryd.ntmps40
  go_wp2_with fail
  go_loopw [5, 10] (fun t5 t10 wr => ∃ (j : Nat), j ≤ l.length ∧ t10 = .int .i64 j ∧ wr.ownsRow w.heap.size 9 1 t5 j (((l.take j).map fun x => (⟨(paB x).toArray⟩ : ByteArray)).map Value.string) ∧ Below w.heap.size w wr) (fun _ t10 _ => l.length - (intOf t10).toNat)
  case atStart => exact ⟨0, Nat.zero_le _, rfl, World.ownsRow_nil _ _ _ _, Below.refl _ w⟩
  case round =>
    obtain ⟨j, hj, rfl, hown, hb⟩ := hrel
    obtain ⟨va, vc, rfl⟩ := owns_slice hown
    have HO : Hid (wr.ownsRow w.heap.size 9 1 (.slice va j vc) j (((l.take j).map fun x => (⟨(paB x).toArray⟩ : ByteArray)).map Value.string)) := hown
    clear hown
    have hws := hb.size
    by_cases hlt : j < l.length
    · obtain ⟨b, o, rfl, c0, c1, c2⟩ := rowP_at (HR.out.below hb) hlt
      have hli : (j : Int) < (l.length : Int) := by omega
      have HT := map_take (fun x => (⟨(paB x).toArray⟩ : ByteArray)) l j hlt
      have HM : Hid (l[j] ∈ l) := List.getElem_mem hlt
      have HT' : Hid (((l.take (j + 1)).map fun x => (⟨(paB x).toArray⟩ : ByteArray)).map Value.string = ((l.take j).map fun x => (⟨(paB x).toArray⟩ : ByteArray)).map Value.string ++ [.string ⟨(paB l[j]).toArray⟩]) := HT
      clear HT
      generalize l[j] = x at *
      generalize ((l.take j).map fun x => (⟨(paB x).toArray⟩ : ByteArray)).map Value.string = pre at HO HT'
      have hb1 : Below w.heap.size w _ := (hb.alloc hws (.cells #[.string x.name, .int .i64 x.lo, .int .i64 x.hi] 41))
      have hs1 := hb1.size
      go_wp2_with fail
      refine (HF.out x HM.out _ hb1).mono ?_
      rintro e w1 ⟨rfl, hbf⟩
      have hb2 : Below w.heap.size w w1 := hb1.trans (hbf.mono hs1)
      have hs2 := hb2.size
      have HO1 : Hid (w1.ownsRow w.heap.size 9 1 (.slice va j vc) j pre) := owns_stay (HO.out.alloc _) hbf
      clear c0 c1 c2 hbf
      go_wp2_with (at_builtin; refine wpList_append_own _ rfl _ _ 79 rfl w.heap.size 9 i0 (.string ⟨#[]⟩) 1 16 Tryd.underlying79 HI.out hz0 hz1 hz2 rfl (by decide) _ _ _ rfl (HO1.out.alloc _) ⟨w1.heap.size, 0, none⟩ 1 1 [sB (paB x)] rfl rfl (new_cell _ _ _) ?c2 ?c3 ?c4 ?c5 ?_)
      case c2 => intro u hu; simp at hu; subst hu; rfl
      case c3 => unfold maxLen; omega
      case c4 => omega
      case c5 => simp; omega
      intro v' w2 hown' hgrow _
      obtain ⟨g', cap', rfl⟩ := owns_succ hown'
      have HO' : Hid (w2.ownsRow w.heap.size 9 1 (.slice (some ⟨g', 0, none⟩) (j + 1) cap') (j + 1) (pre ++ [sB (paB x)])) := hown'
      clear hown'
      go_wp2_with fail
      go_roundw
      case rel =>
        refine ⟨j + 1, by omega, by go_num, ?_, ?_⟩
        · rw [HT'.out]; exact HO'.out
        · exact (hb2.alloc hs2 _).grown hgrow (by simp; omega) (fun k hk => (HO1.out.lt k hk).1)
      case measure => simp [intOf]; omega
    · obtain rfl : j = l.length := by omega
      go_wp2_with fail
      go_ret
      refine ⟨_, rfl, strs_own (B := w.heap.size) ?_, hb⟩
      have := HO.out
      rw [List.take_length] at this
      simpa using this
end Go.Proofs.YtbpemackmadhgaaDoor
