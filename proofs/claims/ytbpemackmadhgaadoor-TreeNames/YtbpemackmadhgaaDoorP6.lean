/- within and expr: an expression's text. -/
import Derived.Test.YtbpemackmadhgaaDoorP5
import Derived.Test.YtbpemackmadhgaaDoorM2
namespace Go.Proofs.YtbpemackmadhgaaDoor
open Go.RowKit Go.Sort

set_option maxRecDepth 100000 in
set_option maxHeartbeats 4000000 in
theorem eachExpr_any (l : List Ex) (a : Option Addr) (c : Nat) (w : World) (hm : l.length ≤ 1000000) (hrow : RowIn w a 4 (l.map Ex.cells))
    (hf : ∀ x ∈ l, ∀ w', Below w.heap.size w w' → Calls Tryd.prog 68 #[x.val] w' fun e w'' => e = .returned (sB (txE x)) ∧ Below w'.heap.size w' w'') :
    Calls Tryd.prog 87 #[.slice a l.length c, .func (.func 68) #[] #[]] w fun e w' => ∃ v, e = .returned v ∧ Strs w' v (l.map fun x => ⟨(txE x).toArray⟩) ∧ Below w.heap.size w w' := by
  obtain ⟨i0, hi, hz0, hz1, hz2⟩ := info_parts Tryd.infoStr
  have HI : Hid (Tryd.prog.info? 9 = some i0) := hi
  have HR : Hid (RowIn w a 4 (l.map Ex.cells)) := hrow
  have HF : Hid (∀ x ∈ l, ∀ w', Below w.heap.size w w' → Calls Tryd.prog 68 #[x.val] w' fun e w'' => e = .returned (sB (txE x)) ∧ Below w'.heap.size w' w'') := hf
  clear hrow hf hi
  go_enter Tryd.func87, Tryd.ntmps87
  go_wp2_with fail
  go_loopw [5, 10] (fun t5 t10 wr => ∃ (j : Nat), j ≤ l.length ∧ t10 = .int .i64 j ∧ wr.ownsRow w.heap.size 9 1 t5 j (((l.take j).map fun x => (⟨(txE x).toArray⟩ : ByteArray)).map Value.string) ∧ Below w.heap.size w wr) (fun _ t10 _ => l.length - (intOf t10).toNat)
  case atStart => exact ⟨0, Nat.zero_le _, rfl, World.ownsRow_nil _ _ _ _, Below.refl _ w⟩
  case round =>
    obtain ⟨j, hj, rfl, hown, hb⟩ := hrel
    obtain ⟨va, vc, rfl⟩ := owns_slice hown
    have HO : Hid (wr.ownsRow w.heap.size 9 1 (.slice va j vc) j (((l.take j).map fun x => (⟨(txE x).toArray⟩ : ByteArray)).map Value.string)) := hown
    clear hown
    have hws := hb.size
    by_cases hlt : j < l.length
    · obtain ⟨b, o, rfl, c0, c1, c2, c3⟩ := row_at (HR.out.below hb) hlt
      have hli : (j : Int) < (l.length : Int) := by omega
      have HT := map_take (fun x => (⟨(txE x).toArray⟩ : ByteArray)) l j hlt
      have HM : Hid (l[j] ∈ l) := List.getElem_mem hlt
      have HT' : Hid (((l.take (j + 1)).map fun x => (⟨(txE x).toArray⟩ : ByteArray)).map Value.string = ((l.take j).map fun x => (⟨(txE x).toArray⟩ : ByteArray)).map Value.string ++ [.string ⟨(txE l[j]).toArray⟩]) := HT
      clear HT
      generalize l[j] = x at *
      generalize ((l.take j).map fun x => (⟨(txE x).toArray⟩ : ByteArray)).map Value.string = pre at HO HT'
      have hb1 : Below w.heap.size w _ := (hb.alloc hws (.cells #[.int .i64 x.kind, .int .i64 x.n, .string x.name, .slice x.a x.args.length x.cap] 39))
      have hs1 := hb1.size
      go_wp2_with fail
      refine (HF.out x HM.out _ hb1).mono ?_
      rintro e w1 ⟨rfl, hbf⟩
      have hb2 : Below w.heap.size w w1 := hb1.trans (hbf.mono hs1)
      have hs2 := hb2.size
      have HO1 : Hid (w1.ownsRow w.heap.size 9 1 (.slice va j vc) j pre) := owns_stay (HO.out.alloc _) hbf
      clear c0 c1 c2 c3 hbf
      go_wp2_with (at_builtin; refine wpList_append_own _ rfl _ _ 79 rfl w.heap.size 9 i0 (.string ⟨#[]⟩) 1 16 Tryd.underlying79 HI.out hz0 hz1 hz2 rfl (by decide) _ _ _ rfl (HO1.out.alloc _) ⟨w1.heap.size, 0, none⟩ 1 1 [sB (txE x)] rfl rfl (new_cell _ _ _) ?c2 ?c3 ?c4 ?c5 ?_)
      case c2 => intro u hu; simp at hu; subst hu; rfl
      case c3 => unfold maxLen; omega
      case c4 => omega
      case c5 => simp; omega
      intro v' w2 hown' hgrow _
      obtain ⟨g', cap', rfl⟩ := owns_succ hown'
      have HO' : Hid (w2.ownsRow w.heap.size 9 1 (.slice (some ⟨g', 0, none⟩) (j + 1) cap') (j + 1) (pre ++ [sB (txE x)])) := hown'
      clear hown'
      go_wp2_with fail
      go_roundw
      case rel =>
        refine ⟨j + 1, by omega, by go_num, ?_, ?_⟩
        · rw [HT'.out]; exact HO'.out
        · exact (hb2.alloc hs2 _).grown hgrow (by simp; omega) (fun k hk => (HO1.out.lt k hk).1)
      case measure => simp [intOf]; omega
    · obtain rfl : j = l.length := by omega
      go_wp2_with fail
      go_ret
      refine ⟨_, rfl, strs_own (B := w.heap.size) ?_, hb⟩
      have := HO.out
      rw [List.take_length] at this
      simpa using this

abbrev ExprOk (k : Nat) : Prop := ∀ (x : Ex) (w : World), x.sz ≤ k → x.In w → Tabs w → NumT w → OkE x → x.sz ≤ 1000000 → Calls Tryd.prog 68 #[x.val] w fun e w' => e = .returned (sB (txE x)) ∧ Below w.heap.size w w'

set_option maxRecDepth 100000 in
set_option maxHeartbeats 4000000 in
theorem within_step (k : Nat) (h1 : ExprOk k) (x : Ex) (least : Int) (w : World) (hk : x.sz ≤ k) (hin : x.In w) (ht : Tabs w) (hnt : NumT w) (hok : OkE x) (hsz : x.sz ≤ 1000000) :
    Calls Tryd.prog 88 #[x.val, .int .i64 least] w fun e w' => e = .returned (sB (wiB (rkE x.kind) least (txE x))) ∧ Below w.heap.size w w' := by
  have hlen := txE_len (w := w) _ x (Nat.le_refl _) hin hok
  obtain ⟨kn, hkn, hk1, hk2, _⟩ := selfE_zero hok.parts.1
  have HE : Hid (∀ w', Below w.heap.size w w' → Calls Tryd.prog 68 #[x.val] w' fun e w'' => e = .returned (sB (txE x)) ∧ Below w'.heap.size w' w'') := fun w' hb => h1 x w' hk (hin.stay hb) (ht.stay hb) (hnt.stay hb) hok hsz
  have t2 := (ht.2 kn (by omega)).2.2.1
  have h1w : 1 < w.heap.size := lt_of_cell t2
  have HR : Hid (rkE x.kind = (formE kn).rank) := by show _ = _; unfold rkE; rw [hkn, Int.toNat_natCast]
  rw [HR.out]
  clear h1 hin ht hnt hok HR
  generalize (formE kn).rank = rk at t2 ⊢
  generalize txE x = tx at HE hlen ⊢
  have hb0 := (Below.refl _ w).alloc (Nat.le_refl _) (.cells #[.int .i64 x.kind, .int .i64 x.n, .string x.name, .slice x.a x.args.length x.cap] 39)
  unfold Ex.val at HE ⊢
  rw [hkn] at HE hb0 ⊢
  by_cases hr : rk < least
  · have HW : Hid (wiB rk least tx = cat [⟨#[40]⟩, ⟨tx.toArray⟩, ⟨#[41]⟩]) := by show _ = _; simp [wiB, hr, cat]
    have HLEN : Hid ((cat [⟨#[40]⟩, ⟨tx.toArray⟩, ⟨#[41]⟩]).length ≤ 140737488355328) := by show _ ≤ _; simp [cat]; omega
    go_enter Tryd.func88, Tryd.ntmps88
    go_wp2_with fail
    refine (HE.out _ hb0).mono ?_
    rintro e w1 ⟨rfl, hb1⟩
    have hb2 := Below.on hb0 hb1
    go_wp2_with fail
    refine (join_new [⟨#[40]⟩, ⟨tx.toArray⟩, ⟨#[41]⟩] w1 (Nat.le_of_ble_eq_true rfl) HLEN.out).mono ?_
    rintro e w2 ⟨rfl, hb3⟩
    go_wp2_with fail
    go_ret
    exact ⟨ret_str HW.out.symm, Below.on (Below.one hb2 _) hb3⟩
  · have HW : Hid (wiB rk least tx = tx) := by show _ = _; simp [wiB, hr]
    go_enter Tryd.func88, Tryd.ntmps88
    go_wp2_with fail
    refine (HE.out _ hb0).mono ?_
    rintro e w1 ⟨rfl, hb1⟩
    go_wp2_with fail
    go_ret
    exact ⟨ret_str HW.out.symm, Below.on hb0 hb1⟩
end Go.Proofs.YtbpemackmadhgaaDoor
