/- What the program finds in memory: its tables, the library's; numbers' texts; a line's text. -/
import Derived.Test.YtboidkmnkicoeaaGreatDoorJb
import Derived.Test.YtboidkmnkicoeaaGreatDoorSh
import Derived.Test.YtboidkmnkicoeaaGreatDoorKa
import Derived.Lib.AppendIntMem
namespace Go.Proofs.YtboidkmnkicoeaaGreatDoor
open Go.RowKit Go.Sort

/-- The letters of an operation's fields. -/
def letU : Nat → UInt8
  | 0 => 65
  | 1 => 66
  | 2 => 67
  | _ => 78
def fldB (k : Nat) : ByteArray := tb ((hasL k).map letU)
/-- The world holds the tables of fields and of operations, that of powers of ten, and the library's errors. -/
structure Env (w : World) : Prop where
  tab : Tab w
  fl : ∀ k, k < 20 → w.cell? ⟨0, k, none⟩ = some (.string (fldB k))
  num : Lib.TabIs Tryz.prog w "internal/strconv.uint64pow10" .u64 Lib.pow10Tab
  es : ∃ te pe, w.cell? ⟨3, 0, none⟩ = some (.iface te pe)
  er : ∃ te pe, w.cell? ⟨4, 0, none⟩ = some (.iface te pe)
theorem Env.stay {w w' : World} (h : Env w) (hb : Below w.heap.size w w') : Env w' :=
  ⟨h.tab.stay hb, fun k hk => cell_kept_below (h.fl k hk) hb, Lib.tabBelow_of_tabIs h.num w' hb, (by obtain ⟨te, pe, e⟩ := h.es; exact ⟨te, pe, cell_kept_below e hb⟩), (by obtain ⟨te, pe, e⟩ := h.er; exact ⟨te, pe, cell_kept_below e hb⟩)⟩
theorem below_grow (w : World) (k : Nat) (os : Array Obj) : Below w.heap.size w (grow (w.drewN k) os) :=
  ⟨rfl, rfl, rfl, by simp [grow, World.drewN], fun i hi => by simp [grow, World.drewN, Array.getElem?_append, hi]⟩
theorem format_any (n : Int) (w : World) (hn : I64 n) (h : Env w) : Calls Tryz.prog 42 #[.int .i64 n, .int .i64 10] w fun e w' => e = .returned (.string (tb (Lib.itoa n))) ∧ Below w.heap.size w w' :=
  (Tryz.strconv_FormatInt_10 n hn.1 hn.2 w h.num).mono fun _ _ ⟨he, k, os, hw⟩ => ⟨he, hw ▸ below_grow w k os⟩
theorem retS {a b : ByteArray} (h : a = b) : Ending.returned (.string a) = .returned (.string b) := by rw [h]

theorem flat_take {ns : List Int} {j : Nat} (h : j < ns.length) : (ns.take (j + 1)).flatMap numT = (ns.take j).flatMap numT ++ 32 :: Lib.itoa ns[j] := by
  rw [List.take_add_one, List.getElem?_eq_getElem h]
  show (ns.take j ++ [ns[j]]).flatMap numT = _
  rw [List.flatMap_append]; simp [numT]
theorem numT_len {n : Int} (h : I64 n) : (numT n).length ≤ 22 := by have := itoa_len h; simp [numT]; omega
theorem flat_le : ∀ {ns : List Int}, (∀ n ∈ ns, I64 n) → (ns.flatMap numT).length ≤ ns.length * 22
  | [], _ => by simp
  | n :: r, h => by
    have h1 := numT_len (h n (by simp))
    have h2 := flat_le (ns := r) (fun x hx => h x (by simp [hx]))
    rw [List.flatMap_cons, List.length_append, List.length_cons]; omega
set_option maxRecDepth 100000 in
set_option maxHeartbeats 2000000 in
theorem lineOf_any (b : Bt) (a : Option Addr) (c : Nat) (ns : List Int) (w : World) (h : Env w) (hr : Thr w a ns) (hn : ∀ n ∈ ns, I64 n) (hl : ns.length ≤ 1000000) (hb : b.length ≤ 1000000) : Calls Tryz.prog 50 #[.string (tb b), .slice a ns.length c] w fun e w' => e = .returned (.string (tb (lineT b ns))) ∧ Below w.heap.size w w' := by
  have HF : Hid (∀ n ∈ ns, ∀ w', Below w.heap.size w w' → Calls Tryz.prog 42 #[.int .i64 n, .int .i64 10] w' fun e w'' => e = .returned (.string (tb (Lib.itoa n))) ∧ Below w'.heap.size w' w'') := fun n h1 w' hb => format_any n w' (hn n h1) (h.stay hb)
  have HR := Hid.mk' hr
  have HN := Hid.mk' hn
  clear h hr hn
  go_enter Tryz.func50, Tryz.ntmps50
  go_wp2_with fail
  go_loopw [0, 9] (fun t0 t9 wr => ∃ (j : Nat), j ≤ ns.length ∧ t9 = .int .i64 j ∧ t0 = .string (tb (b ++ (ns.take j).flatMap numT)) ∧ Below w.heap.size w wr) (fun _ t9 _ => ns.length - (intOf t9).toNat)
  case atStart => exact ⟨0, Nat.zero_le _, rfl, by simp, Below.refl _ _⟩
  case round =>
    obtain ⟨j, hj, rfl, rfl, hbw⟩ := hrel
    have hle : (b ++ (ns.take j).flatMap numT).length ≤ 100000000 := by
      have := flat_le (ns := ns.take j) (fun n hn => HN.out n (List.mem_of_mem_take hn))
      rw [List.length_take] at this
      rw [List.length_append]; omega
    by_cases hlt : j < ns.length
    · obtain ⟨b', o, rfl, c0⟩ := thr_at (HR.out.stay hbw) hlt
      have hli : (j : Int) < (ns.length : Int) := by omega
      have HT := Hid.mk' (flat_take hlt)
      have HX := Hid.mk' (HF.out ns[j] (List.getElem_mem hlt) _ hbw)
      have hil := itoa_len (HN.out ns[j] (List.getElem_mem hlt))
      generalize ns[j] = n at *
      generalize hB : b ++ (ns.take j).flatMap numT = B at *
      have hs1 : (tb B).size ≤ 100000000 := by rw [tb_size]; exact hle
      have hs2 : (tb (Lib.itoa n)).size ≤ 21 := by rw [tb_size]; exact hil
      have HB := Hid.mk' hB
      clear hB hle hil
      generalize hA1 : tb B = A1 at *
      generalize hA2 : tb (Lib.itoa n) = A2 at *
      have HA1 := Hid.mk' hA1
      have HA2 := Hid.mk' hA2
      clear hA1 hA2
      go_wp2_with fail
      refine HX.out.mono ?_
      rintro e w1 ⟨rfl, hb1⟩
      go_wp2_with fail
      go_roundw
      case rel => 
        refine ⟨j + 1, by omega, by go_num, ?_, Below.on hbw hb1⟩
        rw [HT.out, ← List.append_assoc, HB.out, ← HA1.out, ← HA2.out]
        have := tb_app B (32 :: Lib.itoa n)
        rw [← this]
        rw [show (32 :: Lib.itoa n : Bt) = [32] ++ Lib.itoa n from rfl, ← tb_app]
      case measure => simp [intOf]; omega
    · have hje : j = ns.length := by omega
      have HE : Hid (lineT b ns = (b ++ (ns.take j).flatMap numT) ++ [10]) := (by rw [hje, List.take_length]; rfl : _ = _)
      have hs1 : (tb (b ++ (ns.take j).flatMap numT)).size ≤ 100000000 := by rw [tb_size]; exact hle
      clear hje hle
      generalize b ++ (ns.take j).flatMap numT = B at *
      generalize hA1 : tb B = A1 at *
      have HA1 := Hid.mk' hA1
      clear hA1
      go_wp2_with fail
      go_ret
      exact ⟨retS (by rw [HE.out, ← tb_app, HA1.out]), hbw⟩
end Go.Proofs.YtboidkmnkicoeaaGreatDoor
