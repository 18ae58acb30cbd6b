/- The document's own: a line as it is read, word by word: plain, and in its block. -/
import Derived.Test.YtboidkmnkicoeaaGreatDoorVa
import Derived.Test.YtboidkmnkicoeaaGreatDoorJb
import Derived.Test.YtboidkmnkicoeaaGreatDoorKb
namespace Go.Proofs.YtboidkmnkicoeaaGreatDoor
open Go.RowKit Go.Sort

/-- All but one block lies as it did. -/
def OnlyB (b : Nat) (W W' : World) : Prop := W'.os = W.os ∧ W'.tape = W.tape ∧ W'.output = W.output ∧ W.heap.size ≤ W'.heap.size ∧ ∀ k, k < W.heap.size → k ≠ b → W'.heap[k]? = W.heap[k]?
theorem OnlyB.refl (b : Nat) (W : World) : OnlyB b W W := ⟨rfl, rfl, rfl, Nat.le_refl _, fun _ _ _ => rfl⟩
theorem OnlyB.trans {b : Nat} {A B C : World} (h : OnlyB b A B) (k : OnlyB b B C) : OnlyB b A C := ⟨k.1.trans h.1, k.2.1.trans h.2.1, k.2.2.1.trans h.2.2.1, Nat.le_trans h.2.2.2.1 k.2.2.2.1, fun i h1 h2 => (k.2.2.2.2 i (Nat.lt_of_lt_of_le h1 h.2.2.2.1) h2).trans (h.2.2.2.2 i h1 h2)⟩
theorem OnlyB.size {b : Nat} {A B : World} (h : OnlyB b A B) : A.heap.size ≤ B.heap.size := h.2.2.2.1
theorem OnlyB.of_below {b : Nat} {A B : World} (h : Below A.heap.size A B) : OnlyB b A B := ⟨h.os, h.tape, h.output, h.size, fun i h1 _ => h.block i h1⟩
theorem OnlyB.set {b : Nat} {A B : World} (h : OnlyB b A B) (i : Nat) (v : Value) : OnlyB b A (B.setCell ⟨b, i, none⟩ v) := h.trans ⟨rfl, rfl, rfl, by simp [World.setCell], fun k _ h2 => Below.heap_setCell _ _ _ _ h2⟩
theorem OnlyB.drew {b : Nat} {A B : World} (h : OnlyB b A B) : OnlyB b A B.drew := h.trans (OnlyB.of_below (Below.drew (Below.refl _ _)))
theorem OnlyB.below {b : Nat} {A B : World} {N : Nat} (h : OnlyB b A B) (hb : N ≤ b) (hN : N ≤ A.heap.size) : Below N A B := ⟨h.1, h.2.1, h.2.2.1, h.2.2.2.1, fun k hk => h.2.2.2.2 k (by omega) (by omega)⟩
theorem OnlyB.blk {b : Nat} {A B : World} (h : OnlyB b A B) {k : Nat} {o : Obj} (hk : A.heap[k]? = some o) (hb : k ≠ b) : B.heap[k]? = some o := (h.2.2.2.2 k (Array.getElem?_eq_some_iff.1 hk).1 hb).trans hk
abbrev rowC (L : Bt) (a : Nat) (e : Int) (p : Nat) : Array Value := #[.string (tb L), .int .i64 a, .int .i64 e, .int .i64 p]
def RowA (R : Nat) (L : Bt) (a : Nat) (e : Int) (p : Nat) (W : World) : Prop := W.heap[R]? = some (.cells (rowC L a e p) 57)
theorem RowA.set1 {R : Nat} {L : Bt} {a : Nat} {e : Int} {p : Nat} {W : World} (h : RowA R L a e p W) (a' : Nat) : RowA R L a' e p (W.setCell ⟨R, 1, none⟩ (.int .i64 a')) := by
  have := heap_setCell_same W R 1 _ _ (.int .i64 (a' : Int)) h; simpa [RowA] using this
theorem RowA.set2 {R : Nat} {L : Bt} {a : Nat} {e : Int} {p : Nat} {W : World} (h : RowA R L a e p W) (e' : Int) : RowA R L a e' p (W.setCell ⟨R, 2, none⟩ (.int .i64 e')) := by
  have := heap_setCell_same W R 2 _ _ (.int .i64 e') h; simpa [RowA] using this
theorem RowA.set3 {R : Nat} {L : Bt} {a : Nat} {e : Int} {p : Nat} {W : World} (h : RowA R L a e p W) (p' : Nat) : RowA R L a e p' (W.setCell ⟨R, 3, none⟩ (.int .i64 p')) := by
  have := heap_setCell_same W R 3 _ _ (.int .i64 (p' : Int)) h; simpa [RowA] using this
theorem RowA.cells {R : Nat} {L : Bt} {a : Nat} {e : Int} {p : Nat} {W : World} (h : RowA R L a e p W) : W.cell? ⟨R, 0, none⟩ = some (.string (tb L)) ∧ W.cell? ⟨R, 1, none⟩ = some (.int .i64 a) ∧ W.cell? ⟨R, 2, none⟩ = some (.int .i64 e) ∧ W.cell? ⟨R, 3, none⟩ = some (.int .i64 p) :=
  ⟨cell_of_obj h rfl, cell_of_obj h rfl, cell_of_obj h rfl, cell_of_obj h rfl⟩
theorem RowA.frozen {R : Nat} {L : Bt} {a : Nat} {e : Int} {p : Nat} {W : World} (h : RowA R L a e p W) (j : Nat) : W.frozen? ⟨R, j, none⟩ = false := Lib.frozen_of_heap h j
theorem RowA.only {R b : Nat} {L : Bt} {a : Nat} {e : Int} {p : Nat} {W W' : World} (h : RowA R L a e p W) (ho : OnlyB b W W') (hb : R ≠ b) : RowA R L a e p W' := ho.blk h hb
/-- The words that are left, each with the blank ahead of it. -/
def fl (ws : List Bt) : Bt := ws.flatMap (32 :: ·)
theorem fl_cons (v : Bt) (t : List Bt) : fl (v :: t) = 32 :: (v ++ fl t) := by simp [fl]
structure AtW (L : Bt) (a : Nat) (ws : List Bt) : Prop where
  le : a ≤ L.length
  dr : L.drop a = fl ws
  no : ∀ w ∈ ws, (32 : UInt8) ∉ w
theorem AtW.nil {L : Bt} {a : Nat} (h : AtW L a []) : a = L.length := by
  have := congrArg List.length h.dr
  rw [List.length_drop] at this
  simp [fl] at this
  have := h.le; omega
theorem AtW.len {L : Bt} {a : Nat} {v : Bt} {t : List Bt} (h : AtW L a (v :: t)) : a + 1 + v.length + (fl t).length = L.length := by
  have := congrArg List.length h.dr
  rw [List.length_drop, fl_cons, List.length_cons, List.length_append] at this
  have := h.le; omega
theorem AtW.next {L : Bt} {a : Nat} {v : Bt} {t : List Bt} (h : AtW L a (v :: t)) : AtW L (a + 1 + v.length) t := by
  refine ⟨by have := h.len; omega, ?_, fun w hw => h.no w (by simp [hw])⟩
  rw [← List.drop_drop, ← List.drop_drop, h.dr, fl_cons]
  simp
theorem AtW.cut {L : Bt} {a : Nat} {v : Bt} {t : List Bt} (h : AtW L a (v :: t)) : (L.drop (a + 1)).take v.length = v := by
  rw [← List.drop_drop, h.dr, fl_cons]
  simp
theorem AtW.at {L : Bt} {a : Nat} {v : Bt} {t : List Bt} (h : AtW L a (v :: t)) {k : Nat} (h1 : a + 1 ≤ k) (h2 : k < a + 1 + v.length) (hk : k < L.length) : L[k].toNat ≠ 32 := by
  have e : L[k]? = v[k - (a + 1)]? := by
    have h3 : (L.drop (a + 1))[k - (a + 1)]? = L[k]? := by rw [List.getElem?_drop]; congr 1; omega
    rw [← h3, ← List.drop_drop, h.dr, fl_cons]
    simp only [List.drop_succ_cons, List.drop_zero]
    rw [List.getElem?_append_left (by omega)]
  have hv : k - (a + 1) < v.length := by omega
  rw [List.getElem?_eq_getElem hk, List.getElem?_eq_getElem hv] at e
  injection e with e
  intro h32
  refine h.no v (by simp) ?_
  have : L[k] = 32 := UInt8.toNat_inj.1 h32
  rw [← this, e]
  exact List.getElem_mem hv
theorem AtW.stop {L : Bt} {a : Nat} {v : Bt} {t : List Bt} (h : AtW L a (v :: t)) (hk : a + 1 + v.length < L.length) : L[a + 1 + v.length].toNat = 32 := by
  have hn := h.next
  have hl := h.len
  cases t with
  | nil => simp [fl] at hl; omega
  | cons u t =>
    have := hn.dr
    rw [fl_cons, List.drop_eq_getElem_cons hk] at this
    injection this with this
    rw [this]; rfl
theorem AtW.lt {L : Bt} {a : Nat} {v : Bt} {t : List Bt} (h : AtW L a (v :: t)) : a < L.length := by have := h.len; omega
/-- The state of a line. -/
structure Qr where
  a : Nat
  e : Int
  p : Nat
  ws : List Bt
def Qr.word (n : Nat) (q : Qr) : Qr × Option Bt :=
  if q.e ≠ 0 then (q, none) else match q.ws with
    | [] => (⟨q.a, 6, n, []⟩, none)
    | v :: t => (⟨q.a + 1 + v.length, 0, q.p, t⟩, some v)
def Qr.num (n : Nat) (q : Qr) : Qr × Option Int :=
  if q.e ≠ 0 then (q, none) else match q.ws with
    | [] => (⟨q.a, 6, n, []⟩, none)
    | v :: t => match numB v with
      | none => (⟨q.a + 1 + v.length, 11, q.a + 1, t⟩, none)
      | some z => (⟨q.a + 1 + v.length, 0, q.p, t⟩, some z)
def Qr.done (n : Nat) (ended : Bool) (q : Qr) : Qr :=
  if q.e ≠ 0 then q else if q.ws ≠ [] then ⟨q.a, 7, q.a, q.ws⟩ else if ended then q else ⟨q.a, 6, n, q.ws⟩
/-- A line's block, and what it stands for. -/
def RowQ (R : Nat) (L : Bt) (q : Qr) (W : World) : Prop := RowA R L q.a q.e q.p W ∧ AtW L q.a q.ws
set_option maxRecDepth 100000 in
set_option maxHeartbeats 4000000 in
theorem first_any (L : Bt) (hl : L.length ≤ 100000000) (v : Bt) (t : List Bt) (hv : L = v ++ fl t) (hn : (32 : UInt8) ∉ v) (w : World) : Calls Tryz.prog 14 #[.string (tb L)] w fun e w' => e = .returned (.string (tb v)) ∧ w' = w := by
  have hlen : v.length + (fl t).length = L.length := by rw [hv, List.length_append]
  have hat : ∀ k (h : k < L.length), k < v.length → L[k].toNat ≠ 32 := fun k h hk e => by
    refine hn ?_
    have h1 : L[k] = v[k] := by simp only [hv]; rw [List.getElem_append_left hk]
    have : L[k] = 32 := UInt8.toNat_inj.1 e
    rw [← this, h1]; exact List.getElem_mem hk
  have hst : ∀ h : v.length < L.length, L[v.length].toNat = 32 := fun h => by
    cases t with
    | nil => simp [fl] at hlen; omega
    | cons u t =>
      have h1 : L[v.length]? = some 32 := by rw [hv, fl_cons, List.getElem?_append_right (Nat.le_refl _)]; simp
      rw [List.getElem?_eq_getElem h] at h1
      injection h1 with h1
      rw [h1]; rfl
  have hex : (tb L).extract 0 v.length = tb v := by
    rw [ext_tb]; congr 1; rw [tb_list, hv]; simp [cutB]
  have hwh : v.length = L.length → tb L = tb v := fun h => by
    have : fl t = [] := List.eq_nil_of_length_eq_zero (by omega)
    rw [hv, this, List.append_nil]
  obtain ⟨s, hs⟩ : ∃ s, s = tb L := ⟨_, rfl⟩
  have hsz : s.size = L.length := by rw [hs]; exact tb_size L
  have key : ∀ k (h : k < L.length) (h' : k < s.size), (s[k]'h').toNat = L[k].toNat := by intro k h h'; subst hs; rfl
  rw [← hs] at hex hwh ⊢
  have HA := Hid.mk' hat
  have HS := Hid.mk' hst
  have HX := Hid.mk' hex
  have HW := Hid.mk' hwh
  have HZ := Hid.mk' hsz
  have HK := Hid.mk' key
  have HL := Hid.mk' hlen
  have hsz2 : s.size ≤ 100000000 := by omega
  have hvs : v.length ≤ s.size := by omega
  clear hat hst hex hwh hsz key hlen hv hn hs hl
  go_enter Tryz.func14, Tryz.ntmps14
  go_wp2_with fail
  go_loopw [3] (fun i wr => ∃ k : Nat, k ≤ v.length ∧ i = .int .i64 k ∧ wr = w) (fun i _ => s.size - (intOf i).toNat)
  case atStart => exact ⟨0, Nat.zero_le _, rfl, by simp⟩
  case round =>
    obtain ⟨k, hk, rfl, rfl⟩ := hrel
    by_cases hlt : k < s.size
    · have hlt' : k < L.length := by rw [← HZ.out]; exact hlt
      by_cases hkv : k < v.length
      · have c1 : ¬ (s[k]'hlt).toNat = 32 := by rw [HK.out k hlt' hlt]; exact HA.out k hlt' hkv
        have c2 : ((s[k]'hlt).toNat == 32) = false := by simpa using c1
        have c3 : (((s[k]'hlt).toNat : Int) == 32) = false := by simp only [beq_eq_false_iff_ne]; omega
        go_wp2_with fail
        go_roundw
        case rel => exact ⟨k + 1, by omega, by go_num, by simp⟩
        case measure => simp [intOf]; omega
      · obtain rfl : k = v.length := by omega
        have c1 : (s[v.length]'hlt).toNat = 32 := by rw [HK.out _ hlt' hlt]; exact HS.out hlt'
        have c2 : ((s[v.length]'hlt).toNat == 32) = true := by simpa using c1
        have c3 : (((s[v.length]'hlt).toNat : Int) == 32) = true := by simp only [beq_iff_eq]; omega
        clear c1
        go_wp2_with fail
        go_ret
        exact ⟨retS HX.out, rfl⟩
    · have hke : v.length = L.length := by have := HZ.out; omega
      have HE := Hid.mk' (HW.out hke)
      clear hke
      go_wp2_with fail
      go_ret
      exact ⟨retS HE.out, rfl⟩
end Go.Proofs.YtboidkmnkicoeaaGreatDoor
