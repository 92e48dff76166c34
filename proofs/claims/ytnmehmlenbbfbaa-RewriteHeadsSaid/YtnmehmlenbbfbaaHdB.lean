/-
  Package heads: rows of heads; where one stands.
-/
import Derived.Test.YtnmehmlenbbfbaaHdA
import Derived.Test.YtnmehmlenbbfbaaOwn
import Derived.Shelf.Abstract
namespace Go.Proofs.Ytnmehmlenbbfbaa.heads
open Go.ChangeShapes Go.WideShapes Go.ChangeAt Go.RowKit Go.Shelf Go.Lib
set_option linter.unusedVariables false
set_option linter.unusedSimpArgs false

/-- A head. -/
structure Hd where
  n : ByteArray
  v : ByteArray
deriving DecidableEq
abbrev S (s : ByteArray) : Value := .string s
abbrev hB (x : Hd) : List Value := [S x.n, S x.v]
abbrev h0 : Hd := ⟨.empty, .empty⟩
theorem hB_len : ∀ x, (hB x).length = 2 := fun _ => rfl
abbrev hv (x : Hd) : Value := .agg #[S x.n, S x.v]
abbrev oH (x : Hd) : Obj := .cells #[S x.n, S x.v] 49

/-- A slice of heads. -/
def HeadsAt (w : World) (v : Value) (A : List Hd) : Prop := ∃ a g o cap, v = .slice a A.length cap ∧ A.length ≤ cap ∧ (cap ≤ 9223372036854775807 ∧ (a = none → cap = 0)) ∧ RowB hB 2 w g o a A
theorem HeadsAt.bl {w w' : World} {v : Value} {A : List Hd} (h : HeadsAt w v A) (hb : Bl w w') : HeadsAt w' v A := by
  obtain ⟨a, g, o, cap, h1, h2, h3, h4⟩ := h
  exact ⟨a, g, o, cap, h1, h2, h3, h4.bl hb⟩

def idxN (p : Hd → Bool) (A : List Hd) : Int := match A.findIdx? p with
  | some k => k
  | none => -1
theorem idx_at {p : Hd → Bool} {A : List Hd} {k : Nat} (h : ∀ j, j < k → p (A.getD j h0) = false) (hk : k < A.length) (hp : p (A.getD k h0) = true) : idxN p A = k := by
  unfold idxN
  have : A.findIdx? p = some k := by
    rw [List.findIdx?_eq_some_iff_getElem]
    refine ⟨hk, ?_, fun j hj => ?_⟩
    · rw [List.getD_eq_getElem?_getD, List.getElem?_eq_getElem hk] at hp
      exact hp
    · have := h j hj
      rw [List.getD_eq_getElem?_getD, List.getElem?_eq_getElem (by omega)] at this
      simpa using this
  rw [this]
theorem idx_no {p : Hd → Bool} {A : List Hd} (h : ∀ j, j < A.length → p (A.getD j h0) = false) : idxN p A = -1 := by
  unfold idxN
  have : A.findIdx? p = none := by
    rw [List.findIdx?_eq_none_iff]
    intro x hx
    obtain ⟨j, hj, rfl⟩ := List.getElem_of_mem hx
    have := h j hj
    rw [List.getD_eq_getElem?_getD, List.getElem?_eq_getElem hj] at this
    simpa using this
  rw [this]

/-- A function that tells of heads. -/
structure IsH (W : World) (fn : Nat) (caps : Array Value) (p : Hd → Bool) : Prop where
  ent : ∀ args w, (callFunc fn args).run Try.prog w = .ok (.enter fn args) w
  tells : ∀ W', Bl W W' → ∀ x, Calls Try.prog fn (#[hv x] ++ caps) W' fun e W'' => e = .returned (.bool (p x)) ∧ Bl W' W''

set_option maxHeartbeats 2000000 in
theorem index_any (v : Value) (A : List Hd) (fn : Nat) (caps : Array Value) (p : Hd → Bool) (w : World) (hv : HeadsAt w v A) (hp : IsH w fn caps p) (hl : A.length ≤ 1000) :
    Calls Try.prog 52 #[v, .func (.func fn) #[] caps] w fun e w' => e = .returned (I (idxN p A)) ∧ Bl w w' := by
  obtain ⟨a, g, o, cap, rfl, h1, h2, hr⟩ := hv
  have RC := Lib.hid (fun w' (hb : Bl w w') i hi => (hr.bl hb).c hB_len h0 i hi)
  have hent := hp.ent
  have TL := Lib.hid hp.tells
  obtain ⟨N, hN⟩ : ∃ z_, (A.length) = z_ := ⟨_, rfl⟩
  rw [hN] at h1 hl ⊢
  simp only [hN] at RC
  have hat := fun k h1 h2 h3 => idx_at (p := p) (A := A) (k := k) h1 h2 h3
  have hno := fun h => idx_no (p := p) (A := A) h
  simp only [hN] at hat hno
  clear hN hr hp
  replace hat := Lib.hid hat
  replace hno := Lib.hid hno
  go_enter Try.func52, Try.ntmps52
  go_wp2_with fail
  go_loopw [8] (fun i wr => ∃ k : Nat, k ≤ N ∧ i = I k ∧ (∀ j, j < k → p (A.getD j h0) = false) ∧ Bl w wr) (fun i _ => N - (intOf i).toNat)
  case atStart => exact ⟨0, by omega, rfl, fun j hj => by omega, Bl.rfl' _⟩
  case round =>
    obtain ⟨k, hk, rfl, hall, hbr⟩ := hrel
    by_cases hlt : k < N
    · obtain ⟨ha, hcc⟩ := RC.out _ hbr k hlt
      subst ha
      have c0 := hcc 0 (by decide)
      have c1 := hcc 1 (by decide)
      simp only [List.getElem?_cons_succ, List.getElem?_cons_zero, Nat.add_zero, ← Nat.add_assoc] at c0 c1
      have T := TL.out _ hbr (A.getD k h0)
      have hyes := fun h => hat.out k hall hlt h
      have hall2 := fun h : p (A.getD k h0) = false => (fun j hj => by
        by_cases hjk : j = k
        · rw [hjk]; exact h
        · exact hall j (by omega) : ∀ j, j < k + 1 → p (A.getD j h0) = false)
      obtain ⟨x, hx⟩ : ∃ z_, (A.getD k h0) = z_ := ⟨_, rfl⟩
      rw [hx] at c0 c1 T hyes hall2
      obtain ⟨xn, xv⟩ := x
      simp only at c0 c1
      obtain ⟨b, hb⟩ : ∃ z_, (p ⟨xn, xv⟩) = z_ := ⟨_, rfl⟩
      rw [hb] at T hyes hall2
      have wk : IntKind.i64.wrap ((k : Int) + 1) = ((k + 1 : Nat) : Int) := by rw [IntKind.wrap_i64]; omega
      clear hcc hx hb hall
      replace T := Lib.hid T
      replace hyes := Lib.hid hyes
      replace hall2 := Lib.hid hall2
      replace hbr := Lib.hid hbr
      go_wp2_with fail
      with_reducible refine (T.out).mono ?_
      rintro e w2 ⟨rfl, hn⟩
      have hb2 := hbr.out.tr hn
      clear hn T
      cases b with
      | true =>
        have hy := hyes.out (by first | rfl | trivial)
        replace hy := Lib.hid hy
        replace hb2 := Lib.hid hb2
        go_wp2_with fail
        go_ret
        exact ⟨by rw [hy.out]; rfl, hb2.out⟩
      | false =>
        have hy := hall2.out (by first | rfl | trivial)
        replace hy := Lib.hid hy
        replace hb2 := Lib.hid hb2
        go_wp2_with fail
        go_roundw
        case rel => exact ⟨k + 1, by omega, by first | rfl | go_num, hy.out, hb2.out⟩
        case measure => simp [intOf] <;> omega
    · obtain rfl : k = N := by omega
      have hy := hno.out hall
      replace hy := Lib.hid hy
      replace hbr := Lib.hid hbr
      clear hall
      go_wp2_with fail
      go_ret
      exact ⟨by rw [hy.out]; rfl, hbr.out⟩

theorem txt_eq (a b : ByteArray) : (a.toList == b.toList) = decide (a = b) := by
  by_cases h : a = b
  · subst h; simp
  · rw [decide_eq_false h, beq_eq_false_iff_ne]
    intro hh
    rw [ByteArray.toList_eq, ByteArray.toList_eq] at hh
    apply h
    cases a; cases b
    simp at hh
    rw [hh]
theorem txt_ne (a b : ByteArray) : (a.toList != b.toList) = !(decide (a = b)) := by rw [bne, txt_eq]
abbrev isN (s : ByteArray) (x : Hd) : Bool := decide (x.n = s)
abbrev fPlace (y : Nat) : Value := .func (.func 53) #[] #[.pointer (some ⟨y, 0, none⟩)]
theorem place1_any (x : Hd) (s : ByteArray) (y : Nat) (w : World) (hy : w.heap[y]? = some (.cells #[S s] 9 (0, 0))) :
    Calls Try.prog 53 #[hv x, .pointer (some ⟨y, 0, none⟩)] w fun e w' => e = .returned (.bool (isN s x)) ∧ Bl w w' := by
  have hb := (Bl.rfl' w).al (oH x)
  have c0 := cell_at (blk_bl hy hb) 0
  simp only [List.getElem?_toArray, List.getElem?_cons_zero] at c0
  have x0 := cell_at (heap_alloc_new w (oH x)) 0
  simp only [List.getElem?_toArray, List.getElem?_cons_zero] at x0
  obtain ⟨xn, xv⟩ := x
  have he := txt_eq xn s
  replace hb := Lib.hid hb
  replace he := Lib.hid he
  clear hy
  go_enter Try.func53, Try.ntmps53
  go_wp2_with fail
  go_ret
  exact ⟨by show _ = Ending.returned (Value.bool (decide (xn = s))); rw [← he.out]; rfl, hb.out⟩
theorem isPlace (s : ByteArray) (y : Nat) (w : World) (hy : w.heap[y]? = some (.cells #[S s] 9 (0, 0))) : IsH w 53 #[.pointer (some ⟨y, 0, none⟩)] (isN s) :=
  ⟨enters_of Try.func53 (by kernel_rfl) rfl, fun W hb x => place1_any x s y W (blk_bl hy hb)⟩
theorem place_any (v : Value) (A : List Hd) (s : ByteArray) (w : World) (hv : HeadsAt w v A) (hl : A.length ≤ 1000) :
    Calls Try.prog 43 #[v, S s] w fun e w' => e = .returned (I (idxN (isN s) A)) ∧ Bl w w' := by
  have hb := (Bl.rfl' w).al (.cells #[S s] 9)
  have C := index_any v A _ _ (isN s) _ (hv.bl hb) (isPlace s w.heap.size _ (heap_alloc_new w (.cells #[S s] 9))) hl
  replace hb := Lib.hid hb
  replace C := Lib.hid C
  clear hv
  go_enter Try.func43, Try.ntmps43
  go_wp2_with fail
  with_reducible refine (C.out).mono ?_
  rintro e w' ⟨rfl, hn⟩
  have hbz := hb.out.tr hn
  replace hbz := Lib.hid hbz
  clear hn
  go_wp2_with fail
  go_ret
  exact ⟨rfl, hbz.out⟩

/-- What stands at a name. -/
def getH (A : List Hd) (s : ByteArray) : Option Hd := A.find? (isN s)
def getV (A : List Hd) (s : ByteArray) : Value := match getH A s with
  | some x => .tuple #[S x.v, .bool true]
  | none => .tuple #[S ByteArray.empty, .bool false]
theorem get_at {A : List Hd} {s : ByteArray} {k : Nat} (h : ∀ j, j < k → isN s (A.getD j h0) = false) (hk : k < A.length) (hp : isN s (A.getD k h0) = true) : getH A s = some (A.getD k h0) := by
  unfold getH
  rw [List.find?_eq_some_iff_getElem]
  refine ⟨hp, k, hk, ?_, fun j hj => ?_⟩
  · rw [List.getD_eq_getElem?_getD, List.getElem?_eq_getElem hk]; rfl
  · have := h j hj
    rw [List.getD_eq_getElem?_getD, List.getElem?_eq_getElem (by omega)] at this
    simpa using this
theorem get_no {A : List Hd} {s : ByteArray} (h : ∀ j, j < A.length → isN s (A.getD j h0) = false) : getH A s = none := by
  unfold getH
  rw [List.find?_eq_none]
  intro x hx
  obtain ⟨j, hj, rfl⟩ := List.getElem_of_mem hx
  have := h j hj
  rw [List.getD_eq_getElem?_getD, List.getElem?_eq_getElem hj] at this
  simpa using this
/-- The place of one that is there, or none. -/
theorem idx_get (A : List Hd) (s : ByteArray) : (idxN (isN s) A = -1 ∧ getH A s = none ∧ ∀ x ∈ A, x.n ≠ s) ∨ ∃ k : Nat, idxN (isN s) A = k ∧ k < A.length ∧ getH A s = some (A.getD k h0) ∧ (A.getD k h0).n = s ∧ ∀ j, j < k → (A.getD j h0).n ≠ s := by
  by_cases h : ∃ k, k < A.length ∧ isN s (A.getD k h0) = true
  · obtain ⟨k, hk, hp, hmin⟩ : ∃ k, k < A.length ∧ isN s (A.getD k h0) = true ∧ ∀ j, j < k → isN s (A.getD j h0) = false := by
      obtain ⟨k, hk⟩ := h
      induction k using Nat.strongRecOn with
      | _ k ih =>
        by_cases hm : ∃ j, j < k ∧ isN s (A.getD j h0) = true
        · obtain ⟨j, hj, hjp⟩ := hm
          exact ih j hj ⟨by omega, hjp⟩
        · exact ⟨k, hk.1, hk.2, fun j hj => by
            cases hh : isN s (A.getD j h0) with
            | false => rfl
            | true => exact absurd ⟨j, hj, hh⟩ hm⟩
    exact Or.inr ⟨k, idx_at hmin hk hp, hk, get_at hmin hk hp, of_decide_eq_true hp, fun j hj => of_decide_eq_false (hmin j hj)⟩
  · have hno : ∀ j, j < A.length → isN s (A.getD j h0) = false := fun j hj => by
      cases hh : isN s (A.getD j h0) with
      | false => rfl
      | true => exact absurd ⟨j, hj, hh⟩ h
    refine Or.inl ⟨idx_no hno, get_no hno, fun x hx => ?_⟩
    obtain ⟨j, hj, rfl⟩ := List.getElem_of_mem hx
    have := of_decide_eq_false (hno j hj)
    rw [List.getD_eq_getElem?_getD, List.getElem?_eq_getElem hj] at this
    exact this
set_option maxHeartbeats 1000000 in
theorem get_any (v : Value) (A : List Hd) (s : ByteArray) (w : World) (hv : HeadsAt w v A) (hl : A.length ≤ 1000) :
    Calls Try.prog 23 #[v, S s] w fun e w' => e = .returned (getV A s) ∧ Bl w w' := by
  have P := Lib.hid (place_any v A s w hv hl)
  obtain ⟨a, g, o, cap, rfl, h1, h2, hr⟩ := hv
  have RC := Lib.hid (fun w' (hb : Bl w w') i hi => (hr.bl hb).c hB_len h0 i hi)
  unfold getV
  rcases idx_get A s with ⟨hi, hg, -⟩ | ⟨k, hi, hk, hg, -, -⟩
  · rw [hi] at P
    rw [hg]
    clear hi hg hr
    go_enter Try.func23, Try.ntmps23
    go_wp2_with fail
    with_reducible refine (P.out).mono ?_
    rintro e w' ⟨rfl, hn⟩
    replace hn := Lib.hid hn
    go_wp2_with fail
    go_ret2
    exact ⟨rfl, hn.out⟩
  · rw [hi] at P
    rw [hg]
    clear hi hg hr
    go_enter Try.func23, Try.ntmps23
    go_wp2_with fail
    with_reducible refine (P.out).mono ?_
    rintro e w' ⟨rfl, hn⟩
    obtain ⟨ha, hcc⟩ := RC.out _ hn k hk
    subst ha
    have c1 := hcc 1 (by decide)
    simp only [List.getElem?_cons_succ, List.getElem?_cons_zero, ← Nat.add_assoc] at c1
    obtain ⟨x, hx⟩ : ∃ z_, (A.getD k h0) = z_ := ⟨_, rfl⟩
    rw [hx] at c1
    obtain ⟨xn, xv⟩ := x
    simp only at c1
    clear hcc
    replace hn := Lib.hid hn
    replace hx := Lib.hid hx
    go_wp2_with fail
    go_ret2
    exact ⟨by rw [hx.out]; rfl, hn.out⟩
end Go.Proofs.Ytnmehmlenbbfbaa.heads
