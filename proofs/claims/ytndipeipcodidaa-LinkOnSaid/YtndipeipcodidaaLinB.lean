/-
  Package link: a link's block; meets.
-/
import Derived.Test.YtndipeipcodidaaLinA
import Derived.Test.YtndipeipcodidaaTch
namespace Go.Proofs.Ytndipeipcodidaa.link
open Go.ChangeShapes Go.WideShapes Go.ChangeAt Go.RowKit
set_option linter.unusedVariables false
set_option linter.unusedSimpArgs false

theorem var_gby {w w' : World} {x p : Nat} {o : Obj} (h : w.heap[x]? = some o) (hg : w.grownBy w' (some p)) (hx : x ≠ p) : w'.heap[x]? = some o := by
  have hlt := lt_of_block h
  rw [hg.block x hlt (fun e => by cases e; omega)]; exact h
theorem var_bl {w w' : World} {x : Nat} {o : Obj} (h : w.heap[x]? = some o) (hg : Bl w w') : w'.heap[x]? = some o := by
  rw [hg.block x (lt_of_block h)]; exact h

/-- A link's block: the hop, its faults' row, how many messages each has seen. -/
def LK (w : World) (p : Nat) (hop : Int) (fsv : Value) (cnt : List Int) : Prop := cnt.length = 40 ∧ w.heap[p]? = some (.cells (I hop :: fsv :: cnt.map I).toArray 54 (0, 0))
theorem LK.lt {w p hop fsv cnt} (h : LK w p hop fsv cnt) : p < w.heap.size := lt_of_block h.2
theorem LK.bl {w w' : World} {p hop fsv cnt} (h : LK w p hop fsv cnt) (hb : Bl w w') : LK w' p hop fsv cnt := ⟨h.1, var_bl h.2 hb⟩
theorem LK.gby {w w' : World} {p q hop fsv cnt} (h : LK w p hop fsv cnt) (hg : w.grownBy w' (some q)) (hne : p ≠ q) : LK w' p hop fsv cnt := ⟨h.1, var_gby h.2 hg hne⟩
theorem LK.c {w p hop fsv cnt} (h : LK w p hop fsv cnt) : w.cell? ⟨p, 0, none⟩ = some (I hop) ∧ w.cell? ⟨p, 1, none⟩ = some fsv := by
  refine ⟨?_, ?_⟩
  · rw [cell_at h.2]; rfl
  · rw [cell_at h.2]; rfl
theorem LK.at {w p hop fsv cnt} (h : LK w p hop fsv cnt) (i : Nat) (hi : i < 40) : w.cell? ⟨p, 2 + i, none⟩ = some (I (cnt.getD i 0)) := by
  rw [cell_at h.2, show 2 + i = i + 1 + 1 by omega]
  simp only [List.getElem?_toArray, List.getElem?_cons_succ, List.getElem?_map]
  rw [List.getD_eq_getElem?_getD, List.getElem?_eq_getElem (by rw [h.1]; exact hi)]
  rfl
theorem LK.free {w p hop fsv cnt} (h : LK w p hop fsv cnt) (i : Nat) : w.frozen? ⟨p, i, none⟩ = false := free_at h.2 i
theorem LK.set {w p hop fsv cnt} (h : LK w p hop fsv cnt) (i : Nat) (x : Int) : LK (w.setCell ⟨p, 2 + i, none⟩ (I x)) p hop fsv (cnt.set i x) := by
  refine ⟨by rw [List.length_set]; exact h.1, ?_⟩
  have := set_at (2 + i) (I x) h.2
  rw [this, show 2 + i = i + 1 + 1 by omega]
  simp [List.map_set]
theorem LK.set_fs {w p hop fsv cnt} (h : LK w p hop fsv cnt) (u : Value) : LK (w.setCell ⟨p, 1, none⟩ u) p hop u cnt := by
  refine ⟨h.1, ?_⟩
  have := set_at 1 u h.2
  rw [this]
  simp

abbrev fl0 : Flt := ⟨0, 0, 0, 0, 0, 0⟩
def flat : List Flt → List Value
  | [] => []
  | x :: A => I x.k :: I x.f :: I x.t :: I x.a :: I x.b :: I x.n :: flat A
theorem flat_app : ∀ A B, flat (A ++ B) = flat A ++ flat B
  | [], _ => rfl
  | x :: A, B => by simp only [List.cons_append, flat, flat_app A B]
theorem flat_get : ∀ (A : List Flt) (i : Nat), i < A.length → (flat A)[i * 6]? = some (I (A.getD i fl0).k) ∧ (flat A)[i * 6 + 1]? = some (I (A.getD i fl0).f) ∧ (flat A)[i * 6 + 2]? = some (I (A.getD i fl0).t) ∧ (flat A)[i * 6 + 3]? = some (I (A.getD i fl0).a) ∧ (flat A)[i * 6 + 4]? = some (I (A.getD i fl0).b) ∧ (flat A)[i * 6 + 5]? = some (I (A.getD i fl0).n)
  | [], i, h => by simp at h
  | x :: A, 0, _ => by simp [flat]
  | x :: A, i + 1, h => by
    have := flat_get A i (by simpa using h)
    rw [show (i + 1) * 6 = i * 6 + 6 by omega, show i * 6 + 6 + 1 = i * 6 + 1 + 6 by omega, show i * 6 + 6 + 2 = i * 6 + 2 + 6 by omega, show i * 6 + 6 + 3 = i * 6 + 3 + 6 by omega, show i * 6 + 6 + 4 = i * 6 + 4 + 6 by omega, show i * 6 + 6 + 5 = i * 6 + 5 + 6 by omega]
    simpa [flat] using this
/-- A row of faults, of whichever of their two types, in its block. -/
def FRow (w : World) (g : Nat) (a : Option Addr) (A : List Flt) : Prop := 0 < A.length → a = some ⟨g, 0, none⟩ ∧ ∃ cur T, w.heap[g]? = some (.cells cur T (0, 0)) ∧ ∀ j, j < A.length * 6 → cur[j]? = (flat A)[j]?
theorem FRow.kept {w w' : World} {g a A} (h : FRow w g a A) (hb : ∀ o, w.heap[g]? = some o → w'.heap[g]? = some o) : FRow w' g a A := fun hl => by
  obtain ⟨h1, cur, T, h2, h3⟩ := h hl
  exact ⟨h1, cur, T, hb _ h2, h3⟩
theorem FRow.bl {w w' : World} {g a A} (h : FRow w g a A) (hb : Bl w w') : FRow w' g a A := h.kept (fun o h => var_bl h hb)
theorem FRow.gby {w w' : World} {g a A p} (h : FRow w g a A) (hb : w.grownBy w' (some p)) (hne : g ≠ p) : FRow w' g a A := h.kept (fun o h => var_gby h hb hne)
theorem FRow.c {w : World} {g a A} (h : FRow w g a A) (i : Nat) (hi : i < A.length) : a = some ⟨g, 0, none⟩ ∧ w.cell? ⟨g, i * 6, none⟩ = some (I (A.getD i fl0).k) ∧ w.cell? ⟨g, i * 6 + 1, none⟩ = some (I (A.getD i fl0).f) ∧ w.cell? ⟨g, i * 6 + 2, none⟩ = some (I (A.getD i fl0).t) ∧ w.cell? ⟨g, i * 6 + 3, none⟩ = some (I (A.getD i fl0).a) ∧ w.cell? ⟨g, i * 6 + 4, none⟩ = some (I (A.getD i fl0).b) ∧ w.cell? ⟨g, i * 6 + 5, none⟩ = some (I (A.getD i fl0).n) := by
  obtain ⟨h1, cur, T, h2, h3⟩ := h (by omega)
  obtain ⟨q1, q2, q3, q4, q5, q6⟩ := flat_get A i hi
  refine ⟨h1, ?_, ?_, ?_, ?_, ?_, ?_⟩
  · rw [cell_at h2, h3 _ (by omega), q1]
  · rw [cell_at h2, h3 _ (by omega), q2]
  · rw [cell_at h2, h3 _ (by omega), q3]
  · rw [cell_at h2, h3 _ (by omega), q4]
  · rw [cell_at h2, h3 _ (by omega), q5]
  · rw [cell_at h2, h3 _ (by omega), q6]

/-- How many each has seen, behind a message. -/
def seen (cnt : List Int) (i : Nat) (m : Bool) : List Int := if m then cnt.set i (cnt.getD i 0 + 1) else cnt

theorem meets_any (w : World) (p g : Nat) (hop : Int) (a : Option Addr) (cap : Nat) (A : List Flt) (cnt : List Int) (i : Nat) (now u v : Int) (h : LK w p hop (.slice a A.length cap) cnt) (hA : FRow w g a A) (hne : g ≠ p) (hi : i < A.length) (hi2 : i < 40) (c0 : 0 ≤ cnt.getD i 0) (c1 : cnt.getD i 0 ≤ 1000000) :
    Calls Try.prog 23 #[ptr p, .int .i64 i, .func (.func 24) #[fv (A.getD i fl0)] #[], .int .i64 now, .int .i64 u, .int .i64 v] w fun e w' =>
      e = .returned (.bool (way (A.getD i fl0) && seesB (A.getD i fl0) now u v)) ∧ LK w' p hop (.slice a A.length cap) (seen cnt i (way (A.getD i fl0) && seesB (A.getD i fl0) now u v)) ∧ w.grownBy w' (some p) := by
  obtain ⟨rfl, q0, _⟩ := hA.c i hi
  have S := Lib.hid (fun w => sees_any (A.getD i fl0) now u v w)
  have O := fun w => onWay_any (A.getD i fl0).k w
  obtain ⟨c0', c1'⟩ := h.c
  obtain ⟨x, hx⟩ : ∃ z, A.getD i fl0 = z := ⟨_, rfl⟩
  obtain ⟨N, hN⟩ : ∃ z, A.length = z := ⟨_, rfl⟩
  rw [hx] at S q0 ⊢
  rw [hx, show (x.k == 1 || x.k == 2 || x.k == 3 || x.k == 4) = way x from rfl] at O
  rw [hN] at c1' h hi ⊢
  replace O := Lib.hid O
  obtain ⟨b1, hb1⟩ : ∃ z, way x = z := ⟨_, rfl⟩
  obtain ⟨b2, hb2⟩ : ∃ z, seesB x now u v = z := ⟨_, rfl⟩
  rw [hb1] at O ⊢
  rw [hb2] at S ⊢
  replace h := Lib.hid h
  clear hx hb1 hb2
  cases b1 with
  | false =>
    go_enter Try.func23, Try.ntmps23
    go_wp2_with fail
    refine (O.out _).mono ?_
    rintro e w1 ⟨rfl, rfl⟩
    go_wp2_with fail
    go_ret
    exact ⟨rfl, h.out, gby_rfl _ _⟩
  | true =>
    cases b2 with
    | false =>
      go_enter Try.func23, Try.ntmps23
      go_wp2_with fail
      refine (O.out _).mono ?_
      rintro e w1 ⟨rfl, rfl⟩
      go_wp2_with fail
      refine (S.out _).mono ?_
      rintro e w2 ⟨rfl, hb⟩
      go_wp2_with fail
      go_ret
      exact ⟨rfl, h.out.bl hb, gby_of_bl hb _⟩
    | true =>
      rw [show seen cnt i (true && true) = cnt.set i (cnt.getD i 0 + 1) from rfl]
      have hat := fun w' (h : LK w' p hop (.slice (some ⟨g, 0, none⟩) N cap) cnt) => h.at i hi2
      obtain ⟨c, hc⟩ : ∃ z, cnt.getD i 0 = z := ⟨_, rfl⟩
      rw [hc] at c0 c1 ⊢
      simp only [hc] at hat
      replace hat := Lib.hid hat
      clear hc
      go_enter Try.func23, Try.ntmps23
      go_wp2_with fail
      refine (O.out _).mono ?_
      rintro e w1 ⟨rfl, rfl⟩
      go_wp2_with fail
      refine (S.out _).mono ?_
      rintro e w2 ⟨rfl, hb⟩
      have h2 := h.out.bl hb
      have k1 := hat.out _ h2
      have f1 := h2.free (2 + i)
      have hd := h2.bl (Bl.rfl' w2).dr
      have hs := Lib.hid (hd.set i (c + 1))
      have hg := Lib.hid (gby_tr (gby_of_bl (hb.tr (Bl.rfl' w2).dr) (some p)) (gby_set w2.drew p (2 + i) (I (c + 1))))
      clear h2 hb c0' c1' q0 hd
      go_wp2_with fail
      go_region
      all_goals
        go_wp2_with fail
        go_ret
        exact ⟨rfl, hs.out, hg.out⟩
end Go.Proofs.Ytndipeipcodidaa.link
