/-
  Heads in print: one print, one row; whose prints differ by the row alone.
-/
import Derived.Test.YtcbpagbalagllaaDoorHdM
import Derived.Test.YtcbpagbalagllaaDoorHdG
namespace Go.Proofs.YtcbpagbalagllaaDoor.heads
open Go.ChangeShapes Go.WideShapes Go.ChangeAt Go.RowKit
set_option linter.unusedVariables false
set_option linter.unusedSimpArgs false

theorem perm_of_sub : ∀ {A B : List Hd}, A.Nodup → (∀ x ∈ A, x ∈ B) → A.length = B.length → A.Perm B
  | [], B, _, _, hl => by
    have : B = [] := List.eq_nil_of_length_eq_zero (by simpa using hl.symm)
    subst this
    exact List.Perm.refl _
  | x :: A, B, hn, hs, hl => by
    obtain ⟨l1, l2, rfl⟩ := List.append_of_mem (hs x (by simp))
    rw [List.nodup_cons] at hn
    have h1 : A.Perm (l1 ++ l2) := perm_of_sub hn.2 (fun y hy => by
      have := hs y (by simp [hy])
      rw [List.mem_append, List.mem_cons] at this
      rw [List.mem_append]
      rcases this with h | h | h
      · exact Or.inl h
      · subst h; exact absurd hy hn.1
      · exact Or.inr h) (by simp at hl ⊢; omega)
    exact (h1.cons x).trans List.perm_middle.symm
theorem nodup_of_names {A : List Hd} (h : (A.map Hd.n).Nodup) : A.Nodup := by
  rw [List.nodup_iff_pairwise_ne] at h ⊢
  rw [List.pairwise_map] at h
  exact h.imp fun h e => h (by rw [e])
theorem name_once {A : List Hd} (h : (A.map Hd.n).Nodup) {x y : Hd} (hx : x ∈ A) (hy : y ∈ A) (e : x.n = y.n) : x = y := by
  obtain ⟨i, hi, rfl⟩ := List.getElem_of_mem hx
  obtain ⟨j, hj, rfl⟩ := List.getElem_of_mem hy
  have := nodup_at h (j := i) (k := j) hi hj (by
    rw [List.getD_eq_getElem?_getD, List.getElem?_eq_getElem hi, List.getD_eq_getElem?_getD, List.getElem?_eq_getElem hj]
    exact e)
  subst this
  rfl
theorem getH_iff {A : List Hd} (h : (A.map Hd.n).Nodup) {s : ByteArray} {x : Hd} : getH A s = some x ↔ x ∈ A ∧ x.n = s := by
  unfold getH
  constructor
  · intro hf
    have h2 : isN s x = true := List.find?_some hf
    exact ⟨List.mem_of_find?_eq_some hf, of_decide_eq_true h2⟩
  · rintro ⟨hx, hs⟩
    cases hf : A.find? (isN s) with
    | none =>
      rw [List.find?_eq_none] at hf
      exact absurd (decide_eq_true hs) (hf x hx)
    | some z =>
      have h2 : isN s z = true := List.find?_some hf
      rw [name_once h (List.mem_of_find?_eq_some hf) hx ((of_decide_eq_true h2).trans hs.symm)]
theorem getH_perm {A B : List Hd} (hp : A.Perm B) (ha : (A.map Hd.n).Nodup) (hb : (B.map Hd.n).Nodup) (s : ByteArray) : getH A s = getH B s := by
  refine Option.ext fun x => ?_
  rw [getH_iff ha, getH_iff hb, hp.mem_iff]
theorem getV_perm {A B : List Hd} (hp : A.Perm B) (ha : (A.map Hd.n).Nodup) (hb : (B.map Hd.n).Nodup) (s : ByteArray) : getV A s = getV B s := by
  unfold getV
  rw [getH_perm hp ha hb]
theorem difB_no {B : List Hd} (hb : (B.map Hd.n).Nodup) {x : Hd} : difB B x = false ↔ x ∈ B := by
  unfold difB
  constructor
  · intro h
    cases hg : getH B x.n with
    | none => rw [hg] at h; simp at h
    | some y =>
      rw [hg] at h
      simp at h
      obtain ⟨h1, h2⟩ := (getH_iff hb).1 hg
      have : y = x := by cases x; cases y; simp at h h2; simp [h, h2]
      rw [← this]; exact h1
  · intro h
    rw [(getH_iff hb).2 ⟨h, rfl⟩]
    simp
theorem same_iff {A B : List Hd} (ha : (A.map Hd.n).Nodup) (hb : (B.map Hd.n).Nodup) : sameF A B = true ↔ A.Perm B := by
  unfold sameF
  rw [Bool.and_eq_true, decide_eq_true_iff, List.all_eq_true]
  constructor
  · rintro ⟨hl, h⟩
    exact perm_of_sub (nodup_of_names ha) (fun x hx => (difB_no hb).1 (by simpa using h x hx)) hl
  · intro hp
    exact ⟨hp.length_eq, fun x hx => by rw [(difB_no hb).2 (hp.mem_iff.1 hx)]; rfl⟩

theorem tail_size (sep : List UInt8) : ∀ r : List (List UInt8), (Lib.joinTail sep r).length = (r.map List.length).sum + r.length * sep.length
  | [] => by simp [Lib.joinTail]
  | x :: r => by
    have ih := tail_size sep r
    unfold Lib.joinTail at ih ⊢
    rw [List.map_cons, List.flatten_cons, List.length_append, List.length_append, List.length_cons, Nat.succ_mul, List.map_cons, List.sum_cons, ih]
    omega
theorem join_size (sep : List UInt8) (r : List (List UInt8)) : (Lib.join r sep).length = (r.map List.length).sum + (r.length - 1) * sep.length := by
  cases r with
  | nil => simp [Lib.join_nil]
  | cons x r =>
    rw [Lib.join_cons, List.length_append, tail_size, List.map_cons, List.sum_cons, List.length_cons, Nat.add_sub_cancel]
    omega
theorem sum_perm {x y : List Nat} (h : x.Perm y) : x.sum = y.sum := by
  induction h with
  | nil => rfl
  | cons a _ ih => rw [List.sum_cons, List.sum_cons, ih]
  | swap a b l => simp only [List.sum_cons]; omega
  | trans _ _ h1 h2 => exact h1.trans h2
theorem print_size (A : List Hd) : (printF A).size = (((A.map wordF).map (·.data.toList)).map List.length).sum + (A.length - 1) * 1 := by
  unfold printF joinF
  show (Lib.join _ _).toArray.size = _
  rw [List.size_toArray, join_size, List.length_map, List.length_map]
  rfl
theorem print_perm {A B : List Hd} (h : A.Perm B) : (printF A).size = (printF B).size := by
  rw [print_size, print_size, h.length_eq, sum_perm (((h.map wordF).map _).map List.length)]

theorem cut_at {c : UInt8} : ∀ {l1 l2 r1 r2 : List UInt8}, c ∉ l1 → c ∉ l2 → l1 ++ c :: r1 = l2 ++ c :: r2 → l1 = l2 ∧ r1 = r2
  | [], [], r1, r2, _, _, h => by simpa using h
  | [], y :: l2, r1, r2, _, h2, h => by
    simp at h
    exact absurd (by simp [h.1]) h2
  | x :: l1, [], r1, r2, h1, _, h => by
    simp at h
    exact absurd (by simp [h.1]) h1
  | x :: l1, y :: l2, r1, r2, h1, h2, h => by
    simp only [List.cons_append, List.cons.injEq] at h
    obtain ⟨e1, e2⟩ := cut_at (fun hc => h1 (by simp [hc])) (fun hc => h2 (by simp [hc])) h.2
    exact ⟨by rw [h.1, e1], e2⟩
theorem digs_colon : ∀ n, n < 100 → (58 : UInt8) ∉ (digs n).data.toList := by decide +kernel
theorem digs_inj : ∀ m, m < 100 → ∀ n, n < 100 → (digs m).data.toList = (digs n).data.toList → m = n := by decide +kernel
theorem name_colon {s : ByteArray} (h : nameF s = true) : (58 : UInt8) ∉ s.data.toList := fun hc => by
  unfold nameF at h
  rw [Bool.and_eq_true, allB_all, List.all_eq_true] at h
  have := h.1 58 hc
  exact absurd this (by decide)
/-- A head's word, as bytes. -/
theorem word_list (x : Hd) : (wordF x).data.toList = x.n.data.toList ++ 58 :: ((digs x.v.size).data.toList ++ 58 :: x.v.data.toList) := by
  unfold wordF
  simp only [ByteArray.data_append, Array.toList_append]
  simp [colon]
theorem word_inj {x y : Hd} (hx : mayF x = true) (hy : mayF y = true) {r1 r2 : List UInt8} (h : (wordF x).data.toList ++ r1 = (wordF y).data.toList ++ r2) : x = y ∧ r1 = r2 := by
  have mx := may_fit hx
  have my := may_fit hy
  have nx : nameF x.n = true := by unfold mayF at hx; simp at hx; exact hx.1
  have ny : nameF y.n = true := by unfold mayF at hy; simp at hy; exact hy.1
  rw [word_list, word_list, List.append_assoc, List.append_assoc, List.cons_append, List.cons_append, List.append_assoc, List.append_assoc, List.cons_append, List.cons_append] at h
  obtain ⟨e1, h⟩ := cut_at (name_colon nx) (name_colon ny) h
  obtain ⟨e2, h⟩ := cut_at (digs_colon _ (by omega)) (digs_colon _ (by omega)) h
  have e3 := digs_inj _ (by omega) _ (by omega) e2
  have e4 := List.append_inj h (by rw [Array.length_toList, Array.length_toList]; exact e3)
  refine ⟨?_, e4.2⟩
  obtain ⟨⟨xn⟩, ⟨xv⟩⟩ := x
  obtain ⟨⟨yn⟩, ⟨yv⟩⟩ := y
  have f1 : xn = yn := Array.toList_inj.1 e1
  have f2 : xv = yv := Array.toList_inj.1 e4.1
  rw [f1, f2]
theorem word_some (x : Hd) : (wordF x).data.toList ≠ [] := by rw [word_list]; simp
theorem joins_inj : ∀ {A B : List Hd}, (∀ x ∈ A, mayF x = true) → (∀ x ∈ B, mayF x = true) → Lib.joinTail [32] ((A.map wordF).map (·.data.toList)) = Lib.joinTail [32] ((B.map wordF).map (·.data.toList)) → A = B
  | [], [], _, _, _ => rfl
  | [], y :: B, _, _, h => by simp [Lib.joinTail] at h
  | x :: A, [], _, _, h => by simp [Lib.joinTail] at h
  | x :: A, y :: B, ha, hb, h => by
    unfold Lib.joinTail at h
    simp only [List.map_cons, List.flatten_cons, List.append_assoc, List.cons_append, List.nil_append, List.cons.injEq, true_and] at h
    obtain ⟨e1, e2⟩ := word_inj (ha x (by simp)) (hb y (by simp)) h
    have e3 := joins_inj (A := A) (B := B) (fun z hz => ha z (by simp [hz])) (fun z hz => hb z (by simp [hz])) (by unfold Lib.joinTail; simpa using e2)
    rw [e1, e3]
theorem print_inj {A B : List Hd} (ha : ∀ x ∈ A, mayF x = true) (hb : ∀ x ∈ B, mayF x = true) (h : printF A = printF B) : A = B := by
  have h2 : Lib.join ((A.map wordF).map (·.data.toList)) [32] = Lib.join ((B.map wordF).map (·.data.toList)) [32] := by
    unfold printF joinF at h
    have := congrArg (fun s : ByteArray => s.data.toList) h
    simpa using this
  cases A with
  | nil =>
    cases B with
    | nil => rfl
    | cons y B =>
      simp only [List.map_nil, List.map_cons, Lib.join_nil, Lib.join_cons] at h2
      exact absurd (List.append_eq_nil_iff.1 h2.symm).1 (word_some y)
  | cons x A =>
    cases B with
    | nil =>
      simp only [List.map_nil, List.map_cons, Lib.join_nil, Lib.join_cons] at h2
      exact absurd (List.append_eq_nil_iff.1 h2).1 (word_some x)
    | cons y B =>
      simp only [List.map_cons, Lib.join_cons] at h2
      obtain ⟨e1, e2⟩ := word_inj (ha x (by simp)) (hb y (by simp)) h2
      have e3 := joins_inj (A := A) (B := B) (fun z hz => ha z (by simp [hz])) (fun z hz => hb z (by simp [hz])) (by simpa using e2)
      rw [e1, e3]
end Go.Proofs.YtcbpagbalagllaaDoor.heads
