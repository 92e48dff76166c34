/-
  Heads that may be.
-/
import Derived.Test.YtnmehmlenbbfbaaHdLn
import Derived.Test.YtnmehmlenbbfbaaHdF
namespace Go.Proofs.Ytnmehmlenbbfbaa.heads
open Go.ChangeShapes Go.WideShapes Go.ChangeAt Go.RowKit
set_option linter.unusedVariables false
set_option linter.unusedSimpArgs false

theorem allB_list (p : Int → Bool) (s : ByteArray) : ∀ k, k ≤ s.size → allB p s k = (s.data.toList.take k).all fun b => p b.toNat
  | 0, _ => rfl
  | k + 1, h => by
    have hk : k < s.data.toList.length := by rw [Array.length_toList]; exact h
    have ih := allB_list p s k (by omega)
    rw [allB, ih, List.take_succ_eq_append_getElem hk, List.all_append]
    congr 1
    simp only [List.all_cons, List.all_nil, Bool.and_true]
    congr 1
    unfold byteAt
    rw [Array.getD_eq_getD_getElem?, Array.getElem?_eq_getElem h, Array.getElem_toList]
    rfl
theorem allB_all (p : Int → Bool) (s : ByteArray) : allB p s s.size = s.data.toList.all fun b => p b.toNat := by
  rw [allB_list p s s.size (Nat.le_refl _), List.take_of_length_le (by rw [Array.length_toList]; exact Nat.le_refl _)]
theorem digit_ok : ∀ n, n < 10 → ((strOfNums [48 + ((n : Nat) : Int)]).data.toList.all fun b => okV b.toNat) = true := by decide +kernel
theorem decS_ok : ∀ f n, ((decS f n).data.toList.all fun b => okV b.toNat) = true
  | 0, n => rfl
  | f + 1, n => by
    unfold decS
    split
    · exact digit_ok n (by assumption)
    · rw [ByteArray.data_append, Array.toList_append, List.all_append, decS_ok f (n / 10), digit_ok (n % 10) (Nat.mod_lt _ (by omega))]
      rfl
theorem name_ok : ∀ j, j < 10 → nameF (nT j) = true := by decide +kernel
theorem val_ok : ∀ j, j < 8 → valueF (vT j) = true := by decide +kernel
theorem dots_ok : (dots.data.toList.all fun b => okV b.toNat) = true := by decide +kernel
theorem may_of (x : Int) (h0 : 0 ≤ x) : mayF (ofN x) = true := by
  unfold mayF ofN
  simp only
  rw [name_ok _ (by omega), Bool.true_and]
  split
  · unfold valueF
    rw [allB_all, ByteArray.data_append, Array.toList_append, List.all_append, decS_ok, dots_ok]
    have h1 := decS_size 6 x.toNat
    have h2 : dots.size = 40 := rfl
    rw [decide_eq_true (by rw [ByteArray.size_append]; omega)]
    rfl
  · exact val_ok _ (by omega)
theorem may_one (y : Int) : mayF (oneF y) = true := may_of _ (around_lo y 100000 (by omega))
theorem may_fit {x : Hd} (h : mayF x = true) : x.n.size ≤ 20 ∧ x.v.size ≤ 60 ∧ 1 ≤ x.n.size := by
  unfold mayF nameF valueF at h
  simp only [Bool.and_eq_true, decide_eq_true_iff] at h
  omega

structure OkH (A : List Hd) : Prop where
  len : A.length ≤ 8
  two : (A.map Hd.n).Nodup
  may : ∀ x ∈ A, mayF x = true
theorem rep_names (A : List Hd) (h : Hd) : (A.map (rep h)).map Hd.n = A.map Hd.n := by
  rw [List.map_map]
  refine List.map_congr_left fun x _ => ?_
  show (rep h x).n = x.n
  unfold rep
  split
  · rename_i hh; exact hh.symm
  · rfl
theorem any_names {A : List Hd} {s : ByteArray} : A.any (isN s) = true ↔ s ∈ A.map Hd.n := by
  rw [List.any_eq_true, List.mem_map]
  exact ⟨fun ⟨x, h1, h2⟩ => ⟨x, h1, of_decide_eq_true h2⟩, fun ⟨x, h1, h2⟩ => ⟨x, h1, decide_eq_true h2⟩⟩
theorem OkH.set {A : List Hd} {h : Hd} (ha : OkH A) (hh : mayF h = true) : OkH (set1R A h) := by
  refine ⟨set1R_len A h ha.len, ?_, ?_⟩
  · unfold set1R
    split
    · rw [rep_names]; exact ha.two
    · rename_i hn
      split
      · rw [List.map_append, List.nodup_append]
        refine ⟨ha.two, by simp, ?_⟩
        intro a h1 b h2 e
        simp at h2
        subst h2
        subst e
        exact hn (any_names.2 h1)
      · exact ha.two
  · intro x hx
    unfold set1R at hx
    split at hx
    · obtain ⟨y, hy, rfl⟩ := List.mem_map.1 hx
      unfold rep
      split
      · exact hh
      · exact ha.may y hy
    · split at hx
      · rcases List.mem_append.1 hx with h1 | h1
        · exact ha.may x h1
        · simp at h1; subst h1; exact hh
      · exact ha.may x hx
theorem ok_heads (z : List Int) : ∀ k, OkH (headsF z k)
  | 0 => ⟨by simp [headsF], by simp [headsF], fun x hx => by simp [headsF] at hx⟩
  | k + 1 => (ok_heads z k).set (may_one _)
theorem nodup_at {A : List Hd} (h : (A.map Hd.n).Nodup) {j k : Nat} (hj : j < A.length) (hk : k < A.length) (e : (A.getD j h0).n = (A.getD k h0).n) : j = k := by
  rw [List.getD_eq_getElem?_getD, List.getElem?_eq_getElem hj, List.getD_eq_getElem?_getD, List.getElem?_eq_getElem hk] at e
  have e' : (A[j]).n = (A[k]).n := e
  rw [List.nodup_iff_pairwise_ne, List.pairwise_iff_getElem] at h
  rcases Nat.lt_trichotomy j k with hl | hl | hl
  · exact absurd (by rw [List.getElem_map, List.getElem_map]; exact e') (h j k (by simpa using hj) (by simpa using hk) hl)
  · exact hl
  · exact absurd (by rw [List.getElem_map, List.getElem_map]; exact e'.symm) (h k j (by simpa using hk) (by simpa using hj) hl)
/-- As the program sets, so the document does, where no name stands twice. -/
theorem set1_same {A : List Hd} (h : (A.map Hd.n).Nodup) (x : Hd) : set1P A x = set1R A x := by
  rcases idx_get A x.n with ⟨hi, hg, hno⟩ | ⟨k, hi, hk, hg, hn, -⟩
  · rw [set1_no hi]
    unfold set1R
    have hcc : ¬ (A.any (isN x.n) = true) := fun hc => by
      obtain ⟨y, hy, he⟩ := List.mem_map.1 (any_names.1 hc)
      exact hno y hy he
    rw [if_neg hcc]
  · rw [set1_at hi]
    unfold set1R
    rw [if_pos (any_names.2 (List.mem_map.2 ⟨A.getD k h0, by rw [List.getD_eq_getElem?_getD, List.getElem?_eq_getElem hk]; exact List.getElem_mem _, hn⟩))]
    refine List.ext_getElem (by simp) fun i h1 h2 => ?_
    rw [List.length_set] at h1
    rw [List.getElem_set, List.getElem_map]
    have hgi : A.getD i h0 = A[i] := by rw [List.getD_eq_getElem?_getD, List.getElem?_eq_getElem h1]; rfl
    by_cases hki : k = i
    · subst hki
      rw [if_pos rfl]
      unfold rep
      rw [hgi] at hn ⊢
      rw [if_pos hn, hn]
    · rw [if_neg hki]
      unfold rep
      rw [if_neg (fun e => hki (nodup_at h hk h1 (by rw [hn, hgi, e])))]
def setR (A B : List Hd) : List Hd := B.foldl set1R A
theorem set_same {B : List Hd} (hB : ∀ x ∈ B, mayF x = true) : ∀ {A : List Hd}, OkH A → setP A B = setR A B ∧ OkH (setR A B) := by
  unfold setP setR
  induction B with
  | nil => exact fun hA => ⟨rfl, hA⟩
  | cons x B ih =>
    intro A hA
    rw [List.foldl_cons, List.foldl_cons, set1_same hA.two]
    exact ih (fun y hy => hB y (by simp [hy])) (hA.set (hB x (by simp)))
theorem setR_take (A B : List Hd) (k : Nat) (h : k < B.length) : setR A (B.take (k + 1)) = set1R (setR A (B.take k)) (B.getD k h0) := by
  unfold setR
  rw [List.take_succ_eq_append_getElem h, List.foldl_append, List.getD_eq_getElem?_getD, List.getElem?_eq_getElem h]
  rfl
theorem some_may (z : List Int) (k : Nat) : ∀ x ∈ someF z k, mayF x = true := fun x hx => by
  unfold someF at hx
  obtain ⟨i, -, rfl⟩ := List.mem_map.1 hx
  exact may_one _
theorem OkH.fit {A : List Hd} (h : OkH A) : Fit A := fun x hx => by have := may_fit (h.may x hx); omega
theorem OkH.check {A : List Hd} (h : OkH A) : checkF A = 0 := by
  refine check_done h.len ?_
  have : ∀ k, k ≤ A.length → chkF A k = none := fun k => by
    induction k with
    | zero => exact fun _ => rfl
    | succ k ih =>
      intro hk
      refine check_next (ih (by omega)) (h.may _ (by rw [List.getD_eq_getElem?_getD, List.getElem?_eq_getElem (by omega)]; exact List.getElem_mem _)) ?_
      cases hg : getH (A.take k) (A.getD k h0).n with
      | none => rfl
      | some z =>
        exfalso
        unfold getH at hg
        have h1 := List.mem_of_find?_eq_some hg
        have h2' : isN (A.getD k h0).n z = true := List.find?_some hg
        have h2 := of_decide_eq_true h2'
        obtain ⟨i, hi, rfl⟩ := List.getElem_of_mem h1
        rw [List.length_take] at hi
        have := nodup_at h.two (j := i) (k := k) (by omega) (by omega) (by rw [← h2, List.getElem_take, List.getD_eq_getElem?_getD, List.getElem?_eq_getElem (by omega)]; rfl)
        omega
  exact this _ (Nat.le_refl _)
end Go.Proofs.Ytnmehmlenbbfbaa.heads
