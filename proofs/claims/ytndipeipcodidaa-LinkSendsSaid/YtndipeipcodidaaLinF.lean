/-
  Package link: a link as a whole; the document's example.
-/
import Derived.Test.YtndipeipcodidaaLinE
namespace Go.Proofs.Ytndipeipcodidaa.link
open Go.ChangeShapes Go.WideShapes Go.ChangeAt Go.RowKit
set_option linter.unusedVariables false
set_option linter.unusedSimpArgs false

/-- A link with its faults. -/
def LS (w : World) (p : Nat) (hop : Int) (A : List Flt) (cnt : List Int) : Prop := ∃ g a cap, LK w p hop (.slice a A.length cap) cnt ∧ FRow w g a A ∧ g ≠ p
theorem LS.lt {w p hop A cnt} (h : LS w p hop A cnt) : p < w.heap.size := by obtain ⟨g, a, cap, h, -⟩ := h; exact h.lt
theorem LS.bl {w w' : World} {p hop A cnt} (h : LS w p hop A cnt) (hb : Bl w w') : LS w' p hop A cnt := by
  obtain ⟨g, a, cap, h1, h2, h3⟩ := h
  exact ⟨g, a, cap, h1.bl hb, h2.bl hb, h3⟩
/-- A row of numbers that lies from block b on. -/
def Own (w : World) (b : Nat) (v : Value) (z : List Int) : Prop := w.ownsRow b 3 1 v z.length (z.map I)
theorem Own.gby {w w' : World} {b p : Nat} {v : Value} {z : List Int} (h : Own w b v z) (hg : w.grownBy w' (some p)) (hp : p < b) : Own w' b v z := h.kept hg (own_ne h hp)
theorem Own.bl {w w' : World} {b : Nat} {v : Value} {z : List Int} (h : Own w b v z) (hg : Bl w w') : Own w' b v z := own_below h hg
theorem Own.ints {w : World} {b : Nat} {v : Value} {z : List Int} (h : Own w b v z) : IntsAt w v z := by
  have := Rd.of_own h (g := icell z) (fun i hi => by
    simp only [icell, List.getElem?_map, List.getD_eq_getElem?_getD]
    rw [List.getElem?_eq_getElem (by omega)]; rfl)
  rwa [Nat.mul_one] at this
theorem Own.any {w : World} {b : Nat} {v : Value} {z : List Int} (h : Own w b v z) : ∃ a cap, v = .slice a z.length cap := by
  obtain ⟨a, g, cap, cur, h1, -⟩ := own_blk h (by decide)
  exact ⟨a, cap, h1⟩

def sq (A : List Flt) (now u v hop : Int) (cnt : List Int) : SS := sendTo A now u v ⟨now + hop, false, false, cnt⟩ A.length
theorem send_ls (w : World) (p : Nat) (hop : Int) (A : List Flt) (cnt : List Int) (now u v b : Int) (h : LS w p hop A cnt) (hN : A.length ≤ 40) (hF : ∀ x ∈ A, okF x) (hc : okC b cnt) (b1 : b ≤ 500000) (t0 : 0 ≤ now) (t1 : now ≤ 1000000) (h0 : 0 ≤ hop) (h1 : hop ≤ 1000000) :
    Calls Try.prog 14 #[ptr p, .int .i64 now, .int .i64 u, .int .i64 v] w fun e w' =>
      ∃ vr, e = .returned vr ∧ Own w' w.heap.size vr (sent (sq A now u v hop cnt)) ∧ LS w' p hop A (sq A now u v hop cnt).cnt ∧ w.grownBy w' (some p) := by
  obtain ⟨g, a, cap, h2, h3, h4⟩ := h
  refine (send_any w p g hop a cap A cnt now u v b h2 h3 h4 hN hF hc b1 t0 t1 h0 h1).mono ?_
  rintro e w' ⟨vr, he, h5, h6, h7⟩
  exact ⟨vr, he, h5, ⟨g, a, cap, h6, h3.gby h7 h4, h4⟩, h7⟩
theorem new_ls (w : World) (hop : Int) (g0 : Nat) (a : Option Addr) (cap : Nat) (A : List Flt) (hA : FRow w g0 a A) (hN : A.length ≤ 40) (hcap : A.length ≤ cap) :
    Calls Try.prog 10 #[.int .i64 hop, .slice a A.length cap] w fun e w' => ∃ p, e = .returned (ptr p) ∧ w.heap.size ≤ p ∧ LS w' p hop A (List.replicate 40 0) ∧ Bl w w' := by
  refine (new_any w hop g0 a cap A hA hN hcap).mono ?_
  rintro e w' ⟨p, g, a', cap', he, h1, h2, h3, h4, h5⟩
  exact ⟨p, he, h1, ⟨g, a', cap', h3, h4, h2⟩, h5⟩
theorem end_ls (w : World) (p : Nat) (hop : Int) (A : List Flt) (cnt : List Int) (h : LS w p hop A cnt) (hN : A.length ≤ 40) :
    Calls Try.prog 19 #[ptr p] w fun e w' => e = .returned (I (endTo A A.length)) ∧ Bl w w' := by
  obtain ⟨g, a, cap, h2, h3, h4⟩ := h
  exact end_any w p g hop a cap A cnt h2 h3 hN

theorem okC0 (b : Int) (hb : 0 ≤ b) : okC b (List.replicate 40 0) := by
  refine ⟨by simp, fun i => ?_⟩
  rw [List.getD_eq_getElem?_getD, List.getElem?_replicate]
  split <;> simp <;> omega
theorem getD_set (l : List Int) (k i : Nat) (x : Int) : (l.set k x).getD i 0 = if i = k ∧ k < l.length then x else l.getD i 0 := by
  rw [List.getD_eq_getElem?_getD, List.getElem?_set, List.getD_eq_getElem?_getD]
  by_cases h : k = i
  · subst h
    by_cases h2 : k < l.length
    · simp [h2]
    · simp [h2, List.getElem?_eq_none (Nat.le_of_not_lt h2)]
  · rw [if_neg h, if_neg (fun hh => h hh.1.symm)]
/-- A message adds one at most to each count. -/
theorem sendTo_cnt (A : List Flt) (now u v : Int) (s : SS) (hs : s.cnt.length = 40) : ∀ k, (sendTo A now u v s k).cnt.length = 40 ∧ (∀ i, k ≤ i → (sendTo A now u v s k).cnt.getD i 0 = s.cnt.getD i 0) ∧ ∀ i, s.cnt.getD i 0 ≤ (sendTo A now u v s k).cnt.getD i 0 ∧ (sendTo A now u v s k).cnt.getD i 0 ≤ s.cnt.getD i 0 + 1
  | 0 => ⟨hs, fun _ _ => rfl, fun i => ⟨by simp only [sendTo]; omega, by simp only [sendTo]; omega⟩⟩
  | k + 1 => by
    obtain ⟨h0, h1, h2⟩ := sendTo_cnt A now u v s hs k
    rw [show sendTo A now u v s (k + 1) = sendStep now u v (sendTo A now u v s k) k (A.getD k fl0) from rfl]
    unfold sendStep
    split
    · refine ⟨by simp only [List.length_set]; exact h0, fun i hi => ?_, fun i => ?_⟩
      · simp only [getD_set]
        rw [if_neg (by omega)]; exact h1 i (by omega)
      · simp only [getD_set]
        split
        · rename_i he
          have := h1 k (Nat.le_refl _)
          rw [he.1]; omega
        · exact h2 i
    · exact ⟨h0, fun i hi => h1 i (by omega), h2⟩
theorem sq_ok {A : List Flt} {now u v hop b : Int} {cnt : List Int} (h : okC b cnt) : okC (b + 1) (sq A now u v hop cnt).cnt := by
  obtain ⟨h0, -, h2⟩ := sendTo_cnt A now u v ⟨now + hop, false, false, cnt⟩ h.1 A.length
  refine ⟨h0, fun i => ?_⟩
  have := h2 i; have := h.2 i
  unfold sq
  simp only at *
  omega

def fE : Flt := ⟨1, 5, 9, 0, 101, 2⟩
set_option maxHeartbeats 4000000 in
theorem lives_any (w : World) : Calls Try.prog 15 #[] w fun e w' => e = .returned (.bool true) ∧ Bl w w' := by
  go_enter Try.func15, Try.ntmps15
  go_wp2_with fail
  have hb1 := (Bl.rfl' w).al (.cells #[I 1, I 5, I 9, I 0, I 101, I 2] 40)
  have hF : FRow (w.alloc (.cells #[I 1, I 5, I 9, I 0, I 101, I 2] 40)) w.heap.size (some ⟨w.heap.size, 0, none⟩) [fE] := fun _ => ⟨rfl, _, _, heap_alloc_new _ _, fun j hj => by simp [flat, fE]⟩
  refine (new_ls _ 2 w.heap.size _ 1 [fE] hF (by decide) (by decide)).mono ?_
  rintro e w1 ⟨p, rfl, hp, hL, hb2⟩
  have hwp : w.heap.size ≤ p := by have := hb1.size; omega
  replace hb1 := Lib.hid ((hb1.tr hb2).gp (gby_rfl _ (some p)) hwp)
  clear hF hb2
  have hFF : ∀ x ∈ [fE], okF x := by intro x hx; simp at hx; subst hx; exact ⟨by decide, by decide⟩
  have C0 := okC0 0 (by decide)
  obtain ⟨n0, hn0⟩ : ∃ z, List.replicate 40 (0 : Int) = z := ⟨_, rfl⟩
  have s0 : sent (sq [fE] 4 0 101 2 n0) = [6] := by rw [← hn0]; decide
  obtain ⟨n1, hn1⟩ : ∃ z, (sq [fE] 4 0 101 2 n0).cnt = z := ⟨_, rfl⟩
  have s1 : sent (sq [fE] 5 0 101 2 n1) = [7] := by rw [← hn1, ← hn0]; decide
  obtain ⟨n2, hn2⟩ : ∃ z, (sq [fE] 5 0 101 2 n1).cnt = z := ⟨_, rfl⟩
  have s2 : sent (sq [fE] 6 0 101 2 n2) = [] := by rw [← hn2, ← hn1, ← hn0]; decide
  obtain ⟨n3, hn3⟩ : ∃ z, (sq [fE] 6 0 101 2 n2).cnt = z := ⟨_, rfl⟩
  have s3 : sent (sq [fE] 7 0 101 2 n3) = [9] := by rw [← hn3, ← hn2, ← hn1, ← hn0]; decide
  obtain ⟨n4, hn4⟩ : ∃ z, (sq [fE] 7 0 101 2 n3).cnt = z := ⟨_, rfl⟩
  have s4 : sent (sq [fE] 9 0 101 2 n4) = [11] := by rw [← hn4, ← hn3, ← hn2, ← hn1, ← hn0]; decide
  have C1 : okC 1 n1 := by rw [← hn1]; exact sq_ok (hn0 ▸ C0)
  have C2 : okC 2 n2 := by rw [← hn2]; exact sq_ok C1
  have C3 : okC 3 n3 := by rw [← hn3]; exact sq_ok C2
  have C4 : okC 4 n4 := by rw [← hn4]; exact sq_ok C3
  rw [hn0] at hL C0
  replace hL := Lib.hid hL; replace C0 := Lib.hid C0; replace C1 := Lib.hid C1; replace C2 := Lib.hid C2; replace C3 := Lib.hid C3; replace C4 := Lib.hid C4; replace hFF := Lib.hid hFF
  replace hn1 := Lib.hid hn1; replace hn2 := Lib.hid hn2; replace hn3 := Lib.hid hn3; replace hn4 := Lib.hid hn4
  replace s0 := Lib.hid s0; replace s1 := Lib.hid s1; replace s2 := Lib.hid s2; replace s3 := Lib.hid s3; replace s4 := Lib.hid s4
  clear hn0
  go_wp2_with fail
  have M := send_ls w1 p 2 [fE] n0 4 0 101 0 hL.out (by decide) hFF.out C0.out (by decide) (by decide) (by decide) (by decide) (by decide)
  rw [hn1.out, s0.out] at M
  refine M.mono ?_
  rintro e w2 ⟨v0, rfl, o0, hL2, hg⟩
  have lp := hL.out.lt
  replace hb1 := Lib.hid (hb1.out.gp hg hwp); replace hL2 := Lib.hid hL2; replace o0 := Lib.hid o0
  clear M hg hL
  go_wp2_with fail
  have M := send_ls w2 p 2 [fE] n1 5 0 101 1 hL2.out (by decide) hFF.out C1.out (by decide) (by decide) (by decide) (by decide) (by decide)
  rw [hn2.out, s1.out] at M
  refine M.mono ?_
  rintro e w3 ⟨v1, rfl, o1, hL3, hg⟩
  have lp2 := hL2.out.lt
  replace o0 := Lib.hid (o0.out.gby hg lp)
  replace hb1 := Lib.hid (hb1.out.gp hg hwp); replace hL3 := Lib.hid hL3; replace o1 := Lib.hid o1
  clear M hg hL2
  go_wp2_with fail
  have M := send_ls w3 p 2 [fE] n2 6 0 101 2 hL3.out (by decide) hFF.out C2.out (by decide) (by decide) (by decide) (by decide) (by decide)
  rw [hn3.out, s2.out] at M
  refine M.mono ?_
  rintro e w4 ⟨v2, rfl, o2, hL4, hg⟩
  have lp3 := hL3.out.lt
  replace o0 := Lib.hid (o0.out.gby hg lp); replace o1 := Lib.hid (o1.out.gby hg lp2)
  replace hb1 := Lib.hid (hb1.out.gp hg hwp); replace hL4 := Lib.hid hL4
  obtain ⟨a2, c2, rfl⟩ := o2.any
  clear M hg hL3 o2
  go_wp2_with fail
  have M := send_ls w4 p 2 [fE] n3 7 0 101 3 hL4.out (by decide) hFF.out C3.out (by decide) (by decide) (by decide) (by decide) (by decide)
  rw [hn4.out, s3.out] at M
  refine M.mono ?_
  rintro e w5 ⟨v3, rfl, o3, hL5, hg⟩
  have lp4 := hL4.out.lt
  replace o0 := Lib.hid (o0.out.gby hg lp); replace o1 := Lib.hid (o1.out.gby hg lp2)
  replace hb1 := Lib.hid (hb1.out.gp hg hwp); replace hL5 := Lib.hid hL5; replace o3 := Lib.hid o3
  clear M hg hL4
  go_wp2_with fail
  have M := send_ls w5 p 2 [fE] n4 9 0 101 4 hL5.out (by decide) hFF.out C4.out (by decide) (by decide) (by decide) (by decide) (by decide)
  rw [s4.out] at M
  refine M.mono ?_
  rintro e w6 ⟨v4, rfl, o4, hL6, hg⟩
  have lp5 := hL5.out.lt
  replace o0 := Lib.hid (o0.out.gby hg lp); replace o1 := Lib.hid (o1.out.gby hg lp2); replace o3 := Lib.hid (o3.out.gby hg lp4)
  replace hb1 := Lib.hid (hb1.out.gp hg hwp); replace hL6 := Lib.hid hL6; replace o4 := Lib.hid o4
  clear M hg hL5 s0 s1 s2 s3 s4 hn1 hn2 hn3 hn4 C0 C1 C2 C3 C4 hFF
  go_wp2_with fail
  have hz := (Bl.rfl' w6).al (.cells #[I 6] 3)
  refine (same_any [6] [6] _ _ _ (o0.out.bl hz).ints (ints_lit w6 _ [6] (by decide)) (by decide) (by decide)).mono ?_
  rintro e w7 ⟨rfl, hb7⟩
  replace o1 := Lib.hid ((o1.out.bl hz).bl hb7); replace o3 := Lib.hid ((o3.out.bl hz).bl hb7); replace o4 := Lib.hid ((o4.out.bl hz).bl hb7)
  replace hL6 := Lib.hid ((hL6.out.bl hz).bl hb7); replace hb1 := Lib.hid ((hb1.out.tr hz).tr hb7)
  clear hz hb7 o0
  go_wp2_with fail
  have hz := (Bl.rfl' w7).al (.cells #[I 7] 3)
  refine (same_any [7] [7] _ _ _ (o1.out.bl hz).ints (ints_lit w7 _ [7] (by decide)) (by decide) (by decide)).mono ?_
  rintro e w8 ⟨rfl, hb7⟩
  replace o3 := Lib.hid ((o3.out.bl hz).bl hb7); replace o4 := Lib.hid ((o4.out.bl hz).bl hb7)
  replace hL6 := Lib.hid ((hL6.out.bl hz).bl hb7); replace hb1 := Lib.hid ((hb1.out.tr hz).tr hb7)
  clear hz hb7 o1
  go_wp2_with fail
  have hz := (Bl.rfl' w8).al (.cells #[I 9] 3)
  refine (same_any [9] [9] _ _ _ (o3.out.bl hz).ints (ints_lit w8 _ [9] (by decide)) (by decide) (by decide)).mono ?_
  rintro e w9 ⟨rfl, hb7⟩
  replace o4 := Lib.hid ((o4.out.bl hz).bl hb7)
  replace hL6 := Lib.hid ((hL6.out.bl hz).bl hb7); replace hb1 := Lib.hid ((hb1.out.tr hz).tr hb7)
  clear hz hb7 o3
  go_wp2_with fail
  have hz := (Bl.rfl' w9).al (.cells #[I 11] 3)
  refine (same_any [11] [11] _ _ _ (o4.out.bl hz).ints (ints_lit w9 _ [11] (by decide)) (by decide) (by decide)).mono ?_
  rintro e w10 ⟨rfl, hb7⟩
  replace hL6 := Lib.hid ((hL6.out.bl hz).bl hb7); replace hb1 := Lib.hid ((hb1.out.tr hz).tr hb7)
  clear hz hb7 o4
  go_wp2_with fail
  refine (end_ls w10 p 2 [fE] _ hL6.out (by decide)).mono ?_
  rintro e w11 ⟨rfl, hb7⟩
  replace hb1 := Lib.hid (hb1.out.tr hb7)
  clear hb7 hL6
  rw [show endTo [fE] [fE].length = 9 from by decide]
  go_wp2_with fail
  go_ret
  exact ⟨rfl, hb1.out⟩
end Go.Proofs.Ytndipeipcodidaa.link
