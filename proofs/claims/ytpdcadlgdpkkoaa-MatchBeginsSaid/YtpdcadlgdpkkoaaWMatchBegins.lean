/-
  To begin with is an order, and of two beginnings of one path one begins with the other, for any three numbers.
-/
import Derived.Test.YtpdcadlgdpkkoaaMaH
namespace Go.Proofs.Ytpdcadlgdpkkoaa.matchBegins
open Go.ChangeShapes Go.WideShapes Go.ChangeAt Go.RowKit
open Go.Proofs.Ytpdcadlgdpkkoaa.mat Go.Proofs.Ytpdcadlgdpkkoaa.heads
set_option linter.unusedVariables false
set_option linter.unusedSimpArgs false

set_option maxRecDepth 20000 in
set_option maxHeartbeats 8000000 in
theorem walk {w : World} (i : Int) (l1 : -9223372036854775808 ≤ i) (u1 : i ≤ 9223372036854775807) (j : Int) (l2 : -9223372036854775808 ≤ j) (u2 : j ≤ 9223372036854775807) (k : Int) (l3 : -9223372036854775808 ≤ k) (u3 : k ≤ 9223372036854775807) :
    Calls Try.prog 7 #[I i, I j, I k] w fun e w' => e = .returned (.bool true) ∧ Bl w w' := by
  have A1 := Lib.hid (fun w => pathof_any i w l1 u1)
  have A2 := Lib.hid (fun w => pathof_any j w l2 u2)
  have A3 := Lib.hid (fun w => pathof_any k w l3 u3)
  have LV := Lib.hid lives_any
  obtain ⟨pa, -, sa⟩ := pathO_is i
  obtain ⟨pb, -, sb⟩ := pathO_is j
  obtain ⟨pc, pq, sc⟩ := pathO_is k
  obtain ⟨a, ha⟩ : ∃ z_, (pathO i) = z_ := ⟨_, rfl⟩
  obtain ⟨b, hb⟩ : ∃ z_, (pathO j) = z_ := ⟨_, rfl⟩
  obtain ⟨c, hc⟩ : ∃ z_, (pathO k) = z_ := ⟨_, rfl⟩
  simp only [ha] at A1 pa sa
  simp only [hb] at A2 pb sb
  simp only [hc] at A3 pc pq sc
  have ON := Lib.hid (fun p s w (h1 : s.size ≤ 1000000) (h2 : p.size ≤ 1000000) => on_any p false nilH s w h1 h2)
  have za : a.size ≤ 1000000 := by omega
  have zb : b.size ≤ 1000000 := by omega
  have zc : c.size ≤ 1000000 := by omega
  have zs : sl.size ≤ 1000000 := by decide
  have hoq := on_q pq
  have ad := fun w => run_string_add_sum (P := Try.prog) w c pQ (by show c.size + 2 ≤ _; omega)
  have zq : (c ++ pQ).size ≤ 1000000 := by rw [ByteArray.size_append]; show _ + 2 ≤ _; omega
  have hor := on_root pc
  have hza := on_self pa
  have n1 := eq_sl c
  obtain ⟨cq, hcq⟩ : ∃ X, c ++ pQ = X := ⟨_, rfl⟩
  rw [hcq] at hoq zq
  simp only [hcq] at ad
  obtain ⟨bz, hbz⟩ : ∃ X, decide (c = sl) = X := ⟨_, rfl⟩
  rw [hbz] at hoq n1
  have n2 := txt_eq a b
  have H1 := on_anti pa pb
  have H2 := on_trans pa pb pc
  have H3 := on_trans pb pa pc
  have H4 := on_tree pa pb pc
  have CM : ∀ (w : World) (h : onF a false b = true) (hn : a ≠ b), Calls Try.prog 17 #[mV b false nilH, mV a false nilH] w fun e w' => e = .returned (I (-1)) ∧ Bl w w' := fun w h hn => by
    have C := cmp_any b false none 0 0 a false none 0 0 w (by decide) zb (by decide) za
    rw [cmp_deep pa pb h hn] at C
    exact C
  obtain ⟨w0, hw0⟩ : ∃ X, w = X := ⟨_, rfl⟩
  subst hw0
  clear ha hb hc l1 u1 l2 u2 l3 u3 pa pb pc pq sa sb sc hcq hbz
  replace hor := Lib.hid hor
  replace hza := Lib.hid hza
  replace hoq := Lib.hid hoq
  replace n1 := Lib.hid n1
  replace n2 := Lib.hid n2
  replace H1 := Lib.hid H1
  replace H2 := Lib.hid H2
  replace H3 := Lib.hid H3
  replace H4 := Lib.hid H4
  replace CM := Lib.hid CM
  replace za := Lib.hid za
  replace zb := Lib.hid zb
  replace zc := Lib.hid zc
  replace zq := Lib.hid zq
  replace zs := Lib.hid zs
  replace ad := Lib.hid ad
  go_enter Try.func7, Try.ntmps7
  go_wp2_with fail
  with_reducible refine (A1.out _).mono ?_
  rintro e v1 ⟨rfl, q1⟩
  replace q1 := Lib.hid q1
  go_wp2_with fail
  with_reducible refine (A2.out _).mono ?_
  rintro e v2 ⟨rfl, q2⟩
  replace q2 := Lib.hid q2
  go_wp2_with fail
  with_reducible refine (A3.out _).mono ?_
  rintro e v3 ⟨rfl, q3⟩
  obtain ⟨w1, h1⟩ : ∃ X, v3.alloc (.cells #[.string a, .bool false, .slice none 0 0] 29) = X := ⟨_, rfl⟩
  obtain ⟨w2, h2⟩ : ∃ X, w1.alloc (.cells #[.string b, .bool false, .slice none 0 0] 29) = X := ⟨_, rfl⟩
  obtain ⟨w3, h3⟩ : ∃ X, w2.alloc (.cells #[.string c, .bool false, .slice none 0 0] 29) = X := ⟨_, rfl⟩
  obtain ⟨r1, e1⟩ : ∃ X, v3.heap.size = X := ⟨_, rfl⟩
  obtain ⟨r2, e2⟩ : ∃ X, w1.heap.size = X := ⟨_, rfl⟩
  obtain ⟨r3, e3⟩ : ∃ X, w2.heap.size = X := ⟨_, rfl⟩
  have k1 : Bl v3 w1 := by rw [← h1]; exact (Bl.rfl' v3).al _
  have k2 : Bl w1 w2 := by rw [← h2]; exact (Bl.rfl' w1).al _
  have k3 : Bl w2 w3 := by rw [← h3]; exact (Bl.rfl' w2).al _
  have g1 : w1.heap[r1]? = some (oM a false nilH) := by rw [← h1, ← e1]; exact heap_alloc_new v3 _
  have g2 : w2.heap[r2]? = some (oM b false nilH) := by rw [← h2, ← e2]; exact heap_alloc_new w1 _
  have g3 : w3.heap[r3]? = some (oM c false nilH) := by rw [← h3, ← e3]; exact heap_alloc_new w2 _
  replace g1 := blk_bl g1 (k2.tr k3)
  replace g2 := blk_bl g2 k3
  have hb0 := (((q1.out.tr q2.out).tr q3).tr k1).tr (k2.tr k3)
  have KX := Lib.hid (fun w' (hb : Bl w3 w') => (⟨cell_at (blk_bl g1 hb) 0, cell_at (blk_bl g1 hb) 1, cell_at (blk_bl g1 hb) 2, cell_at (blk_bl g2 hb) 0, cell_at (blk_bl g2 hb) 1, cell_at (blk_bl g2 hb) 2, cell_at (blk_bl g3 hb) 0, cell_at (blk_bl g3 hb) 1, cell_at (blk_bl g3 hb) 2⟩ :
    w'.cell? ⟨r1, 0, none⟩ = some (S a) ∧ w'.cell? ⟨r1, 1, none⟩ = some (.bool false) ∧ w'.cell? ⟨r1, 2, none⟩ = some nilH ∧ w'.cell? ⟨r2, 0, none⟩ = some (S b) ∧ w'.cell? ⟨r2, 1, none⟩ = some (.bool false) ∧ w'.cell? ⟨r2, 2, none⟩ = some nilH ∧ w'.cell? ⟨r3, 0, none⟩ = some (S c) ∧ w'.cell? ⟨r3, 1, none⟩ = some (.bool false) ∧ w'.cell? ⟨r3, 2, none⟩ = some nilH))
  have hq := Bl.rfl' w3
  have s1 : w1.heap.size = v3.heap.size + 1 := by rw [← h1]; simp
  have s2 : w2.heap.size = v3.heap.size + 1 + 1 := by rw [← h2, ← s1]; simp
  rw [s1] at e2
  rw [s2] at e3
  subst e1 e2 e3
  clear g1 g2 g3 k1 k2 k3 s1 s2 q1 q2 q3 A1 A2 A3
  replace hb0 := Lib.hid hb0
  replace h1 := Lib.hid h1
  replace h2 := Lib.hid h2
  replace h3 := Lib.hid h3
  go_upto_region 7 with fail
  rw [h1.out, h2.out, h3.out]
  clear h1 h2 h3
  have d1 := hor.out
  have d2 := hza.out
  have d3 := hoq.out
  have d4 := n1.out
  have d5 := ad.out
  replace za := za.out; replace zb := zb.out; replace zc := zc.out; replace zq := zq.out; replace zs := zs.out
  clear hor hza hoq n1 ad
  by_cases hab : a = b
  · subst hab
    have n3 : (a.toList == a.toList) = true := by rw [n2.out, decide_eq_true rfl]
    clear H1 H2 H3 H4 CM n2
    obtain ⟨xc, hxc⟩ : ∃ X, onF a false c = X := ⟨_, rfl⟩
    cases xc <;> cases bz
    all_goals
      simp only [Bool.not_true, Bool.not_false] at d3
      repeat
        have ⟨a0, a1, a2, b0, b1, b2, c0, c1, c2⟩ := KX.out _ hq
        replace hq := Lib.hid hq
        go_wp2_with fail
        (first
          | (with_reducible refine (ON.out _ _ _ (by assumption) (by assumption)).mono ?_)
          | (with_reducible refine (CM.out _).mono ?_)
          | (with_reducible refine (LV.out _).mono ?_))
        rintro e w' ⟨rfl, hn⟩
        replace hq := hq.out.tr hn
        clear hn a0 a1 a2 b0 b1 b2 c0 c1 c2
      have hz := hb0.out.tr hq
      have ⟨a0, a1, a2, b0, b1, b2, c0, c1, c2⟩ := KX.out _ hq
      replace hq := Lib.hid hq
      go_wp2_with fail
      go_ret
      exact ⟨rfl, hz⟩
  · have n3 : (a.toList == b.toList) = false := by rw [n2.out, decide_eq_false hab]
    replace H1 := fun h g => hab (H1.out h g)
    replace H2 := H2.out
    replace H3 := H3.out
    replace H4 := H4.out
    replace CM := fun w h => CM.out w h hab
    clear n2
    obtain ⟨xb, hxb⟩ : ∃ X, onF a false b = X := ⟨_, rfl⟩
    obtain ⟨ya, hya⟩ : ∃ X, onF b false a = X := ⟨_, rfl⟩
    obtain ⟨xc, hxc⟩ : ∃ X, onF a false c = X := ⟨_, rfl⟩
    obtain ⟨yc, hyc⟩ : ∃ X, onF b false c = X := ⟨_, rfl⟩
    rw [hxb] at H2 H4
    rw [hxb, hya] at H1
    rw [hya] at H3 H4
    rw [hxc] at H2 H3 H4
    rw [hyc] at H2 H3 H4
    simp only [hxb] at CM
    cases xb <;> cases ya <;> cases xc <;> cases yc
    all_goals
      first
        | exact (H1 rfl rfl).elim
        | exact (Bool.noConfusion (H2 rfl rfl))
        | exact (Bool.noConfusion (H3 rfl rfl))
        | exact ((H4 rfl rfl).elim (fun h => Bool.noConfusion h) (fun h => Bool.noConfusion h))
        | skip
    all_goals
      clear H1 H2 H3 H4
    all_goals
      first
        | (replace CM := Lib.hid (fun w => CM w rfl))
        | (clear CM; have CM := LV)
    all_goals
      cases bz
    all_goals
      simp only [Bool.not_true, Bool.not_false] at d3
      repeat
        have ⟨a0, a1, a2, b0, b1, b2, c0, c1, c2⟩ := KX.out _ hq
        replace hq := Lib.hid hq
        go_wp2_with fail
        (first
          | (with_reducible refine (ON.out _ _ _ (by assumption) (by assumption)).mono ?_)
          | (with_reducible refine (CM.out _).mono ?_)
          | (with_reducible refine (LV.out _).mono ?_))
        rintro e w' ⟨rfl, hn⟩
        replace hq := hq.out.tr hn
        clear hn a0 a1 a2 b0 b1 b2 c0 c1 c2
      have hz := hb0.out.tr hq
      have ⟨a0, a1, a2, b0, b1, b2, c0, c1, c2⟩ := KX.out _ hq
      replace hq := Lib.hid hq
      go_wp2_with fail
      go_ret
      exact ⟨rfl, hz⟩
end Go.Proofs.Ytpdcadlgdpkkoaa.matchBegins
