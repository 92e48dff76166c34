/-
  SplitChecks is true for every input: how parts are wrong, and their sum, is the document's. No condition.
-/
import Derived.Test.YtndlglkokbchbaaSpL
import Derived.Test.YtndlglkokbchbaaSpO
import Derived.Test.YtndlglkokbchbaaAppM
import Derived.Deep.CutRange
namespace Go.Proofs.Ytndlglkokbchbaa.splitChecks
open Go.ChangeShapes Go.WideShapes Go.ChangeAt Go.RowKit
open Go.Proofs.Ytndlglkokbchbaa.split
set_option linter.unusedVariables false
set_option linter.unusedSimpArgs false

theorem flat_take (R : List Pt) (n j : Nat) (h : j < (R.take n).length * 2) : (flatB pB (R.take n))[j]? = (flatB pB R)[j]? := by
  conv => rhs; rw [← List.take_append_drop n R, flatB_app]
  rw [List.getElem?_append_left (by rw [flatB_len pB_len]; exact h)]
theorem z_take {w : World} {g o : Nat} {a : Option Addr} {R : List Pt} (h : RowZ w g o a R) (n : Nat) : RowZ w g o a (R.take n) := fun hl => by
  have h0 : 0 < R.length := by rw [List.length_take] at hl; omega
  obtain ⟨h1, h2, h3⟩ := h h0
  refine ⟨h1, h2, fun j hj => ?_⟩
  rw [flat_take R n j hj]
  exact h3 j (by rw [List.length_take] at hj; omega)
theorem n_take {w : World} {a : Option Addr} {R : List Pt} {g o cap : Nat} (hz : RowZ w g o a R) (hg : R = [] ∨ g < w.heap.size) (hc : R.length ≤ cap) (hc2 : cap ≤ 9223372036854775807) (hi : i64P R) : PartsR w (.slice a (R.take 12).length cap) (R.take 12) := by
  refine ⟨a, g, o, cap, rfl, z_take hz 12, ?_, by rw [List.length_take]; omega, hc2, by rw [List.length_take]; omega, fun x hx => hi x (List.mem_of_mem_take hx)⟩
  rcases hg with rfl | hg
  · exact Or.inl rfl
  · exact Or.inr hg
theorem flat_set (R : List Pt) (i : Nat) (x : Pt) (hi : i < R.length) (j : Nat) (hj : j < R.length * 2) : (flatB pB (R.set i x))[j]? = if j = i * 2 then some (I x.s) else if j = i * 2 + 1 then some (I x.w) else (flatB pB R)[j]? := by
  have hd : j = j / 2 * 2 + j % 2 := by omega
  have hq : j / 2 < R.length := by omega
  rw [hd, flatB_get pB_len p0 (j % 2) (by omega) _ _ (by rw [List.length_set]; exact hq), flatB_get pB_len p0 (j % 2) (by omega) _ _ hq]
  have hg : (R.set i x).getD (j / 2) p0 = if i = j / 2 then x else R.getD (j / 2) p0 := by
    rw [List.getD, List.getElem?_set]
    by_cases h : i = j / 2
    · rw [if_pos h, if_pos h, if_pos hi]; rfl
    · rw [if_neg h, if_neg h]; rfl
  rw [hg]
  have h2 : j % 2 = 0 ∨ j % 2 = 1 := by omega
  by_cases h : i = j / 2
  · rw [if_pos h]
    rcases h2 with h2 | h2 <;> rw [h2]
    · rw [if_pos (by omega)]; rfl
    · rw [if_neg (by omega), if_pos (by omega)]; rfl
  · rw [if_neg h, if_neg (by omega), if_neg (by omega)]
/-- A part is put into a row. -/
theorem set_row {w : World} {g : Nat} {R : List Pt} {cur : Array Value} {T : TypeId} {i : Nat} {x : Pt} (h : w.heap[g]? = some (.cells cur T (0, 0))) (hc : ∀ j, j < R.length * 2 → cur[0 + j]? = (flatB pB R)[j]?) (hi : i < R.length) :
    RowZ ((w.setCell ⟨g, i * 2, none⟩ (I x.s)).setCell ⟨g, i * 2 + 1, none⟩ (I x.w)) g 0 (some ⟨g, 0, none⟩) (R.set i x) := fun hl => by
  have hs := set_at (i * 2 + 1) (I x.w) (set_at (i * 2) (I x.s) h)
  refine ⟨rfl, ⟨_, hs, rfl⟩, fun j hj => ?_⟩
  rw [List.length_set] at hj
  rw [flat_set R i x hi j hj, cell_at hs]
  have hcz : ∀ j, j < R.length * 2 → j < cur.size := fun j hj => by
    have h1 := hc j hj
    rw [Nat.zero_add] at h1
    have h2 : j < (flatB pB R).length := by rw [flatB_len pB_len]; exact hj
    rw [List.getElem?_eq_getElem h2] at h1
    exact (Array.getElem?_eq_some_iff.1 h1).1
  have h0 := hcz (i * 2) (by omega)
  have h1 := hcz (i * 2 + 1) (by omega)
  rw [Nat.zero_add]
  rw [Array.getElem?_setIfInBounds, Array.getElem?_setIfInBounds]
  by_cases ha : j = i * 2
  · subst ha
    rw [if_neg (by omega), if_pos rfl, if_pos h0, if_pos rfl]
  · by_cases hb : j = i * 2 + 1
    · subst hb
      rw [if_pos rfl, if_pos (by rw [Array.size_setIfInBounds]; exact h1), if_neg ha, if_pos rfl]
    · rw [if_neg (fun e => hb e.symm), if_neg (fun e => ha e.symm), if_neg ha, if_neg hb]
      have := hc j hj
      rwa [Nat.zero_add] at this
theorem free2 {w : World} {p : Nat} {cs : Array Value} {t : TypeId} (h : w.heap[p]? = some (.cells cs t (0, 0))) (i k : Nat) (u : Value) : (w.setCell ⟨p, k, none⟩ u).frozen? ⟨p, i, none⟩ = false := free_at (set_at k u h) i
theorem MadeOk.chk {R : List Pt} (h : MadeOk R) : chkF R = 0 := chk_ok (fun i hi => by have := h.srv i hi; omega) h.two (fun i hi => by have := h.wgt i hi; omega) (by have := h.ahd_pos; omega)

set_option maxHeartbeats 16000000 in
theorem walk {w : World} (vl : Value) (R0 : List Pt) (hvl : PartsN w vl R0) (v0 : Value) (z0 : List Int) (hv0 : IntsAt w v0 z0) (hz0 : i64ok z0) (hm0 : z0.length ≤ maxLen) (at_ : Int) (l1 : -9223372036854775808 ≤ at_) (u1 : at_ ≤ 9223372036854775807) (ps : Int) (l2 : -9223372036854775808 ≤ ps) (u2 : ps ≤ 9223372036854775807) (pw : Int) (l3 : -9223372036854775808 ≤ pw) (u3 : pw ≤ 9223372036854775807) :
    Calls Try.prog 3 #[vl, v0, I at_, .agg #[I ps, I pw]] w fun e w' => e = .returned (.bool true) ∧ Bl w w' := by
  have hbox := heap_alloc_new w (.cells #[I ps, I pw] 25)
  have hbw := (Bl.rfl' w).al (.cells #[I ps, I pw] 25)
  have MD := Lib.hid (made_any z0 v0 _ (hv0.below hbw) hz0 hm0)
  have LV := Lib.hid lives_any
  obtain ⟨iu, hiu, zu0, zu1, zu2⟩ := info_parts infoP
  obtain ⟨la, lg, lo, lcap, rfl, hlz, hlg, hlc, hlc2, hli⟩ := hvl
  have hP1 := n_take hlz hlg hlc hlc2 hli
  clear hlz hlg hli
  obtain ⟨w0, hw0⟩ : ∃ z_, (w.alloc (.cells #[I ps, I pw] 25)) = z_ := ⟨_, rfl⟩
  rw [hw0] at hbox hbw MD
  replace hv0 := Lib.hid hv0
  replace hbox := Lib.hid hbox
  replace hbw := Lib.hid hbw
  replace hP1 := Lib.hid hP1
  replace hw0 := Lib.hid hw0
  by_cases h12 : 12 < R0.length
  · have d12 : decide ((R0.length : Int) > 12) = true := decide_eq_true (by omega)
    have hl12 : (R0.take 12).length = 12 := by rw [List.length_take]; omega
    have hcap12 : 12 ≤ lcap := by omega
    have hP1' := hP1.out
    rw [hl12] at hP1'
    clear hP1 hl12
    obtain ⟨R1, hR1⟩ : ∃ R, R0.take 12 = R := ⟨_, rfl⟩
    rw [hR1] at hP1'
    clear hR1
    replace hP1' := Lib.hid hP1'
    go_enter Try.func3, Try.ntmps3
    go_wp2_with fail
    rw [hw0.out]
    obtain ⟨yb, hyb⟩ : ∃ z_, (w.heap.size) = z_ := ⟨_, rfl⟩
    rw [hyb] at hbox
    rw [hyb]
    clear hw0
    with_reducible refine (MD.out).mono ?_
    rintro e w1 ⟨v, R, rfl, hm, ho, hb1⟩
    have hlen := hm.len
    have hpR := own_parts ho (by omega) hm.i64
    obtain ⟨a, g, cap, rfl, hg, hc1, hc2, hr⟩ := ho.row (by decide)
    have hck := MadeOk.chk hm
    have CX := Lib.hid (check_any _ R w1 hpR)
    rw [hck] at CX
    have SX := Lib.hid (fun w' (hb : Bl w1 w') => sum_any _ R w' ((hpR.bl hb).ok hm.ok))
    have RX := Lib.hid (fun w' (hb : Bl w1 w') => rsum_any _ R w' ((hpR.bl hb).ok hm.ok))
    have hi64 := hm.i64
    obtain ⟨m, hmm⟩ : ∃ m, ahd R R.length = m := ⟨_, rfl⟩
    simp only [hmm] at SX RX
    have hmb : (m != m) = false := by simp
    have hone : ∀ A : List Pt, ∀ u ∈ flatB pB A, u.oneCell' = true := by
      intro A
      induction A with
      | nil => intro u hu; simp [flatB] at hu
      | cons x A ih =>
        intro u hu
        rcases List.mem_append.1 (show u ∈ pB x ++ flatB pB A from hu) with h | h
        · simp at h; rcases h with rfl | rfl <;> rfl
        · exact ih u h
    obtain ⟨h1, -⟩ := hr (by omega)
    subst h1
    clear hck hpR ho MD hmm
    have hbx := blk_bl hbox.out hb1
    have hbz := hbw.out.tr hb1
    replace hm := Lib.hid hm
    replace hr := Lib.hid hr
    replace hi64 := Lib.hid hi64
    replace hone := Lib.hid hone
    replace hbx := Lib.hid hbx
    replace hbz := Lib.hid hbz
    clear hbw
    go_wp2_with fail
    with_reducible refine (CX.out).mono ?_
    rintro e w2 ⟨rfl, hq⟩
    replace hq := Lib.hid hq
    clear CX
    go_wp2_with fail
    with_reducible refine (SX.out _ hq.out).mono ?_
    rintro e w3 ⟨rfl, hq2⟩
    replace hq := Lib.hid (hq.out.tr hq2)
    clear hq2 SX
    go_wp2_with fail
    with_reducible refine (RX.out _ hq.out).mono ?_
    rintro e w4 ⟨rfl, rfl⟩
    clear RX hb1
    have hbA := hq.out.al (.cells #[] 25)
    have hown0 := Lib.hid (World.ownsRow_lit (base := w1.heap.size) (e := 25) (size := 2) w3 #[] 0 hq.out.size (by decide) (by simp))
    have NX := Lib.hid (by
      obtain ⟨ad, h1, h2⟩ := part_cells (hr.out.bl hbA) pB_len (by omega)
      cases h1
      exact h2 : ∀ j u, (flatB pB R)[j]? = some u → (w3.alloc (.cells #[] 25)).cell? ((⟨g, 0, none⟩ : Addr).add j) = some u)
    have hlR : (flatB pB R).length = R.length * 2 := flatB_len pB_len R
    replace hbA := Lib.hid hbA
    go_wp2_with (at_builtin; refine wpList_append_many rfl (.tmp 28) (.tmp 29) 22 rfl w1.heap.size 25 iu (.agg #[I 0, I 0]) 2 16 Try.underlying22 hiu zu0 zu1 zu2 rfl (by decide) _ 0 _ (by first | rfl | simp [Act.eval, Act.put]) hown0.out ⟨g, 0, none⟩ R.length cap (flatB pB R) hlR NX.out (hone.out _) (by first | rfl | simp [Act.eval, Act.put]) (by omega) (by omega) hbA.out.size ?_)
    intro v5 w5 hown5 hgrow5
    have hb5 := hbA.out.grown hgrow5 (fun k hk => (hown0.out.lt k hk).1)
    have hyo : OwnB pB 2 25 w5 w1.heap.size v5 R := by
      unfold OwnB
      exact hown5
    obtain ⟨ya, yg, yc, rfl, hyg, hyc1, hyc2, hyr⟩ := hyo.row (by decide)
    obtain ⟨h1, cur, T, hcur, hcc⟩ := hyr (by omega)
    subst h1
    have hbx5 := blk_bl hbx.out hb5
    have hbz5 := hbz.out.tr hb5
    have hsz1 := hbz.out.size
    have hybw : yb < w1.heap.size := lt_of_block hbx.out
    have hbx1 := hbx.out
    clear hown0 NX hlR hown5 hgrow5 hyo hyr hbA hq hone hr hbx hbz
    have A1 := Lib.hid (fun w => around_any at_ (R.length : Int) w l1 u1 (by omega) (by omega))
    have f0 := around_lo at_ (R.length : Int) (by omega); have f1 := around_hi at_ (R.length : Int) (by omega)
    obtain ⟨x, hx⟩ : ∃ z_, (around at_ (R.length : Int)) = z_ := ⟨_, rfl⟩
    rw [hx] at A1 f0 f1
    obtain ⟨k, rfl⟩ : ∃ k : Nat, x = (k : Int) := ⟨x.toNat, by omega⟩
    have hk : k < R.length := by omega
    clear hx l1 u1 f0 f1
    have hdr := (Bl.rfl' w5).dr
    have hcurd := blk_bl hcur hdr
    have hrow := (set_row (x := ⟨ps, pw⟩) hcur hcc hk).bl (Bl.rfl' _).dr
    have hbset : Bl w ((w5.setCell ⟨yg, k * 2, none⟩ (I ps)).setCell ⟨yg, k * 2 + 1, none⟩ (I pw)).drew := ((hbz5.setCell (p := ⟨yg, k * 2, none⟩) (by show w.heap.size ≤ yg; omega) _).setCell (p := ⟨yg, k * 2 + 1, none⟩) (by show w.heap.size ≤ yg; omega) _).drew
    have hbset1 : Bl w1 ((w5.setCell ⟨yg, k * 2, none⟩ (I ps)).setCell ⟨yg, k * 2 + 1, none⟩ (I pw)).drew := ((hb5.setCell (p := ⟨yg, k * 2, none⟩) hyg _).setCell (p := ⟨yg, k * 2 + 1, none⟩) hyg _).drew
    have hbxW := two (x := ⟨ps, pw⟩) (blk_bl hbx1 hbset1)
    have hcell : ∀ w', Bl w5 w' → w'.cell? ⟨yb, 0, none⟩ = some (I ps) ∧ w'.cell? ⟨yb, 1, none⟩ = some (I pw) := fun w' hb => two (x := ⟨ps, pw⟩) (blk_bl hbx5 hb)
    have hkc : (k : Int) < (R.length : Int) := by omega
    have hcA := (hcc (k * 2 + 0) (by omega)).trans (flatB_get pB_len p0 0 (by decide) R k hk)
    have hcB := (hcc (k * 2 + 1) (by omega)).trans (flatB_get pB_len p0 1 (by decide) R k hk)
    rw [Nat.zero_add] at hcA hcB
    have hyc0 : w5.drew.cell? ⟨yg, k * 2, none⟩ = some (I (R.getD k p0).s) := by rw [cell_at hcurd]; exact hcA
    have hyc1' : w5.drew.cell? ⟨yg, k * 2 + 1, none⟩ = some (I (R.getD k p0).w) := by rw [cell_at hcurd]; exact hcB
    have hyz0 : w5.cell? ⟨yg, k * 2, none⟩ = some (I (R.getD k p0).s) := by rw [cell_at hcur]; exact hcA
    have hyz1 : w5.cell? ⟨yg, k * 2 + 1, none⟩ = some (I (R.getD k p0).w) := by rw [cell_at hcur]; exact hcB
    have hg0 := free_at hcur (k * 2)
    have hg1 := free_at hcur (k * 2 + 1)
    have hf0 := free_at hcurd (k * 2)
    have hf1 := free2 hcurd (k * 2 + 1) (k * 2) (I ps)
    obtain ⟨b0, b1⟩ := hcell w5 (Bl.rfl' _)
    replace hrow := Lib.hid hrow
    replace hbset := Lib.hid hbset
    replace hcell := Lib.hid hcell
    replace hbxW := Lib.hid hbxW
    clear hbset1 hbx1
    go_upto_region 7 with fail
    refine wp_region_held_drew (S := fun w' => w'.cell? ⟨yb, 0, none⟩ = some (I ps) ∧ w'.cell? ⟨yb, 1, none⟩ = some (I pw)) (by kernel_rfl) ?_ (fun hHeld => ?_)
    · exact ⟨b0, b1⟩
    refine wpAnyH_take (i := 0) (v := ?v0_1) rfl (by kernel_rfl) (by kernel_rfl) (by kernel_rfl) (fun _ _ _ h => h) (Or.inl ⟨by rfl, ?y0_1⟩) hHeld ?r0_1
    case y0_1 => (intro w hSw; (try dsimp only at hSw); go_split_ands; go_simp; try with_reducible rfl)
    try simp only [List.getElem_toArray, List.getElem_cons_succ, List.getElem_cons_zero, Act.put, List.setIfInBounds_toArray, List.set_cons_zero, List.set_cons_succ]
    refine wpAnyH_take (i := 1) (v := ?v1_2) rfl (by kernel_rfl) (by kernel_rfl) (by kernel_rfl) (fun _ _ _ h => h) (Or.inl ⟨by rfl, ?y1_2⟩) hHeld ?r1_2
    case y1_2 => (intro w hSw; (try dsimp only at hSw); go_split_ands; go_simp; try with_reducible rfl)
    try simp only [List.getElem_toArray, List.getElem_cons_succ, List.getElem_cons_zero, Act.put, List.setIfInBounds_toArray, List.set_cons_zero, List.set_cons_succ]
    refine wpAnyH_take (i := 2) (v := ?v2_3) rfl (by kernel_rfl) (by kernel_rfl) (by kernel_rfl) (fun _ _ _ h => h) (Or.inl ⟨by rfl, ?y2_3⟩) hHeld ?r2_3
    case y2_3 => (intro w hSw; (try dsimp only at hSw); go_split_ands; go_simp; try with_reducible rfl)
    try simp only [List.getElem_toArray, List.getElem_cons_succ, List.getElem_cons_zero, Act.put, List.setIfInBounds_toArray, List.set_cons_zero, List.set_cons_succ]
    refine wpAnyH_take (i := 3) (v := ?v3_4) rfl (by kernel_rfl) (by kernel_rfl) (by kernel_rfl) (fun _ _ _ h => h) (Or.inl ⟨by rfl, ?y3_4⟩) hHeld ?r3_4
    case y3_4 => (intro w hSw; (try dsimp only at hSw); go_split_ands; go_simp; try with_reducible rfl)
    try simp only [List.getElem_toArray, List.getElem_cons_succ, List.getElem_cons_zero, Act.put, List.setIfInBounds_toArray, List.set_cons_zero, List.set_cons_succ]
    refine wpAnyH_take (i := 5) (v := ?v5_5) rfl (by kernel_rfl) (by kernel_rfl) (by kernel_rfl) (fun _ _ _ h => h) (Or.inl ⟨by rfl, ?y5_5⟩) hHeld ?r5_5
    case y5_5 => (intro w hSw; (try dsimp only at hSw); go_split_ands; go_simp; try with_reducible rfl)
    try simp only [List.getElem_toArray, List.getElem_cons_succ, List.getElem_cons_zero, Act.put, List.setIfInBounds_toArray, List.set_cons_zero, List.set_cons_succ]
    refine wpAnyH_ready (rs := [4]) (by kernel_rfl) (by simp) ?_
    refine AllReadyH.cons rfl (fun K hK => ?_) AllReadyH.nil
    have hHeld' := hHeld
    try dsimp only at hHeld'
    go_split_ands
    go_simp
    refine (A1.out _).mono ?_
    rintro e w' ⟨rfl, rfl⟩
    refine hK.out _ _ ?_ (fun hHeld => ?_)
    · exact hcell.out _ hdr
    clear hK K
    try simp only [List.getElem_toArray, List.getElem_cons_succ, List.getElem_cons_zero, Act.put, List.setIfInBounds_toArray, List.set_cons_zero, List.set_cons_succ]
    refine wpAnyH_take (i := 6) (v := ?v6_6) rfl (by kernel_rfl) (by kernel_rfl) (by kernel_rfl) (fun _ _ _ h => h) (Or.inl ⟨by rfl, ?y6_6⟩) hHeld ?r6_6
    case y6_6 => (intro w hSw; (try dsimp only at hSw); go_split_ands; go_simp; try with_reducible rfl)
    try simp only [List.getElem_toArray, List.getElem_cons_succ, List.getElem_cons_zero, Act.put, List.setIfInBounds_toArray, List.set_cons_zero, List.set_cons_succ]
    refine wpAnyH_ready (rs := [7]) (by kernel_rfl) (by simp) ?_
    refine AllReadyH.cons rfl (fun K hK => ?_) AllReadyH.nil
    have hHeld' := hHeld
    try dsimp only at hHeld'
    go_split_ands
    go_simp
    obtain ⟨w7, hw7⟩ : ∃ z_, (((w5.setCell ⟨yg, k * 2, none⟩ (I ps)).setCell ⟨yg, k * 2 + 1, none⟩ (I pw)).drew) = z_ := ⟨_, rfl⟩
    rw [hw7] at hrow hbset hbxW
    rw [hw7]
    clear hw7 hyz0 hyz1 hg0 hg1 hf0 hf1 hyc0 hyc1' hcA hcB hcur hcurd hcc hbx5 hbz5 hb5 hcell b0 b1
    refine hK.out _ _ ?_ (fun hHeld => ?_)
    · exact hbxW.out
    clear hK K
    try simp only [List.getElem_toArray, List.getElem_cons_succ, List.getElem_cons_zero, Act.put, List.setIfInBounds_toArray, List.set_cons_zero, List.set_cons_succ]
    refine wpAnyH_done (by kernel_rfl) ?_ _
    have hlt7 := hrow.out.lt (by rw [List.length_set]; omega)
    have hy7 : PartsR w7 (.slice (some ⟨yg, 0, none⟩) R.length yc) (R.set k ⟨ps, pw⟩) := ⟨_, yg, 0, yc, by rw [List.length_set], hrow.out, Or.inr hlt7, by rw [List.length_set]; exact hyc1, hyc2, by rw [List.length_set]; omega, fun x hx => by
      rcases List.mem_or_eq_of_mem_set hx with h | rfl
      · exact hi64.out x h
      · exact ⟨⟨l2, u2⟩, ⟨l3, u3⟩⟩⟩
    have hn7 : ∀ w', PartsR w' (.slice none 0 0) [] := fun w' => ⟨none, 0, 0, 0, rfl, fun h => by simp at h, Or.inl rfl, by simp, by simp, by simp, fun x hx => by simp at hx⟩
    have C1 := Lib.hid (fun w' (hb : Bl w7 w') => check_any _ R1 w' (hP1'.out.bl (hbset.out.tr hb)))
    have D1 := Lib.hid (fun w' (hb : Bl w7 w') => rcheck_any _ R1 w' (hP1'.out.bl (hbset.out.tr hb)))
    have C2 := Lib.hid (fun w' (hb : Bl w7 w') => check_any _ _ w' (hy7.bl hb))
    have D2 := Lib.hid (fun w' (hb : Bl w7 w') => rcheck_any _ _ w' (hy7.bl hb))
    have C3 := Lib.hid (fun w' => check_any _ _ w' (hn7 w'))
    rw [show chkF [] = 12 from by decide] at C3
    clear hy7 hn7 hrow hlt7
    obtain ⟨c1, hc1'⟩ : ∃ z_, (chkF R1) = z_ := ⟨_, rfl⟩
    simp only [hc1'] at C1 D1
    obtain ⟨c2, hc2'⟩ : ∃ z_, (chkF (R.set k ⟨ps, pw⟩)) = z_ := ⟨_, rfl⟩
    simp only [hc2'] at C2 D2
    have hb1' : (c1 == c1) = true := by simp
    have hb2' : (c2 == c2) = true := by simp
    have hbq := Lib.hid (Bl.rfl' w7)
    clear hc1' hc2'
    go_wp2_with fail
    with_reducible refine (C1.out _ hbq.out).mono ?_
    rintro e wA ⟨rfl, hq⟩
    replace hbq := Lib.hid (hbq.out.tr hq)
    clear hq
    go_wp2_with fail
    with_reducible refine (D1.out _ hbq.out).mono ?_
    rintro e wB ⟨rfl, hq⟩
    replace hbq := Lib.hid (hbq.out.tr hq)
    clear hq
    go_wp2_with fail
    with_reducible refine (C2.out _ hbq.out).mono ?_
    rintro e wC ⟨rfl, hq⟩
    replace hbq := Lib.hid (hbq.out.tr hq)
    clear hq
    go_wp2_with fail
    with_reducible refine (D2.out _ hbq.out).mono ?_
    rintro e wD ⟨rfl, hq⟩
    replace hbq := Lib.hid (hbq.out.tr hq)
    clear hq
    go_wp2_with fail
    with_reducible refine (C3.out _).mono ?_
    rintro e wE ⟨rfl, hq⟩
    replace hbq := Lib.hid (hbq.out.tr hq)
    clear hq
    go_wp2_with fail
    with_reducible refine (LV.out _).mono ?_
    rintro e wF ⟨rfl, hq⟩
    go_wp2_with fail
    go_ret
    exact ⟨rfl, (hbset.out.tr hbq.out).tr hq⟩
  · have d12 : decide ((R0.length : Int) > 12) = false := decide_eq_false (by omega)
    have hP1' := hP1.out
    rw [List.take_of_length_le (by omega)] at hP1'
    clear hP1
    replace hP1' := Lib.hid hP1'
    go_enter Try.func3, Try.ntmps3
    go_wp2_with fail
    rw [hw0.out]
    obtain ⟨yb, hyb⟩ : ∃ z_, (w.heap.size) = z_ := ⟨_, rfl⟩
    rw [hyb] at hbox
    rw [hyb]
    clear hw0
    with_reducible refine (MD.out).mono ?_
    rintro e w1 ⟨v, R, rfl, hm, ho, hb1⟩
    have hlen := hm.len
    have hpR := own_parts ho (by omega) hm.i64
    obtain ⟨a, g, cap, rfl, hg, hc1, hc2, hr⟩ := ho.row (by decide)
    have hck := MadeOk.chk hm
    have CX := Lib.hid (check_any _ R w1 hpR)
    rw [hck] at CX
    have SX := Lib.hid (fun w' (hb : Bl w1 w') => sum_any _ R w' ((hpR.bl hb).ok hm.ok))
    have RX := Lib.hid (fun w' (hb : Bl w1 w') => rsum_any _ R w' ((hpR.bl hb).ok hm.ok))
    have hi64 := hm.i64
    obtain ⟨m, hmm⟩ : ∃ m, ahd R R.length = m := ⟨_, rfl⟩
    simp only [hmm] at SX RX
    have hmb : (m != m) = false := by simp
    have hone : ∀ A : List Pt, ∀ u ∈ flatB pB A, u.oneCell' = true := by
      intro A
      induction A with
      | nil => intro u hu; simp [flatB] at hu
      | cons x A ih =>
        intro u hu
        rcases List.mem_append.1 (show u ∈ pB x ++ flatB pB A from hu) with h | h
        · simp at h; rcases h with rfl | rfl <;> rfl
        · exact ih u h
    obtain ⟨h1, -⟩ := hr (by omega)
    subst h1
    clear hck hpR ho MD hmm
    have hbx := blk_bl hbox.out hb1
    have hbz := hbw.out.tr hb1
    replace hm := Lib.hid hm
    replace hr := Lib.hid hr
    replace hi64 := Lib.hid hi64
    replace hone := Lib.hid hone
    replace hbx := Lib.hid hbx
    replace hbz := Lib.hid hbz
    clear hbw
    go_wp2_with fail
    with_reducible refine (CX.out).mono ?_
    rintro e w2 ⟨rfl, hq⟩
    replace hq := Lib.hid hq
    clear CX
    go_wp2_with fail
    with_reducible refine (SX.out _ hq.out).mono ?_
    rintro e w3 ⟨rfl, hq2⟩
    replace hq := Lib.hid (hq.out.tr hq2)
    clear hq2 SX
    go_wp2_with fail
    with_reducible refine (RX.out _ hq.out).mono ?_
    rintro e w4 ⟨rfl, rfl⟩
    clear RX hb1
    have hbA := hq.out.al (.cells #[] 25)
    have hown0 := Lib.hid (World.ownsRow_lit (base := w1.heap.size) (e := 25) (size := 2) w3 #[] 0 hq.out.size (by decide) (by simp))
    have NX := Lib.hid (by
      obtain ⟨ad, h1, h2⟩ := part_cells (hr.out.bl hbA) pB_len (by omega)
      cases h1
      exact h2 : ∀ j u, (flatB pB R)[j]? = some u → (w3.alloc (.cells #[] 25)).cell? ((⟨g, 0, none⟩ : Addr).add j) = some u)
    have hlR : (flatB pB R).length = R.length * 2 := flatB_len pB_len R
    replace hbA := Lib.hid hbA
    go_wp2_with (at_builtin; refine wpList_append_many rfl (.tmp 28) (.tmp 29) 22 rfl w1.heap.size 25 iu (.agg #[I 0, I 0]) 2 16 Try.underlying22 hiu zu0 zu1 zu2 rfl (by decide) _ 0 _ (by first | rfl | simp [Act.eval, Act.put]) hown0.out ⟨g, 0, none⟩ R.length cap (flatB pB R) hlR NX.out (hone.out _) (by first | rfl | simp [Act.eval, Act.put]) (by omega) (by omega) hbA.out.size ?_)
    intro v5 w5 hown5 hgrow5
    have hb5 := hbA.out.grown hgrow5 (fun k hk => (hown0.out.lt k hk).1)
    have hyo : OwnB pB 2 25 w5 w1.heap.size v5 R := by
      unfold OwnB
      exact hown5
    obtain ⟨ya, yg, yc, rfl, hyg, hyc1, hyc2, hyr⟩ := hyo.row (by decide)
    obtain ⟨h1, cur, T, hcur, hcc⟩ := hyr (by omega)
    subst h1
    have hbx5 := blk_bl hbx.out hb5
    have hbz5 := hbz.out.tr hb5
    have hsz1 := hbz.out.size
    have hybw : yb < w1.heap.size := lt_of_block hbx.out
    have hbx1 := hbx.out
    clear hown0 NX hlR hown5 hgrow5 hyo hyr hbA hq hone hr hbx hbz
    have A1 := Lib.hid (fun w => around_any at_ (R.length : Int) w l1 u1 (by omega) (by omega))
    have f0 := around_lo at_ (R.length : Int) (by omega); have f1 := around_hi at_ (R.length : Int) (by omega)
    obtain ⟨x, hx⟩ : ∃ z_, (around at_ (R.length : Int)) = z_ := ⟨_, rfl⟩
    rw [hx] at A1 f0 f1
    obtain ⟨k, rfl⟩ : ∃ k : Nat, x = (k : Int) := ⟨x.toNat, by omega⟩
    have hk : k < R.length := by omega
    clear hx l1 u1 f0 f1
    have hdr := (Bl.rfl' w5).dr
    have hcurd := blk_bl hcur hdr
    have hrow := (set_row (x := ⟨ps, pw⟩) hcur hcc hk).bl (Bl.rfl' _).dr
    have hbset : Bl w ((w5.setCell ⟨yg, k * 2, none⟩ (I ps)).setCell ⟨yg, k * 2 + 1, none⟩ (I pw)).drew := ((hbz5.setCell (p := ⟨yg, k * 2, none⟩) (by show w.heap.size ≤ yg; omega) _).setCell (p := ⟨yg, k * 2 + 1, none⟩) (by show w.heap.size ≤ yg; omega) _).drew
    have hbset1 : Bl w1 ((w5.setCell ⟨yg, k * 2, none⟩ (I ps)).setCell ⟨yg, k * 2 + 1, none⟩ (I pw)).drew := ((hb5.setCell (p := ⟨yg, k * 2, none⟩) hyg _).setCell (p := ⟨yg, k * 2 + 1, none⟩) hyg _).drew
    have hbxW := two (x := ⟨ps, pw⟩) (blk_bl hbx1 hbset1)
    have hcell : ∀ w', Bl w5 w' → w'.cell? ⟨yb, 0, none⟩ = some (I ps) ∧ w'.cell? ⟨yb, 1, none⟩ = some (I pw) := fun w' hb => two (x := ⟨ps, pw⟩) (blk_bl hbx5 hb)
    have hkc : (k : Int) < (R.length : Int) := by omega
    have hcA := (hcc (k * 2 + 0) (by omega)).trans (flatB_get pB_len p0 0 (by decide) R k hk)
    have hcB := (hcc (k * 2 + 1) (by omega)).trans (flatB_get pB_len p0 1 (by decide) R k hk)
    rw [Nat.zero_add] at hcA hcB
    have hyc0 : w5.drew.cell? ⟨yg, k * 2, none⟩ = some (I (R.getD k p0).s) := by rw [cell_at hcurd]; exact hcA
    have hyc1' : w5.drew.cell? ⟨yg, k * 2 + 1, none⟩ = some (I (R.getD k p0).w) := by rw [cell_at hcurd]; exact hcB
    have hyz0 : w5.cell? ⟨yg, k * 2, none⟩ = some (I (R.getD k p0).s) := by rw [cell_at hcur]; exact hcA
    have hyz1 : w5.cell? ⟨yg, k * 2 + 1, none⟩ = some (I (R.getD k p0).w) := by rw [cell_at hcur]; exact hcB
    have hg0 := free_at hcur (k * 2)
    have hg1 := free_at hcur (k * 2 + 1)
    have hf0 := free_at hcurd (k * 2)
    have hf1 := free2 hcurd (k * 2 + 1) (k * 2) (I ps)
    obtain ⟨b0, b1⟩ := hcell w5 (Bl.rfl' _)
    replace hrow := Lib.hid hrow
    replace hbset := Lib.hid hbset
    replace hcell := Lib.hid hcell
    replace hbxW := Lib.hid hbxW
    clear hbset1 hbx1
    go_upto_region 7 with fail
    refine wp_region_held_drew (S := fun w' => w'.cell? ⟨yb, 0, none⟩ = some (I ps) ∧ w'.cell? ⟨yb, 1, none⟩ = some (I pw)) (by kernel_rfl) ?_ (fun hHeld => ?_)
    · exact ⟨b0, b1⟩
    refine wpAnyH_take (i := 0) (v := ?v0_7) rfl (by kernel_rfl) (by kernel_rfl) (by kernel_rfl) (fun _ _ _ h => h) (Or.inl ⟨by rfl, ?y0_7⟩) hHeld ?r0_7
    case y0_7 => (intro w hSw; (try dsimp only at hSw); go_split_ands; go_simp; try with_reducible rfl)
    try simp only [List.getElem_toArray, List.getElem_cons_succ, List.getElem_cons_zero, Act.put, List.setIfInBounds_toArray, List.set_cons_zero, List.set_cons_succ]
    refine wpAnyH_take (i := 1) (v := ?v1_8) rfl (by kernel_rfl) (by kernel_rfl) (by kernel_rfl) (fun _ _ _ h => h) (Or.inl ⟨by rfl, ?y1_8⟩) hHeld ?r1_8
    case y1_8 => (intro w hSw; (try dsimp only at hSw); go_split_ands; go_simp; try with_reducible rfl)
    try simp only [List.getElem_toArray, List.getElem_cons_succ, List.getElem_cons_zero, Act.put, List.setIfInBounds_toArray, List.set_cons_zero, List.set_cons_succ]
    refine wpAnyH_take (i := 2) (v := ?v2_9) rfl (by kernel_rfl) (by kernel_rfl) (by kernel_rfl) (fun _ _ _ h => h) (Or.inl ⟨by rfl, ?y2_9⟩) hHeld ?r2_9
    case y2_9 => (intro w hSw; (try dsimp only at hSw); go_split_ands; go_simp; try with_reducible rfl)
    try simp only [List.getElem_toArray, List.getElem_cons_succ, List.getElem_cons_zero, Act.put, List.setIfInBounds_toArray, List.set_cons_zero, List.set_cons_succ]
    refine wpAnyH_take (i := 3) (v := ?v3_10) rfl (by kernel_rfl) (by kernel_rfl) (by kernel_rfl) (fun _ _ _ h => h) (Or.inl ⟨by rfl, ?y3_10⟩) hHeld ?r3_10
    case y3_10 => (intro w hSw; (try dsimp only at hSw); go_split_ands; go_simp; try with_reducible rfl)
    try simp only [List.getElem_toArray, List.getElem_cons_succ, List.getElem_cons_zero, Act.put, List.setIfInBounds_toArray, List.set_cons_zero, List.set_cons_succ]
    refine wpAnyH_take (i := 5) (v := ?v5_11) rfl (by kernel_rfl) (by kernel_rfl) (by kernel_rfl) (fun _ _ _ h => h) (Or.inl ⟨by rfl, ?y5_11⟩) hHeld ?r5_11
    case y5_11 => (intro w hSw; (try dsimp only at hSw); go_split_ands; go_simp; try with_reducible rfl)
    try simp only [List.getElem_toArray, List.getElem_cons_succ, List.getElem_cons_zero, Act.put, List.setIfInBounds_toArray, List.set_cons_zero, List.set_cons_succ]
    refine wpAnyH_ready (rs := [4]) (by kernel_rfl) (by simp) ?_
    refine AllReadyH.cons rfl (fun K hK => ?_) AllReadyH.nil
    have hHeld' := hHeld
    try dsimp only at hHeld'
    go_split_ands
    go_simp
    refine (A1.out _).mono ?_
    rintro e w' ⟨rfl, rfl⟩
    refine hK.out _ _ ?_ (fun hHeld => ?_)
    · exact hcell.out _ hdr
    clear hK K
    try simp only [List.getElem_toArray, List.getElem_cons_succ, List.getElem_cons_zero, Act.put, List.setIfInBounds_toArray, List.set_cons_zero, List.set_cons_succ]
    refine wpAnyH_take (i := 6) (v := ?v6_12) rfl (by kernel_rfl) (by kernel_rfl) (by kernel_rfl) (fun _ _ _ h => h) (Or.inl ⟨by rfl, ?y6_12⟩) hHeld ?r6_12
    case y6_12 => (intro w hSw; (try dsimp only at hSw); go_split_ands; go_simp; try with_reducible rfl)
    try simp only [List.getElem_toArray, List.getElem_cons_succ, List.getElem_cons_zero, Act.put, List.setIfInBounds_toArray, List.set_cons_zero, List.set_cons_succ]
    refine wpAnyH_ready (rs := [7]) (by kernel_rfl) (by simp) ?_
    refine AllReadyH.cons rfl (fun K hK => ?_) AllReadyH.nil
    have hHeld' := hHeld
    try dsimp only at hHeld'
    go_split_ands
    go_simp
    obtain ⟨w7, hw7⟩ : ∃ z_, (((w5.setCell ⟨yg, k * 2, none⟩ (I ps)).setCell ⟨yg, k * 2 + 1, none⟩ (I pw)).drew) = z_ := ⟨_, rfl⟩
    rw [hw7] at hrow hbset hbxW
    rw [hw7]
    clear hw7 hyz0 hyz1 hg0 hg1 hf0 hf1 hyc0 hyc1' hcA hcB hcur hcurd hcc hbx5 hbz5 hb5 hcell b0 b1
    refine hK.out _ _ ?_ (fun hHeld => ?_)
    · exact hbxW.out
    clear hK K
    try simp only [List.getElem_toArray, List.getElem_cons_succ, List.getElem_cons_zero, Act.put, List.setIfInBounds_toArray, List.set_cons_zero, List.set_cons_succ]
    refine wpAnyH_done (by kernel_rfl) ?_ _
    have hlt7 := hrow.out.lt (by rw [List.length_set]; omega)
    have hy7 : PartsR w7 (.slice (some ⟨yg, 0, none⟩) R.length yc) (R.set k ⟨ps, pw⟩) := ⟨_, yg, 0, yc, by rw [List.length_set], hrow.out, Or.inr hlt7, by rw [List.length_set]; exact hyc1, hyc2, by rw [List.length_set]; omega, fun x hx => by
      rcases List.mem_or_eq_of_mem_set hx with h | rfl
      · exact hi64.out x h
      · exact ⟨⟨l2, u2⟩, ⟨l3, u3⟩⟩⟩
    have hn7 : ∀ w', PartsR w' (.slice none 0 0) [] := fun w' => ⟨none, 0, 0, 0, rfl, fun h => by simp at h, Or.inl rfl, by simp, by simp, by simp, fun x hx => by simp at hx⟩
    have C1 := Lib.hid (fun w' (hb : Bl w7 w') => check_any _ R0 w' (hP1'.out.bl (hbset.out.tr hb)))
    have D1 := Lib.hid (fun w' (hb : Bl w7 w') => rcheck_any _ R0 w' (hP1'.out.bl (hbset.out.tr hb)))
    have C2 := Lib.hid (fun w' (hb : Bl w7 w') => check_any _ _ w' (hy7.bl hb))
    have D2 := Lib.hid (fun w' (hb : Bl w7 w') => rcheck_any _ _ w' (hy7.bl hb))
    have C3 := Lib.hid (fun w' => check_any _ _ w' (hn7 w'))
    rw [show chkF [] = 12 from by decide] at C3
    clear hy7 hn7 hrow hlt7
    obtain ⟨c1, hc1'⟩ : ∃ z_, (chkF R0) = z_ := ⟨_, rfl⟩
    simp only [hc1'] at C1 D1
    obtain ⟨c2, hc2'⟩ : ∃ z_, (chkF (R.set k ⟨ps, pw⟩)) = z_ := ⟨_, rfl⟩
    simp only [hc2'] at C2 D2
    have hb1' : (c1 == c1) = true := by simp
    have hb2' : (c2 == c2) = true := by simp
    have hbq := Lib.hid (Bl.rfl' w7)
    clear hc1' hc2'
    go_wp2_with fail
    with_reducible refine (C1.out _ hbq.out).mono ?_
    rintro e wA ⟨rfl, hq⟩
    replace hbq := Lib.hid (hbq.out.tr hq)
    clear hq
    go_wp2_with fail
    with_reducible refine (D1.out _ hbq.out).mono ?_
    rintro e wB ⟨rfl, hq⟩
    replace hbq := Lib.hid (hbq.out.tr hq)
    clear hq
    go_wp2_with fail
    with_reducible refine (C2.out _ hbq.out).mono ?_
    rintro e wC ⟨rfl, hq⟩
    replace hbq := Lib.hid (hbq.out.tr hq)
    clear hq
    go_wp2_with fail
    with_reducible refine (D2.out _ hbq.out).mono ?_
    rintro e wD ⟨rfl, hq⟩
    replace hbq := Lib.hid (hbq.out.tr hq)
    clear hq
    go_wp2_with fail
    with_reducible refine (C3.out _).mono ?_
    rintro e wE ⟨rfl, hq⟩
    replace hbq := Lib.hid (hbq.out.tr hq)
    clear hq
    go_wp2_with fail
    with_reducible refine (LV.out _).mono ?_
    rintro e wF ⟨rfl, hq⟩
    go_wp2_with fail
    go_ret
    exact ⟨rfl, (hbset.out.tr hbq.out).tr hq⟩
end Go.Proofs.Ytndlglkokbchbaa.splitChecks
