/-
  Package cert: Issue, Rotate, Revoke, Roots.
-/
import Derived.Test.YtajnhjcinpdfhaaCrC
namespace Go.Proofs.Ytajnhjcinpdfhaa.cert
open Go.ChangeShapes Go.WideShapes Go.ChangeAt Go.RowKit
set_option linter.unusedVariables false
set_option linter.unusedSimpArgs false

theorem infoC : (Try.prog.info? 24).map (fun i => (i.zero, i.size, i.bytes)) = some (some (.agg #[I 0, I 0, I 0, I 0, I 0]), 5, 40) := by kernel_rfl
theorem infoI : (Try.prog.info? 3).map (fun i => (i.zero, i.size, i.bytes)) = some (some (I 0), 1, 8) := by kernel_rfl

theorem five {w : World} {y : Nat} {a b c d f : Int} {t : TypeId} (h : w.heap[y]? = some (.cells #[I a, I b, I c, I d, I f] t (0, 0))) : w.cell? ⟨y, 0, none⟩ = some (I a) ∧ w.cell? ⟨y, 1, none⟩ = some (I b) ∧ w.cell? ⟨y, 2, none⟩ = some (I c) ∧ w.cell? ⟨y, 3, none⟩ = some (I d) ∧ w.cell? ⟨y, 4, none⟩ = some (I f) := by
  refine ⟨?_, ?_, ?_, ?_, ?_⟩ <;> (rw [cell_at h]; rfl)

def IssueD (ks : Nat → Prop) (p : Nat) (U : List Int) (G : List Crt) (S : List Int) (c : Crt) (w : World) : Ending → World → Prop := fun e w' => e = .returned (cv c) ∧ CA (grw ks w w') w' p U (G ++ [c]) S ∧ Tch ks w w'

theorem not_zero {w : World} {L b y cap : Nat} {F : List Value} {s2 s3 s4 s5 : Value} (hF : F.length = L * 5) (h : w.ownsRow 0 24 5 (.slice (some ⟨b, 0, none⟩) (L + 1) cap) (L + 1) (F ++ [I ((L : Int) + 1), s2, s3, s4, s5])) (hz : w.heap[y]? = some (.cells #[I 0, I 0, I 0, I 0, I 0] 24 (0, 0))) : b ≠ y := by
  rintro rfl
  rcases h.2 with ⟨h1, -⟩ | ⟨g, cp, cur, h1, h2, h3, h4, h5, h6, h7⟩
  · cases h1
  · simp only [Value.slice.injEq, Option.some.injEq, Addr.mk.injEq, and_true, true_and] at h1
    obtain ⟨rfl, rfl⟩ := h1
    rw [hz] at h3
    simp only [Option.some.injEq, Obj.cells.injEq, and_true] at h3
    subst h3
    have hc : cap = 1 := by simp at h6; omega
    obtain rfl : L = 0 := by omega
    have : F = [] := List.length_eq_zero_iff.1 (by omega)
    subst this
    simp at h7

theorem ca_fin {ks : Nat → Prop} {w w8 w9 : World} {p y : Nat} {U : List Int} {G : List Crt} {S : List Int} {vu : Value} {b' cap' mr n L : Nat} {a b c d f : Int} (hL : G.length = L)
    (hA8 : w8.heap[p]? = some (.cells #[vu, .slice (some ⟨b', 0, none⟩) (L + 1) cap', .map (some mr)] 51 (0, 0))) (hU8 : w8.ownsRow 0 3 1 vu U.length (flatB iB U))
    (hG8 : w8.ownsRow 0 24 5 (.slice (some ⟨b', 0, none⟩) (L + 1) cap') (L + 1) (flatB cB G ++ [I a, I b, I c, I d, I f])) (hM8 : MpK I w8 mr (revF S) n) (h5 : ks p) (h6 : ks mr) (k7 : ∀ k, vu.ownBlock = some k → ks k) (hq : ks b' ∨ w.heap.size ≤ b')
    (hZ8 : w8.heap[y]? = some (.cells #[I 0, I 0, I 0, I 0, I 0] 24 (0, 0))) (hby : b' ≠ y) (hpy : p ≠ y) (g9 : w8.grownBy w9 (some y)) : CA (grw ks w w9) w9 p U (G ++ [⟨a, b, c, d, f⟩]) S := by
  have hc : CA (fun k => ks k ∨ w.heap.size ≤ k) w9 p U (G ++ [⟨a, b, c, d, f⟩]) S := by
    refine ⟨vu, _, mr, n, blk_gby hA8 g9 hpy, ?_, ?_, hM8.row g9 (fun e => by cases e; exact hM8.ne hZ8 rfl), Or.inl h5, Or.inl h6, fun k hk => Or.inl (k7 k hk), fun k hk => by simp only [Value.ownBlock, Option.some.injEq] at hk; subst hk; exact hq⟩
    · exact World.ownsRow.kept hU8 g9 (Or.inr (own_apart hU8 hZ8 (by decide)))
    · show World.ownsRow _ _ _ _ _ (G ++ [_]).length _
      rw [List.length_append, hL, flatB_snoc]
      exact World.ownsRow.kept hG8 g9 (Or.inr (fun e => hby (by simpa [Value.ownBlock] using e)))
  exact hc.bound (Nat.le_refl _) (fun k h1 h2 => ⟨h1, h2⟩)



set_option maxHeartbeats 8000000 in
set_option maxRecDepth 20000 in
theorem issue_any {ks : Nat → Prop} {w : World} {p : Nat} {U : List Int} {G : List Crt} {S : List Int} (h : CA ks w p U G S) (hU : U.length ≤ 999) (hG : G.length ≤ 999) (v now life : Int) (n0 : -1000000000 ≤ now) (n1 : now ≤ 1000000000) (l0 : -1000000000 ≤ life) (l1 : life ≤ 1000000000) :
    Calls Try.prog 12 #[ptr p, I v, I now, I life] w (IssueD ks p U G S ⟨(G.length : Int) + 1, (U.length : Int) + 1, v, now, now + life⟩ w) := by
  obtain ⟨iu, hiu, zu0, zu1, zu2⟩ := info_parts infoC
  have hpl := h.lt
  have NW := Lib.hid (fun w' (hb : Bl w w') => newest_any (h.bl hb) (by omega))
  obtain ⟨vu, vg, mr, n, h1, h2, h3, h4, h5, h6, k7, k8⟩ := h
  obtain ⟨ag, gg, cg, hvg, hgg, -⟩ := h3.row (by decide)
  have hmp := h4.ne h1
  obtain ⟨y, hy⟩ : ∃ z_, (w.heap.size) = z_ := ⟨_, rfl⟩
  have hb0 := (Bl.rfl' w).al (.cells #[I 0, I 0, I 0, I 0, I 0] 24)
  have hY0 := heap_alloc_new w (.cells #[I 0, I 0, I 0, I 0, I 0] 24)
  have hs0 : (w.alloc (.cells #[I 0, I 0, I 0, I 0, I 0] 24)).heap.size = y + 1 := by simp [hy]
  obtain ⟨wa, hwa⟩ : ∃ z_, (w.alloc (.cells #[I 0, I 0, I 0, I 0, I 0] 24)) = z_ := ⟨_, rfl⟩
  rw [hwa] at hb0 hY0 hs0
  rw [hy] at hY0
  have hp : p < y := by have := lt_of_block h1; omega
  have hA := blk_bl h1 hb0
  have hAd := blk_bl hA (Bl.rfl' wa).dr
  have k1 := cell_at hA 1
  simp only [List.getElem?_toArray, List.getElem?_cons_succ, List.getElem?_cons_zero] at k1
  unfold IssueD
  obtain ⟨L, hL⟩ : ∃ z_, (G.length) = z_ := ⟨_, rfl⟩
  obtain ⟨M, hM⟩ : ∃ z_, (U.length) = z_ := ⟨_, rfl⟩
  simp only [hL, hM] at NW hvg hU hG ⊢
  subst hvg
  have h3' := h3
  unfold OwnB at h3'
  rw [hL] at h3'
  clear h3
  have hL' := hL
  replace hL' := Lib.hid hL'
  clear hL
  have e1 : IntKind.i64.wrap ((L : Int) + 1) = (L : Int) + 1 := by rw [IntKind.wrap_i64]; omega
  have e2 : IntKind.i64.wrap (now + life) = now + life := by rw [IntKind.wrap_i64]; omega
  have hY1 := heap_alloc_new wa.drew (.cells #[I 0, I 0, I 0, I 0, I 0] 24)
  have hbd := hb0.dr
  have hbe := hbd.al (.cells #[I 0, I 0, I 0, I 0, I 0] 24)
  have hAe := blk_bl hAd ((Bl.rfl' wa.drew).al (.cells #[I 0, I 0, I 0, I 0, I 0] 24))
  have hsd : wa.drew.heap.size = y + 1 := hs0
  rw [hsd] at hY1
  obtain ⟨z0, z1, z2, z3, z4⟩ := five hY1
  have zf := free_at hY1
  have hb3 := (hb0.al (.cells #[I ((L : Int) + 1), I ((M : Int) + 1), I v, I now, I (now + life)] 24)).dr
  have hA3 := blk_bl hA ((Bl.rfl' wa).al (.cells #[I ((L : Int) + 1), I ((M : Int) + 1), I v, I now, I (now + life)] 24)).dr
  have hY3 := blk_bl (heap_alloc_new wa (.cells #[I ((L : Int) + 1), I ((M : Int) + 1), I v, I now, I (now + life)] 24)) (Bl.rfl' _).dr
  have hs3 : (wa.alloc (.cells #[I ((L : Int) + 1), I ((M : Int) + 1), I v, I now, I (now + life)] 24)).drew.heap.size = y + 2 := by
    show (wa.alloc _).heap.size = _
    simp [hs0]
  rw [hs0] at hY3
  obtain ⟨w3, hw3⟩ : ∃ z_, ((wa.alloc (.cells #[I ((L : Int) + 1), I ((M : Int) + 1), I v, I now, I (now + life)] 24)).drew) = z_ := ⟨_, rfl⟩
  rw [hw3] at hb3 hA3 hY3 hs3
  have hown4 := own_below h3' hb3.dr
  have hA4 := blk_bl hA3 (Bl.rfl' w3).dr
  have hY4 := blk_bl hY3 (Bl.rfl' w3).dr
  have hs4 : w3.drew.heap.size = y + 2 := hs3
  have hA5 := blk_bl hA3 ((Bl.rfl' w3).al (.cells #[I ((L : Int) + 1), I ((M : Int) + 1), I v, I now, I (now + life)] 24)).dr
  have hY5 := blk_bl hY3 ((Bl.rfl' w3).al (.cells #[I ((L : Int) + 1), I ((M : Int) + 1), I v, I now, I (now + life)] 24)).dr
  have hb4 := hb3.dr
  have hZ4 := blk_bl hY0 ((((Bl.rfl' wa).al (.cells #[I ((L : Int) + 1), I ((M : Int) + 1), I v, I now, I (now + life)] 24)).dr).dr)
  rw [hw3] at hZ4
  replace hZ4 := Lib.hid hZ4
  replace hbd := Lib.hid hbd
  replace hbe := Lib.hid hbe
  replace hAe := Lib.hid hAe
  replace hb3 := Lib.hid hb3
  replace hA3 := Lib.hid hA3
  replace hY3 := Lib.hid hY3
  replace hw3 := Lib.hid hw3
  replace hown4 := Lib.hid hown4
  replace hA4 := Lib.hid hA4
  replace hY4 := Lib.hid hY4
  replace hA5 := Lib.hid hA5
  replace hY5 := Lib.hid hY5
  replace hb4 := Lib.hid hb4
  replace hA := Lib.hid hA
  replace hAd := Lib.hid hAd
  replace hb0 := Lib.hid hb0
  replace hY0 := Lib.hid hY0
  replace h2 := Lib.hid h2
  replace h3' := Lib.hid h3'
  replace h4 := Lib.hid h4
  go_enter Try.func12, Try.ntmps12
  go_wp2_with fail
  refine wp_region_held_drew (S := fun w' => w'.cell? ⟨p, 1, none⟩ = some (.slice ag L cg)) (by kernel_rfl) ?_ (fun hHeld => ?_)
  · exact (cell_at hAd.out 1)
  refine wpAnyH_take (i := 0) (v := ?v0_1) rfl (by kernel_rfl) (by kernel_rfl) (by kernel_rfl) (fun _ _ _ h => h) (Or.inl ⟨by rfl, ?y0_1⟩) hHeld ?r0_1
  case y0_1 => (intro w hSw; (try dsimp only at hSw); go_split_ands; go_simp; try with_reducible rfl)
  try simp only [List.getElem_toArray, List.getElem_cons_succ, List.getElem_cons_zero, Act.put, List.setIfInBounds_toArray, List.set_cons_zero, List.set_cons_succ]
  refine wpAnyH_take (i := 1) (v := ?v1_2) rfl (by kernel_rfl) (by kernel_rfl) (by kernel_rfl) (fun _ _ _ h => h) (Or.inl ⟨by rfl, ?y1_2⟩) hHeld ?r1_2
  case y1_2 => (intro w hSw; (try dsimp only at hSw); go_split_ands; go_simp; try with_reducible rfl)
  try simp only [List.getElem_toArray, List.getElem_cons_succ, List.getElem_cons_zero, Act.put, List.setIfInBounds_toArray, List.set_cons_zero, List.set_cons_succ]
  refine wpAnyH_take (i := 2) (v := ?v2_3) rfl (by kernel_rfl) (by kernel_rfl) (by kernel_rfl) (fun _ _ _ h => h) (Or.inl ⟨by rfl, ?y2_3⟩) hHeld ?r2_3
  case y2_3 => (intro w hSw; (try dsimp only at hSw); go_split_ands; go_simp; try with_reducible rfl)
  try simp only [List.getElem_toArray, List.getElem_cons_succ, List.getElem_cons_zero, Act.put, List.setIfInBounds_toArray, List.set_cons_zero, List.set_cons_succ]
  refine wpAnyH_take (i := 3) (v := ?v3_4) rfl (by kernel_rfl) (by kernel_rfl) (by kernel_rfl) (fun _ _ _ h => h) (Or.inl ⟨by rfl, ?y3_4⟩) hHeld ?r3_4
  case y3_4 => (intro w hSw; (try dsimp only at hSw); go_split_ands; go_simp; try with_reducible rfl)
  try simp only [List.getElem_toArray, List.getElem_cons_succ, List.getElem_cons_zero, Act.put, List.setIfInBounds_toArray, List.set_cons_zero, List.set_cons_succ]
  refine wpAnyH_take (i := 4) (v := ?v4_5) rfl (by kernel_rfl) (by kernel_rfl) (by kernel_rfl) (fun _ _ _ h => h) (Or.inl ⟨by rfl, ?y4_5⟩) hHeld ?r4_5
  case y4_5 => (intro w hSw; (try dsimp only at hSw); go_split_ands; go_simp; try with_reducible rfl)
  try simp only [List.getElem_toArray, List.getElem_cons_succ, List.getElem_cons_zero, Act.put, List.setIfInBounds_toArray, List.set_cons_zero, List.set_cons_succ]
  refine wpAnyH_take (i := 5) (v := ?v5_6) rfl (by kernel_rfl) (by kernel_rfl) (by kernel_rfl) (fun _ _ _ h => h) (Or.inl ⟨by rfl, ?y5_6⟩) hHeld ?r5_6
  case y5_6 => (intro w hSw; (try dsimp only at hSw); go_split_ands; go_simp; try with_reducible rfl)
  try simp only [List.getElem_toArray, List.getElem_cons_succ, List.getElem_cons_zero, Act.put, List.setIfInBounds_toArray, List.set_cons_zero, List.set_cons_succ]
  refine wpAnyH_take (i := 6) (v := ?v6_7) rfl (by kernel_rfl) (by kernel_rfl) (by kernel_rfl) (fun _ _ _ h => h) (Or.inl ⟨by rfl, ?y6_7⟩) hHeld ?r6_7
  case y6_7 => (intro w hSw; (try dsimp only at hSw); go_split_ands; go_simp; try with_reducible rfl)
  try simp only [List.getElem_toArray, List.getElem_cons_succ, List.getElem_cons_zero, Act.put, List.setIfInBounds_toArray, List.set_cons_zero, List.set_cons_succ]
  refine wpAnyH_take (i := 8) (v := ?v8_8) rfl (by kernel_rfl) (by kernel_rfl) (by kernel_rfl) (fun _ _ _ h => h) (Or.inl ⟨by rfl, ?y8_8⟩) hHeld ?r8_8
  case y8_8 => (intro w hSw; (try dsimp only at hSw); go_split_ands; go_simp; try with_reducible rfl)
  try simp only [List.getElem_toArray, List.getElem_cons_succ, List.getElem_cons_zero, Act.put, List.setIfInBounds_toArray, List.set_cons_zero, List.set_cons_succ]
  refine wpAnyH_take (i := 9) (v := ?v9_9) rfl (by kernel_rfl) (by kernel_rfl) (by kernel_rfl) (fun _ _ _ h => h) (Or.inl ⟨by rfl, ?y9_9⟩) hHeld ?r9_9
  case y9_9 => (intro w hSw; (try dsimp only at hSw); go_split_ands; go_simp; try with_reducible rfl)
  try simp only [List.getElem_toArray, List.getElem_cons_succ, List.getElem_cons_zero, Act.put, List.setIfInBounds_toArray, List.set_cons_zero, List.set_cons_succ]
  refine wpAnyH_take (i := 10) (v := ?v10_10) rfl (by kernel_rfl) (by kernel_rfl) (by kernel_rfl) (fun _ _ _ h => h) (Or.inl ⟨by rfl, ?y10_10⟩) hHeld ?r10_10
  case y10_10 => (intro w hSw; (try dsimp only at hSw); go_split_ands; go_simp; try with_reducible rfl)
  try simp only [List.getElem_toArray, List.getElem_cons_succ, List.getElem_cons_zero, Act.put, List.setIfInBounds_toArray, List.set_cons_zero, List.set_cons_succ]
  refine wpAnyH_take (i := 11) (v := ?v11_11) rfl (by kernel_rfl) (by kernel_rfl) (by kernel_rfl) (fun _ _ _ h => h) (Or.inl ⟨by rfl, ?y11_11⟩) hHeld ?r11_11
  case y11_11 => (intro w hSw; (try dsimp only at hSw); go_split_ands; go_simp; try with_reducible rfl)
  try simp only [List.getElem_toArray, List.getElem_cons_succ, List.getElem_cons_zero, Act.put, List.setIfInBounds_toArray, List.set_cons_zero, List.set_cons_succ]
  refine wpAnyH_take (i := 12) (v := ?v12_12) rfl (by kernel_rfl) (by kernel_rfl) (by kernel_rfl) (fun _ _ _ h => h) (Or.inl ⟨by rfl, ?y12_12⟩) hHeld ?r12_12
  case y12_12 => (intro w hSw; (try dsimp only at hSw); go_split_ands; go_simp; try with_reducible rfl)
  try simp only [List.getElem_toArray, List.getElem_cons_succ, List.getElem_cons_zero, Act.put, List.setIfInBounds_toArray, List.set_cons_zero, List.set_cons_succ]
  refine wpAnyH_ready (rs := [7, 14]) (by kernel_rfl) (by simp) ?_
  refine AllReadyH.cons rfl (fun K hK => ?_) (AllReadyH.cons rfl (fun K hK => ?_) (AllReadyH.nil))
  · have hHeld' := hHeld
    try dsimp only at hHeld'
    go_split_ands
    go_simp
    refine (NW.out _ hbd.out).mono ?_
    rintro e w' ⟨rfl, rfl⟩
    refine hK.out _ _ ?_ (fun hHeld => ?_)
    · exact (cell_at hAd.out 1)
    clear hK K
    try simp only [List.getElem_toArray, List.getElem_cons_succ, List.getElem_cons_zero, Act.put, List.setIfInBounds_toArray, List.set_cons_zero, List.set_cons_succ]
    refine wpAnyH_take (i := 13) (v := ?v13_13) rfl (by kernel_rfl) (by kernel_rfl) (by kernel_rfl) (fun _ _ _ h => h) (Or.inl ⟨by rfl, ?y13_13⟩) hHeld ?r13_13
    case y13_13 => (intro w hSw; (try dsimp only at hSw); go_split_ands; go_simp; try with_reducible rfl)
    try simp only [List.getElem_toArray, List.getElem_cons_succ, List.getElem_cons_zero, Act.put, List.setIfInBounds_toArray, List.set_cons_zero, List.set_cons_succ]
    refine wpAnyH_ready (rs := [14]) (by kernel_rfl) (by simp) ?_
    refine AllReadyH.cons rfl (fun K hK => ?_) AllReadyH.nil
    have hHeld' := hHeld
    try dsimp only at hHeld'
    go_split_ands
    go_simp
    refine hK.out _ _ ?_ (fun hHeld => ?_)
    · exact (cell_at hAe.out 1)
    clear hK K
    try simp only [List.getElem_toArray, List.getElem_cons_succ, List.getElem_cons_zero, Act.put, List.setIfInBounds_toArray, List.set_cons_zero, List.set_cons_succ]
    refine wpAnyH_ready (rs := [15]) (by kernel_rfl) (by simp) ?_
    refine AllReadyH.cons rfl (fun K hK => ?_) AllReadyH.nil
    have hHeld' := hHeld
    try dsimp only at hHeld'
    go_split_ands
    go_simp
    replace hw3 := hw3.out
    have hw3 : (wa.alloc (.cells #[Value.int IntKind.i64 ((L : Int) + 1), Value.int IntKind.i64 ((M : Int) + 1), Value.int IntKind.i64 v, Value.int IntKind.i64 now, Value.int IntKind.i64 (now + life)] 24)).drew = w3 := hw3
    rw [hw3]
    clear z0 z1 z2 z3 z4 zf k1 hw3
    refine hK.out _ _ ?_ (fun hHeld => ?_)
    · exact (cell_at hA3.out 1)
    clear hK K
    try simp only [List.getElem_toArray, List.getElem_cons_succ, List.getElem_cons_zero, Act.put, List.setIfInBounds_toArray, List.set_cons_zero, List.set_cons_succ]
    refine wpAnyH_done (by kernel_rfl) ?_ _
    go_wp2_with fail
    refine wp_region_held_drew (S := fun w' => w'.cell? ⟨y + 1, 0, none⟩ = some (I ((L : Int) + 1)) ∧ w'.cell? ⟨y + 1, 1, none⟩ = some (I ((M : Int) + 1)) ∧ w'.cell? ⟨y + 1, 2, none⟩ = some (I v) ∧ w'.cell? ⟨y + 1, 3, none⟩ = some (I now) ∧ w'.cell? ⟨y + 1, 4, none⟩ = some (I (now + life))) (by kernel_rfl) ?_ (fun hHeld => ?_)
    · exact five hY4.out
    refine wpAnyH_take (i := 0) (v := ?v0_14) rfl (by kernel_rfl) (by kernel_rfl) (by kernel_rfl) (fun _ _ _ h => h) (Or.inl ⟨by rfl, ?y0_14⟩) hHeld ?r0_14
    case y0_14 => (intro w hSw; (try dsimp only at hSw); go_split_ands; go_simp; try with_reducible rfl)
    try simp only [List.getElem_toArray, List.getElem_cons_succ, List.getElem_cons_zero, Act.put, List.setIfInBounds_toArray, List.set_cons_zero, List.set_cons_succ]
    refine wpAnyH_take (i := 1) (v := ?v1_15) rfl (by kernel_rfl) (by kernel_rfl) (by kernel_rfl) (fun _ _ _ h => h) (Or.inl ⟨by rfl, ?y1_15⟩) hHeld ?r1_15
    case y1_15 => (intro w hSw; (try dsimp only at hSw); go_split_ands; go_simp; try with_reducible rfl)
    try simp only [List.getElem_toArray, List.getElem_cons_succ, List.getElem_cons_zero, Act.put, List.setIfInBounds_toArray, List.set_cons_zero, List.set_cons_succ]
    refine wpAnyH_take (i := 2) (v := ?v2_16) rfl (by kernel_rfl) (by kernel_rfl) (by kernel_rfl) (fun _ _ _ h => h) (Or.inl ⟨by rfl, ?y2_16⟩) hHeld ?r2_16
    case y2_16 => (intro w hSw; (try dsimp only at hSw); go_split_ands; go_simp; try with_reducible rfl)
    try simp only [List.getElem_toArray, List.getElem_cons_succ, List.getElem_cons_zero, Act.put, List.setIfInBounds_toArray, List.set_cons_zero, List.set_cons_succ]
    refine wpAnyH_take (i := 3) (v := ?v3_17) rfl (by kernel_rfl) (by kernel_rfl) (by kernel_rfl) (fun _ _ _ h => h) (Or.inl ⟨by rfl, ?y3_17⟩) hHeld ?r3_17
    case y3_17 => (intro w hSw; (try dsimp only at hSw); go_split_ands; go_simp; try with_reducible rfl)
    try simp only [List.getElem_toArray, List.getElem_cons_succ, List.getElem_cons_zero, Act.put, List.setIfInBounds_toArray, List.set_cons_zero, List.set_cons_succ]
    refine wpAnyH_take (i := 5) (v := ?v5_18) rfl (by kernel_rfl) (by kernel_rfl) (by kernel_rfl) (fun _ _ _ h => h) (Or.inl ⟨by rfl, ?y5_18⟩) hHeld ?r5_18
    case y5_18 => (intro w hSw; (try dsimp only at hSw); go_split_ands; go_simp; try with_reducible rfl)
    try simp only [List.getElem_toArray, List.getElem_cons_succ, List.getElem_cons_zero, Act.put, List.setIfInBounds_toArray, List.set_cons_zero, List.set_cons_succ]
    have c4 := cell_at hA4.out 1
    have c5 := cell_at hA5.out 1
    simp only [List.getElem?_toArray, List.getElem?_cons_succ, List.getElem?_cons_zero] at c4 c5
    refine wpAnyH_ready (rs := [4, 6]) (by kernel_rfl) (by simp) ?_
    refine AllReadyH.cons rfl (fun K hK => ?_) (AllReadyH.cons rfl (fun K hK => ?_) (AllReadyH.nil))
    · have hHeld' := hHeld
      try dsimp only at hHeld'
      go_split_ands
      go_simp
      refine hK.out _ _ ?_ (fun hHeld => ?_)
      · exact five hY4.out
      clear hK K
      try simp only [List.getElem_toArray, List.getElem_cons_succ, List.getElem_cons_zero, Act.put, List.setIfInBounds_toArray, List.set_cons_zero, List.set_cons_succ]
      refine wpAnyH_ready (rs := [6]) (by kernel_rfl) (by simp) ?_
      refine AllReadyH.cons rfl (fun K hK => ?_) AllReadyH.nil
      have hHeld' := hHeld
      try dsimp only at hHeld'
      go_split_ands
      go_simp
      refine hK.out _ _ ?_ (fun hHeld => ?_)
      · exact five hY5.out
      clear hK K
      try simp only [List.getElem_toArray, List.getElem_cons_succ, List.getElem_cons_zero, Act.put, List.setIfInBounds_toArray, List.set_cons_zero, List.set_cons_succ]
      refine wpAnyH_ready (rs := [7]) (by kernel_rfl) (by simp) ?_
      refine AllReadyH.cons rfl (fun K hK => ?_) AllReadyH.nil
      refine step_append_rec rfl (.tmp 28) (.tmp 30) 26 rfl 0 24 iu (.agg #[I 0, I 0, I 0, I 0, I 0]) 5 40 Try.underlying26 hiu zu0 zu1 zu2 rfl (by decide) _ L (flatB cB G) (by first | rfl | simp [Act.eval, Act.put]) hown4.out #[I ((L : Int) + 1), I ((M : Int) + 1), I v, I now, I (now + life)] _ rfl (by intro u hu; simp at hu; rcases hu with rfl | rfl | rfl | rfl | rfl <;> rfl) 1 (by first | rfl | simp [Act.eval, Act.put]) (by omega) (by omega) (by omega) ?_
      intro b' cap' w7 hown' hgrow hbn
      have hA7 := blk_row hA4.out hgrow (own_apart hown4.out hA4.out (by decide))
      have hU7 := World.ownsRow.kept (own_below h2.out hb4.out) hgrow (own_apart2 (own_below h2.out hb4.out) hown4.out (by decide))
      have hM7 := (h4.out.bl hb4.out).row hgrow (by obtain ⟨es, cl, hm, -⟩ := h4.out.bl hb4.out; exact own_map hown4.out hm)
      have hY7 := blk_row hY4.out hgrow (fun e => by have := (h3'.out.lt _ e).2; omega)
      have f7 := free_at hA7 1
      have c7 := cell_at hA7 1
      simp only [List.getElem?_toArray, List.getElem?_cons_succ, List.getElem?_cons_zero] at c7
      have hZ7 := blk_row hZ4.out hgrow (fun e => by have := (h3'.out.lt _ e).2; omega)
      have hT7 : Tch ks w w7 := (Tch.bl hb4.out).row hgrow (fun k hk => Or.inl (k8 k hk))
      refine hK.out _ _ ?_ (fun hHeld => ?_)
      · exact five hY7
      clear hK K
      try simp only [List.getElem_toArray, List.getElem_cons_succ, List.getElem_cons_zero, Act.put, List.setIfInBounds_toArray, List.set_cons_zero, List.set_cons_succ]
      refine wpAnyH_take (i := 8) (v := ?v8_19) rfl (by kernel_rfl) (by kernel_rfl) (by kernel_rfl) (fun _ _ _ h => h) (Or.inl ⟨by rfl, ?y8_19⟩) hHeld ?r8_19
      case y8_19 => (intro w hSw; (try dsimp only at hSw); go_split_ands; go_simp; try with_reducible rfl)
      try simp only [List.getElem_toArray, List.getElem_cons_succ, List.getElem_cons_zero, Act.put, List.setIfInBounds_toArray, List.set_cons_zero, List.set_cons_succ]
      refine wpAnyH_take (i := 9) (v := ?v9_20) rfl (by kernel_rfl) (by kernel_rfl) (by kernel_rfl) (fun _ _ _ h => h) (Or.inl ⟨by rfl, ?y9_20⟩) hHeld ?r9_20
      case y9_20 => (intro w hSw; (try dsimp only at hSw); go_split_ands; go_simp; try with_reducible rfl)
      try simp only [List.getElem_toArray, List.getElem_cons_succ, List.getElem_cons_zero, Act.put, List.setIfInBounds_toArray, List.set_cons_zero, List.set_cons_succ]
      refine wpAnyH_ready (rs := [10]) (by kernel_rfl) (by simp) ?_
      refine AllReadyH.cons rfl (fun K hK => ?_) AllReadyH.nil
      have hHeld' := hHeld
      try dsimp only at hHeld'
      go_split_ands
      go_simp
      have g8 := gby_set w7 p 1 (.slice (some ⟨b', 0, none⟩) (L + 1) cap')
      have hA8 := set_at 1 (.slice (some ⟨b', 0, none⟩) (L + 1) cap') hA7
      have hY8 := blk_gby hY7 g8 (by omega)
      have hZ8 := blk_gby hZ7 g8 (by omega)
      have hU8 := World.ownsRow.kept hU7 g8 (Or.inr (own_apart hU7 hA7 (by decide)))
      have hG8 := World.ownsRow.kept hown' g8 (Or.inr (own_apart hown' hA7 (by decide)))
      have hM8 := hM7.row g8 (fun e => hmp (by cases e; rfl))
      have hT8 := hT7.tr (Tch.gby g8 h5)
      obtain ⟨w8, hw8⟩ : ∃ z_, (w7.setCell ⟨p, 1, none⟩ (.slice (some ⟨b', 0, none⟩) (L + 1) cap')) = z_ := ⟨_, rfl⟩
      rw [hw8] at hA8 hY8 hZ8 hU8 hG8 hM8 hT8
      rw [hw8]
      clear hw8 g8 hA7 hY7 hZ7 hU7 hM7 hT7 hown' hgrow f7 c7
      simp only [List.setIfInBounds_toArray, List.set_cons_zero, List.set_cons_succ] at hA8
      refine hK.out _ _ ?_ (fun hHeld => ?_)
      · exact five hY8
      clear hK K
      try simp only [List.getElem_toArray, List.getElem_cons_succ, List.getElem_cons_zero, Act.put, List.setIfInBounds_toArray, List.set_cons_zero, List.set_cons_succ]
      refine wpAnyH_done (by kernel_rfl) ?_ _
      obtain ⟨z0, z1, z2, z3, z4⟩ := five hY8
      obtain ⟨x0, x1, x2, x3, x4⟩ := five hZ8
      have xf := free_at hZ8
      have s9 := set_at 4 (I (now + life)) (set_at 3 (I now) (set_at 2 (I v) (set_at 1 (I ((M : Int) + 1)) (set_at 0 (I ((L : Int) + 1)) hZ8))))
      simp only [List.setIfInBounds_toArray, List.set_cons_zero, List.set_cons_succ] at s9
      have g9 := gby_tr (gby_tr (gby_tr (gby_tr (gby_set w8 y 0 (I ((L : Int) + 1))) (gby_set _ y 1 (I ((M : Int) + 1)))) (gby_set _ y 2 (I v))) (gby_set _ y 3 (I now))) (gby_set _ y 4 (I (now + life)))
      have hby : b' ≠ y := not_zero (flatB_len cB_len G |>.trans (by rw [hL'.out])) hG8 hZ8
      have hq9 : ks b' ∨ w.heap.size ≤ b' := by
        rcases hbn with h | h
        · exact Or.inl (k8 _ h)
        · exact Or.inr (by have := hb4.out.size; omega)
      have hfin := ca_fin (ks := ks) (w := w) hL'.out hA8 hU8 hG8 hM8 h5 h6 k7 hq9 hZ8 hby (by omega) g9
      have hT9 := hT8.new g9 (by omega)
      obtain ⟨r0, r1, r2, r3, r4⟩ := five s9
      replace hfin := Lib.hid hfin
      replace r0 := Lib.hid r0
      replace r1 := Lib.hid r1
      replace r2 := Lib.hid r2
      replace r3 := Lib.hid r3
      replace r4 := Lib.hid r4
      replace hT9 := Lib.hid hT9
      clear hU8 hG8 hM8 hA8 hY8 s9 g9 hT8
      go_wp2_with fail
      have r0 := r0.out; have r1 := r1.out; have r2 := r2.out; have r3 := r3.out; have r4 := r4.out
      refine bodyPost_ret (v := cv ⟨(L : Int) + 1, (M : Int) + 1, v, now, now + life⟩) (by simp [results, Try.results12, go_sem, r0, r1, r2, r3, r4]) rfl ⟨rfl, hfin.out, hT9.out⟩
    · have hHeld' := hHeld
      try dsimp only at hHeld'
      go_split_ands
      go_simp
      refine hK.out _ _ ?_ (fun hHeld => ?_)
      · exact five hY5.out
      clear hK K
      try simp only [List.getElem_toArray, List.getElem_cons_succ, List.getElem_cons_zero, Act.put, List.setIfInBounds_toArray, List.set_cons_zero, List.set_cons_succ]
      refine wpAnyH_ready (rs := [4]) (by kernel_rfl) (by simp) ?_
      refine AllReadyH.cons rfl (fun K hK => ?_) AllReadyH.nil
      have hHeld' := hHeld
      try dsimp only at hHeld'
      go_split_ands
      go_simp
      refine hK.out _ _ ?_ (fun hHeld => ?_)
      · exact five hY5.out
      clear hK K
      try simp only [List.getElem_toArray, List.getElem_cons_succ, List.getElem_cons_zero, Act.put, List.setIfInBounds_toArray, List.set_cons_zero, List.set_cons_succ]
      refine wpAnyH_ready (rs := [7]) (by kernel_rfl) (by simp) ?_
      refine AllReadyH.cons rfl (fun K hK => ?_) AllReadyH.nil
      refine step_append_rec rfl (.tmp 28) (.tmp 30) 26 rfl 0 24 iu (.agg #[I 0, I 0, I 0, I 0, I 0]) 5 40 Try.underlying26 hiu zu0 zu1 zu2 rfl (by decide) _ L (flatB cB G) (by first | rfl | simp [Act.eval, Act.put]) hown4.out #[I ((L : Int) + 1), I ((M : Int) + 1), I v, I now, I (now + life)] _ rfl (by intro u hu; simp at hu; rcases hu with rfl | rfl | rfl | rfl | rfl <;> rfl) 1 (by first | rfl | simp [Act.eval, Act.put]) (by omega) (by omega) (by omega) ?_
      intro b' cap' w7 hown' hgrow hbn
      have hA7 := blk_row hA4.out hgrow (own_apart hown4.out hA4.out (by decide))
      have hU7 := World.ownsRow.kept (own_below h2.out hb4.out) hgrow (own_apart2 (own_below h2.out hb4.out) hown4.out (by decide))
      have hM7 := (h4.out.bl hb4.out).row hgrow (by obtain ⟨es, cl, hm, -⟩ := h4.out.bl hb4.out; exact own_map hown4.out hm)
      have hY7 := blk_row hY4.out hgrow (fun e => by have := (h3'.out.lt _ e).2; omega)
      have f7 := free_at hA7 1
      have c7 := cell_at hA7 1
      simp only [List.getElem?_toArray, List.getElem?_cons_succ, List.getElem?_cons_zero] at c7
      have hZ7 := blk_row hZ4.out hgrow (fun e => by have := (h3'.out.lt _ e).2; omega)
      have hT7 : Tch ks w w7 := (Tch.bl hb4.out).row hgrow (fun k hk => Or.inl (k8 k hk))
      refine hK.out _ _ ?_ (fun hHeld => ?_)
      · exact five hY7
      clear hK K
      try simp only [List.getElem_toArray, List.getElem_cons_succ, List.getElem_cons_zero, Act.put, List.setIfInBounds_toArray, List.set_cons_zero, List.set_cons_succ]
      refine wpAnyH_take (i := 8) (v := ?v8_21) rfl (by kernel_rfl) (by kernel_rfl) (by kernel_rfl) (fun _ _ _ h => h) (Or.inl ⟨by rfl, ?y8_21⟩) hHeld ?r8_21
      case y8_21 => (intro w hSw; (try dsimp only at hSw); go_split_ands; go_simp; try with_reducible rfl)
      try simp only [List.getElem_toArray, List.getElem_cons_succ, List.getElem_cons_zero, Act.put, List.setIfInBounds_toArray, List.set_cons_zero, List.set_cons_succ]
      refine wpAnyH_take (i := 9) (v := ?v9_22) rfl (by kernel_rfl) (by kernel_rfl) (by kernel_rfl) (fun _ _ _ h => h) (Or.inl ⟨by rfl, ?y9_22⟩) hHeld ?r9_22
      case y9_22 => (intro w hSw; (try dsimp only at hSw); go_split_ands; go_simp; try with_reducible rfl)
      try simp only [List.getElem_toArray, List.getElem_cons_succ, List.getElem_cons_zero, Act.put, List.setIfInBounds_toArray, List.set_cons_zero, List.set_cons_succ]
      refine wpAnyH_ready (rs := [10]) (by kernel_rfl) (by simp) ?_
      refine AllReadyH.cons rfl (fun K hK => ?_) AllReadyH.nil
      have hHeld' := hHeld
      try dsimp only at hHeld'
      go_split_ands
      go_simp
      have g8 := gby_set w7 p 1 (.slice (some ⟨b', 0, none⟩) (L + 1) cap')
      have hA8 := set_at 1 (.slice (some ⟨b', 0, none⟩) (L + 1) cap') hA7
      have hY8 := blk_gby hY7 g8 (by omega)
      have hZ8 := blk_gby hZ7 g8 (by omega)
      have hU8 := World.ownsRow.kept hU7 g8 (Or.inr (own_apart hU7 hA7 (by decide)))
      have hG8 := World.ownsRow.kept hown' g8 (Or.inr (own_apart hown' hA7 (by decide)))
      have hM8 := hM7.row g8 (fun e => hmp (by cases e; rfl))
      have hT8 := hT7.tr (Tch.gby g8 h5)
      obtain ⟨w8, hw8⟩ : ∃ z_, (w7.setCell ⟨p, 1, none⟩ (.slice (some ⟨b', 0, none⟩) (L + 1) cap')) = z_ := ⟨_, rfl⟩
      rw [hw8] at hA8 hY8 hZ8 hU8 hG8 hM8 hT8
      rw [hw8]
      clear hw8 g8 hA7 hY7 hZ7 hU7 hM7 hT7 hown' hgrow f7 c7
      simp only [List.setIfInBounds_toArray, List.set_cons_zero, List.set_cons_succ] at hA8
      refine hK.out _ _ ?_ (fun hHeld => ?_)
      · exact five hY8
      clear hK K
      try simp only [List.getElem_toArray, List.getElem_cons_succ, List.getElem_cons_zero, Act.put, List.setIfInBounds_toArray, List.set_cons_zero, List.set_cons_succ]
      refine wpAnyH_done (by kernel_rfl) ?_ _
      obtain ⟨z0, z1, z2, z3, z4⟩ := five hY8
      obtain ⟨x0, x1, x2, x3, x4⟩ := five hZ8
      have xf := free_at hZ8
      have s9 := set_at 4 (I (now + life)) (set_at 3 (I now) (set_at 2 (I v) (set_at 1 (I ((M : Int) + 1)) (set_at 0 (I ((L : Int) + 1)) hZ8))))
      simp only [List.setIfInBounds_toArray, List.set_cons_zero, List.set_cons_succ] at s9
      have g9 := gby_tr (gby_tr (gby_tr (gby_tr (gby_set w8 y 0 (I ((L : Int) + 1))) (gby_set _ y 1 (I ((M : Int) + 1)))) (gby_set _ y 2 (I v))) (gby_set _ y 3 (I now))) (gby_set _ y 4 (I (now + life)))
      have hby : b' ≠ y := not_zero (flatB_len cB_len G |>.trans (by rw [hL'.out])) hG8 hZ8
      have hq9 : ks b' ∨ w.heap.size ≤ b' := by
        rcases hbn with h | h
        · exact Or.inl (k8 _ h)
        · exact Or.inr (by have := hb4.out.size; omega)
      have hfin := ca_fin (ks := ks) (w := w) hL'.out hA8 hU8 hG8 hM8 h5 h6 k7 hq9 hZ8 hby (by omega) g9
      have hT9 := hT8.new g9 (by omega)
      obtain ⟨r0, r1, r2, r3, r4⟩ := five s9
      replace hfin := Lib.hid hfin
      replace r0 := Lib.hid r0
      replace r1 := Lib.hid r1
      replace r2 := Lib.hid r2
      replace r3 := Lib.hid r3
      replace r4 := Lib.hid r4
      replace hT9 := Lib.hid hT9
      clear hU8 hG8 hM8 hA8 hY8 s9 g9 hT8
      go_wp2_with fail
      have r0 := r0.out; have r1 := r1.out; have r2 := r2.out; have r3 := r3.out; have r4 := r4.out
      refine bodyPost_ret (v := cv ⟨(L : Int) + 1, (M : Int) + 1, v, now, now + life⟩) (by simp [results, Try.results12, go_sem, r0, r1, r2, r3, r4]) rfl ⟨rfl, hfin.out, hT9.out⟩
  · have hHeld' := hHeld
    try dsimp only at hHeld'
    go_split_ands
    go_simp
    refine hK.out _ _ ?_ (fun hHeld => ?_)
    · exact (cell_at hAe.out 1)
    clear hK K
    try simp only [List.getElem_toArray, List.getElem_cons_succ, List.getElem_cons_zero, Act.put, List.setIfInBounds_toArray, List.set_cons_zero, List.set_cons_succ]
    refine wpAnyH_ready (rs := [7]) (by kernel_rfl) (by simp) ?_
    refine AllReadyH.cons rfl (fun K hK => ?_) AllReadyH.nil
    have hHeld' := hHeld
    try dsimp only at hHeld'
    go_split_ands
    go_simp
    refine (NW.out _ hbe.out).mono ?_
    rintro e w' ⟨rfl, rfl⟩
    refine hK.out _ _ ?_ (fun hHeld => ?_)
    · exact (cell_at hAe.out 1)
    clear hK K
    try simp only [List.getElem_toArray, List.getElem_cons_succ, List.getElem_cons_zero, Act.put, List.setIfInBounds_toArray, List.set_cons_zero, List.set_cons_succ]
    refine wpAnyH_take (i := 13) (v := ?v13_23) rfl (by kernel_rfl) (by kernel_rfl) (by kernel_rfl) (fun _ _ _ h => h) (Or.inl ⟨by rfl, ?y13_23⟩) hHeld ?r13_23
    case y13_23 => (intro w hSw; (try dsimp only at hSw); go_split_ands; go_simp; try with_reducible rfl)
    try simp only [List.getElem_toArray, List.getElem_cons_succ, List.getElem_cons_zero, Act.put, List.setIfInBounds_toArray, List.set_cons_zero, List.set_cons_succ]
    refine wpAnyH_ready (rs := [15]) (by kernel_rfl) (by simp) ?_
    refine AllReadyH.cons rfl (fun K hK => ?_) AllReadyH.nil
    have hHeld' := hHeld
    try dsimp only at hHeld'
    go_split_ands
    go_simp
    replace hw3 := hw3.out
    have hw3 : (wa.alloc (.cells #[Value.int IntKind.i64 ((L : Int) + 1), Value.int IntKind.i64 ((M : Int) + 1), Value.int IntKind.i64 v, Value.int IntKind.i64 now, Value.int IntKind.i64 (now + life)] 24)).drew = w3 := hw3
    rw [hw3]
    clear z0 z1 z2 z3 z4 zf k1 hw3
    refine hK.out _ _ ?_ (fun hHeld => ?_)
    · exact (cell_at hA3.out 1)
    clear hK K
    try simp only [List.getElem_toArray, List.getElem_cons_succ, List.getElem_cons_zero, Act.put, List.setIfInBounds_toArray, List.set_cons_zero, List.set_cons_succ]
    refine wpAnyH_done (by kernel_rfl) ?_ _
    go_wp2_with fail
    refine wp_region_held_drew (S := fun w' => w'.cell? ⟨y + 1, 0, none⟩ = some (I ((L : Int) + 1)) ∧ w'.cell? ⟨y + 1, 1, none⟩ = some (I ((M : Int) + 1)) ∧ w'.cell? ⟨y + 1, 2, none⟩ = some (I v) ∧ w'.cell? ⟨y + 1, 3, none⟩ = some (I now) ∧ w'.cell? ⟨y + 1, 4, none⟩ = some (I (now + life))) (by kernel_rfl) ?_ (fun hHeld => ?_)
    · exact five hY4.out
    refine wpAnyH_take (i := 0) (v := ?v0_24) rfl (by kernel_rfl) (by kernel_rfl) (by kernel_rfl) (fun _ _ _ h => h) (Or.inl ⟨by rfl, ?y0_24⟩) hHeld ?r0_24
    case y0_24 => (intro w hSw; (try dsimp only at hSw); go_split_ands; go_simp; try with_reducible rfl)
    try simp only [List.getElem_toArray, List.getElem_cons_succ, List.getElem_cons_zero, Act.put, List.setIfInBounds_toArray, List.set_cons_zero, List.set_cons_succ]
    refine wpAnyH_take (i := 1) (v := ?v1_25) rfl (by kernel_rfl) (by kernel_rfl) (by kernel_rfl) (fun _ _ _ h => h) (Or.inl ⟨by rfl, ?y1_25⟩) hHeld ?r1_25
    case y1_25 => (intro w hSw; (try dsimp only at hSw); go_split_ands; go_simp; try with_reducible rfl)
    try simp only [List.getElem_toArray, List.getElem_cons_succ, List.getElem_cons_zero, Act.put, List.setIfInBounds_toArray, List.set_cons_zero, List.set_cons_succ]
    refine wpAnyH_take (i := 2) (v := ?v2_26) rfl (by kernel_rfl) (by kernel_rfl) (by kernel_rfl) (fun _ _ _ h => h) (Or.inl ⟨by rfl, ?y2_26⟩) hHeld ?r2_26
    case y2_26 => (intro w hSw; (try dsimp only at hSw); go_split_ands; go_simp; try with_reducible rfl)
    try simp only [List.getElem_toArray, List.getElem_cons_succ, List.getElem_cons_zero, Act.put, List.setIfInBounds_toArray, List.set_cons_zero, List.set_cons_succ]
    refine wpAnyH_take (i := 3) (v := ?v3_27) rfl (by kernel_rfl) (by kernel_rfl) (by kernel_rfl) (fun _ _ _ h => h) (Or.inl ⟨by rfl, ?y3_27⟩) hHeld ?r3_27
    case y3_27 => (intro w hSw; (try dsimp only at hSw); go_split_ands; go_simp; try with_reducible rfl)
    try simp only [List.getElem_toArray, List.getElem_cons_succ, List.getElem_cons_zero, Act.put, List.setIfInBounds_toArray, List.set_cons_zero, List.set_cons_succ]
    refine wpAnyH_take (i := 5) (v := ?v5_28) rfl (by kernel_rfl) (by kernel_rfl) (by kernel_rfl) (fun _ _ _ h => h) (Or.inl ⟨by rfl, ?y5_28⟩) hHeld ?r5_28
    case y5_28 => (intro w hSw; (try dsimp only at hSw); go_split_ands; go_simp; try with_reducible rfl)
    try simp only [List.getElem_toArray, List.getElem_cons_succ, List.getElem_cons_zero, Act.put, List.setIfInBounds_toArray, List.set_cons_zero, List.set_cons_succ]
    have c4 := cell_at hA4.out 1
    have c5 := cell_at hA5.out 1
    simp only [List.getElem?_toArray, List.getElem?_cons_succ, List.getElem?_cons_zero] at c4 c5
    refine wpAnyH_ready (rs := [4, 6]) (by kernel_rfl) (by simp) ?_
    refine AllReadyH.cons rfl (fun K hK => ?_) (AllReadyH.cons rfl (fun K hK => ?_) (AllReadyH.nil))
    · have hHeld' := hHeld
      try dsimp only at hHeld'
      go_split_ands
      go_simp
      refine hK.out _ _ ?_ (fun hHeld => ?_)
      · exact five hY4.out
      clear hK K
      try simp only [List.getElem_toArray, List.getElem_cons_succ, List.getElem_cons_zero, Act.put, List.setIfInBounds_toArray, List.set_cons_zero, List.set_cons_succ]
      refine wpAnyH_ready (rs := [6]) (by kernel_rfl) (by simp) ?_
      refine AllReadyH.cons rfl (fun K hK => ?_) AllReadyH.nil
      have hHeld' := hHeld
      try dsimp only at hHeld'
      go_split_ands
      go_simp
      refine hK.out _ _ ?_ (fun hHeld => ?_)
      · exact five hY5.out
      clear hK K
      try simp only [List.getElem_toArray, List.getElem_cons_succ, List.getElem_cons_zero, Act.put, List.setIfInBounds_toArray, List.set_cons_zero, List.set_cons_succ]
      refine wpAnyH_ready (rs := [7]) (by kernel_rfl) (by simp) ?_
      refine AllReadyH.cons rfl (fun K hK => ?_) AllReadyH.nil
      refine step_append_rec rfl (.tmp 28) (.tmp 30) 26 rfl 0 24 iu (.agg #[I 0, I 0, I 0, I 0, I 0]) 5 40 Try.underlying26 hiu zu0 zu1 zu2 rfl (by decide) _ L (flatB cB G) (by first | rfl | simp [Act.eval, Act.put]) hown4.out #[I ((L : Int) + 1), I ((M : Int) + 1), I v, I now, I (now + life)] _ rfl (by intro u hu; simp at hu; rcases hu with rfl | rfl | rfl | rfl | rfl <;> rfl) 1 (by first | rfl | simp [Act.eval, Act.put]) (by omega) (by omega) (by omega) ?_
      intro b' cap' w7 hown' hgrow hbn
      have hA7 := blk_row hA4.out hgrow (own_apart hown4.out hA4.out (by decide))
      have hU7 := World.ownsRow.kept (own_below h2.out hb4.out) hgrow (own_apart2 (own_below h2.out hb4.out) hown4.out (by decide))
      have hM7 := (h4.out.bl hb4.out).row hgrow (by obtain ⟨es, cl, hm, -⟩ := h4.out.bl hb4.out; exact own_map hown4.out hm)
      have hY7 := blk_row hY4.out hgrow (fun e => by have := (h3'.out.lt _ e).2; omega)
      have f7 := free_at hA7 1
      have c7 := cell_at hA7 1
      simp only [List.getElem?_toArray, List.getElem?_cons_succ, List.getElem?_cons_zero] at c7
      have hZ7 := blk_row hZ4.out hgrow (fun e => by have := (h3'.out.lt _ e).2; omega)
      have hT7 : Tch ks w w7 := (Tch.bl hb4.out).row hgrow (fun k hk => Or.inl (k8 k hk))
      refine hK.out _ _ ?_ (fun hHeld => ?_)
      · exact five hY7
      clear hK K
      try simp only [List.getElem_toArray, List.getElem_cons_succ, List.getElem_cons_zero, Act.put, List.setIfInBounds_toArray, List.set_cons_zero, List.set_cons_succ]
      refine wpAnyH_take (i := 8) (v := ?v8_29) rfl (by kernel_rfl) (by kernel_rfl) (by kernel_rfl) (fun _ _ _ h => h) (Or.inl ⟨by rfl, ?y8_29⟩) hHeld ?r8_29
      case y8_29 => (intro w hSw; (try dsimp only at hSw); go_split_ands; go_simp; try with_reducible rfl)
      try simp only [List.getElem_toArray, List.getElem_cons_succ, List.getElem_cons_zero, Act.put, List.setIfInBounds_toArray, List.set_cons_zero, List.set_cons_succ]
      refine wpAnyH_take (i := 9) (v := ?v9_30) rfl (by kernel_rfl) (by kernel_rfl) (by kernel_rfl) (fun _ _ _ h => h) (Or.inl ⟨by rfl, ?y9_30⟩) hHeld ?r9_30
      case y9_30 => (intro w hSw; (try dsimp only at hSw); go_split_ands; go_simp; try with_reducible rfl)
      try simp only [List.getElem_toArray, List.getElem_cons_succ, List.getElem_cons_zero, Act.put, List.setIfInBounds_toArray, List.set_cons_zero, List.set_cons_succ]
      refine wpAnyH_ready (rs := [10]) (by kernel_rfl) (by simp) ?_
      refine AllReadyH.cons rfl (fun K hK => ?_) AllReadyH.nil
      have hHeld' := hHeld
      try dsimp only at hHeld'
      go_split_ands
      go_simp
      have g8 := gby_set w7 p 1 (.slice (some ⟨b', 0, none⟩) (L + 1) cap')
      have hA8 := set_at 1 (.slice (some ⟨b', 0, none⟩) (L + 1) cap') hA7
      have hY8 := blk_gby hY7 g8 (by omega)
      have hZ8 := blk_gby hZ7 g8 (by omega)
      have hU8 := World.ownsRow.kept hU7 g8 (Or.inr (own_apart hU7 hA7 (by decide)))
      have hG8 := World.ownsRow.kept hown' g8 (Or.inr (own_apart hown' hA7 (by decide)))
      have hM8 := hM7.row g8 (fun e => hmp (by cases e; rfl))
      have hT8 := hT7.tr (Tch.gby g8 h5)
      obtain ⟨w8, hw8⟩ : ∃ z_, (w7.setCell ⟨p, 1, none⟩ (.slice (some ⟨b', 0, none⟩) (L + 1) cap')) = z_ := ⟨_, rfl⟩
      rw [hw8] at hA8 hY8 hZ8 hU8 hG8 hM8 hT8
      rw [hw8]
      clear hw8 g8 hA7 hY7 hZ7 hU7 hM7 hT7 hown' hgrow f7 c7
      simp only [List.setIfInBounds_toArray, List.set_cons_zero, List.set_cons_succ] at hA8
      refine hK.out _ _ ?_ (fun hHeld => ?_)
      · exact five hY8
      clear hK K
      try simp only [List.getElem_toArray, List.getElem_cons_succ, List.getElem_cons_zero, Act.put, List.setIfInBounds_toArray, List.set_cons_zero, List.set_cons_succ]
      refine wpAnyH_done (by kernel_rfl) ?_ _
      obtain ⟨z0, z1, z2, z3, z4⟩ := five hY8
      obtain ⟨x0, x1, x2, x3, x4⟩ := five hZ8
      have xf := free_at hZ8
      have s9 := set_at 4 (I (now + life)) (set_at 3 (I now) (set_at 2 (I v) (set_at 1 (I ((M : Int) + 1)) (set_at 0 (I ((L : Int) + 1)) hZ8))))
      simp only [List.setIfInBounds_toArray, List.set_cons_zero, List.set_cons_succ] at s9
      have g9 := gby_tr (gby_tr (gby_tr (gby_tr (gby_set w8 y 0 (I ((L : Int) + 1))) (gby_set _ y 1 (I ((M : Int) + 1)))) (gby_set _ y 2 (I v))) (gby_set _ y 3 (I now))) (gby_set _ y 4 (I (now + life)))
      have hby : b' ≠ y := not_zero (flatB_len cB_len G |>.trans (by rw [hL'.out])) hG8 hZ8
      have hq9 : ks b' ∨ w.heap.size ≤ b' := by
        rcases hbn with h | h
        · exact Or.inl (k8 _ h)
        · exact Or.inr (by have := hb4.out.size; omega)
      have hfin := ca_fin (ks := ks) (w := w) hL'.out hA8 hU8 hG8 hM8 h5 h6 k7 hq9 hZ8 hby (by omega) g9
      have hT9 := hT8.new g9 (by omega)
      obtain ⟨r0, r1, r2, r3, r4⟩ := five s9
      replace hfin := Lib.hid hfin
      replace r0 := Lib.hid r0
      replace r1 := Lib.hid r1
      replace r2 := Lib.hid r2
      replace r3 := Lib.hid r3
      replace r4 := Lib.hid r4
      replace hT9 := Lib.hid hT9
      clear hU8 hG8 hM8 hA8 hY8 s9 g9 hT8
      go_wp2_with fail
      have r0 := r0.out; have r1 := r1.out; have r2 := r2.out; have r3 := r3.out; have r4 := r4.out
      refine bodyPost_ret (v := cv ⟨(L : Int) + 1, (M : Int) + 1, v, now, now + life⟩) (by simp [results, Try.results12, go_sem, r0, r1, r2, r3, r4]) rfl ⟨rfl, hfin.out, hT9.out⟩
    · have hHeld' := hHeld
      try dsimp only at hHeld'
      go_split_ands
      go_simp
      refine hK.out _ _ ?_ (fun hHeld => ?_)
      · exact five hY5.out
      clear hK K
      try simp only [List.getElem_toArray, List.getElem_cons_succ, List.getElem_cons_zero, Act.put, List.setIfInBounds_toArray, List.set_cons_zero, List.set_cons_succ]
      refine wpAnyH_ready (rs := [4]) (by kernel_rfl) (by simp) ?_
      refine AllReadyH.cons rfl (fun K hK => ?_) AllReadyH.nil
      have hHeld' := hHeld
      try dsimp only at hHeld'
      go_split_ands
      go_simp
      refine hK.out _ _ ?_ (fun hHeld => ?_)
      · exact five hY5.out
      clear hK K
      try simp only [List.getElem_toArray, List.getElem_cons_succ, List.getElem_cons_zero, Act.put, List.setIfInBounds_toArray, List.set_cons_zero, List.set_cons_succ]
      refine wpAnyH_ready (rs := [7]) (by kernel_rfl) (by simp) ?_
      refine AllReadyH.cons rfl (fun K hK => ?_) AllReadyH.nil
      refine step_append_rec rfl (.tmp 28) (.tmp 30) 26 rfl 0 24 iu (.agg #[I 0, I 0, I 0, I 0, I 0]) 5 40 Try.underlying26 hiu zu0 zu1 zu2 rfl (by decide) _ L (flatB cB G) (by first | rfl | simp [Act.eval, Act.put]) hown4.out #[I ((L : Int) + 1), I ((M : Int) + 1), I v, I now, I (now + life)] _ rfl (by intro u hu; simp at hu; rcases hu with rfl | rfl | rfl | rfl | rfl <;> rfl) 1 (by first | rfl | simp [Act.eval, Act.put]) (by omega) (by omega) (by omega) ?_
      intro b' cap' w7 hown' hgrow hbn
      have hA7 := blk_row hA4.out hgrow (own_apart hown4.out hA4.out (by decide))
      have hU7 := World.ownsRow.kept (own_below h2.out hb4.out) hgrow (own_apart2 (own_below h2.out hb4.out) hown4.out (by decide))
      have hM7 := (h4.out.bl hb4.out).row hgrow (by obtain ⟨es, cl, hm, -⟩ := h4.out.bl hb4.out; exact own_map hown4.out hm)
      have hY7 := blk_row hY4.out hgrow (fun e => by have := (h3'.out.lt _ e).2; omega)
      have f7 := free_at hA7 1
      have c7 := cell_at hA7 1
      simp only [List.getElem?_toArray, List.getElem?_cons_succ, List.getElem?_cons_zero] at c7
      have hZ7 := blk_row hZ4.out hgrow (fun e => by have := (h3'.out.lt _ e).2; omega)
      have hT7 : Tch ks w w7 := (Tch.bl hb4.out).row hgrow (fun k hk => Or.inl (k8 k hk))
      refine hK.out _ _ ?_ (fun hHeld => ?_)
      · exact five hY7
      clear hK K
      try simp only [List.getElem_toArray, List.getElem_cons_succ, List.getElem_cons_zero, Act.put, List.setIfInBounds_toArray, List.set_cons_zero, List.set_cons_succ]
      refine wpAnyH_take (i := 8) (v := ?v8_31) rfl (by kernel_rfl) (by kernel_rfl) (by kernel_rfl) (fun _ _ _ h => h) (Or.inl ⟨by rfl, ?y8_31⟩) hHeld ?r8_31
      case y8_31 => (intro w hSw; (try dsimp only at hSw); go_split_ands; go_simp; try with_reducible rfl)
      try simp only [List.getElem_toArray, List.getElem_cons_succ, List.getElem_cons_zero, Act.put, List.setIfInBounds_toArray, List.set_cons_zero, List.set_cons_succ]
      refine wpAnyH_take (i := 9) (v := ?v9_32) rfl (by kernel_rfl) (by kernel_rfl) (by kernel_rfl) (fun _ _ _ h => h) (Or.inl ⟨by rfl, ?y9_32⟩) hHeld ?r9_32
      case y9_32 => (intro w hSw; (try dsimp only at hSw); go_split_ands; go_simp; try with_reducible rfl)
      try simp only [List.getElem_toArray, List.getElem_cons_succ, List.getElem_cons_zero, Act.put, List.setIfInBounds_toArray, List.set_cons_zero, List.set_cons_succ]
      refine wpAnyH_ready (rs := [10]) (by kernel_rfl) (by simp) ?_
      refine AllReadyH.cons rfl (fun K hK => ?_) AllReadyH.nil
      have hHeld' := hHeld
      try dsimp only at hHeld'
      go_split_ands
      go_simp
      have g8 := gby_set w7 p 1 (.slice (some ⟨b', 0, none⟩) (L + 1) cap')
      have hA8 := set_at 1 (.slice (some ⟨b', 0, none⟩) (L + 1) cap') hA7
      have hY8 := blk_gby hY7 g8 (by omega)
      have hZ8 := blk_gby hZ7 g8 (by omega)
      have hU8 := World.ownsRow.kept hU7 g8 (Or.inr (own_apart hU7 hA7 (by decide)))
      have hG8 := World.ownsRow.kept hown' g8 (Or.inr (own_apart hown' hA7 (by decide)))
      have hM8 := hM7.row g8 (fun e => hmp (by cases e; rfl))
      have hT8 := hT7.tr (Tch.gby g8 h5)
      obtain ⟨w8, hw8⟩ : ∃ z_, (w7.setCell ⟨p, 1, none⟩ (.slice (some ⟨b', 0, none⟩) (L + 1) cap')) = z_ := ⟨_, rfl⟩
      rw [hw8] at hA8 hY8 hZ8 hU8 hG8 hM8 hT8
      rw [hw8]
      clear hw8 g8 hA7 hY7 hZ7 hU7 hM7 hT7 hown' hgrow f7 c7
      simp only [List.setIfInBounds_toArray, List.set_cons_zero, List.set_cons_succ] at hA8
      refine hK.out _ _ ?_ (fun hHeld => ?_)
      · exact five hY8
      clear hK K
      try simp only [List.getElem_toArray, List.getElem_cons_succ, List.getElem_cons_zero, Act.put, List.setIfInBounds_toArray, List.set_cons_zero, List.set_cons_succ]
      refine wpAnyH_done (by kernel_rfl) ?_ _
      obtain ⟨z0, z1, z2, z3, z4⟩ := five hY8
      obtain ⟨x0, x1, x2, x3, x4⟩ := five hZ8
      have xf := free_at hZ8
      have s9 := set_at 4 (I (now + life)) (set_at 3 (I now) (set_at 2 (I v) (set_at 1 (I ((M : Int) + 1)) (set_at 0 (I ((L : Int) + 1)) hZ8))))
      simp only [List.setIfInBounds_toArray, List.set_cons_zero, List.set_cons_succ] at s9
      have g9 := gby_tr (gby_tr (gby_tr (gby_tr (gby_set w8 y 0 (I ((L : Int) + 1))) (gby_set _ y 1 (I ((M : Int) + 1)))) (gby_set _ y 2 (I v))) (gby_set _ y 3 (I now))) (gby_set _ y 4 (I (now + life)))
      have hby : b' ≠ y := not_zero (flatB_len cB_len G |>.trans (by rw [hL'.out])) hG8 hZ8
      have hq9 : ks b' ∨ w.heap.size ≤ b' := by
        rcases hbn with h | h
        · exact Or.inl (k8 _ h)
        · exact Or.inr (by have := hb4.out.size; omega)
      have hfin := ca_fin (ks := ks) (w := w) hL'.out hA8 hU8 hG8 hM8 h5 h6 k7 hq9 hZ8 hby (by omega) g9
      have hT9 := hT8.new g9 (by omega)
      obtain ⟨r0, r1, r2, r3, r4⟩ := five s9
      replace hfin := Lib.hid hfin
      replace r0 := Lib.hid r0
      replace r1 := Lib.hid r1
      replace r2 := Lib.hid r2
      replace r3 := Lib.hid r3
      replace r4 := Lib.hid r4
      replace hT9 := Lib.hid hT9
      clear hU8 hG8 hM8 hA8 hY8 s9 g9 hT8
      go_wp2_with fail
      have r0 := r0.out; have r1 := r1.out; have r2 := r2.out; have r3 := r3.out; have r4 := r4.out
      refine bodyPost_ret (v := cv ⟨(L : Int) + 1, (M : Int) + 1, v, now, now + life⟩) (by simp [results, Try.results12, go_sem, r0, r1, r2, r3, r4]) rfl ⟨rfl, hfin.out, hT9.out⟩
end Go.Proofs.Ytajnhjcinpdfhaa.cert
