/-
  Package cert: Rotate, Revoke, Roots.
-/
import Derived.Test.YtajnhjcinpdfhaaCrD
namespace Go.Proofs.Ytajnhjcinpdfhaa.cert
open Go.ChangeShapes Go.WideShapes Go.ChangeAt Go.RowKit
set_option linter.unusedVariables false
set_option linter.unusedSimpArgs false

def cutTo (U : List Int) (en : Int) (k : Nat) : List Int := (U.take k).map (fun u => min u en) ++ U.drop k
theorem cutTo_len (U : List Int) (en : Int) (k : Nat) : (cutTo U en k).length = U.length := by
  unfold cutTo; rw [List.length_append, List.length_map, List.length_take, List.length_drop]; omega
theorem cutTo_get (U : List Int) (en : Int) (k : Nat) (h : k < U.length) : (cutTo U en k)[k]? = some (U.getD k 0) := by
  unfold cutTo
  rw [List.getElem?_append_right (by rw [List.length_map, List.length_take]; omega), List.length_map, List.length_take, Nat.min_eq_left (by omega), Nat.sub_self, List.getElem?_drop, Nat.add_zero, List.getElem?_eq_getElem h, List.getD_eq_getElem?_getD, List.getElem?_eq_getElem h]; rfl
theorem cutTo_succ (U : List Int) (en : Int) (k : Nat) (h : k < U.length) : cutTo U en (k + 1) = (cutTo U en k).set k (min (U.getD k 0) en) := by
  unfold cutTo
  rw [List.set_append_right _ _ (by rw [List.length_map, List.length_take]; omega), List.length_map, List.length_take, Nat.min_eq_left (by omega), Nat.sub_self, take_snoc U k 0 h, List.map_append, List.append_assoc]
  congr 1
  rw [List.drop_eq_getElem_cons h, List.set_cons_zero]; rfl
theorem cutTo_all (U : List Int) (en : Int) : cutTo U en U.length = U.map (fun u => min u en) := by unfold cutTo; simp
theorem map_I_set (z : List Int) (k : Nat) (x : Int) : (z.map I).set k (I x) = (z.set k x).map I := by rw [List.map_set]

def RotateD (ks : Nat → Prop) (p : Nat) (U : List Int) (G : List Crt) (S : List Int) (en : Int) (w : World) : Ending → World → Prop := fun e w' => e = .returned (I ((U.length : Int) + 2)) ∧ CA (grw ks w w') w' p (U.map (fun u => min u en) ++ [en]) G S ∧ Tch ks w w'

set_option maxHeartbeats 8000000 in
set_option maxRecDepth 20000 in
theorem rotate_any {ks : Nat → Prop} {w : World} {p : Nat} {U : List Int} {G : List Crt} {S : List Int} (h : CA ks w p U G S) (hU : U.length ≤ 999) (now over : Int) (n0 : -1000000000 ≤ now) (n1 : now ≤ 1000000000) (l0 : -1000000000 ≤ over) (l1 : over ≤ 1000000000) :
    Calls Try.prog 14 #[ptr p, I now, I over] w (RotateD ks p U G S (now + over) w) := by
  obtain ⟨iu, hiu, zu0, zu1, zu2⟩ := info_parts infoI
  obtain ⟨vu, vg, mr, n, h1, h2, h3, h4, h5, h6, k7, k8⟩ := h
  obtain ⟨au, gu, cu, rfl, -⟩ := h2.row (by decide)
  have c0 := cell_at h1 0
  simp only [List.getElem?_toArray, List.getElem?_cons_succ, List.getElem?_cons_zero] at c0
  unfold RotateD
  obtain ⟨en, hen⟩ : ∃ z_, (now + over) = z_ := ⟨_, rfl⟩
  rw [hen]
  obtain ⟨M, hM⟩ : ∃ z_, (U.length) = z_ := ⟨_, rfl⟩
  rw [hM] at c0 h1 h2 hU k7 ⊢
  have e1 : IntKind.i64.wrap (now + over) = en := by rw [hen, IntKind.wrap_i64]; omega
  have hcut := fun k (hk : k < M) => cutTo_succ U en k (by omega)
  have hget := fun k (hk : k < M) => cutTo_get U en k (by omega)
  have hrow : w.ownsRow 0 3 1 (.slice au M cu) M ((cutTo U en 0).map I) := by
    have := h2
    unfold OwnB at this
    rw [hM, flatB_ints] at this
    rw [show cutTo U en 0 = U by unfold cutTo; simp]
    exact this
  have hall : cutTo U en M = U.map (fun u => min u en) := by rw [← hM]; exact cutTo_all U en
  have hlen := cutTo_len U en M
  clear h2
  replace h1 := Lib.hid h1
  replace h3 := Lib.hid h3
  replace h4 := Lib.hid h4
  replace hcut := Lib.hid hcut
  replace hget := Lib.hid hget
  replace hrow := Lib.hid hrow
  replace hM := Lib.hid hM
  replace hall := Lib.hid hall
  replace hlen := Lib.hid hlen
  replace hen := Lib.hid hen
  go_enter Try.func14, Try.ntmps14
  go_wp2_with fail
  clear c0
  go_loopw [18] (fun i wr => ∃ k : Nat, k ≤ M ∧ i = I k ∧ wr.heap[p]? = some (.cells #[.slice au M cu, vg, .map (some mr)] 51 (0, 0)) ∧ wr.ownsRow 0 3 1 (.slice au M cu) M ((cutTo U en k).map I) ∧ OwnB cB 5 24 wr 0 vg G ∧ MpK I wr mr (revF S) n ∧ Tch ks w wr) (fun i _ => M - (intOf i).toNat)
  case atStart => exact ⟨0, by omega, rfl, h1.out, hrow.out, h3.out, h4.out, Tch.rfl' _ _⟩
  case round =>
    obtain ⟨k, hk, rfl, hp, hr, hG, hm, hT⟩ := hrel
    have c0 := cell_at hp 0
    simp only [List.getElem?_toArray, List.getElem?_cons_succ, List.getElem?_cons_zero] at c0
    by_cases hlt : k < M
    · obtain ⟨a5, g5, c5, cur5, hv5, hb5, R5⟩ := own_blk hr (by decide)
      obtain ⟨rfl, hg5, -⟩ := R5 (by omega)
      simp only [Value.slice.injEq, true_and] at hv5
      obtain ⟨rfl, rfl⟩ := hv5
      have q0 := hr.cellAt k (by omega)
      rw [List.getElem?_map, hget.out k hlt] at q0
      have q1 := hr.frozenAt k
      obtain ⟨u, hu⟩ : ∃ z_, (U.getD k 0) = z_ := ⟨_, rfl⟩
      rw [hu] at q0
      have hset := hcut.out k hlt
      rw [hu] at hset
      obtain ⟨st1, st2⟩ := hr.stored k (I (min u en))
      rw [map_I_set, ← hset] at st1
      have hp' := blk_gby hp st2 (by rintro rfl; rw [hp] at hg5; simp at hg5)
      have hG' := World.ownsRow.kept hG st2 (Or.inr (own_apart hG hg5 (by decide)))
      have hm' := hm.row st2 (fun e => hm.ne hg5 (by cases e; rfl))
      have hT' := hT.tr (Tch.gby st2 (k7 g5 rfl))
      have hmin : (if u ≤ en then u else en) = min u en := by split <;> omega
      have hmin2 : (if en < u then en else u) = min u en := by split <;> omega
      simp only [Option.map_some] at q0
      obtain ⟨mi, hmi⟩ : ∃ z_, (min u en) = z_ := ⟨_, rfl⟩
      rw [hmi] at st1 hp' hG' hm' hT' hmin hmin2
      replace st1 := Lib.hid st1
      replace hp' := Lib.hid hp'
      replace hG' := Lib.hid hG'
      replace hm' := Lib.hid hm'
      replace hT' := Lib.hid hT'
      clear hset hu hmi hp hr hG hm hT R5 st2 hg5
      go_wp2_with fail
      go_roundw
      case rel => exact ⟨k + 1, by omega, by go_num, hp'.out, st1.out, hG'.out, hm'.out, hT'.out⟩
      case measure => simp [intOf] <;> omega
    · obtain rfl : k = M := by omega
      rw [hall.out] at hr
      have hsz := hT.size
      have hbl := (Bl.rfl' wr).al (.cells #[I en] 3)
      go_wp2_with (at_builtin; refine wpList_append_rec rfl _ _ 22 rfl 0 3 iu (I 0) 1 8 Try.underlying22 hiu zu0 zu1 zu2 rfl (by decide) _ k _ rfl hr #[I en] _ rfl (by intro u hu; simp at hu; subst hu; rfl) 1 rfl (by omega) (by omega) (by omega) ?_)
      intro b' cap' w7 hown' hgrow hbn
      have hA7 := blk_row hp hgrow (own_apart hr hp (by decide))
      have hG7 := World.ownsRow.kept hG hgrow (own_apart2 hG hr (by decide))
      have hM7 := hm.row hgrow (by obtain ⟨es, cl, hmm, -⟩ := hm; exact own_map hr hmm)
      have hT7 := hT.row hgrow (fun k hk => Or.inl (k7 k hk))
      have hq7 : ks b' ∨ w.heap.size ≤ b' := by
        rcases hbn with h | h
        · exact Or.inl (k7 _ h)
        · exact Or.inr (by omega)
      have f7 := free_at hA7 0
      have c7 := cell_at hA7 0
      simp only [List.getElem?_toArray, List.getElem?_cons_succ, List.getElem?_cons_zero] at c7
      have g8 := gby_set w7 p 0 (.slice (some ⟨b', 0, none⟩) (k + 1) cap')
      have hA8 := set_at 0 (.slice (some ⟨b', 0, none⟩) (k + 1) cap') hA7
      have hG8 := World.ownsRow.kept hG7 g8 (Or.inr (own_apart hG7 hA7 (by decide)))
      have hU8 := World.ownsRow.kept hown' g8 (Or.inr (own_apart hown' hA7 (by decide)))
      have hM8 := hM7.row g8 (fun e => hM7.ne hA7 (by cases e; rfl))
      have hT8 := hT7.tr (Tch.gby g8 h5)
      clear hown' hgrow hA7 hG7 hM7 hT7 g8 hp hr hG hm hT hbl
      obtain ⟨w8, hw8⟩ : ∃ z_, (w7.setCell ⟨p, 0, none⟩ (.slice (some ⟨b', 0, none⟩) (k + 1) cap')) = z_ := ⟨_, rfl⟩
      rw [hw8] at hA8 hU8 hG8 hM8 hT8
      simp only [List.setIfInBounds_toArray, List.set_cons_zero, List.set_cons_succ] at hA8
      have hfin : CA (grw ks w w8) w8 p (U.map (fun u => min u en) ++ [en]) G S := by
        refine CA.bound (ks := fun k => ks k ∨ w.heap.size ≤ k) ?_ (Nat.le_refl _) (fun k h1 h2 => ⟨h1, h2⟩)
        refine ⟨_, vg, mr, n, hA8, ?_, hG8, hM8, Or.inl h5, Or.inl h6, fun k hk => by simp only [Value.ownBlock, Option.some.injEq] at hk; subst hk; exact hq7, fun k hk => Or.inl (k8 k hk)⟩
        show w8.ownsRow _ _ _ _ (U.map (fun u => min u en) ++ [en]).length _
        rw [List.length_append, List.length_map, hM.out, flatB_ints, List.map_append, List.map_map]
        exact hU8
      have NW := newest_any hfin (by rw [List.length_append, List.length_map, hM.out]; simp; omega)
      rw [List.length_append, List.length_map, hM.out] at NW
      replace hfin := Lib.hid hfin
      replace hT8 := Lib.hid hT8
      replace NW := Lib.hid NW
      clear hA8 hU8 hG8 hM8
      go_wp2_with fail
      first | with_reducible refine (NW.out).mono ?_ | refine (NW.out).mono ?_
      rintro e w' ⟨rfl, rfl⟩
      go_wp2_with fail
      go_ret
      exact ⟨by simp; omega, hfin.out, hT8.out⟩

def RevokeD (ks : Nat → Prop) (p : Nat) (U : List Int) (G : List Crt) (S : List Int) (s : Int) (w : World) : Ending → World → Prop := fun e w' =>
  if 1 ≤ s ∧ s ≤ G.length ∧ s ∉ S then e = .returned (.bool true) ∧ CA ks w' p U G (s :: S) ∧ Tch ks w w' ∧ w'.heap.size = w.heap.size else e = .returned (.bool false) ∧ w' = w

set_option maxHeartbeats 4000000 in
theorem revoke_any {ks : Nat → Prop} {w : World} {p : Nat} {U : List Int} {G : List Crt} {S : List Int} (h : CA ks w p U G S) (hG : G.length ≤ 1000) (s : Int) :
    Calls Try.prog 15 #[ptr p, I s] w (RevokeD ks p U G S s w) := by
  have h' := h
  obtain ⟨vu, vg, mr, n, h1, h2, h3, h4, h5, h6, k7, k8⟩ := h
  obtain ⟨ag, gg, cg, rfl, -⟩ := h3.row (by decide)
  have c1 := cell_at h1 1
  have c2 := cell_at h1 2
  simp only [List.getElem?_toArray, List.getElem?_cons_succ, List.getElem?_cons_zero] at c1 c2
  have L := (h4.run_look intKey Try.underlying49 Try.underlying3 (zeroB w) s).1
  rw [revF_get] at L
  obtain ⟨w', hr, hm', hg', hs'⟩ := h4.run_upd intKey Try.underlying49 Try.underlying3 s (.bool true)
  rw [revF_cons] at hm'
  have hfin : CA ks w' p U G (s :: S) := ⟨vu, _, mr, _, blk_gby h1 hg' (fun e => h4.ne h1 e.symm), World.ownsRow.kept h2 hg' (Or.inr (by obtain ⟨es, cl, hmm, -⟩ := h4; exact own_map h2 hmm)), World.ownsRow.kept h3 hg' (Or.inr (by obtain ⟨es, cl, hmm, -⟩ := h4; exact own_map h3 hmm)), hm', h5, h6, k7, k8⟩
  have hT := Tch.gby hg' h6
  unfold RevokeD
  obtain ⟨N, hN⟩ : ∃ z_, (G.length) = z_ := ⟨_, rfl⟩
  rw [hN] at c1 hG ⊢
  clear h' h1 h2 h3 h4 hm' hg' hN k7 k8
  replace hfin := Lib.hid hfin
  replace hT := Lib.hid hT
  by_cases e1 : 1 ≤ s
  · have d1 : decide (s < 1) = false := decide_eq_false (by omega)
    by_cases e2 : s ≤ N
    · have d2 : decide (s > N) = false := decide_eq_false (by omega)
      by_cases e3 : s ∈ S
      · have hif : ¬ (1 ≤ s ∧ s ≤ (N : Int) ∧ s ∉ S) := fun h => h.2.2 e3
        simp only [if_neg hif]
        rw [decide_eq_true e3] at L
        go_enter Try.func15, Try.ntmps15
        go_wp2_with fail
        go_ret
        exact ⟨rfl, rfl⟩
      · have hif : 1 ≤ s ∧ s ≤ (N : Int) ∧ s ∉ S := ⟨e1, e2, e3⟩
        simp only [if_pos hif]
        rw [decide_eq_false e3] at L
        clear e3
        go_enter Try.func15, Try.ntmps15
        go_wp2_with fail
        go_ret
        exact ⟨rfl, hfin.out, hT.out, hs'⟩
    · have hif : ¬ (1 ≤ s ∧ s ≤ (N : Int) ∧ s ∉ S) := fun h => e2 h.2.1
      simp only [if_neg hif]
      have d2 : decide (s > N) = true := decide_eq_true (by omega)
      go_enter Try.func15, Try.ntmps15
      go_wp2_with fail
      go_ret
      exact ⟨rfl, rfl⟩
  · have hif : ¬ (1 ≤ s ∧ s ≤ (N : Int) ∧ s ∉ S) := fun h => e1 h.1
    simp only [if_neg hif]
    have d1 : decide (s < 1) = true := decide_eq_true (by omega)
    go_enter Try.func15, Try.ntmps15
    go_wp2_with fail
    go_ret
    exact ⟨rfl, rfl⟩

/-- The roots that are trusted, up to the k-th. -/
def rootsTo (U : List Int) (now : Int) : Nat → List Int
  | 0 => []
  | k + 1 => if trB U ((k : Int) + 1) now = true then rootsTo U now k ++ [(k : Int) + 1] else rootsTo U now k
theorem rootsTo_len (U : List Int) (now : Int) : ∀ k, (rootsTo U now k).length ≤ k
  | 0 => Nat.le_refl _
  | k + 1 => by
    have := rootsTo_len U now k
    unfold rootsTo
    split
    · rw [List.length_append]; simp; omega
    · omega

set_option maxHeartbeats 4000000 in
theorem roots_any {ks : Nat → Prop} {w : World} {p : Nat} {U : List Int} {G : List Crt} {S : List Int} (h : CA ks w p U G S) (hU : U.length ≤ 999) (now : Int) :
    Calls Try.prog 13 #[ptr p, I now] w fun e w' => ∃ v, e = .returned v ∧ OwnB iB 1 3 w' w.heap.size v (rootsTo U now (U.length + 1)) ∧ Bl w w' := by
  obtain ⟨iu, hiu, zu0, zu1, zu2⟩ := info_parts infoI
  have NW := Lib.hid (fun w' (hb : Bl w w') => newest_any (h.bl hb) (by omega))
  have TR := Lib.hid (fun w' (hb : Bl w w') root r0 r1 => trusts_any (h.bl hb) (by omega) root now r0 r1)
  have hsucc : ∀ k, rootsTo U now (k + 1) = if trB U ((k : Int) + 1) now = true then rootsTo U now k ++ [(k : Int) + 1] else rootsTo U now k := fun k => rfl
  have hlen := rootsTo_len U now
  have h0 : rootsTo U now 0 = [] := rfl
  obtain ⟨R, hR⟩ : ∃ z_, (rootsTo U now) = z_ := ⟨_, rfl⟩
  rw [hR] at hsucc hlen h0
  obtain ⟨tb, htb⟩ : ∃ z_, (trB U) = z_ := ⟨_, rfl⟩
  simp only [htb] at hsucc TR
  rw [hR]
  obtain ⟨M, hM⟩ : ∃ z_, (U.length) = z_ := ⟨_, rfl⟩
  simp only [hM] at NW hU
  rw [hM]
  clear h hM htb hR
  replace hsucc := Lib.hid hsucc
  replace hlen := Lib.hid hlen
  replace h0 := Lib.hid h0
  go_enter Try.func13, Try.ntmps13
  go_wp2_with fail
  go_loopw [5, 6] (fun o i wr => ∃ k : Nat, k ≤ M + 1 ∧ i = I ((k : Int) + 1) ∧ wr.ownsRow w.heap.size 3 1 o (R k).length ((R k).map I) ∧ Bl w wr) (fun _ i _ => M + 2 - (intOf i).toNat)
  case atStart => exact ⟨0, by omega, rfl, by rw [h0.out]; exact World.ownsRow_nil _ _ _ _, Bl.rfl' _⟩
  case round =>
    obtain ⟨k, hk, rfl, hown, hbr⟩ := hrel
    by_cases hlt : k ≤ M
    · have hl := hlen.out k
      have hs := hsucc.out k
      obtain ⟨b, hb⟩ : ∃ z_, (tb ((k : Int) + 1) now) = z_ := ⟨_, rfl⟩
      rw [hb] at hs
      replace hown := Lib.hid hown
      replace hbr := Lib.hid hbr
      replace hs := Lib.hid hs
      replace hb := Lib.hid hb
      cases b with
      | false =>
        go_wp2_with fail
        first | with_reducible refine (NW.out _ hbr.out).mono ?_ | refine (NW.out _ hbr.out).mono ?_
        rintro e w' ⟨rfl, rfl⟩
        go_wp2_with fail
        first | with_reducible refine (TR.out _ hbr.out _ (by omega) (by omega)).mono ?_ | refine (TR.out _ hbr.out _ (by omega) (by omega)).mono ?_
        rintro e w' ⟨rfl, rfl⟩
        rw [hb.out]
        go_wp2_with fail
        go_roundw
        case rel => exact ⟨k + 1, by omega, by go_num, by rw [hs.out]; exact hown.out, hbr.out⟩
        case measure => simp [intOf]; omega
      | true =>
        have hbs := hbr.out.size
        go_wp2_with fail
        first | with_reducible refine (NW.out _ hbr.out).mono ?_ | refine (NW.out _ hbr.out).mono ?_
        rintro e w' ⟨rfl, rfl⟩
        go_wp2_with fail
        first | with_reducible refine (TR.out _ hbr.out _ (by omega) (by omega)).mono ?_ | refine (TR.out _ hbr.out _ (by omega) (by omega)).mono ?_
        rintro e w' ⟨rfl, rfl⟩
        rw [hb.out]
        go_wp2_with (at_builtin; refine wpList_append_one rfl _ _ 22 rfl w.heap.size 3 iu (I 0) 8 Try.underlying22 hiu zu0 zu1 zu2 rfl _ _ _ rfl hown.out (I ((k : Int) + 1)) _ rfl 1 rfl (by omega) (by omega) (by omega) ?_)
        intro b' cap' w7 hown' hgrow
        have hb7 := hbr.out.grown hgrow (fun k hk => (hown.out.lt k hk).1)
        replace hown' := Lib.hid hown'
        replace hb7 := Lib.hid hb7
        go_wp2_with fail
        go_roundw
        case rel => exact ⟨k + 1, by omega, by go_num, by rw [hs.out]; simp only [if_true, List.length_append, List.map_append]; exact hown'.out, hb7.out⟩
        case measure => simp [intOf]; omega
    · obtain rfl : k = M + 1 := by omega
      replace hown := Lib.hid hown
      replace hbr := Lib.hid hbr
      go_wp2_with fail
      first | with_reducible refine (NW.out _ hbr.out).mono ?_ | refine (NW.out _ hbr.out).mono ?_
      rintro e w' ⟨rfl, rfl⟩
      go_wp2_with fail
      go_ret
      exact ⟨_, rfl, by unfold OwnB; rw [flatB_ints]; exact hown.out, hbr.out⟩
end Go.Proofs.Ytajnhjcinpdfhaa.cert
