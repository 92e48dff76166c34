/-
  Package dedup: Put.
-/
import Derived.Test.YtfpapfnpppggeaaDdC
namespace Go.Proofs.Ytfpapfnpppggeaa.dedup
open Go.ChangeShapes Go.WideShapes Go.ChangeAt Go.RowKit
set_option linter.unusedVariables false
set_option linter.unusedSimpArgs false

theorem lastF_app (R : List En) (e : En) (k : ByteArray) : lastF (R ++ [e]) k = if e.k = k then some e.a else lastF R k := by
  induction R with
  | nil => simp [lastF]
  | cons x R ih =>
    rw [List.cons_append]
    conv => lhs; unfold lastF
    rw [ih]
    by_cases hk : e.k = k
    · simp [hk]
    · simp only [if_neg hk]
      conv => rhs; unfold lastF
theorem FV_app (R : List En) (now : Int) (key : ByteArray) : FV (R ++ [⟨now, key⟩]) = updK (FV R) key (I now) := by
  funext k
  unfold FV updK
  rw [lastF_app]
  by_cases hk : k = key
  · subst hk; simp
  · have hk' : ¬ key = k := fun h => hk h.symm
    simp [hk, hk']
theorem cntK_app (R : List En) (now : Int) (key : ByteArray) : cntK (R ++ [⟨now, key⟩]) = if (FV R key).isSome = true then cntK R else cntK R + 1 := by
  have hs : ∀ R : List En, (FV R key).isSome = (lastF R key).isSome := fun R => by unfold FV; simp
  rw [hs]
  induction R with
  | nil => simp [cntK, lastF]
  | cons x R ih =>
    rw [List.cons_append]
    conv => lhs; unfold cntK
    rw [ih, lastF_app]
    have hx : (lastF (x :: R) key).isSome = ((lastF R key).isSome || decide (x.k = key)) := by
      conv => lhs; unfold lastF
      cases lastF R key with
      | some a => rfl
      | none => by_cases h : x.k = key <;> simp [h]
    rw [hx]
    conv => rhs; unfold cntK
    by_cases h1 : key = x.k
    · subst h1
      simp only [if_true, Option.isSome_some, decide_true, Bool.or_true]
    · have h2 : ¬ x.k = key := fun h => h1 h.symm
      rw [if_neg h1, decide_eq_false h2, Bool.or_false]
      split <;> split <;> omega
/-- Any one of a key is no later than its last one. -/
theorem lastF_ge {h : Int} : ∀ {R : List En}, R.Pairwise (fun x y => x.a ≤ y.a ∧ (x.k = y.k → x.a + h ≤ y.a)) → ∀ x ∈ R, ∃ a, lastF R x.k = some a ∧ x.a ≤ a
  | [], _, x, hx => by simp at hx
  | e :: R, hp, x, hx => by
    obtain ⟨h1, h2⟩ := List.pairwise_cons.1 hp
    unfold lastF
    rcases List.mem_cons.1 hx with rfl | hx
    · cases hl : lastF R x.k with
      | some a =>
        obtain ⟨y, hy, -, rfl⟩ := lastF_mem R _ _ hl
        exact ⟨_, rfl, (h1 y hy).1⟩
      | none => exact ⟨x.a, by simp, Int.le_refl _⟩
    · obtain ⟨a, ha, hle⟩ := lastF_ge h2 x hx
      rw [ha]
      exact ⟨a, rfl, hle⟩
theorem InvR.put {h now : Int} {R : List En} {key : ByteArray} (hi : InvR h R) (hn : ∀ x ∈ R, x.a ≤ now) (n0 : 0 ≤ now) (n1 : now ≤ 4000000000) (hr : remB h now R key = false) : InvR h (R ++ [⟨now, key⟩]) := by
  refine ⟨?_, fun x hx => ?_⟩
  · rw [List.pairwise_append]
    refine ⟨hi.1, by simp, fun x hx y hy => ?_⟩
    simp only [List.mem_singleton] at hy
    subst hy
    refine ⟨hn x hx, fun hk => ?_⟩
    obtain ⟨a, ha, hle⟩ := lastF_ge hi.1 x hx
    unfold remB at hr
    rw [hk] at ha
    simp only at ha
    rw [ha] at hr
    simp only [decide_eq_false_iff_not] at hr
    show x.a + h ≤ now
    omega
  · rcases List.mem_append.1 hx with hx | hx
    · exact hi.2 x hx
    · simp only [List.mem_singleton] at hx
      subst hx
      exact ⟨n0, n1⟩
theorem infoE : (Try.prog.info? 53).map (fun i => (i.zero, i.size, i.bytes)) = some (some (.agg #[I 0, sV ⟨#[]⟩]), 2, 24) := by kernel_rfl
theorem TB.bound {ks qs : Nat → Prop} {w w' : World} {p : Nat} {h : Int} {R : List En} (t : TB ks w p h R) (hs : w.heap.size ≤ w'.heap.size) (hq : ∀ k : Nat, ks k → k < w'.heap.size → qs k) : TB qs w p h R := by
  obtain ⟨v, mr, h1, h2, h3, h4, h5, h6⟩ := t
  exact ⟨v, mr, h1, h2, h3, hq _ h4 (Nat.lt_of_lt_of_le (lt_of_block h1) hs), hq _ h5 (Nat.lt_of_lt_of_le h3.lt hs), fun k hk => hq _ (h6 k hk) (Nat.lt_of_lt_of_le (h2.lt k hk) hs)⟩
theorem Tch_more {ks qs : Nat → Prop} {w w5 w' : World} (h1 : Tch ks w w5) (h2 : Tch qs w5 w') (hq : ∀ k, qs k → ks k ∨ w.heap.size ≤ k) : Tch ks w w' :=
  ⟨h2.os.trans h1.os, h2.tape.trans h1.tape, h2.output.trans h1.output, Nat.le_trans h1.size h2.size, fun k hk hn => (h2.block k (Nat.lt_of_lt_of_le hk h1.size) (fun hh => by rcases hq k hh with h | h; exact hn h; omega)).trans (h1.block k hk hn)⟩

def putR (h now : Int) (R : List En) (key : ByteArray) : List En := if remB h now R key = true then R else R ++ [⟨now, key⟩]

set_option maxHeartbeats 8000000 in
set_option maxRecDepth 20000 in
theorem put_any {ks : Nat → Prop} {w : World} {p : Nat} {h : Int} {R : List En} (t : TB ks w p h R) (hi : InvR h R) (hR : R.length ≤ 100000) (h0 : 1 ≤ h) (h1 : h ≤ 1000000) (now : Int) (key : ByteArray) (hn : ∀ x ∈ R, x.a ≤ now) (n0 : 0 ≤ now) (n1 : now ≤ 4000000000) :
    Calls Try.prog 16 #[ptr p, I now, sV key] w fun e w' => e = .returned (.bool (!remB h now R key)) ∧ TB (grw ks w w') w' p h (leftR h now (putR h now R key)) ∧ Tch ks w w' := by
  have RM := Lib.hid (remembers_any t hi h0 h1 now key)
  cases hr : remB h now R key with
  | true =>
    have FG := Lib.hid (fun u => forget_d t hi (by omega) h0 h1 now u)
    have hp : putR h now R key = R := by unfold putR; rw [hr]; rfl
    rw [hr] at RM
    rw [hp]
    clear t hr
    go_enter_defers Try.func16, Try.ntmps16
    go_wp2_with fail
    with_reducible refine (RM.out).mono ?_
    rintro e w' ⟨rfl, rfl⟩
    go_wp2_with fail
    refine leaves_cons (by simp) (f := 23) (args := #[ptr p, I now]) (by rfl) ?_
    refine (FG.out _).mono ?_
    rintro e u' w' ⟨rfl, rfl, g1, g2⟩
    exact ⟨_, results_tmp rfl _ _ _, rfl, g1.bound (Nat.le_refl _) (fun k a b => ⟨Or.inl a, b⟩), g2⟩
  | false =>
    have hp : putR h now R key = R ++ [⟨now, key⟩] := by unfold putR; rw [hr]; rfl
    have hinv := hi.put hn n0 n1 hr
    rw [hr] at RM
    rw [hp]
    obtain ⟨iu, hiu, zu0, zu1, zu2⟩ := info_parts infoE
    obtain ⟨v, mr, hP, hv, hm, k4, k5, k6⟩ := t
    have c1 := cell_at hP 1
    simp only [List.getElem?_toArray, List.getElem?_cons_succ, List.getElem?_cons_zero] at c1
    obtain ⟨w1, hup, hm1, hg1, hs1⟩ := hm.run_upd strKey Try.underlying45 Try.underlying9 key (I now)
    rw [← FV_app R now key, ← cntK_app R now key] at hm1
    have hP1 := blk_gby hP hg1 (fun e => hm.ne hP e.symm)
    have hv1 := hv.row hg1 (Or.inr (by obtain ⟨es, cl, hmm, -⟩ := hm; exact hv.map hmm))
    have hT1 := Tch.gby (ps := ks) hg1 k5
    have d2 := cell_at hP1 2
    simp only [List.getElem?_toArray, List.getElem?_cons_succ, List.getElem?_cons_zero] at d2
    have hRl : R.length + 1 ≤ 1000000 := by omega
    replace hm1 := Lib.hid hm1
    replace hP1 := Lib.hid hP1
    replace hv1 := Lib.hid hv1
    replace hT1 := Lib.hid hT1
    replace hinv := Lib.hid hinv
    replace hs1 := Lib.hid hs1
    clear hi hn hr hp hP hv hm hg1
    go_enter_defers Try.func16, Try.ntmps16
    go_wp2_with fail
    with_reducible refine (RM.out).mono ?_
    rintro e w' ⟨rfl, rfl⟩
    go_wp2_with (at_builtin; refine wpList_append_off rfl _ _ 46 rfl iu (.agg #[I 0, sV ⟨#[]⟩]) 24 Try.underlying46 hiu zu0 zu1 zu2 rfl (by decide) _ R eB_len rfl hv1.out ⟨now, key⟩ _ (by intro u hu; simp at hu; rcases hu with rfl | rfl <;> rfl) 1 rfl (by omega) (by omega) ?_)
    intro b' o' cap' w7 hown' hgrow hbn
    have hv1m : v.ownBlock ≠ some mr := by obtain ⟨es, cl, hmm, -⟩ := hm1.out; exact hv1.out.map hmm
    have hP7 := blk_row hP1.out hgrow (hv1.out.apart hP1.out (by decide))
    have hm7 := hm1.out.row hgrow hv1m
    have hT7 := hT1.out.row hgrow (fun k hk => Or.inl (k6 k hk))
    have e2 := cell_at hP7 2
    have f2 := free_at hP7 2
    simp only [List.getElem?_toArray, List.getElem?_cons_succ, List.getElem?_cons_zero] at e2
    have hq : ∀ k, (Value.slice (some ⟨b', o', none⟩) (R.length + 1) cap').ownBlock = some k → (fun q => ks q ∨ w.heap.size ≤ q) k := fun k hk => by
      simp only [Value.ownBlock, Option.some.injEq] at hk
      subst hk
      rcases hbn with h | h
      · exact Or.inl (k6 _ h)
      · exact Or.inr (by have := hs1.out; omega)
    obtain ⟨t8, g8⟩ := fin_tb (ks := fun q => ks q ∨ w.heap.size ≤ q) hP7 hm7 hown' (Or.inl k4) (Or.inl k5) hq
    have hT8 := hT7.tr (Tch.gby g8 k4)
    obtain ⟨w8, hw8⟩ : ∃ z, w7.setCell ⟨p, 2, none⟩ (.slice (some ⟨b', o', none⟩) (R.length + 1) cap') = z := ⟨_, rfl⟩
    rw [hw8] at t8 hT8
    have FG := Lib.hid (fun u => forget_d t8 hinv.out (by rw [List.length_append]; simp; omega) h0 h1 now u)
    replace hT8 := Lib.hid hT8
    replace hP7 := Lib.hid hP7
    replace hm7 := Lib.hid hm7
    clear hown' hgrow hbn hT7 g8 t8 hq
    go_wp2_with fail
    refine leaves_cons (by simp) (f := 23) (args := #[ptr p, I now]) (by rfl) ?_
    refine (FG.out _).mono ?_
    rintro e u' w' ⟨rfl, rfl, g1, g2⟩
    refine ⟨_, results_tmp rfl _ _ _, rfl, g1.bound (Nat.le_refl _) (fun k a b => ⟨a, b⟩), Tch_more hT8.out g2 (fun k hk => hk)⟩
end Go.Proofs.Ytfpapfnpppggeaa.dedup
