/-
  Package cert: an authority, what it holds; New, newest, trusts, gave.
-/
import Derived.Test.YtajnhjcinpdfhaaRow
import Derived.Test.YtajnhjcinpdfhaaMp
import Derived.Test.YtajnhjcinpdfhaaKit2
import Derived.Test.YtajnhjcinpdfhaaOwn
namespace Go.Proofs.Ytajnhjcinpdfhaa.cert
open Go.ChangeShapes Go.WideShapes Go.ChangeAt Go.RowKit
set_option linter.unusedVariables false
set_option linter.unusedSimpArgs false
abbrev ptr (p : Nat) : Value := .pointer (some ⟨p, 0, none⟩)

/-- A certificate. -/
structure Crt where
  s : Int
  r : Int
  v : Int
  f : Int
  t : Int
deriving DecidableEq
abbrev cB (x : Crt) : List Value := [I x.s, I x.r, I x.v, I x.f, I x.t]
abbrev cv (x : Crt) : Value := .agg #[I x.s, I x.r, I x.v, I x.f, I x.t]
abbrev c0 : Crt := ⟨0, 0, 0, 0, 0⟩
theorem cB_len : ∀ x, (cB x).length = 5 := fun _ => rfl
theorem iB_len : ∀ x, (iB x).length = 1 := fun _ => rfl
def revF (S : List Int) : Int → Option Value := fun k => if k ∈ S then some (.bool true) else none
theorem revF_get (S : List Int) (k : Int) : (revF S k).getD (.bool false) = .bool (decide (k ∈ S)) := by
  unfold revF; split <;> rename_i h <;> simp [h]
theorem revF_cons (S : List Int) (k : Int) : updK (revF S) k (.bool true) = revF (k :: S) := by
  funext x; unfold updK revF; by_cases h : x = k <;> simp [h]

/-- What an authority holds: up to when each older root is trusted, what was given out, what is revoked; its blocks are of ks. -/
def CA (ks : Nat → Prop) (w : World) (p : Nat) (U : List Int) (G : List Crt) (S : List Int) : Prop :=
  ∃ vu vg mr n, w.heap[p]? = some (.cells #[vu, vg, .map (some mr)] 51 (0, 0)) ∧ OwnB iB 1 3 w 0 vu U ∧ OwnB cB 5 24 w 0 vg G ∧ MpK I w mr (revF S) n ∧ ks p ∧ ks mr ∧ (∀ k, vu.ownBlock = some k → ks k) ∧ (∀ k, vg.ownBlock = some k → ks k)
theorem CA.lt {ks w p U G S} (h : CA ks w p U G S) : p < w.heap.size := by obtain ⟨_, _, _, _, h, _⟩ := h; exact lt_of_block h
theorem CA.tch {ks ps w w' p U G S} (h : CA ks w p U G S) (hb : Tch ps w w') (hn : ∀ k, ks k → ¬ ps k) : CA ks w' p U G S := by
  obtain ⟨vu, vg, mr, n, h1, h2, h3, h4, h5, h6, h7, h8⟩ := h
  exact ⟨vu, vg, mr, n, hb.var h1 (hn _ h5), own_tch h2 hb (fun k hk => hn _ (h7 k hk)), own_tch h3 hb (fun k hk => hn _ (h8 k hk)), h4.tch hb (hn _ h6), h5, h6, h7, h8⟩
theorem CA.bl {ks w w' p U G S} (h : CA ks w p U G S) (hb : Bl w w') : CA ks w' p U G S := h.tch (Tch.bl (ps := fun _ => False) hb) (fun _ _ h => h)
/-- The blocks are there. -/
theorem CA.bound {ks qs : Nat → Prop} {w w' : World} {p U G S} (h : CA ks w p U G S) (hs : w.heap.size ≤ w'.heap.size) (hq : ∀ k : Nat, ks k → k < w'.heap.size → qs k) : CA qs w p U G S := by
  obtain ⟨vu, vg, mr, n, h1, h2, h3, h4, h5, h6, h7, h8⟩ := h
  exact ⟨vu, vg, mr, n, h1, h2, h3, h4, hq _ h5 (Nat.lt_of_lt_of_le (lt_of_block h1) hs), hq _ h6 (Nat.lt_of_lt_of_le h4.lt hs), fun k hk => hq _ (h7 k hk) (Nat.lt_of_lt_of_le (World.ownsRow.lt h2 k hk).2 hs), fun k hk => hq _ (h8 k hk) (Nat.lt_of_lt_of_le (World.ownsRow.lt h3 k hk).2 hs)⟩

theorem zeroB (w : World) : (zeroValue 4).run Try.prog w = .ok (.bool false) w := by rfl
theorem zeroI (w : World) : (zeroValue 3).run Try.prog w = .ok (I 0) w := by rfl

/-- Reading it. -/
theorem CA.read {ks w p U G S} (h : CA ks w p U G S) : ∃ au gu cu ag gg cg mr, w.heap[p]? = some (.cells #[.slice au U.length cu, .slice ag G.length cg, .map (some mr)] 51 (0, 0)) ∧ RowB iB 1 w gu 0 au U ∧ RowB cB 5 w gg 0 ag G ∧ (∃ n, MpK I w mr (revF S) n) ∧ (U.length ≤ cu ∧ cu ≤ 9223372036854775807) ∧ (G.length ≤ cg ∧ cg ≤ 9223372036854775807) := by
  obtain ⟨vu, vg, mr, n, h1, h2, h3, h4, -⟩ := h
  obtain ⟨au, gu, cu, rfl, -, l1, l2, h2⟩ := h2.row (by decide)
  obtain ⟨ag, gg, cg, rfl, -, l3, l4, h3⟩ := h3.row (by decide)
  exact ⟨au, gu, cu, ag, gg, cg, mr, h1, h2, h3, ⟨n, h4⟩, ⟨l1, l2⟩, ⟨l3, l4⟩⟩

theorem newest_any {ks w p U G S} (h : CA ks w p U G S) (hU : U.length ≤ 1000) : Calls Try.prog 26 #[ptr p] w fun e w' => e = .returned (I ((U.length : Int) + 1)) ∧ w = w' := by
  obtain ⟨au, gu, cu, ag, gg, cg, mr, h1, -⟩ := h.read
  have c0 := cell_at h1 0
  simp only [List.getElem?_toArray, List.getElem?_cons_succ, List.getElem?_cons_zero] at c0
  clear h h1
  go_enter Try.func26, Try.ntmps26
  go_wp2_with fail
  go_ret
  exact ⟨by simp, rfl⟩

theorem new_any (w : World) : Calls Try.prog 17 #[] w fun e w' => ∃ p, e = .returned (ptr p) ∧ CA (fun k => w.heap.size ≤ k) w' p [] [] [] ∧ Bl w w' := by
  have hm : (Instr.makeMap 49 none).run Try.prog w = .ok (.map (some w.heap.size)) (w.alloc (.map #[] 0)) := by rfl
  go_enter Try.func17, Try.ntmps17
  go_wp2_with fail
  have h1 := heap_alloc_new (w.alloc (.map #[] 0)) (.cells #[.slice none 0 0, .slice none 0 0, .map (some w.heap.size)] 51)
  have hs : (w.alloc (.map #[] 0)).heap.size = w.heap.size + 1 := by simp
  have hm := (MpK.made (kenc := I) w).bl ((Bl.rfl' _).al (.cells #[.slice none 0 0, .slice none 0 0, .map (some w.heap.size)] 51))
  rw [hs] at h1
  go_ret
  exact ⟨_, rfl, ⟨_, _, _, 0, h1, OwnB.nil _ _ _, OwnB.nil _ _ _, hm, by show w.heap.size ≤ _; omega, Nat.le_refl _, by simp [Value.ownBlock], by simp [Value.ownBlock]⟩, ((Bl.rfl' w).al _).al _⟩

/-- Is a root trusted at a tick? -/
def trB (U : List Int) (root now : Int) : Bool := decide (root = (U.length : Int) + 1) || (decide (1 ≤ root ∧ root ≤ U.length) && decide (now < U.getD (root - 1).toNat 0))

theorem trusts_any {ks w p U G S} (h : CA ks w p U G S) (hU : U.length ≤ 1000) (root now : Int) (r0 : -9223372036854775808 ≤ root) (r1 : root ≤ 9223372036854775807) : Calls Try.prog 23 #[ptr p, I root, I now] w fun e w' => e = .returned (.bool (trB U root now)) ∧ w = w' := by
  have NW := Lib.hid (newest_any h hU)
  obtain ⟨au, gu, cu, ag, gg, cg, mr, h1, hu, -, -, hcu, -⟩ := h.read
  have c0 := cell_at h1 0
  simp only [List.getElem?_toArray, List.getElem?_cons_succ, List.getElem?_cons_zero] at c0
  clear h h1
  unfold trB
  obtain ⟨L, hL⟩ : ∃ z_, (U.length) = z_ := ⟨_, rfl⟩
  rw [hL] at hcu c0 NW hU ⊢
  by_cases e1 : root = (L : Int) + 1
  · subst e1
    go_enter Try.func23, Try.ntmps23
    go_wp2_with fail
    first | with_reducible refine (NW.out).mono ?_ | refine (NW.out).mono ?_
    rintro e w' ⟨rfl, rfl⟩
    go_wp2_with fail
    go_ret
    exact ⟨ret_bool (by simp), rfl⟩
  · have b1 : (root == (L : Int) + 1) = false := beq_eq_false_iff_ne.2 e1
    rw [decide_eq_false e1]
    by_cases e2 : 1 ≤ root
    · by_cases e3 : root ≤ L
      · obtain ⟨k, rfl⟩ : ∃ k : Nat, root = (k : Int) + 1 := ⟨(root - 1).toNat, by omega⟩
        have hk : k < L := by omega
        obtain ⟨rfl, q0⟩ := hu.c0 iB_len 0 k (by omega)
        have q0 := q0 0 (by decide)
        simp only [Nat.mul_one, Nat.add_zero, List.getElem?_cons_zero] at q0
        rw [show ((k : Int) + 1 - 1).toNat = k by omega]
        obtain ⟨u, hu'⟩ : ∃ z_, (U.getD k 0) = z_ := ⟨_, rfl⟩
        rw [hu'] at q0
        rw [decide_eq_true (show 1 ≤ (k : Int) + 1 ∧ (k : Int) + 1 ≤ L by omega)]
        clear hu
        replace hu' := Lib.hid hu'
        go_enter Try.func23, Try.ntmps23
        go_wp2_with fail
        first | with_reducible refine (NW.out).mono ?_ | refine (NW.out).mono ?_
        rintro e w' ⟨rfl, rfl⟩
        go_wp2_with fail
        first | with_reducible refine (NW.out).mono ?_ | refine (NW.out).mono ?_
        rintro e w' ⟨rfl, rfl⟩
        go_wp2_with fail
        go_ret
        exact ⟨ret_bool (by rw [hu'.out]; simp), rfl⟩
      · rw [decide_eq_false (show ¬ (1 ≤ root ∧ root ≤ L) by omega)]
        go_enter Try.func23, Try.ntmps23
        go_wp2_with fail
        first | with_reducible refine (NW.out).mono ?_ | refine (NW.out).mono ?_
        rintro e w' ⟨rfl, rfl⟩
        go_wp2_with fail
        first | with_reducible refine (NW.out).mono ?_ | refine (NW.out).mono ?_
        rintro e w' ⟨rfl, rfl⟩
        go_wp2_with fail
        go_ret
        exact ⟨ret_bool (by simp), rfl⟩
    · rw [decide_eq_false (show ¬ (1 ≤ root ∧ root ≤ L) by omega)]
      go_enter Try.func23, Try.ntmps23
      go_wp2_with fail
      first | with_reducible refine (NW.out).mono ?_ | refine (NW.out).mono ?_
      rintro e w' ⟨rfl, rfl⟩
      go_wp2_with fail
      go_ret
      exact ⟨ret_bool (by simp), rfl⟩

/-- Was a certificate given out? -/
def gvB (G : List Crt) (c : Crt) : Bool := decide (1 ≤ c.s ∧ c.s ≤ G.length) && decide (G.getD (c.s - 1).toNat c0 = c)

set_option maxRecDepth 20000 in
theorem gave_any {ks w p U G S} (h : CA ks w p U G S) (hG : G.length ≤ 1000) (c : Crt) (r0 : -9223372036854775808 ≤ c.s) (r1 : c.s ≤ 9223372036854775807) : Calls Try.prog 20 #[ptr p, cv c] w fun e w' => e = .returned (.bool (gvB G c)) ∧ Bl w w' := by
  obtain ⟨s, r, v, f, t⟩ := c
  obtain ⟨au, gu, cu, ag, gg, cg, mr, h1, -, hg, -, -, hcg⟩ := (h.bl ((Bl.rfl' w).al (.cells #[I s, I r, I v, I f, I t] 24))).read
  have c0' := cell_at h1 1
  simp only [List.getElem?_toArray, List.getElem?_cons_succ, List.getElem?_cons_zero] at c0'
  have hY := heap_alloc_new w (.cells #[I s, I r, I v, I f, I t] 24)
  have hb := (Bl.rfl' w).al (.cells #[I s, I r, I v, I f, I t] 24)
  clear h h1
  unfold gvB
  simp only at r0 r1 ⊢
  obtain ⟨L, hL⟩ : ∃ z_, (G.length) = z_ := ⟨_, rfl⟩
  rw [hL] at hcg c0' hG ⊢
  obtain ⟨wa, hwa⟩ : ∃ z_, (w.alloc (.cells #[I s, I r, I v, I f, I t] 24)) = z_ := ⟨_, rfl⟩
  rw [hwa] at c0' hY hb hg
  have y0 := cell_at hY 0; have y1 := cell_at hY 1; have y2 := cell_at hY 2; have y3 := cell_at hY 3; have y4 := cell_at hY 4
  simp only [List.getElem?_toArray, List.getElem?_cons_succ, List.getElem?_cons_zero] at y0 y1 y2 y3 y4
  clear hY
  replace hb := Lib.hid hb
  by_cases e2 : 1 ≤ s
  · by_cases e3 : s ≤ L
    · obtain ⟨k, rfl⟩ : ∃ k : Nat, s = (k : Int) + 1 := ⟨(s - 1).toNat, by omega⟩
      have hk : k < L := by omega
      obtain ⟨rfl, q⟩ := hg.c0 cB_len c0 k (by omega)
      have q0 := q 0 (by decide); have q1 := q 1 (by decide); have q2 := q 2 (by decide); have q3 := q 3 (by decide); have q4 := q 4 (by decide)
      simp only [Nat.add_zero, List.getElem?_cons_zero, List.getElem?_cons_succ] at q0 q1 q2 q3 q4
      rw [show ((k : Int) + 1 - 1).toNat = k by omega]
      obtain ⟨x, hx⟩ : ∃ z_, (G.getD k c0) = z_ := ⟨_, rfl⟩
      rw [hx] at q0 q1 q2 q3 q4 ⊢
      obtain ⟨xs, xr, xv, xf, xt⟩ := x
      simp only at q0 q1 q2 q3 q4
      rw [decide_eq_true (show 1 ≤ (k : Int) + 1 ∧ (k : Int) + 1 ≤ L by omega)]
      have d1 : decide ((k : Int) + 1 ≥ 1) = true := decide_eq_true (by omega)
      have d2 : decide ((k : Int) + 1 ≤ (L : Int)) = true := decide_eq_true (by omega)
      have d3 : IntKind.i64.wrap ((k : Int) + 1 - 1) = (k : Int) := by rw [IntKind.wrap_i64]; omega
      clear hg q hx
      by_cases e4 : (⟨xs, xr, xv, xf, xt⟩ : Crt) = ⟨(k : Int) + 1, r, v, f, t⟩
      · rw [decide_eq_true e4]
        cases e4
        go_enter Try.func20, Try.ntmps20
        go_wp2_with fail
        go_quiet (fail)
        go_wp2_with fail
        go_ret
        exact ⟨ret_bool (by simp), hb.out.drn _⟩
      · rw [decide_eq_false e4]
        simp only [Crt.mk.injEq] at e4
        by_cases g0 : xs = (k : Int) + 1
        · subst g0
          by_cases g1 : xr = r
          · subst g1
            by_cases g2 : xv = v
            · subst g2
              by_cases g3 : xf = f
              · subst g3
                have g4 : ¬ xt = t := fun h => e4 ⟨rfl, rfl, rfl, rfl, h⟩
                have gb : (xt == t) = false := beq_eq_false_iff_ne.2 g4
                go_enter Try.func20, Try.ntmps20
                go_wp2_with fail
                go_quiet (fail)
                go_wp2_with fail
                go_ret
                exact ⟨ret_bool (by simp), hb.out.drn _⟩
              · have gb : (xf == f) = false := beq_eq_false_iff_ne.2 g3
                go_enter Try.func20, Try.ntmps20
                go_wp2_with fail
                go_quiet (fail)
                go_wp2_with fail
                go_ret
                exact ⟨ret_bool (by simp), hb.out.drn _⟩
            · have gb : (xv == v) = false := beq_eq_false_iff_ne.2 g2
              go_enter Try.func20, Try.ntmps20
              go_wp2_with fail
              go_quiet (fail)
              go_wp2_with fail
              go_ret
              exact ⟨ret_bool (by simp), hb.out.drn _⟩
          · have gb : (xr == r) = false := beq_eq_false_iff_ne.2 g1
            go_enter Try.func20, Try.ntmps20
            go_wp2_with fail
            go_quiet (fail)
            go_wp2_with fail
            go_ret
            exact ⟨ret_bool (by simp), hb.out.drn _⟩
        · have gb : (xs == (k : Int) + 1) = false := beq_eq_false_iff_ne.2 g0
          go_enter Try.func20, Try.ntmps20
          go_wp2_with fail
          go_quiet (fail)
          go_wp2_with fail
          go_ret
          exact ⟨ret_bool (by simp), hb.out.drn _⟩
    · rw [decide_eq_false (show ¬ (1 ≤ s ∧ s ≤ L) by omega)]
      have d1 : decide (s ≥ 1) = true := decide_eq_true e2
      have d2 : decide (s ≤ (L : Int)) = false := decide_eq_false e3
      go_enter Try.func20, Try.ntmps20
      go_wp2_with fail
      go_quiet (fail)
      go_wp2_with fail
      go_ret
      exact ⟨ret_bool (by simp), hb.out.drn _⟩
  · rw [decide_eq_false (show ¬ (1 ≤ s ∧ s ≤ L) by omega)]
    have d1 : decide (s ≥ 1) = false := decide_eq_false e2
    go_enter Try.func20, Try.ntmps20
    go_wp2_with fail
    go_quiet (fail)
    go_wp2_with fail
    go_ret
    exact ⟨ret_bool (by simp), hb.out.drn _⟩
end Go.Proofs.Ytajnhjcinpdfhaa.cert
