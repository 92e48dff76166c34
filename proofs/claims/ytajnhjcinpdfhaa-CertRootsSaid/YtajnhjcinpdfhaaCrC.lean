/-
  Package cert: Check, whole.
-/
import Derived.Test.YtajnhjcinpdfhaaCrB
namespace Go.Proofs.Ytajnhjcinpdfhaa.cert
open Go.ChangeShapes Go.WideShapes Go.ChangeAt Go.RowKit
set_option linter.unusedVariables false
set_option linter.unusedSimpArgs false
abbrev fn1 (y4 y5 : Nat) : Value := .func (.func 19) #[] #[ptr y4, ptr y5]
abbrev fn2 (y5 y6 : Nat) : Value := .func (.func 21) #[] #[ptr y5, ptr y6]
abbrev fn3 (y4 y5 y7 : Nat) : Value := .func (.func 22) #[] #[ptr y4, ptr y5, ptr y7]
abbrev fn4 (y4 y5 : Nat) : Value := .func (.func 24) #[] #[ptr y4, ptr y5]
abbrev fn5 (y7 y5 : Nat) : Value := .func (.func 25) #[] #[ptr y7, ptr y5]
theorem st_fn (f : Fn) (x y : Array Value) (a : Addr) (w : World) (m : Mode) : (store a (.func f x y) m).run Try.prog w = stored Try.prog w a (.func f x y) m := run_store _ w a _ m rfl

/-- The error of the first of five that is so. -/
def firstE (b1 b2 b3 b4 b5 : Bool) : Int := if b1 = true then 20 else if b2 = true then 20 else if b3 = true then 20 else if b4 = true then 22 else if b5 = true then 21 else 0
theorem firstE_chk (U : List Int) (G : List Crt) (S : List Int) (c : Crt) (v now : Int) : firstE (!gvB G c) (c.v != v) (!trB U c.r now) (decide (c.s ∈ S)) (decide (now < c.f) || decide (c.t ≤ now)) = chkE U G S c v now := by
  unfold firstE chkE
  cases gvB G c <;> cases trB U c.r now <;> simp

set_option maxHeartbeats 4000000 in
set_option maxRecDepth 20000 in
theorem first_any (w : World) (g : Nat) (y4 y5 y6 y7 : Nat) (b1 b2 b3 b4 b5 : Bool) (hg : w.heap[g]? = some (.cells #[fn1 y4 y5, I 20, fn2 y5 y6, I 20, fn3 y4 y5 y7, I 20, fn4 y4 y5, I 22, fn5 y7 y5, I 21] 47 (0, 0)))
    (k1 : ∀ w', Bl w w' → Calls Try.prog 19 #[ptr y4, ptr y5] w' fun e w'' => e = .returned (.bool b1) ∧ Bl w' w'')
    (k2 : ∀ w', Bl w w' → Calls Try.prog 21 #[ptr y5, ptr y6] w' fun e w'' => e = .returned (.bool b2) ∧ Bl w' w'')
    (k3 : ∀ w', Bl w w' → Calls Try.prog 22 #[ptr y4, ptr y5, ptr y7] w' fun e w'' => e = .returned (.bool b3) ∧ Bl w' w'')
    (k4 : ∀ w', Bl w w' → Calls Try.prog 24 #[ptr y4, ptr y5] w' fun e w'' => e = .returned (.bool b4) ∧ Bl w' w'')
    (k5 : ∀ w', Bl w w' → Calls Try.prog 25 #[ptr y7, ptr y5] w' fun e w'' => e = .returned (.bool b5) ∧ Bl w' w'') :
    Calls Try.prog 18 #[.slice (some ⟨g, 0, none⟩) 5 5] w fun e w' => e = .returned (I (firstE b1 b2 b3 b4 b5)) ∧ Bl w w' := by
  have sf1 := fun a => st_fn (.func 19) #[] #[ptr y4, ptr y5] a
  have sf2 := fun a => st_fn (.func 21) #[] #[ptr y5, ptr y6] a
  have sf3 := fun a => st_fn (.func 22) #[] #[ptr y4, ptr y5, ptr y7] a
  have sf4 := fun a => st_fn (.func 24) #[] #[ptr y4, ptr y5] a
  have sf5 := fun a => st_fn (.func 25) #[] #[ptr y7, ptr y5] a
  replace hg := Lib.hid hg
  replace k1 := Lib.hid k1
  replace k2 := Lib.hid k2
  replace k3 := Lib.hid k3
  replace k4 := Lib.hid k4
  replace k5 := Lib.hid k5
  go_enter Try.func18, Try.ntmps18
  go_wp2_with fail
  go_loopw [7] (fun i wr => ∃ k : Nat, k ≤ 5 ∧ i = I k ∧ (1 ≤ k → b1 = false) ∧ (2 ≤ k → b2 = false) ∧ (3 ≤ k → b3 = false) ∧ (4 ≤ k → b4 = false) ∧ (5 ≤ k → b5 = false) ∧ Bl w wr) (fun i _ => 5 - (intOf i).toNat)
  case atStart => exact ⟨0, by omega, rfl, by omega, by omega, by omega, by omega, by omega, Bl.rfl' _⟩
  case round =>
    obtain ⟨k, hk, rfl, n1, n2, n3, n4, n5, hbr⟩ := hrel
    have hg2 := blk_bl hg.out hbr
    have e0 := cell_at hg2 0; have e1 := cell_at hg2 1; have e2 := cell_at hg2 2; have e3 := cell_at hg2 3; have e4 := cell_at hg2 4
    have e5 := cell_at hg2 5; have e6 := cell_at hg2 6; have e7 := cell_at hg2 7; have e8 := cell_at hg2 8; have e9 := cell_at hg2 9
    simp only [List.getElem?_toArray, List.getElem?_cons_succ, List.getElem?_cons_zero] at e0 e1 e2 e3 e4 e5 e6 e7 e8 e9
    have hk' : k = 0 ∨ k = 1 ∨ k = 2 ∨ k = 3 ∨ k = 4 ∨ k = 5 := by omega
    clear hg2
    rcases hk' with rfl | rfl | rfl | rfl | rfl | rfl
    · have hY := heap_alloc_new wr (.cells #[fn1 y4 y5, I 20] 47)
      have hal := hbr.al (.cells #[fn1 y4 y5, I 20] 47)
      replace hY := Lib.hid hY
      replace hal := Lib.hid hal
      go_wp2_with fail
      first | with_reducible refine (k1.out _ hal.out).mono ?_ | refine (k1.out _ hal.out).mono ?_
      rintro e w2 ⟨rfl, hb2⟩
      have z1 := cell_at (blk_bl hY.out hb2) 1
      simp only [List.getElem?_toArray, List.getElem?_cons_succ, List.getElem?_cons_zero] at z1
      have hb3 := hal.out.tr hb2
      clear hY hal hb2
      cases b1 with
      | true =>
        go_wp2_with fail
        go_ret
        exact ⟨by unfold firstE; simp_all, hb3⟩
      | false =>
        go_wp2_with fail
        go_roundw
        case rel => exact ⟨1, by omega, rfl, by simp_all, by simp_all, by simp_all, by simp_all, by simp_all, hb3⟩
        case measure => simp [intOf] <;> omega
    · have hY := heap_alloc_new wr (.cells #[fn2 y5 y6, I 20] 47)
      have hal := hbr.al (.cells #[fn2 y5 y6, I 20] 47)
      replace hY := Lib.hid hY
      replace hal := Lib.hid hal
      go_wp2_with fail
      first | with_reducible refine (k2.out _ hal.out).mono ?_ | refine (k2.out _ hal.out).mono ?_
      rintro e w2 ⟨rfl, hb2⟩
      have z1 := cell_at (blk_bl hY.out hb2) 1
      simp only [List.getElem?_toArray, List.getElem?_cons_succ, List.getElem?_cons_zero] at z1
      have hb3 := hal.out.tr hb2
      clear hY hal hb2
      cases b2 with
      | true =>
        go_wp2_with fail
        go_ret
        exact ⟨by unfold firstE; simp_all, hb3⟩
      | false =>
        go_wp2_with fail
        go_roundw
        case rel => exact ⟨2, by omega, rfl, by simp_all, by simp_all, by simp_all, by simp_all, by simp_all, hb3⟩
        case measure => simp [intOf] <;> omega
    · have hY := heap_alloc_new wr (.cells #[fn3 y4 y5 y7, I 20] 47)
      have hal := hbr.al (.cells #[fn3 y4 y5 y7, I 20] 47)
      replace hY := Lib.hid hY
      replace hal := Lib.hid hal
      go_wp2_with fail
      first | with_reducible refine (k3.out _ hal.out).mono ?_ | refine (k3.out _ hal.out).mono ?_
      rintro e w2 ⟨rfl, hb2⟩
      have z1 := cell_at (blk_bl hY.out hb2) 1
      simp only [List.getElem?_toArray, List.getElem?_cons_succ, List.getElem?_cons_zero] at z1
      have hb3 := hal.out.tr hb2
      clear hY hal hb2
      cases b3 with
      | true =>
        go_wp2_with fail
        go_ret
        exact ⟨by unfold firstE; simp_all, hb3⟩
      | false =>
        go_wp2_with fail
        go_roundw
        case rel => exact ⟨3, by omega, rfl, by simp_all, by simp_all, by simp_all, by simp_all, by simp_all, hb3⟩
        case measure => simp [intOf] <;> omega
    · have hY := heap_alloc_new wr (.cells #[fn4 y4 y5, I 22] 47)
      have hal := hbr.al (.cells #[fn4 y4 y5, I 22] 47)
      replace hY := Lib.hid hY
      replace hal := Lib.hid hal
      go_wp2_with fail
      first | with_reducible refine (k4.out _ hal.out).mono ?_ | refine (k4.out _ hal.out).mono ?_
      rintro e w2 ⟨rfl, hb2⟩
      have z1 := cell_at (blk_bl hY.out hb2) 1
      simp only [List.getElem?_toArray, List.getElem?_cons_succ, List.getElem?_cons_zero] at z1
      have hb3 := hal.out.tr hb2
      clear hY hal hb2
      cases b4 with
      | true =>
        go_wp2_with fail
        go_ret
        exact ⟨by unfold firstE; simp_all, hb3⟩
      | false =>
        go_wp2_with fail
        go_roundw
        case rel => exact ⟨4, by omega, rfl, by simp_all, by simp_all, by simp_all, by simp_all, by simp_all, hb3⟩
        case measure => simp [intOf] <;> omega
    · have hY := heap_alloc_new wr (.cells #[fn5 y7 y5, I 21] 47)
      have hal := hbr.al (.cells #[fn5 y7 y5, I 21] 47)
      replace hY := Lib.hid hY
      replace hal := Lib.hid hal
      go_wp2_with fail
      first | with_reducible refine (k5.out _ hal.out).mono ?_ | refine (k5.out _ hal.out).mono ?_
      rintro e w2 ⟨rfl, hb2⟩
      have z1 := cell_at (blk_bl hY.out hb2) 1
      simp only [List.getElem?_toArray, List.getElem?_cons_succ, List.getElem?_cons_zero] at z1
      have hb3 := hal.out.tr hb2
      clear hY hal hb2
      cases b5 with
      | true =>
        go_wp2_with fail
        go_ret
        exact ⟨by unfold firstE; simp_all, hb3⟩
      | false =>
        go_wp2_with fail
        go_roundw
        case rel => exact ⟨5, by omega, rfl, by simp_all, by simp_all, by simp_all, by simp_all, by simp_all, hb3⟩
        case measure => simp [intOf] <;> omega
    · go_wp2_with fail
      go_ret
      exact ⟨by unfold firstE; simp_all, hbr⟩

theorem boxes (w : World) (p : Nat) (c : Crt) (v now : Int) (o : Obj) :
    Boxed (((((w.alloc (.cells #[ptr p] 25)).alloc (.cells #[I c.s, I c.r, I c.v, I c.f, I c.t] 24)).alloc (.cells #[I v] 3)).alloc (.cells #[I now] 3)).alloc o) p c v now w.heap.size (w.heap.size + 1) (w.heap.size + 1 + 1) (w.heap.size + 1 + 1 + 1) ∧
    Bl w (((((w.alloc (.cells #[ptr p] 25)).alloc (.cells #[I c.s, I c.r, I c.v, I c.f, I c.t] 24)).alloc (.cells #[I v] 3)).alloc (.cells #[I now] 3)).alloc o) ∧
    (((((w.alloc (.cells #[ptr p] 25)).alloc (.cells #[I c.s, I c.r, I c.v, I c.f, I c.t] 24)).alloc (.cells #[I v] 3)).alloc (.cells #[I now] 3)).alloc o).heap[w.heap.size + 1 + 1 + 1 + 1]? = some o := by
  have h4 := heap_alloc_new w (.cells #[ptr p] 25)
  obtain ⟨w1, e1⟩ : ∃ z_, (w.alloc (.cells #[ptr p] 25)) = z_ := ⟨_, rfl⟩
  have s1 : w1.heap.size = w.heap.size + 1 := by rw [← e1]; simp
  have b1 : Bl w w1 := by rw [← e1]; exact (Bl.rfl' w).al _
  rw [e1] at h4 ⊢
  have h5 := heap_alloc_new w1 (.cells #[I c.s, I c.r, I c.v, I c.f, I c.t] 24)
  obtain ⟨w2, e2⟩ : ∃ z_, (w1.alloc (.cells #[I c.s, I c.r, I c.v, I c.f, I c.t] 24)) = z_ := ⟨_, rfl⟩
  have s2 : w2.heap.size = w.heap.size + 1 + 1 := by rw [← e2]; simp [s1]
  have b2 : Bl w1 w2 := by rw [← e2]; exact (Bl.rfl' w1).al _
  rw [e2] at h5 ⊢
  have h6 := heap_alloc_new w2 (.cells #[I v] 3)
  obtain ⟨w3, e3⟩ : ∃ z_, (w2.alloc (.cells #[I v] 3)) = z_ := ⟨_, rfl⟩
  have s3 : w3.heap.size = w.heap.size + 1 + 1 + 1 := by rw [← e3]; simp [s2]
  have b3 : Bl w2 w3 := by rw [← e3]; exact (Bl.rfl' w2).al _
  rw [e3] at h6 ⊢
  have h7 := heap_alloc_new w3 (.cells #[I now] 3)
  obtain ⟨w4, e4⟩ : ∃ z_, (w3.alloc (.cells #[I now] 3)) = z_ := ⟨_, rfl⟩
  have s4 : w4.heap.size = w.heap.size + 1 + 1 + 1 + 1 := by rw [← e4]; simp [s3]
  have b4 : Bl w3 w4 := by rw [← e4]; exact (Bl.rfl' w3).al _
  rw [e4] at h7 ⊢
  have b5 : Bl w4 (w4.alloc o) := (Bl.rfl' w4).al _
  rw [s1] at h5; rw [s2] at h6; rw [s3] at h7
  refine ⟨⟨blk_bl h4 (((b2.tr b3).tr b4).tr b5), blk_bl h5 ((b3.tr b4).tr b5), blk_bl h6 (b4.tr b5), blk_bl h7 b5⟩, (((b1.tr b2).tr b3).tr b4).tr b5, ?_⟩
  rw [← s4]; exact heap_alloc_new w4 o

set_option maxHeartbeats 4000000 in
set_option maxRecDepth 20000 in
theorem check_any {ks : Nat → Prop} {w : World} {p : Nat} {U : List Int} {G : List Crt} {S : List Int} (h : CA ks w p U G S) (hU : U.length ≤ 1000) (hG : G.length ≤ 1000) (c : Crt) (v now : Int) (hc : okCrt c) :
    Calls Try.prog 9 #[ptr p, cv c, I v, I now] w fun e w' => e = .returned (I (chkE U G S c v now)) ∧ Bl w w' := by
  have FA := Lib.hid (fun w' => first_any w' (w.heap.size + 1 + 1 + 1 + 1) w.heap.size (w.heap.size + 1) (w.heap.size + 1 + 1) (w.heap.size + 1 + 1 + 1) (!gvB G c) (c.v != v) (!trB U c.r now) (decide (c.s ∈ S)) (decide (now < c.f) || decide (c.t ≤ now)))
  simp only [firstE_chk] at FA
  have C1 := Lib.hid (fun w' (hb : Bl w w') hx => c1_any (v := v) (now := now) (y4 := w.heap.size) (y5 := w.heap.size + 1) (y6 := w.heap.size + 1 + 1) (y7 := w.heap.size + 1 + 1 + 1) (h.bl hb) hG hx hc)
  have C3 := Lib.hid (fun w' (hb : Bl w w') hx => c3_any (v := v) (now := now) (y4 := w.heap.size) (y5 := w.heap.size + 1) (y6 := w.heap.size + 1 + 1) (y7 := w.heap.size + 1 + 1 + 1) (h.bl hb) hU hx hc)
  have C4 := Lib.hid (fun w' (hb : Bl w w') hx => c4_any (c := c) (v := v) (now := now) (y4 := w.heap.size) (y5 := w.heap.size + 1) (y6 := w.heap.size + 1 + 1) (y7 := w.heap.size + 1 + 1 + 1) (h.bl hb) hx)
  have C2 := Lib.hid (fun w' hx => c2_any (w := w') (p := p) (c := c) (v := v) (now := now) (y4 := w.heap.size) (y5 := w.heap.size + 1) (y6 := w.heap.size + 1 + 1) (y7 := w.heap.size + 1 + 1 + 1) hx)
  have C5 := Lib.hid (fun w' hx => c5_any (w := w') (p := p) (c := c) (v := v) (now := now) (y4 := w.heap.size) (y5 := w.heap.size + 1) (y6 := w.heap.size + 1 + 1) (y7 := w.heap.size + 1 + 1 + 1) hx)
  obtain ⟨E, hE⟩ : ∃ z_, (chkE U G S c v now) = z_ := ⟨_, rfl⟩
  rw [hE] at FA ⊢
  obtain ⟨hx, hb, hg⟩ := boxes w p c v now (.cells #[fn1 w.heap.size (w.heap.size + 1), I 20, fn2 (w.heap.size + 1) (w.heap.size + 1 + 1), I 20, fn3 w.heap.size (w.heap.size + 1) (w.heap.size + 1 + 1 + 1), I 20, fn4 w.heap.size (w.heap.size + 1), I 22, fn5 (w.heap.size + 1 + 1 + 1) (w.heap.size + 1), I 21] 47)
  replace hx := Lib.hid hx
  replace hb := Lib.hid hb
  replace hg := Lib.hid hg
  obtain ⟨s, r, cv', f, t⟩ := c
  clear h hc
  go_enter Try.func9, Try.ntmps9
  go_wp2_with fail
  refine (FA.out _ hg.out (fun w' hw => C1.out w' (hb.out.tr hw) (hx.out.bl hw)) (fun w' hw => C2.out w' (hx.out.bl hw)) (fun w' hw => C3.out w' (hb.out.tr hw) (hx.out.bl hw)) (fun w' hw => C4.out w' (hb.out.tr hw) (hx.out.bl hw)) (fun w' hw => C5.out w' (hx.out.bl hw))).mono ?_
  rintro e w' ⟨rfl, hb'⟩
  have hb2 := hb.out.tr hb'
  go_wp2_with fail
  go_ret
  exact ⟨rfl, hb2⟩
end Go.Proofs.Ytajnhjcinpdfhaa.cert
