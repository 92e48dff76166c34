/-
  Package dedup: a table with what holds of it; the example.
-/
import Derived.Test.YtfpapfnpppggeaaDdD
namespace Go.Proofs.Ytfpapfnpppggeaa.dedup
open Go.ChangeShapes Go.WideShapes Go.ChangeAt Go.RowKit
set_option linter.unusedVariables false
set_option linter.unusedSimpArgs false

/-- A table that was told of nothing later than now. -/
def St (ks : Nat → Prop) (w : World) (p : Nat) (h now : Int) (R : List En) : Prop := TB ks w p h R ∧ InvR h R ∧ ∀ x ∈ R, x.a ≤ now
theorem St.bl {ks w w' p h now R} (t : St ks w p h now R) (hb : Bl w w') : St ks w' p h now R := ⟨t.1.bl hb, t.2⟩
theorem St.tch {ks ps : Nat → Prop} {w w' : World} {p h now R} (t : St ks w p h now R) (hb : Tch ps w w') (hn : ∀ k, ks k → ¬ ps k) : St ks w' p h now R := ⟨t.1.tch hb hn, t.2⟩
theorem St.bound {ks qs : Nat → Prop} {w w' : World} {p h now R} (t : St ks w p h now R) (hs : w.heap.size ≤ w'.heap.size) (hq : ∀ k : Nat, ks k → k < w'.heap.size → qs k) : St qs w p h now R := ⟨t.1.bound hs hq, t.2⟩
theorem left_le {h now t : Int} {R : List En} (hn : ∀ x ∈ R, x.a ≤ now) : ∀ x ∈ leftR h t R, x.a ≤ now := fun x hx => hn x ((List.dropWhile_sublist _).subset hx)
theorem putR_le {h now0 now : Int} {R : List En} {key : ByteArray} (hn : ∀ x ∈ R, x.a ≤ now0) (h1 : now0 ≤ now) : ∀ x ∈ putR h now R key, x.a ≤ now := by
  intro x hx
  unfold putR at hx
  split at hx
  · have := hn x hx; omega
  · rcases List.mem_append.1 hx with hx | hx
    · have := hn x hx; omega
    · simp only [List.mem_singleton] at hx; subst hx; exact Int.le_refl _
theorem putR_inv {h now0 now : Int} {R : List En} {key : ByteArray} (hi : InvR h R) (hn : ∀ x ∈ R, x.a ≤ now0) (h1 : now0 ≤ now) (n0 : 0 ≤ now) (n1 : now ≤ 4000000000) : InvR h (putR h now R key) := by
  unfold putR
  cases hr : remB h now R key with
  | true => simpa using hi
  | false => simpa using hi.put (fun x hx => by have := hn x hx; omega) n0 n1 hr
theorem putR_len {h now : Int} {R : List En} {key : ByteArray} : (leftR h now (putR h now R key)).length ≤ R.length + 1 := by
  refine Nat.le_trans leftR_len ?_
  unfold putR
  split
  · omega
  · simp
theorem new_st (w : World) (h : Int) : Calls Try.prog 11 #[I h] w fun e w' => ∃ p, e = .returned (ptr p) ∧ St (fun k => w.heap.size ≤ k) w' p h 0 [] ∧ Bl w w' :=
  (new_any w h).mono fun e w' ⟨p, h1, h2, h3⟩ => ⟨p, h1, ⟨h2, ⟨List.Pairwise.nil, fun x hx => by simp at hx⟩, fun x hx => by simp at hx⟩, h3⟩
theorem put_st {ks : Nat → Prop} {w : World} {p : Nat} {h now0 : Int} {R : List En} (t : St ks w p h now0 R) (hR : R.length ≤ 100000) (h0 : 1 ≤ h) (h1 : h ≤ 1000000) (now : Int) (key : ByteArray) (hn : now0 ≤ now) (n0 : 0 ≤ now) (n1 : now ≤ 4000000000) :
    Calls Try.prog 16 #[ptr p, I now, sV key] w fun e w' => e = .returned (.bool (!remB h now R key)) ∧ St (grw ks w w') w' p h now (leftR h now (putR h now R key)) ∧ Tch ks w w' :=
  (put_any t.1 t.2.1 hR h0 h1 now key (fun x hx => by have := t.2.2 x hx; omega) n0 n1).mono fun e w' ⟨g1, g2, g3⟩ =>
    ⟨g1, ⟨g2, (putR_inv t.2.1 t.2.2 hn n0 n1).left, left_le (putR_le t.2.2 hn)⟩, g3⟩
theorem has_st {ks : Nat → Prop} {w : World} {p : Nat} {h now0 : Int} {R : List En} (t : St ks w p h now0 R) (hR : R.length ≤ 1000000) (h0 : 1 ≤ h) (h1 : h ≤ 1000000) (now : Int) (key : ByteArray) (hn : now0 ≤ now) :
    Calls Try.prog 13 #[ptr p, I now, sV key] w fun e w' => e = .returned (.bool (remB h now R key)) ∧ St ks w' p h now (leftR h now R) ∧ Tch ks w w' :=
  (has_any t.1 t.2.1 hR h0 h1 now key).mono fun e w' ⟨g1, g2, g3⟩ =>
    ⟨g1, ⟨g2, t.2.1.left, fun x hx => by have := left_le (h := h) (t := now) t.2.2 x hx; omega⟩, g3⟩
theorem len_st {ks : Nat → Prop} {w : World} {p : Nat} {h now0 : Int} {R : List En} (t : St ks w p h now0 R) (hR : R.length ≤ 1000000) (h0 : 1 ≤ h) (h1 : h ≤ 1000000) (now : Int) (hn : now0 ≤ now) :
    Calls Try.prog 17 #[ptr p, I now] w fun e w' => e = .returned (I (cntK (leftR h now R))) ∧ St ks w' p h now (leftR h now R) ∧ Tch ks w w' :=
  (len_any t.1 t.2.1 hR h0 h1 now).mono fun e w' ⟨g1, g2, g3⟩ =>
    ⟨g1, ⟨g2, t.2.1.left, fun x hx => by have := left_le (h := h) (t := now) t.2.2 x hx; omega⟩, g3⟩
/-- One table alone above a world: nothing below is turned. -/
def Up (w0 w : World) (p : Nat) (h now : Int) (R : List En) : Prop := St (fun k => w0.heap.size ≤ k) w p h now R ∧ Bl w0 w
theorem new_up (w0 w : World) (hb : Bl w0 w) (h : Int) : Calls Try.prog 11 #[I h] w fun e w' => ∃ p, e = .returned (ptr p) ∧ Up w0 w' p h 0 [] :=
  (new_st w h).mono fun e w' ⟨p, h1, h2, h3⟩ => ⟨p, h1, h2.bound (Nat.le_refl _) (fun k hk _ => Nat.le_trans hb.size hk), hb.tr h3⟩
theorem put_up {w0 w : World} {p : Nat} {h now0 : Int} {R : List En} (t : Up w0 w p h now0 R) (hR : R.length ≤ 100000) (h0 : 1 ≤ h) (h1 : h ≤ 1000000) (now : Int) (key : ByteArray) (hn : now0 ≤ now) (n0 : 0 ≤ now) (n1 : now ≤ 4000000000) :
    Calls Try.prog 16 #[ptr p, I now, sV key] w fun e w' => e = .returned (.bool (!remB h now R key)) ∧ Up w0 w' p h now (leftR h now (putR h now R key)) :=
  (put_st t.1 hR h0 h1 now key hn n0 n1).mono fun e w' ⟨g1, g2, g3⟩ =>
    ⟨g1, g2.bound (Nat.le_refl _) (fun k hk _ => by rcases hk.1 with h | h; exact h; exact Nat.le_trans t.2.size h), t.2.tch g3 (fun k hk => hk)⟩
theorem has_up {w0 w : World} {p : Nat} {h now0 : Int} {R : List En} (t : Up w0 w p h now0 R) (hR : R.length ≤ 1000000) (h0 : 1 ≤ h) (h1 : h ≤ 1000000) (now : Int) (key : ByteArray) (hn : now0 ≤ now) :
    Calls Try.prog 13 #[ptr p, I now, sV key] w fun e w' => e = .returned (.bool (remB h now R key)) ∧ Up w0 w' p h now (leftR h now R) :=
  (has_st t.1 hR h0 h1 now key hn).mono fun e w' ⟨g1, g2, g3⟩ => ⟨g1, g2, t.2.tch g3 (fun k hk => hk)⟩
theorem len_up {w0 w : World} {p : Nat} {h now0 : Int} {R : List En} (t : Up w0 w p h now0 R) (hR : R.length ≤ 1000000) (h0 : 1 ≤ h) (h1 : h ≤ 1000000) (now : Int) (hn : now0 ≤ now) :
    Calls Try.prog 17 #[ptr p, I now] w fun e w' => e = .returned (I (cntK (leftR h now R))) ∧ Up w0 w' p h now (leftR h now R) :=
  (len_st t.1 hR h0 h1 now hn).mono fun e w' ⟨g1, g2, g3⟩ => ⟨g1, g2, t.2.tch g3 (fun k hk => hk)⟩

abbrev k7 : ByteArray := ⟨#[55]⟩
set_option maxHeartbeats 4000000 in
theorem lives_any (w : World) : Calls Try.prog 19 #[] w fun e w' => e = .returned (.bool true) ∧ Bl w w' := by
  have NW := Lib.hid (new_up w w (Bl.rfl' w) 10)
  go_enter Try.func19, Try.ntmps19
  go_wp2_with fail
  with_reducible refine (NW.out).mono ?_
  rintro e w1 ⟨p, rfl, u1⟩
  have P1 := Lib.hid (put_up u1 (by decide) (by decide) (by decide) 5 k7 (by decide) (by decide) (by decide))
  rw [show remB 10 5 [] k7 = false from rfl, show leftR 10 5 (putR 10 5 [] k7) = [⟨5, k7⟩] from rfl] at P1
  clear u1
  go_wp2_with fail
  with_reducible refine (P1.out).mono ?_
  rintro e w2 ⟨rfl, u2⟩
  have P2 := Lib.hid (put_up u2 (by decide) (by decide) (by decide) 14 k7 (by decide) (by decide) (by decide))
  rw [show remB 10 14 [⟨5, k7⟩] k7 = true from by decide, show leftR 10 14 (putR 10 14 [⟨5, k7⟩] k7) = [⟨5, k7⟩] from rfl] at P2
  clear u2
  go_wp2_with fail
  with_reducible refine (P2.out).mono ?_
  rintro e w3 ⟨rfl, u3⟩
  have P3 := Lib.hid (put_up u3 (by decide) (by decide) (by decide) 15 k7 (by decide) (by decide) (by decide))
  rw [show remB 10 15 [⟨5, k7⟩] k7 = false from by decide, show leftR 10 15 (putR 10 15 [⟨5, k7⟩] k7) = [⟨15, k7⟩] from rfl] at P3
  clear u3
  go_wp2_with fail
  with_reducible refine (P3.out).mono ?_
  rintro e w4 ⟨rfl, u4⟩
  have P4 := Lib.hid (has_up u4 (by decide) (by decide) (by decide) 24 k7 (by decide))
  rw [show remB 10 24 [⟨15, k7⟩] k7 = true from by decide, show leftR 10 24 [⟨15, k7⟩] = [⟨15, k7⟩] from rfl] at P4
  clear u4
  go_wp2_with fail
  with_reducible refine (P4.out).mono ?_
  rintro e w5 ⟨rfl, u5⟩
  have P5 := Lib.hid (has_up u5 (by decide) (by decide) (by decide) 25 k7 (by decide))
  rw [show remB 10 25 [⟨15, k7⟩] k7 = false from by decide] at P5
  clear u5
  go_wp2_with fail
  with_reducible refine (P5.out).mono ?_
  rintro e w6 ⟨rfl, u6⟩
  go_wp2_with fail
  go_ret
  exact ⟨rfl, u6.2⟩
end Go.Proofs.Ytfpapfnpppggeaa.dedup
