/-
  Package dedup: a table, what it remembers; New, remembers.
-/
import Derived.Test.YtfpapfnpppggeaaOff
import Derived.Test.YtfpapfnpppggeaaMp
import Derived.Test.YtfpapfnpppggeaaKit2
namespace Go.Proofs.Ytfpapfnpppggeaa.dedup
open Go.ChangeShapes Go.WideShapes Go.ChangeAt Go.RowKit
set_option linter.unusedVariables false
set_option linter.unusedSimpArgs false
abbrev ptr (p : Nat) : Value := .pointer (some ⟨p, 0, none⟩)
abbrev sV (s : ByteArray) : Value := .string s

/-- A key that was put, and when. -/
structure En where
  a : Int
  k : ByteArray
abbrev eB (x : En) : List Value := [I x.a, sV x.k]
abbrev e0 : En := ⟨0, ⟨#[]⟩⟩
theorem eB_len : ∀ x, (eB x).length = 2 := fun _ => rfl
/-- When a key was put last. -/
def lastF : List En → ByteArray → Option Int
  | [], _ => none
  | e :: R, key => match lastF R key with
    | some a => some a
    | none => if e.k = key then some e.a else none
def FV (R : List En) : ByteArray → Option Value := fun k => (lastF R k).map I
def cntK : List En → Nat
  | [] => 0
  | e :: R => if (lastF R e.k).isSome = true then cntK R else cntK R + 1
/-- Rising; and of one key not within the horizon. -/
def InvR (h : Int) (R : List En) : Prop := R.Pairwise (fun x y => x.a ≤ y.a ∧ (x.k = y.k → x.a + h ≤ y.a)) ∧ ∀ x ∈ R, 0 ≤ x.a ∧ x.a ≤ 4000000000
theorem lastF_mem : ∀ (R : List En) (key : ByteArray) (a : Int), lastF R key = some a → ∃ y ∈ R, y.k = key ∧ y.a = a
  | [], _, _, h => by simp [lastF] at h
  | e :: R, key, a, h => by
    unfold lastF at h
    cases hl : lastF R key with
    | some b =>
      rw [hl] at h; cases h
      obtain ⟨y, hy, h1⟩ := lastF_mem R key a hl
      exact ⟨y, List.mem_cons_of_mem _ hy, h1⟩
    | none =>
      rw [hl] at h
      simp only at h
      split at h
      · rename_i hk; cases h; exact ⟨e, List.mem_cons_self .., hk, rfl⟩
      · cases h
/-- What the first one was is let go: if its key was put again since, nothing turns. -/
theorem FV_again {e : En} {R : List En} {a : Int} (h : lastF R e.k = some a) : FV (e :: R) = FV R ∧ cntK (e :: R) = cntK R := by
  refine ⟨?_, ?_⟩
  · funext k
    unfold FV
    conv => lhs; unfold lastF
    cases hl : lastF R k with
    | some b => rfl
    | none =>
      by_cases hk : e.k = k
      · subst hk; rw [h] at hl; cases hl
      · simp [hk]
  · conv => lhs; unfold cntK
    rw [h]; rfl
theorem FV_gone {e : En} {R : List En} (h : lastF R e.k = none) : FV R = delK (FV (e :: R)) e.k ∧ cntK R = cntK (e :: R) - 1 ∧ FV (e :: R) e.k = some (I e.a) := by
  refine ⟨?_, ?_, ?_⟩
  · funext k
    unfold delK FV
    by_cases hk : k = e.k
    · subst hk; rw [if_pos rfl, h]; rfl
    · rw [if_neg hk]
      conv => rhs; unfold lastF
      cases hl : lastF R k with
      | some b => rfl
      | none =>
        have hk' : ¬ e.k = k := fun hh => hk hh.symm
        simp [hk']
  · conv => rhs; unfold cntK
    rw [h]; simp
  · unfold FV lastF
    rw [h]; simp

def TB (ks : Nat → Prop) (w : World) (p : Nat) (h : Int) (R : List En) : Prop :=
  ∃ v mr, w.heap[p]? = some (.cells #[I h, .map (some mr), v] 48 (0, 0)) ∧ OffB eB 2 53 w v R ∧ MpK sV w mr (FV R) (cntK R) ∧ ks p ∧ ks mr ∧ (∀ k, v.ownBlock = some k → ks k)
theorem TB.lt {ks w p h R} (t : TB ks w p h R) : p < w.heap.size := by obtain ⟨_, _, h, _⟩ := t; exact lt_of_block h
theorem TB.tch {ks ps : Nat → Prop} {w w' : World} {p : Nat} {h : Int} {R : List En} (t : TB ks w p h R) (hb : Tch ps w w') (hn : ∀ k, ks k → ¬ ps k) : TB ks w' p h R := by
  obtain ⟨v, mr, h1, h2, h3, h4, h5, h6⟩ := t
  exact ⟨v, mr, hb.var h1 (hn _ h4), h2.tch hb (fun k hk => hn _ (h6 k hk)), h3.tch hb (hn _ h5), h4, h5, h6⟩
theorem TB.bl {ks w w' p h R} (t : TB ks w p h R) (hb : Bl w w') : TB ks w' p h R := t.tch (Tch.bl (ps := fun _ => False) hb) (fun _ _ h => h)
theorem zeroI (w : World) : (zeroValue 3).run Try.prog w = .ok (I 0) w := by rfl

theorem new_any (w : World) (h : Int) : Calls Try.prog 11 #[I h] w fun e w' => ∃ p, e = .returned (ptr p) ∧ TB (fun k => w.heap.size ≤ k) w' p h [] ∧ Bl w w' := by
  have hm : (Instr.makeMap 45 none).run Try.prog w = .ok (.map (some w.heap.size)) (w.alloc (.map #[] 0)) := by rfl
  go_enter Try.func11, Try.ntmps11
  go_wp2_with fail
  have h1 := heap_alloc_new (w.alloc (.map #[] 0)) (.cells #[I h, .map (some w.heap.size), .slice none 0 0] 48)
  have hs : (w.alloc (.map #[] 0)).heap.size = w.heap.size + 1 := by simp
  have hm := (MpK.made (kenc := sV) w).bl ((Bl.rfl' _).al (.cells #[I h, .map (some w.heap.size), .slice none 0 0] 48))
  rw [hs] at h1
  go_ret
  exact ⟨_, rfl, ⟨_, _, h1, OffB.nil _, hm, by show w.heap.size ≤ _; omega, Nat.le_refl _, by simp [Value.ownBlock]⟩, ((Bl.rfl' w).al _).al _⟩

/-- Is a key remembered? -/
def remB (h now : Int) (R : List En) (key : ByteArray) : Bool := match lastF R key with
  | some a => decide (now < a + h)
  | none => false
theorem remembers_any {ks w p h R} (t : TB ks w p h R) (hi : InvR h R) (h0 : 1 ≤ h) (h1 : h ≤ 1000000) (now : Int) (key : ByteArray) :
    Calls Try.prog 24 #[ptr p, I now, sV key] w fun e w' => e = .returned (.bool (remB h now R key)) ∧ w = w' := by
  obtain ⟨v, mr, hp, -, hm, -⟩ := t
  have c0 := cell_at hp 0
  have c1 := cell_at hp 1
  simp only [List.getElem?_toArray, List.getElem?_cons_succ, List.getElem?_cons_zero] at c0 c1
  have L := (hm.run_look strKey Try.underlying45 Try.underlying9 (zeroI w) key).2
  have hb := fun a (h : lastF R key = some a) => lastF_mem R key a h
  unfold remB FV at *
  cases hl : lastF R key with
  | none =>
    rw [hl] at L
    simp only [Option.map_none, Option.getD_none, Option.isSome_none] at L
    clear hm hp hb hl
    go_enter Try.func24, Try.ntmps24
    go_wp2_with fail
    go_ret
    exact ⟨rfl, rfl⟩
  | some a =>
    rw [hl] at L
    simp only [Option.map_some, Option.getD_some, Option.isSome_some] at L
    obtain ⟨y, hy, -, hya⟩ := hb a hl
    have := hi.2 y hy
    rw [hya] at this
    clear hm hp hb hl hi hya
    go_enter Try.func24, Try.ntmps24
    go_wp2_with fail
    go_ret
    exact ⟨rfl, rfl⟩
end Go.Proofs.Ytfpapfnpppggeaa.dedup
