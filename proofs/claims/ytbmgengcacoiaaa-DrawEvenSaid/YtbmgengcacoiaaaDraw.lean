/-
  Package draw: scramble, Next, Below, Two: each by its contract.
-/
import Derived.Test.YtbmgengcacoiaaaGen
import Derived.Test.YtbmgengcacoiaaaKit2
namespace Go.Proofs.Ytbmgengcacoiaaa.draw
open Go.ChangeShapes Go.WideShapes Go.ChangeAt Go.RowKit
set_option linter.unusedVariables false
set_option linter.unusedSimpArgs false

/-! ### scramble -/
def mixN (s c z : Nat) : Nat := (z ^^^ z / s) * c % 18446744073709551616
def scrN (z : Nat) : Nat :=
  mixN 134217728 10723151780598845931 (mixN 1073741824 13787848793156543929 z) ^^^ mixN 134217728 10723151780598845931 (mixN 1073741824 13787848793156543929 z) / 2147483648
def scr (z : Int) : Int := (scrN z.toNat : Nat)
theorem xor_lt {a b : Nat} (ha : a < 18446744073709551616) (hb : b < 18446744073709551616) : a ^^^ b < 18446744073709551616 := Nat.xor_lt_two_pow (n := 64) ha hb
theorem mixN_lt (s c z : Nat) : mixN s c z < 18446744073709551616 := Nat.mod_lt _ (by omega)
theorem scrN_lt (z : Nat) : scrN z < 18446744073709551616 := xor_lt (mixN_lt ..) (Nat.lt_of_le_of_lt (Nat.div_le_self ..) (mixN_lt ..))
theorem scr_lo (z : Int) : 0 ≤ scr z := by unfold scr; omega
theorem scr_hi (z : Int) : scr z ≤ 18446744073709551615 := by have := scrN_lt z.toNat; unfold scr; omega

theorem xor_step (n s : Nat) (h : n < 18446744073709551616) : bits BinOp.xor IntKind.u64 (n : Int) ((n : Int) / (s : Int)) = ((n ^^^ n / s : Nat) : Int) := by
  have := bits_xor_u64_nat n (n / s) h (Nat.lt_of_le_of_lt (Nat.div_le_self ..) h)
  rw [← this]
  congr 1
theorem mul_step (n c : Nat) : IntKind.u64.wrap ((n : Int) * (c : Int)) = ((n * c % 18446744073709551616 : Nat) : Int) := by
  rw [IntKind.wrap_u64, ← Int.natCast_mul]; exact (Int.natCast_emod _ _).symm

theorem scr_eq (z : Int) (h0 : 0 ≤ z) (h1 : z ≤ 18446744073709551615) : scr z =
    bits BinOp.xor IntKind.u64 (IntKind.u64.wrap (bits BinOp.xor IntKind.u64 (IntKind.u64.wrap (bits BinOp.xor IntKind.u64 z (z / 1073741824) * 13787848793156543929)) (IntKind.u64.wrap (bits BinOp.xor IntKind.u64 z (z / 1073741824) * 13787848793156543929) / 134217728) * 10723151780598845931))
      (IntKind.u64.wrap (bits BinOp.xor IntKind.u64 (IntKind.u64.wrap (bits BinOp.xor IntKind.u64 z (z / 1073741824) * 13787848793156543929)) (IntKind.u64.wrap (bits BinOp.xor IntKind.u64 z (z / 1073741824) * 13787848793156543929) / 134217728) * 10723151780598845931) / 2147483648) := by
  obtain ⟨n, rfl⟩ := Int.eq_ofNat_of_zero_le h0
  have e1 : bits BinOp.xor IntKind.u64 (n : Int) ((n : Int) / 1073741824) = ((n ^^^ n / 1073741824 : Nat) : Int) := xor_step n 1073741824 (by omega)
  have e2 : IntKind.u64.wrap (((n ^^^ n / 1073741824 : Nat) : Int) * 13787848793156543929) = ((mixN 1073741824 13787848793156543929 n : Nat) : Int) := mul_step _ 13787848793156543929
  have e3 : bits BinOp.xor IntKind.u64 ((mixN 1073741824 13787848793156543929 n : Nat) : Int) (((mixN 1073741824 13787848793156543929 n : Nat) : Int) / 134217728) = ((mixN 1073741824 13787848793156543929 n ^^^ mixN 1073741824 13787848793156543929 n / 134217728 : Nat) : Int) := xor_step _ 134217728 (mixN_lt ..)
  have e4 : IntKind.u64.wrap (((mixN 1073741824 13787848793156543929 n ^^^ mixN 1073741824 13787848793156543929 n / 134217728 : Nat) : Int) * 10723151780598845931) = ((mixN 134217728 10723151780598845931 (mixN 1073741824 13787848793156543929 n) : Nat) : Int) := mul_step _ 10723151780598845931
  rw [e1, e2, e3, e4]
  exact (xor_step _ 2147483648 (mixN_lt ..)).symm

theorem scramble_any (z : Int) (w : World) (h0 : 0 ≤ z) (h1 : z ≤ 18446744073709551615) :
    Calls Try.prog 21 #[.int .u64 z] w fun e w' => e = .returned (.int .u64 (scr z)) ∧ w = w' := by
  have e := Lib.hid (scr_eq z h0 h1)
  go_enter Try.func21, Try.ntmps21
  go_wp2_with fail
  go_ret
  rw [e.out]
  exact ⟨rfl, rfl⟩

/-! ### Draws -/
abbrev U (n : Int) : Value := .int .u64 n
abbrev ptr (p : Nat) : Value := .pointer (some ⟨p, 0, none⟩)
abbrev fSaid (p : Nat) : Value := .func (.func 20) #[ptr p] #[]
abbrev fSeeded (p : Nat) : Value := .func (.func 22) #[ptr p] #[]

def DB (w : World) (p : Nat) (fn said : Value) (st u : Int) : Prop := w.heap[p]? = some (.cells #[fn, said, U st, .int .i64 u] 47 (0, 0))

theorem DB.c0 {w p fn said st u} (h : DB w p fn said st u) : w.cell? ⟨p, 0, none⟩ = some fn := by unfold DB at h; simp [World.cell?, h]
theorem DB.c1 {w p fn said st u} (h : DB w p fn said st u) : w.cell? ⟨p, 1, none⟩ = some said := by unfold DB at h; simp [World.cell?, h]
theorem DB.c2 {w p fn said st u} (h : DB w p fn said st u) : w.cell? ⟨p, 2, none⟩ = some (U st) := by unfold DB at h; simp [World.cell?, h]
theorem DB.c3 {w p fn said st u} (h : DB w p fn said st u) : w.cell? ⟨p, 3, none⟩ = some (.int .i64 u) := by unfold DB at h; simp [World.cell?, h]
theorem DB.free {w p fn said st u} (h : DB w p fn said st u) (i : Nat) : w.frozen? ⟨p, i, none⟩ = false := by unfold DB at h; simp [World.frozen?, h]
theorem DB.lt {w p fn said st u} (h : DB w p fn said st u) : p < w.heap.size := lt_of_block h
theorem DB.s0 {w p fn said st u} (h : DB w p fn said st u) (x : Value) : DB (w.setCell ⟨p, 0, none⟩ x) p x said st u := set_at 0 x h
theorem DB.s1 {w p fn said st u} (h : DB w p fn said st u) (x : Value) : DB (w.setCell ⟨p, 1, none⟩ x) p fn x st u := set_at 1 x h
theorem DB.s2 {w p fn said st u} (h : DB w p fn said st u) (x : Int) : DB (w.setCell ⟨p, 2, none⟩ (U x)) p fn said x u := set_at 2 (U x) h
theorem DB.s3 {w p fn said st u} (h : DB w p fn said st u) (x : Int) : DB (w.setCell ⟨p, 3, none⟩ (.int .i64 x)) p fn said st x := set_at 3 (.int .i64 x) h
theorem DB.drew {w p fn said st u} (h : DB w p fn said st u) : DB w.drew p fn said st u := h


theorem nextSeeded_any (w : World) (p : Nat) (fn said : Value) (st u : Int) (h : DB w p fn said st u) (h0 : 0 ≤ st) (h1 : st ≤ 18446744073709551615) :
    Calls Try.prog 22 #[ptr p] w fun e w' => e = .returned (U (scr (IntKind.u64.wrap (st + 11400714819323198485)))) ∧ DB w' p fn said (IntKind.u64.wrap (st + 11400714819323198485)) u ∧ w.grownBy w' (some p) := by
  have r : 0 ≤ IntKind.u64.wrap (st + 11400714819323198485) ∧ IntKind.u64.wrap (st + 11400714819323198485) ≤ 18446744073709551615 := by rw [IntKind.wrap_u64]; omega
  have S := Lib.hid (fun w => scramble_any _ w r.1 r.2)
  clear r
  have c2 := h.c2
  have f2 := h.free 2
  have h' := Lib.hid h; clear h
  go_enter Try.func22, Try.ntmps22
  go_wp2_with fail
  refine (S.out _).mono ?_
  rintro e w' ⟨rfl, rfl⟩
  go_wp2_with fail
  go_ret
  exact ⟨rfl, h'.out.s2 _, gby_set ..⟩

/-! ### The state: what is still said, the seed's state, how many were drawn -/
def SaidAt (lo : Nat) (w : World) (p : Nat) (v : Value) (ns : List Int) : Prop :=
  (∃ a cap, v = .slice a 0 cap ∧ ns = []) ∨ ∃ b off cap, v = .slice (some ⟨b, off, none⟩) ns.length cap ∧ ns.length ≤ cap ∧ cap ≤ maxLen ∧ lo ≤ b ∧ b < p ∧ ∀ i, i < ns.length → w.cell? ⟨b, off + i, none⟩ = some (U (ns.getD i 0))
theorem SaidAt.kept {lo : Nat} {w w' : World} {p : Nat} {v : Value} {ns : List Int} (h : SaidAt lo w p v ns) (hb : ∀ k, lo ≤ k → k < p → w'.heap[k]? = w.heap[k]?) : SaidAt lo w' p v ns := by
  rcases h with h | ⟨b, off, cap, h1, h2, h3, h0, h4, h6⟩
  · exact Or.inl h
  · exact Or.inr ⟨b, off, cap, h1, h2, h3, h0, h4, fun i hi => (World.cell?_of_block (hb b h0 h4)).trans (h6 i hi)⟩
theorem SaidAt.gby {lo : Nat} {w w' : World} {p : Nat} {v : Value} {ns : List Int} (h : SaidAt lo w p v ns) (hg : w.grownBy w' (some p)) (hp : p < w.heap.size) : SaidAt lo w' p v ns :=
  h.kept (fun k _ hk => hg.block k (by omega) (fun e => by have := Option.some.inj e; omega))

/-- The draws at p: what is said lies in a block from lo to below p. -/
def Dr (lo : Nat) (w : World) (p : Nat) (ns : List Int) (st u : Int) : Prop :=
  0 ≤ st ∧ st ≤ 18446744073709551615 ∧ u64ok ns ∧ lo ≤ p ∧ ((ns = [] ∧ ∃ said, DB w p (fSeeded p) said st u) ∨ (∃ said, DB w p (fSaid p) said st u ∧ SaidAt lo w p said ns))
abbrev At (w : World) (p : Nat) (ns : List Int) (st u : Int) : Prop := Dr 0 w p ns st u
/-- All of it lies in the blocks from lo to p. -/
theorem Dr.kept {lo : Nat} {w w' : World} {p : Nat} {ns : List Int} {st u : Int} (h : Dr lo w p ns st u) (hb : ∀ k, lo ≤ k → k ≤ p → w'.heap[k]? = w.heap[k]?) : Dr lo w' p ns st u := by
  obtain ⟨h1, h2, h3, h0, h⟩ := h
  refine ⟨h1, h2, h3, h0, ?_⟩
  rcases h with ⟨h4, s, h5⟩ | ⟨s, h5, h6⟩
  · exact Or.inl ⟨h4, s, (hb p h0 (Nat.le_refl _)).trans h5⟩
  · exact Or.inr ⟨s, (hb p h0 (Nat.le_refl _)).trans h5, h6.kept (fun k hl hk => hb k hl (by omega))⟩
theorem Dr.lt {lo : Nat} {w : World} {p : Nat} {ns : List Int} {st u : Int} (h : Dr lo w p ns st u) : p < w.heap.size := by
  obtain ⟨_, _, _, _, ⟨_, s, h⟩ | ⟨s, h, _⟩⟩ := h <;> exact h.lt
theorem Dr.weak {lo : Nat} {w : World} {p : Nat} {ns : List Int} {st u : Int} (h : Dr lo w p ns st u) : At w p ns st u := by
  obtain ⟨h1, h2, h3, h0, h⟩ := h
  refine ⟨h1, h2, h3, Nat.zero_le _, ?_⟩
  rcases h with h | ⟨s, h5, h6⟩
  · exact Or.inl h
  · refine Or.inr ⟨s, h5, ?_⟩
    rcases h6 with h | ⟨b, off, cap, a1, a2, a3, _, a4, a5⟩
    · exact Or.inl h
    · exact Or.inr ⟨b, off, cap, a1, a2, a3, Nat.zero_le _, a4, a5⟩
/-- A row outside of lo to p may turn. -/
theorem Dr.grown {lo : Nat} {w w' : World} {p : Nat} {ns : List Int} {st u : Int} {row : Option Nat} (h : Dr lo w p ns st u) (hg : w.grownBy w' row) (hr : ∀ k, row = some k → p < k ∨ k < lo) : Dr lo w' p ns st u :=
  h.kept (fun k hl hk => hg.block k (by have := h.lt; omega) (fun e => by have := hr k e.symm; omega))
theorem At.grown {w w' : World} {p : Nat} {ns : List Int} {st u : Int} {row : Option Nat} (h : At w p ns st u) (hg : w.grownBy w' row) (hr : ∀ k, row = some k → p < k) : At w' p ns st u := Dr.grown h hg (fun k hk => Or.inl (hr k hk))
theorem At.alloc {w : World} {p : Nat} {ns : List Int} {st u : Int} (h : At w p ns st u) (o : Obj) : At (w.alloc o) p ns st u := h.grown (World.grownBy_alloc w o none) (fun k hk => by cases hk)
theorem At.lt {w : World} {p : Nat} {ns : List Int} {st u : Int} (h : At w p ns st u) : p < w.heap.size := Dr.lt h

def nst (st : Int) : Int := IntKind.u64.wrap (st + 11400714819323198485)
theorem nst_range (st : Int) : 0 ≤ nst st ∧ nst st ≤ 18446744073709551615 := by unfold nst; rw [IntKind.wrap_u64]; omega
def hd : List Int → Int → Int
  | [], st => scr (nst st)
  | n :: _, _ => n
def st2 : List Int → Int → Int
  | [], st => nst st
  | _ :: _, st => st
theorem hd_range (ns : List Int) (st : Int) (h : u64ok ns) : 0 ≤ hd ns st ∧ hd ns st ≤ 18446744073709551615 := by
  cases ns with
  | nil => exact ⟨scr_lo _, scr_hi _⟩
  | cons n ns => exact h n (List.mem_cons_self ..)

theorem nextSaid_any {lo : Nat} (w : World) (p : Nat) (said : Value) (ns : List Int) (st u : Int) (hl : lo ≤ p) (h : DB w p (fSaid p) said st u) (hs : SaidAt lo w p said ns) (hz : u64ok ns) (h0 : 0 ≤ st) (h1 : st ≤ 18446744073709551615) :
    Calls Try.prog 20 #[ptr p] w fun e w' => e = .returned (U (hd ns st)) ∧ Dr lo w' p ns.tail (st2 ns st) u ∧ w.grownBy w' (some p) := by
  have c0 := h.c0
  have c1 := h.c1
  have f0 := h.free 0
  have f1 := h.free 1
  cases ns with
  | nil =>
    obtain ⟨a, cap, rfl⟩ : ∃ a cap, said = .slice a 0 cap := by
      rcases hs with ⟨a, cap, h, _⟩ | ⟨b, off, cap, h, _⟩
      · exact ⟨a, cap, h⟩
      · exact ⟨_, cap, h⟩
    have g1 : w.grownBy ((w.setCell ⟨p, 1, none⟩ (.slice none 0 0)).setCell ⟨p, 0, none⟩ (fSeeded p)) (some p) := by
      exact gby_tr (gby_set w p 1 (.slice none 0 0)) (gby_set _ p 0 (fSeeded p))
    have N := Lib.hid (nextSeeded_any _ p _ _ st u ((h.s1 (.slice none 0 0)).s0 (fSeeded p)) h0 h1)
    replace g1 := Lib.hid g1
    replace hz := Lib.hid hz
    have hst : ∀ (a : Addr) (w : World) (m : Mode), (store a (fSeeded p) m).run Try.prog w = stored Try.prog w a (fSeeded p) m := fun a w m => run_store _ w a _ m rfl
    clear h hs
    go_enter Try.func20, Try.ntmps20
    go_wp2_with fail
    refine N.out.mono ?_
    rintro e w' ⟨rfl, hd, hg⟩
    go_wp2_with fail
    go_ret
    exact ⟨rfl, ⟨(nst_range st).1, (nst_range st).2, hz.out, hl, Or.inl ⟨rfl, _, hd⟩⟩, gby_tr g1.out hg⟩
  | cons n ns =>
    obtain ⟨b, off, cap, rfl, hcap, hm, hlo, hlt, hc⟩ : ∃ b off cap, said = .slice (some ⟨b, off, none⟩) (ns.length + 1) cap ∧ ns.length + 1 ≤ cap ∧ cap ≤ maxLen ∧ lo ≤ b ∧ b < p ∧ ∀ i, i < ns.length + 1 → w.cell? ⟨b, off + i, none⟩ = some (U ((n :: ns).getD i 0)) := by
      rcases hs with ⟨a, cap, _, h⟩ | h
      · cases h
      · exact h
    have cb : w.cell? ⟨b, off, none⟩ = some (U n) := hc 0 (by omega)
    have hne : b ≠ p := by omega
    have hh := Lib.hid h
    have HC := Lib.hid hc
    clear h hc
    unfold maxLen at hm
    replace hz := Lib.hid hz
    go_enter Try.func20, Try.ntmps20
    go_wp2_with fail
    all_goals
      go_ret
      refine ⟨rfl, ⟨h0, h1, fun m hm => hz.out m (List.mem_cons_of_mem _ hm), hl, Or.inr ⟨_, hh.out.s1 _, ?_⟩⟩, gby_set ..⟩
    · obtain rfl : ns = [] := List.eq_nil_of_length_eq_zero (by omega)
      exact Or.inl ⟨_, _, rfl, rfl⟩
    · refine Or.inr ⟨b, off + 1, cap - 1, rfl, by omega, by unfold maxLen; omega, hlo, hlt, fun i hi => ?_⟩
      have := HC.out (i + 1) (by omega)
      rw [Nat.add_assoc, Nat.add_comm 1 i, (World.cell?_of_block (Below.heap_setCell _ _ _ _ (fun e => hne e)))]
      exact this

theorem next_any {lo : Nat} (w : World) (p : Nat) (ns : List Int) (st u : Int) (h : Dr lo w p ns st u) (h0 : 0 ≤ u) (h1 : u ≤ 1000000) :
    Calls Try.prog 16 #[ptr p] w fun e w' => e = .returned (U (hd ns st)) ∧ Dr lo w' p ns.tail (st2 ns st) (u + 1) ∧ w.grownBy w' (some p) := by
  obtain ⟨s0, s1, hz, hl, h⟩ := h
  have hr := hd_range ns st hz
  rcases h with ⟨rfl, said, h⟩ | ⟨said, h, hs⟩
  · have c0 := h.c0
    have c3 := h.c3
    have f3 := h.free 3
    have N := Lib.hid (nextSeeded_any _ p _ _ st (u + 1) (h.s3 (u + 1)) s0 s1)
    clear h
    replace hz := Lib.hid hz
    go_enter Try.func16, Try.ntmps16
    go_wp2_with fail
    refine N.out.mono ?_
    rintro e w' ⟨rfl, hd, hg⟩
    go_wp2_with fail
    go_ret
    exact ⟨rfl, ⟨(nst_range st).1, (nst_range st).2, hz.out, hl, Or.inl ⟨rfl, _, hd⟩⟩, gby_tr (gby_set ..) hg⟩
  · have c0 := h.c0
    have c3 := h.c3
    have f3 := h.free 3
    have N := Lib.hid (nextSaid_any _ p _ ns st (u + 1) hl (h.s3 (u + 1)) (hs.gby (gby_set ..) h.lt) hz s0 s1)
    clear h hs
    replace hz := Lib.hid hz
    go_enter Try.func16, Try.ntmps16
    go_wp2_with fail
    refine N.out.mono ?_
    rintro e w' ⟨rfl, hd, hg⟩
    go_wp2_with fail
    go_ret
    exact ⟨rfl, hd, gby_tr (gby_set ..) hg⟩

theorem used_any {lo : Nat} (w : World) (p : Nat) (ns : List Int) (st u : Int) (h : Dr lo w p ns st u) :
    Calls Try.prog 11 #[ptr p] w fun e w' => e = .returned (.int .i64 u) ∧ w = w' := by
  obtain ⟨_, _, _, _, h⟩ := h
  have c3 : w.cell? ⟨p, 3, none⟩ = some (.int .i64 u) := by
    rcases h with ⟨rfl, said, h⟩ | ⟨said, h, hs⟩ <;> exact h.c3
  clear h
  go_enter Try.func11, Try.ntmps11
  go_wp2_with fail
  go_ret
  exact ⟨rfl, rfl⟩

end Go.Proofs.Ytbmgengcacoiaaa.draw
