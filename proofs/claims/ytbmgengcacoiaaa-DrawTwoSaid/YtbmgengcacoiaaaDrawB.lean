/-
  Package draw: New and Two.
-/
import Derived.Test.YtbmgengcacoiaaaDraw
namespace Go.Proofs.Ytbmgengcacoiaaa.draw
open Go.ChangeShapes Go.WideShapes Go.ChangeAt Go.RowKit
set_option linter.unusedVariables false
set_option linter.unusedSimpArgs false

theorem Try.info22 : (Try.prog.info? 22).map (fun i => (i.zero, i.size, i.bytes)) = some (some (.int .u64 0), 1, 8) := by kernel_rfl
def us (z : List Int) : List Value := z.map U
theorem us_get (z : List Int) (i : Nat) (h : i < z.length) : (us z)[i]? = some (U (z.getD i 0)) := by simp [us, List.getElem?_map, List.getElem?_eq_getElem h, List.getD_eq_getElem?_getD]

/-- New: what it hands back is a new block. -/
def NewD (ns : List Int) (seed : Int) (w : World) : Ending → World → Prop := fun e w' => ∃ p, e = .returned (ptr p) ∧ w.heap.size ≤ p ∧ Dr w.heap.size w' p ns seed 0 ∧ Bl w w'

theorem born (w : World) (said : Value) (st u : Int) : DB (w.alloc (.cells #[.func (.func 20) #[ptr w.heap.size] #[], said, U st, .int .i64 u] 47)) w.heap.size (fSaid w.heap.size) said st u := heap_alloc_new _ _

theorem st_said (q : Nat) (a : Addr) (w : World) (m : Mode) : (store a (fSaid q) m).run Try.prog w = stored Try.prog w a (fSaid q) m := run_store _ w a _ m rfl

theorem new_nil (w : World) (seed : Int) (a : Option Addr) (cap : Nat) (h0 : 0 ≤ seed) (h1 : seed ≤ 18446744073709551615) :
    Calls Try.prog 9 #[.int .u64 seed, .slice a 0 cap] w (NewD [] seed w) := by
  obtain ⟨i0, hi, hz0, hz1, hz2⟩ := info_parts Try.info22
  have hst := st_said
  cases a with
  | none =>
    go_enter Try.func9, Try.ntmps9
    go_wp2_with fail
    go_ret
    exact ⟨_, rfl, Nat.le_refl _, ⟨h0, h1, fun _ h => by (simp at h), Nat.le_refl _, Or.inr ⟨_, born .., Or.inl ⟨_, _, rfl, rfl⟩⟩⟩, (Bl.rfl' _).al _⟩
  | some ad =>
    go_enter Try.func9, Try.ntmps9
    go_wp2_with (at_builtin; refine wpList_append_own _ rfl _ _ 30 rfl w.heap.size 22 i0 (.int .u64 0) 1 8 Try.underlying30 hi hz0 hz1 hz2 rfl (by decide) _ 0 [] rfl (World.ownsRow_nil _ _ _ _) ad 0 cap [] rfl rfl ?c1 ?c2 ?c3 ?c4 ?c5 ?_)
    case c1 => intro j u hj; simp at hj
    case c2 => intro u hu; simp at hu
    case c3 => unfold maxLen; omega
    case c4 => omega
    case c5 => omega
    intro v' w1 hown' hgrow hv
    have hb : Bl w w1 := (Bl.rfl' w).grown hgrow (fun k hk => by simp [Value.ownBlock] at hk)
    obtain rfl : v' = .slice none 0 0 := by simpa using hv
    clear hgrow hown' hv
    go_wp2_with fail
    go_ret
    exact ⟨_, rfl, hb.size, ⟨h0, h1, fun _ h => by (simp at h), hb.size, Or.inr ⟨_, born .., Or.inl ⟨_, _, rfl, rfl⟩⟩⟩, hb.al _⟩

theorem new_some (w : World) (seed : Int) (b off cap : Nat) (ns : List Int) (h0 : 0 ≤ seed) (h1 : seed ≤ 18446744073709551615) (hns : u64ok ns) (hl : ns.length ≤ 1000000)
    (hc : ∀ i, i < ns.length → w.cell? ⟨b, off + i, none⟩ = some (U (ns.getD i 0))) :
    Calls Try.prog 9 #[.int .u64 seed, .slice (some ⟨b, off, none⟩) ns.length cap] w (NewD ns seed w) := by
  obtain ⟨i0, hi, hz0, hz1, hz2⟩ := info_parts Try.info22
  have hst := st_said
  replace hc := Lib.hid hc
  replace hns := Lib.hid hns
  go_enter Try.func9, Try.ntmps9
  go_wp2_with (at_builtin; refine wpList_append_own _ rfl _ _ 30 rfl w.heap.size 22 i0 (.int .u64 0) 1 8 Try.underlying30 hi hz0 hz1 hz2 rfl (by decide) _ 0 [] rfl (World.ownsRow_nil _ _ _ _) ⟨b, off, none⟩ ns.length cap (us ns) rfl (by simp [us]) ?c1 ?c2 ?c3 ?c4 ?c5 ?_)
  case c1 =>
    intro j u hj
    have hj2 : j < ns.length := by
      rcases Nat.lt_or_ge j ns.length with h | h
      · exact h
      · rw [List.getElem?_eq_none (by simpa [us] using h)] at hj; cases hj
    rw [us_get ns j hj2] at hj
    cases hj
    rw [add_plain]
    exact hc.out j hj2
  case c2 => intro u hu; simp [us] at hu; obtain ⟨a, _, rfl⟩ := hu; rfl
  case c3 => unfold maxLen; omega
  case c4 => omega
  case c5 => omega
  intro v' w1 hown' hgrow hv
  have hb : Bl w w1 := (Bl.rfl' w).grown hgrow (fun k hk => by simp [Value.ownBlock] at hk)
  have hrd := Rd.of_own hown' (g := fun i => U (ns.getD i 0)) (fun i hi => us_get ns i (by omega))
  have hlo := hown'.lt
  have S : SaidAt w.heap.size (w1.alloc (.cells #[fSaid w1.heap.size, v', U seed, .int .i64 0] 47)) w1.heap.size v' ns := by
    rcases hrd with ⟨a, c, h1, h2, h3⟩ | ⟨b, off, c, h1, h2, h3, h4, h5⟩
    · exact Or.inl ⟨a, c, h1, List.eq_nil_of_length_eq_zero h2⟩
    · refine Or.inr ⟨b, off, c, h1, h2, h3, (hlo b (by rw [h1]; rfl)).1, h4, fun i hi => ?_⟩
      rw [World.cell?_of_block (a := ⟨b, off + i, none⟩) (heap_alloc_old w1 _ h4)]
      exact h5 i (by omega)
  replace S := Lib.hid S
  obtain ⟨a2, k2, c2, rfl⟩ : ∃ a k c, v' = .slice a k c := by
    rcases hrd with ⟨a, c, h1, _, _⟩ | ⟨b, off, c, h1, _⟩
    · exact ⟨_, _, _, h1⟩
    · exact ⟨_, _, _, h1⟩
  clear hgrow hown' hv hrd hlo
  go_wp2_with fail
  go_ret
  exact ⟨_, rfl, hb.size, ⟨h0, h1, hns.out, hb.size, Or.inr ⟨_, born .., S.out⟩⟩, hb.al _⟩
end Go.Proofs.Ytbmgengcacoiaaa.draw
