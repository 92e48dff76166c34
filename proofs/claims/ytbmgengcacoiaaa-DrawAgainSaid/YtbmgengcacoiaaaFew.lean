/-
  The first 12 numbers that are said.
-/
import Derived.Test.YtbmgengcacoiaaaDrawC
namespace Go.Proofs.Ytbmgengcacoiaaa.draw
open Go.ChangeShapes Go.WideShapes Go.ChangeAt Go.RowKit
set_option linter.unusedVariables false
set_option linter.unusedSimpArgs false

/-- What few hands back: a new row. -/
def FewD (z : List Int) (w : World) : Ending → World → Prop := fun e w' => ∃ v, e = .returned v ∧ w'.ownsRow w.heap.size 22 1 v (z.take 12).length (us (z.take 12)) ∧ Bl w w'

theorem few_any (z : List Int) (v : Value) (w : World) (hv : U64At w v z) (hm : z.length ≤ maxLen) :
    Calls Try.prog 17 #[v] w (FewD z w) := by
  obtain ⟨iu, hiu, zu0, zu1, zu2⟩ := info_parts Try.info22
  unfold maxLen at hm
  rcases hv with ⟨a, c, rfl, h0, _⟩ | ⟨b, off, cap, rfl, hcap, hcm, hlt, hc⟩
  · have hn : z = [] := List.eq_nil_of_length_eq_zero h0
    subst hn
    cases a with
    | none =>
      go_enter Try.func17, Try.ntmps17
      go_wp2_with fail
      go_ret
      exact ⟨_, rfl, World.ownsRow_nil _ _ _ _, Bl.rfl' _⟩
    | some ad =>
      go_enter Try.func17, Try.ntmps17
      go_wp2_with fail
      go_ret
      exact ⟨_, rfl, World.ownsRow_nil _ _ _ _, Bl.rfl' _⟩
  · by_cases h0 : z.length = 0
    · have hn : z = [] := List.eq_nil_of_length_eq_zero h0
      subst hn
      go_enter Try.func17, Try.ntmps17
      go_wp2_with fail
      go_ret
      exact ⟨_, rfl, World.ownsRow_nil _ _ _ _, Bl.rfl' _⟩
    · unfold maxLen at hcm
      obtain ⟨K, hK⟩ : ∃ K, (z.take 12).length = K := ⟨_, rfl⟩
      have hK2 := hK
      rw [List.length_take] at hK2
      have news : ∀ j u, (us (z.take 12))[j]? = some u → w.cell? ((⟨b, off, none⟩ : Addr).add j) = some u := by
        intro j u hj
        have hj2 : j < (z.take 12).length := by
          rcases Nat.lt_or_ge j (z.take 12).length with h | h
          · exact h
          · rw [List.getElem?_eq_none (by simpa [us] using h)] at hj; cases hj
        rw [us_get _ j hj2] at hj
        cases hj
        rw [add_plain, hc j (by omega)]
        show some (U _) = some (U _)
        rw [List.getD_eq_getElem?_getD, List.getD_eq_getElem?_getD, List.getElem?_take_of_lt (by omega)]
      have one : ∀ u ∈ us (z.take 12), u.oneCell' = true := by
        intro u hu; simp only [us, List.mem_map] at hu; obtain ⟨a, _, rfl⟩ := hu; rfl
      have hl : (us (z.take 12)).length = K := by rw [us, List.length_map]; exact hK
      unfold FewD
      rw [hK]
      obtain ⟨N, hN⟩ : ∃ N, us (z.take 12) = N := ⟨_, rfl⟩
      rw [hN] at news one hl ⊢
      replace news := Lib.hid news; replace one := Lib.hid one; replace hK := Lib.hid hK; replace hN := Lib.hid hN
      clear hc
      by_cases h12 : z.length ≤ 12
      · obtain rfl : K = z.length := by omega
        clear hK2
        go_enter Try.func17, Try.ntmps17
        go_wp2_with (at_builtin; refine wpList_append_own _ rfl _ _ 30 rfl w.heap.size 22 iu (.int .u64 0) 1 8 Try.underlying30 hiu zu0 zu1 zu2 rfl (by decide) _ 0 [] rfl (World.ownsRow_nil _ _ _ _) ⟨b, off, none⟩ z.length cap N rfl (by omega) news.out one.out (by unfold maxLen; omega) (by omega) (by omega) ?_)
        intro v' w1 hown' hgrow hv
        have hb : Bl w w1 := (Bl.rfl' w).grown hgrow (fun k hk => by simp [Value.ownBlock] at hk)
        clear hgrow hv
        go_wp2_with fail
        go_ret
        exact ⟨_, rfl, hown', hb⟩
      · obtain rfl : K = 12 := by omega
        clear hK2
        go_enter Try.func17, Try.ntmps17
        go_wp2_with (at_builtin; refine wpList_append_own _ rfl _ _ 30 rfl w.heap.size 22 iu (.int .u64 0) 1 8 Try.underlying30 hiu zu0 zu1 zu2 rfl (by decide) _ 0 [] rfl (World.ownsRow_nil _ _ _ _) ⟨b, off, none⟩ 12 cap N rfl (by omega) news.out one.out (by unfold maxLen; omega) (by omega) (by omega) ?_)
        intro v' w1 hown' hgrow hv
        have hb : Bl w w1 := (Bl.rfl' w).grown hgrow (fun k hk => by simp [Value.ownBlock] at hk)
        clear hgrow hv
        go_wp2_with fail
        go_ret
        exact ⟨_, rfl, hown', hb⟩
end Go.Proofs.Ytbmgengcacoiaaa.draw
