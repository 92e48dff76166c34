/-
  A row of numbers that is handed in, with its room; its parts; appending of them.
-/
import Derived.Test.YtnmehmlenbbfbaaFeed
import Derived.Test.YtnmehmlenbbfbaaAround
namespace Go.Proofs.Ytnmehmlenbbfbaa
open Go.ChangeShapes Go.WideShapes Go.ChangeAt Go.RowKit
set_option linter.unusedVariables false
set_option linter.unusedSimpArgs false

/-- A slice has room for what it holds; without a row it has none. -/
def Room (v : Value) : Prop := ∀ a n c, v = .slice a n c → n ≤ c ∧ c ≤ maxLen ∧ (a = none → n = 0 ∧ c = 0)
theorem open_i64s2 {P : Program} {t e : TypeId} {H : Type} {enc : TypeId × Value → H} {W : World} {base : Nat} {v : Value} {d : DataW H} {p : List MemPlace} (ht : P.underlying t = some (.slice e)) (he : P.underlying e = some (.int .i64)) (hc : P.cellsOf e = 1)
    (hlt : ∀ x ∈ p, x.block < W.heap.size) (hv : Value.okWide P W .any base t v) (h : DataW.Trod enc P W 0 (fun _ => true) true t v d p) :
    ∃ z : List Int, (IntsAt W v z ∧ Room v) ∧ i64ok z ∧ z.length ≤ maxLen := by
  obtain ⟨z, h1, h2, h3⟩ := open_i64s ht he hc hlt hv h
  refine ⟨z, ⟨h1, ?_⟩, h2, h3⟩
  obtain ⟨a0, len, cap, rfl⟩ := okWide_slice ht hv
  obtain ⟨fuel, hf⟩ := h
  rcases open_ints ht he hc hf with ⟨hcs, hx⟩ | ⟨a, len', cap', zs, hcs, _, hl, hm, hz, hx, hcell, hwz⟩
  · simp [Value.cells] at hcs
    obtain ⟨rfl, rfl, rfl⟩ := hcs
    intro a n c e
    simp only [Value.slice.injEq] at e
    obtain ⟨rfl, rfl, rfl⟩ := e
    exact ⟨Nat.le_refl _, Nat.zero_le _, fun _ => ⟨rfl, rfl⟩⟩
  · simp [Value.cells] at hcs
    obtain ⟨rfl, rfl, rfl⟩ := hcs
    intro a n c e
    simp only [Value.slice.injEq] at e
    obtain ⟨rfl, rfl, rfl⟩ := e
    exact ⟨hl, hm, fun h => by cases h⟩
/-- A row of numbers with its room. -/
def IntsR (w : World) (v : Value) (z : List Int) : Prop := ∃ a cap, v = .slice a z.length cap ∧ z.length ≤ cap ∧ cap ≤ maxLen ∧ (a = none → cap = 0) ∧ ∀ i, i < z.length → ∃ b o, a = some ⟨b, o, none⟩ ∧ b < w.heap.size ∧ w.cell? ⟨b, o + i, none⟩ = some (I (z.getD i 0))
theorem IntsR.bl {w w' : World} {v : Value} {z : List Int} (h : IntsR w v z) (hb : Bl w w') : IntsR w' v z := by
  obtain ⟨a, cap, h1, h2, h3, h4, h5⟩ := h
  refine ⟨a, cap, h1, h2, h3, h4, fun i hi => ?_⟩
  obtain ⟨b, o, e, hl, hc⟩ := h5 i hi
  exact ⟨b, o, e, Nat.lt_of_lt_of_le hl hb.size, (hb.cell (p := ⟨b, o + i, none⟩) hl).trans hc⟩
theorem ints_r {w : World} {v : Value} {z : List Int} (h : IntsAt w v z) (hr : Room v) : IntsR w v z := by
  rcases h with ⟨a, c, rfl, h2, h3⟩ | ⟨b, off, c, rfl, h2, h3, h4, h5⟩
  · obtain ⟨r1, r2, r3⟩ := hr _ _ _ rfl
    have hz : z = [] := List.eq_nil_of_length_eq_zero h2
    subst hz
    exact ⟨a, c, rfl, Nat.zero_le _, r2, fun e => (r3 e).2, fun i hi => by simp at hi⟩
  · exact ⟨_, c, rfl, h2, h3, (fun e => by cases e), fun i hi => ⟨b, off, rfl, h4, h5 i hi⟩⟩
theorem IntsR.at {w : World} {v : Value} {z : List Int} (h : IntsR w v z) : IntsAt w v z := by
  obtain ⟨a, cap, rfl, h2, h3, h4, h5⟩ := h
  by_cases h0 : z.length = 0
  · rw [h0]
    exact Or.inl ⟨a, cap, rfl, h0, h0⟩
  · obtain ⟨b, o, rfl, hl, -⟩ := h5 0 (by omega)
    refine Or.inr ⟨b, o, cap, rfl, h2, h3, hl, fun i hi => ?_⟩
    obtain ⟨b', o', e, -, hc⟩ := h5 i hi
    cases e
    exact hc
theorem IntsR.take {w : World} {a : Option Addr} {n cap : Nat} {z : List Int} (h : IntsR w (.slice a n cap) z) (j : Nat) (hj : j ≤ z.length) : IntsR w (.slice a j cap) (z.take j) := by
  obtain ⟨a', cap', e, h2, h3, h4, h5⟩ := h
  simp only [Value.slice.injEq] at e
  obtain ⟨rfl, -, rfl⟩ := e
  have hl : (z.take j).length = j := by rw [List.length_take]; omega
  refine ⟨a, cap, by rw [hl], by omega, h3, h4, fun i hi => ?_⟩
  rw [hl] at hi
  obtain ⟨b, o, e, hb, hc⟩ := h5 i (by omega)
  exact ⟨b, o, e, hb, by rw [hc, List.getD_eq_getElem?_getD, List.getD_eq_getElem?_getD, List.getElem?_take_of_lt hi]⟩
theorem IntsR.drop {w : World} {a : Option Addr} {n cap : Nat} {z : List Int} (h : IntsR w (.slice a n cap) z) (j : Nat) (hj : j ≤ z.length) : IntsR w (.slice (if cap = j then a else a.map (fun x => x.add j)) (n - j) (cap - j)) (z.drop j) := by
  obtain ⟨a', cap', e, h2, h3, h4, h5⟩ := h
  simp only [Value.slice.injEq] at e
  obtain ⟨rfl, rfl, rfl⟩ := e
  have hl : (z.drop j).length = z.length - j := List.length_drop ..
  refine ⟨_, cap - j, by rw [hl], by omega, by omega, fun hn => ?_, fun i hi => ?_⟩
  · by_cases hc : cap = j
    · omega
    · rw [if_neg hc] at hn
      have := h4 (by simpa using hn)
      omega
  · rw [hl] at hi
    obtain ⟨b, o, rfl, hb, hc⟩ := h5 (j + i) (by omega)
    rw [if_neg (by omega)]
    refine ⟨b, o + j, by rw [Option.map_some, add_plain], hb, ?_⟩
    rw [Nat.add_assoc, hc, List.getD_eq_getElem?_getD, List.getD_eq_getElem?_getD, List.getElem?_drop]
theorem IntsR.feed {w : World} {v : Value} {z : List Int} (h : IntsR w v z) : Feed w v z.length 1 (z.map I) := by
  obtain ⟨a, cap, rfl, h2, h3, h4, h5⟩ := h
  cases a with
  | none =>
    have hc := h4 rfl
    subst hc
    have hz : z = [] := List.eq_nil_of_length_eq_zero (by omega)
    subst hz
    exact Or.inl ⟨rfl, rfl, rfl⟩
  | some ad =>
    refine Or.inr ⟨ad, cap, rfl, by simp, fun j x hj => ?_⟩
    have hjl : j < z.length := by
      have := (List.getElem?_eq_some_iff.1 hj).1
      simpa using this
    obtain ⟨b, o, e, -, hc⟩ := h5 j hjl
    cases e
    rw [add_plain, hc]
    rw [List.getElem?_map, List.getElem?_eq_getElem hjl] at hj
    rw [List.getD_eq_getElem?_getD, List.getElem?_eq_getElem hjl]
    exact hj
theorem infoI : (Try.prog.info? 3).map (fun i => (i.zero, i.size, i.bytes)) = some (some (I 0), 1, 8) := by kernel_rfl
set_option maxHeartbeats 2000000 in
theorem takeI_any (v : Value) (z : List Int) (most : Nat) (w : World) (hv : IntsR w v z) (hm : most ≤ 1000) :
    Calls Try.prog 28 #[v, I most] w fun e w' => ∃ x, e = .returned x ∧ w'.ownsRow w.heap.size 3 1 x (min z.length most) ((z.take (min z.length most)).map I) ∧ Bl w w' := by
  obtain ⟨iu, hiu, zu0, zu1, zu2⟩ := info_parts infoI
  obtain ⟨j, hj⟩ : ∃ j, min z.length most = j := ⟨_, rfl⟩
  obtain ⟨a, cap, rfl, h2, h3, h4, h5⟩ := hv
  have hv : IntsR w (.slice a z.length cap) z := ⟨a, cap, rfl, h2, h3, h4, h5⟩
  have hT := (hv.take j (by omega)).feed
  have hl : (z.take j).length = j := by rw [List.length_take]; omega
  rw [hl] at hT
  rw [hj]
  have hmin : min ((z.length : Nat) : Int) (most : Int) = (j : Int) := by omega
  have hjc : j ≤ cap := by omega
  have hj1 : j ≤ 1000 := by omega
  have hown0 := World.ownsRow_nil w w.heap.size 3 1
  have h1 : ∀ u ∈ (z.take j).map I, u.oneCell' = true := by
    intro u hu
    obtain ⟨x, -, rfl⟩ := List.mem_map.1 hu
    rfl
  unfold maxLen at h3
  obtain ⟨L, hL⟩ : ∃ z_, ((z.take j).map I) = z_ := ⟨_, rfl⟩
  rw [hL] at hT h1
  rw [hL]
  obtain ⟨N, hN⟩ : ∃ z_, (z.length) = z_ := ⟨_, rfl⟩
  rw [hN] at hmin h2
  rw [hN]
  have hmin2 : (if most < N then (most : Int) else (N : Int)) = (j : Int) := by split <;> omega
  clear hv h5 h4 hl hj hN hL
  replace hT := Lib.hid hT
  replace hown0 := Lib.hid hown0
  replace h1 := Lib.hid h1
  go_enter Try.func28, Try.ntmps28
  go_wp2_with (at_builtin; refine wpList_append_feed rfl _ _ 22 rfl w.heap.size 3 iu (I 0) 1 8 Try.underlying22 hiu zu0 zu1 zu2 rfl (by decide) _ 0 [] (by first | rfl | simp [Act.eval, Act.put]) hown0.out _ j L hT.out h1.out (by first | rfl | simp [Act.eval, Act.put]) (by omega) (by omega) (Nat.le_refl _) ?_)
  intro v5 w5 hown5 hgrow5
  have hb5 := (Bl.rfl' w).grown hgrow5 (fun k hk => (hown0.out.lt k hk).1)
  first | (rw [Nat.zero_add, List.nil_append] at hown5) | skip
  clear hgrow5
  replace hown5 := Lib.hid hown5
  replace hb5 := Lib.hid hb5
  go_wp2_with fail
  go_ret
  exact ⟨_, rfl, hown5.out, hb5.out⟩
end Go.Proofs.Ytnmehmlenbbfbaa
