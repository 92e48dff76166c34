/-
  Package dedup: the document's Len and Put, over a row of what was put.
-/
import Derived.Test.YtfpapfnpppggeaaDdI
namespace Go.Proofs.Ytfpapfnpppggeaa.dedup
open Go.ChangeShapes Go.WideShapes Go.ChangeAt Go.RowKit
set_option linter.unusedVariables false
set_option linter.unusedSimpArgs false


set_option maxHeartbeats 4000000 in
theorem rlen_any {w : World} {b : Nat} {v : Value} {R : List En} (ho : Rw w b v R) (hR : TimeR R) (hl : R.length ≤ 1000000) (h : Int) (h0 : 0 ≤ h) (h1 : h ≤ 1000000) (now : Int) :
    Calls Try.prog 18 #[v, I h, I now] w fun e w' => e = .returned (I (R.countP (fun x => decide (now < x.a + h)))) ∧ w = w' := by
  obtain ⟨a, g, cap, rfl, -, -, -, hr⟩ := ho.row (by decide)
  clear ho
  have hc := fun i hi => hr.c0 rB_len e0 i hi
  have ht : ∀ i, i < R.length → _ := fun i hi => hR _ (getD_mem hi)
  have hstep : ∀ i, i < R.length → (R.take (i + 1)).countP (fun x => decide (now < x.a + h)) = (R.take i).countP (fun x => decide (now < x.a + h)) + if decide (now < (R.getD i e0).a + h) = true then 1 else 0 := by
    intro i hi
    rw [List.take_succ_eq_append_getElem hi, List.countP_append, List.countP_cons, List.countP_nil, List.getD, List.getElem?_eq_getElem hi]
    simp
  have hfin : R.countP (fun x => decide (now < x.a + h)) = (R.take R.length).countP (fun x => decide (now < x.a + h)) := by rw [List.take_length]
  have hle : ∀ i, (R.take i).countP (fun x => decide (now < x.a + h)) ≤ i := fun i => Nat.le_trans List.countP_le_length (by simp; omega)
  have hz : (R.take 0).countP (fun x => decide (now < x.a + h)) = 0 := by simp
  rw [hfin]
  obtain ⟨C, hC⟩ : ∃ z_, (fun i => (R.take i).countP (fun x => decide (now < x.a + h))) = z_ := ⟨_, rfl⟩
  have hC' : ∀ i, (R.take i).countP (fun x => decide (now < x.a + h)) = C i := fun i => congrFun hC i
  simp only [hC'] at hstep hle hz ⊢
  obtain ⟨L, hL⟩ : ∃ z_, (R.length) = z_ := ⟨_, rfl⟩
  simp only [hL] at hc ht hstep hl
  rw [hL]
  clear hC hC' hL hr hR hfin
  replace hc := Lib.hid hc
  replace ht := Lib.hid ht
  replace hstep := Lib.hid hstep
  replace hle := Lib.hid hle
  replace hz := Lib.hid hz
  go_enter Try.func18, Try.ntmps18
  go_wp2_with fail
  go_loopw [7, 8] (fun n i wr => ∃ k : Nat, k ≤ L ∧ i = I k ∧ n = I (C k : Nat) ∧ w = wr) (fun _ i _ => L - (intOf i).toNat)
  case atStart => exact ⟨0, by omega, rfl, by rw [hz.out]; rfl, rfl⟩
  case round =>
    obtain ⟨k, hk, rfl, rfl, rfl⟩ := hrel
    by_cases hlt : k < L
    · obtain ⟨ha, hcc⟩ := hc.out k hlt
      subst ha
      obtain ⟨t0, t1⟩ := ht.out k hlt
      have hs := hstep.out k hlt
      have hl2 := hle.out k
      obtain ⟨x, hx⟩ : ∃ z_, (R.getD k e0) = z_ := ⟨_, rfl⟩
      rw [hx] at hcc t0 t1 hs
      obtain ⟨xa, xk⟩ := x
      simp only at t0 t1 hs
      have c1 := hcc 1 (by decide)
      simp only [List.getElem?_cons_succ, List.getElem?_cons_zero, Nat.add_zero] at c1
      have wx : IntKind.i64.wrap (xa + h) = xa + h := by rw [IntKind.wrap_i64]; omega
      have wt : IntKind.i64.wrap ((k : Int) + 1) = ((k + 1 : Nat) : Int) := by rw [IntKind.wrap_i64]; omega
      have wn : IntKind.i64.wrap ((C k : Int) + 1) = ((C k + 1 : Nat) : Int) := by rw [IntKind.wrap_i64]; omega
      clear hcc hx
      by_cases hd : now < xa + h
      · have hd1 : decide (now < xa + h) = true := decide_eq_true hd
        rw [hd1, if_pos rfl] at hs
        clear hd
        go_wp2_with fail
        go_roundw
        case measure => simp [intOf] <;> omega
        case rel => exact ⟨k + 1, by omega, by go_num, by rw [hs]; first | rfl | go_num, trivial⟩
      · have hd1 : decide (now < xa + h) = false := decide_eq_false hd
        rw [hd1, if_neg (by decide)] at hs
        clear hd
        go_wp2_with fail
        go_roundw
        case measure => simp [intOf] <;> omega
        case rel => exact ⟨k + 1, by omega, by go_num, by rw [hs]; first | rfl | go_num, trivial⟩
    · obtain rfl : k = L := by omega
      go_wp2_with fail
      go_ret
      exact ⟨rfl, rfl⟩

/-- Told of a key: the row, one longer, if it was not remembered. -/
def RPutD (w : World) (b : Nat) (v : Value) (R : List En) (B : Bool) (now : Int) (key : ByteArray) : Ending → World → Prop := fun e w' =>
  ∃ v', e = .returned (.tuple #[v', .bool (!B)]) ∧ Rw w' b v' (if B = true then R else R ++ [⟨now, key⟩]) ∧ w.grownBy w' v.ownBlock ∧ ∀ q, v'.ownBlock = some q → v.ownBlock = some q ∨ w.heap.size ≤ q
set_option maxHeartbeats 4000000 in
theorem rput_any {w : World} {b : Nat} {v : Value} {R : List En} (ho : Rw w b v R) (hR : TimeR R) (hl : R.length ≤ 1000000) (hb : b ≤ w.heap.size) (h : Int) (h0 : 0 ≤ h) (h1 : h ≤ 1000000) (now : Int) (key : ByteArray) :
    Calls Try.prog 15 #[v, I h, I now, sV key] w (RPutD w b v R (R.any (inF h now key)) now key) := by
  obtain ⟨iu, hiu, zu0, zu1, zu2⟩ := info_parts infoR
  have HS := Lib.hid (rhas_any ho hR hl h h0 h1 now key)
  unfold RPutD
  obtain ⟨B, hB⟩ : ∃ z_, (R.any (inF h now key)) = z_ := ⟨_, rfl⟩
  rw [hB] at HS
  rw [hB]
  unfold Rw OwnB at ho ⊢
  obtain ⟨L, hL⟩ : ∃ z_, (R.length) = z_ := ⟨_, rfl⟩
  rw [hL] at ho hl
  clear hB
  replace ho := Lib.hid ho
  go_enter Try.func15, Try.ntmps15
  go_wp2_with fail
  with_reducible refine (HS.out).mono ?_
  rintro e w' ⟨rfl, rfl⟩
  cases B with
  | true =>
    go_wp2_with fail
    go_ret2
    exact ⟨_, rfl, by simp only [if_true, hL]; exact ho.out, gby_rfl _ _, fun q hq => Or.inl hq⟩
  | false =>
    go_wp2_with (at_builtin; refine wpList_append_rec rfl _ _ 26 rfl b 51 iu (.agg #[sV ⟨#[]⟩, I 0]) 2 24 Try.underlying26 hiu zu0 zu1 zu2 rfl (by decide) _ L (flatB rB R) rfl ho.out #[sV key, I now] _ rfl (by intro u hu; simp at hu; rcases hu with rfl | rfl <;> rfl) 1 rfl (by omega) (by omega) hb ?_)
    intro b' cap' w7 hown' hgrow hbn
    replace hown' := Lib.hid hown'
    replace hgrow := Lib.hid hgrow
    replace hbn := Lib.hid hbn
    go_wp2_with fail
    go_ret2
    refine ⟨_, rfl, ?_, hgrow.out, fun q hq => ?_⟩
    · simp only [Bool.false_eq_true, if_false, List.length_append, flatB_snoc, hL]
      exact hown'.out
    · have hq : (Value.slice (some ⟨b', 0, none⟩) (L + 1) cap').ownBlock = some q := hq
      simp only [Value.ownBlock, Option.some.injEq] at hq
      subst hq
      exact hbn.out
end Go.Proofs.Ytfpapfnpppggeaa.dedup
