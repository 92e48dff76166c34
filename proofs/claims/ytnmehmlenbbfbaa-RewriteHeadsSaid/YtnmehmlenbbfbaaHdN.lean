/-
  The document's Set, Drop, SameRow; HasText; Clamp.
-/
import Derived.Test.YtnmehmlenbbfbaaHdM
namespace Go.Proofs.Ytnmehmlenbbfbaa.heads
open Go.ChangeShapes Go.WideShapes Go.ChangeAt Go.RowKit
set_option linter.unusedVariables false
set_option linter.unusedSimpArgs false

theorem inT_take (N : List ByteArray) (s : ByteArray) (k : Nat) (h : k < N.length) : inT (N.take (k + 1)) s = (inT (N.take k) s || decide (N.getD k ByteArray.empty = s)) := by
  unfold inT
  rw [List.take_succ_eq_append_getElem h, List.any_append, List.getD_eq_getElem?_getD, List.getElem?_eq_getElem h]
  simp
theorem inT_more {N : List ByteArray} {s : ByteArray} {k : Nat} (h : k < N.length) (hk : N.getD k ByteArray.empty = s) : inT N s = true := by
  rw [inT_iff, ← hk, List.getD_eq_getElem?_getD, List.getElem?_eq_getElem h]
  exact List.getElem_mem _
set_option maxHeartbeats 2000000 in
theorem hast_any (v : Value) (N : List ByteArray) (s : ByteArray) (w : World) (hw : TextsAt w v N) (hl : N.length ≤ 1000) :
    Calls Try.prog 24 #[v, S s] w fun e w' => e = .returned (.bool (inT N s)) ∧ w = w' := by
  obtain ⟨a, g, o, cap, rfl, hr⟩ := hw
  have RC := Lib.hid (fun i hi => hr.c tB_len ByteArray.empty i hi)
  have IT := fun k h => inT_take N s k h
  have IM := fun k h hk => inT_more (N := N) (s := s) (k := k) h hk
  clear hr
  replace IT := Lib.hid IT
  replace IM := Lib.hid IM
  go_enter Try.func24, Try.ntmps24
  go_wp2_with fail
  go_loopw [5] (fun i wr => ∃ k : Nat, k ≤ N.length ∧ i = I k ∧ inT (N.take k) s = false ∧ wr = w) (fun i _ => N.length - (intOf i).toNat)
  case atStart => exact ⟨0, by omega, rfl, rfl, rfl⟩
  case round =>
    obtain ⟨k, hk, rfl, hall, rfl⟩ := hrel
    by_cases hlt : k < N.length
    · obtain ⟨ha, hcc⟩ := RC.out k hlt
      subst ha
      have c0 := hcc 0 (by decide)
      simp only [List.getElem?_cons_zero, Nat.add_zero, Nat.mul_one] at c0
      have ik := IT.out k hlt
      have im := IM.out k hlt
      obtain ⟨x, hx⟩ : ∃ z_, (N.getD k ByteArray.empty) = z_ := ⟨_, rfl⟩
      rw [hx] at c0 ik im
      rw [hall, Bool.false_or] at ik
      have he := txt_eq x s
      have wk : IntKind.i64.wrap ((k : Int) + 1) = ((k + 1 : Nat) : Int) := by rw [IntKind.wrap_i64]; omega
      clear hcc hx hall
      by_cases hn : x = s
      · have hy := im hn
        rw [decide_eq_true hn] at he
        clear ik im hn
        replace hy := Lib.hid hy
        go_wp2_with fail
        go_ret
        exact ⟨by rw [hy.out]; rfl, rfl⟩
      · rw [decide_eq_false hn] at he ik
        clear im hn
        replace ik := Lib.hid ik
        go_wp2_with fail
        go_roundw
        case rel => exact ⟨k + 1, by omega, by first | rfl | go_num, ik.out, trivial⟩
        case measure => simp [intOf] <;> omega
    · obtain rfl : k = N.length := by omega
      rw [List.take_length] at hall
      replace hall := Lib.hid hall
      go_wp2_with fail
      go_ret
      exact ⟨by rw [hall.out]; rfl, rfl⟩

set_option maxRecDepth 20000 in
set_option maxHeartbeats 4000000 in
theorem rset_any (v : Value) (A : List Hd) (u : Value) (B : List Hd) (w : World) (hw : HeadsAt w v A) (hu : HeadsAt w u B) (hl : A.length ≤ 8) (hm : B.length ≤ 100) :
    Calls Try.prog 36 #[v, u] w fun e w' => ∃ x, e = .returned x ∧ OwnB hB 2 49 w' w.heap.size x (setR A B) ∧ Bl w w' := by
  obtain ⟨iu, hiu, zu0, zu1, zu2⟩ := info_parts infoH
  have FA := Lib.hid (heads_feed hw)
  obtain ⟨ba, bg, bo, bcap, rfl, b1, b2, br⟩ := hu
  have RC := Lib.hid (fun w' (hb : Bl w w') i hi => (br.bl hb).c hB_len h0 i hi)
  have hown0 := Lib.hid (World.ownsRow_nil w w.heap.size 49 2)
  have ST := fun k h => setR_take A B k h
  have SA := Lib.hid (fun v A h w hw => rset1_any v A h w hw)
  have LN : ∀ k, (setR A (B.take k)).length ≤ 8 := fun k => by
    unfold setR
    have : ∀ (Z A : List Hd), A.length ≤ 8 → (Z.foldl set1R A).length ≤ 8 := fun Z => by
      induction Z with
      | nil => exact fun A h => h
      | cons x Z ih => exact fun A h => ih _ (set1R_len A x h)
    exact this _ _ hl
  clear hw br
  replace ST := Lib.hid ST
  go_enter Try.func36, Try.ntmps36
  go_wp2_with (at_builtin; refine wpList_append_feed rfl _ _ 23 rfl w.heap.size 49 iu (.agg #[S ByteArray.empty, S ByteArray.empty]) 2 32 Try.underlying23 hiu zu0 zu1 zu2 rfl (by decide) _ 0 [] (by first | rfl | simp [Act.eval, Act.put]) hown0.out _ A.length (flatB hB A) FA.out (flat_one A) (by first | rfl | simp [Act.eval, Act.put]) (by omega) (by omega) (Nat.le_refl _) ?_)
  intro v5 w5 hown5 hgrow5
  have hb5 := (Bl.rfl' w).grown hgrow5 (fun k hk => (hown0.out.lt k hk).1)
  replace hown5 : OwnB hB 2 49 w5 w.heap.size v5 (setR A (B.take 0)) := by
    show w5.ownsRow _ _ _ _ A.length (flatB hB A)
    first | exact hown5 | (rw [Nat.zero_add, List.nil_append] at hown5; exact hown5)
  clear hgrow5 FA hown0
  replace hown5 := Lib.hid hown5
  replace hb5 := Lib.hid hb5
  go_wp2_with fail
  go_loopw [5, 6] (fun o i wr => ∃ k : Nat, k ≤ B.length ∧ i = I k ∧ OwnB hB 2 49 wr w.heap.size o (setR A (B.take k)) ∧ Bl w wr) (fun _ i _ => B.length - (intOf i).toNat)
  case atStart => exact ⟨0, by omega, rfl, hown5.out, hb5.out⟩
  case round =>
    obtain ⟨k, hk, rfl, hown, hbr⟩ := hrel
    by_cases hlt : k < B.length
    · obtain ⟨ha, hcc⟩ := RC.out _ hbr k hlt
      subst ha
      have c0 := hcc 0 (by decide)
      have c1 := hcc 1 (by decide)
      simp only [List.getElem?_cons_succ, List.getElem?_cons_zero, Nat.add_zero, ← Nat.add_assoc] at c0 c1
      have hst := ST.out k hlt
      have hln := LN k
      obtain ⟨x, hx⟩ : ∃ z_, (B.getD k h0) = z_ := ⟨_, rfl⟩
      rw [hx] at c0 c1 hst
      obtain ⟨n, u⟩ := x
      simp only at c0 c1
      obtain ⟨O, hO⟩ : ∃ z_, (setR A (B.take k)) = z_ := ⟨_, rfl⟩
      rw [hO] at hown hst hln
      have S1 := SA.out _ O ⟨n, u⟩ wr (heads_own hown) (by omega)
      have hbs := hbr.size
      have wk : IntKind.i64.wrap ((k : Int) + 1) = ((k + 1 : Nat) : Int) := by rw [IntKind.wrap_i64]; omega
      clear hcc hx hO hown
      replace hst := Lib.hid hst
      replace hbr := Lib.hid hbr
      replace S1 := Lib.hid S1
      go_wp2_with fail
      with_reducible refine (S1.out).mono ?_
      rintro e w3 ⟨x, rfl, hx, hq⟩
      have hb3 := hbr.out.tr hq
      have hx2 := OwnB.base hx hbs
      clear hq hx
      replace hb3 := Lib.hid hb3
      replace hx2 := Lib.hid hx2
      go_wp2_with fail
      go_roundw
      case rel => exact ⟨k + 1, by omega, by first | rfl | go_num, by rw [hst.out]; exact hx2.out, hb3.out⟩
      case measure => simp [intOf] <;> omega
    · obtain rfl : k = B.length := by omega
      rw [List.take_length] at hown
      replace hown := Lib.hid hown
      replace hbr := Lib.hid hbr
      go_wp2_with fail
      go_ret
      exact ⟨_, rfl, hown.out, hbr.out⟩
end Go.Proofs.Ytnmehmlenbbfbaa.heads
