/-
  Names, made of numbers.
-/
import Derived.Test.YtnmehmlenbbfbaaHdL0
import Derived.Test.YtnmehmlenbbfbaaHdE
namespace Go.Proofs.Ytnmehmlenbbfbaa.heads
open Go.ChangeShapes Go.WideShapes Go.ChangeAt Go.RowKit
set_option linter.unusedVariables false
set_option linter.unusedSimpArgs false


theorem field_n (n u : ByteArray) (w : World) : Sem.run Try.prog (Instr.field 49 (.agg #[S n, S u]) 0) w = .ok (S n) w := by rfl
theorem field_v (n u : ByteArray) (w : World) : Sem.run Try.prog (Instr.field 49 (.agg #[S n, S u]) 1) w = .ok (S u) w := by rfl
theorem infoT : (Try.prog.info? 9).map (fun i => (i.zero, i.size, i.bytes)) = some (some (S ByteArray.empty), 1, 16) := by kernel_rfl
theorem texts_own {w : World} {b : Nat} {v : Value} {N : List ByteArray} (h : OwnB tB 1 9 w b v N) : TextsAt w v N := by
  obtain ⟨a, g, cap, rfl, h1, h2, h3, h4⟩ := OwnB.row h (by decide)
  exact ⟨a, g, 0, cap, rfl, h4⟩
set_option maxRecDepth 20000 in
set_option maxHeartbeats 4000000 in
theorem names_mk (z0 : List Int) (v : Value) (w : World) (hv : IntsAt w v z0) (hz : i64ok z0) (hm : z0.length ≤ maxLen) :
    Calls Try.prog 29 #[v] w fun e w' => ∃ x, e = .returned x ∧ OwnB tB 1 9 w' w.heap.size x (namesF z0 (min z0.length 6)) ∧ Bl w w' := by
  obtain ⟨ju, hju, zj0, zj1, zj2⟩ := info_parts infoT
  obtain ⟨iu, hiu, zu0, zu1, zu2⟩ := info_parts infoH
  obtain ⟨a, cap, rfl, RD⟩ := rd_any hv
  unfold maxLen at hm
  obtain ⟨N, hN⟩ : ∃ z_, (z0.length) = z_ := ⟨_, rfl⟩
  rw [hN] at RD hm
  have hzz : ∀ k, k < N → -9223372036854775808 ≤ z0.getD k 0 ∧ z0.getD k 0 ≤ 9223372036854775807 := fun k hk => hz _ (getD_mem z0 k 0 (by omega))
  rw [hN]
  have OA := Lib.hid (fun y w h1 h2 => one_any y w h1 h2)
  clear hv hN hz
  replace RD := Lib.hid RD
  replace hzz := Lib.hid hzz
  go_enter Try.func29, Try.ntmps29
  go_wp2_with fail
  go_loopw [3, 4] (fun o i wr => ∃ k : Nat, k ≤ N ∧ k ≤ 6 ∧ i = I k ∧ OwnB tB 1 9 wr w.heap.size o (namesF z0 k) ∧ Bl w wr) (fun _ i _ => N - (intOf i).toNat)
  case atStart => exact ⟨0, by omega, by omega, rfl, OwnB.nil _ _ _, Bl.rfl' _⟩
  case round =>
    obtain ⟨k, hk, hk2, rfl, hown, hb⟩ := hrel
    by_cases hlt : k < N
    · have hd1 : decide ((k : Int) < (N : Int)) = true := decide_eq_true (by omega)
      by_cases hlt2 : k < 6
      · have hd2 : decide ((k : Int) < 6) = true := decide_eq_true (by omega)
        have hst := namesF_succ z0 k
        have hln := namesF_len z0 k
        have wt : IntKind.i64.wrap ((k : Int) + 1) = ((k + 1 : Nat) : Int) := by rw [IntKind.wrap_i64]; omega
        obtain ⟨b, off, hbe, hce⟩ := RD.out wr hb k hlt
        cases hbe
        unfold icell at hce
        have hyb := hzz.out k hlt
        have hbs := hb.size
        obtain ⟨y, hy⟩ : ∃ z_, (z0.getD k 0) = z_ := ⟨_, rfl⟩
        rw [hy] at hce hyb hst
        have O1 := OA.out y wr hyb.1 hyb.2
        obtain ⟨h, hh⟩ : ∃ z_, (oneF y) = z_ := ⟨_, rfl⟩
        rw [hh] at O1 hst
        obtain ⟨hn, hu⟩ := h
        clear hy hh hyb
        simp only at hst
        obtain ⟨A, hA⟩ : ∃ z_, (namesF z0 k) = z_ := ⟨_, rfl⟩
        rw [hA] at hst hown hln
        obtain ⟨ra, rg, rcap, rfl, hrg, hrc, hrc2, hRR⟩ := OwnB.row hown (by decide)
        replace hown : wr.ownsRow w.heap.size 9 1 (.slice ra A.length rcap) A.length (flatB tB A) := hown
        rw [hln] at hown ⊢
        clear hA hRR hrg
        replace O1 := Lib.hid O1
        replace hown := Lib.hid hown
        replace hb := Lib.hid hb
        replace hst := Lib.hid hst
        replace hln := Lib.hid hln
        go_wp2_with fail
        with_reducible refine (O1.out).mono ?_
        rintro e w2 ⟨rfl, hq⟩
        have hb2 := hb.out.tr hq
        have hown2 := own_below hown.out hq
        have hbs2 := hb2.size
        clear hq
        replace hb2 := Lib.hid hb2
        replace hown2 := Lib.hid hown2
        have hfn := field_n hn hu
        go_wp2_with (at_builtin; refine wpList_append_row rfl _ _ 29 rfl w.heap.size 9 ju (S ByteArray.empty) 1 16 Try.underlying29 hju zj0 zj1 zj2 rfl (by decide) _ k (flatB tB A) rfl hown2.out #[S hn] _ rfl (by intro u hu; simp at hu; subst hu; rfl) 1 (by first | rfl | simp [Act.eval, Act.put]) (by omega) (by omega) (by omega) ?_)
        intro b' cap' w7 hown7 hgrow7
        have hb7 := hb2.out.grown hgrow7 (fun k hk => (hown2.out.lt k hk).1)
        clear hgrow7
        replace hown7 := Lib.hid hown7
        replace hb7 := Lib.hid hb7
        go_wp2_with fail
        go_roundw
        case rel => exact ⟨k + 1, by omega, by omega, by first | rfl | go_num, by unfold OwnB; rw [hst.out, flatB_snoc, List.length_append, hln.out]; exact hown7.out, hb7.out⟩
        case measure => simp [intOf] <;> omega
      · have hd2 : decide ((k : Int) < 6) = false := decide_eq_false (by omega)
        have hmin : min N 6 = k := by omega
        replace hown := Lib.hid hown
        replace hb := Lib.hid hb
        go_wp2_with fail
        go_ret
        exact ⟨_, rfl, by rw [hmin]; exact hown.out, hb.out⟩
    · have hd1 : decide ((k : Int) < (N : Int)) = false := decide_eq_false (by omega)
      have hmin : min N 6 = k := by omega
      replace hown := Lib.hid hown
      replace hb := Lib.hid hb
      go_wp2_with fail
      go_ret
      exact ⟨_, rfl, by rw [hmin]; exact hown.out, hb.out⟩
end Go.Proofs.Ytnmehmlenbbfbaa.heads
