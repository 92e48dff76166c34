/-
  Package cert: acts made of numbers.
-/
import Derived.Test.YtajnhjcinpdfhaaCrE
import Derived.Test.YtajnhjcinpdfhaaAround
import Derived.Test.YtajnhjcinpdfhaaSame
namespace Go.Proofs.Ytajnhjcinpdfhaa.cert
open Go.ChangeShapes Go.WideShapes Go.ChangeAt Go.RowKit
set_option linter.unusedVariables false
set_option linter.unusedSimpArgs false

/-- An act. -/
structure Ac where
  d : Int
  a : Int
  n : Int
  l : Int
abbrev aB (x : Ac) : List Value := [I x.d, I x.a, I x.n, I x.l]
abbrev a0 : Ac := ⟨0, 0, 0, 0⟩
theorem aB_len : ∀ x, (aB x).length = 4 := fun _ => rfl
theorem infoA : (Try.prog.info? 42).map (fun i => (i.zero, i.size, i.bytes)) = some (some (.agg #[I 0, I 0, I 0, I 0]), 4, 32) := by kernel_rfl
def okA (x : Ac) : Prop := (x.d = 0 ∨ x.d = 1 ∨ x.d = 2) ∧ (0 ≤ x.a ∧ x.a ≤ 200) ∧ (0 ≤ x.n ∧ x.n ≤ 12) ∧ (0 ≤ x.l ∧ x.l ≤ 60)
def ActsD (w : World) : Ending → World → Prop := fun e w' => ∃ v A, e = .returned v ∧ A.length ≤ 16 ∧ (∀ x ∈ A, okA x) ∧ OwnB aB 4 42 w' w.heap.size v A ∧ Bl w w'


set_option maxHeartbeats 8000000 in
set_option maxRecDepth 20000 in
theorem acts_any (z : List Int) (v : Value) (w : World) (hv : IntsAt w v z) (hz : i64ok z) (hm : z.length ≤ maxLen) :
    Calls Try.prog 8 #[v] w (ActsD w) := by
  obtain ⟨iu, hiu, zu0, zu1, zu2⟩ := info_parts infoA
  obtain ⟨a, cap, rfl, R⟩ := rd_any hv
  unfold maxLen at hm
  obtain ⟨K, hK⟩ : ∃ z_, (z.length) = z_ := ⟨_, rfl⟩
  rw [hK] at R hm ⊢
  have hzz : ∀ k, k < K → -9223372036854775808 ≤ z.getD k 0 ∧ z.getD k 0 ≤ 9223372036854775807 := fun k hk => hz _ (getD_mem z k 0 (by omega))
  have AR := Lib.hid (fun y w h1 h2 => around_any y 100000 w h1 h2 (by omega) (by omega))
  replace R := Lib.hid R
  replace hzz := Lib.hid hzz
  clear hv hK hz
  go_enter Try.func8, Try.ntmps8
  go_wp2_with fail
  go_loopw [3, 4, 5] (fun o t i wr => ∃ (k : Nat) (A : List Ac) (tt : Int), k ≤ K ∧ k ≤ 16 ∧ i = I k ∧ t = I tt ∧ 0 ≤ tt ∧ tt ≤ 12 * k ∧ A.length = k ∧ (∀ x ∈ A, okA x) ∧ OwnB aB 4 42 wr w.heap.size o A ∧ Bl w wr) (fun _ _ i _ => K - (intOf i).toNat)
  case atStart => exact ⟨0, [], 0, by omega, by omega, rfl, rfl, by omega, by omega, rfl, fun x hx => by simp at hx, OwnB.nil _ _ _, Bl.rfl' _⟩
  case round =>
    obtain ⟨k, A, tt, hkK, hk1, rfl, rfl, t0, t1, hAl, hA, hown, hbr⟩ := hrel
    by_cases hlt : k < K ∧ k < 16
    · obtain ⟨hlt, hlt2⟩ := hlt
      obtain ⟨b, off, rfl, hce⟩ := R.out wr hbr k hlt
      unfold icell at hce
      obtain ⟨y, hy⟩ : ∃ z_, (z.getD k 0) = z_ := ⟨_, rfl⟩
      have hyb := hzz.out k hlt
      rw [hy] at hce hyb
      clear hy
      have q0 := around_lo y 100000 (by omega); have q1 := around_hi y 100000 (by omega)
      have A0 := AR.out y wr hyb.1 hyb.2
      obtain ⟨q, hq⟩ : ∃ z_, (around y 100000) = z_ := ⟨_, rfl⟩
      rw [hq] at A0 q0 q1
      obtain ⟨ta, hta⟩ : ∃ z_, (tt + q % 12) = z_ := ⟨_, rfl⟩
      obtain ⟨na, hna⟩ : ∃ z_, (1 + q / 12 % 4) = z_ := ⟨_, rfl⟩
      obtain ⟨la, hla⟩ : ∃ z_, (q / 48 % 60) = z_ := ⟨_, rfl⟩
      obtain ⟨m, hm'⟩ : ∃ z_, (q / 2880 % 5) = z_ := ⟨_, rfl⟩
      obtain ⟨nb, hnb⟩ : ∃ z_, (q / 48 % 12) = z_ := ⟨_, rfl⟩
      have b1 : 0 ≤ ta ∧ ta ≤ 12 * k + 11 := by omega
      have b2 : 0 ≤ na ∧ na ≤ 12 := by omega
      have b3 : 0 ≤ la ∧ la ≤ 60 := by omega
      have b4 : 0 ≤ nb ∧ nb ≤ 12 := by omega
      replace A0 := Lib.hid A0
      replace hA := Lib.hid hA
      replace hown := Lib.hid hown
      replace hbr := Lib.hid hbr
      clear hq hyb t0
      go_wp2_with fail
      first | with_reducible refine (A0.out).mono ?_ | refine (A0.out).mono ?_
      rintro e w' ⟨rfl, rfl⟩
      clear A0 hce
      by_cases m3 : m = 3
      · subst m3
        have hal := hbr.out.al (.cells #[I 1, I ta, I na, I la] 42)
        have hown1 := own_below hown.out ((Bl.rfl' wr).al (.cells #[I 1, I ta, I na, I la] 42))
        have hbs := hal.size
        have hsz : w.heap.size ≤ (wr.alloc (.cells #[I 1, I ta, I na, I la] 42)).heap.size := hbs
        have hsz4 : (wr.alloc (.cells #[I 1, I ta, I na, I la] 42)).heap.size = wr.heap.size + 1 := by simp
        unfold OwnB at hown1
        rw [hAl] at hown1
        clear hown hbr
        replace hal := Lib.hid hal
        replace hown1 := Lib.hid hown1
        go_wp2_with (at_builtin; refine wpList_append_row rfl _ _ 29 rfl w.heap.size 42 iu (.agg #[I 0, I 0, I 0, I 0]) 4 32 Try.underlying29 hiu zu0 zu1 zu2 rfl (by decide) _ k (flatB aB A) rfl hown1.out #[I 1, I ta, I na, I la] _ rfl (by intro u hu; simp at hu; rcases hu with rfl | rfl | rfl | rfl <;> rfl) 1 (by rw [hsz4]; rfl) (by omega) (by omega) hsz ?_)
        intro b' cap' w7 hown' hgrow
        have hb7 := hal.out.grown hgrow (fun k hk => (hown1.out.lt k hk).1)
        clear hown1 hgrow hal hsz hsz4
        replace hown' := Lib.hid hown'
        replace hb7 := Lib.hid hb7
        go_wp2_with fail
        go_roundw
        case measure => simp [intOf] <;> omega
        case rel =>
          refine ⟨k + 1, A ++ [⟨1, ta, na, la⟩], ta, by omega, by omega, by go_num, rfl, by omega, by omega, by rw [List.length_append, hAl]; rfl, ?_, ?_, hb7.out⟩
          · intro x hx
            rcases List.mem_append.1 hx with h | h
            · exact hA.out x h
            · simp only [List.mem_singleton] at h
              subst h
              exact ⟨by simp, by simp only; omega, by simp only; omega, by simp only; omega⟩
          · unfold OwnB
            rw [List.length_append, hAl, flatB_snoc]
            exact hown'.out
      · by_cases m4 : m = 4
        · subst m4
          have hal := hbr.out.al (.cells #[I 2, I ta, I nb, I la] 42)
          have hown1 := own_below hown.out ((Bl.rfl' wr).al (.cells #[I 2, I ta, I nb, I la] 42))
          have hbs := hal.size
          have hsz : w.heap.size ≤ (wr.alloc (.cells #[I 2, I ta, I nb, I la] 42)).heap.size := hbs
          have hsz4 : (wr.alloc (.cells #[I 2, I ta, I nb, I la] 42)).heap.size = wr.heap.size + 1 := by simp
          unfold OwnB at hown1
          rw [hAl] at hown1
          clear hown hbr
          replace hal := Lib.hid hal
          replace hown1 := Lib.hid hown1
          go_wp2_with (at_builtin; refine wpList_append_row rfl _ _ 29 rfl w.heap.size 42 iu (.agg #[I 0, I 0, I 0, I 0]) 4 32 Try.underlying29 hiu zu0 zu1 zu2 rfl (by decide) _ k (flatB aB A) rfl hown1.out #[I 2, I ta, I nb, I la] _ rfl (by intro u hu; simp at hu; rcases hu with rfl | rfl | rfl | rfl <;> rfl) 1 (by rw [hsz4]; rfl) (by omega) (by omega) hsz ?_)
          intro b' cap' w7 hown' hgrow
          have hb7 := hal.out.grown hgrow (fun k hk => (hown1.out.lt k hk).1)
          clear hown1 hgrow hal hsz hsz4
          replace hown' := Lib.hid hown'
          replace hb7 := Lib.hid hb7
          go_wp2_with fail
          go_roundw
          case measure => simp [intOf] <;> omega
          case rel =>
            refine ⟨k + 1, A ++ [⟨2, ta, nb, la⟩], ta, by omega, by omega, by go_num, rfl, by omega, by omega, by rw [List.length_append, hAl]; rfl, ?_, ?_, hb7.out⟩
            · intro x hx
              rcases List.mem_append.1 hx with h | h
              · exact hA.out x h
              · simp only [List.mem_singleton] at h
                subst h
                exact ⟨by simp, by simp only; omega, by simp only; omega, by simp only; omega⟩
            · unfold OwnB
              rw [List.length_append, hAl, flatB_snoc]
              exact hown'.out
        · have g3 : (m == 3) = false := beq_eq_false_iff_ne.2 m3
          have g4 : (m == 4) = false := beq_eq_false_iff_ne.2 m4
          have hal := hbr.out.al (.cells #[I 0, I ta, I na, I la] 42)
          have hown1 := own_below hown.out ((Bl.rfl' wr).al (.cells #[I 0, I ta, I na, I la] 42))
          have hbs := hal.size
          have hsz : w.heap.size ≤ (wr.alloc (.cells #[I 0, I ta, I na, I la] 42)).heap.size := hbs
          have hsz4 : (wr.alloc (.cells #[I 0, I ta, I na, I la] 42)).heap.size = wr.heap.size + 1 := by simp
          unfold OwnB at hown1
          rw [hAl] at hown1
          clear hown hbr
          replace hal := Lib.hid hal
          replace hown1 := Lib.hid hown1
          go_wp2_with (at_builtin; refine wpList_append_row rfl _ _ 29 rfl w.heap.size 42 iu (.agg #[I 0, I 0, I 0, I 0]) 4 32 Try.underlying29 hiu zu0 zu1 zu2 rfl (by decide) _ k (flatB aB A) rfl hown1.out #[I 0, I ta, I na, I la] _ rfl (by intro u hu; simp at hu; rcases hu with rfl | rfl | rfl | rfl <;> rfl) 1 (by rw [hsz4]; rfl) (by omega) (by omega) hsz ?_)
          intro b' cap' w7 hown' hgrow
          have hb7 := hal.out.grown hgrow (fun k hk => (hown1.out.lt k hk).1)
          clear hown1 hgrow hal hsz hsz4
          replace hown' := Lib.hid hown'
          replace hb7 := Lib.hid hb7
          go_wp2_with fail
          go_roundw
          case measure => simp [intOf] <;> omega
          case rel =>
            refine ⟨k + 1, A ++ [⟨0, ta, na, la⟩], ta, by omega, by omega, by go_num, rfl, by omega, by omega, by rw [List.length_append, hAl]; rfl, ?_, ?_, hb7.out⟩
            · intro x hx
              rcases List.mem_append.1 hx with h | h
              · exact hA.out x h
              · simp only [List.mem_singleton] at h
                subst h
                exact ⟨by simp, by simp only; omega, by simp only; omega, by simp only; omega⟩
            · unfold OwnB
              rw [List.length_append, hAl, flatB_snoc]
              exact hown'.out
    · have : k = K ∨ k = 16 := by omega
      replace hA := Lib.hid hA
      replace hown := Lib.hid hown
      replace hbr := Lib.hid hbr
      rcases this with rfl | rfl
      · go_wp2_with fail
        go_ret
        exact ⟨_, A, rfl, by omega, hA.out, hown.out, hbr.out⟩
      · have d1 : decide ((16 : Int) < K) = true ∨ decide ((16 : Int) < K) = false := by cases decide ((16 : Int) < K) <;> simp
        rcases d1 with d1 | d1
        all_goals
          go_wp2_with fail
          go_ret
          exact ⟨_, A, rfl, by omega, hA.out, hown.out, hbr.out⟩
end Go.Proofs.Ytajnhjcinpdfhaa.cert
