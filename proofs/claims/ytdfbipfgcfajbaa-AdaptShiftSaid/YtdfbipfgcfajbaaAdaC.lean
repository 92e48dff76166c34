/-
  What is done, made of numbers; limits that are made; the document's example.
-/
import Derived.Test.YtdfbipfgcfajbaaAdaB
namespace Go.Proofs.Ytdfbipfgcfajbaa.adapt
open Go.ChangeShapes Go.WideShapes Go.ChangeAt Go.RowKit
set_option linter.unusedVariables false
set_option linter.unusedSimpArgs false

/-- A limit as it is met: between its two numbers. -/
def Ok (s : Lim) : Prop := 1 ≤ s.lo ∧ s.lo ≤ 4 ∧ s.lo ≤ s.n ∧ s.n ≤ s.hi ∧ s.hi ≤ 13 ∧ 0 ≤ s.ba ∧ s.ba ≤ 30 ∧ 0 ≤ s.ca ∧ s.ca ≤ 10000
theorem Ok.l {s : Lim} (h : Ok s) : okL s := by unfold Ok at h; unfold okL; omega
theorem done_parts (s : Lim) (now under took : Int) (well : Bool) : (done s now under took well).lo = s.lo ∧ (done s now under took well).hi = s.hi ∧ (done s now under took well).ba = (if well = true ∧ (s.ba = 0 ∨ took < s.ba) then took else s.ba) := by
  unfold done rise fall based
  repeat' split
  all_goals simp_all
theorem done_ok {s : Lim} {now under took : Int} {well : Bool} (h : Ok s) (t0 : 0 ≤ now) (t1 : now ≤ 10000) (k0 : 0 ≤ took) (k1 : took ≤ 30) : Ok (done s now under took well) := by
  obtain ⟨n, lo, hi, ba, ct, ca⟩ := s
  unfold Ok at *
  unfold done rise fall based
  simp only at *
  repeat' split
  all_goals (try simp only at *)
  all_goals omega

def LimD (w : World) : Ending → World → Prop := fun e w' => ∃ lo hi, e = .returned (.tuple #[.int .i64 lo, .int .i64 hi]) ∧ 1 ≤ lo ∧ lo ≤ 4 ∧ lo ≤ hi ∧ hi ≤ 13 ∧ Bl w w'
theorem between_any (n : Int) (w : World) (n0 : -9223372036854775808 ≤ n) (n1 : n ≤ 9223372036854775807) :
    Calls Try.prog 7 #[.int .i64 n] w (LimD w) := by
  have A0 := fun w => around_any n 1000 w n0 n1 (by omega) (by omega)
  have k0 := around_lo n 1000 (by omega); have k1 := around_hi n 1000 (by omega)
  obtain ⟨k, hk⟩ : ∃ t, around n 1000 = t := ⟨_, rfl⟩
  rw [hk] at A0 k0 k1
  replace A0 := Lib.hid A0
  clear hk
  go_enter Try.func7, Try.ntmps7
  go_wp2_with fail
  refine (A0.out _).mono ?_
  rintro e w' ⟨rfl, rfl⟩
  go_wp2_with fail
  go_ret2
  exact ⟨_, _, rfl, by omega, by omega, by omega, by omega, Bl.rfl' _⟩

theorem var_gby {w w' : World} {x p : Nat} {o : Obj} (h : w.heap[x]? = some o) (hg : w.grownBy w' (some p)) (hx : x ≠ p) : w'.heap[x]? = some o := by
  have hlt := lt_of_block h
  rw [hg.block x hlt (fun e => by cases e; omega)]; exact h
theorem var_bl {w w' : World} {x : Nat} {o : Obj} (h : w.heap[x]? = some o) (hg : Bl w w') : w'.heap[x]? = some o := by
  rw [hg.block x (lt_of_block h)]; exact h

/-- What is done: at which tick, how many were under way, how long it took, whether it was well. -/
abbrev AC : Type := Int × Int × Int × Bool
abbrev ac0 : AC := (0, 0, 0, false)
def flat : List AC → List Value
  | [] => []
  | x :: A => I x.1 :: I x.2.1 :: I x.2.2.1 :: .bool x.2.2.2 :: flat A
theorem flat_app : ∀ A B, flat (A ++ B) = flat A ++ flat B
  | [], _ => rfl
  | x :: A, B => by simp only [List.cons_append, flat, flat_app A B]
theorem flat_get : ∀ (A : List AC) (i : Nat), i < A.length → (flat A)[i * 4]? = some (I (A.getD i ac0).1) ∧ (flat A)[i * 4 + 1]? = some (I (A.getD i ac0).2.1) ∧ (flat A)[i * 4 + 2]? = some (I (A.getD i ac0).2.2.1) ∧ (flat A)[i * 4 + 3]? = some (.bool (A.getD i ac0).2.2.2)
  | [], i, h => by simp at h
  | x :: A, 0, _ => by simp [flat]
  | x :: A, i + 1, h => by
    have := flat_get A i (by simpa using h)
    rw [show (i + 1) * 4 = i * 4 + 4 by omega, show i * 4 + 4 + 1 = i * 4 + 1 + 4 by omega, show i * 4 + 4 + 2 = i * 4 + 2 + 4 by omega, show i * 4 + 4 + 3 = i * 4 + 3 + 4 by omega]
    simpa [flat] using this
def okA (x : AC) : Prop := 0 ≤ x.1 ∧ x.1 ≤ 210 ∧ 0 ≤ x.2.1 ∧ x.2.1 ≤ 13 ∧ 1 ≤ x.2.2.1 ∧ x.2.2.1 ≤ 25
def ARow (w : World) (g : Nat) (a : Option Addr) (A : List AC) : Prop := 0 < A.length → a = some ⟨g, 0, none⟩ ∧ ∃ cur, w.heap[g]? = some (.cells cur 30 (0, 0)) ∧ ∀ i, i < A.length → cur[i * 4]? = some (I (A.getD i ac0).1) ∧ cur[i * 4 + 1]? = some (I (A.getD i ac0).2.1) ∧ cur[i * 4 + 2]? = some (I (A.getD i ac0).2.2.1) ∧ cur[i * 4 + 3]? = some (.bool (A.getD i ac0).2.2.2)
theorem ARow.kept {w w' : World} {g a A} (h : ARow w g a A) (hb : ∀ o, w.heap[g]? = some o → w'.heap[g]? = some o) : ARow w' g a A := fun hl => by
  obtain ⟨h1, cur, h2, h3⟩ := h hl
  exact ⟨h1, cur, hb _ h2, h3⟩
theorem ARow.bl {w w' : World} {g a A} (h : ARow w g a A) (hb : Bl w w') : ARow w' g a A := h.kept (fun o h => var_bl h hb)
theorem ARow.gby {w w' : World} {g a A p} (h : ARow w g a A) (hb : w.grownBy w' (some p)) (hne : g ≠ p) : ARow w' g a A := h.kept (fun o h => var_gby h hb hne)
theorem ARow.c {w : World} {g a A} (h : ARow w g a A) (i : Nat) (hi : i < A.length) : a = some ⟨g, 0, none⟩ ∧ w.cell? ⟨g, i * 4, none⟩ = some (I (A.getD i ac0).1) ∧ w.cell? ⟨g, i * 4 + 1, none⟩ = some (I (A.getD i ac0).2.1) ∧ w.cell? ⟨g, i * 4 + 2, none⟩ = some (I (A.getD i ac0).2.2.1) ∧ w.cell? ⟨g, i * 4 + 3, none⟩ = some (.bool (A.getD i ac0).2.2.2) := by
  obtain ⟨h1, cur, h2, h3⟩ := h (by omega)
  obtain ⟨q1, q2, q3, q4⟩ := h3 i hi
  exact ⟨h1, (cell_at h2 _).trans q1, (cell_at h2 _).trans q2, (cell_at h2 _).trans q3, (cell_at h2 _).trans q4⟩
def ActsD (w : World) : Ending → World → Prop := fun e w' => ∃ a cap g A, e = .returned (.slice a A.length cap) ∧ A.length ≤ 30 ∧ (∀ x ∈ A, okA x) ∧ w.heap.size ≤ g ∧ ARow w' g a A ∧ Bl w w'

theorem infoA : (Try.prog.info? 30).map (fun i => (i.zero, i.size, i.bytes)) = some (some (.agg #[I 0, I 0, I 0, .bool false]), 4, 32) := by kernel_rfl

set_option maxHeartbeats 2000000 in
theorem acts_any (z : List Int) (v : Value) (w : World) (hv : IntsAt w v z) (hz : i64ok z) (hm : z.length ≤ maxLen) :
    Calls Try.prog 9 #[v] w (ActsD w) := by
  obtain ⟨iu, hiu, zu0, zu1, zu2⟩ := info_parts infoA
  obtain ⟨a, cap, rfl, R⟩ := rd_any hv
  unfold maxLen at hm
  obtain ⟨K, hK⟩ : ∃ K, z.length = K := ⟨_, rfl⟩
  rw [hK] at R hm ⊢
  have hzz : ∀ k, k < K → -9223372036854775808 ≤ z.getD k 0 ∧ z.getD k 0 ≤ 9223372036854775807 := fun k hk => hz _ (getD_mem z k 0 (by omega))
  replace R := Lib.hid R; replace hzz := Lib.hid hzz
  clear hv hK hz
  go_enter Try.func9, Try.ntmps9
  go_wp2_with fail
  go_loopw [3, 4, 5] (fun o t i wr => ∃ (k : Nat) (tt : Int) (A : List AC), k ≤ K ∧ k ≤ 30 ∧ i = I k ∧ t = I tt ∧ A.length = k ∧ 0 ≤ tt ∧ tt ≤ 7 * k ∧ (∀ x ∈ A, okA x) ∧ wr.ownsRow w.heap.size 30 4 o k (flat A) ∧ Bl w wr) (fun _ _ i _ => K - (intOf i).toNat)
  case atStart => exact ⟨0, 0, [], by omega, by omega, rfl, rfl, rfl, by omega, by omega, fun x hx => by simp at hx, World.ownsRow_nil _ _ _ _, Bl.rfl' _⟩
  case round =>
    obtain ⟨k, tt, A, hkK, hk1, rfl, rfl, hAl, ht0, ht1, hA, hown, hbr⟩ := hrel
    by_cases hlt : k < K ∧ k < 30
    · obtain ⟨hlt, hlt2⟩ := hlt
      obtain ⟨b, off, rfl, hce⟩ := R.out wr hbr k hlt
      unfold icell at hce
      obtain ⟨y, hy⟩ : ∃ y, z.getD k 0 = y := ⟨_, rfl⟩
      have hyb := hzz.out k hlt
      rw [hy] at hce hyb
      clear hy
      have A0 := fun w => around_any y 1000000 w hyb.1 hyb.2 (by omega) (by omega)
      have k0 := around_lo y 1000000 (by omega); have k1 := around_hi y 1000000 (by omega)
      obtain ⟨q, hq⟩ : ∃ t, around y 1000000 = t := ⟨_, rfl⟩
      rw [hq] at A0 k0 k1
      replace A0 := Lib.hid A0
      clear hq hyb
      replace hA := Lib.hid hA
      obtain ⟨wl, hwl⟩ : ∃ zz, decide (q / 2450 % 5 > 0) = zz := ⟨_, rfl⟩
      have hwl' : decide (0 < q / 2450 % 5) = wl := hwl
      go_wp2_with fail
      refine (A0.out _).mono ?_
      rintro e w1 ⟨rfl, rfl⟩
      have hbs := hbr.size
      go_wp2_with (at_builtin; refine wpList_append_row rfl _ _ 27 rfl w.heap.size 30 iu (.agg #[I 0, I 0, I 0, .bool false]) 4 32 Try.underlying27 hiu zu0 zu1 zu2 rfl (by decide) _ k (flat A) rfl hown #[I (tt + q % 7), I (q / 7 % 14), I (1 + q / 98 % 25), .bool wl] _ rfl (by intro u hu; simp at hu; rcases hu with rfl | rfl | rfl | rfl <;> rfl) 1 rfl (by omega) (by omega) (by omega) ?_)
      intro b' cap' w1 hown' hgrow
      have hb1 : Bl w w1 := hbr.grown hgrow (fun k hk => (hown.lt k hk).1)
      clear hown hgrow hce hbr
      go_wp2_with fail
      go_roundw
      case rel =>
        refine ⟨k + 1, tt + q % 7, A ++ [(tt + q % 7, q / 7 % 14, 1 + q / 98 % 25, wl)], by omega, by omega, by go_num, rfl, by simp [hAl], by omega, by omega, ?_, by rw [flat_app]; exact hown', hb1⟩
        intro x hx
        rcases List.mem_append.1 hx with hx | hx
        · exact hA.out x hx
        · simp at hx; subst hx; unfold okA; simp only; omega
      case measure => simp [intOf]; omega
    · by_cases h1 : k < K
      · obtain rfl : k = 30 := by omega
        go_wp2_with fail
        go_ret
        obtain ⟨a', g, cap', cur, rfl, hg, hh⟩ := own_blk hown (by omega)
        refine ⟨a', cap', g, A, by rw [hAl]; rfl, by omega, hA, hg, fun hl => ?_, hbr⟩
        obtain ⟨h1, h2, h3, h4⟩ := hh (by omega)
        refine ⟨h1, cur, h2, fun i hi => ?_⟩
        obtain ⟨q1, q2, q3, q4⟩ := flat_get A i hi
        rw [h4 _ (by omega), h4 _ (by omega), h4 _ (by omega), h4 _ (by omega)]
        exact ⟨q1, q2, q3, q4⟩
      · obtain rfl : k = K := by omega
        go_wp2_with fail
        go_ret
        obtain ⟨a', g, cap', cur, rfl, hg, hh⟩ := own_blk hown (by omega)
        refine ⟨a', cap', g, A, by rw [hAl]; rfl, by omega, hA, hg, fun hl => ?_, hbr⟩
        obtain ⟨h1, h2, h3, h4⟩ := hh (by omega)
        refine ⟨h1, cur, h2, fun i hi => ?_⟩
        obtain ⟨q1, q2, q3, q4⟩ := flat_get A i hi
        rw [h4 _ (by omega), h4 _ (by omega), h4 _ (by omega), h4 _ (by omega)]
        exact ⟨q1, q2, q3, q4⟩
end Go.Proofs.Ytdfbipfgcfajbaa.adapt
