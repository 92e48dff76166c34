/-
  FixFar is true for every input: whether a share is far below the mean of some is told as the document's own reckoning tells it. No condition.
-/
import Derived.Test.YtpobachhplbamaaLives01
import Derived.Deep.RegionHeld3
namespace Go.Proofs.Ytpobachhplbamaa.fixFar
open Go.ChangeShapes Go.WideShapes Go.ChangeAt Go.RowKit
set_option linter.unusedVariables false
set_option linter.unusedSimpArgs false

theorem pair_cells {w : World} {b off cap len : Nat} {L : List (Int × Int)} (h : PairsAt w (.slice (some ⟨b, off, none⟩) len cap) L) (k : Nat) (hk : k < L.length) :
    w.cell? ⟨b, off + k * 2, none⟩ = some (I (L.getD k (0, 0)).1) ∧ w.cell? ⟨b, off + k * 2 + 1, none⟩ = some (I (L.getD k (0, 0)).2) := by
  rcases h with ⟨_, _, hs, h0, _⟩ | ⟨b', off', cap', hs, _, _, _, hc⟩
  · omega
  · simp only [Value.slice.injEq, Option.some.injEq, Addr.mk.injEq] at hs
    obtain ⟨⟨rfl, rfl, _⟩, _, _⟩ := hs
    have h0 := hc (2 * k) (by omega)
    have h1 := hc (2 * k + 1) (by omega)
    rw [pcell_even, Nat.mul_comm 2 k] at h0
    rw [pcell_odd, Nat.mul_comm 2 k] at h1
    exact ⟨h0, h1⟩

theorem one_pair {w : World} {v : Value} {p : Int × Int} (h : PairsAt w v [p]) : ∃ b off cap, v = .slice (some ⟨b, off, none⟩) 1 cap ∧ 1 ≤ cap ∧ b < w.heap.size ∧ w.cell? ⟨b, off, none⟩ = some (I p.1) ∧ w.cell? ⟨b, off + 1, none⟩ = some (I p.2) := by
  rcases h with ⟨_, _, hs, h0, _⟩ | ⟨b, off, cap, hs, h1, _, h2, hc⟩
  · simp at h0
  · exact ⟨b, off, cap, hs, h1, h2, hc 0 (by simp), hc 1 (by simp)⟩

set_option maxHeartbeats 2000000 in
theorem walk (w : World) (v0 : Value) (z : List Int) (hv : IntsAt w v0 z) (hz : i64ok z) (hm : z.length ≤ maxLen) (n : Int) (l1 : -9223372036854775808 ≤ n) (u1 : n ≤ 9223372036854775807)
    (t : Int) (l2 : -9223372036854775808 ≤ t) (u2 : t ≤ 9223372036854775807) :
    Calls Try.prog 10 #[v0, .int .i64 n, .int .i64 t] w fun e w' => e = .returned (.bool true) ∧ Bl w w' := by
  have A1 := Lib.hid (fun w => around_any t 1001 w l2 u2 (by omega) (by omega))
  have A2 := Lib.hid (fun w => around_any t 25 w l2 u2 (by omega) (by omega))
  have a0 := around_lo t 1001 (by omega); have a1 := around_hi t 1001 (by omega)
  have b0 := around_lo t 25 (by omega); have b1 := around_hi t 25 (by omega)
  obtain ⟨ta, hta⟩ : ∃ a, around t 1001 = a := ⟨_, rfl⟩
  obtain ⟨tb, htb⟩ : ∃ a, around t 25 = a := ⟨_, rfl⟩
  rw [hta] at A1 a0 a1; rw [htb] at A2 b0 b1
  clear hta htb
  have HL := Lib.hid (pairs_fair z)
  have hl := pairs_len z
  have P0 := Lib.hid (pairs_any z v0 w hz hv hm)
  obtain ⟨L, hL⟩ : ∃ L, pairs z = L := ⟨_, rfl⟩
  rw [hL] at HL hl P0
  clear hL hv hz hm
  go_enter Try.func10, Try.ntmps10
  go_wp2_with fail
  refine P0.out.mono ?_
  rintro e w1 ⟨va, rfl, hva, hb1⟩
  have HA := Lib.hid hva; clear hva
  go_wp2_with fail
  have i1 := ints_lit w1 3 [n] (by unfold maxLen; simp)
  simp only [List.map_cons, List.map_nil, List.length_cons, List.length_nil, Nat.zero_add] at i1
  refine (pairs_any [n] _ _ (fun k hk => by simp at hk; subst hk; exact ⟨l1, u1⟩) i1 (by unfold maxLen; simp)).mono ?_
  rintro e w2 ⟨vx, rfl, hvx, hb2⟩
  have hb2' : Bl w1 w2 := ((Bl.rfl' w1).al _).tr hb2
  have hf := mkpair_fair n
  have hvx' : PairsAt w2 vx [mkpair n] := hvx
  obtain ⟨⟨x, y⟩, hxy⟩ : ∃ p, mkpair n = p := ⟨_, rfl⟩
  rw [hxy] at hf hvx'
  obtain ⟨xb, xo, xc, rfl, hxc, hxl, cx, cy⟩ := one_pair hvx'
  clear i1 hvx hvx' hxy
  simp only at cx cy
  go_wp2_with fail
  refine (A1.out _).mono ?_
  rintro e w' ⟨rfl, rfl⟩
  go_wp2_with fail
  refine (A2.out _).mono ?_
  rintro e w' ⟨rfl, rfl⟩
  go_wp2_with fail
  have j1 := ints_lit (w2.alloc (.cells #[I x, I y] 38)) 3 [ta, tb] (by unfold maxLen; simp)
  simp only [List.map_cons, List.map_nil, List.length_cons, List.length_nil, Nat.zero_add] at j1
  have X := Rd.of_own (g := pcell [(x, y)]) (World.ownsRow_lit (base := w2.heap.size) (e := 38) (size := 2) w2 #[I x, I y] 1 (Nat.le_refl _) (by unfold maxLen; simp) rfl) (by
      intro i hi
      match i, hi with
      | 0, _ | 1, _ => rfl)
  obtain ⟨w3, hw3⟩ : ∃ w3, (w2.alloc (.cells #[I x, I y] 38)).alloc (.cells #[I ta, I tb] 3) = w3 := ⟨_, rfl⟩
  have hb3 : Bl w2 w3 := by rw [← hw3]; exact ((Bl.rfl' _).al _).al _
  have hs3 : w3.heap.size = w2.heap.size + 2 := by rw [← hw3]; simp
  have X3 : PairsAt w3 (.slice (some ⟨w2.heap.size, 0, none⟩) 1 1) [(x, y)] := by rw [← hw3]; exact Rd.below X ((Bl.rfl' _).al _)
  have J3 : IntsAt w3 (.slice (some ⟨w2.heap.size + 1, 0, none⟩) 2 2) [ta, tb] := by
    rw [← hw3]
    have : (w2.alloc (.cells #[I x, I y] 38)).heap.size = w2.heap.size + 1 := by simp
    rw [← this]; exact j1
  have A3 : PairsAt w3 va L := Rd.below HA.out (hb2'.tr hb3)
  have hb : Bl w w3 := (hb1.tr hb2').tr hb3
  have hx := Lib.hid (fun w' (h : Bl w3 w') => pair_cells (Rd.below X3 h) 0 (by simp))
  have hj := Lib.hid (fun w' (h : Bl w3 w') (k : Nat) (hk : k < 2) => ints_cell (Rd.below J3 h) k hk)
  have HP := Lib.hid (fun w' (h : Bl w3 w') => Rd.below A3 h)
  simp only [hw3]
  clear X j1 X3 J3 A3 hb1 hb2 hb2' hb3 HA cx cy hw3
  simp only [List.getD_cons_zero, Nat.zero_mul, Nat.add_zero, Nat.zero_add] at hx hj
  have hT : ∀ k, k < 2 → 0 ≤ [ta, tb].getD k 0 ∧ [ta, tb].getD k 0 ≤ 1000 := by
    intro k hk
    match k, hk with
    | 0, _ => simp; omega
    | 1, _ => simp; omega
  have HT := Lib.hid hT; clear hT
  go_loopw [10] (fun i wr => ∃ k : Nat, k ≤ 2 ∧ i = I k ∧ Bl w3 wr) (fun i _ => 2 - (intOf i).toNat)
  case atStart => exact ⟨0, by omega, rfl, Bl.rfl' _⟩
  case round =>
    obtain ⟨k, hk, rfl, hbl⟩ := hrel
    by_cases hlt : k < 2
    · have ht := HT.out k hlt
      have Hj := Lib.hid (fun w' (h : Bl w3 w') => hj.out w' h k hlt)
      obtain ⟨T, hTT⟩ : ∃ T, [ta, tb].getD k 0 = T := ⟨_, rfl⟩
      rw [hTT] at ht Hj
      obtain ⟨t0, t1⟩ := ht
      have k0 : (0 : Int) ≤ (k : Int) := by omega
      have k1 : (k : Int) < 2 := by omega
      have e1 : (farB x y L T != farB x y L T) = false := by simp
      clear hTT hk
      have K := Lib.hid (fun w' (h : Bl w3 w') => (⟨h, (hx.out w' h).1, (hx.out w' h).2, Hj.out w' h⟩ : Bl w3 w' ∧ w'.cell? ⟨w2.heap.size, 0, none⟩ = some (.int .i64 x) ∧ w'.cell? ⟨w2.heap.size, 1, none⟩ = some (.int .i64 y) ∧ w'.cell? ⟨w2.heap.size + 1, k, none⟩ = some (.int .i64 T)))
      go_wp2_with fail
      go_region_held3 (fun w' => Bl w3 w' ∧ w'.cell? ⟨w2.heap.size, 0, none⟩ = some (.int .i64 x) ∧ w'.cell? ⟨w2.heap.size, 1, none⟩ = some (.int .i64 y) ∧ w'.cell? ⟨w2.heap.size + 1, k, none⟩ = some (.int .i64 T))
        ((go_split_ands; exact K.out _ (by first | assumption | exact Bl.dr (by assumption) | exact Bl.tr (by assumption) (by assumption))))
        (first
          | (go_at_call 31; go_split_ands; refine (far_any x y T L _ _ hf HL.out (by omega) t0 t1 (HP.out _ (by assumption))).mono ?_; rintro e w5 ⟨rfl, hb5⟩)
          | (go_at_call 32; go_split_ands; refine (rfar_any x y T L _ _ hf HL.out (by omega) t0 t1 (HP.out _ (by assumption))).mono ?_; rintro e w5 ⟨rfl, hb5⟩))
      all_goals
        go_split_ands
        have hb6 : Bl w3 w5 := by assumption
        go_wp2_with fail
        go_roundw
        case rel => exact ⟨k + 1, by omega, by go_num, hb6⟩
        case measure => simp [intOf]; omega
    · obtain rfl : k = 2 := by omega
      have Hj := Lib.hid (fun w' (h : Bl w3 w') => hj.out w' h 0 (by omega))
      simp only [List.getD_cons_zero] at Hj
      have K := Lib.hid (fun w' (h : Bl w3 w') => (⟨h, (hx.out w' h).1, (hx.out w' h).2, Hj.out w' h⟩ : Bl w3 w' ∧ w'.cell? ⟨w2.heap.size, 0, none⟩ = some (.int .i64 x) ∧ w'.cell? ⟨w2.heap.size, 1, none⟩ = some (.int .i64 y) ∧ w'.cell? ⟨w2.heap.size + 1, 0, none⟩ = some (.int .i64 ta)))
      clear hlt hk
      go_wp2_with fail
      go_region_held3 (fun w' => Bl w3 w' ∧ w'.cell? ⟨w2.heap.size, 0, none⟩ = some (.int .i64 x) ∧ w'.cell? ⟨w2.heap.size, 1, none⟩ = some (.int .i64 y) ∧ w'.cell? ⟨w2.heap.size + 1, 0, none⟩ = some (.int .i64 ta))
        ((go_split_ands; exact K.out _ (by first | assumption | exact Bl.dr (by assumption) | exact Bl.tr (by assumption) (by assumption))))
        (first
          | (go_at_call 31; go_split_ands; refine (far_nil x y ta _ _ _).mono ?_; rintro e w5 ⟨rfl, hb5⟩)
          | (go_at_call 20; go_split_ands; refine (lives01 _).mono ?_; rintro e w5 ⟨rfl, hb5⟩))
      all_goals
        go_split_ands
        have hb6 : Bl w3 w5 := by assumption
        go_wp2_with fail
        go_ret
        exact ⟨rfl, hb.tr hb6⟩

end Go.Proofs.Ytpobachhplbamaa.fixFar
