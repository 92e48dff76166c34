/-
  Heads, single heads and names, made of numbers.
-/
import Derived.Test.YtnmehmlenbbfbaaHdK
namespace Go.Proofs.Ytnmehmlenbbfbaa.heads
open Go.ChangeShapes Go.WideShapes Go.ChangeAt Go.RowKit
set_option linter.unusedVariables false
set_option linter.unusedSimpArgs false

def headsF (z : List Int) : Nat → List Hd
  | 0 => []
  | k + 1 => set1R (headsF z k) (oneF (z.getD k 0))
def someF (z : List Int) (k : Nat) : List Hd := (List.range k).map fun i => oneF (z.getD i 0)
def namesF (z : List Int) (k : Nat) : List ByteArray := (List.range k).map fun i => (oneF (z.getD i 0)).n
theorem someF_succ (z : List Int) (k : Nat) : someF z (k + 1) = someF z k ++ [oneF (z.getD k 0)] := by simp [someF, List.range_succ]
theorem namesF_succ (z : List Int) (k : Nat) : namesF z (k + 1) = namesF z k ++ [(oneF (z.getD k 0)).n] := by simp [namesF, List.range_succ]
theorem someF_len (z : List Int) (k : Nat) : (someF z k).length = k := by simp [someF]
theorem namesF_len (z : List Int) (k : Nat) : (namesF z k).length = k := by simp [namesF]
theorem set1R_len (A : List Hd) (h : Hd) (ha : A.length ≤ 8) : (set1R A h).length ≤ 8 := by
  unfold set1R
  split
  · rw [List.length_map]; exact ha
  · split
    · rw [List.length_append, List.length_singleton]; omega
    · exact ha
theorem headsF_len (z : List Int) : ∀ k, (headsF z k).length ≤ 8
  | 0 => by simp [headsF]
  | k + 1 => set1R_len _ _ (headsF_len z k)


set_option maxRecDepth 20000 in
set_option maxHeartbeats 4000000 in
theorem heads_mk (z0 : List Int) (v : Value) (w : World) (hv : IntsAt w v z0) (hz : i64ok z0) (hm : z0.length ≤ maxLen) :
    Calls Try.prog 16 #[v] w fun e w' => ∃ x, e = .returned x ∧ OwnB hB 2 49 w' w.heap.size x (headsF z0 (min z0.length 12)) ∧ Bl w w' := by
  obtain ⟨iu, hiu, zu0, zu1, zu2⟩ := info_parts infoH
  obtain ⟨a, cap, rfl, RD⟩ := rd_any hv
  unfold maxLen at hm
  obtain ⟨N, hN⟩ : ∃ z_, (z0.length) = z_ := ⟨_, rfl⟩
  rw [hN] at RD hm
  have hzz : ∀ k, k < N → -9223372036854775808 ≤ z0.getD k 0 ∧ z0.getD k 0 ≤ 9223372036854775807 := fun k hk => hz _ (getD_mem z0 k 0 (by omega))
  rw [hN]
  have OA := Lib.hid (fun y w h1 h2 => one_any y w h1 h2)
  clear hv hN hz
  replace RD := Lib.hid RD
  replace hzz := Lib.hid hzz
  have ST := Lib.hid (fun v A h w hw => rset1_any v A h w hw)
  go_enter Try.func16, Try.ntmps16
  go_wp2_with fail
  go_loopw [3, 4] (fun o i wr => ∃ k : Nat, k ≤ N ∧ k ≤ 12 ∧ i = I k ∧ OwnB hB 2 49 wr w.heap.size o (headsF z0 k) ∧ Bl w wr) (fun _ i _ => N - (intOf i).toNat)
  case atStart => exact ⟨0, by omega, by omega, rfl, OwnB.nil _ _ _, Bl.rfl' _⟩
  case round =>
    obtain ⟨k, hk, hk2, rfl, hown, hb⟩ := hrel
    by_cases hlt : k < N
    · have hd1 : decide ((k : Int) < (N : Int)) = true := decide_eq_true (by omega)
      by_cases hlt2 : k < 12
      · have hd2 : decide ((k : Int) < 12) = true := decide_eq_true (by omega)
        have hst : headsF z0 (k + 1) = set1R (headsF z0 k) (oneF (z0.getD k 0)) := rfl
        have hln := headsF_len z0 k
        have wt : IntKind.i64.wrap ((k : Int) + 1) = ((k + 1 : Nat) : Int) := by rw [IntKind.wrap_i64]; omega
        obtain ⟨b, off, hbe, hce⟩ := RD.out wr hb k hlt
        cases hbe
        unfold icell at hce
        have hyb := hzz.out k hlt
        have hbs := hb.size
        obtain ⟨y, hy⟩ : ∃ z_, (z0.getD k 0) = z_ := ⟨_, rfl⟩
        rw [hy] at hce hyb hst
        have O1 := OA.out y wr hyb.1 hyb.2
        obtain ⟨h, hh⟩ : ∃ z_, (oneF y) = z_ := ⟨_, rfl⟩
        rw [hh] at O1 hst
        obtain ⟨hn, hu⟩ := h
        clear hy hh hyb
        obtain ⟨A, hA⟩ : ∃ z_, (headsF z0 k) = z_ := ⟨_, rfl⟩
        rw [hA] at hst hown hln
        clear hA
        replace O1 := Lib.hid O1
        replace hown := Lib.hid hown
        replace hb := Lib.hid hb
        replace hst := Lib.hid hst
        go_wp2_with fail
        with_reducible refine (O1.out).mono ?_
        rintro e w2 ⟨rfl, hq⟩
        have hb2 := hb.out.tr hq
        have S1 := ST.out _ A ⟨hn, hu⟩ w2 (heads_own (OwnB.bl hown.out hq)) (by omega)
        have hbs2 := hb2.size
        clear hq
        replace hb2 := Lib.hid hb2
        replace S1 := Lib.hid S1
        go_wp2_with fail
        with_reducible refine (S1.out).mono ?_
        rintro e w3 ⟨x, rfl, hx, hq⟩
        have hb3 := hb2.out.tr hq
        have hx2 := OwnB.base hx hbs2
        clear hq hx
        replace hb3 := Lib.hid hb3
        replace hx2 := Lib.hid hx2
        go_wp2_with fail
        go_roundw
        case rel => exact ⟨k + 1, by omega, by omega, by first | rfl | go_num, by rw [hst.out]; exact hx2.out, hb3.out⟩
        case measure => simp [intOf] <;> omega
      · have hd2 : decide ((k : Int) < 12) = false := decide_eq_false (by omega)
        have hmin : min N 12 = k := by omega
        replace hown := Lib.hid hown
        replace hb := Lib.hid hb
        go_wp2_with fail
        go_ret
        exact ⟨_, rfl, by rw [hmin]; exact hown.out, hb.out⟩
    · have hd1 : decide ((k : Int) < (N : Int)) = false := decide_eq_false (by omega)
      have hmin : min N 12 = k := by omega
      replace hown := Lib.hid hown
      replace hb := Lib.hid hb
      go_wp2_with fail
      go_ret
      exact ⟨_, rfl, by rw [hmin]; exact hown.out, hb.out⟩
end Go.Proofs.Ytnmehmlenbbfbaa.heads
