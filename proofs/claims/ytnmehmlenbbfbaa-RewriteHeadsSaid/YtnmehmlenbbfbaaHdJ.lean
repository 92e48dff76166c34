/-
  A head, made of a number.
-/
import Derived.Test.YtnmehmlenbbfbaaHdC
import Derived.Test.YtnmehmlenbbfbaaAround
import Derived.BigRegion
import Derived.Deep.CutRange
namespace Go.Proofs.Ytnmehmlenbbfbaa.heads
open Go.ChangeShapes Go.WideShapes Go.ChangeAt Go.RowKit
set_option linter.unusedVariables false
set_option linter.unusedSimpArgs false

/-- The decimal of a number of at most f digits. -/
def decS : Nat → Nat → ByteArray
  | 0, _ => ByteArray.empty
  | f + 1, n => if n < 10 then strOfNums [48 + (n : Int)] else decS f (n / 10) ++ strOfNums [48 + ((n % 10 : Nat) : Int)]
theorem one_size' (c : Int) : (strOfNums [c]).size = 1 := by rfl
theorem decS_size : ∀ f n, (decS f n).size ≤ f
  | 0, n => by simp [decS]
  | f + 1, n => by
    have ih := decS_size f (n / 10)
    unfold decS
    split
    · rw [one_size']; omega
    · rw [ByteArray.size_append, one_size']; omega
set_option maxHeartbeats 2000000 in
theorem decS_step (f n : Nat) (w : World) (hf : f ≤ 8) (hn : n < 10 ^ (f + 1)) (IH : ∀ w', 10 ≤ n → Calls Try.prog 42 #[I ((n / 10 : Nat) : Int)] w' fun e w'' => e = .returned (.string (decS f (n / 10))) ∧ Bl w' w'') :
    Calls Try.prog 42 #[I n] w fun e w' => e = .returned (.string (decS (f + 1) n)) ∧ Bl w w' := by
    have hcv : ∀ (w : World) (c : Int), (convert 75 9 (.slice (some ⟨w.heap.size, 0, none⟩) 1 1)).run Try.prog (w.alloc (.cells #[.int .u8 c] 5)) = .ok (.string (strOfNums [c])) (w.alloc (.cells #[.int .u8 c] 5)) := fun w c =>
      run_convert_bytes_arg _ 75 5 Try.underlying75 Try.underlying5 w.heap.size 0 1 1 [c] rfl (fun j hj => by
        match j, hj with
        | 0, _ => simp) 9 Try.underlying9
    have hp : (10 : Nat) ^ (f + 1) ≤ 10 ^ 9 := Nat.pow_le_pow_right (by omega) (by omega)
    have n9 : n < 10 ^ 10 := by omega
    have ht : (n : Int).tmod 10 = ((n % 10 : Nat) : Int) := by rw [Int.tmod_eq_emod_of_nonneg (by omega)]; omega
    have hd : (n : Int).tdiv 10 = ((n / 10 : Nat) : Int) := by rw [Int.tdiv_eq_ediv_of_nonneg (by omega)]; omega
    have hr : n % 10 < 10 := Nat.mod_lt _ (by omega)
    replace IH := Lib.hid IH
    have hsz := decS_size f (n / 10)
    obtain ⟨r, hrr⟩ : ∃ r, n % 10 = r := ⟨_, rfl⟩
    obtain ⟨q, hq⟩ : ∃ q, n / 10 = q := ⟨_, rfl⟩
    have hdm := Nat.div_add_mod n 10
    rw [hrr, hq] at hdm
    have hu : decS (f + 1) n = if n < 10 then strOfNums [48 + (n : Int)] else decS f q ++ strOfNums [48 + (r : Int)] := by rw [← hq, ← hrr]; rfl
    rw [hu]
    rw [hrr] at ht hr
    rw [hq] at hd IH hsz
    clear hu hrr hq hp hn
    have hw : IntKind.i64.wrap ((n : Int).tmod 10) = (r : Int) := by rw [ht, IntKind.wrap_i64]; omega
    have hwd : IntKind.i64.wrap ((n : Int).tdiv 10) = (q : Int) := by rw [hd, IntKind.wrap_i64]; omega
    have hw2 : IntKind.i64.wrap (48 + (r : Int)) = 48 + (r : Int) := by rw [IntKind.wrap_i64]; omega
    have hu8 : IntKind.u8.wrap (48 + (r : Int)) = 48 + (r : Int) := by rw [IntKind.wrap_u8]; omega
    by_cases h10 : n < 10
    · obtain rfl : r = n := by omega
      rw [if_pos h10]
      go_enter Try.func42, Try.ntmps42
      go_wp2_with fail
      go_ret
      exact ⟨rfl, (Bl.rfl' w).al _⟩
    · rw [if_neg h10]
      have IH2 := Lib.hid (fun w' => IH.out w' (by omega))
      have hadd := fun w => run_string_add_sum (P := Try.prog) w (decS f q) (strOfNums [48 + (r : Int)]) (by rw [one_size']; omega)
      obtain ⟨D, hD⟩ : ∃ z_, (decS f q) = z_ := ⟨_, rfl⟩
      rw [hD] at IH2
      simp only [hD] at hadd
      clear IH
      go_enter Try.func42, Try.ntmps42
      go_wp2_with fail
      with_reducible refine (IH2.out _).mono ?_
      rintro e w2 ⟨rfl, hb2⟩
      replace hb2 := Lib.hid hb2
      replace hD := Lib.hid hD
      go_wp2_with fail
      go_ret
      exact ⟨by rw [hD.out]; rfl, ((Bl.rfl' w).al _).tr hb2.out⟩
theorem decS_any : ∀ (f : Nat) (n : Nat) (w : World), f ≤ 8 → n < 10 ^ (f + 1) → Calls Try.prog 42 #[I n] w fun e w' => e = .returned (.string (decS (f + 1) n)) ∧ Bl w w'
  | 0, n, w, hf, hn => decS_step 0 n w hf hn (fun w' h => by omega)
  | f + 1, n, w, hf, hn => decS_step (f + 1) n w hf hn (fun w' h => decS_any f (n / 10) w' (by omega) (by
      have hp2 : (10 : Nat) ^ (f + 1 + 1) = 10 ^ (f + 1) * 10 := Nat.pow_succ ..
      omega))

def nT (j : Nat) : ByteArray := [⟨#[97]⟩, ⟨#[98]⟩, ⟨#[120, 45, 117, 115, 101, 114]⟩, ⟨#[118, 50]⟩, ⟨#[104, 111, 115, 116]⟩, ⟨#[113]⟩, ⟨#[99, 45, 51]⟩, ⟨#[116, 114, 97, 99, 101]⟩, ⟨#[122]⟩, ⟨#[121, 49]⟩].getD j ⟨#[]⟩
def vT (j : Nat) : ByteArray := [⟨#[]⟩, ⟨#[49]⟩, ⟨#[50]⟩, ⟨#[98, 101, 116, 97]⟩, ⟨#[97, 32, 98]⟩, ⟨#[120, 58, 49, 58, 121]⟩, ⟨#[126]⟩, ⟨#[52, 50]⟩].getD j ⟨#[]⟩
abbrev oN : Obj := .cells #[S ⟨#[97]⟩, S ⟨#[98]⟩, S ⟨#[120, 45, 117, 115, 101, 114]⟩, S ⟨#[118, 50]⟩, S ⟨#[104, 111, 115, 116]⟩, S ⟨#[113]⟩, S ⟨#[99, 45, 51]⟩, S ⟨#[116, 114, 97, 99, 101]⟩, S ⟨#[122]⟩, S ⟨#[121, 49]⟩] 9
abbrev oV : Obj := .cells #[S ⟨#[]⟩, S ⟨#[49]⟩, S ⟨#[50]⟩, S ⟨#[98, 101, 116, 97]⟩, S ⟨#[97, 32, 98]⟩, S ⟨#[120, 58, 49, 58, 121]⟩, S ⟨#[126]⟩, S ⟨#[52, 50]⟩] 9
theorem cellN {v : World} {b : Nat} (hb : v.heap[b]? = some oN) (j : Nat) (hj : j < 10) : v.cell? ⟨b, j, none⟩ = some (S (nT j)) := by
  rw [cell_at hb j]
  rcases j with _ | _ | _ | _ | _ | _ | _ | _ | _ | _ | j
  all_goals first | rfl | omega
theorem cellV {v : World} {b : Nat} (hb : v.heap[b]? = some oV) (j : Nat) (hj : j < 8) : v.cell? ⟨b, j, none⟩ = some (S (vT j)) := by
  rw [cell_at hb j]
  rcases j with _ | _ | _ | _ | _ | _ | _ | _ | j
  all_goals first | rfl | omega
abbrev oZ : Obj := .cells #[S ⟨#[]⟩, S ⟨#[]⟩] 49
def alls (W : World) : List Obj → World
  | [] => W
  | o :: r => alls (W.alloc o) r
theorem alls_keep : ∀ (r : List Obj) (W : World) (b : Nat) (o : Obj), W.heap[b]? = some o → (alls W r).heap[b]? = some o
  | [], W, b, o, h => h
  | o' :: r, W, b, o, h => alls_keep r (W.alloc o') b o (blk_bl h ((Bl.rfl' W).al o'))
theorem alls_at : ∀ (W : World) (pre : List Obj) (o : Obj) (post : List Obj), (alls W (pre ++ o :: post)).heap[W.heap.size + pre.length]? = some o
  | W, [], o, post => alls_keep post _ _ _ (heap_alloc_new W o)
  | W, o' :: pre, o, post => by
    have h := alls_at (W.alloc o') pre o post
    have hs : (W.alloc o').heap.size + pre.length = W.heap.size + (o' :: pre).length := by simp; omega
    rw [hs] at h
    exact h
def dots : ByteArray := ⟨#[46, 46, 46, 46, 46, 46, 46, 46, 46, 46, 46, 46, 46, 46, 46, 46, 46, 46, 46, 46, 46, 46, 46, 46, 46, 46, 46, 46, 46, 46, 46, 46, 46, 46, 46, 46, 46, 46, 46, 46]⟩
/-- The head of a number that is made 0 to 99999. -/
def ofN (x : Int) : Hd := ⟨nT (x % 10).toNat, if x % 37 = 5 then decS 6 x.toNat ++ dots else vT (x / 10 % 8).toNat⟩
def oneF (n : Int) : Hd := ofN (around n 100000)

set_option maxRecDepth 20000 in
set_option maxHeartbeats 4000000 in
theorem one_any (n : Int) (w : World) (h1 : -9223372036854775808 ≤ n) (h2 : n ≤ 9223372036854775807) :
    Calls Try.prog 22 #[I n] w fun e w' => e = .returned (hv (oneF n)) ∧ Bl w w' := by
  have A1 := Lib.hid (fun w => around_any n 100000 w h1 h2 (by omega) (by omega))
  have f0 := around_lo n 100000 (by omega); have f1 := around_hi n 100000 (by omega)
  unfold oneF
  obtain ⟨x, hx⟩ : ∃ z_, (around n 100000) = z_ := ⟨_, rfl⟩
  rw [hx] at A1 f0 f1
  rw [hx]
  clear hx h1 h2
  have L1 : (((w.alloc oZ).alloc oN).drew).cell? ⟨w.heap.size + 1, (x % 10).toNat, none⟩ = some (S (nT (x % 10).toNat)) := cellN (alls_at w [oZ] oN []) (x % 10).toNat (by omega)
  have L2 : ((((w.alloc oZ).alloc oZ).alloc oN).drew).cell? ⟨w.heap.size + 1 + 1, (x % 10).toNat, none⟩ = some (S (nT (x % 10).toNat)) := cellN (alls_at w [oZ, oZ] oN []) (x % 10).toNat (by omega)
  have L3 : ((((w.alloc oZ).alloc oN).alloc oZ).drew).cell? ⟨w.heap.size + 1, (x % 10).toNat, none⟩ = some (S (nT (x % 10).toNat)) := cellN (alls_at w [oZ] oN [oZ]) (x % 10).toNat (by omega)
  have L4 : ((((w.alloc oZ).alloc oN).alloc oV).drew).cell? ⟨w.heap.size + 1, (x % 10).toNat, none⟩ = some (S (nT (x % 10).toNat)) := cellN (alls_at w [oZ] oN [oV]) (x % 10).toNat (by omega)
  have L5 : ((((w.alloc oZ).alloc oV).alloc oN).drew).cell? ⟨w.heap.size + 1 + 1, (x % 10).toNat, none⟩ = some (S (nT (x % 10).toNat)) := cellN (alls_at w [oZ, oV] oN []) (x % 10).toNat (by omega)
  have L6 : (((((w.alloc oZ).alloc oZ).alloc oN).alloc oV).drew).cell? ⟨w.heap.size + 1 + 1, (x % 10).toNat, none⟩ = some (S (nT (x % 10).toNat)) := cellN (alls_at w [oZ, oZ] oN [oV]) (x % 10).toNat (by omega)
  have L7 : (((((w.alloc oZ).alloc oZ).alloc oV).alloc oN).drew).cell? ⟨w.heap.size + 1 + 1 + 1, (x % 10).toNat, none⟩ = some (S (nT (x % 10).toNat)) := cellN (alls_at w [oZ, oZ, oV] oN []) (x % 10).toNat (by omega)
  have L8 : (((((w.alloc oZ).alloc oN).alloc oZ).alloc oV).drew).cell? ⟨w.heap.size + 1, (x % 10).toNat, none⟩ = some (S (nT (x % 10).toNat)) := cellN (alls_at w [oZ] oN [oZ, oV]) (x % 10).toNat (by omega)
  have L9 : (((((w.alloc oZ).alloc oN).alloc oV).alloc oZ).drew).cell? ⟨w.heap.size + 1, (x % 10).toNat, none⟩ = some (S (nT (x % 10).toNat)) := cellN (alls_at w [oZ] oN [oV, oZ]) (x % 10).toNat (by omega)
  have L10 : (((((w.alloc oZ).alloc oV).alloc oZ).alloc oN).drew).cell? ⟨w.heap.size + 1 + 1 + 1, (x % 10).toNat, none⟩ = some (S (nT (x % 10).toNat)) := cellN (alls_at w [oZ, oV, oZ] oN []) (x % 10).toNat (by omega)
  have L11 : (((((w.alloc oZ).alloc oV).alloc oN).alloc oZ).drew).cell? ⟨w.heap.size + 1 + 1, (x % 10).toNat, none⟩ = some (S (nT (x % 10).toNat)) := cellN (alls_at w [oZ, oV] oN [oZ]) (x % 10).toNat (by omega)
  have L12 : (((w.alloc oZ).alloc oV).drew).cell? ⟨w.heap.size + 1, (x / 10 % 8).toNat, none⟩ = some (S (vT (x / 10 % 8).toNat)) := cellV (alls_at w [oZ] oV []) (x / 10 % 8).toNat (by omega)
  have L13 : ((((w.alloc oZ).alloc oZ).alloc oV).drew).cell? ⟨w.heap.size + 1 + 1, (x / 10 % 8).toNat, none⟩ = some (S (vT (x / 10 % 8).toNat)) := cellV (alls_at w [oZ, oZ] oV []) (x / 10 % 8).toNat (by omega)
  have L14 : ((((w.alloc oZ).alloc oN).alloc oV).drew).cell? ⟨w.heap.size + 1 + 1, (x / 10 % 8).toNat, none⟩ = some (S (vT (x / 10 % 8).toNat)) := cellV (alls_at w [oZ, oN] oV []) (x / 10 % 8).toNat (by omega)
  have L15 : ((((w.alloc oZ).alloc oV).alloc oZ).drew).cell? ⟨w.heap.size + 1, (x / 10 % 8).toNat, none⟩ = some (S (vT (x / 10 % 8).toNat)) := cellV (alls_at w [oZ] oV [oZ]) (x / 10 % 8).toNat (by omega)
  have L16 : ((((w.alloc oZ).alloc oV).alloc oN).drew).cell? ⟨w.heap.size + 1, (x / 10 % 8).toNat, none⟩ = some (S (vT (x / 10 % 8).toNat)) := cellV (alls_at w [oZ] oV [oN]) (x / 10 % 8).toNat (by omega)
  have L17 : (((((w.alloc oZ).alloc oZ).alloc oN).alloc oV).drew).cell? ⟨w.heap.size + 1 + 1 + 1, (x / 10 % 8).toNat, none⟩ = some (S (vT (x / 10 % 8).toNat)) := cellV (alls_at w [oZ, oZ, oN] oV []) (x / 10 % 8).toNat (by omega)
  have L18 : (((((w.alloc oZ).alloc oZ).alloc oV).alloc oN).drew).cell? ⟨w.heap.size + 1 + 1, (x / 10 % 8).toNat, none⟩ = some (S (vT (x / 10 % 8).toNat)) := cellV (alls_at w [oZ, oZ] oV [oN]) (x / 10 % 8).toNat (by omega)
  have L19 : (((((w.alloc oZ).alloc oN).alloc oZ).alloc oV).drew).cell? ⟨w.heap.size + 1 + 1 + 1, (x / 10 % 8).toNat, none⟩ = some (S (vT (x / 10 % 8).toNat)) := cellV (alls_at w [oZ, oN, oZ] oV []) (x / 10 % 8).toNat (by omega)
  have L20 : (((((w.alloc oZ).alloc oN).alloc oV).alloc oZ).drew).cell? ⟨w.heap.size + 1 + 1, (x / 10 % 8).toNat, none⟩ = some (S (vT (x / 10 % 8).toNat)) := cellV (alls_at w [oZ, oN] oV [oZ]) (x / 10 % 8).toNat (by omega)
  have L21 : (((((w.alloc oZ).alloc oV).alloc oZ).alloc oN).drew).cell? ⟨w.heap.size + 1, (x / 10 % 8).toNat, none⟩ = some (S (vT (x / 10 % 8).toNat)) := cellV (alls_at w [oZ] oV [oZ, oN]) (x / 10 % 8).toNat (by omega)
  have L22 : (((((w.alloc oZ).alloc oV).alloc oN).alloc oZ).drew).cell? ⟨w.heap.size + 1, (x / 10 % 8).toNat, none⟩ = some (S (vT (x / 10 % 8).toNat)) := cellV (alls_at w [oZ] oV [oN, oZ]) (x / 10 % 8).toNat (by omega)
  have hof : ofN x = ⟨nT (x % 10).toNat, if x % 37 = 5 then decS 6 x.toNat ++ dots else vT (x / 10 % 8).toNat⟩ := rfl
  rw [hof]
  clear hof
  obtain ⟨V, hV⟩ : ∃ z_, (if x % 37 = 5 then decS 6 x.toNat ++ dots else vT (x / 10 % 8).toNat) = z_ := ⟨_, rfl⟩
  rw [hV]
  have t1 : x.tmod 10 = x % 10 := Int.tmod_eq_emod_of_nonneg f0
  have t2 : x.tdiv 10 = x / 10 := Int.tdiv_eq_ediv_of_nonneg f0
  have t3 : (x / 10).tmod 8 = x / 10 % 8 := Int.tmod_eq_emod_of_nonneg (by omega)
  have t4 : x.tmod 37 = x % 37 := Int.tmod_eq_emod_of_nonneg f0
  obtain ⟨nn, hnn⟩ : ∃ z_, (nT (x % 10).toNat) = z_ := ⟨_, rfl⟩
  rw [hnn] at L1 L2 L3 L4 L5 L6 L7 L8 L9 L10 L11 ⊢
  obtain ⟨vv, hvv⟩ : ∃ z_, (vT (x / 10 % 8).toNat) = z_ := ⟨_, rfl⟩
  rw [hvv] at L12 L13 L14 L15 L16 L17 L18 L19 L20 L21 L22 hV
  have m0 : 0 ≤ x % 10 := by omega
  have m1 : x % 10 < 10 := by omega
  have m2 : 0 ≤ x / 10 % 8 := by omega
  have m3 : x / 10 % 8 < 8 := by omega
  clear hnn hvv
  replace hV := Lib.hid hV
  go_enter Try.func22, Try.ntmps22
  go_wp2_with fail
  with_reducible refine ((A1.out _)).mono ?_
  rintro e w' ⟨rfl, rfl⟩
  go_wp2_with fail
  go_upto_region 2 with fail
  go_cut [4] from 7 to 18 (fun v wx => ∃ y, v = .pointer (some ⟨y, 0, none⟩) ∧ wx.heap[y]? = some (.cells #[S nn, S vv] 49 (0, 0)) ∧ wx.heap[w.heap.size]? = some (.cells #[S ⟨#[]⟩, S ⟨#[]⟩] 49 (0, 0)) ∧ w.heap.size < y ∧ Bl w wx)
  case first =>
    go_region
    all_goals
      go_wp2_with fail
      go_meet
      case rel =>
       first
        | exact ⟨_, rfl, alls_at w [oZ] (oH ⟨nn, vv⟩) [oN, oV], alls_at w [] oZ [oH ⟨nn, vv⟩, oN, oV], by omega, (((((Bl.rfl' w).al oZ).al (oH ⟨nn, vv⟩)).al (oN)).al (oV)).dr⟩
        | exact ⟨_, rfl, alls_at w [oZ] (oH ⟨nn, vv⟩) [oV, oN], alls_at w [] oZ [oH ⟨nn, vv⟩, oV, oN], by omega, (((((Bl.rfl' w).al oZ).al (oH ⟨nn, vv⟩)).al (oV)).al (oN)).dr⟩
        | exact ⟨_, rfl, alls_at w [oZ, oN] (oH ⟨nn, vv⟩) [oV], alls_at w [] oZ [oN, oH ⟨nn, vv⟩, oV], by omega, (((((Bl.rfl' w).al oZ).al (oN)).al (oH ⟨nn, vv⟩)).al (oV)).dr⟩
        | exact ⟨_, rfl, alls_at w [oZ, oN, oV] (oH ⟨nn, vv⟩) [], alls_at w [] oZ [oN, oV, oH ⟨nn, vv⟩], by omega, (((((Bl.rfl' w).al oZ).al (oN)).al (oV)).al (oH ⟨nn, vv⟩)).dr⟩
        | exact ⟨_, rfl, alls_at w [oZ, oV] (oH ⟨nn, vv⟩) [oN], alls_at w [] oZ [oV, oH ⟨nn, vv⟩, oN], by omega, (((((Bl.rfl' w).al oZ).al (oV)).al (oH ⟨nn, vv⟩)).al (oN)).dr⟩
        | exact ⟨_, rfl, alls_at w [oZ, oV, oN] (oH ⟨nn, vv⟩) [], alls_at w [] oZ [oV, oN, oH ⟨nn, vv⟩], by omega, (((((Bl.rfl' w).al oZ).al (oV)).al (oN)).al (oH ⟨nn, vv⟩)).dr⟩
  case rest =>
    obtain ⟨y, rfl, hy, hz, hlt, hbc⟩ := hcut
    obtain ⟨k, hk⟩ : ∃ k : Nat, x = k := ⟨x.toNat, by omega⟩
    have hkn : x.toNat = k := by omega
    clear m0 m1 m2 m3 t1 t2 t3 L1 L2 L3 L4 L5 L6 L7 L8 L9 L10 L11 L12 L13 L14 L15 L16 L17 L18 L19 L20 L21 L22
    obtain ⟨r, hr⟩ : ∃ r, w.heap.size = r := ⟨_, rfl⟩
    rw [hr] at hz
    have hne : y ≠ r := by omega
    have r0 := cell_at hz 0
    have r1 := cell_at hz 1
    have rf := free_at hz
    have y0 := cell_at hy 0
    have y1 := cell_at hy 1
    simp only [List.getElem?_toArray, List.getElem?_cons_succ, List.getElem?_cons_zero] at r0 r1 y0 y1
    by_cases h5 : x % 37 = 5
    · have d5 : ((x % 37) == 5) = true := beq_iff_eq.2 h5
      have DC := decS_any 5 k wc (by omega) (by omega)
      rw [← hk] at DC
      have hds := decS_size 6 k
      have hdd : dots.size = 40 := rfl
      have hadd : ∀ w, (Op.stringOp .add (decS 6 k) dots).run Try.prog w = .ok (.string (decS 6 k ++ dots)) w := fun w => run_string_add_sum w (decS 6 k) dots (by omega)
      have hres : V = decS 6 k ++ dots := by rw [← hV.out, if_pos h5, hkn]
      obtain ⟨D, hD⟩ : ∃ z_, (decS 6 k) = z_ := ⟨_, rfl⟩
      rw [hD] at DC hres
      simp only [hD] at hadd
      have hdl : dots = ⟨#[46, 46, 46, 46, 46, 46, 46, 46, 46, 46, 46, 46, 46, 46, 46, 46, 46, 46, 46, 46, 46, 46, 46, 46, 46, 46, 46, 46, 46, 46, 46, 46, 46, 46, 46, 46, 46, 46, 46, 46]⟩ := rfl
      obtain ⟨DD, hDD⟩ : ∃ z_, (D ++ dots) = z_ := ⟨_, rfl⟩
      simp only [hDD] at hadd
      rw [hDD] at hres
      simp only [hdl] at hadd
      clear h5 hD hDD hdd hds hdl hk hkn
      replace DC := Lib.hid DC
      replace hres := Lib.hid hres
      replace hz := Lib.hid hz
      replace hy := Lib.hid hy
      replace hbc := Lib.hid hbc
      go_wp2_with fail
      with_reducible refine (DC.out).mono ?_
      rintro e w5 ⟨rfl, hn⟩
      have hy5 := blk_bl hy.out hn
      have hz5 := blk_bl hz.out hn
      have hb5 := hbc.out.tr hn
      clear y0 y1 r0 r1 rf hn
      have r0 := cell_at hz5 0
      have r1 := cell_at hz5 1
      have rf := free_at hz5
      have y0 := cell_at hy5 0
      have y1 := cell_at hy5 1
      have yf := free_at hy5
      have hy6 := set_at 1 (S DD) hy5
      have g6 := gby_set w5 y 1 (S DD)
      have hz6 := blk_gby hz5 g6 (fun e => hne e.symm)
      have hyb : w.heap.size ≤ y := by omega
      have hb6 := hb5.grown g6 (fun q hq => by cases hq; exact hyb)
      simp only [List.setIfInBounds_toArray, List.set_cons_zero, List.set_cons_succ] at hy6
      have s0 := cell_at hz6 0
      have s1 := cell_at hz6 1
      have sf := free_at hz6
      have t0 := cell_at hy6 0
      have t1 := cell_at hy6 1
      simp only [List.getElem?_toArray, List.getElem?_cons_succ, List.getElem?_cons_zero] at r0 r1 y0 y1 s0 s1 t0 t1
      replace hy5 := Lib.hid hy5
      replace hz5 := Lib.hid hz5
      replace hb5 := Lib.hid hb5
      replace hy6 := Lib.hid hy6
      replace g6 := Lib.hid g6
      replace hz6 := Lib.hid hz6
      replace hb6 := Lib.hid hb6
      go_wp2_with fail
      have hz8 := set_at 1 (S DD) (set_at 0 (S nn) hz6.out)
      simp only [List.setIfInBounds_toArray, List.set_cons_zero, List.set_cons_succ] at hz8
      have g8 := gby_tr (gby_set (w5.setCell ⟨y, 1, none⟩ (S DD)) r 0 (S nn)) (gby_set _ r 1 (S DD))
      have hb8 := hb6.out.grown g8 (fun q hq => by cases hq; omega)
      have z0 := cell_at hz8 0
      have z1 := cell_at hz8 1
      have zz0 := cell_at (set_at 0 (S nn) hz6.out) 0
      have zz1 := cell_at (set_at 0 (S nn) hz6.out) 1
      simp only [List.setIfInBounds_toArray, List.set_cons_zero, List.getElem?_toArray, List.getElem?_cons_succ, List.getElem?_cons_zero] at z0 z1 zz0 zz1
      refine bodyPost_ret (v := .agg #[S nn, S DD]) (by simp [results, Try.results22, go_sem, hr, z0, z1, zz0, zz1]) rfl ?_
      exact ⟨by rw [hres.out], hb8⟩
    · have d5 : ((x % 37) == 5) = false := beq_eq_false_iff_ne.2 h5
      have hres : V = vv := by rw [← hV.out, if_neg h5]
      clear h5 hk hkn
      replace hres := Lib.hid hres
      replace hz := Lib.hid hz
      replace hy := Lib.hid hy
      replace hbc := Lib.hid hbc
      go_wp2_with fail
      have hz8 := set_at 1 (S vv) (set_at 0 (S nn) hz.out)
      simp only [List.setIfInBounds_toArray, List.set_cons_zero, List.set_cons_succ] at hz8
      have g8 := gby_tr (gby_set wc r 0 (S nn)) (gby_set _ r 1 (S vv))
      have hb8 := hbc.out.grown g8 (fun q hq => by cases hq; omega)
      have z0 := cell_at hz8 0
      have z1 := cell_at hz8 1
      have zz0 := cell_at (set_at 0 (S nn) hz.out) 0
      have zz1 := cell_at (set_at 0 (S nn) hz.out) 1
      simp only [List.setIfInBounds_toArray, List.set_cons_zero, List.getElem?_toArray, List.getElem?_cons_succ, List.getElem?_cons_zero] at z0 z1 zz0 zz1
      refine bodyPost_ret (v := .agg #[S nn, S vv]) (by simp [results, Try.results22, go_sem, hr, z0, z1, zz0, zz1]) rfl ?_
      exact ⟨by rw [hres.out], hb8⟩
end Go.Proofs.Ytnmehmlenbbfbaa.heads
