/-
  Package dedup: a step that is made of a number.
-/
import Derived.Test.YtfpapfnpppggeaaDdG
import Derived.Test.YtfpapfnpppggeaaDdF
import Derived.BigRegion
namespace Go.Proofs.Ytfpapfnpppggeaa.dedup
open Go.ChangeShapes Go.WideShapes Go.ChangeAt Go.RowKit
set_option linter.unusedVariables false
set_option linter.unusedSimpArgs false

def tI (j : Nat) : Int := [0, 1, 2, 3, 7, 20].getD j 0
def tK (j : Nat) : ByteArray := [⟨#[]⟩, ⟨#[55]⟩, ⟨#[55, 47, 48]⟩, ⟨#[56]⟩, ⟨#[55, 47, 49]⟩, ⟨#[97]⟩].getD j ⟨#[]⟩
theorem tI_le (j : Nat) : 0 ≤ tI j ∧ tI j ≤ 20 := by
  unfold tI
  rcases j with _ | _ | _ | _ | _ | _ | j <;> simp
abbrev oI : Obj := .cells #[I 0, I 1, I 2, I 3, I 7, I 20] 3
abbrev oK : Obj := .cells #[sV ⟨#[]⟩, sV ⟨#[55]⟩, sV ⟨#[55, 47, 48]⟩, sV ⟨#[56]⟩, sV ⟨#[55, 47, 49]⟩, sV ⟨#[97]⟩] 9
theorem cellI {v : World} {b : Nat} (hb : v.heap[b]? = some oI) (j : Nat) (hj : j < 6) : v.cell? ⟨b, j, none⟩ = some (I (tI j)) := by
  rw [cell_at hb j]
  rcases j with _ | _ | _ | _ | _ | _ | j
  all_goals first | rfl | omega
theorem cellK {v : World} {b : Nat} (hb : v.heap[b]? = some oK) (j : Nat) (hj : j < 6) : v.cell? ⟨b, j, none⟩ = some (sV (tK j)) := by
  rw [cell_at hb j]
  rcases j with _ | _ | _ | _ | _ | _ | j
  all_goals first | rfl | omega
abbrev oS : Obj := .cells #[I 0, sV ⟨#[]⟩, .bool false] 28
theorem at1 (w : World) (o o1 : Obj) : ((w.alloc o).alloc o1).drew.heap[w.heap.size + 1]? = some o1 := by
  have h := blk_bl (heap_alloc_new (w.alloc o) o1) (Bl.rfl' _).dr
  simpa using h
theorem at1' (w : World) (o o1 o2 : Obj) : (((w.alloc o).alloc o1).alloc o2).drew.heap[w.heap.size + 1]? = some o1 := by
  have h := blk_bl (heap_alloc_new (w.alloc o) o1) (((Bl.rfl' _).al o2).dr)
  simpa using h
theorem at2 (w : World) (o o1 o2 : Obj) : (((w.alloc o).alloc o1).alloc o2).drew.heap[w.heap.size + 2]? = some o2 := by
  have h := blk_bl (heap_alloc_new ((w.alloc o).alloc o1) o2) (Bl.rfl' _).dr
  simpa using h

/-- The step of a number that is made 0 to 999999: how many ticks later, the key, whether it is put. -/
def sL (x : Int) : Int := tI (x % 6).toNat + x / 600 % 2 * (x / 1200 % 50)
def sK (x : Int) : ByteArray := tK (x / 6 % 6).toNat
def sP (x : Int) : Bool := decide (0 < x / 36 % 3)
theorem prod_le (x : Int) (h : 0 ≤ x) : 0 ≤ x / 600 % 2 * (x / 1200 % 50) ∧ x / 600 % 2 * (x / 1200 % 50) ≤ 49 := by
  have h1 : x / 600 % 2 = 0 ∨ x / 600 % 2 = 1 := by omega
  rcases h1 with h1 | h1 <;> rw [h1] <;> omega
theorem sL_le (x : Int) (h : 0 ≤ x) : 0 ≤ sL x ∧ sL x ≤ 69 := by
  have := prod_le x h
  have := tI_le (x % 6).toNat
  unfold sL
  omega

set_option maxHeartbeats 4000000 in
theorem of_any (n : Int) (w : World) (h1 : -9223372036854775808 ≤ n) (h2 : n ≤ 9223372036854775807) :
    Calls Try.prog 12 #[I n] w fun e w' => e = .returned (.agg #[I (sL (around n 1000000)), sV (sK (around n 1000000)), .bool (sP (around n 1000000))]) ∧ Bl w w' := by
  have A1 := Lib.hid (fun w => around_any n 1000000 w h1 h2 (by omega) (by omega))
  have f0 := around_lo n 1000000 (by omega); have f1 := around_hi n 1000000 (by omega)
  obtain ⟨x, hx⟩ : ∃ z_, (around n 1000000) = z_ := ⟨_, rfl⟩
  rw [hx] at A1 f0 f1
  rw [hx]
  clear hx h1 h2
  have L1 := cellI (at1 w oS oI) (x % 6).toNat (by omega)
  have L2 := cellK (at1 w oS oK) (x / 6 % 6).toNat (by omega)
  have L3 := cellI (at1' w oS oI oK) (x % 6).toNat (by omega)
  have L4 := cellK (at1' w oS oK oI) (x / 6 % 6).toNat (by omega)
  have L5 := cellI (at2 w oS oK oI) (x % 6).toNat (by omega)
  have L6 := cellK (at2 w oS oI oK) (x / 6 % 6).toNat (by omega)
  obtain ⟨g0, g1⟩ := tI_le (x % 6).toNat
  obtain ⟨q0, q1⟩ := prod_le x f0
  have hL : sL x = tI (x % 6).toNat + x / 600 % 2 * (x / 1200 % 50) := rfl
  have hK : sK x = tK (x / 6 % 6).toNat := rfl
  have hP : decide (0 < x / 36 % 3) = sP x := rfl
  obtain ⟨l, hl⟩ : ∃ z, sL x = z := ⟨_, rfl⟩
  obtain ⟨key, hkey⟩ : ∃ z, sK x = z := ⟨_, rfl⟩
  obtain ⟨pu, hpu⟩ : ∃ z, sP x = z := ⟨_, rfl⟩
  rw [hl] at hL
  rw [hkey] at hK
  rw [hpu] at hP
  rw [hl, hkey, hpu]
  obtain ⟨d, hd⟩ : ∃ z, tI (x % 6).toNat = z := ⟨_, rfl⟩
  obtain ⟨m, hm⟩ : ∃ z, x / 600 % 2 * (x / 1200 % 50) = z := ⟨_, rfl⟩
  rw [hd] at L1 L3 L5 g0 g1 hL
  rw [← hK] at L2 L4 L6
  rw [hm] at q0 q1 hL
  have wm : IntKind.i64.wrap (x / 600 % 2 * (x / 1200 % 50)) = m := by rw [hm, IntKind.wrap_i64]; omega
  have wl : IntKind.i64.wrap (d + m) = l := by rw [hL, IntKind.wrap_i64]; omega
  clear hl hkey hpu hK hL hd hm
  go_enter Try.func12, Try.ntmps12
  go_wp2_with fail
  with_reducible refine ((A1.out _)).mono ?_
  rintro e w' ⟨rfl, rfl⟩
  go_wp2_with fail
  go_region
  all_goals
    go_wp2_with fail
    have hb := (((Bl.rfl' w).al (.cells #[I l, sV key, .bool pu] 28)).al oI).al oK
    have hb2 := (((Bl.rfl' w).al (.cells #[I l, sV key, .bool pu] 28)).al oK).al oI
    refine bodyPost_ret (v := .agg #[I l, sV key, .bool pu]) (by simp [results, Try.results12, go_sem]) rfl ?_
    first | exact ⟨rfl, hb.dr⟩ | exact ⟨rfl, hb2.dr⟩
end Go.Proofs.Ytfpapfnpppggeaa.dedup
