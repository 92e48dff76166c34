/-
  Package split: the law's counts.
-/
import Derived.Test.YtndlglkokbchbaaSpJ
import Derived.Deep.OwnRows
namespace Go.Proofs.Ytndlglkokbchbaa.split
open Go.ChangeShapes Go.WideShapes Go.ChangeAt Go.RowKit
set_option linter.unusedVariables false
set_option linter.unusedSimpArgs false

theorem infoN : (Try.prog.info? 3).map (fun i => (i.zero, i.size, i.bytes)) = some (some (I 0), 1, 8) := by kernel_rfl
/-- What is counted behind n numbers from f on. -/
def cc (R : List Pt) (f : Nat) (n : Nat) (s : Nat) : Nat := cntN (fun i => hitS R s (f + i)) n
def ccF (R : List Pt) (f n : Nat) : Nat → Value := fun s => I (cc R f n s)
abbrev oC (R : List Pt) (f n : Nat) : Obj := .cells ((List.range 11).map (ccF R f n)).toArray 3
theorem cc_succ (R : List Pt) (f n s : Nat) : cc R f (n + 1) s = cc R f n s + (hitS R s (f + n)).toNat := rfl
theorem cells_step (R : List Pt) (f n p : Nat) (h : pickF R ((f + n : Nat) : Int) = p) : ((List.range 11).map (ccF R f n)).toArray.setIfInBounds p (I ((cc R f n p : Int) + 1)) = ((List.range 11).map (ccF R f (n + 1))).toArray := by
  have hp : I ((cc R f n p : Int) + 1) = ccF R f (n + 1) p := by
    unfold ccF
    rw [cc_succ]
    unfold hitS
    rw [decide_eq_true h]
    rfl
  rw [hp]
  refine set_range 11 _ _ p (fun s hs => ?_)
  unfold ccF
  rw [cc_succ]
  unfold hitS
  rw [decide_eq_false (fun e => hs (by omega))]
  rfl
theorem cells_get (R : List Pt) (f n s : Nat) (h : s < 11) : ((List.range 11).map (ccF R f n)).toArray[s]? = some (I (cc R f n s)) := by
  simp only [List.getElem?_toArray, List.getElem?_map]
  rw [List.getElem?_range h]
  rfl
def CntD (R : List Pt) (f n : Nat) (w : World) : Ending → World → Prop := fun e w' => ∃ g, e = .returned (.slice (some ⟨g, 0, none⟩) 11 11) ∧ w'.heap[g]? = some (oC R f n) ∧ w.heap.size ≤ g ∧ Bl w w'

set_option maxHeartbeats 8000000 in
theorem counts_any (v : Value) (R : List Pt) (f n : Nat) (w : World) (hv : PartsAt w v R) (hs : ∀ d, 1 ≤ pickF R d ∧ pickF R d ≤ 10) (hf : f ≤ 9223372036854775808) (hn : n ≤ 1000) :
    Calls Try.prog 19 #[v, .int .u64 (f : Int), I (n : Int)] w (CntD R f n w) := by
  have PK := Lib.hid (fun d d0 d1 w' (hb : Bl w w') => pick_any v R d d0 d1 w' (hv.bl hb))
  obtain ⟨a, g0, o, cap, rfl, -, -, -⟩ := hv
  unfold CntD
  replace hs := Lib.hid hs
  have hmk : ∀ w, Sem.run Try.prog (Instr.makeSlice 23 (.int .i64 11) (.int .i64 11)) w = .ok (.slice (some ⟨w.heap.size, 0, none⟩) 11 11) (w.alloc (oC R f 0)) := fun w => by
    have h := run_make_row' (P := Try.prog) 23 3 (I 0) 8 Try.underlying23 infoN rfl .i64 .i64 11 (by decide) (by decide) w
    have hmc : madeCells #[I 0] 11 = ((List.range 11).map (ccF R f 0)).toArray := Array.ext (by simp [madeCells]) (fun i h1 h2 => by simp [madeCells, ccF, cc, cntN, Nat.mod_one])
    rw [hmc] at h
    exact h
  have hb0 := (Bl.rfl' w).al (oC R f 0)
  have ho0 := heap_alloc_new w (oC R f 0)
  replace hb0 := Lib.hid hb0
  replace ho0 := Lib.hid ho0
  go_enter Try.func19, Try.ntmps19
  go_wp2_with fail
  obtain ⟨y, hy⟩ : ∃ z_, (w.heap.size) = z_ := ⟨_, rfl⟩
  obtain ⟨w0, hw0⟩ : ∃ z_, (w.alloc (oC R f 0)) = z_ := ⟨_, rfl⟩
  rw [hy, hw0] at ho0
  rw [hw0] at hb0
  rw [hy, hw0]
  clear hmk hw0
  go_loopw [8, 9] (fun i s wr => ∃ k : Nat, k ≤ n ∧ i = I k ∧ wr.heap[y]? = some (oC R f k) ∧ Bl w wr) (fun i _ _ => n - (intOf i).toNat)
  case atStart => exact ⟨0, by omega, rfl, ho0.out, hb0.out⟩
  case round =>
    obtain ⟨k, hk, rfl, ho, hb⟩ := hrel
    clear ho0 hb0
    by_cases hlt : k < n
    · have hsk := hs.out ((f + k : Nat) : Int)
      have hst := cells_step R f k
      have wk : IntKind.u64.wrap (k : Int) = (k : Int) := by rw [IntKind.wrap_u64]; omega
      have wf : IntKind.u64.wrap ((f : Int) + (k : Int)) = (f : Int) + (k : Int) := by rw [IntKind.wrap_u64]; omega
      have P1 := Lib.hid (PK.out ((f + k : Nat) : Int) (by omega) (by omega) wr hb)
      obtain ⟨p, hp⟩ : ∃ p : Nat, pickF R ((f + k : Nat) : Int) = (p : Int) := ⟨(pickF R ((f + k : Nat) : Int)).toNat, by omega⟩
      rw [hp] at P1 hsk
      have hst := hst p hp
      rw [Int.natCast_add] at P1
      have hcg := cells_get R f k p (by omega)
      have hcl := cntN_le (fun i => hitS R p (f + i)) k
      have hcl2 : cc R f k p ≤ k := hcl
      obtain ⟨c, hc⟩ : ∃ c, cc R f k p = c := ⟨_, rfl⟩
      rw [hc] at hst hcg hcl2
      have d1 : decide ((p : Int) < 1) = false := decide_eq_false (by omega)
      have d2 : decide ((p : Int) > 10) = false := decide_eq_false (by omega)
      have wc : IntKind.i64.wrap ((c : Int) + 1) = (c : Int) + 1 := by rw [IntKind.wrap_i64]; omega
      have wt : IntKind.i64.wrap ((k : Int) + 1) = ((k + 1 : Nat) : Int) := by rw [IntKind.wrap_i64]; omega
      have hidx : (p : Int) < 11 := by omega
      have hyl := lt_of_block ho
      clear hp hc hcl
      replace hst := Lib.hid hst
      replace hcg := Lib.hid hcg
      replace ho := Lib.hid ho
      replace hb := Lib.hid hb
      go_wp2_with fail
      with_reducible refine (P1.out).mono ?_
      rintro e w2 ⟨rfl, hb2⟩
      have ho2 := blk_bl ho.out hb2
      have hb3 := hb.out.tr hb2
      have c0 : w2.cell? ⟨y, p, none⟩ = some (I c) := by rw [cell_at ho2 p]; exact hcg.out
      have f0 := free_at ho2 p
      have hs3 := set_at p (I ((c : Int) + 1)) ho2
      rw [hst.out] at hs3
      have hb4 : Bl w (w2.setCell ⟨y, p, none⟩ (I ((c : Int) + 1))) := hb3.setCell (p := ⟨y, p, none⟩) (by show w.heap.size ≤ y; omega) _
      clear ho hb ho2 hb2 hb3
      replace hs3 := Lib.hid hs3
      replace hb4 := Lib.hid hb4
      go_wp2_with fail
      go_roundw
      case rel => exact ⟨k + 1, by omega, by first | rfl | go_num, hs3.out, hb4.out⟩
      case measure => simp [intOf] <;> omega
    · obtain rfl : k = n := by omega
      replace ho := Lib.hid ho
      replace hb := Lib.hid hb
      go_wp2_with fail
      go_ret
      exact ⟨y, rfl, ho.out, by omega, hb.out⟩
theorem counts0 (v : Value) (R : List Pt) (n : Nat) (w : World) (hv : PartsAt w v R) (hs : ∀ d, 1 ≤ pickF R d ∧ pickF R d ≤ 10) (hn : n ≤ 1000) :
    Calls Try.prog 19 #[v, .int .u64 0, I (n : Int)] w (CntD R 0 n w) := counts_any v R 0 n w hv hs (by omega) hn
end Go.Proofs.Ytndlglkokbchbaa.split
