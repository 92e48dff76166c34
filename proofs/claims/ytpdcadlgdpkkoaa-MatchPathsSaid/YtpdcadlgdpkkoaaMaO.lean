/-
  Package match: texts made of numbers; how a match is wrong.
-/
import Derived.Test.YtpdcadlgdpkkoaaMaH
import Derived.Test.YtpdcadlgdpkkoaaMaJ
import Derived.Test.YtpdcadlgdpkkoaaHdI
namespace Go.Proofs.Ytpdcadlgdpkkoaa.mat
open Go.ChangeShapes Go.WideShapes Go.ChangeAt Go.RowKit
open Go.Proofs.Ytpdcadlgdpkkoaa.heads
set_option linter.unusedVariables false
set_option linter.unusedSimpArgs false

def tTs : List ByteArray := [⟨#[]⟩, ⟨#[97]⟩, ⟨#[47, 47]⟩, ⟨#[47, 97, 47]⟩, ⟨#[47, 65]⟩, ⟨#[47, 97, 32, 98]⟩, ⟨#[47, 97, 47, 47, 98]⟩, ⟨#[47, 97, 63]⟩, ⟨#[47, 46]⟩, ⟨#[47, 46, 46]⟩, ⟨#[47, 45, 95, 46, 57]⟩, ⟨#[47, 97, 39]⟩]
abbrev oTs : Obj := .cells #[S ⟨#[]⟩, S ⟨#[97]⟩, S ⟨#[47, 47]⟩, S ⟨#[47, 97, 47]⟩, S ⟨#[47, 65]⟩, S ⟨#[47, 97, 32, 98]⟩, S ⟨#[47, 97, 47, 47, 98]⟩, S ⟨#[47, 97, 63]⟩, S ⟨#[47, 46]⟩, S ⟨#[47, 46, 46]⟩, S ⟨#[47, 45, 95, 46, 57]⟩, S ⟨#[47, 97, 39]⟩] 9
theorem cellTs {v : World} {b : Nat} (hb : v.heap[b]? = some oTs) (j : Nat) (hj : j < 12) : ∃ t : ByteArray, v.cell? ⟨b, j, none⟩ = some (S t) ∧ t.size ≤ 62 := by
  rw [cell_at hb j]
  rcases j with _ | _ | _ | _ | _ | _ | _ | _ | _ | _ | _ | _ | j
  all_goals first | exact ⟨_, rfl, by decide⟩ | omega
abbrev bX : ByteArray := ⟨#[120]⟩
set_option maxRecDepth 20000 in
set_option maxHeartbeats 4000000 in
theorem text_any (n : Int) (w : World) (h1 : -9223372036854775808 ≤ n) (h2 : n ≤ 9223372036854775807) :
    Calls Try.prog 8 #[I n] w fun e w' => ∃ t : ByteArray, e = .returned (S t) ∧ t.size ≤ 62 ∧ Bl w w' := by
  have A1 := around_any n 1000000 w h1 h2 (by omega) (by omega)
  have f0 := around_lo n 1000000 (by omega)
  have f1 := around_hi n 1000000 (by omega)
  obtain ⟨x, hx⟩ : ∃ z_, (around n 1000000) = z_ := ⟨_, rfl⟩
  rw [hx] at A1 f0 f1
  have t1 : x.tmod 5 = x % 5 := Int.tmod_eq_emod_of_nonneg f0
  have t2 : x.tdiv 5 = x / 5 := Int.tdiv_eq_ediv_of_nonneg f0
  have t3 : x.tmod 31 = x % 31 := Int.tmod_eq_emod_of_nonneg f0
  have t4 : x.tdiv 31 = x / 31 := Int.tdiv_eq_ediv_of_nonneg f0
  obtain ⟨y, hy⟩ : ∃ y, x / 5 = y := ⟨_, rfl⟩
  obtain ⟨y2, hy2⟩ : ∃ y, x / 31 = y := ⟨_, rfl⟩
  have y0 : 0 ≤ y := by omega
  have y1 : y ≤ 1000000 := by omega
  have y20 : 0 ≤ y2 := by omega
  have y21 : y2 ≤ 1000000 := by omega
  rw [hy] at t2
  rw [hy2] at t4
  have t5 : y.tmod 12 = y % 12 := Int.tmod_eq_emod_of_nonneg y0
  have t6 : y2.tmod 5 = y2 % 5 := Int.tmod_eq_emod_of_nonneg y20
  clear hx hy hy2 h1 h2
  replace A1 := Lib.hid A1
  by_cases h5 : x % 5 = 4
  · have e1 : ((x % 5) == 4) = true := beq_iff_eq.2 h5
    have hP := heap_alloc_new w oTs
    have hb := (Bl.rfl' w).al oTs
    obtain ⟨t, ct, ht⟩ := cellTs hP (y % 12).toNat (by omega)
    clear hP h5 t3 t4 t6
    replace hb := Lib.hid hb
    replace ht := Lib.hid ht
    go_enter Try.func8, Try.ntmps8
    go_wp2_with fail
    with_reducible refine (A1.out).mono ?_
    rintro e w' ⟨rfl, rfl⟩
    go_wp2_with fail
    go_ret
    exact ⟨t, rfl, ht.out, hb.out⟩
  · have e1 : ((x % 5) == 4) = false := beq_eq_false_iff_ne.2 h5
    by_cases h31 : x % 31 = 7
    · have e2 : ((x % 31) == 7) = true := beq_iff_eq.2 h31
      obtain ⟨z, hz⟩ : ∃ z, y2 % 5 = z := ⟨_, rfl⟩
      have z0 : 0 ≤ z := by omega
      have z4 : z ≤ 4 := by omega
      rw [hz] at t6
      clear hz h31 h5 t2 t5 y0 y1
      go_enter Try.func8, Try.ntmps8
      go_wp2_with fail
      with_reducible refine (A1.out).mono ?_
      rintro e w' ⟨rfl, rfl⟩
      go_wp2_with fail
      go_loopw [4] (fun sv wr => ∃ s : ByteArray, sv = S s ∧ s.size ≤ 62 ∧ wr = w) (fun sv _ => 63 - (match sv with | .string x => x.size | _ => 0))
      case atStart => exact ⟨sl, rfl, by decide, rfl⟩
      case round =>
        obtain ⟨s, rfl, hs, rfl⟩ := hrel
        by_cases hlt : (s.size : Int) < 58 + z
        · have d1 : decide ((s.size : Int) < 58 + z) = true := decide_eq_true hlt
          have ad := fun w => run_string_add_sum (P := Try.prog) w s bX (by show s.size + 1 ≤ _; omega)
          have hsz : (s ++ bX).size = s.size + 1 := by rw [ByteArray.size_append]; rfl
          have hs2 : (s ++ bX).size ≤ 62 := by omega
          have hs3 : 63 - (s ++ bX).size < 63 - s.size := by omega
          obtain ⟨s', hs'⟩ : ∃ X, s ++ bX = X := ⟨_, rfl⟩
          rw [hs'] at hs2 hs3
          simp only [hs'] at ad
          clear hs' hsz hlt
          replace hs2 := Lib.hid hs2
          replace hs3 := Lib.hid hs3
          go_wp2_with fail
          go_roundw
          case rel => exact ⟨s', rfl, hs2.out, trivial⟩
          case measure => exact hs3.out
        · have d1 : decide ((s.size : Int) < 58 + z) = false := decide_eq_false hlt
          clear hlt
          replace hs := Lib.hid hs
          go_wp2_with fail
          go_ret
          exact ⟨s, rfl, hs.out, Bl.rfl' _⟩
    · have e2 : ((x % 31) == 7) = false := beq_eq_false_iff_ne.2 h31
      have PO := pathof_any y w (by omega) (by omega)
      have hps := (pathO_is y).2.2
      obtain ⟨p, hp⟩ : ∃ z_, (pathO y) = z_ := ⟨_, rfl⟩
      rw [hp] at PO hps
      clear hp h31 h5 t3 t4 t6 t5
      replace PO := Lib.hid PO
      replace hps := Lib.hid hps
      go_enter Try.func8, Try.ntmps8
      go_wp2_with fail
      with_reducible refine (A1.out).mono ?_
      rintro e w' ⟨rfl, rfl⟩
      go_wp2_with fail
      with_reducible refine (PO.out).mono ?_
      rintro e w' ⟨rfl, hn⟩
      replace hn := Lib.hid hn
      go_wp2_with fail
      go_ret
      exact ⟨p, rfl, by have := hps.out; omega, hn.out⟩

/-- How a match is wrong. -/
def mchk (p : ByteArray) (H : List Hd) : Int := if pathF p = true then checkF H else 10
set_option maxHeartbeats 2000000 in
theorem mcheck_any (p : ByteArray) (x : Bool) (u : Value) (H : List Hd) (w : World) (hp : p.size ≤ 1000000) (hu : HeadsAt w u H) (hl : H.length ≤ 1000) (hf : Fit H) :
    Calls Try.prog 13 #[mV p x u] w fun e w' => e = .returned (E (mchk p H)) ∧ Bl w w' := by
  have hb := (Bl.rfl' w).al (oM p x u)
  have hX := heap_alloc_new w (oM p x u)
  have c0 := cell_at hX 0
  simp only [List.getElem?_toArray, List.getElem?_cons_succ, List.getElem?_cons_zero] at c0
  have P := path_any p (w.alloc (oM p x u)) hp
  have CH := fun w' (hb : Bl w w') => check_any u H w' (hu.bl hb) hl hf
  obtain ⟨a', g', o', cap', rfl, -, -, -⟩ := hu
  have hm : mchk p H = if pathF p = true then checkF H else 10 := rfl
  rw [hm]
  obtain ⟨b, hb1⟩ : ∃ z_, (pathF p) = z_ := ⟨_, rfl⟩
  rw [hb1] at P ⊢
  obtain ⟨r, hr⟩ : ∃ z_, (checkF H) = z_ := ⟨_, rfl⟩
  simp only [hr] at CH ⊢
  obtain ⟨w1, h1⟩ : ∃ X, w.alloc (oM p x (.slice a' H.length cap')) = X := ⟨_, rfl⟩
  have h1' : w.alloc (.cells #[.string p, .bool x, .slice a' H.length cap'] 29) = w1 := h1
  rw [h1] at P hX hb c0
  clear hm hb1 hr h1
  replace P := Lib.hid P
  replace CH := Lib.hid CH
  replace hb := Lib.hid hb
  replace hX := Lib.hid hX
  go_enter Try.func13, Try.ntmps13
  go_wp2_with fail
  with_reducible refine (P.out).mono ?_
  rintro e w2 ⟨rfl, hn⟩
  have hz := hb.out.tr hn
  have hX2 := blk_bl hX.out hn
  have c2 := cell_at hX2 2
  simp only [List.getElem?_toArray, List.getElem?_cons_succ, List.getElem?_cons_zero] at c2
  clear hn hX2
  cases b with
  | false =>
    replace hz := Lib.hid hz
    go_wp2_with fail
    go_ret
    exact ⟨rfl, hz.out⟩
  | true =>
    have C2 := CH.out _ hz
    replace hz := Lib.hid hz
    replace C2 := Lib.hid C2
    go_wp2_with fail
    with_reducible refine (C2.out).mono ?_
    rintro e w3 ⟨rfl, hn⟩
    have hz3 := hz.out.tr hn
    replace hz3 := Lib.hid hz3
    clear hn
    go_wp2_with fail
    go_ret
    exact ⟨rfl, hz3.out⟩
set_option maxHeartbeats 2000000 in
theorem rmcheck_any (p : ByteArray) (x : Bool) (u : Value) (H : List Hd) (w : World) (hp : p.size ≤ 1000000) (hu : HeadsAt w u H) (hl : H.length ≤ 1000) (hf : Fit H) :
    Calls Try.prog 14 #[mV p x u] w fun e w' => e = .returned (E (mchk p H)) ∧ Bl w w' := by
  have hb := (Bl.rfl' w).al (oM p x u)
  have hX := heap_alloc_new w (oM p x u)
  have c0 := cell_at hX 0
  simp only [List.getElem?_toArray, List.getElem?_cons_succ, List.getElem?_cons_zero] at c0
  have P := rpath_any p (w.alloc (oM p x u)) hp
  have CH := fun w' (hb : Bl w w') => rcheck_any u H w' (hu.bl hb) hl hf
  obtain ⟨a', g', o', cap', rfl, -, -, -⟩ := hu
  have hm : mchk p H = if pathF p = true then checkF H else 10 := rfl
  rw [hm]
  obtain ⟨b, hb1⟩ : ∃ z_, (pathF p) = z_ := ⟨_, rfl⟩
  rw [hb1] at P ⊢
  obtain ⟨r, hr⟩ : ∃ z_, (checkF H) = z_ := ⟨_, rfl⟩
  simp only [hr] at CH ⊢
  obtain ⟨w1, h1⟩ : ∃ X, w.alloc (oM p x (.slice a' H.length cap')) = X := ⟨_, rfl⟩
  have h1' : w.alloc (.cells #[.string p, .bool x, .slice a' H.length cap'] 29) = w1 := h1
  rw [h1] at P hX hb c0
  clear hm hb1 hr h1
  replace P := Lib.hid P
  replace CH := Lib.hid CH
  replace hb := Lib.hid hb
  replace hX := Lib.hid hX
  go_enter Try.func14, Try.ntmps14
  go_wp2_with fail
  with_reducible refine (P.out).mono ?_
  rintro e w2 ⟨rfl, hn⟩
  have hz := hb.out.tr hn
  have hX2 := blk_bl hX.out hn
  have c2 := cell_at hX2 2
  simp only [List.getElem?_toArray, List.getElem?_cons_succ, List.getElem?_cons_zero] at c2
  clear hn hX2
  cases b with
  | false =>
    replace hz := Lib.hid hz
    go_wp2_with fail
    go_ret
    exact ⟨rfl, hz.out⟩
  | true =>
    have C2 := CH.out _ hz
    replace hz := Lib.hid hz
    replace C2 := Lib.hid C2
    go_wp2_with fail
    with_reducible refine (C2.out).mono ?_
    rintro e w3 ⟨rfl, hn⟩
    have hz3 := hz.out.tr hn
    replace hz3 := Lib.hid hz3
    clear hn
    go_wp2_with fail
    go_ret
    exact ⟨rfl, hz3.out⟩
end Go.Proofs.Ytpdcadlgdpkkoaa.mat
