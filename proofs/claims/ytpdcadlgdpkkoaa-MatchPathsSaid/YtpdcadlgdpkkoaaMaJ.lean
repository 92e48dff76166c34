/-
  Package match: the document's Parts, Path and Cmp.
-/
import Derived.Test.YtpdcadlgdpkkoaaMaF
import Derived.Deep.SlicePairs
namespace Go.Proofs.Ytpdcadlgdpkkoaa.mat
open Go.ChangeShapes Go.WideShapes Go.ChangeAt Go.RowKit
open Go.Proofs.Ytpdcadlgdpkkoaa.heads
set_option linter.unusedVariables false
set_option linter.unusedSimpArgs false

set_option maxHeartbeats 2000000 in
theorem rsign_any (c : Int) (w : World) (h0 : 0 ≤ c) (h1 : c < 256) :
    Calls Try.prog 37 #[.int .u8 c] w fun e w' => e = .returned (.bool (signF c)) ∧ w = w' := by
  by_cases a : 97 ≤ c
  · by_cases b : c ≤ 122
    · have d1 : decide (c ≥ 97) = true := by first | exact decide_eq_true (by omega) | exact decide_eq_false (by omega)
      have d2 : decide (c ≤ 122) = true := by first | exact decide_eq_true (by omega) | exact decide_eq_false (by omega)
      have d3 : decide (c ≥ 48) = true := by first | exact decide_eq_true (by omega) | exact decide_eq_false (by omega)
      have d4 : decide (c ≤ 57) = false := by first | exact decide_eq_true (by omega) | exact decide_eq_false (by omega)
      have d5 : decide (97 ≤ c) = true := d1
      have d6 : decide (48 ≤ c) = true := d3
      have hs : signF c = true := by first | exact decide_eq_true (by omega) | exact decide_eq_false (by omega)
      rw [hs]
      clear hs
      go_enter Try.func37, Try.ntmps37
      go_wp2_with fail
      go_ret
      exact ⟨rfl, rfl⟩
    · have d1 : decide (c ≥ 97) = true := by first | exact decide_eq_true (by omega) | exact decide_eq_false (by omega)
      have d2 : decide (c ≤ 122) = false := by first | exact decide_eq_true (by omega) | exact decide_eq_false (by omega)
      have d3 : decide (c ≥ 48) = true := by first | exact decide_eq_true (by omega) | exact decide_eq_false (by omega)
      have d4 : decide (c ≤ 57) = false := by first | exact decide_eq_true (by omega) | exact decide_eq_false (by omega)
      have d5 : decide (97 ≤ c) = true := d1
      have d6 : decide (48 ≤ c) = true := d3
      have e1 : (c == 45) = false := by first | exact beq_iff_eq.2 (by omega) | exact beq_eq_false_iff_ne.2 (by omega)
      have e2 : (c == 95) = false := by first | exact beq_iff_eq.2 (by omega) | exact beq_eq_false_iff_ne.2 (by omega)
      have e3 : (c == 46) = false := by first | exact beq_iff_eq.2 (by omega) | exact beq_eq_false_iff_ne.2 (by omega)
      have hs : signF c = false := by first | exact decide_eq_true (by omega) | exact decide_eq_false (by omega)
      rw [hs]
      clear hs
      go_enter Try.func37, Try.ntmps37
      go_wp2_with fail
      go_ret
      exact ⟨rfl, rfl⟩
  · by_cases b : 48 ≤ c
    · by_cases d : c ≤ 57
      · have d1 : decide (c ≥ 97) = false := by first | exact decide_eq_true (by omega) | exact decide_eq_false (by omega)
        have d2 : decide (c ≤ 122) = true := by first | exact decide_eq_true (by omega) | exact decide_eq_false (by omega)
        have d3 : decide (c ≥ 48) = true := by first | exact decide_eq_true (by omega) | exact decide_eq_false (by omega)
        have d4 : decide (c ≤ 57) = true := by first | exact decide_eq_true (by omega) | exact decide_eq_false (by omega)
        have d5 : decide (97 ≤ c) = false := d1
        have d6 : decide (48 ≤ c) = true := d3
        have hs : signF c = true := by first | exact decide_eq_true (by omega) | exact decide_eq_false (by omega)
        rw [hs]
        clear hs
        go_enter Try.func37, Try.ntmps37
        go_wp2_with fail
        go_ret
        exact ⟨rfl, rfl⟩
      · have d1 : decide (c ≥ 97) = false := by first | exact decide_eq_true (by omega) | exact decide_eq_false (by omega)
        have d2 : decide (c ≤ 122) = true := by first | exact decide_eq_true (by omega) | exact decide_eq_false (by omega)
        have d3 : decide (c ≥ 48) = true := by first | exact decide_eq_true (by omega) | exact decide_eq_false (by omega)
        have d4 : decide (c ≤ 57) = false := by first | exact decide_eq_true (by omega) | exact decide_eq_false (by omega)
        have d5 : decide (97 ≤ c) = false := d1
        have d6 : decide (48 ≤ c) = true := d3
        by_cases f : c = 95
        · have e1 : (c == 45) = false := by first | exact beq_iff_eq.2 (by omega) | exact beq_eq_false_iff_ne.2 (by omega)
          have e2 : (c == 95) = true := by first | exact beq_iff_eq.2 (by omega) | exact beq_eq_false_iff_ne.2 (by omega)
          have e3 : (c == 46) = false := by first | exact beq_iff_eq.2 (by omega) | exact beq_eq_false_iff_ne.2 (by omega)
          have hs : signF c = true := by first | exact decide_eq_true (by omega) | exact decide_eq_false (by omega)
          rw [hs]
          clear hs
          go_enter Try.func37, Try.ntmps37
          go_wp2_with fail
          go_ret
          exact ⟨rfl, rfl⟩
        · have e1 : (c == 45) = false := by first | exact beq_iff_eq.2 (by omega) | exact beq_eq_false_iff_ne.2 (by omega)
          have e2 : (c == 95) = false := by first | exact beq_iff_eq.2 (by omega) | exact beq_eq_false_iff_ne.2 (by omega)
          have e3 : (c == 46) = false := by first | exact beq_iff_eq.2 (by omega) | exact beq_eq_false_iff_ne.2 (by omega)
          have hs : signF c = false := by first | exact decide_eq_true (by omega) | exact decide_eq_false (by omega)
          rw [hs]
          clear hs
          go_enter Try.func37, Try.ntmps37
          go_wp2_with fail
          go_ret
          exact ⟨rfl, rfl⟩
    · have d1 : decide (c ≥ 97) = false := by first | exact decide_eq_true (by omega) | exact decide_eq_false (by omega)
      have d2 : decide (c ≤ 122) = true := by first | exact decide_eq_true (by omega) | exact decide_eq_false (by omega)
      have d3 : decide (c ≥ 48) = false := by first | exact decide_eq_true (by omega) | exact decide_eq_false (by omega)
      have d4 : decide (c ≤ 57) = true := by first | exact decide_eq_true (by omega) | exact decide_eq_false (by omega)
      have d5 : decide (97 ≤ c) = false := d1
      have d6 : decide (48 ≤ c) = false := d3
      by_cases f : c = 45
      · have e1 : (c == 45) = true := by first | exact beq_iff_eq.2 (by omega) | exact beq_eq_false_iff_ne.2 (by omega)
        have e2 : (c == 95) = false := by first | exact beq_iff_eq.2 (by omega) | exact beq_eq_false_iff_ne.2 (by omega)
        have e3 : (c == 46) = false := by first | exact beq_iff_eq.2 (by omega) | exact beq_eq_false_iff_ne.2 (by omega)
        have hs : signF c = true := by first | exact decide_eq_true (by omega) | exact decide_eq_false (by omega)
        rw [hs]
        clear hs
        go_enter Try.func37, Try.ntmps37
        go_wp2_with fail
        go_ret
        exact ⟨rfl, rfl⟩
      · by_cases g : c = 46
        · have e1 : (c == 45) = false := by first | exact beq_iff_eq.2 (by omega) | exact beq_eq_false_iff_ne.2 (by omega)
          have e2 : (c == 95) = false := by first | exact beq_iff_eq.2 (by omega) | exact beq_eq_false_iff_ne.2 (by omega)
          have e3 : (c == 46) = true := by first | exact beq_iff_eq.2 (by omega) | exact beq_eq_false_iff_ne.2 (by omega)
          have hs : signF c = true := by first | exact decide_eq_true (by omega) | exact decide_eq_false (by omega)
          rw [hs]
          clear hs
          go_enter Try.func37, Try.ntmps37
          go_wp2_with fail
          go_ret
          exact ⟨rfl, rfl⟩
        · have e1 : (c == 45) = false := by first | exact beq_iff_eq.2 (by omega) | exact beq_eq_false_iff_ne.2 (by omega)
          have e2 : (c == 95) = false := by first | exact beq_iff_eq.2 (by omega) | exact beq_eq_false_iff_ne.2 (by omega)
          have e3 : (c == 46) = false := by first | exact beq_iff_eq.2 (by omega) | exact beq_eq_false_iff_ne.2 (by omega)
          have hs : signF c = false := by first | exact decide_eq_true (by omega) | exact decide_eq_false (by omega)
          rw [hs]
          clear hs
          go_enter Try.func37, Try.ntmps37
          go_wp2_with fail
          go_ret
          exact ⟨rfl, rfl⟩

theorem path_good {s : ByteArray} (h : pathF s = true) (hs : s ≠ sl) : partsN s = cntB s s.size := by unfold partsN; rw [if_neg hs]
theorem sl_one {s : ByteArray} (h1 : s.size = 1) (h2 : byteAt s 0 = 47) : s = sl := by
  obtain ⟨⟨l⟩⟩ := s
  match l, h1, h2 with
  | [], h, _ => have h' : 0 = 1 := h; omega
  | [x], _, h =>
    have : x = 47 := UInt8.toNat_inj.1 (by
      have h' : (x.toNat : Int) = 47 := h
      have : (47 : UInt8).toNat = 47 := rfl
      omega)
    rw [this]
  | x :: y :: r, h, _ => have h' : r.length + 1 + 1 = 1 := h; omega
theorem infoS : (Try.prog.info? 9).map (fun i => (i.zero, i.size, i.bytes)) = some (some (S ByteArray.empty), 1, 16) := by kernel_rfl
/-- The parts' slice, where there are some. -/
def PartsAt (s : ByteArray) (v : Value) (b : Bool) : Prop := b = pathF s ∧ ∃ a n cap, v = .slice a n cap ∧ n ≤ 1000 ∧ (b = true → n = partsN s)
set_option maxRecDepth 20000 in
set_option maxHeartbeats 4000000 in
theorem parts_any (s : ByteArray) (w : World) (hs : s.size ≤ 1000000) :
    Calls Try.prog 28 #[S s] w fun e w' => ∃ v b, e = .returned (.tuple #[v, .bool b]) ∧ PartsAt s v b ∧ Bl w w' := by
  obtain ⟨iu, hiu, zu0, zu1, zu2⟩ := info_parts infoS
  have he := eq_sl s
  by_cases hsl : s = sl
  · rw [decide_eq_true hsl] at he
    have hp : PartsAt s (.slice none 0 0) true := ⟨by rw [hsl]; exact path_sl.symm, none, 0, 0, rfl, by omega, fun _ => by unfold partsN; rw [if_pos hsl]⟩
    clear hsl
    replace hp := Lib.hid hp
    go_enter Try.func28, Try.ntmps28
    go_wp2_with fail
    go_ret2
    exact ⟨_, _, rfl, hp.out, Bl.rfl' _⟩
  · rw [decide_eq_false hsl] at he
    by_cases h2 : s.size < 2
    · have d1 : decide ((s.size : Int) < 2) = true := decide_eq_true (by omega)
      have hp : PartsAt s (.slice none 0 0) false := ⟨by
        by_cases h1 : s.size = 1
        · by_cases h47 : byteAt s 0 = 47
          · exact absurd (sl_one h1 h47) hsl
          · exact (path_first h47).symm
        · exact (path_long (by omega)).symm, none, 0, 0, rfl, by omega, fun h => by cases h⟩
      clear hsl h2
      replace hp := Lib.hid hp
      go_enter Try.func28, Try.ntmps28
      go_wp2_with fail
      go_ret2
      exact ⟨_, _, rfl, hp.out, Bl.rfl' _⟩
    · have d1 : decide ((s.size : Int) < 2) = false := decide_eq_false (by omega)
      by_cases h60 : 60 < s.size
      · have d2 : decide ((s.size : Int) > 60) = true := decide_eq_true (by omega)
        have hp : PartsAt s (.slice none 0 0) false := ⟨(path_long (by omega)).symm, none, 0, 0, rfl, by omega, fun h => by cases h⟩
        clear hsl h2 h60
        replace hp := Lib.hid hp
        go_enter Try.func28, Try.ntmps28
        go_wp2_with fail
        go_ret2
        exact ⟨_, _, rfl, hp.out, Bl.rfl' _⟩
      · have d2 : decide ((s.size : Int) > 60) = false := decide_eq_false (by omega)
        have hlt : 0 < s.size := by omega
        have hbt := (Go.Proofs.Ytpdcadlgdpkkoaa.heads.byte_at s 0 hlt).symm
        obtain ⟨c, hc⟩ : ∃ c : Int, ((s[0]'hlt).toNat : Int) = c := ⟨_, rfl⟩
        rw [hc] at hbt
        by_cases h47 : c = 47
        · have e3 : (c != 47) = false := by rw [bne, beq_iff_eq.2 h47]; rfl
          have hpf := path_rest (s := s) (by omega) (by omega) (by rw [hbt]; exact h47) hsl
          have hpn : partsN s = cntB s s.size := by unfold partsN; rw [if_neg hsl]
          have hg1 : goodB s 1 = true := by
            rw [goodB, goodB, Bool.true_and]
            unfold badB
            rw [show decide (byteAt s 0 = 47) = true from decide_eq_true (by rw [hbt]; exact h47), show decide (ahd s 0 = 47) = false from decide_eq_false (by unfold ahd; simp)]
            rfl
          have hc1 : cntB s 1 = 1 := by rw [cntB, cntB, if_pos (by rw [hbt]; exact h47)]
          have ha1 : ahd s 1 = 47 := by rw [ahd_next, hbt]; exact h47
          have SG := Lib.hid (fun c w h0 h1 => rsign_any c w h0 h1)
          have gno := fun k h => good_no (s := s) (k := k) (n := s.size) h
          have gnx := fun k h => good_next (s := s) (k := k) h
          have anx := fun k => ahd_next s k
          have cle := fun k => cnt_le s k
          have blo := fun k => byte_lo s k
          have bhi := fun k => byte_hi s k
          have hsz : s.size ≤ 60 := by omega
          clear hbt hsl h60 hc he d1 d2 hlt h47
          have he := eq_sl s
          have hsl2 : s ≠ sl := fun h => by rw [h] at h2; exact h2 (by decide)
          rw [decide_eq_false hsl2] at he
          clear hsl2 c e3
          have hlt : 0 < s.size := by omega
          have hbt := (Go.Proofs.Ytpdcadlgdpkkoaa.heads.byte_at s 0 hlt).symm
          obtain ⟨c, hc⟩ : ∃ c : Int, ((s[0]'hlt).toNat : Int) = c := ⟨_, rfl⟩
          rw [hc] at hbt
          have ha0 := anx 0
          rw [ha1, hbt] at ha0
          have e3 : (c != 47) = false := by rw [bne, beq_iff_eq.2 ha0.symm]; rfl
          have d1 : decide ((s.size : Int) < 2) = false := decide_eq_false (by omega)
          have d2 : decide ((s.size : Int) > 60) = false := decide_eq_false (by omega)
          clear hbt ha0
          replace hpf := Lib.hid hpf
          replace hpn := Lib.hid hpn
          replace hg1 := Lib.hid hg1
          replace hc1 := Lib.hid hc1
          replace ha1 := Lib.hid ha1
          replace gno := Lib.hid gno
          replace gnx := Lib.hid gnx
          replace anx := Lib.hid anx
          replace cle := Lib.hid cle
          replace blo := Lib.hid blo
          replace bhi := Lib.hid bhi
          go_enter Try.func28, Try.ntmps28
          go_wp2_with fail
          go_loopw [4, 5, 6] (fun ov fv iv wr => ∃ (i f n : Nat) (xs : List Value), fv = I f ∧ iv = I i ∧ 1 ≤ i ∧ f ≤ i ∧ n ≤ i ∧ wr.ownsRow w.heap.size 9 1 ov n xs ∧ ((i ≤ s.size ∧ goodB s i = true ∧ (f = i → ahd s i = 47) ∧ (ahd s i = 47 → f = i) ∧ n + 1 = cntB s i) ∨ (i = s.size + 1 ∧ pathF s = true ∧ n = partsN s)) ∧ Bl w wr) (fun _ _ iv _ => s.size + 1 - (intOf iv).toNat)
          case atStart => exact ⟨1, 1, 0, [], rfl, rfl, by omega, by omega, by omega, World.ownsRow_nil _ _ _ _, Or.inl ⟨by omega, hg1.out, fun _ => ha1.out, fun _ => rfl, hc1.out.symm⟩, Bl.rfl' _⟩
          case round =>
            obtain ⟨i, f, n, xs, rfl, rfl, hi1, hfi, hni, hown, hcase, hb⟩ := hrel
            obtain ⟨ra, rg, rcap, cur, rfl, -, -⟩ := own_blk hown (by decide)
            have hbs := hb.size
            rcases hcase with ⟨hile, hgood, hfa, haf, hcn⟩ | ⟨rfl, hpt, hpn2⟩
            · have wi : IntKind.i64.wrap ((i : Int) + 1) = ((i + 1 : Nat) : Int) := by rw [IntKind.wrap_i64]; omega
              have d5 : decide ((i : Int) ≤ (s.size : Int)) = true := decide_eq_true (by omega)
              have d6 : decide (i ≤ s.size) = true := decide_eq_true (by omega)
              have gno := gno.out i
              have gnx := gnx.out i hgood
              have anx := anx.out i
              have blo := blo.out i
              have bhi := bhi.out i
              have cle := cle.out i
              have hbd : badB s i = ((decide (byteAt s i = 47) && decide (ahd s i = 47)) || (!(decide (byteAt s i = 47)) && !(signF (byteAt s i)))) := rfl
              have hcs : cntB s (i + 1) = cntB s i + if byteAt s i = 47 then 1 else 0 := rfl
              by_cases hlt2 : i < s.size
              · have d7 : decide ((i : Int) < (s.size : Int)) = true := decide_eq_true (by omega)
                have d8 : decide (i < s.size) = true := decide_eq_true hlt2
                have hbt2 := Go.Proofs.Ytpdcadlgdpkkoaa.heads.byte_at s i hlt2
                obtain ⟨y, hy⟩ : ∃ z_, (byteAt s i) = z_ := ⟨_, rfl⟩
                rw [hy] at hbt2 anx blo bhi hbd hcs
                clear hy
                by_cases h47 : y = 47
                · have e4 : (y != 47) = false := by rw [bne, beq_iff_eq.2 h47]; rfl
                  rw [decide_eq_true h47] at hbd
                  rw [if_pos h47] at hcs
                  by_cases hff : f = i
                  · have e5 : ((i : Int) == (f : Int)) = true := beq_iff_eq.2 (by omega)
                    have hbad : badB s i = true := by rw [hbd, decide_eq_true (hfa hff)]; rfl
                    have hy : pathF s = false := by rw [hpf.out, gno hlt2 hbad]; rfl
                    clear gno gnx anx hbd hcs hfa haf hbad hff
                    replace hy := Lib.hid hy
                    replace hb := Lib.hid hb
                    replace hown := Lib.hid hown
                    go_wp2_with fail
                    go_ret2
                    exact ⟨_, _, rfl, ⟨hy.out.symm, none, 0, 0, rfl, by omega, fun h => by cases h⟩, hb.out⟩
                  · have e5 : ((i : Int) == (f : Int)) = false := beq_eq_false_iff_ne.2 (by omega)
                    have hbad : badB s i = false := by rw [hbd, decide_eq_false (fun h => hff (haf h))]; rfl
                    have hg2 := gnx hbad
                    have ha2 : ahd s (i + 1) = 47 := by rw [anx]; exact h47
                    have hc2 : n + 1 + 1 = cntB s (i + 1) := by rw [hcs, ← hcn]
                    clear gno gnx anx hbd hcs hfa haf hbad hcn
                    replace hg2 := Lib.hid hg2
                    replace ha2 := Lib.hid ha2
                    replace hc2 := Lib.hid hc2
                    replace hb := Lib.hid hb
                    replace hown := Lib.hid hown
                    go_wp2_with (at_builtin; refine wpList_append_one rfl _ _ 27 rfl w.heap.size 9 iu (S ByteArray.empty) 16 Try.underlying27 hiu zu0 zu1 zu2 rfl _ n xs rfl hown.out (S _) _ rfl 1 (by first | rfl | simp [Act.eval, Act.put]) (by omega) (by omega) (by omega) ?_)
                    intro b8 cap8 w7 hown7 hgrow7
                    have hb7 := hb.out.grown hgrow7 (fun k hk => (hown.out.lt k hk).1)
                    clear hgrow7
                    replace hown7 := Lib.hid hown7
                    replace hb7 := Lib.hid hb7
                    go_wp2_with fail
                    go_roundw
                    case rel => exact ⟨i + 1, i + 1, n + 1, _, by first | rfl | go_num, by first | rfl | go_num, by omega, by omega, by omega, hown7.out, Or.inl ⟨by omega, hg2.out, fun _ => ha2.out, fun _ => rfl, hc2.out⟩, hb7.out⟩
                    case measure => simp [intOf] <;> omega
                · have e4 : (y != 47) = true := by rw [bne, beq_eq_false_iff_ne.2 h47]; rfl
                  rw [decide_eq_false h47] at hbd
                  rw [if_neg h47] at hcs
                  have S1 := SG.out y wr blo bhi
                  obtain ⟨b, hb1⟩ : ∃ z_, (signF y) = z_ := ⟨_, rfl⟩
                  rw [hb1] at S1 hbd
                  clear hb1
                  cases b with
                  | false =>
                    have hbad : badB s i = true := by rw [hbd]; rfl
                    have hy : pathF s = false := by rw [hpf.out, gno hlt2 hbad]; rfl
                    clear gno gnx anx hbd hcs hfa haf hbad
                    replace S1 := Lib.hid S1
                    replace hy := Lib.hid hy
                    replace hb := Lib.hid hb
                    replace hown := Lib.hid hown
                    go_wp2_with fail
                    with_reducible refine (S1.out).mono ?_
                    rintro e w' ⟨rfl, rfl⟩
                    go_wp2_with fail
                    go_ret2
                    exact ⟨_, _, rfl, ⟨hy.out.symm, none, 0, 0, rfl, by omega, fun h => by cases h⟩, hb.out⟩
                  | true =>
                    have hbad : badB s i = false := by rw [hbd]; rfl
                    have hg2 := gnx hbad
                    have ha2 : ahd s (i + 1) ≠ 47 := by rw [anx]; exact h47
                    have hc2 : n + 1 = cntB s (i + 1) := by rw [hcs, ← hcn]
                    clear gno gnx anx hbd hcs hfa haf hbad
                    replace S1 := Lib.hid S1
                    replace hg2 := Lib.hid hg2
                    replace ha2 := Lib.hid ha2
                    replace hc2 := Lib.hid hc2
                    replace hb := Lib.hid hb
                    replace hown := Lib.hid hown
                    go_wp2_with fail
                    with_reducible refine (S1.out).mono ?_
                    rintro e w' ⟨rfl, rfl⟩
                    go_wp2_with fail
                    go_roundw
                    case rel => exact ⟨i + 1, f, n, xs, rfl, by first | rfl | go_num, by omega, by omega, by omega, hown.out, Or.inl ⟨by omega, hg2.out, fun h => by omega, fun h => absurd h ha2.out, hc2.out⟩, hb.out⟩
                    case measure => simp [intOf] <;> omega
              · have hie : i = s.size := by omega
                have d7 : decide ((i : Int) < (s.size : Int)) = false := decide_eq_false (by omega)
                have d8 : decide (i < s.size) = false := decide_eq_false hlt2
                by_cases hff : f = i
                · have e5 : ((i : Int) == (f : Int)) = true := beq_iff_eq.2 (by omega)
                  have hy : pathF s = false := by rw [hpf.out, ← hie, decide_eq_true (hfa hff)]; simp
                  clear gno gnx anx hbd hcs hfa haf hff
                  replace hy := Lib.hid hy
                  replace hb := Lib.hid hb
                  replace hown := Lib.hid hown
                  go_wp2_with fail
                  go_ret2
                  exact ⟨_, _, rfl, ⟨hy.out.symm, none, 0, 0, rfl, by omega, fun h => by cases h⟩, hb.out⟩
                · have e5 : ((i : Int) == (f : Int)) = false := beq_eq_false_iff_ne.2 (by omega)
                  have hy : pathF s = true := by rw [hpf.out, ← hie, hgood, decide_eq_false (fun h => hff (haf h))]; rfl
                  have hc2 : n + 1 = partsN s := by rw [hpn.out, ← hie]; exact hcn
                  clear gno gnx anx hbd hcs hfa haf hcn
                  replace hy := Lib.hid hy
                  replace hc2 := Lib.hid hc2
                  replace hb := Lib.hid hb
                  replace hown := Lib.hid hown
                  replace hie := Lib.hid hie
                  go_wp2_with (at_builtin; refine wpList_append_one rfl _ _ 27 rfl w.heap.size 9 iu (S ByteArray.empty) 16 Try.underlying27 hiu zu0 zu1 zu2 rfl _ n xs rfl hown.out (S _) _ rfl 1 (by first | rfl | simp [Act.eval, Act.put]) (by omega) (by omega) (by omega) ?_)
                  intro b8 cap8 w7 hown7 hgrow7
                  have hb7 := hb.out.grown hgrow7 (fun k hk => (hown.out.lt k hk).1)
                  clear hgrow7
                  replace hown7 := Lib.hid hown7
                  replace hb7 := Lib.hid hb7
                  go_wp2_with fail
                  go_roundw
                  case rel => exact ⟨i + 1, i + 1, n + 1, _, by first | rfl | go_num, by first | rfl | go_num, by omega, by omega, by omega, hown7.out, Or.inr ⟨by have := hie.out; omega, hy.out, hc2.out⟩, hb7.out⟩
                  case measure => simp [intOf] <;> omega
            · have d5 : decide (((s.size + 1 : Nat) : Int) ≤ (s.size : Int)) = false := decide_eq_false (by omega)
              have d6 : decide (s.size + 1 ≤ s.size) = false := decide_eq_false (by omega)
              replace hpt := Lib.hid hpt
              replace hpn2 := Lib.hid hpn2
              replace hb := Lib.hid hb
              replace hown := Lib.hid hown
              go_wp2_with fail
              go_ret2
              exact ⟨_, _, rfl, ⟨hpt.out.symm, _, n, _, rfl, by omega, fun _ => hpn2.out⟩, hb.out⟩
        · have e3 : (c != 47) = true := by rw [bne, beq_eq_false_iff_ne.2 h47]; rfl
          have hp : PartsAt s (.slice none 0 0) false := ⟨(path_first (by rw [hbt]; exact h47)).symm, none, 0, 0, rfl, by omega, fun h => by cases h⟩
          clear hsl h2 h60 hbt
          replace hp := Lib.hid hp
          go_enter Try.func28, Try.ntmps28
          go_wp2_with fail
          go_ret2
          exact ⟨_, _, rfl, hp.out, Bl.rfl' _⟩
theorem rpath_any (s : ByteArray) (w : World) (hs : s.size ≤ 1000000) :
    Calls Try.prog 12 #[S s] w fun e w' => e = .returned (.bool (pathF s)) ∧ Bl w w' := by
  have C := Lib.hid (parts_any s w hs)
  go_enter Try.func12, Try.ntmps12
  go_wp2_with fail
  with_reducible refine (C.out).mono ?_
  rintro e w' ⟨v, b, rfl, hp, hn⟩
  obtain ⟨hb, a, n, cap, rfl, -, -⟩ := hp
  replace hn := Lib.hid hn
  replace hb := Lib.hid hb
  go_wp2_with fail
  go_ret
  exact ⟨by rw [← hb.out]; rfl, hn.out⟩
end Go.Proofs.Ytpdcadlgdpkkoaa.mat
