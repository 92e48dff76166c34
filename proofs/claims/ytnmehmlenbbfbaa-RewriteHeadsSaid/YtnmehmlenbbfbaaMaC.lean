/-
  Package match: Path.
-/
import Derived.Test.YtnmehmlenbbfbaaMaB
namespace Go.Proofs.Ytnmehmlenbbfbaa.mat
open Go.ChangeShapes Go.WideShapes Go.ChangeAt Go.RowKit
open Go.Proofs.Ytnmehmlenbbfbaa.heads
set_option linter.unusedVariables false
set_option linter.unusedSimpArgs false

theorem gby_iter {w wr : World} {p : Nat} (h : w.grownBy wr (some p)) (s : ByteArray) (k : Nat) : w.grownBy (wr.iterAt w.heap.size s k) (some p) :=
  ⟨h.os, h.tape, h.output, by rw [Lib.iterAt_size]; exact h.size, fun i hi hn => by rw [Lib.iterAt_other _ _ _ _ _ (by omega)]; exact h.block i hi hn⟩
theorem gby_al {w wr : World} {p : Nat} (h : w.grownBy wr (some p)) (o : Obj) : w.grownBy (wr.alloc o) (some p) :=
  ⟨h.os, h.tape, h.output, Nat.le_trans h.size ((Bl.rfl' wr).al o).size, fun i hi hn => by rw [((Bl.rfl' wr).al o).block i (Nat.lt_of_lt_of_le hi h.size)]; exact h.block i hi hn⟩
theorem bad_odd {s : ByteArray} {k : Nat} : badB s k = oddF (byteAt s k) (ahd s k) := rfl
abbrev fPath (p : Nat) : Value := .func (.func 39) #[] #[.pointer (some ⟨p, 0, none⟩)]
theorem good_end {s : ByteArray} {k : Nat} (h : goodB s k = true) (hk : k ≤ s.size) (he : ¬ k < s.size) : goodB s s.size = true ∧ k = s.size := by
  obtain rfl : k = s.size := by omega
  exact ⟨h, rfl⟩
set_option maxHeartbeats 2000000 in
set_option maxRecDepth 100000 in
theorem indexf_any (s : ByteArray) (p : Nat) (w : World) (hs : s.size ≤ 1000000) (hp : w.heap[p]? = some (B1 0)) :
    Calls Try.prog 56 #[S s, fPath p, .bool true] w fun e w' => ∃ r x, e = .returned (I r) ∧ decide (r ≥ 0) = !(goodB s s.size) ∧ w'.heap[p]? = some (B1 x) ∧ (goodB s s.size = true → x = ahd s s.size) ∧ w.grownBy w' (some p) := by
  have hent : ∀ args w, (callFunc 39 args).run Try.prog w = .ok (.enter 39 args) w := enters_of Try.func39 (by kernel_rfl) rfl
  have PT := Lib.hid (fun r a w => path1_any r a p w)
  have hlt := lt_of_block hp
  go_enter Try.func56, Try.ntmps56
  go_wp2_with fail
  go_loopg [] s.size (fun gf wx => ∃ pos : Nat, pos ≤ s.size ∧ wx.heap[w.heap.size]? = some (.stringIter s pos) ∧ goodB s pos = true ∧ wx.heap[p]? = some (B1 (ahd s pos)) ∧ w.grownBy wx (some p) ∧ s.size ≤ pos + gf)
  case atStart => exact ⟨0, Nat.zero_le _, World.iter_heap w s 0, rfl, by show (w.alloc (.stringIter s 0)).heap[p]? = _; rw [((Bl.rfl' w).al (.stringIter s 0)).block p hlt]; exact hp, gby_al (gby_rfl w _) _, by omega⟩
  case round =>
    obtain ⟨pos, hps, hit, hgood, hcell, hg, hfu⟩ := hrel
    by_cases hlt2 : pos < s.size
    · obtain ⟨g', rfl⟩ : ∃ g', gk = g' + 1 := ⟨gk - 1, by omega⟩
      have hnx : ∀ ty, (Instr.next (.pointer (some ⟨w.heap.size, 0, none⟩)) true ty).run Try.prog wr = _ := fun ty => Lib.run_next_any_at wr w.heap.size s pos ty hit hlt2
      have hda := dec_at s pos hlt2
      have hal := ahd_lo s pos
      have hbad := bad_high (s := s) (k := pos)
      have hbo : badB s pos = oddF (byteAt s pos) (ahd s pos) := rfl
      have hgn := fun h => good_no (s := s) (k := pos) (n := s.size) hlt2 h
      have hgx := fun h => good_next hgood h
      have han := ahd_next s pos
      have hby := byte_lo s pos
      obtain ⟨R, hR⟩ : ∃ R, (Utf8.decode s pos).1 = R := ⟨_, rfl⟩
      obtain ⟨K, hK⟩ : ∃ K, (Utf8.decode s pos).2 = K := ⟨_, rfl⟩
      rw [hR, hK] at hnx
      have hit2 := Lib.iterAt_heap wr w.heap.size s pos (pos + K) hit
      have hg2 := gby_iter hg s (pos + K)
      have hc2 : (wr.iterAt w.heap.size s (pos + K)).heap[p]? = some (B1 (ahd s pos)) := by rw [Lib.iterAt_other _ _ _ _ _ (by omega)]; exact hcell
      obtain ⟨W, hWd⟩ : ∃ W, wr.iterAt w.heap.size s (pos + K) = W := ⟨_, rfl⟩
      rw [hWd] at hnx hit2 hg2 hc2
      have hltW : w.heap.size < W.heap.size := lt_of_block hit2
      rcases hda with ⟨hlow, hdec⟩ | ⟨hhi, h128, hmx⟩
      · have hR2 : R = (byteAt s pos).toNat := by rw [← hR, hdec]
        have hK2 : K = 1 := by rw [← hK, hdec]
        subst hK2
        have hRi : (R : Int) = byteAt s pos := by rw [hR2]; omega
        have T := PT.out (R : Int) (ahd s pos) W (by omega) (by omega) hc2
        have hm : (R : Int) % 256 = (R : Int) := by omega
        rw [hm] at T
        rw [← hRi] at hbo han
        obtain ⟨a, ha⟩ : ∃ z_, (ahd s pos) = z_ := ⟨_, rfl⟩
        rw [ha] at T hbo
        obtain ⟨b, hb⟩ : ∃ z_, (oddF (R : Int) a) = z_ := ⟨_, rfl⟩
        rw [hb] at T hbo
        clear hbad hdec hR hK hR2 hRi ha hb hm hcell hit hgood hlow hby hal hg hc2 PT hp
        cases b with
        | true =>
          have hy := hgn hbo
          replace hy := Lib.hid hy
          replace hbo := Lib.hid hbo
          replace T := Lib.hid T
          replace hit2 := Lib.hid hit2
          replace hg2 := Lib.hid hg2
          clear hgn hgx han
          go_wp2_with fail
          with_reducible refine (T.out).mono ?_
          rintro e w3 ⟨rfl, h3, h4⟩
          have h5 := gby_tr hg2.out h4
          replace h3 := Lib.hid h3
          replace h5 := Lib.hid h5
          clear h4
          go_wp2_with fail
          go_ret
          exact ⟨_, _, rfl, by rw [hy.out]; exact decide_eq_true (by omega), h3.out, (fun hh => by rw [hy.out] at hh; cases hh), h5.out⟩
        | false =>
          have hy := hgx hbo
          replace hy := Lib.hid hy
          replace hbo := Lib.hid hbo
          replace T := Lib.hid T
          replace hit2 := Lib.hid hit2
          replace hg2 := Lib.hid hg2
          replace han := Lib.hid han
          clear hgn hgx
          go_wp2_with fail
          with_reducible refine (T.out).mono ?_
          rintro e w3 ⟨rfl, h3, h4⟩
          have h5 := gby_tr hg2.out h4
          have h6 := (h4.block _ hltW (fun e => by cases e; omega)).trans hit2.out
          have h7 : w3.heap[p]? = some (B1 (ahd s (pos + 1))) := by rw [han.out]; exact h3
          replace h3 := Lib.hid h3
          replace h5 := Lib.hid h5
          replace h6 := Lib.hid h6
          replace h7 := Lib.hid h7
          clear h4
          go_wp2_with fail
          go_roundg g'
          case measure => omega
          case rel => exact ⟨pos + 1, by omega, h6.out, hy.out, h7.out, h5.out, by omega⟩
      · have hy := hgn (hbad hhi)
        have hodd : ∀ a, oddF (R : Int) a = true := fun a => by
          unfold oddF
          rw [show decide ((R : Int) = 47) = false from decide_eq_false (by omega), show signF (R : Int) = false from decide_eq_false (by omega)]
          rfl
        have T := PT.out (R : Int) (ahd s pos) W (by omega) (by omega) hc2
        rw [hodd] at T
        clear hbad hhi h128 hmx hR hK hcell hit hgood hby hal hlt hg hc2 PT hp hgn hgx han hbo hodd
        replace hy := Lib.hid hy
        replace T := Lib.hid T
        replace hit2 := Lib.hid hit2
        replace hg2 := Lib.hid hg2
        go_wp2_with fail
        with_reducible refine (T.out).mono ?_
        rintro e w3 ⟨rfl, h3, h4⟩
        have h5 := gby_tr hg2.out h4
        replace h3 := Lib.hid h3
        replace h5 := Lib.hid h5
        clear h4
        go_wp2_with fail
        go_ret
        exact ⟨_, _, rfl, by rw [hy.out]; exact decide_eq_true (by omega), h3.out, (fun hh => by rw [hy.out] at hh; cases hh), h5.out⟩
    · have hnx : ∀ ty, (Instr.next (.pointer (some ⟨w.heap.size, 0, none⟩)) true ty).run Try.prog wr = _ := fun ty => Lib.run_next_end_at wr w.heap.size s pos ty hit hlt2
      obtain ⟨hge, rfl⟩ := good_end hgood hps hlt2
      replace hge := Lib.hid hge
      replace hcell := Lib.hid hcell
      replace hg := Lib.hid hg
      replace hit := Lib.hid hit
      clear hgood hp PT
      go_wp2_with fail
      go_ret
      exact ⟨_, _, rfl, by rw [hge.out]; rfl, hcell.out, fun _ => rfl, hg.out⟩
theorem indexF_any (s : ByteArray) (p : Nat) (w : World) (hs : s.size ≤ 1000000) (hp : w.heap[p]? = some (B1 0)) :
    Calls Try.prog 50 #[S s, fPath p] w fun e w' => ∃ r x, e = .returned (I r) ∧ decide (r ≥ 0) = !(goodB s s.size) ∧ w'.heap[p]? = some (B1 x) ∧ (goodB s s.size = true → x = ahd s s.size) ∧ w.grownBy w' (some p) := by
  have C := Lib.hid (indexf_any s p w hs hp)
  clear hp
  go_enter Try.func50, Try.ntmps50
  go_wp2_with fail
  with_reducible refine (C.out).mono ?_
  rintro e w' ⟨r, x, rfl, h1, h2, h3, h4⟩
  replace h1 := Lib.hid h1
  replace h2 := Lib.hid h2
  replace h3 := Lib.hid h3
  replace h4 := Lib.hid h4
  go_wp2_with fail
  go_ret
  exact ⟨_, _, rfl, h1.out, h2.out, h3.out, h4.out⟩
theorem contf_any (s : ByteArray) (p : Nat) (w : World) (hs : s.size ≤ 1000000) (hp : w.heap[p]? = some (B1 0)) :
    Calls Try.prog 38 #[S s, fPath p] w fun e w' => ∃ x, e = .returned (.bool (!(goodB s s.size))) ∧ w'.heap[p]? = some (B1 x) ∧ (goodB s s.size = true → x = ahd s s.size) ∧ w.grownBy w' (some p) := by
  have C := Lib.hid (indexF_any s p w hs hp)
  clear hp
  go_enter Try.func38, Try.ntmps38
  go_wp2_with fail
  with_reducible refine (C.out).mono ?_
  rintro e w' ⟨r, x, rfl, h1, h2, h3, h4⟩
  replace h1 := Lib.hid h1
  replace h2 := Lib.hid h2
  replace h3 := Lib.hid h3
  replace h4 := Lib.hid h4
  go_wp2_with fail
  go_ret
  exact ⟨_, by rw [← h1.out]; rfl, h2.out, h3.out, h4.out⟩

set_option maxHeartbeats 2000000 in
theorem path_any (s : ByteArray) (w : World) (hs : s.size ≤ 1000000) :
    Calls Try.prog 20 #[S s] w fun e w' => e = .returned (.bool (pathF s)) ∧ Bl w w' := by
  by_cases h0 : s.size = 0
  · have e1 : ((s.size : Int) == 0) = true := beq_iff_eq.2 (by omega)
    have hpf : pathF s = false := path_long (by omega)
    rw [hpf]
    clear hpf h0
    go_enter Try.func20, Try.ntmps20
    go_wp2_with fail
    go_ret
    exact ⟨rfl, Bl.rfl' _⟩
  · have e1 : ((s.size : Int) == 0) = false := beq_eq_false_iff_ne.2 (by omega)
    by_cases h60 : 60 < s.size
    · have e2 : decide ((s.size : Int) > 60) = true := decide_eq_true (by omega)
      have hpf : pathF s = false := path_long (by omega)
      rw [hpf]
      clear hpf h0 h60
      go_enter Try.func20, Try.ntmps20
      go_wp2_with fail
      go_ret
      exact ⟨rfl, Bl.rfl' _⟩
    · have e2 : decide ((s.size : Int) > 60) = false := decide_eq_false (by omega)
      have hlt : 0 < s.size := by omega
      have hbt := (byte_at s 0 hlt).symm
      obtain ⟨c, hc⟩ : ∃ c : Int, ((s[0]'hlt).toNat : Int) = c := ⟨_, rfl⟩
      rw [hc] at hbt
      by_cases h47 : c = 47
      · have e3 : (c != 47) = false := by rw [bne, beq_iff_eq.2 h47]; rfl
        have he : (s.toList == [47]) = decide (s = sl) := by
          have h := txt_eq s sl
          rw [show sl.toList = [47] by rw [ByteArray.toList_eq]] at h
          exact h
        by_cases hsl : s = sl
        · have hpf : pathF s = true := by rw [hsl]; exact path_sl
          rw [decide_eq_true hsl] at he
          rw [hpf]
          clear hpf hsl hbt
          go_enter Try.func20, Try.ntmps20
          go_wp2_with fail
          go_ret
          exact ⟨rfl, Bl.rfl' _⟩
        · have hpf : pathF s = (goodB s s.size && !(decide (ahd s s.size = 47))) := path_rest (by omega) (by omega) (by rw [hbt]; exact h47) hsl
          rw [decide_eq_false hsl] at he
          rw [hpf]
          have C := Lib.hid (contf_any s w.heap.size _ hs (heap_alloc_new w (B1 0)))
          have hb := (Bl.rfl' w).al (B1 0)
          obtain ⟨g, hg⟩ : ∃ z_, (goodB s s.size) = z_ := ⟨_, rfl⟩
          rw [hg] at C
          simp only [hg]
          obtain ⟨y, hy⟩ : ∃ z_, (ahd s s.size) = z_ := ⟨_, rfl⟩
          rw [hy] at C
          simp only [hy]
          clear hpf hsl hbt hg hy
          replace hb := Lib.hid hb
          go_enter Try.func20, Try.ntmps20
          go_wp2_with fail
          with_reducible refine (C.out).mono ?_
          rintro e w2 ⟨x, rfl, hx, hxe, hgr⟩
          have hbz := hb.out.gp hgr (Nat.le_refl _)
          have cx := cell_at hx 0
          simp only [List.getElem?_toArray, List.getElem?_cons_zero] at cx
          clear hgr hx
          cases g with
          | false =>
            replace hbz := Lib.hid hbz
            replace hxe := Lib.hid hxe
            go_wp2_with fail
            go_ret
            exact ⟨rfl, hbz.out⟩
          | true =>
            have hxx := hxe rfl
            subst hxx
            by_cases hy47 : x = 47
            · have e5 : (x != 47) = false := by rw [bne, beq_iff_eq.2 hy47]; rfl
              have e6 : decide (x = 47) = true := decide_eq_true hy47
              clear hy47 hxe
              replace hbz := Lib.hid hbz
              replace e6 := Lib.hid e6
              go_wp2_with fail
              go_ret
              exact ⟨by rw [e6.out]; rfl, hbz.out⟩
            · have e5 : (x != 47) = true := by rw [bne, beq_eq_false_iff_ne.2 hy47]; rfl
              have e6 : decide (x = 47) = false := decide_eq_false hy47
              clear hy47 hxe
              replace hbz := Lib.hid hbz
              replace e6 := Lib.hid e6
              go_wp2_with fail
              go_ret
              exact ⟨by rw [e6.out]; rfl, hbz.out⟩
      · have e3 : (c != 47) = true := by rw [bne, beq_eq_false_iff_ne.2 h47]; rfl
        have hpf : pathF s = false := path_first (by rw [hbt]; exact h47)
        rw [hpf]
        clear hpf h0 h47 hbt
        go_enter Try.func20, Try.ntmps20
        go_wp2_with fail
        go_ret
        exact ⟨rfl, Bl.rfl' _⟩
end Go.Proofs.Ytnmehmlenbbfbaa.mat
