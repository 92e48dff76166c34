/-
  HeadsRoom is true for every input: however many are set, there are as many as there are unlike names, but 8 at most. No condition.
-/
import Derived.Test.YtcbpagbalagllaaDoorHdO
import Derived.Test.YtcbpagbalagllaaDoorHdH
namespace Go.Proofs.YtcbpagbalagllaaDoor.headsRoom
open Go.ChangeShapes Go.WideShapes Go.ChangeAt Go.RowKit
open Go.Proofs.YtcbpagbalagllaaDoor.heads
set_option linter.unusedVariables false
set_option linter.unusedSimpArgs false

def nm1 (N : List ByteArray) (x : Hd) : List ByteArray := if inT N x.n = true then N else N ++ [x.n]
def nmF (N : List ByteArray) (B : List Hd) : List ByteArray := B.foldl nm1 N
theorem nmF_take (N : List ByteArray) (B : List Hd) (k : Nat) (h : k < B.length) : nmF N (B.take (k + 1)) = nm1 (nmF N (B.take k)) (B.getD k h0) := by
  unfold nmF
  rw [List.take_succ_eq_append_getElem h, List.foldl_append, List.getD_eq_getElem?_getD, List.getElem?_eq_getElem h]
  rfl
theorem nmF_len (N : List ByteArray) : ∀ B, (nmF N B).length ≤ N.length + B.length := by
  intro B
  unfold nmF
  induction B generalizing N with
  | nil => simp
  | cons x B ih =>
    have := ih (nm1 N x)
    rw [List.foldl_cons, List.length_cons]
    refine Nat.le_trans this ?_
    unfold nm1
    split
    · omega
    · rw [List.length_append, List.length_singleton]; omega
theorem set_names (A : List Hd) (x : Hd) (N : List ByteArray) (h8 : A.length ≤ 8) (h : A.map Hd.n = N.take 8) : (set1R A x).map Hd.n = (nm1 N x).take 8 := by
  have hl : A.length = min 8 N.length := by rw [← List.length_map (f := Hd.n), h, List.length_take]
  unfold set1R nm1
  by_cases ha : A.any (isN x.n) = true
  · rw [if_pos ha, rep_names, h]
    have hm := any_names.1 ha
    rw [h] at hm
    rw [if_pos (inT_iff.2 (List.mem_of_mem_take hm))]
  · rw [if_neg ha]
    by_cases h1 : A.length < 8
    · rw [if_pos h1, List.map_append, h]
      have hN : N.take 8 = N := List.take_of_length_le (by omega)
      have hno : ¬ (inT N x.n = true) := fun hc => ha (any_names.2 (by rw [h, hN]; exact inT_iff.1 hc))
      rw [if_neg hno, hN, List.take_of_length_le (by rw [List.length_append, List.length_singleton]; omega)]
      rfl
    · rw [if_neg h1, h]
      split
      · rfl
      · rw [List.take_append_of_le_length (by omega)]
theorem room {B : List Hd} : ∀ {A : List Hd} {N : List ByteArray}, A.length ≤ 8 → A.map Hd.n = N.take 8 → (setR A B).map Hd.n = (nmF N B).take 8 := by
  unfold setR nmF
  induction B with
  | nil => exact fun _ h => h
  | cons x B ih =>
    intro A N h8 h
    rw [List.foldl_cons, List.foldl_cons]
    exact ih (set1R_len A x h8) (set_names A x N h8 h)
theorem room_len {A B : List Hd} (h8 : A.length ≤ 8) : (setR A B).length = if 8 < (nmF (A.map Hd.n) B).length then 8 else (nmF (A.map Hd.n) B).length := by
  have h := congrArg List.length (room (B := B) (N := A.map Hd.n) h8 (by rw [List.take_of_length_le (by rw [List.length_map]; exact h8)]))
  rw [List.length_map, List.length_take] at h
  rw [h]
  split <;> omega

set_option maxRecDepth 20000 in
set_option maxHeartbeats 8000000 in
theorem walk {w : World} (v0 : Value) (z0 : List Int) (hv0 : IntsAt w v0 z0) (hz0 : i64ok z0) (hm0 : z0.length ≤ maxLen) (v1 : Value) (z1 : List Int) (hv1 : IntsAt w v1 z1) (hz1 : i64ok z1) (hm1 : z1.length ≤ maxLen) :
    Calls Tryd.prog 10 #[v0, v1] w fun e w' => e = .returned (.bool true) ∧ Bl w w' := by
  obtain ⟨iu, hiu, zu0, zu1, zu2⟩ := info_parts infoT
  have HM := Lib.hid (heads_mk z0 v0 w hv0 hz0 hm0)
  have SM := Lib.hid (fun w' (hb : Bl w w') => some_mk z1 v1 w' (Rd.below hv1 hb) hz1 hm1)
  have LV := Lib.hid lives_any
  have CL := Lib.hid (fun n w h0 h1 => clamp8_any n w h0 h1)
  have okA := ok_heads z0 (min z0.length 12)
  have lB : (someF z1 (min z1.length 12)).length ≤ 12 := by rw [someF_len]; omega
  have mB := some_may z1 (min z1.length 12)
  obtain ⟨A, hA⟩ : ∃ z_, (headsF z0 (min z0.length 12)) = z_ := ⟨_, rfl⟩
  rw [hA] at HM okA
  obtain ⟨B, hB⟩ : ∃ z_, (someF z1 (min z1.length 12)) = z_ := ⟨_, rfl⟩
  rw [hB] at lB mB
  simp only [hB] at SM
  clear hv0 hv1 hz0 hz1 hm0 hm1 hA hB
  go_enter Tryd.func10, Tryd.ntmps10
  go_wp2_with fail
  with_reducible refine (HM.out).mono ?_
  rintro e w1 ⟨va, rfl, hOA, hb1⟩
  have hHA := heads_own hOA
  replace hb1 := Lib.hid hb1
  replace hHA := Lib.hid hHA
  clear HM hOA
  go_wp2_with fail
  with_reducible refine (SM.out _ hb1.out).mono ?_
  rintro e w2 ⟨vb, rfl, hOB, hb2⟩
  have hHA2 := hHA.out.bl hb2
  have hHB := heads_own hOB
  have hb12 := hb1.out.tr hb2
  have lA := okA.len
  have hSS := set_same mB okA
  have lS := hSS.2.len
  have ST := Lib.hid (fun w' (hb : Bl w2 w') => set_any va A vb B w' (hHA2.bl hb) (hHB.bl hb) (by omega) (by omega))
  rw [hSS.1] at ST
  have rl := room_len (A := A) (B := B) lA
  have nl := nmF_len (A.map Hd.n) B
  rw [List.length_map] at nl
  have NT := fun k h => nmF_take (A.map Hd.n) B k h
  have NL := fun k => nmF_len (A.map Hd.n) (B.take k)
  obtain ⟨aa, ag, ao, ac, rfl, -, -, ar⟩ := hHA2
  obtain ⟨ba, bg, bo, bc, rfl, -, -, br⟩ := hHB
  have RA := Lib.hid (fun w' (hb : Bl w2 w') i hi => (ar.bl hb).c hB_len h0 i hi)
  have RB := Lib.hid (fun w' (hb : Bl w2 w') i hi => (br.bl hb).c hB_len h0 i hi)
  clear hb1 hb2 hOB SM hHA hSS okA mB ar br
  replace hb12 := Lib.hid hb12
  replace rl := Lib.hid rl
  replace NT := Lib.hid NT
  replace NL := Lib.hid NL
  go_wp2_with fail
  go_loopw [7, 8] (fun o i wr => ∃ k : Nat, k ≤ A.length ∧ i = I k ∧ OwnB tB 1 9 wr w2.heap.size o ((A.take k).map Hd.n) ∧ Bl w2 wr) (fun _ i _ => A.length - (intOf i).toNat)
  case atStart => exact ⟨0, by omega, rfl, OwnB.nil _ _ _, Bl.rfl' _⟩
  case round =>
    obtain ⟨k, hk, rfl, hown, hbr⟩ := hrel
    by_cases hlt : k < A.length
    · obtain ⟨ha, hcc⟩ := RA.out _ hbr k hlt
      subst ha
      have c0 := hcc 0 (by decide)
      simp only [List.getElem?_cons_succ, List.getElem?_cons_zero, Nat.add_zero, ← Nat.add_assoc] at c0
      have hst : (A.take (k + 1)).map Hd.n = (A.take k).map Hd.n ++ [(A.getD k h0).n] := by
        rw [List.take_succ_eq_append_getElem hlt, List.map_append, List.getD_eq_getElem?_getD, List.getElem?_eq_getElem hlt]; rfl
      have hln : ((A.take k).map Hd.n).length = k := by rw [List.length_map, List.length_take]; omega
      obtain ⟨x, hx⟩ : ∃ z_, (A.getD k h0) = z_ := ⟨_, rfl⟩
      rw [hx] at c0 hst
      obtain ⟨n, u⟩ := x
      simp only at c0 hst
      have hbs := hbr.size
      have wk : IntKind.i64.wrap ((k : Int) + 1) = ((k + 1 : Nat) : Int) := by rw [IntKind.wrap_i64]; omega
      obtain ⟨O, hO⟩ : ∃ z_, ((A.take k).map Hd.n) = z_ := ⟨_, rfl⟩
      rw [hO] at hown hst hln
      obtain ⟨ra, rg, rcap, rfl, hrg, hrc, hrc2, hRR⟩ := OwnB.row hown (by decide)
      replace hown : wr.ownsRow w2.heap.size 9 1 (.slice ra O.length rcap) O.length (flatB tB O) := hown
      rw [hln] at hown ⊢
      clear hcc hx hO hRR hrg
      replace hst := Lib.hid hst
      replace hown := Lib.hid hown
      replace hbr := Lib.hid hbr
      replace hln := Lib.hid hln
      go_wp2_with (at_builtin; refine wpList_append_row rfl _ _ 36 rfl w2.heap.size 9 iu (S ByteArray.empty) 1 16 Tryd.underlying36 hiu zu0 zu1 zu2 rfl (by decide) _ k (flatB tB O) rfl hown.out #[S n] _ rfl (by intro u hu; simp at hu; subst hu; rfl) 1 (by first | rfl | simp [Act.eval, Act.put]) (by omega) (by omega) (by omega) ?_)
      intro b' cap' w7 hown7 hgrow7
      have hb7 := hbr.out.grown hgrow7 (fun k hk => (hown.out.lt k hk).1)
      clear hgrow7
      replace hown7 := Lib.hid hown7
      replace hb7 := Lib.hid hb7
      go_wp2_with fail
      go_roundw
      case rel => exact ⟨k + 1, by omega, by first | rfl | go_num, by unfold OwnB; rw [hst.out, flatB_snoc, List.length_append, hln.out]; exact hown7.out, hb7.out⟩
      case measure => simp [intOf] <;> omega
    · obtain rfl : k = A.length := by omega
      rw [List.take_length] at hown
      obtain ⟨wB, hwB⟩ : ∃ x, x = wr := ⟨_, rfl⟩
      subst hwB
      replace hown := Lib.hid hown
      replace hbr := Lib.hid hbr
      go_wp2_with fail
      go_loopw [7, 9] (fun o i wr => ∃ k : Nat, k ≤ B.length ∧ i = I k ∧ OwnB tB 1 9 wr w2.heap.size o (nmF (A.map Hd.n) (B.take k)) ∧ Bl w2 wr) (fun _ i _ => B.length - (intOf i).toNat)
      case atStart => exact ⟨0, by omega, rfl, hown.out, hbr.out⟩
      case round =>
        obtain ⟨k, hk, rfl, hown, hbr⟩ := hrel
        have hnl := NL.out k
        rw [List.length_map, List.length_take] at hnl
        by_cases hlt : k < B.length
        · obtain ⟨ha, hcc⟩ := RB.out _ hbr k hlt
          subst ha
          have c0 := hcc 0 (by decide)
          simp only [List.getElem?_cons_succ, List.getElem?_cons_zero, Nat.add_zero, ← Nat.add_assoc] at c0
          have hst := NT.out k hlt
          obtain ⟨x, hx⟩ : ∃ z_, (B.getD k h0) = z_ := ⟨_, rfl⟩
          rw [hx] at c0 hst
          obtain ⟨n, u⟩ := x
          simp only at c0
          have hbs := hbr.size
          have wk : IntKind.i64.wrap ((k : Int) + 1) = ((k + 1 : Nat) : Int) := by rw [IntKind.wrap_i64]; omega
          obtain ⟨O, hO⟩ : ∃ z_, (nmF (A.map Hd.n) (B.take k)) = z_ := ⟨_, rfl⟩
          rw [hO] at hown hst hnl
          have HT := hast_any _ O n wr (texts_own hown) (by omega)
          have hn1 : nm1 O ⟨n, u⟩ = if inT O n = true then O else O ++ [n] := rfl
          rw [hn1] at hst
          obtain ⟨ra, rg, rcap, rfl, hrg, hrc, hrc2, hRR⟩ := OwnB.row hown (by decide)
          replace hown : wr.ownsRow w2.heap.size 9 1 (.slice ra O.length rcap) O.length (flatB tB O) := hown
          obtain ⟨b, hbb⟩ : ∃ z_, (inT O n) = z_ := ⟨_, rfl⟩
          rw [hbb] at HT hst
          clear hcc hx hO hRR hrg hbb hn1
          cases b with
          | true =>
            rw [if_pos rfl] at hst
            replace hst := Lib.hid hst
            replace hown := Lib.hid hown
            replace hbr := Lib.hid hbr
            replace HT := Lib.hid HT
            go_wp2_with fail
            with_reducible refine (HT.out).mono ?_
            rintro e w' ⟨rfl, rfl⟩
            go_wp2_with fail
            go_roundw
            case rel => exact ⟨k + 1, by omega, by first | rfl | go_num, by rw [hst.out]; exact hown.out, hbr.out⟩
            case measure => simp [intOf] <;> omega
          | false =>
            rw [if_neg (by simp)] at hst
            replace hst := Lib.hid hst
            replace hown := Lib.hid hown
            replace hbr := Lib.hid hbr
            replace HT := Lib.hid HT
            go_wp2_with fail
            with_reducible refine (HT.out).mono ?_
            rintro e w' ⟨rfl, rfl⟩
            go_wp2_with (at_builtin; refine wpList_append_row rfl _ _ 36 rfl w2.heap.size 9 iu (S ByteArray.empty) 1 16 Tryd.underlying36 hiu zu0 zu1 zu2 rfl (by decide) _ O.length (flatB tB O) rfl hown.out #[S n] _ rfl (by intro u hu; simp at hu; subst hu; rfl) 1 (by first | rfl | simp [Act.eval, Act.put]) (by omega) (by omega) (by omega) ?_)
            intro b' cap' w7 hown7 hgrow7
            have hb7 := hbr.out.grown hgrow7 (fun k hk => (hown.out.lt k hk).1)
            clear hgrow7
            replace hown7 := Lib.hid hown7
            replace hb7 := Lib.hid hb7
            go_wp2_with fail
            go_roundw
            case rel => exact ⟨k + 1, by omega, by first | rfl | go_num, by unfold OwnB; rw [hst.out, flatB_snoc, List.length_append]; exact hown7.out, hb7.out⟩
            case measure => simp [intOf] <;> omega
        · obtain rfl : k = B.length := by omega
          rw [List.take_length] at hown
          have S1 := ST.out wr hbr
          have hrl := rl.out
          obtain ⟨Nn, hNn⟩ : ∃ z_, (nmF (A.map Hd.n) B) = z_ := ⟨_, rfl⟩
          rw [hNn] at hown hrl nl
          obtain ⟨ra, rg, rcap, rfl, hrg, hrc, hrc2, hRR⟩ := OwnB.row hown (by decide)
          have hbz := hb12.out.tr hbr
          have C8 := fun w => CL.out (Nn.length : Int) w (by omega) (by omega)
          have he : (if (8 : Int) < (Nn.length : Int) then (8 : Int) else (Nn.length : Int)) = ((setR A B).length : Int) := by
            rw [hrl]; split <;> split <;> omega
          rw [he] at C8
          have e1 : (((setR A B).length : Int) == ((setR A B).length : Int)) = true := by simp
          obtain ⟨R, hR⟩ : ∃ z_, (setR A B) = z_ := ⟨_, rfl⟩
          rw [hR] at S1 e1
          simp only [hR] at C8
          clear hown hbr hNn he hrl hRR hrg hR
          replace S1 := Lib.hid S1
          replace hbz := Lib.hid hbz
          replace C8 := Lib.hid C8
          go_wp2_with fail
          with_reducible refine (S1.out).mono ?_
          rintro e w5 ⟨x, rfl, hx, hn⟩
          obtain ⟨xa, xg, xc, rfl, -, -, -, -⟩ := OwnB.row hx (by decide)
          have hbz2 := hbz.out.tr hn
          clear hx hn hbz S1
          replace hbz2 := Lib.hid hbz2
          go_wp2_with fail
          with_reducible refine (C8.out _).mono ?_
          rintro e w' ⟨rfl, rfl⟩
          go_wp2_with fail
          with_reducible refine (LV.out _).mono ?_
          rintro e w6 ⟨rfl, hn⟩
          go_wp2_with fail
          go_ret
          exact ⟨rfl, hbz2.out.tr hn⟩
end Go.Proofs.YtcbpagbalagllaaDoor.headsRoom
