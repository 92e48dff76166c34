/-
  The document's IDs of endpoints, as its code finds them.
-/
import Derived.Test.YtjajhebnafaflaaZnK
import Derived.Test.YtjajhebnafaflaaFeed
namespace Go.Proofs.Ytjajhebnafaflaa.zones
open Go.ChangeShapes Go.WideShapes Go.ChangeAt Go.RowKit Go.Shelf
set_option linter.unusedVariables false
set_option linter.unusedSimpArgs false

def sLen : Value → Nat
  | .slice _ n _ => n
  | _ => 0
theorem lst_succ (p : En → Bool) (R : List En) (O : List Int) (k : Nat) : lstF p R O (k + 1) = if p (R.getD k e0) && !(decide ((R.getD k e0).i ∈ O)) then min (lstF p R O k) (R.getD k e0).i else lstF p R O k := rfl
theorem min_if (a b : Int) : (if b < a then b else a) = min a b := by split <;> omega

set_option maxRecDepth 20000 in
set_option maxHeartbeats 8000000 in
theorem ids_any (v : Value) (R : List En) (u : Value) (Z : List Int) (z : Int) (h al : Bool) (w : World) (hv : EndsAt w v R) (hu : IntsAt w u Z) (hm : Z.length ≤ maxLen) (hn : (R.map En.i).Nodup) (hb : ∀ x ∈ R, x.i < 4611686018427387904) :
    Calls Try.prog 27 #[v, u, I z, .bool h, .bool al] w fun e w' => ∃ x, e = .returned x ∧ w'.ownsRow w.heap.size 3 1 x (idL R Z z h al).length ((idL R Z z h al).map I) ∧ Bl w w' := by
  obtain ⟨iu, hiu, zu0, zu1, zu2⟩ := info_parts infoI
  obtain ⟨ea, eg, eo, ec, rfl, hr, hg, hl⟩ := id hv
  have RC := Lib.hid (fun w' (hb : Bl w w') i hi => (hr.bl hb).c i hi)
  have H1 := Lib.hid (fun n w' (hb : Bl w w') => has_any Z n u w' (Rd.below hu hb) hm)
  have hTl : (idL R Z z h al).length ≤ R.length := by unfold idL; rw [srt_len]; exact evZ_len _ _ _
  have LI := fun k hk => lst_is hn hb (idP Z z h al) (T := idL R Z z h al) rfl k hk
  have L0 : ∀ O, lstF (idP Z z h al) R O 0 = 4611686018427387904 := fun O => rfl
  have LS := fun O k => lst_succ (idP Z z h al) R O k
  have hid : ∀ x, idP Z z h al x = (((x.z == z) == h) && (al || Z.contains x.i)) := fun x => rfl
  simp only [hid] at LS
  have hTb : ∀ k, k < (idL R Z z h al).length → ((idL R Z z h al).getD k 0 == 4611686018427387904) = false := fun k hk => by
    have hx : (idL R Z z h al).getD k 0 ∈ idL R Z z h al := by rw [List.getD_eq_getElem?_getD, List.getElem?_eq_getElem hk]; exact List.getElem_mem _
    obtain ⟨e, he, -, hie⟩ := evZ_mem.1 (srt_mem.1 hx)
    have := hb e he
    exact beq_eq_false_iff_ne.2 (by omega)
  obtain ⟨T, hT⟩ : ∃ z_, (idL R Z z h al) = z_ := ⟨_, rfl⟩
  rw [hT] at hTl ⊢
  simp only [hT] at LI hTb
  obtain ⟨F, hF⟩ : ∃ z_, (lstF (idP Z z h al) R) = z_ := ⟨_, rfl⟩
  simp only [hF] at LI L0 LS
  clear hT hF hid hr hg hv hu hm hn hb
  replace RC := Lib.hid RC
  replace LI := Lib.hid LI
  replace L0 := Lib.hid L0
  replace LS := Lib.hid LS
  replace hTb := Lib.hid hTb
  go_enter Try.func27, Try.ntmps27
  go_wp2_with fail
  go_loopw [11] (fun o wr => ∃ (k : Nat) (a : Option Addr) (cap : Nat), k ≤ T.length ∧ o = .slice a k cap ∧ wr.ownsRow w.heap.size 3 1 o k ((T.take k).map I) ∧ Bl w wr) (fun o _ => R.length - sLen o)
  case atStart => exact ⟨0, none, 0, by omega, rfl, World.ownsRow_nil _ _ _ _, Bl.rfl' _⟩
  case round =>
    obtain ⟨k, oa, oc, hk, rfl, hown, hbr⟩ := hrel
    by_cases hlt : k < R.length
    · have hbs := hbr.size
      have hIO : IntsAt wr (.slice oa k oc) (T.take k) := ints_own (base := w.heap.size) (by rw [List.length_take, Nat.min_eq_left hk]; exact hown)
      have H2 := Lib.hid (fun n => has_any (T.take k) n _ wr hIO (by rw [List.length_take]; unfold maxLen; omega))
      have l0 := L0.out (T.take k)
      have ls := LS.out (T.take k)
      have li := LI.out k hk
      obtain ⟨wB, hwB⟩ : ∃ x, x = wr := ⟨_, rfl⟩
      subst hwB
      obtain ⟨O, hO⟩ : ∃ z_, (T.take k) = z_ := ⟨_, rfl⟩
      rw [hO] at l0 li
      simp only [hO] at H2 ls
      obtain ⟨G, hG⟩ : ∃ z_, (F O) = z_ := ⟨_, rfl⟩
      rw [hG] at l0 li
      simp only [hG] at ls
      clear hIO
      replace hown := Lib.hid hown
      replace hbr := Lib.hid hbr
      replace l0 := Lib.hid l0
      replace ls := Lib.hid ls
      replace li := Lib.hid li
      replace hO := Lib.hid hO
      replace hG := Lib.hid hG
      go_wp2_with fail
      go_loopw [12, 13] (fun l i wr => ∃ j : Nat, j ≤ R.length ∧ i = I j ∧ l = I (G j) ∧ wr = wB) (fun _ i _ => R.length - (intOf i).toNat)
      case atStart => exact ⟨0, by omega, rfl, by rw [l0.out], rfl⟩
      case round =>
        obtain ⟨j, hj, rfl, rfl, rfl⟩ := hrel
        by_cases hlj : j < R.length
        · obtain ⟨ha, hcc⟩ := RC.out _ hbr.out j hlj
          subst ha
          have c0 := hcc 0 (by decide)
          have c2 := hcc 2 (by decide)
          simp only [List.getElem?_cons_succ, List.getElem?_cons_zero, Nat.add_zero, ← Nat.add_assoc] at c0 c2
          have hst := ls.out j
          obtain ⟨y, hy⟩ : ∃ z_, (R.getD j e0) = z_ := ⟨_, rfl⟩
          rw [hy] at c0 c2 hst
          obtain ⟨xi, xs, xz⟩ := y
          simp only at c0 c2 hst
          have K1 := H1.out xi _ hbr.out
          have K2 := H2.out xi
          have hcon : Z.contains xi = decide (xi ∈ Z) := by rw [Bool.eq_iff_iff, List.contains_iff_mem, decide_eq_true_iff]
          rw [hcon] at hst
          obtain ⟨b, hb⟩ : ∃ z_, (decide (xi ∈ Z)) = z_ := ⟨_, rfl⟩
          rw [hb] at hst K1
          obtain ⟨c, hc⟩ : ∃ z_, (decide (xi ∈ O)) = z_ := ⟨_, rfl⟩
          rw [hc] at hst K2
          obtain ⟨m, hmm⟩ : ∃ z_, (G j) = z_ := ⟨_, rfl⟩
          rw [hmm] at hst ⊢
          obtain ⟨f, hf⟩ : ∃ z_, (((xz == z) == h)) = z_ := ⟨_, rfl⟩
          rw [hf] at hst
          have wj : IntKind.i64.wrap ((j : Int) + 1) = ((j + 1 : Nat) : Int) := by rw [IntKind.wrap_i64]; omega
          clear hcc hy hcon hb hc hmm
          replace hst := Lib.hid hst
          replace K1 := Lib.hid K1
          replace K2 := Lib.hid K2
          cases al with
          | true =>
            cases f with
            | false =>
              go_wp2_with fail
              go_roundw
              case rel => exact ⟨j + 1, by omega, by first | rfl | go_num, by rw [hst.out]; rfl, trivial⟩
              case measure => simp [intOf] <;> omega
            | true =>
              cases c with
              | true =>
                go_wp2_with fail
                with_reducible refine (K2.out).mono ?_
                rintro e w' ⟨rfl, rfl⟩
                go_wp2_with fail
                go_roundw
                case rel => exact ⟨j + 1, by omega, by first | rfl | go_num, by rw [hst.out]; rfl, trivial⟩
                case measure => simp [intOf] <;> omega
              | false =>
                have hm := min_if m xi
                have hm2 : (if m < xi then m else xi) = min m xi := by split <;> omega
                have hm3 : (if m ≤ xi then m else xi) = min m xi := by split <;> omega
                have hm4 : (if xi ≤ m then xi else m) = min m xi := by split <;> omega
                go_wp2_with fail
                with_reducible refine (K2.out).mono ?_
                rintro e w' ⟨rfl, rfl⟩
                go_wp2_with fail
                go_roundw
                case rel => exact ⟨j + 1, by omega, by first | rfl | go_num, by rw [hst.out]; rfl, trivial⟩
                case measure => simp [intOf] <;> omega
          | false =>
            cases f with
            | false =>
              go_wp2_with fail
              with_reducible refine (K1.out).mono ?_
              rintro e w' ⟨rfl, rfl⟩
              cases b with
              | true =>
                go_wp2_with fail
                go_roundw
                case rel => exact ⟨j + 1, by omega, by first | rfl | go_num, by rw [hst.out]; rfl, trivial⟩
                case measure => simp [intOf] <;> omega
              | false =>
                go_wp2_with fail
                go_roundw
                case rel => exact ⟨j + 1, by omega, by first | rfl | go_num, by rw [hst.out]; rfl, trivial⟩
                case measure => simp [intOf] <;> omega
            | true =>
              cases b with
              | false =>
                go_wp2_with fail
                with_reducible refine (K1.out).mono ?_
                rintro e w' ⟨rfl, rfl⟩
                go_wp2_with fail
                go_roundw
                case rel => exact ⟨j + 1, by omega, by first | rfl | go_num, by rw [hst.out]; rfl, trivial⟩
                case measure => simp [intOf] <;> omega
              | true =>
                cases c with
                | true =>
                  go_wp2_with fail
                  with_reducible refine (K1.out).mono ?_
                  rintro e w' ⟨rfl, rfl⟩
                  go_wp2_with fail
                  with_reducible refine (K2.out).mono ?_
                  rintro e w' ⟨rfl, rfl⟩
                  go_wp2_with fail
                  go_roundw
                  case rel => exact ⟨j + 1, by omega, by first | rfl | go_num, by rw [hst.out]; rfl, trivial⟩
                  case measure => simp [intOf] <;> omega
                | false =>
                  have hm := min_if m xi
                  have hm2 : (if m < xi then m else xi) = min m xi := by split <;> omega
                  have hm3 : (if m ≤ xi then m else xi) = min m xi := by split <;> omega
                  have hm4 : (if xi ≤ m then xi else m) = min m xi := by split <;> omega
                  go_wp2_with fail
                  with_reducible refine (K1.out).mono ?_
                  rintro e w' ⟨rfl, rfl⟩
                  go_wp2_with fail
                  with_reducible refine (K2.out).mono ?_
                  rintro e w' ⟨rfl, rfl⟩
                  go_wp2_with fail
                  go_roundw
                  case rel => exact ⟨j + 1, by omega, by first | rfl | go_num, by rw [hst.out]; rfl, trivial⟩
                  case measure => simp [intOf] <;> omega
        · obtain rfl : j = R.length := by omega
          have hli := li.out
          rw [hli]
          by_cases hkT : k < T.length
          · rw [if_pos hkT]
            have hne := hTb.out k hkT
            have hst : T.take (k + 1) = T.take k ++ [T.getD k 0] := by rw [List.take_succ_eq_append_getElem hkT, List.getD_eq_getElem?_getD, List.getElem?_eq_getElem hkT]; rfl
            obtain ⟨t, ht⟩ : ∃ z_, (T.getD k 0) = z_ := ⟨_, rfl⟩
            rw [ht] at hne hst ⊢
            clear ht hli
            replace hst := Lib.hid hst
            go_wp2_with (at_builtin; refine wpList_append_one rfl _ _ 22 rfl w.heap.size 3 iu (I 0) 8 Try.underlying22 hiu zu0 zu1 zu2 rfl _ k ((T.take k).map I) rfl hown.out (I t) _ rfl 1 (by first | rfl | simp [Act.eval, Act.put]) (by omega) (by omega) (by omega) ?_)
            intro b' cap' w7 hown' hgrow
            have hb7 := hbr.out.grown hgrow (fun k hk => (hown.out.lt k hk).1)
            replace hown' := Lib.hid hown'
            replace hb7 := Lib.hid hb7
            go_wp2_with fail
            go_roundw
            case rel => exact ⟨k + 1, _, cap', by omega, rfl, by rw [hst.out, List.map_append, List.map_take]; exact hown'.out, hb7.out⟩
            case measure => simp [sLen] <;> omega
          · rw [if_neg hkT]
            have hkk : k = T.length := by omega
            clear hli
            go_wp2_with fail
            go_ret
            exact ⟨_, rfl, by have h := hown.out; rw [hkk, List.take_length] at h; rw [hkk]; exact h, hbr.out⟩
    · have hkk : k = T.length := by omega
      replace hown := Lib.hid hown
      replace hbr := Lib.hid hbr
      go_wp2_with fail
      go_ret
      exact ⟨_, rfl, by have h := hown.out; rw [hkk, List.take_length] at h; rw [hkk]; exact h, hbr.out⟩
end Go.Proofs.Ytjajhebnafaflaa.zones
