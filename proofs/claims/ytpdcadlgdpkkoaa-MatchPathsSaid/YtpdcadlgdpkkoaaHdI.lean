/-
  The document's Get, May and Check.
-/
import Derived.Test.YtpdcadlgdpkkoaaHdC
namespace Go.Proofs.Ytpdcadlgdpkkoaa.heads
open Go.ChangeShapes Go.WideShapes Go.ChangeAt Go.RowKit
set_option linter.unusedVariables false
set_option linter.unusedSimpArgs false

theorem getV_at {A : List Hd} {s : ByteArray} {k : Nat} (h : ∀ j, j < k → isN s (A.getD j h0) = false) (hk : k < A.length) (hp : (A.getD k h0).n = s) : getV A s = .tuple #[S (A.getD k h0).v, .bool true] := by
  unfold getV; rw [get_at h hk (decide_eq_true hp)]
theorem getV_no {A : List Hd} {s : ByteArray} (h : ∀ j, j < A.length → isN s (A.getD j h0) = false) : getV A s = .tuple #[S ByteArray.empty, .bool false] := by
  unfold getV; rw [get_no h]
set_option maxHeartbeats 2000000 in
theorem rget_any (v : Value) (A : List Hd) (s : ByteArray) (w : World) (hv : HeadsAt w v A) (hl : A.length ≤ 1000) :
    Calls Try.prog 24 #[v, S s] w fun e w' => e = .returned (getV A s) ∧ w = w' := by
  obtain ⟨a, g, o, cap, rfl, h1, h2, hr⟩ := hv
  have RC := Lib.hid (fun i hi => hr.c hB_len h0 i hi)
  have ga := fun k h1 h2 h3 => getV_at (A := A) (s := s) (k := k) h1 h2 h3
  have gn := fun h => getV_no (A := A) (s := s) h
  obtain ⟨V, hV⟩ : ∃ z_, (getV A s) = z_ := ⟨_, rfl⟩
  rw [hV] at ga gn ⊢
  clear hr hV
  replace ga := Lib.hid ga
  replace gn := Lib.hid gn
  go_enter Try.func24, Try.ntmps24
  go_wp2_with fail
  go_loopw [6] (fun i wr => ∃ k : Nat, k ≤ A.length ∧ i = I k ∧ (∀ j, j < k → isN s (A.getD j h0) = false) ∧ wr = w) (fun i _ => A.length - (intOf i).toNat)
  case atStart => exact ⟨0, by omega, rfl, fun j hj => by omega, rfl⟩
  case round =>
    obtain ⟨k, hk, rfl, hall, rfl⟩ := hrel
    by_cases hlt : k < A.length
    · obtain ⟨ha, hcc⟩ := RC.out k hlt
      subst ha
      have c0 := hcc 0 (by decide)
      have c1 := hcc 1 (by decide)
      simp only [List.getElem?_cons_succ, List.getElem?_cons_zero, Nat.add_zero, ← Nat.add_assoc] at c0 c1
      have gk := ga.out k hall hlt
      have hall2 := fun h : (A.getD k h0).n ≠ s => (fun j hj => by
        by_cases hjk : j = k
        · rw [hjk]; exact decide_eq_false h
        · exact hall j (by omega) : ∀ j, j < k + 1 → isN s (A.getD j h0) = false)
      obtain ⟨x, hx⟩ : ∃ z_, (A.getD k h0) = z_ := ⟨_, rfl⟩
      rw [hx] at c0 c1 gk hall2
      obtain ⟨n, u⟩ := x
      simp only at c0 c1 gk hall2
      have he := txt_eq n s
      have wk : IntKind.i64.wrap ((k : Int) + 1) = ((k + 1 : Nat) : Int) := by rw [IntKind.wrap_i64]; omega
      clear hcc hx hall
      by_cases hn : n = s
      · have hy := gk hn
        rw [decide_eq_true hn] at he
        clear gk hall2 hn
        replace hy := Lib.hid hy
        go_wp2_with fail
        go_ret2
        exact ⟨by rw [hy.out]; rfl, rfl⟩
      · have hy := hall2 hn
        rw [decide_eq_false hn] at he
        clear gk hall2 hn
        replace hy := Lib.hid hy
        go_wp2_with fail
        go_roundw
        case rel => exact ⟨k + 1, by omega, by first | rfl | go_num, hy.out, trivial⟩
        case measure => simp [intOf] <;> omega
    · obtain rfl : k = A.length := by omega
      have hy := gn.out hall
      replace hy := Lib.hid hy
      clear hall
      go_wp2_with fail
      go_ret2
      exact ⟨by rw [hy.out]; rfl, rfl⟩

set_option maxRecDepth 20000 in
set_option maxHeartbeats 4000000 in
theorem rmay_any (x : Hd) (w : World) (hs : x.n.size ≤ 9223372036854775807 ∧ x.v.size ≤ 9223372036854775807) :
    Calls Try.prog 41 #[hv x] w fun e w' => e = .returned (.bool (mayF x)) ∧ Bl w w' := by
  obtain ⟨s, u⟩ := x
  obtain ⟨hs1, hs2⟩ := hs
  simp only at hs1 hs2
  have hb := (Bl.rfl' w).al (oH ⟨s, u⟩)
  have x0 := cell_at (heap_alloc_new w (oH ⟨s, u⟩)) 0
  have x1 := cell_at (heap_alloc_new w (oH ⟨s, u⟩)) 1
  simp only [List.getElem?_toArray, List.getElem?_cons_succ, List.getElem?_cons_zero] at x0 x1
  by_cases b1 : s.size < 1
  · have hf : (nameF s && valueF u) = false := by unfold nameF; rw [decide_eq_false (p := 1 ≤ s.size ∧ s.size ≤ 20) (by omega), Bool.and_false, Bool.false_and]
    have e1 : decide ((s.size : Int) < 1) = true := decide_eq_true (by omega)
    go_enter Try.func41, Try.ntmps41
    replace hf := Lib.hid hf
    replace hb := Lib.hid hb
    go_wp2_with fail
    go_ret
    exact ⟨by rw [show mayF ⟨s, u⟩ = (nameF s && valueF u) from rfl, hf.out]; rfl, hb.out⟩
  · have e1 : decide ((s.size : Int) < 1) = false := decide_eq_false (by omega)
    by_cases b2 : 20 < s.size
    · have hf : (nameF s && valueF u) = false := by unfold nameF; rw [decide_eq_false (p := 1 ≤ s.size ∧ s.size ≤ 20) (by omega), Bool.and_false, Bool.false_and]
      have e2 : decide ((s.size : Int) > 20) = true := decide_eq_true (by omega)
      go_enter Try.func41, Try.ntmps41
      replace hf := Lib.hid hf
      replace hb := Lib.hid hb
      go_wp2_with fail
      go_ret
      exact ⟨by rw [show mayF ⟨s, u⟩ = (nameF s && valueF u) from rfl, hf.out]; rfl, hb.out⟩
    · have e2 : decide ((s.size : Int) > 20) = false := decide_eq_false (by omega)
      by_cases b3 : 60 < u.size
      · have hf : (nameF s && valueF u) = false := by unfold valueF; rw [decide_eq_false (p := u.size ≤ 60) (by omega), Bool.and_false, Bool.and_false]
        have e3 : decide ((u.size : Int) > 60) = true := decide_eq_true (by omega)
        go_enter Try.func41, Try.ntmps41
        replace hf := Lib.hid hf
        replace hb := Lib.hid hb
        go_wp2_with fail
        go_ret
        exact ⟨by rw [show mayF ⟨s, u⟩ = (nameF s && valueF u) from rfl, hf.out]; rfl, hb.out⟩
      · have e3 : decide ((u.size : Int) > 60) = false := decide_eq_false (by omega)
        obtain ⟨W0, hW0⟩ : ∃ X, w.alloc (oH ⟨s, u⟩) = X := ⟨_, rfl⟩
        have hW0' : w.alloc (.cells #[.string s, .string u] 42) = W0 := hW0
        rw [hW0] at hb x0 x1
        clear hW0
        obtain ⟨y, hy⟩ : ∃ y, w.heap.size = y := ⟨_, rfl⟩
        rw [hy] at x0 x1
        replace hb := Lib.hid hb
        go_enter Try.func41, Try.ntmps41
        go_wp2_with fail
        go_loopw [3] (fun i wr => ∃ k : Nat, k ≤ s.size ∧ i = I k ∧ allB okN s k = true ∧ wr = W0) (fun i _ => s.size - (intOf i).toNat)
        case atStart => exact ⟨0, by omega, rfl, rfl, rfl⟩
        case round =>
          obtain ⟨k, hk, rfl, hall, rfl⟩ := hrel
          by_cases hlt : k < s.size
          · have hbt := (byte_at s k hlt).symm
            obtain ⟨c, hc⟩ : ∃ c : Int, ((s[k]'hlt).toNat : Int) = c := ⟨_, rfl⟩
            rw [hc] at hbt
            have c0 : 0 ≤ c := by omega
            have wk : IntKind.i64.wrap ((k : Int) + 1) = ((k + 1 : Nat) : Int) := by rw [IntKind.wrap_i64]; omega
            by_cases a1 : c < 97
            · by_cases a3 : c < 48
              · by_cases a5 : c = 45
                · have d1 : decide (c < 97) = true := by first | exact decide_eq_true (by omega) | exact decide_eq_false (by omega)
                  have d2 : decide (122 < c) = false := by first | exact decide_eq_true (by omega) | exact decide_eq_false (by omega)
                  have d3 : decide (c < 48) = true := by first | exact decide_eq_true (by omega) | exact decide_eq_false (by omega)
                  have d4 : decide (57 < c) = false := by first | exact decide_eq_true (by omega) | exact decide_eq_false (by omega)
                  have d5 : (c != 45) = false := by first | exact bne_iff_ne.2 (by omega) | (rw [show c = 45 by omega]; rfl)
                  have d6 : decide (c > 122) = false := d2
                  have d7 : decide (c > 57) = false := d4
                  have hst : allB okN s (k + 1) = true := by rw [allB, hall, hbt, show okN c = true from decide_eq_true (by omega)]; rfl
                  clear hall hbt
                  replace hst := Lib.hid hst
                  go_wp2_with fail
                  go_roundw
                  case rel => exact ⟨k + 1, by omega, by first | rfl | go_num, hst.out, trivial⟩
                  case measure => simp [intOf] <;> omega
                · have d1 : decide (c < 97) = true := by first | exact decide_eq_true (by omega) | exact decide_eq_false (by omega)
                  have d2 : decide (122 < c) = false := by first | exact decide_eq_true (by omega) | exact decide_eq_false (by omega)
                  have d3 : decide (c < 48) = true := by first | exact decide_eq_true (by omega) | exact decide_eq_false (by omega)
                  have d4 : decide (57 < c) = false := by first | exact decide_eq_true (by omega) | exact decide_eq_false (by omega)
                  have d5 : (c != 45) = true := by first | exact bne_iff_ne.2 (by omega) | (rw [show c = 45 by omega]; rfl)
                  have d6 : decide (c > 122) = false := d2
                  have d7 : decide (c > 57) = false := d4
                  have hst : (nameF s && valueF u) = false := by unfold nameF; rw [allB_less (k := k + 1) (by omega) (by rw [allB, hall, hbt, show okN c = false from decide_eq_false (by omega)]; rfl), Bool.false_and, Bool.false_and]
                  clear hall hbt
                  replace hst := Lib.hid hst
                  go_wp2_with fail
                  go_ret
                  exact ⟨by rw [show mayF ⟨s, u⟩ = (nameF s && valueF u) from rfl, hst.out]; rfl, hb.out⟩
              · by_cases a4 : 57 < c
                · have d1 : decide (c < 97) = true := by first | exact decide_eq_true (by omega) | exact decide_eq_false (by omega)
                  have d2 : decide (122 < c) = false := by first | exact decide_eq_true (by omega) | exact decide_eq_false (by omega)
                  have d3 : decide (c < 48) = false := by first | exact decide_eq_true (by omega) | exact decide_eq_false (by omega)
                  have d4 : decide (57 < c) = true := by first | exact decide_eq_true (by omega) | exact decide_eq_false (by omega)
                  have d5 : (c != 45) = true := by first | exact bne_iff_ne.2 (by omega) | (rw [show c = 45 by omega]; rfl)
                  have d6 : decide (c > 122) = false := d2
                  have d7 : decide (c > 57) = true := d4
                  have hst : (nameF s && valueF u) = false := by unfold nameF; rw [allB_less (k := k + 1) (by omega) (by rw [allB, hall, hbt, show okN c = false from decide_eq_false (by omega)]; rfl), Bool.false_and, Bool.false_and]
                  clear hall hbt
                  replace hst := Lib.hid hst
                  go_wp2_with fail
                  go_ret
                  exact ⟨by rw [show mayF ⟨s, u⟩ = (nameF s && valueF u) from rfl, hst.out]; rfl, hb.out⟩
                · have d1 : decide (c < 97) = true := by first | exact decide_eq_true (by omega) | exact decide_eq_false (by omega)
                  have d2 : decide (122 < c) = false := by first | exact decide_eq_true (by omega) | exact decide_eq_false (by omega)
                  have d3 : decide (c < 48) = false := by first | exact decide_eq_true (by omega) | exact decide_eq_false (by omega)
                  have d4 : decide (57 < c) = false := by first | exact decide_eq_true (by omega) | exact decide_eq_false (by omega)
                  have d5 : (c != 45) = true := by first | exact bne_iff_ne.2 (by omega) | (rw [show c = 45 by omega]; rfl)
                  have d6 : decide (c > 122) = false := d2
                  have d7 : decide (c > 57) = false := d4
                  have hst : allB okN s (k + 1) = true := by rw [allB, hall, hbt, show okN c = true from decide_eq_true (by omega)]; rfl
                  clear hall hbt
                  replace hst := Lib.hid hst
                  go_wp2_with fail
                  go_roundw
                  case rel => exact ⟨k + 1, by omega, by first | rfl | go_num, hst.out, trivial⟩
                  case measure => simp [intOf] <;> omega
            · by_cases a2 : 122 < c
              · have d1 : decide (c < 97) = false := by first | exact decide_eq_true (by omega) | exact decide_eq_false (by omega)
                have d2 : decide (122 < c) = true := by first | exact decide_eq_true (by omega) | exact decide_eq_false (by omega)
                have d3 : decide (c < 48) = false := by first | exact decide_eq_true (by omega) | exact decide_eq_false (by omega)
                have d4 : decide (57 < c) = true := by first | exact decide_eq_true (by omega) | exact decide_eq_false (by omega)
                have d5 : (c != 45) = true := by first | exact bne_iff_ne.2 (by omega) | (rw [show c = 45 by omega]; rfl)
                have d6 : decide (c > 122) = true := d2
                have d7 : decide (c > 57) = true := d4
                have hst : (nameF s && valueF u) = false := by unfold nameF; rw [allB_less (k := k + 1) (by omega) (by rw [allB, hall, hbt, show okN c = false from decide_eq_false (by omega)]; rfl), Bool.false_and, Bool.false_and]
                clear hall hbt
                replace hst := Lib.hid hst
                go_wp2_with fail
                go_ret
                exact ⟨by rw [show mayF ⟨s, u⟩ = (nameF s && valueF u) from rfl, hst.out]; rfl, hb.out⟩
              · have d1 : decide (c < 97) = false := by first | exact decide_eq_true (by omega) | exact decide_eq_false (by omega)
                have d2 : decide (122 < c) = false := by first | exact decide_eq_true (by omega) | exact decide_eq_false (by omega)
                have d3 : decide (c < 48) = false := by first | exact decide_eq_true (by omega) | exact decide_eq_false (by omega)
                have d4 : decide (57 < c) = true := by first | exact decide_eq_true (by omega) | exact decide_eq_false (by omega)
                have d5 : (c != 45) = true := by first | exact bne_iff_ne.2 (by omega) | (rw [show c = 45 by omega]; rfl)
                have d6 : decide (c > 122) = false := d2
                have d7 : decide (c > 57) = true := d4
                have hst : allB okN s (k + 1) = true := by rw [allB, hall, hbt, show okN c = true from decide_eq_true (by omega)]; rfl
                clear hall hbt
                replace hst := Lib.hid hst
                go_wp2_with fail
                go_roundw
                case rel => exact ⟨k + 1, by omega, by first | rfl | go_num, hst.out, trivial⟩
                case measure => simp [intOf] <;> omega
          · obtain rfl : k = s.size := by omega
            have hnm : nameF s = true := by unfold nameF; rw [hall, decide_eq_true (p := 1 ≤ s.size ∧ s.size ≤ 20) (by omega)]; rfl
            clear hall
            replace hnm := Lib.hid hnm
            go_wp2_with fail
            go_loopw [5] (fun i wq => ∃ k : Nat, k ≤ u.size ∧ i = I k ∧ allB okV u k = true ∧ wq = wr) (fun i _ => u.size - (intOf i).toNat)
            case atStart => exact ⟨0, by omega, rfl, rfl, rfl⟩
            case round =>
              obtain ⟨k, hk, rfl, hall, rfl⟩ := hrel
              by_cases hlt : k < u.size
              · have hbt := (byte_at u k hlt).symm
                obtain ⟨c, hc⟩ : ∃ c : Int, ((u[k]'hlt).toNat : Int) = c := ⟨_, rfl⟩
                rw [hc] at hbt
                have c0 : 0 ≤ c := by omega
                have wk : IntKind.i64.wrap ((k : Int) + 1) = ((k + 1 : Nat) : Int) := by rw [IntKind.wrap_i64]; omega
                by_cases a1 : c < 32
                · have d1 : decide (c < 32) = true := by first | exact decide_eq_true (by omega) | exact decide_eq_false (by omega)
                  have d2 : decide (126 < c) = false := by first | exact decide_eq_true (by omega) | exact decide_eq_false (by omega)
                  have d6 : decide (c > 126) = false := d2
                  have hst : valueF u = false := by unfold valueF; rw [allB_less (k := k + 1) (by omega) (by rw [allB, hall, hbt, show okV c = false from decide_eq_false (by omega)]; rfl), Bool.false_and]
                  clear hall hbt
                  replace hst := Lib.hid hst
                  go_wp2_with fail
                  go_ret
                  exact ⟨by rw [show mayF ⟨s, u⟩ = (nameF s && valueF u) from rfl, hst.out, Bool.and_false]; rfl, hb.out⟩
                · by_cases a2 : 126 < c
                  · have d1 : decide (c < 32) = false := by first | exact decide_eq_true (by omega) | exact decide_eq_false (by omega)
                    have d2 : decide (126 < c) = true := by first | exact decide_eq_true (by omega) | exact decide_eq_false (by omega)
                    have d6 : decide (c > 126) = true := d2
                    have hst : valueF u = false := by unfold valueF; rw [allB_less (k := k + 1) (by omega) (by rw [allB, hall, hbt, show okV c = false from decide_eq_false (by omega)]; rfl), Bool.false_and]
                    clear hall hbt
                    replace hst := Lib.hid hst
                    go_wp2_with fail
                    go_ret
                    exact ⟨by rw [show mayF ⟨s, u⟩ = (nameF s && valueF u) from rfl, hst.out, Bool.and_false]; rfl, hb.out⟩
                  · have d1 : decide (c < 32) = false := by first | exact decide_eq_true (by omega) | exact decide_eq_false (by omega)
                    have d2 : decide (126 < c) = false := by first | exact decide_eq_true (by omega) | exact decide_eq_false (by omega)
                    have d6 : decide (c > 126) = false := d2
                    have hst : allB okV u (k + 1) = true := by rw [allB, hall, hbt, show okV c = true from decide_eq_true (by omega)]; rfl
                    clear hall hbt
                    replace hst := Lib.hid hst
                    go_wp2_with fail
                    go_roundw
                    case rel => exact ⟨k + 1, by omega, by first | rfl | go_num, hst.out, trivial⟩
                    case measure => simp [intOf] <;> omega
              · obtain rfl : k = u.size := by omega
                have hvl : valueF u = true := by unfold valueF; rw [hall, decide_eq_true (p := u.size ≤ 60) (by omega)]; rfl
                clear hall
                replace hvl := Lib.hid hvl
                go_wp2_with fail
                go_ret
                exact ⟨by rw [show mayF ⟨s, u⟩ = (nameF s && valueF u) from rfl, hnm.out, hvl.out]; rfl, hb.out⟩

theorem getV_is (A : List Hd) (s : ByteArray) : (getH A s = none ∧ getV A s = .tuple #[S ByteArray.empty, .bool false]) ∨ ∃ z, getH A s = some z ∧ getV A s = .tuple #[S z.v, .bool true] := by
  unfold getV
  cases h : getH A s with
  | none => exact Or.inl ⟨rfl, rfl⟩
  | some z => exact Or.inr ⟨z, rfl, rfl⟩
set_option maxRecDepth 20000 in
set_option maxHeartbeats 4000000 in
theorem rcheck_any (v : Value) (A : List Hd) (w : World) (hw : HeadsAt w v A) (hl : A.length ≤ 1000) (hf : Fit A) :
    Calls Try.prog 30 #[v] w fun e w' => e = .returned (E (checkF A)) ∧ Bl w w' := by
  obtain ⟨a, g, o, cap, rfl, h1, h2, hr⟩ := hw
  have RC := Lib.hid (fun w' (hb : Bl w w') i hi => (hr.bl hb).c hB_len h0 i hi)
  have PL := Lib.hid (fun w' (hb : Bl w w') k (hk : k ≤ A.length) s => rget_any (.slice a k cap) (A.take k) s w' ⟨a, g, o, cap, by rw [List.length_take, Nat.min_eq_left hk], by rw [List.length_take]; omega, h2, RowB_take (hr.bl hb) k⟩ (by rw [List.length_take]; omega))
  have MY := Lib.hid (fun x w h => rmay_any x w h)
  have ff := fun k (hk : k < A.length) => hf (A.getD k h0) (by rw [List.getD_eq_getElem?_getD, List.getElem?_eq_getElem hk]; exact List.getElem_mem _)
  have cb := fun h8 k hk x y => check_bad (A := A) (k := k) h8 hk x y
  have ct := fun h8 k hk x y z => check_twice (A := A) (k := k) h8 hk x y z
  have cn := fun k x y z => check_next (A := A) (k := k) x y z
  have cd := fun h8 x => check_done (A := A) h8 x
  by_cases h8 : 8 < A.length
  · have hc := check_long h8
    rw [hc]
    have d1 : decide ((A.length : Int) > 8) = true := decide_eq_true (by omega)
    clear hc cb ct cn cd
    go_enter Try.func30, Try.ntmps30
    go_wp2_with fail
    go_ret
    exact ⟨rfl, Bl.rfl' _⟩
  · have h8' : A.length ≤ 8 := by omega
    have d1 : decide ((A.length : Int) > 8) = false := decide_eq_false (by omega)
    replace cb := cb h8'; replace ct := ct h8'; replace cd := cd h8'
    have hch0 : chkF A 0 = none := rfl
    obtain ⟨C, hC⟩ : ∃ z_, (chkF A) = z_ := ⟨_, rfl⟩
    have hC' : ∀ k, chkF A k = C k := fun k => congrFun hC k
    simp only [hC'] at cb ct cn cd hch0
    obtain ⟨r, hrr⟩ : ∃ z_, (checkF A) = z_ := ⟨_, rfl⟩
    rw [hrr] at cb ct cd ⊢
    clear hC hC' hrr hf hr
    replace cb := Lib.hid cb
    replace ct := Lib.hid ct
    replace cn := Lib.hid cn
    replace cd := Lib.hid cd
    replace hch0 := Lib.hid hch0
    replace ff := Lib.hid ff
    go_enter Try.func30, Try.ntmps30
    go_wp2_with fail
    go_loopw [3] (fun i wr => ∃ k : Nat, k ≤ A.length ∧ i = I k ∧ C k = none ∧ Bl w wr) (fun i _ => A.length - (intOf i).toNat)
    case atStart => exact ⟨0, by omega, rfl, hch0.out, Bl.rfl' _⟩
    case round =>
      obtain ⟨k, hk, rfl, hck, hbr⟩ := hrel
      by_cases hlt : k < A.length
      · obtain ⟨ha, hcc⟩ := RC.out _ hbr k hlt
        subst ha
        have c0 := hcc 0 (by decide)
        have c1 := hcc 1 (by decide)
        simp only [List.getElem?_cons_succ, List.getElem?_cons_zero, Nat.add_zero, ← Nat.add_assoc] at c0 c1
        have fk := ff.out k hlt
        have xb := cb.out k hlt hck
        have xt := ct.out k hlt hck
        have xn := cn.out k hck
        have P := fun w' hb => PL.out w' hb k (by omega) (A.getD k h0).n
        have ig := getV_is (A.take k) (A.getD k h0).n
        obtain ⟨x, hx⟩ : ∃ z_, (A.getD k h0) = z_ := ⟨_, rfl⟩
        rw [hx] at c0 c1 fk xb xt xn ig
        simp only [hx] at P
        have M := MY.out x wr fk
        obtain ⟨n, u⟩ := x
        simp only at c0 c1 fk xt xn ig P
        obtain ⟨b, hbb⟩ : ∃ z_, (mayF ⟨n, u⟩) = z_ := ⟨_, rfl⟩
        rw [hbb] at xb xt xn M
        have wk : IntKind.i64.wrap ((k : Int) + 1) = ((k + 1 : Nat) : Int) := by rw [IntKind.wrap_i64]; omega
        have hkc : k ≤ cap := by omega
        clear hcc hbb hck fk
        replace xb := Lib.hid xb
        replace xt := Lib.hid xt
        replace xn := Lib.hid xn
        replace hbr := Lib.hid hbr
        replace M := Lib.hid M
        replace P := Lib.hid P
        replace ig := Lib.hid ig
        replace hx := Lib.hid hx
        go_wp2_with fail
        with_reducible refine (M.out).mono ?_
        rintro e w2 ⟨rfl, hn⟩
        have hbw := hbr.out.tr hn
        clear hn M
        cases b with
        | false =>
          have hy := xb.out (by first | rfl | simp)
          replace hy := Lib.hid hy
          replace hbw := Lib.hid hbw
          go_wp2_with fail
          go_ret
          exact ⟨by rw [hy.out]; rfl, hbw.out⟩
        | true =>
          replace xt := xt.out (by first | rfl | simp)
          replace xn := xn.out (by first | rfl | simp)
          clear xb c0 c1
          rcases ig.out with ⟨hi, hg⟩ | ⟨z, hi, hg⟩
          · have PD := P.out
            rw [hg] at PD
            rw [hi] at xn
            have hy := xn rfl
            clear hi hg xt P ig xn
            replace hbw := Lib.hid hbw
            replace PD := Lib.hid PD
            replace hy := Lib.hid hy
            go_wp2_with fail
            have hbD := hbw.out.dr
            have cD := RC.out _ hbD k hlt
            have cE := cD.2 0 (by decide)
            simp only [List.getElem?_cons_zero, Nat.add_zero] at cE
            rw [hx.out] at cE
            simp only at cE
            clear cD
            replace hbD := Lib.hid hbD
            refine wp_region_held_drew (S := fun w' => w'.cell? ⟨g, o + k * 2, none⟩ = some (S n)) (by kernel_rfl) ?_ (fun hHeld => ?_)
            · exact cE
            refine wpAnyH_take (i := 0) (v := ?v0_1) rfl (by kernel_rfl) (by kernel_rfl) (by kernel_rfl) (fun _ _ _ h => h) (Or.inl ⟨by rfl, ?y0_1⟩) hHeld ?r0_1
            case y0_1 => (intro w hSw; (try dsimp only at hSw); go_split_ands; go_simp; try with_reducible rfl)
            try simp only [List.getElem_toArray, List.getElem_cons_succ, List.getElem_cons_zero, Act.put, List.setIfInBounds_toArray, List.set_cons_zero, List.set_cons_succ]
            refine wpAnyH_take (i := 1) (v := ?v1_2) rfl (by kernel_rfl) (by kernel_rfl) (by kernel_rfl) (fun _ _ _ h => h) (Or.inl ⟨by rfl, ?y1_2⟩) hHeld ?r1_2
            case y1_2 => (intro w hSw; (try dsimp only at hSw); go_split_ands; go_simp; try with_reducible rfl)
            try simp only [List.getElem_toArray, List.getElem_cons_succ, List.getElem_cons_zero, Act.put, List.setIfInBounds_toArray, List.set_cons_zero, List.set_cons_succ]
            refine wpAnyH_take (i := 2) (v := ?v2_3) rfl (by kernel_rfl) (by kernel_rfl) (by kernel_rfl) (fun _ _ _ h => h) (Or.inl ⟨by rfl, ?y2_3⟩) hHeld ?r2_3
            case y2_3 => (intro w hSw; (try dsimp only at hSw); go_split_ands; go_simp; try with_reducible rfl)
            try simp only [List.getElem_toArray, List.getElem_cons_succ, List.getElem_cons_zero, Act.put, List.setIfInBounds_toArray, List.set_cons_zero, List.set_cons_succ]
            refine wpAnyH_take (i := 3) (v := ?v3_4) rfl (by kernel_rfl) (by kernel_rfl) (by kernel_rfl) (fun _ _ _ h => h) (Or.inl ⟨by rfl, ?y3_4⟩) hHeld ?r3_4
            case y3_4 => (intro w hSw; (try dsimp only at hSw); go_split_ands; go_simp; try with_reducible rfl)
            try simp only [List.getElem_toArray, List.getElem_cons_succ, List.getElem_cons_zero, Act.put, List.setIfInBounds_toArray, List.set_cons_zero, List.set_cons_succ]
            refine wpAnyH_take (i := 4) (v := ?v4_5) rfl (by kernel_rfl) (by kernel_rfl) (by kernel_rfl) (fun _ _ _ h => h) (Or.inl ⟨by rfl, ?y4_5⟩) hHeld ?r4_5
            case y4_5 => (intro w hSw; (try dsimp only at hSw); go_split_ands; go_simp; try with_reducible rfl)
            try simp only [List.getElem_toArray, List.getElem_cons_succ, List.getElem_cons_zero, Act.put, List.setIfInBounds_toArray, List.set_cons_zero, List.set_cons_succ]
            refine wpAnyH_take (i := 5) (v := ?v5_6) rfl (by kernel_rfl) (by kernel_rfl) (by kernel_rfl) (fun _ _ _ h => h) (Or.inl ⟨by rfl, ?y5_6⟩) hHeld ?r5_6
            case y5_6 => (intro w hSw; (try dsimp only at hSw); go_split_ands; go_simp; try with_reducible rfl)
            try simp only [List.getElem_toArray, List.getElem_cons_succ, List.getElem_cons_zero, Act.put, List.setIfInBounds_toArray, List.set_cons_zero, List.set_cons_succ]
            refine wpAnyH_take (i := 6) (v := ?v6_7) rfl (by kernel_rfl) (by kernel_rfl) (by kernel_rfl) (fun _ _ _ h => h) (Or.inl ⟨by rfl, ?y6_7⟩) hHeld ?r6_7
            case y6_7 => (intro w hSw; (try dsimp only at hSw); go_split_ands; go_simp; try with_reducible rfl)
            try simp only [List.getElem_toArray, List.getElem_cons_succ, List.getElem_cons_zero, Act.put, List.setIfInBounds_toArray, List.set_cons_zero, List.set_cons_succ]
            refine wpAnyH_take (i := 7) (v := ?v7_8) rfl (by kernel_rfl) (by kernel_rfl) (by kernel_rfl) (fun _ _ _ h => h) (Or.inl ⟨by rfl, ?y7_8⟩) hHeld ?r7_8
            case y7_8 => (intro w hSw; (try dsimp only at hSw); go_split_ands; go_simp; try with_reducible rfl)
            try simp only [List.getElem_toArray, List.getElem_cons_succ, List.getElem_cons_zero, Act.put, List.setIfInBounds_toArray, List.set_cons_zero, List.set_cons_succ]
            refine wpAnyH_ready (rs := [8]) (by kernel_rfl) (by simp) ?_
            refine AllReadyH.cons rfl (fun K hK => ?_) AllReadyH.nil
            have hHeld' := hHeld
            try dsimp only at hHeld'
            go_split_ands
            go_simp
            refine (PD.out _ hbD.out).mono ?_
            rintro e w' ⟨rfl, rfl⟩
            refine hK.out _ _ ?_ (fun hHeld => ?_)
            · exact cE
            clear hK K
            try simp only [List.getElem_toArray, List.getElem_cons_succ, List.getElem_cons_zero, Act.put, List.setIfInBounds_toArray, List.set_cons_zero, List.set_cons_succ]
            refine wpAnyH_take (i := 9) (v := ?v9_9) rfl (by kernel_rfl) (by kernel_rfl) (by kernel_rfl) (fun _ _ _ h => h) (Or.inl ⟨by rfl, ?y9_9⟩) hHeld ?r9_9
            case y9_9 => (intro w hSw; (try dsimp only at hSw); go_split_ands; go_simp; try with_reducible rfl)
            try simp only [List.getElem_toArray, List.getElem_cons_succ, List.getElem_cons_zero, Act.put, List.setIfInBounds_toArray, List.set_cons_zero, List.set_cons_succ]
            refine wpAnyH_take (i := 10) (v := ?v10_10) rfl (by kernel_rfl) (by kernel_rfl) (by kernel_rfl) (fun _ _ _ h => h) (Or.inl ⟨by rfl, ?y10_10⟩) hHeld ?r10_10
            case y10_10 => (intro w hSw; (try dsimp only at hSw); go_split_ands; go_simp; try with_reducible rfl)
            try simp only [List.getElem_toArray, List.getElem_cons_succ, List.getElem_cons_zero, Act.put, List.setIfInBounds_toArray, List.set_cons_zero, List.set_cons_succ]
            refine wpAnyH_take (i := 11) (v := ?v11_11) rfl (by kernel_rfl) (by kernel_rfl) (by kernel_rfl) (fun _ _ _ h => h) (Or.inl ⟨by rfl, ?y11_11⟩) hHeld ?r11_11
            case y11_11 => (intro w hSw; (try dsimp only at hSw); go_split_ands; go_simp; try with_reducible rfl)
            try simp only [List.getElem_toArray, List.getElem_cons_succ, List.getElem_cons_zero, Act.put, List.setIfInBounds_toArray, List.set_cons_zero, List.set_cons_succ]
            refine wpAnyH_take (i := 12) (v := ?v12_12) rfl (by kernel_rfl) (by kernel_rfl) (by kernel_rfl) (fun _ _ _ h => h) (Or.inl ⟨by rfl, ?y12_12⟩) hHeld ?r12_12
            case y12_12 => (intro w hSw; (try dsimp only at hSw); go_split_ands; go_simp; try with_reducible rfl)
            try simp only [List.getElem_toArray, List.getElem_cons_succ, List.getElem_cons_zero, Act.put, List.setIfInBounds_toArray, List.set_cons_zero, List.set_cons_succ]
            refine wpAnyH_take (i := 13) (v := ?v13_13) rfl (by kernel_rfl) (by kernel_rfl) (by kernel_rfl) (fun _ _ _ h => h) (Or.inl ⟨by rfl, ?y13_13⟩) hHeld ?r13_13
            case y13_13 => (intro w hSw; (try dsimp only at hSw); go_split_ands; go_simp; try with_reducible rfl)
            try simp only [List.getElem_toArray, List.getElem_cons_succ, List.getElem_cons_zero, Act.put, List.setIfInBounds_toArray, List.set_cons_zero, List.set_cons_succ]
            refine wpAnyH_done (by kernel_rfl) ?_ _
            clear cE
            go_wp2_with fail
            go_roundw
            case rel => exact ⟨k + 1, by omega, by first | rfl | go_num, hy.out, hbD.out⟩
            case measure => simp [intOf] <;> omega
          · have PD := P.out
            rw [hg] at PD
            rw [hi] at xt
            have hy := xt rfl
            clear hi hg xn P ig xt
            replace hbw := Lib.hid hbw
            replace PD := Lib.hid PD
            replace hy := Lib.hid hy
            go_wp2_with fail
            have hbD := hbw.out.dr
            have cD := RC.out _ hbD k hlt
            have cE := cD.2 0 (by decide)
            simp only [List.getElem?_cons_zero, Nat.add_zero] at cE
            rw [hx.out] at cE
            simp only at cE
            clear cD
            replace hbD := Lib.hid hbD
            refine wp_region_held_drew (S := fun w' => w'.cell? ⟨g, o + k * 2, none⟩ = some (S n)) (by kernel_rfl) ?_ (fun hHeld => ?_)
            · exact cE
            refine wpAnyH_take (i := 0) (v := ?v0_14) rfl (by kernel_rfl) (by kernel_rfl) (by kernel_rfl) (fun _ _ _ h => h) (Or.inl ⟨by rfl, ?y0_14⟩) hHeld ?r0_14
            case y0_14 => (intro w hSw; (try dsimp only at hSw); go_split_ands; go_simp; try with_reducible rfl)
            try simp only [List.getElem_toArray, List.getElem_cons_succ, List.getElem_cons_zero, Act.put, List.setIfInBounds_toArray, List.set_cons_zero, List.set_cons_succ]
            refine wpAnyH_take (i := 1) (v := ?v1_15) rfl (by kernel_rfl) (by kernel_rfl) (by kernel_rfl) (fun _ _ _ h => h) (Or.inl ⟨by rfl, ?y1_15⟩) hHeld ?r1_15
            case y1_15 => (intro w hSw; (try dsimp only at hSw); go_split_ands; go_simp; try with_reducible rfl)
            try simp only [List.getElem_toArray, List.getElem_cons_succ, List.getElem_cons_zero, Act.put, List.setIfInBounds_toArray, List.set_cons_zero, List.set_cons_succ]
            refine wpAnyH_take (i := 2) (v := ?v2_16) rfl (by kernel_rfl) (by kernel_rfl) (by kernel_rfl) (fun _ _ _ h => h) (Or.inl ⟨by rfl, ?y2_16⟩) hHeld ?r2_16
            case y2_16 => (intro w hSw; (try dsimp only at hSw); go_split_ands; go_simp; try with_reducible rfl)
            try simp only [List.getElem_toArray, List.getElem_cons_succ, List.getElem_cons_zero, Act.put, List.setIfInBounds_toArray, List.set_cons_zero, List.set_cons_succ]
            refine wpAnyH_take (i := 3) (v := ?v3_17) rfl (by kernel_rfl) (by kernel_rfl) (by kernel_rfl) (fun _ _ _ h => h) (Or.inl ⟨by rfl, ?y3_17⟩) hHeld ?r3_17
            case y3_17 => (intro w hSw; (try dsimp only at hSw); go_split_ands; go_simp; try with_reducible rfl)
            try simp only [List.getElem_toArray, List.getElem_cons_succ, List.getElem_cons_zero, Act.put, List.setIfInBounds_toArray, List.set_cons_zero, List.set_cons_succ]
            refine wpAnyH_take (i := 4) (v := ?v4_18) rfl (by kernel_rfl) (by kernel_rfl) (by kernel_rfl) (fun _ _ _ h => h) (Or.inl ⟨by rfl, ?y4_18⟩) hHeld ?r4_18
            case y4_18 => (intro w hSw; (try dsimp only at hSw); go_split_ands; go_simp; try with_reducible rfl)
            try simp only [List.getElem_toArray, List.getElem_cons_succ, List.getElem_cons_zero, Act.put, List.setIfInBounds_toArray, List.set_cons_zero, List.set_cons_succ]
            refine wpAnyH_take (i := 5) (v := ?v5_19) rfl (by kernel_rfl) (by kernel_rfl) (by kernel_rfl) (fun _ _ _ h => h) (Or.inl ⟨by rfl, ?y5_19⟩) hHeld ?r5_19
            case y5_19 => (intro w hSw; (try dsimp only at hSw); go_split_ands; go_simp; try with_reducible rfl)
            try simp only [List.getElem_toArray, List.getElem_cons_succ, List.getElem_cons_zero, Act.put, List.setIfInBounds_toArray, List.set_cons_zero, List.set_cons_succ]
            refine wpAnyH_take (i := 6) (v := ?v6_20) rfl (by kernel_rfl) (by kernel_rfl) (by kernel_rfl) (fun _ _ _ h => h) (Or.inl ⟨by rfl, ?y6_20⟩) hHeld ?r6_20
            case y6_20 => (intro w hSw; (try dsimp only at hSw); go_split_ands; go_simp; try with_reducible rfl)
            try simp only [List.getElem_toArray, List.getElem_cons_succ, List.getElem_cons_zero, Act.put, List.setIfInBounds_toArray, List.set_cons_zero, List.set_cons_succ]
            refine wpAnyH_take (i := 7) (v := ?v7_21) rfl (by kernel_rfl) (by kernel_rfl) (by kernel_rfl) (fun _ _ _ h => h) (Or.inl ⟨by rfl, ?y7_21⟩) hHeld ?r7_21
            case y7_21 => (intro w hSw; (try dsimp only at hSw); go_split_ands; go_simp; try with_reducible rfl)
            try simp only [List.getElem_toArray, List.getElem_cons_succ, List.getElem_cons_zero, Act.put, List.setIfInBounds_toArray, List.set_cons_zero, List.set_cons_succ]
            refine wpAnyH_ready (rs := [8]) (by kernel_rfl) (by simp) ?_
            refine AllReadyH.cons rfl (fun K hK => ?_) AllReadyH.nil
            have hHeld' := hHeld
            try dsimp only at hHeld'
            go_split_ands
            go_simp
            refine (PD.out _ hbD.out).mono ?_
            rintro e w' ⟨rfl, rfl⟩
            refine hK.out _ _ ?_ (fun hHeld => ?_)
            · exact cE
            clear hK K
            try simp only [List.getElem_toArray, List.getElem_cons_succ, List.getElem_cons_zero, Act.put, List.setIfInBounds_toArray, List.set_cons_zero, List.set_cons_succ]
            refine wpAnyH_take (i := 9) (v := ?v9_22) rfl (by kernel_rfl) (by kernel_rfl) (by kernel_rfl) (fun _ _ _ h => h) (Or.inl ⟨by rfl, ?y9_22⟩) hHeld ?r9_22
            case y9_22 => (intro w hSw; (try dsimp only at hSw); go_split_ands; go_simp; try with_reducible rfl)
            try simp only [List.getElem_toArray, List.getElem_cons_succ, List.getElem_cons_zero, Act.put, List.setIfInBounds_toArray, List.set_cons_zero, List.set_cons_succ]
            refine wpAnyH_take (i := 10) (v := ?v10_23) rfl (by kernel_rfl) (by kernel_rfl) (by kernel_rfl) (fun _ _ _ h => h) (Or.inl ⟨by rfl, ?y10_23⟩) hHeld ?r10_23
            case y10_23 => (intro w hSw; (try dsimp only at hSw); go_split_ands; go_simp; try with_reducible rfl)
            try simp only [List.getElem_toArray, List.getElem_cons_succ, List.getElem_cons_zero, Act.put, List.setIfInBounds_toArray, List.set_cons_zero, List.set_cons_succ]
            refine wpAnyH_take (i := 11) (v := ?v11_24) rfl (by kernel_rfl) (by kernel_rfl) (by kernel_rfl) (fun _ _ _ h => h) (Or.inl ⟨by rfl, ?y11_24⟩) hHeld ?r11_24
            case y11_24 => (intro w hSw; (try dsimp only at hSw); go_split_ands; go_simp; try with_reducible rfl)
            try simp only [List.getElem_toArray, List.getElem_cons_succ, List.getElem_cons_zero, Act.put, List.setIfInBounds_toArray, List.set_cons_zero, List.set_cons_succ]
            refine wpAnyH_take (i := 12) (v := ?v12_25) rfl (by kernel_rfl) (by kernel_rfl) (by kernel_rfl) (fun _ _ _ h => h) (Or.inl ⟨by rfl, ?y12_25⟩) hHeld ?r12_25
            case y12_25 => (intro w hSw; (try dsimp only at hSw); go_split_ands; go_simp; try with_reducible rfl)
            try simp only [List.getElem_toArray, List.getElem_cons_succ, List.getElem_cons_zero, Act.put, List.setIfInBounds_toArray, List.set_cons_zero, List.set_cons_succ]
            refine wpAnyH_take (i := 13) (v := ?v13_26) rfl (by kernel_rfl) (by kernel_rfl) (by kernel_rfl) (fun _ _ _ h => h) (Or.inl ⟨by rfl, ?y13_26⟩) hHeld ?r13_26
            case y13_26 => (intro w hSw; (try dsimp only at hSw); go_split_ands; go_simp; try with_reducible rfl)
            try simp only [List.getElem_toArray, List.getElem_cons_succ, List.getElem_cons_zero, Act.put, List.setIfInBounds_toArray, List.set_cons_zero, List.set_cons_succ]
            refine wpAnyH_done (by kernel_rfl) ?_ _
            clear cE
            go_wp2_with fail
            go_ret
            exact ⟨by rw [hy.out]; rfl, hbD.out⟩
      · obtain rfl : k = A.length := by omega
        have hy := cd.out hck
        replace hy := Lib.hid hy
        replace hbr := Lib.hid hbr
        clear hck
        go_wp2_with fail
        go_ret
        exact ⟨by rw [hy.out]; rfl, hbr.out⟩
end Go.Proofs.Ytpdcadlgdpkkoaa.heads
