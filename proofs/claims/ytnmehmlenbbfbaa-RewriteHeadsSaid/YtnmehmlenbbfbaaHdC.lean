/-
  Package heads: Check.
-/
import Derived.Test.YtnmehmlenbbfbaaHdB
namespace Go.Proofs.Ytnmehmlenbbfbaa.heads
open Go.ChangeShapes Go.WideShapes Go.ChangeAt Go.RowKit Go.Shelf Go.Lib
set_option linter.unusedVariables false
set_option linter.unusedSimpArgs false

theorem RowB_take {w : World} {g o : Nat} {a : Option Addr} {A : List Hd} (h : RowB hB 2 w g o a A) (k : Nat) : RowB hB 2 w g o a (A.take k) := fun hl => by
  rw [List.length_take] at hl
  obtain ⟨h1, cur, T, h2, h3⟩ := h (by omega)
  refine ⟨h1, cur, T, h2, fun j hj => ?_⟩
  rw [List.length_take] at hj
  have hj2 : j < A.length * 2 := by omega
  rw [h3 j hj2]
  have e : flatB hB A = flatB hB (A.take k) ++ flatB hB (A.drop k) := by rw [← flatB_app, List.take_append_drop]
  rw [e, List.getElem?_append_left (by rw [flatB_len hB_len, List.length_take]; exact hj)]
theorem heads_own {w : World} {b : Nat} {v : Value} {A : List Hd} (h : OwnB hB 2 49 w b v A) : HeadsAt w v A := by
  have hn : ∀ a n c, v = .slice a n c → a = none → c = 0 := fun a n c hv ha => by
    subst ha
    rcases h.2 with ⟨h1, -⟩ | ⟨g, cap, cur, h1, -⟩
    · rw [h1] at hv; simp at hv; exact hv.2.symm
    · rw [h1] at hv; simp at hv
  obtain ⟨a, g, cap, rfl, h1, h2, h3, h4⟩ := OwnB.row h (by decide)
  exact ⟨a, g, 0, cap, rfl, h2, ⟨h3, hn _ _ _ rfl⟩, h4⟩

def mayF (x : Hd) : Bool := nameF x.n && valueF x.v
def chkF (A : List Hd) : Nat → Option Int
  | 0 => none
  | k + 1 => match chkF A k with
    | some e => some e
    | none => if mayF (A.getD k h0) = false then some 11 else if (getH (A.take k) (A.getD k h0).n).isSome then some 5 else none
def checkF (A : List Hd) : Int := if 8 < A.length then 2 else (chkF A A.length).getD 0
theorem chk_stays {A : List Hd} {e : Int} : ∀ {k n : Nat}, k ≤ n → chkF A k = some e → chkF A n = some e
  | k, 0, h, hk => by obtain rfl : k = 0 := by omega
                      exact hk
  | k, n + 1, h, hk => by
    by_cases hkn : k = n + 1
    · subst hkn; exact hk
    · rw [chkF, chk_stays (k := k) (n := n) (by omega) hk]
theorem check_bad {A : List Hd} {k : Nat} (h8 : A.length ≤ 8) (hk : k < A.length) (h0' : chkF A k = none) (hm : mayF (A.getD k h0) = false) : checkF A = 11 := by
  unfold checkF
  rw [if_neg (by omega), chk_stays (k := k + 1) (by omega) (by rw [chkF, h0']; simp only; rw [if_pos hm] : chkF A (k + 1) = some 11)]
  rfl
theorem check_twice {A : List Hd} {k : Nat} (h8 : A.length ≤ 8) (hk : k < A.length) (h0' : chkF A k = none) (hm : mayF (A.getD k h0) = true) (hg : (getH (A.take k) (A.getD k h0).n).isSome = true) : checkF A = 5 := by
  unfold checkF
  rw [if_neg (by omega), chk_stays (k := k + 1) (by omega) (by rw [chkF, h0']; simp only; rw [if_neg (by rw [hm]; simp), if_pos hg] : chkF A (k + 1) = some 5)]
  rfl
theorem check_next {A : List Hd} {k : Nat} (h0' : chkF A k = none) (hm : mayF (A.getD k h0) = true) (hg : (getH (A.take k) (A.getD k h0).n).isSome = false) : chkF A (k + 1) = none := by
  rw [chkF, h0']
  simp only
  rw [if_neg (by rw [hm]; simp), if_neg (by rw [hg]; simp)]
theorem check_done {A : List Hd} (h8 : A.length ≤ 8) (h0' : chkF A A.length = none) : checkF A = 0 := by
  unfold checkF
  rw [if_neg (by omega), h0']
  rfl
theorem check_long {A : List Hd} (h8 : 8 < A.length) : checkF A = 2 := by
  unfold checkF
  rw [if_pos h8]

/-- Heads whose texts are short enough to be read. -/
def Fit (A : List Hd) : Prop := ∀ x ∈ A, x.n.size ≤ 9223372036854775807 ∧ x.v.size ≤ 9223372036854775807
abbrev E (n : Int) : Value := .int .i64 n
set_option maxRecDepth 20000 in
set_option maxHeartbeats 4000000 in
theorem check_any (v : Value) (A : List Hd) (w : World) (hv : HeadsAt w v A) (hl : A.length ≤ 1000) (hf : Fit A) :
    Calls Try.prog 25 #[v] w fun e w' => e = .returned (E (checkF A)) ∧ Bl w w' := by
  obtain ⟨a, g, o, cap, rfl, h1, h2, hr⟩ := hv
  have RC := Lib.hid (fun w' (hb : Bl w w') i hi => (hr.bl hb).c hB_len h0 i hi)
  have PL := Lib.hid (fun w' (hb : Bl w w') k (hk : k ≤ A.length) s => place_any (.slice a k cap) (A.take k) s w' ⟨a, g, o, cap, by rw [List.length_take, Nat.min_eq_left hk], by rw [List.length_take]; omega, h2, RowB_take (hr.bl hb) k⟩ (by rw [List.length_take]; omega))
  have NM := Lib.hid (fun s w h => name_any s w h)
  have VL := Lib.hid (fun s w h => value_any s w h)
  have ff := fun k (hk : k < A.length) => hf (A.getD k h0) (by rw [List.getD_eq_getElem?_getD, List.getElem?_eq_getElem hk]; exact List.getElem_mem _)
  have cb := fun h8 k hk x y => check_bad (A := A) (k := k) h8 hk x y
  have ct := fun h8 k hk x y z => check_twice (A := A) (k := k) h8 hk x y z
  have cn := fun k x y z => check_next (A := A) (k := k) x y z
  have cd := fun h8 x => check_done (A := A) h8 x
  by_cases h8 : 8 < A.length
  · have hc := check_long h8
    rw [hc]
    have d1 : decide ((A.length : Int) > 8) = true := decide_eq_true (by omega)
    clear hc cb ct cn cd
    go_enter Try.func25, Try.ntmps25
    go_wp2_with fail
    go_ret
    exact ⟨rfl, Bl.rfl' _⟩
  · have h8' : A.length ≤ 8 := by omega
    have d1 : decide ((A.length : Int) > 8) = false := decide_eq_false (by omega)
    replace cb := cb h8'; replace ct := ct h8'; replace cd := cd h8'
    have hch0 : chkF A 0 = none := rfl
    obtain ⟨C, hC⟩ : ∃ z_, (chkF A) = z_ := ⟨_, rfl⟩
    have hC' : ∀ k, chkF A k = C k := fun k => congrFun hC k
    simp only [hC'] at cb ct cn cd hch0
    obtain ⟨r, hrr⟩ : ∃ z_, (checkF A) = z_ := ⟨_, rfl⟩
    rw [hrr] at cb ct cd ⊢
    clear hC hC' hrr hf hr
    replace cb := Lib.hid cb
    replace ct := Lib.hid ct
    replace cn := Lib.hid cn
    replace cd := Lib.hid cd
    replace hch0 := Lib.hid hch0
    replace ff := Lib.hid ff
    go_enter Try.func25, Try.ntmps25
    go_wp2_with fail
    go_loopw [10] (fun i wr => ∃ k : Nat, k ≤ A.length ∧ i = I k ∧ C k = none ∧ Bl w wr) (fun i _ => A.length - (intOf i).toNat)
    case atStart => exact ⟨0, by omega, rfl, hch0.out, Bl.rfl' _⟩
    case round =>
      obtain ⟨k, hk, rfl, hck, hbr⟩ := hrel
      by_cases hlt : k < A.length
      · obtain ⟨ha, hcc⟩ := RC.out _ hbr k hlt
        subst ha
        have c0 := hcc 0 (by decide)
        have c1 := hcc 1 (by decide)
        simp only [List.getElem?_cons_succ, List.getElem?_cons_zero, Nat.add_zero, ← Nat.add_assoc] at c0 c1
        have fk := ff.out k hlt
        have xb := cb.out k hlt hck
        have xt := ct.out k hlt hck
        have xn := cn.out k hck
        have P := fun w' hb => PL.out w' hb k (by omega) (A.getD k h0).n
        have ig := idx_get (A.take k) (A.getD k h0).n
        obtain ⟨x, hx⟩ : ∃ z_, (A.getD k h0) = z_ := ⟨_, rfl⟩
        rw [hx] at c0 c1 fk xb xt xn ig
        simp only [hx] at P
        obtain ⟨n, u⟩ := x
        simp only at c0 c1 fk xt xn ig P
        have N := NM.out n
        have V := fun w => VL.out u w fk.2
        have hmy : mayF ⟨n, u⟩ = (nameF n && valueF u) := rfl
        rw [hmy] at xb xt xn
        obtain ⟨bn, hbn⟩ : ∃ z_, (nameF n) = z_ := ⟨_, rfl⟩
        rw [hbn] at xb xt xn
        simp only [hbn] at N
        obtain ⟨bv, hbv⟩ : ∃ z_, (valueF u) = z_ := ⟨_, rfl⟩
        rw [hbv] at xb xt xn
        simp only [hbv] at V
        have wk : IntKind.i64.wrap ((k : Int) + 1) = ((k + 1 : Nat) : Int) := by rw [IntKind.wrap_i64]; omega
        have hal := (Bl.rfl' wr).al (oH ⟨n, u⟩)
        have hX := heap_alloc_new wr (oH ⟨n, u⟩)
        have x0 := cell_at hX 0
        have x1 := cell_at hX 1
        simp only [List.getElem?_toArray, List.getElem?_cons_succ, List.getElem?_cons_zero] at x0 x1
        have N1 := N (wr.alloc (oH ⟨n, u⟩)) fk.1
        have V1 := V (wr.alloc (oH ⟨n, u⟩))
        have hb2 := hbr.tr hal
        clear hcc hx hbn hbv hck N V fk
        replace xb := Lib.hid xb
        replace xt := Lib.hid xt
        replace xn := Lib.hid xn
        replace hbr := Lib.hid hbr
        replace N1 := Lib.hid N1
        replace V1 := Lib.hid V1
        replace hal := Lib.hid hal
        replace hX := Lib.hid hX
        replace hb2 := Lib.hid hb2
        replace P := Lib.hid P
        replace ig := Lib.hid ig
        go_wp2_with fail
        with_reducible refine (N1.out).mono ?_
        rintro e w' ⟨rfl, rfl⟩
        cases bn with
        | false =>
          have hy := xb.out (by first | rfl | simp)
          replace hy := Lib.hid hy
          go_wp2_with fail
          go_ret
          exact ⟨by rw [hy.out]; rfl, hb2.out⟩
        | true =>
          go_wp2_with fail
          with_reducible refine (V1.out).mono ?_
          rintro e w' ⟨rfl, rfl⟩
          cases bv with
          | false =>
            have hy := xb.out (by first | rfl | simp)
            replace hy := Lib.hid hy
            go_wp2_with fail
            go_ret
            exact ⟨by rw [hy.out]; rfl, hb2.out⟩
          | true =>
            replace xt := xt.out (by first | rfl | simp)
            replace xn := xn.out (by first | rfl | simp)
            replace xt := Lib.hid xt
            replace xn := Lib.hid xn
            clear xb N1 V1
            go_wp2_with fail
            have hXD := blk_bl hX.out (Bl.rfl' (wr.alloc (oH ⟨n, u⟩))).dr
            have hbD := hb2.out.dr
            have hkc : k ≤ cap := by omega
            have PD := P.out _ hbD
            rcases ig.out with ⟨hi, hgn, -⟩ | ⟨j, hi, hj, hgn, -, -⟩
            · rw [hi] at PD
              rw [hgn] at xn
              have hy := xn.out rfl
              clear hi hgn xt P ig
              replace hXD := Lib.hid hXD
              replace hbD := Lib.hid hbD
              replace PD := Lib.hid PD
              replace hy := Lib.hid hy
              refine wp_region_held_drew (S := fun w' => w'.cell? ⟨wr.heap.size, 0, none⟩ = some (S n)) (by kernel_rfl) ?_ (fun hHeld => ?_)
              · exact (cell_at hXD.out 0)
              refine wpAnyH_take (i := 0) (v := ?v0_1) rfl (by kernel_rfl) (by kernel_rfl) (by kernel_rfl) (fun _ _ _ h => h) (Or.inl ⟨by rfl, ?y0_1⟩) hHeld ?r0_1
              case y0_1 => (intro w hSw; (try dsimp only at hSw); go_split_ands; go_simp; try with_reducible rfl)
              try simp only [List.getElem_toArray, List.getElem_cons_succ, List.getElem_cons_zero, Act.put, List.setIfInBounds_toArray, List.set_cons_zero, List.set_cons_succ]
              refine wpAnyH_take (i := 1) (v := ?v1_2) rfl (by kernel_rfl) (by kernel_rfl) (by kernel_rfl) (fun _ _ _ h => h) (Or.inl ⟨by rfl, ?y1_2⟩) hHeld ?r1_2
              case y1_2 => (intro w hSw; (try dsimp only at hSw); go_split_ands; go_simp; try with_reducible rfl)
              try simp only [List.getElem_toArray, List.getElem_cons_succ, List.getElem_cons_zero, Act.put, List.setIfInBounds_toArray, List.set_cons_zero, List.set_cons_succ]
              refine wpAnyH_take (i := 2) (v := ?v2_3) rfl (by kernel_rfl) (by kernel_rfl) (by kernel_rfl) (fun _ _ _ h => h) (Or.inl ⟨by rfl, ?y2_3⟩) hHeld ?r2_3
              case y2_3 => (intro w hSw; (try dsimp only at hSw); go_split_ands; go_simp; try with_reducible rfl)
              try simp only [List.getElem_toArray, List.getElem_cons_succ, List.getElem_cons_zero, Act.put, List.setIfInBounds_toArray, List.set_cons_zero, List.set_cons_succ]
              refine wpAnyH_take (i := 3) (v := ?v3_4) rfl (by kernel_rfl) (by kernel_rfl) (by kernel_rfl) (fun _ _ _ h => h) (Or.inl ⟨by rfl, ?y3_4⟩) hHeld ?r3_4
              case y3_4 => (intro w hSw; (try dsimp only at hSw); go_split_ands; go_simp; try with_reducible rfl)
              try simp only [List.getElem_toArray, List.getElem_cons_succ, List.getElem_cons_zero, Act.put, List.setIfInBounds_toArray, List.set_cons_zero, List.set_cons_succ]
              refine wpAnyH_take (i := 4) (v := ?v4_5) rfl (by kernel_rfl) (by kernel_rfl) (by kernel_rfl) (fun _ _ _ h => h) (Or.inl ⟨by rfl, ?y4_5⟩) hHeld ?r4_5
              case y4_5 => (intro w hSw; (try dsimp only at hSw); go_split_ands; go_simp; try with_reducible rfl)
              try simp only [List.getElem_toArray, List.getElem_cons_succ, List.getElem_cons_zero, Act.put, List.setIfInBounds_toArray, List.set_cons_zero, List.set_cons_succ]
              refine wpAnyH_ready (rs := [5]) (by kernel_rfl) (by simp) ?_
              refine AllReadyH.cons rfl (fun K hK => ?_) AllReadyH.nil
              have hHeld' := hHeld
              try dsimp only at hHeld'
              go_split_ands
              go_simp
              refine (PD.out).mono ?_
              rintro e w' ⟨rfl, hn⟩
              have hbz := hbD.out.tr hn
              have hXZ := blk_bl hXD.out hn
              replace hbz := Lib.hid hbz
              clear hn
              refine hK.out _ _ ?_ (fun hHeld => ?_)
              · exact (cell_at hXZ 0)
              clear hK K
              try simp only [List.getElem_toArray, List.getElem_cons_succ, List.getElem_cons_zero, Act.put, List.setIfInBounds_toArray, List.set_cons_zero, List.set_cons_succ]
              refine wpAnyH_take (i := 6) (v := ?v6_6) rfl (by kernel_rfl) (by kernel_rfl) (by kernel_rfl) (fun _ _ _ h => h) (Or.inl ⟨by rfl, ?y6_6⟩) hHeld ?r6_6
              case y6_6 => (intro w hSw; (try dsimp only at hSw); go_split_ands; go_simp; try with_reducible rfl)
              try simp only [List.getElem_toArray, List.getElem_cons_succ, List.getElem_cons_zero, Act.put, List.setIfInBounds_toArray, List.set_cons_zero, List.set_cons_succ]
              refine wpAnyH_done (by kernel_rfl) ?_ _
              clear hXZ
              go_wp2_with fail
              go_roundw
              case rel => exact ⟨k + 1, by omega, by first | rfl | go_num, hy.out, hbz.out⟩
              case measure => simp [intOf] <;> omega
            · rw [hi] at PD
              rw [hgn] at xt
              have hy := xt.out rfl
              have dj : decide ((j : Int) ≥ 0) = true := decide_eq_true (by omega)
              clear hi hgn xn P ig hj
              replace hXD := Lib.hid hXD
              replace hbD := Lib.hid hbD
              replace PD := Lib.hid PD
              replace hy := Lib.hid hy
              refine wp_region_held_drew (S := fun w' => w'.cell? ⟨wr.heap.size, 0, none⟩ = some (S n)) (by kernel_rfl) ?_ (fun hHeld => ?_)
              · exact (cell_at hXD.out 0)
              refine wpAnyH_take (i := 0) (v := ?v0_7) rfl (by kernel_rfl) (by kernel_rfl) (by kernel_rfl) (fun _ _ _ h => h) (Or.inl ⟨by rfl, ?y0_7⟩) hHeld ?r0_7
              case y0_7 => (intro w hSw; (try dsimp only at hSw); go_split_ands; go_simp; try with_reducible rfl)
              try simp only [List.getElem_toArray, List.getElem_cons_succ, List.getElem_cons_zero, Act.put, List.setIfInBounds_toArray, List.set_cons_zero, List.set_cons_succ]
              refine wpAnyH_take (i := 1) (v := ?v1_8) rfl (by kernel_rfl) (by kernel_rfl) (by kernel_rfl) (fun _ _ _ h => h) (Or.inl ⟨by rfl, ?y1_8⟩) hHeld ?r1_8
              case y1_8 => (intro w hSw; (try dsimp only at hSw); go_split_ands; go_simp; try with_reducible rfl)
              try simp only [List.getElem_toArray, List.getElem_cons_succ, List.getElem_cons_zero, Act.put, List.setIfInBounds_toArray, List.set_cons_zero, List.set_cons_succ]
              refine wpAnyH_take (i := 2) (v := ?v2_9) rfl (by kernel_rfl) (by kernel_rfl) (by kernel_rfl) (fun _ _ _ h => h) (Or.inl ⟨by rfl, ?y2_9⟩) hHeld ?r2_9
              case y2_9 => (intro w hSw; (try dsimp only at hSw); go_split_ands; go_simp; try with_reducible rfl)
              try simp only [List.getElem_toArray, List.getElem_cons_succ, List.getElem_cons_zero, Act.put, List.setIfInBounds_toArray, List.set_cons_zero, List.set_cons_succ]
              refine wpAnyH_take (i := 3) (v := ?v3_10) rfl (by kernel_rfl) (by kernel_rfl) (by kernel_rfl) (fun _ _ _ h => h) (Or.inl ⟨by rfl, ?y3_10⟩) hHeld ?r3_10
              case y3_10 => (intro w hSw; (try dsimp only at hSw); go_split_ands; go_simp; try with_reducible rfl)
              try simp only [List.getElem_toArray, List.getElem_cons_succ, List.getElem_cons_zero, Act.put, List.setIfInBounds_toArray, List.set_cons_zero, List.set_cons_succ]
              refine wpAnyH_take (i := 4) (v := ?v4_11) rfl (by kernel_rfl) (by kernel_rfl) (by kernel_rfl) (fun _ _ _ h => h) (Or.inl ⟨by rfl, ?y4_11⟩) hHeld ?r4_11
              case y4_11 => (intro w hSw; (try dsimp only at hSw); go_split_ands; go_simp; try with_reducible rfl)
              try simp only [List.getElem_toArray, List.getElem_cons_succ, List.getElem_cons_zero, Act.put, List.setIfInBounds_toArray, List.set_cons_zero, List.set_cons_succ]
              refine wpAnyH_ready (rs := [5]) (by kernel_rfl) (by simp) ?_
              refine AllReadyH.cons rfl (fun K hK => ?_) AllReadyH.nil
              have hHeld' := hHeld
              try dsimp only at hHeld'
              go_split_ands
              go_simp
              refine (PD.out).mono ?_
              rintro e w' ⟨rfl, hn⟩
              have hbz := hbD.out.tr hn
              have hXZ := blk_bl hXD.out hn
              replace hbz := Lib.hid hbz
              clear hn
              refine hK.out _ _ ?_ (fun hHeld => ?_)
              · exact (cell_at hXZ 0)
              clear hK K
              try simp only [List.getElem_toArray, List.getElem_cons_succ, List.getElem_cons_zero, Act.put, List.setIfInBounds_toArray, List.set_cons_zero, List.set_cons_succ]
              refine wpAnyH_take (i := 6) (v := ?v6_12) rfl (by kernel_rfl) (by kernel_rfl) (by kernel_rfl) (fun _ _ _ h => h) (Or.inl ⟨by rfl, ?y6_12⟩) hHeld ?r6_12
              case y6_12 => (intro w hSw; (try dsimp only at hSw); go_split_ands; go_simp; try with_reducible rfl)
              try simp only [List.getElem_toArray, List.getElem_cons_succ, List.getElem_cons_zero, Act.put, List.setIfInBounds_toArray, List.set_cons_zero, List.set_cons_succ]
              refine wpAnyH_done (by kernel_rfl) ?_ _
              clear hXZ
              go_wp2_with fail
              go_ret
              exact ⟨by rw [hy.out]; rfl, hbz.out⟩
      · obtain rfl : k = A.length := by omega
        have hy := cd.out hck
        replace hy := Lib.hid hy
        replace hbr := Lib.hid hbr
        clear hck
        go_wp2_with fail
        go_ret
        exact ⟨by rw [hy.out]; rfl, hbr.out⟩
end Go.Proofs.Ytnmehmlenbbfbaa.heads
