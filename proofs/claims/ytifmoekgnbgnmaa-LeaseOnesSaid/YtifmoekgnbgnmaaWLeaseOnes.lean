/-
  LeaseOnes is true for every input: in slices of 1, and where one client alone asks, just as many are admitted as by an exact limiter, in each window in which nothing is forgotten. No condition.
-/
import Derived.Test.YtifmoekgnbgnmaaWinF
import Derived.Laws.AppendOwnNone
import Derived.Deep.RegionHeldLaw
namespace Go.Proofs.Ytifmoekgnbgnmaa.leaseOnes
open Go.ChangeShapes Go.WideShapes Go.ChangeAt Go.RowKit
open Go.Proofs.Ytifmoekgnbgnmaa.lease
set_option linter.unusedVariables false
set_option linter.unusedSimpArgs false

/-- 's = append(s, x)' as one step of a region that draws: s the call's own, x one element of some cells. -/
theorem step_append_row {P : Program} {ops : Array Oper} {o : Oper} {a : Act} {K : Act → World → Prop} {Q : Exit → Act → World → Prop} {E : Prop} {wr : World} (hgd : o.guard = none) (s x : Operand) (t : TypeId)
    (ho : o.op = .call { callee := .builtin .append, args := #[s, x], argTypes := #[t, t] })
    (base : Nat) (e : TypeId) (i : TypeInfo) (z : Value) (size bytes : Nat) (ht : P.underlying t = some (.slice e)) (hi : P.info? e = some i) (hz : i.zero = some z) (hsize : i.size = size) (hby : i.bytes = bytes) (hzs : z.cells.size = size) (hsz : 0 < size)
    (v : Value) (n : Nat) (xs : List Value) (hs : a.eval s = v) (hown : wr.ownsRow base e size v n xs) (ys : Array Value) (te : TypeId) (hyl : ys.size = size) (hy : ∀ u ∈ ys.toList, u.oneCell' = true) (c : Nat)
    (hx : a.eval x = .slice (some ⟨wr.heap.size, 0, none⟩) 1 c) (hb : (n + 1) * bytes ≤ 140737488355328) (hn : n ≤ 1000000000) (hbase : base ≤ wr.heap.size)
    (h : ∀ b cap w1, w1.ownsRow base e size (.slice (some ⟨b, 0, none⟩) (n + 1) cap) (n + 1) (xs ++ ys.toList) → wr.grownBy w1 v.ownBlock → K (a.put o.dst (.slice (some ⟨b, 0, none⟩) (n + 1) cap)) w1) :
    if Region.wanted o (yielded ops a.tmps) = true then Oper.wp P o a (wr.alloc (.cells ys te)) K Q else E := by
  have hw : Region.wanted o (yielded ops a.tmps) = true := by simp [Region.wanted, hgd]
  rw [if_pos hw]
  refine wp_append_own _ s x t ho base e i z size bytes ht hi hz hsize hby hzs hsz v n xs hs (hown.alloc _) ⟨wr.heap.size, 0, none⟩ 1 c ys.toList hx (by simp [hyl]) ?_ hy (by unfold maxLen; omega) hb (by simp; omega) ?_
  · intro j u hj
    rw [add_plain, cell_at (heap_alloc_new wr (.cells ys te))]
    simpa using hj
  intro v' w1 hown' hgrow _
  have hg : wr.grownBy w1 v.ownBlock := gby_tr (World.grownBy_alloc wr _ _) hgrow
  have hown2 := hown'
  obtain ⟨_, h2⟩ := hown'
  rcases h2 with ⟨_, h0⟩ | ⟨g, cap, cur, rfl, _⟩
  · omega
  · exact h g cap w1 hown2 hg
def solo (x : AC) : AC := (x.1, x.2.1, 0)
theorem solo_ok {A : List AC} (h : okAs A) : okAs (A.map solo) := by
  obtain ⟨h1, h2, h3⟩ := h
  refine ⟨by simpa using h1, fun x hx => ?_, ?_⟩
  · obtain ⟨y, hy, rfl⟩ := List.mem_map.1 hx
    obtain ⟨q1, q2, q3, q4, q5⟩ := h2 y hy
    exact ⟨q1, q2, q3, Int.le_refl 0, by simp only [solo]; omega⟩
  · rw [List.pairwise_map]; exact h3
theorem flatW_one : ∀ (A : List Win), ∀ u ∈ flatW A, u.oneCell' = true
  | [], u, h => by simp [flatW] at h
  | v :: A, u, h => by
    simp only [flatW, List.mem_cons] at h
    rcases h with rfl | rfl | rfl | rfl | h
    · rfl
    · rfl
    · rfl
    · rfl
    · exact flatW_one A u h
theorem solo_by (A : List AC) : ∀ x ∈ A.map solo, x.2.2 = 0 := fun x hx => by
  obtain ⟨y, _, rfl⟩ := List.mem_map.1 hx
  rfl
theorem row_of {w : World} {b : Nat} {v : Value} {A : List AC} (h : w.ownsRow b 42 3 v A.length (flat A)) : ∃ a cap g, v = .slice a A.length cap ∧ ARow w g a A := by
  obtain ⟨a, g, cap, cur, rfl, hg, hh⟩ := own_blk h (by omega)
  refine ⟨a, cap, g, rfl, fun hl => ?_⟩
  obtain ⟨h1, h2, h3, h4⟩ := hh hl
  refine ⟨h1, cur, h2, fun i hi => ?_⟩
  obtain ⟨q1, q2, q3⟩ := flat_get A i hi
  rw [h4 _ (by omega), h4 _ (by omega), h4 _ (by omega)]
  exact ⟨q1, q2, q3⟩
theorem solo_take (A : List AC) (k : Nat) (h : k < A.length) : (A.take (k + 1)).map solo = (A.take k).map solo ++ [((A.getD k (0, 0, 0)).1, (A.getD k (0, 0, 0)).2.1, 0)] := by
  rw [take_snoc A k (0, 0, 0) h, List.map_append]; rfl
/-- Of a window of either run. -/
def Qw (L : Int) (u : Win) : Prop := 0 ≤ u.2.2.1 ∧ u.2.2.1 ≤ u.2.1 ∧ u.2.2.1 ≤ L ∧ (u.2.2.2 = false → u.2.2.1 = u.2.1 ∨ u.2.2.1 = L)
theorem Fine.q {L S : Int} {one : Prop} {u : Win} (h : Fine L S one u) (ho : one) : Qw L u := ⟨h.1, h.2.1, h.2.2.1, h.2.2.2.2 ho⟩

set_option maxHeartbeats 8000000 in
set_option maxRecDepth 20000 in
theorem walk {w : World} (n : Int) (n0 : -9223372036854775808 ≤ n) (n1 : n ≤ 9223372036854775807) (v : Value) (z : List Int) (hv : IntsAt w v z) (hz : i64ok z) (hm : z.length ≤ maxLen) :
    Calls Try.prog 7 #[.int .i64 n, v] w fun e w' => e = .returned (.bool true) ∧ Bl w w' := by
  have Ac := Lib.hid (fun w' (hb : Bl w w') => acts_any z v w' (Rd.below hv hb) hz hm)
  clear hv hz hm
  have Ra := Lib.hid (fun w => rate_any n w n0 n1)
  go_enter Try.func7, Try.ntmps7
  go_wp2_with fail
  refine (Ra.out _).mono ?_
  rintro e w1 ⟨L, W, S, rfl, hk, L12, W9, hb1⟩
  have hx2 := heap_alloc_new w1 (.cells #[I L, I W, I S] 23)
  obtain ⟨x, hx⟩ : ∃ x, w1.heap.size = x := ⟨_, rfl⟩
  have hbw := hb1.al (.cells #[I L, I W, I S] 23)
  rw [hx] at hx2
  replace hx := Lib.hid hx
  clear hb1
  replace hk := Lib.hid hk
  obtain ⟨w2, hw2⟩ : ∃ t, w1.alloc (.cells #[I L, I W, I S] 23) = t := ⟨_, rfl⟩
  have hx2' := hx.out
  rw [hw2] at hx2 hbw
  have Ac2 := Lib.hid (Ac.out w2 hbw)
  replace hw2 := Lib.hid hw2
  go_wp2_with fail
  rw [hw2.out]
  refine Ac2.out.mono ?_
  rintro e w4 ⟨a, cap, g, A, rfl, hok, hg, hAr, hb4⟩
  have hx4 := var_bl hx2 hb4
  have hbw4 := hbw.tr hb4
  obtain ⟨d0, d1, d2⟩ := var_cells hx4
  have hk' := hk.out
  obtain ⟨L0, L1, W0, W1, S0, S1⟩ := hk'
  have h1R : okR L W 1 := ⟨L0, L1, W0, W1, by omega, by omega⟩
  have bo := (Bl.rfl' w4).al (.cells #[I L, I W, I 1] 23)
  have Wi := Lib.hid (windows_any L W 1 (w4.alloc (.cells #[I L, I W, I 1] 23)) g a cap A (hAr.bl bo) hok h1R)
  clear hx2 hbw Ac2 hb4 hx2'
  go_wp2_with fail
  refine Wi.out.mono ?_
  rintro e w6 ⟨v6, b6, rfl, hb6', hown6, hb6⟩
  have hx4' := hx4
  have hsz4 := hbw4.size
  have hx6 := var_bl hx4 (bo.tr hb6)
  have hbw6 := hbw4.tr (bo.tr hb6)
  have hA6 := hAr.bl (bo.tr hb6)
  have hQ1 : ∀ u ∈ winds L W 1 A, Qw L u := fun u hu => Fine.q (winds_fine (al := False) h1R hok (fun h => h.elim) u hu) (Or.inl rfl)
  have hN1 := Nat.le_trans (winds_len L W 1 A) hok.1
  have hok2 := solo_ok hok
  have hQ2 : ∀ u ∈ winds L W S (A.map solo), Qw L u := fun u hu => Fine.q (winds_fine (al := True) hk.out hok2 (fun _ => solo_by A) u hu) (Or.inr trivial)
  have hN2 := Nat.le_trans (winds_len L W S (A.map solo)) hok2.1
  obtain ⟨Ws1, hW1⟩ : ∃ zz, winds L W 1 A = zz := ⟨_, rfl⟩
  obtain ⟨Ws2, hW2⟩ : ∃ zz, winds L W S (A.map solo) = zz := ⟨_, rfl⟩
  rw [hW1] at hown6 hQ1 hN1
  rw [hW2] at hQ2 hN2
  replace hW2 := Lib.hid hW2; replace hown6 := Lib.hid hown6; replace hok2 := Lib.hid hok2
  obtain ⟨iu, hiu, zu0, zu1, zu2⟩ := info_parts infoA
  obtain ⟨iw, hiw, zw0, zw1, zw2⟩ := info_parts infoW
  have hAN := hok.1
  obtain ⟨N, hN⟩ : ∃ zz, A.length = zz := ⟨_, rfl⟩
  rw [hN] at hAN
  rw [hN]
  replace hN := Lib.hid hN; replace hA6 := Lib.hid hA6
  replace hQ1 := Lib.hid hQ1; replace hQ2 := Lib.hid hQ2
  clear d0 d1 d2 hx4 hbw4 hAr bo Wi hb6 hW1 hok hg
  go_wp2_with fail
  go_loopw [9, 10] (fun o i wr => ∃ k : Nat, k ≤ N ∧ i = I k ∧ wr.ownsRow w6.heap.size 42 3 o k (flat (List.map solo (List.take k A))) ∧ Bl w6 wr) (fun _ i _ => N - (intOf i).toNat)
  case atStart => exact ⟨0, by omega, rfl, World.ownsRow_nil _ _ _ _, Bl.rfl' _⟩
  case round =>
    obtain ⟨k, hkN, rfl, hown, hbr⟩ := hrel
    by_cases hlt : k < N
    · have hbd := hbr.dr
      obtain ⟨rfl, q0, q1, q2⟩ := (hA6.out.bl hbd).c k (by rw [hN.out]; exact hlt)
      have hst := solo_take A k (by rw [hN.out]; exact hlt)
      obtain ⟨xx, hxx⟩ : ∃ q, A.getD k (0, 0, 0) = q := ⟨_, rfl⟩
      rw [hxx] at q0 q1 hst
      obtain ⟨d, t, b⟩ := xx
      simp only at q0 q1 hst
      have hownd := own_below hown (Bl.rfl' wr).dr
      have hxx' := Lib.hid hxx
      replace hst := Lib.hid hst
      clear hxx q2
      go_upto_region 10 with fail
      obtain ⟨wd, hwd⟩ : ∃ zz, wr.drew = zz := ⟨_, rfl⟩
      rw [hwd] at q0 q1 hownd hbd
      have KK := Lib.hid (fun w' (hb : Bl w6 w') => (⟨hb, ((hA6.out.bl hb).c k (by rw [hN.out]; exact hlt)).2.1, ((hA6.out.bl hb).c k (by rw [hN.out]; exact hlt)).2.2.1⟩ : Bl w6 w' ∧ w'.cell? ⟨g, k * 3, none⟩ = some (I (A.getD k (0, 0, 0)).1) ∧ w'.cell? ⟨g, k * 3 + 1, none⟩ = some (I (A.getD k (0, 0, 0)).2.1)))
      rw [hxx'.out] at KK
      simp only at KK
      have hsd := hbd.size
      replace hwd := Lib.hid hwd
      have hownd' := Lib.hid hownd
      clear hown hbr hownd
      rw [← hwd.out] at hownd' hsd hbd
      go_region_held_law (fun w' => Bl w6 w' ∧ w'.cell? ⟨g, k * 3, none⟩ = some (I d) ∧ w'.cell? ⟨g, k * 3 + 1, none⟩ = some (I t))
        ((go_split_ands; first | exact KK.out _ hb7 | exact KK.out _ hbd | exact KK.out _ (hbd.al _)))
        (first
          | (refine step_append_row rfl (.tmp 27) (.tmp 39) 39 rfl w6.heap.size 42 iu (.agg #[I 0, I 0, I 0]) 3 24 Try.underlying39 hiu zu0 zu1 zu2 rfl (by decide) _ k (flat (List.map solo (List.take k A))) (by first | rfl | simp [Act.eval, Act.put]) hownd'.out #[I d, I t, I 0] _ rfl (by intro u hu; simp at hu; rcases hu with rfl | rfl | rfl <;> rfl) 1 (by first | rfl | simp [Act.eval, Act.put]) (by omega) (by omega) (by omega) ?_; intro b' cap' w7 hown' hgrow; have hb7 : Bl w6 w7 := hbd.grown hgrow (fun k hk => (hownd'.out.lt k hk).1); replace hown' := Lib.hid hown'; clear hgrow))
      all_goals
        go_wp2_with fail
        go_roundw
        case rel => exact ⟨k + 1, by omega, by go_num, by rw [hst.out, flat_app]; exact hown'.out, hb7⟩
        case measure => simp [intOf]; omega
    · obtain rfl : k = N := by omega
      have ht : A.take k = A := by rw [← hN.out, List.take_length]
      rw [ht] at hown
      have hml : (A.map solo).length = k := by rw [List.length_map]; exact hN.out
      obtain ⟨a7, c7, g7, rfl, hA7⟩ := row_of (show wr.ownsRow _ _ 3 _ (A.map solo).length _ by rw [hml]; exact hown)
      have Wi := Lib.hid (windows_any L W S wr g7 a7 c7 (A.map solo) hA7 hok2.out hk.out)
      rw [hml] at Wi ⊢
      have hx7 := var_bl hx6 hbr
      obtain ⟨d0, d1, d2⟩ := var_cells hx7
      have hown6r := own_below hown6.out hbr
      have hbw7 := hbw6.tr hbr
      clear hown hA7 ht
      go_wp2_with fail
      refine Wi.out.mono ?_
      rintro e w8 ⟨v8, b8, rfl, hb8', hown8, hb8⟩
      have hx8 := var_bl hx7 hb8
      have hbw8 := hbw7.tr hb8
      have hown68 := own_below hown6r hb8
      rw [hW2.out] at hown8
      have hxb : x < b6 := by
        have h1 := lt_of_block hx4'
        have h2 : w4.heap.size ≤ (w4.alloc (.cells #[I L, I W, I 1] 23)).heap.size := by simp
        omega
      have hwb6 : w.heap.size ≤ b6 := by
        have h2 : w4.heap.size ≤ (w4.alloc (.cells #[I L, I W, I 1] 23)).heap.size := by simp
        omega
      have h8' := hown8
      obtain ⟨_, hc8⟩ := h8'
      clear d0 d1 d2 Wi hx7 hbw7 hown6r hown6
      rcases hc8 with ⟨rfl, hz8⟩ | ⟨g8, cap8, cur8, rfl, _⟩
      · have hW20 : Ws2 = [] := List.eq_nil_of_length_eq_zero hz8
        have hown9 : w8.ownsRow b6 57 4 v6 (Ws1 ++ Ws2).length (flatW (Ws1 ++ Ws2)) := by rw [hW20, List.append_nil]; exact hown68
        have hx9 := hx8
        have hbl := hbw8
        have hown68' := Lib.hid hown68
        clear hown68 hown8
        go_wp2_with (at_builtin; refine wpList_append_own_none rfl _ _ 54 rfl b6 57 iw 4 Try.underlying54 hiw v6 Ws1.length (flatW Ws1) (by rfl) hown68'.out (by rfl) ?_)
        have hQ : ∀ u ∈ Ws1 ++ Ws2, Qw L u := fun u hu => by
          rcases List.mem_append.1 hu with hu | hu
          · exact hQ1.out u hu
          · exact hQ2.out u hu
        obtain ⟨a9, c9, g9, rfl, R⟩ := wins_read hown9
        have hNl : (Ws1 ++ Ws2).length ≤ 120 := by rw [List.length_append]; omega
        obtain ⟨Ws, hWs⟩ : ∃ zz, Ws1 ++ Ws2 = zz := ⟨_, rfl⟩
        rw [hWs] at R hQ hNl ⊢
        have hF' := fun i h => hQ _ (getD_memW Ws i h)
        obtain ⟨M, hM⟩ : ∃ zz, Ws.length = zz := ⟨_, rfl⟩
        rw [hM] at R hF' hNl ⊢
        replace hF' := Lib.hid hF'; replace R := Lib.hid R; replace hx9 := Lib.hid hx9
        clear hown9 hQ hQ1 hQ2 hWs hM
        go_wp2_with fail
        go_loopw [11] (fun i wr => ∃ k : Nat, k ≤ M ∧ i = I k ∧ Bl w8 wr) (fun i _ => M - (intOf i).toNat)
        case atStart => exact ⟨0, by omega, rfl, Bl.rfl' _⟩
        case round =>
          obtain ⟨k, hkN, rfl, hbr⟩ := hrel
          by_cases hlt : k < M
          · obtain ⟨rfl, q0, q1, q2, q3⟩ := R.out wr hbr k hlt
            have hf := hF'.out k hlt
            obtain ⟨u, hu⟩ : ∃ t, Ws.getD k win0 = t := ⟨_, rfl⟩
            rw [hu] at q0 q1 q2 q3 hf
            obtain ⟨uk, ua, ud, uf⟩ := u
            obtain ⟨f1, f2, f3, f4⟩ := hf
            simp only at q0 q1 q2 q3 f1 f2 f3 f4
            have hx10 := var_bl hx9.out hbr
            obtain ⟨d0, d1, d2⟩ := var_cells hx10
            cases uf with
            | true =>
              clear f4
              go_wp2_with fail
              go_quiet (fail)
              go_wp2_with fail
              go_roundw
              case rel => exact ⟨k + 1, by omega, by go_num, hbr.drn _⟩
              case measure => simp [intOf]; omega
            | false =>
              have Ex := fun w => exact_any L W S ua w
              have hex : min ua L = ud := by have := f4 rfl; omega
              simp only [hex] at Ex
              have g1 : (ud != ud) = false := by simp
              replace Ex := Lib.hid Ex
              clear f4 hex
              have KK := Lib.hid (fun w' (hb : Bl wr w') => (⟨hb, var_cells (var_bl hx10 hb), (R.out w' (hbr.tr hb) k hlt).2⟩ : Bl wr w' ∧ (w'.cell? ⟨x, 0, none⟩ = some (I L) ∧ w'.cell? ⟨x, 1, none⟩ = some (I W) ∧ w'.cell? ⟨x, 2, none⟩ = some (I S)) ∧ (w'.cell? ⟨g9, k * 4, none⟩ = some (I (Ws.getD k win0).1) ∧ w'.cell? ⟨g9, k * 4 + 1, none⟩ = some (I (Ws.getD k win0).2.1) ∧ w'.cell? ⟨g9, k * 4 + 2, none⟩ = some (I (Ws.getD k win0).2.2.1) ∧ w'.cell? ⟨g9, k * 4 + 3, none⟩ = some (.bool (Ws.getD k win0).2.2.2))))
              rw [hu] at KK
              simp only at KK
              clear hu
              go_wp2_with fail
              go_region_held3 (fun w' => Bl wr w' ∧ (w'.cell? ⟨x, 0, none⟩ = some (I L) ∧ w'.cell? ⟨x, 1, none⟩ = some (I W) ∧ w'.cell? ⟨x, 2, none⟩ = some (I S)) ∧ (w'.cell? ⟨g9, k * 4, none⟩ = some (I uk) ∧ w'.cell? ⟨g9, k * 4 + 1, none⟩ = some (I ua) ∧ w'.cell? ⟨g9, k * 4 + 2, none⟩ = some (I ud) ∧ w'.cell? ⟨g9, k * 4 + 3, none⟩ = some (.bool false)))
                ((go_split_ands; exact KK.out _ (by first | assumption | exact Bl.rfl' _ | exact Bl.drewN _ _ | exact Bl.dr (by first | assumption | exact Bl.rfl' _) | exact Bl.tr (by assumption) (by assumption))))
                (first
                  | (go_at_call 14; go_split_ands; refine (Ex.out _).mono ?_; rintro e w5 ⟨rfl, hb7⟩))
              all_goals
                go_split_ands
                have hb6 : Bl wr w5 := by assumption
                clear d0 d1 d2 q0 q1 q2 q3
                go_wp2_with fail
                go_roundw
                case rel => exact ⟨k + 1, by omega, by go_num, hbr.tr hb6⟩
                case measure => simp [intOf]; omega
          · obtain rfl : k = M := by omega
            go_wp2_with fail
            refine (lives24 _).mono ?_
            rintro e w19 ⟨rfl, hb19⟩
            go_wp2_with fail
            go_ret
            exact ⟨rfl, (hbl.tr hbr).tr hb19⟩
      · have hown680 : w8.ownsRow 0 57 4 v6 Ws1.length (flatW Ws1) := by
          refine ⟨hown68.1, ?_⟩
          rcases hown68.2 with h | ⟨g6, c6, u6, h1, h2, h3⟩
          · exact Or.inl h
          · exact Or.inr ⟨g6, c6, u6, h1, Nat.zero_le _, h3⟩
        have hnews : ∀ j u, (flatW Ws2)[j]? = some u → w8.cell? ((⟨g8, 0, none⟩ : Addr).add j) = some u := by
          intro j u hj
          have hjl : j < Ws2.length * 4 := by
            rw [← flatW_len]
            rcases Nat.lt_or_ge j (flatW Ws2).length with h | h
            · exact h
            · rw [List.getElem?_eq_none h] at hj; cases hj
          rw [add_plain, Nat.zero_add, hown8.cellAt j hjl]; exact hj
        have hone := flatW_one Ws2
        have hlt6 := hown68.lt
        replace hnews := Lib.hid hnews; replace hown680 := Lib.hid hown680; replace hone := Lib.hid hone; replace hlt6 := Lib.hid hlt6
        clear hown68 hown8
        go_wp2_with (at_builtin; refine wpList_append_own _ rfl _ _ 54 rfl 0 57 iw (.agg #[I 0, I 0, I 0, .bool false]) 4 32 Try.underlying54 hiw zw0 zw1 zw2 rfl (by decide) v6 Ws1.length (flatW Ws1) (by rfl) hown680.out ⟨g8, 0, none⟩ Ws2.length cap8 (flatW Ws2) (by rfl) (flatW_len _) hnews.out hone.out (by unfold maxLen; omega) (by omega) (by omega) ?_)
        intro v9 w9 hown9 hgrow _
        rw [← flatW_app, ← List.length_append] at hown9
        have ht9 : Tch (fun p => b6 ≤ p) w8 w9 := tch_row hgrow (fun p hp => (hlt6.out p hp).1)
        have hx9 := ht9.var hx8 (by omega)
        have hbl := hbw8.tch ht9 (fun p hp => by omega)
        clear hgrow ht9 hx8 hbw8
        have hQ : ∀ u ∈ Ws1 ++ Ws2, Qw L u := fun u hu => by
          rcases List.mem_append.1 hu with hu | hu
          · exact hQ1.out u hu
          · exact hQ2.out u hu
        obtain ⟨a9, c9, g9, rfl, R⟩ := wins_read hown9
        have hNl : (Ws1 ++ Ws2).length ≤ 120 := by rw [List.length_append]; omega
        obtain ⟨Ws, hWs⟩ : ∃ zz, Ws1 ++ Ws2 = zz := ⟨_, rfl⟩
        rw [hWs] at R hQ hNl ⊢
        have hF' := fun i h => hQ _ (getD_memW Ws i h)
        obtain ⟨M, hM⟩ : ∃ zz, Ws.length = zz := ⟨_, rfl⟩
        rw [hM] at R hF' hNl ⊢
        replace hF' := Lib.hid hF'; replace R := Lib.hid R; replace hx9 := Lib.hid hx9
        clear hown9 hQ hQ1 hQ2 hWs hM
        go_wp2_with fail
        go_loopw [11] (fun i wr => ∃ k : Nat, k ≤ M ∧ i = I k ∧ Bl w9 wr) (fun i _ => M - (intOf i).toNat)
        case atStart => exact ⟨0, by omega, rfl, Bl.rfl' _⟩
        case round =>
          obtain ⟨k, hkN, rfl, hbr⟩ := hrel
          by_cases hlt : k < M
          · obtain ⟨rfl, q0, q1, q2, q3⟩ := R.out wr hbr k hlt
            have hf := hF'.out k hlt
            obtain ⟨u, hu⟩ : ∃ t, Ws.getD k win0 = t := ⟨_, rfl⟩
            rw [hu] at q0 q1 q2 q3 hf
            obtain ⟨uk, ua, ud, uf⟩ := u
            obtain ⟨f1, f2, f3, f4⟩ := hf
            simp only at q0 q1 q2 q3 f1 f2 f3 f4
            have hx10 := var_bl hx9.out hbr
            obtain ⟨d0, d1, d2⟩ := var_cells hx10
            cases uf with
            | true =>
              clear f4
              go_wp2_with fail
              go_quiet (fail)
              go_wp2_with fail
              go_roundw
              case rel => exact ⟨k + 1, by omega, by go_num, hbr.drn _⟩
              case measure => simp [intOf]; omega
            | false =>
              have Ex := fun w => exact_any L W S ua w
              have hex : min ua L = ud := by have := f4 rfl; omega
              simp only [hex] at Ex
              have g1 : (ud != ud) = false := by simp
              replace Ex := Lib.hid Ex
              clear f4 hex
              have KK := Lib.hid (fun w' (hb : Bl wr w') => (⟨hb, var_cells (var_bl hx10 hb), (R.out w' (hbr.tr hb) k hlt).2⟩ : Bl wr w' ∧ (w'.cell? ⟨x, 0, none⟩ = some (I L) ∧ w'.cell? ⟨x, 1, none⟩ = some (I W) ∧ w'.cell? ⟨x, 2, none⟩ = some (I S)) ∧ (w'.cell? ⟨g9, k * 4, none⟩ = some (I (Ws.getD k win0).1) ∧ w'.cell? ⟨g9, k * 4 + 1, none⟩ = some (I (Ws.getD k win0).2.1) ∧ w'.cell? ⟨g9, k * 4 + 2, none⟩ = some (I (Ws.getD k win0).2.2.1) ∧ w'.cell? ⟨g9, k * 4 + 3, none⟩ = some (.bool (Ws.getD k win0).2.2.2))))
              rw [hu] at KK
              simp only at KK
              clear hu
              go_wp2_with fail
              go_region_held3 (fun w' => Bl wr w' ∧ (w'.cell? ⟨x, 0, none⟩ = some (I L) ∧ w'.cell? ⟨x, 1, none⟩ = some (I W) ∧ w'.cell? ⟨x, 2, none⟩ = some (I S)) ∧ (w'.cell? ⟨g9, k * 4, none⟩ = some (I uk) ∧ w'.cell? ⟨g9, k * 4 + 1, none⟩ = some (I ua) ∧ w'.cell? ⟨g9, k * 4 + 2, none⟩ = some (I ud) ∧ w'.cell? ⟨g9, k * 4 + 3, none⟩ = some (.bool false)))
                ((go_split_ands; exact KK.out _ (by first | assumption | exact Bl.rfl' _ | exact Bl.drewN _ _ | exact Bl.dr (by first | assumption | exact Bl.rfl' _) | exact Bl.tr (by assumption) (by assumption))))
                (first
                  | (go_at_call 14; go_split_ands; refine (Ex.out _).mono ?_; rintro e w5 ⟨rfl, hb7⟩))
              all_goals
                go_split_ands
                have hb6 : Bl wr w5 := by assumption
                clear d0 d1 d2 q0 q1 q2 q3
                go_wp2_with fail
                go_roundw
                case rel => exact ⟨k + 1, by omega, by go_num, hbr.tr hb6⟩
                case measure => simp [intOf]; omega
          · obtain rfl : k = M := by omega
            go_wp2_with fail
            refine (lives24 _).mono ?_
            rintro e w19 ⟨rfl, hb19⟩
            go_wp2_with fail
            go_ret
            exact ⟨rfl, (hbl.tr hbr).tr hb19⟩
end Go.Proofs.Ytifmoekgnbgnmaa.leaseOnes
