/-
  DrawAgain is true for every input: the same seed and the same that are said lead to the same draws; behind them come the seed's own; what was handed in is the caller's. No condition.
-/
import Derived.Test.YtbmgengcacoiaaaFew
import Derived.Test.YtbmgengcacoiaaaMathScr
namespace Go.Proofs.Ytbmgengcacoiaaa.drawAgain
open Go.ChangeShapes Go.WideShapes Go.ChangeAt Go.RowKit
open Go.Proofs.Ytbmgengcacoiaaa.draw
set_option linter.unusedVariables false
set_option linter.unusedSimpArgs false

theorem new_own {w : World} {base : Nat} {v : Value} (L : List Int) (seed : Int) (h : w.ownsRow base 22 1 v L.length (us L)) (h0 : 0 ≤ seed) (h1 : seed ≤ 18446744073709551615) (hL : u64ok L) (hl : L.length ≤ 12) :
    Calls Try.prog 9 #[.int .u64 seed, v] w (NewD L seed w) := by
  have hrd := Rd.of_own h (g := fun i => U (L.getD i 0)) (fun i hi => us_get L i (by omega))
  rcases hrd with ⟨a, c, rfl, h2, h3⟩ | ⟨b, off, c, rfl, h2, h3, h4, h5⟩
  · obtain rfl : L = [] := List.eq_nil_of_length_eq_zero h2
    exact new_nil w seed a c h0 h1
  · exact new_some w seed b off c L h0 h1 hL (by omega) (fun i hi => h5 i (by omega))
theorem own_shape {w : World} {base n : Nat} {e : TypeId} {v : Value} {xs : List Value} (h : w.ownsRow base e 1 v n xs) (hn : 0 < n) : ∃ b cap, v = .slice (some ⟨b, 0, none⟩) n cap ∧ n ≤ cap ∧ cap ≤ 9223372036854775807 ∧ base ≤ b := by
  have hlt := h.lt
  obtain ⟨_, h2⟩ := h
  rcases h2 with ⟨_, h0⟩ | ⟨g, cap, cur, rfl, h3, h4, h5, h6, _⟩
  · omega
  · exact ⟨g, cap, rfl, h5, h6, (hlt g rfl).1⟩
theorem own_any {w : World} {base n : Nat} {e : TypeId} {v : Value} {xs : List Value} (h : w.ownsRow base e 1 v n xs) : ∃ a cap, v = .slice a n cap ∧ (n ≤ cap ∧ cap ≤ 9223372036854775807) ∧ (0 < n → ∃ b, a = some ⟨b, 0, none⟩) := by
  by_cases hn : 0 < n
  · obtain ⟨b, cap, rfl, h1, h2, _⟩ := own_shape h hn
    exact ⟨_, _, rfl, ⟨h1, h2⟩, fun _ => ⟨b, rfl⟩⟩
  · obtain rfl : n = 0 := by omega
    obtain ⟨_, h2⟩ := h
    rcases h2 with ⟨rfl, _⟩ | ⟨g, cap, cur, rfl, h3, h4, h5, h6, _⟩
    · exact ⟨none, 0, rfl, ⟨by omega, by omega⟩, fun h => by omega⟩
    · exact ⟨_, cap, rfl, ⟨h5, h6⟩, fun h => by omega⟩
theorem drop_next (L : List Int) (k : Nat) (h : k < L.length) : L.drop k = L.getD k 0 :: L.drop (k + 1) := by
  rw [List.drop_eq_getElem_cons h, List.getD_eq_getElem?_getD, List.getElem?_eq_getElem h]; rfl
theorem take_ok {z : List Int} (h : u64ok z) : u64ok (z.take 12) := fun n hn => h n (List.mem_of_mem_take hn)

set_option maxHeartbeats 4000000 in
theorem walk {w : World} (seed : Int) (s0 : 0 ≤ seed) (s1 : seed ≤ 18446744073709551615) (v : Value) (z : List Int) (hv : U64At w v z) (hz : u64ok z) (hm : z.length ≤ maxLen) (x : Int) (x0 : 0 ≤ x) (x1 : x ≤ 18446744073709551615) :
    Calls Try.prog 6 #[.int .u64 seed, v, .int .u64 x] w fun e w' => e = .returned (.bool true) ∧ Bl w w' := by
  have F0 := Lib.hid (fun wr (h : Bl w wr) => few_any z v wr (Rd.below hv h) hm)
  have hL := take_ok hz
  have hl : (z.take 12).length ≤ 12 := by simp; omega
  obtain ⟨L, hLe⟩ : ∃ L, z.take 12 = L := ⟨_, rfl⟩
  unfold FewD at F0
  rw [hLe] at F0 hL hl
  obtain ⟨K, hK⟩ : ∃ K, L.length = K := ⟨_, rfl⟩
  replace hL := Lib.hid hL
  have NO := Lib.hid (fun (w : World) (base : Nat) (v : Value) (h : w.ownsRow base 22 1 v K (us L)) => new_own L seed (by rw [hK]; exact h) s0 s1 hL.out hl)
  rw [hK] at F0 hl
  replace hK := Lib.hid hK
  clear hLe hv hm hz
  go_enter Try.func6, Try.ntmps6
  go_wp2_with fail
  refine (F0.out w (Bl.rfl' _)).mono ?_
  rintro e w1 ⟨vo, rfl, hown, hb1⟩
  have q1 := hb1.size
  have hbo : ∀ k, vo.ownBlock = some k → k < w1.heap.size := fun k hk => (hown.lt k hk).2
  go_wp2_with fail
  refine (NO.out w1 _ _ hown).mono ?_
  rintro e w2 ⟨pd, rfl, hpd, hd, hb2⟩
  have hb2 := hb1.tr hb2
  have l2 := hd.lt
  have hown2 : w2.ownsRow w.heap.size 22 1 vo K (us L) := hown.kept (gby_of_bl (by assumption) none) (by cases vo.ownBlock <;> simp)
  clear hown
  go_wp2_with fail
  refine (F0.out w2 hb2).mono ?_
  rintro e w3 ⟨ve, rfl, hown3, hb3⟩
  go_wp2_with fail
  refine (NO.out w3 _ _ hown3).mono ?_
  rintro e w4 ⟨pe, rfl, hpe, he, hb4⟩
  have g4 := hb3.tr hb4
  have hd4 := hd.grown (gby_of_bl g4 none) (fun k hk => by cases hk)
  have hown4 := hown2.kept (gby_of_bl g4 none) (by cases vo.ownBlock <;> simp)
  have hb4' := hb2.tr g4
  have l3 := hb3.size
  have l4 := he.lt
  clear hown3 hown2 hb3 hb4 g4 hd hb2 hb1
  go_wp2_with fail
  refine (new_nil w4 seed none 0 s0 s1).mono ?_
  rintro e w5 ⟨pb, rfl, hpb, hb, hb5⟩
  have hd5 := hd4.grown (gby_of_bl hb5 none) (fun k hk => by cases hk)
  have he5 := he.grown (gby_of_bl hb5 none) (fun k hk => by cases hk)
  have hown5 := hown4.kept (gby_of_bl hb5 none) (by cases vo.ownBlock <;> simp)
  have hb5' := hb4'.tr hb5
  have l5 := hb.lt
  have hb1s := hb5'.size
  clear hd4 he hown4 hb5 hb4'
  obtain ⟨ld, hld⟩ : ∃ n, w1.heap.size = n := ⟨_, rfl⟩
  obtain ⟨le, hle⟩ : ∃ n, w3.heap.size = n := ⟨_, rfl⟩
  obtain ⟨lb, hlb⟩ : ∃ n, w4.heap.size = n := ⟨_, rfl⟩
  rw [hld] at hd5 hpd hbo q1; rw [hle] at he5 hpe l3; rw [hlb] at hb hpb l4
  obtain ⟨ao, co, rfl, ⟨hco1, hco2⟩, hao⟩ := own_any hown5
  replace hao := Lib.hid hao
  go_wp2_with fail
  go_loopw [11] (fun i wr => ∃ k : Nat, k ≤ K ∧ i = I k ∧ (∃ xs, wr.ownsRow w.heap.size 22 1 (.slice ao K co) K xs) ∧ Dr ld wr pd L seed 0 ∧ Dr le wr pe L seed 0 ∧ Dr lb wr pb [] seed 0 ∧ Bl w wr) (fun i _ => K - (intOf i).toNat)
  case atStart => exact ⟨0, by omega, rfl, ⟨_, hown5⟩, hd5, he5, hb, hb5'⟩
  case round =>
    obtain ⟨k, hk, rfl, ⟨xs, hown⟩, hd, he, hb, hbl⟩ := hrel
    by_cases hlt : k < K
    · obtain ⟨b, rfl⟩ := hao.out (by omega)
      have hbb := hbo b rfl
      have hbw := (hown.lt b rfl).1
      have hfr := hown.frozenAt k
      have hce := hown.cellAt k (by omega)
      have hxl := hown.1
      obtain ⟨y, hy⟩ : ∃ y, xs[k]? = some y := ⟨_, List.getElem?_eq_getElem (by omega)⟩
      rw [hy] at hce
      have st := hown.stored k (U x)
      have hd' := hd.grown st.2 (fun j hj => by cases hj; omega)
      have he' := he.grown st.2 (fun j hj => by cases hj; omega)
      have hb' := hb.grown st.2 (fun j hj => by cases hj; omega)
      have hbl' := hbl.gp st.2 hbw
      have ho' := st.1
      clear st hd he hb hbl hy hown hbo
      replace hd' := Lib.hid hd'; replace he' := Lib.hid he'; replace hb' := Lib.hid hb'; replace hbl' := Lib.hid hbl'; replace ho' := Lib.hid ho'
      go_wp2_with fail
      go_roundw
      case rel => exact ⟨k + 1, by omega, by go_num, ⟨_, ho'.out⟩, hd'.out, he'.out, hb'.out, hbl'.out⟩
      case measure => simp [intOf]; omega
    · obtain rfl : k = K := by omega
      clear hown hbo hd5 he5 hb5' hown5 xs
      go_wp2_with fail
      refine (F0.out wr hbl).mono ?_
      rintro e w7 ⟨vl, rfl, hol, hb7⟩
      have hd7 := hd.grown (gby_of_bl hb7 none) (fun k hk => by cases hk)
      have he7 := he.grown (gby_of_bl hb7 none) (fun k hk => by cases hk)
      have hbb7 := hb.grown (gby_of_bl hb7 none) (fun k hk => by cases hk)
      have hbl7 := hbl.tr hb7
      have lq := hb.lt
      obtain ⟨lo, hlo⟩ : ∃ n, wr.heap.size = n := ⟨_, rfl⟩
      rw [hlo] at hol lq
      clear hd he hb hbl hb7 hlo
      obtain ⟨al, cl, rfl, ⟨hcl1, hcl2⟩, hal⟩ := own_any hol
      replace hal := Lib.hid hal
      have W1 : w.heap.size ≤ pd := by omega
      have W2 : pd < le := by omega
      have W3 : w.heap.size ≤ pe := by omega
      have W4 : pe < lb := by omega
      have W5 : w.heap.size ≤ pb := by omega
      have W6 : pb < lo := by omega
      have W7 : pd < pe := by omega
      have W8 : pe < pb := by omega
      have W9 : ld ≤ pd := hpd
      have W10 : le ≤ pe := hpe
      have W11 : lb ≤ pb := hpb
      have W12 : lo = lo := rfl
      clear l2 l3 l4 l5 lq q1 hpd hpe hpb hb1s
      go_wp2_with fail
      go_loopw [13, 14, 15] (fun i _ _ wr => ∃ j : Nat, j ≤ k ∧ i = I j ∧ Dr ld wr pd (L.drop j) seed j ∧ Dr le wr pe (L.drop j) seed j ∧ Dr lb wr pb [] seed 0 ∧ wr.ownsRow lo 22 1 (.slice al k cl) k (us L) ∧ Bl w wr) (fun i _ _ _ => k - (intOf i).toNat)
      case atStart => exact ⟨0, by omega, rfl, hd7, he7, hbb7, hol, hbl7⟩
      case round =>
        obtain ⟨j, hj, rfl, hd, he, hb, hol, hbl⟩ := hrel
        by_cases hlt2 : j < k
        · obtain ⟨bl, rfl⟩ := hal.out (by omega)
          have hdr := drop_next L j (by rw [hK.out]; exact hlt2)
          have hus := us_get L j (by rw [hK.out]; exact hlt2)
          obtain ⟨y, hy⟩ : ∃ y, L.getD j 0 = y := ⟨_, rfl⟩
          rw [hy] at hdr hus
          rw [hdr] at hd he
          have N1 := Lib.hid (next_any wr pd _ _ _ hd (by omega) (by omega))
          have N2 := Lib.hid (fun w he => next_any (lo := le) w pe (y :: L.drop (j + 1)) seed j he (by omega) (by omega))
          have hne : (y != y) = false := by simp
          clear hd hdr hy hd7 he7 hbb7 hbl7
          go_wp2_with fail
          refine N1.out.mono ?_
          rintro e w8 ⟨rfl, hd8, hg8⟩
          have he8 := he.grown hg8 (fun i hi => by cases hi; omega)
          have hb8 := hb.grown hg8 (fun i hi => by cases hi; omega)
          have ho8 := hol.kept hg8 (own_ne hol (by omega))
          have hl8 := hbl.gp hg8 W1
          clear he hb hol hbl hg8
          go_wp2_with fail
          refine (N2.out _ he8).mono ?_
          rintro e w9 ⟨rfl, he9, hg9⟩
          have hd9 := hd8.grown hg9 (fun i hi => by cases hi; omega)
          have hb9 := hb8.grown hg9 (fun i hi => by cases hi; omega)
          have ho9 := ho8.kept hg9 (own_ne ho8 (by omega))
          have hl9 := hl8.gp hg9 W3
          have cj := ho9.cellAt j (by omega)
          rw [hus] at cj
          clear hd8 he8 hb8 ho8 hl8 hg9 hus
          change Dr ld w9 pd (L.drop (j + 1)) seed ((j : Int) + 1) at hd9
          change Dr le w9 pe (L.drop (j + 1)) seed ((j : Int) + 1) at he9
          go_wp2_with fail
          go_roundw
          case rel => exact ⟨j + 1, by omega, by go_num, hd9, he9, hb9, ho9, hl9⟩
          case measure => simp [intOf]; omega
        · obtain rfl : j = k := by omega
          have hdn : L.drop j = [] := by rw [List.drop_eq_nil_iff, hK.out]; exact Nat.le_refl _
          rw [hdn] at hd he
          clear hd7 he7 hbb7 hbl7 hol hdn
          go_wp2_with fail
          go_loopw [16, 17, 18, 19] (fun i _ _ _ wr => ∃ n : Nat, n ≤ 5 ∧ i = I n ∧ Dr ld wr pd [] (stk seed n) ((j : Int) + n) ∧ Dr le wr pe [] (stk seed n) ((j : Int) + n) ∧ Dr lb wr pb [] (stk seed n) n ∧ Bl w wr) (fun i _ _ _ _ => 5 - (intOf i).toNat)
          case atStart => exact ⟨0, by omega, rfl, hd, he, hb, hbl⟩
          case round =>
            obtain ⟨n, hn, rfl, hd, he, hb, hbl⟩ := hrel
            by_cases hlt3 : n < 5
            · have N1 := Lib.hid (next_any wr pd _ _ _ hd (by omega) (by omega))
              have N2 := Lib.hid (fun w he => next_any (lo := le) w pe [] (stk seed n) ((j : Int) + n) he (by omega) (by omega))
              have N3 := Lib.hid (fun w hb => next_any (lo := lb) w pb [] (stk seed n) n hb (by omega) (by omega))
              obtain ⟨y, hy⟩ : ∃ y, draw.hd [] (stk seed n) = y := ⟨_, rfl⟩
              rw [show draw.hd [] (stk seed n) = y from hy] at N1 N2 N3
              have hne : (y != y) = false := by simp
              clear hd hy
              go_wp2_with fail
              refine N1.out.mono ?_
              rintro e w8 ⟨rfl, hd8, hg8⟩
              have he8 := he.grown hg8 (fun i hi => by cases hi; omega)
              have hb8 := hb.grown hg8 (fun i hi => by cases hi; omega)
              have hl8 := hbl.gp hg8 W1
              clear he hb hbl hg8
              go_wp2_with fail
              refine (N2.out _ he8).mono ?_
              rintro e w9 ⟨rfl, he9, hg9⟩
              have hd9 := hd8.grown hg9 (fun i hi => by cases hi; omega)
              have hb9 := hb8.grown hg9 (fun i hi => by cases hi; omega)
              have hl9 := hl8.gp hg9 W3
              clear hd8 he8 hb8 hl8 hg9
              go_wp2_with fail
              refine (N3.out _ hb9).mono ?_
              rintro e w10 ⟨rfl, hb10, hg10⟩
              have hd10 := hd9.grown hg10 (fun i hi => by cases hi; omega)
              have he10 := he9.grown hg10 (fun i hi => by cases hi; omega)
              have hl10 := hl9.gp hg10 W5
              clear hd9 he9 hb9 hl9 hg10
              go_wp2_with fail
              go_roundw
              case rel => exact ⟨n + 1, by omega, by go_num, hd10, he10, hb10, hl10⟩
              case measure => simp [intOf]; omega
            · obtain rfl : n = 5 := by omega
              clear he hb
              go_wp2_with fail
              refine (used_any _ pd _ _ _ hd).mono ?_
              rintro e w11 ⟨rfl, rfl⟩
              clear hd
              go_wp2_with fail
              refine (lives02 _).mono ?_
              rintro e w12 ⟨rfl, hb12⟩
              go_wp2_with fail
              go_ret
              exact ⟨rfl, hbl.tr hb12⟩
end Go.Proofs.Ytbmgengcacoiaaa.drawAgain
