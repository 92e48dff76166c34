/-
  Package zones: those, count.
-/
import Derived.Test.YtjajhebnafaflaaZnB
namespace Go.Proofs.Ytjajhebnafaflaa.zones
open Go.ChangeShapes Go.WideShapes Go.ChangeAt Go.RowKit Go.Shelf
set_option linter.unusedVariables false
set_option linter.unusedSimpArgs false
attribute [local go_sem] Oper.semAt_some

theorem those_any (a : Option Addr) (L cap : Nat) (fn : Nat) (caps : Array Value) (w : World) : Calls Try.prog 30 #[.slice a L cap, .func (.func fn) #[] caps] w fun e w' => e = .returned (.func (.func 34) #[] #[.pointer (some ⟨w.heap.size, 0, none⟩), .pointer (some ⟨w.heap.size + 1, 0, none⟩)]) ∧ w' = (w.alloc (.cells #[.slice a L cap] 23)).alloc (.cells #[.func (.func fn) #[] caps] 38) := by
  go_enter Try.func30, Try.ntmps30
  go_wp2_with fail
  go_ret
  exact ⟨rfl, rfl⟩

/-- A function that tells of endpoints as long as what there is of w stays. -/
abbrev IsP (w : World) (fn : Nat) (caps : Array Value) (p : En → Bool) : Prop := IsF w.heap.size w.heap.size w fn caps p
theorem IsP.lift {B base : Nat} {w W : World} {fn : Nat} {caps : Array Value} {p : En → Bool} (h : IsP w fn caps p) (hb : Bl w W) (h1 : w.heap.size ≤ B) (h2 : w.heap.size ≤ base) : IsF B base W fn caps p :=
  ⟨h.ent, fun W' hK hB x => h.tells W' ⟨Nat.le_trans hb.size hK.size, fun k o hk hq ho _ => hK.same k o (by omega) (blk_bl hq hb) ho (by omega)⟩ (by omega) x⟩
theorem IsP.bl {w W : World} {fn : Nat} {caps : Array Value} {p : En → Bool} (h : IsP w fn caps p) (hb : Bl w W) : IsP W fn caps p := h.lift hb hb.size hb.size

theorem row_at {w W0 : World} {g o B base : Nat} {a : Option Addr} {R : List En} (hr : RowZ w g o a R) (hg : R = [] ∨ g < w.heap.size) (hb : Bl w W0) (hB : w.heap.size ≤ B) (hs : B + 1 < base) : ∃ g, g ≠ B ∧ g < base ∧ RowZ W0 g o a R := by
  rcases hg with rfl | hg
  · exact ⟨B + 1, by omega, hs, fun h => by simp at h⟩
  · exact ⟨g, by omega, by omega, hr.bl hb⟩
theorem those_stops (n : Nat) (hn : 1 ≤ n) (Bn Bf B base g o cap : Nat) (a : Option Addr) (R : List En) (hl : R.length ≤ 1000) (fn : Nat) (caps : Array Value) (p : En → Bool) (w : World) (hgB : g ≠ B) (hgb : g < base) (hbW : base ≤ w.heap.size) (hnB : Bn ≠ B) (hnb : Bn < base) (hfB : Bf ≠ B) (hfb : Bf < base)
    (hc : w.heap[Bn]? = some (.cells #[.slice a R.length cap] 23 (0, 0))) (hf : w.heap[Bf]? = some (.cells #[.func (.func fn) #[] caps] 38 (0, 0))) (hr : RowZ w g o a R) (hp : IsF B base w fn caps p) :
    SeqStopsK Fence.wide n Try.prog 34 #[.pointer (some ⟨Bn, 0, none⟩), .pointer (some ⟨Bf, 0, none⟩)] encI (KQ B base) (fun xs => xs = evZ p R R.length) (fun pre => pre <+: evZ p R R.length) R.length w := fun l J Jx W hW hJ _ hY h0 =>
  those1_in n hn l Bn Bf B base g o cap a R hl fn caps p J Jx W hJ hgB hgb (Nat.le_trans hbW hW.size) hnB hnb hfB hfb ((hW.block Bn (by omega)).trans hc) ((hW.block Bf (by omega)).trans hf) (hr.kept (fun x hx _ => (hW.block g (by omega)).trans hx)) (hp.kq ⟨hW.size, fun k o hk hq _ _ => (hW.block k (by omega)).trans hq⟩) hY h0

set_option maxRecDepth 100000 in
set_option maxHeartbeats 4000000 in
theorem count_any (v : Value) (R : List En) (fn : Nat) (caps : Array Value) (p : En → Bool) (w : World) (hv : EndsAt w v R) (hp : IsP w fn caps p) :
    Calls Try.prog 24 #[v, .func (.func fn) #[] caps] w fun e w' => e = .returned (I ((evZ p R R.length).length : Nat)) ∧ Bl w w' := by
  obtain ⟨a, g, o, cap, rfl, hr, hg, hl⟩ := hv
  refine (callsIn_wide (n := 6)).1 ?_
  refine callsIn_of_wp_marks Try.func24 rfl trivial ?_ rfl
  simp only [Try.ntmps24, List.size_toArray, List.length_cons, List.length_nil, Nat.reduceAdd, Nat.reduceSub, Array.replicate_succ, Array.replicate_zero, List.push_toArray, List.append_toArray, List.nil_append, List.cons_append]
  gi_wp2_with (refine ⟨trivial, ?_⟩; gi_at_call 30; refine (callsIn_wide.2 (those_any _ _ _ _ _ _)).mono ?_; rintro e w' ⟨rfl, rfl⟩)
  have hn0 := heap_alloc_new w (.cells #[I 0] 3)
  have hn1 := heap_alloc_new (w.alloc (.cells #[I 0] 3)) (.cells #[.slice a R.length cap] 23)
  have hn2 := heap_alloc_new ((w.alloc (.cells #[I 0] 3)).alloc (.cells #[.slice a R.length cap] 23)) (.cells #[.func (.func fn) #[] caps] 38)
  have bS := ((Boxed.new w 3 (I 0)).alloc (.cells #[.slice a R.length cap] 23)).alloc (.cells #[.func (.func fn) #[] caps] 38)
  replace hn1 := blk_bl hn1 ((Bl.rfl' _).al (.cells #[.func (.func fn) #[] caps] 38))
  simp only [World.size_alloc] at hn1 hn2
  have hB0 : Below w.heap.size w (((w.alloc (.cells #[I 0] 3)).alloc (.cells #[.slice a R.length cap] 23)).alloc (.cells #[.func (.func fn) #[] caps] 38)) := (((Below.refl _ w).alloc (Nat.le_refl _) _).alloc (by simp) _).alloc (by simp; omega) _
  have hsz : (((w.alloc (.cells #[I 0] 3)).alloc (.cells #[.slice a R.length cap] 23)).alloc (.cells #[.func (.func fn) #[] caps] 38)).heap.size = w.heap.size + 3 := by simp
  obtain ⟨W0, hW0⟩ : ∃ W0, ((w.alloc (.cells #[I 0] 3)).alloc (.cells #[.slice a R.length cap] 23)).alloc (.cells #[.func (.func fn) #[] caps] 38) = W0 := ⟨_, rfl⟩
  rw [hW0] at bS hB0 hsz hn1 hn2 ⊢
  clear hW0 hn0
  obtain ⟨g, hgB, hgW, hr0⟩ := row_at (B := w.heap.size) (base := w.heap.size + 3) hr hg hB0 (Nat.le_refl _) (by omega)
  have hp0 := hp.lift (B := w.heap.size) (base := w.heap.size + 3) hB0 (Nat.le_refl _) (by omega)
  refine wpIn_rangeFunc_ownH (F := Fence.wide) rfl (by omega) (gf := 34) (lb := #[.pointer (some ⟨w.heap.size + 1, 0, none⟩), .pointer (some ⟨w.heap.size + 1 + 1, 0, none⟩)]) rfl trivial (enters_of Try.func34 (by kernel_rfl) rfl)
    (those_stops _ (by omega) (w.heap.size + 1) (w.heap.size + 1 + 1) w.heap.size (w.heap.size + 3) g o cap a R hl fn caps p W0 hgB hgW (by omega) (by omega) (by omega) (by omega) (by omega) hn1 hn2 hr0 hp0) (fun h k => h.tr k) (fun W l o o' _ h hc _ => KQ.put W l o o' h hc) (Below.refl _ _) (fun _ => rfl)
    (fun pre W => Boxed W w.heap.size 3 (I (pre.length : Nat)) ∧ Below w.heap.size w W)
    (fun _ _ _ => False)
    (OwnFrom.and (Own.from (boxed_own _ _ _) _) (ownFrom_below (Nat.le_refl _) (by omega)))
    (fun _ _ _ _ _ hs _ _ => hs)
    ⟨bS, hB0⟩
    (fun x a' W => a' = { tmps := #[.slice a R.length cap, .func (.func fn) #[] caps, undef, undef, I 0, .pointer (some ⟨w.heap.size, 0, none⟩), .slice a R.length cap, .func (.func fn) #[] caps, .func (.func 34) #[] #[.pointer (some ⟨w.heap.size + 1, 0, none⟩), .pointer (some ⟨w.heap.size + 1 + 1, 0, none⟩)], I x, undef, undef, undef], defers := [] }) ?hAx ?assign ?body ?done ?stop
  case hAx =>
    rintro x a' _ X Y row h3 hg hrow
    exact h3
  case assign =>
    rintro l pre x W K ⟨hi, hB⟩ hK
    gi_wp2
    exact hK _ _ (KeepsFrom.refl _ _) (KQ.rfl' _ _ _) ⟨hi, hB⟩ (by simp [encI])
  case body =>
    rintro l pre x a' W hl - ⟨hi, hB⟩ rfl hlt
    have hc := hi.cell
    have hf := hi.frozen
    have hwr : IntKind.i64.wrap ((pre.length : Int) + 1) = ((pre.length + 1 : Nat) : Int) := by rw [IntKind.wrap_i64]; omega
    gi_wp2
    exact ⟨(KeepsOthers.setCell _ _ _).from _, KQ.set _ _ _ _, by rw [List.length_append, List.length_singleton]; exact hi.set _, hB.setCell (p := ⟨w.heap.size, 0, none⟩) (Nat.le_refl _) _⟩
  case done =>
    rintro D ys W hD rfl ⟨hb, hB⟩ hK
    have hc := hb.cell
    clear hb
    gi_wp2
    refine ⟨by simp, .inl ⟨_, _, rfl, run_takeDeferred hK, ?_⟩⟩
    exact ⟨_, results_tmp rfl _ _ _, rfl, hB.trans (belowK_b (w := w) (Nat.le_refl _) W D _ _ (by omega) hK rfl rfl)⟩
  case stop =>
    rintro D c pre W _ _ h _
    exact h.elim
end Go.Proofs.Ytjajhebnafaflaa.zones
