/-
  Package rewrite: the example.
-/
import Derived.Test.YtnmehmlenbbfbaaRwD
import Derived.Great.BuildSlice
import Derived.Great.Walk
import Derived.Laws.CopyOwn
namespace Go.Proofs.Ytnmehmlenbbfbaa.mat
open Go.ChangeShapes Go.WideShapes Go.ChangeAt Go.RowKit
open Go.Proofs.Ytnmehmlenbbfbaa.heads
set_option linter.unusedVariables false
set_option linter.unusedSimpArgs false

abbrev qA : ByteArray := ⟨#[47, 97]⟩
abbrev qX : ByteArray := ⟨#[47, 120]⟩
abbrev qC : ByteArray := ⟨#[47, 99]⟩
abbrev qB : ByteArray := ⟨#[47, 98]⟩
abbrev qAB : ByteArray := ⟨#[47, 97, 47, 98]⟩
abbrev qXB : ByteArray := ⟨#[47, 120, 47, 98]⟩
abbrev nilS : Value := .slice none 0 0
theorem lv1 : rwF qA false qX qAB = qXB := by decide +kernel
theorem lv2 : rwF qA false qX qC = qC := by decide +kernel
theorem lv3 : rwF qA false sl qAB = qB := by decide +kernel
theorem lv4 : rwF qA false sl qA = sl := by decide +kernel
theorem sizeRu : (Try.prog.info? 35).map (·.size) = some 19 := by kernel_rfl
abbrev cRu (pp : ByteArray) (ex : Bool) (px : ByteArray) (sv dv : Value) : Array Value := #[S pp, .bool ex, .slice none 0 0, .slice none 0 0, I 0, I 0, I 0, I 0, S px, sv, dv, I 0, I 0, I 0, I 0, I 0, I 0, I 0, I 0]
theorem ru_set (w : World) (pp : ByteArray) (ex : Bool) (px : ByteArray) (sv dv : Value) (z : Array Value) (hz : z.size = 19) :
    ((w.alloc (.cells z 35)).setRow w.heap.size (cRu pp ex px sv dv)).heap[w.heap.size]? = some (oRu pp ex px sv dv) ∧ Bl w ((w.alloc (.cells z 35)).setRow w.heap.size (cRu pp ex px sv dv)) ∧ ((w.alloc (.cells z 35)).setRow w.heap.size (cRu pp ex px sv dv)).heap.size = w.heap.size + 1 := by
  refine ⟨setRow_heap _ _ _ _ _ _ (heap_alloc_new w (.cells z 35)), ?_, by simp⟩
  exact below_setRow ((Bl.rfl' w).al _) (Nat.le_refl _) _
theorem wpList_load_ru {ops : Array Oper} {rest : List Oper} {o : Oper} {a : Act} {w : World} {Q : Exit → Act → World → Prop} (x : Operand) (g : Nat) (pp : ByteArray) (ex : Bool) (px : ByteArray) (sv dv : Value)
    (hg : w.heap[g]? = some (oRu pp ex px sv dv)) (hw : Region.wanted o (yielded ops a.tmps) = true) (ho : o.op = .load 35 x) (hx : a.eval x = .pointer (some ⟨g, 0, none⟩))
    (h : wpList Try.prog ops Q rest (a.put o.dst (rV pp ex px sv dv)) w) : wpList Try.prog ops Q (o :: rest) a w :=
  BigFrame.wpList_want hw fun K hK => wp_load_row 35 x ho g hx 35 (cRu pp ex px sv dv) (0, 0) _ hg Try.underlying35 rfl sizeRu (hK _ _ h)
set_option maxRecDepth 20000 in
set_option maxHeartbeats 8000000 in
theorem rwlives_any (w : World) : Calls Try.prog 15 #[] w fun e w' => e = .returned (.bool true) ∧ Bl w w' := by
  go_enter Try.func15, Try.ntmps15
  go_upto_region 1 with fail
  apply wp_region_lit
  refine wpList_buildTo rfl 25 _ rfl (some 3) rfl #[S qA, .bool false, .slice none 0 0] (by kernel_rfl) ?_
  refine wpList_buildTo rfl 35 _ rfl (some 4) rfl (cRu qA false qX nilS nilS) (by kernel_rfl) ?_
  refine Great.wpList_runTo rfl (some 1) rfl (.pointer (some ⟨World.heap w |>.size, 0, none⟩)) (World.alloc w (.cells (cRu ⟨#[]⟩ false ⟨#[]⟩ nilS nilS) 35)) ?_ ?_
  · go_simp
  refine wpList_store_rowTo rfl 35 _ _ rfl rfl (World.heap w |>.size) (cRu qA false qX nilS nilS) rfl rfl 35 (cRu ⟨#[]⟩ false ⟨#[]⟩ nilS nilS) (heap_alloc_new w (oRu ⟨#[]⟩ false ⟨#[]⟩ nilS nilS)) sizeRu rfl (by kernel_rfl) ?_
  apply wpList_nil
  obtain ⟨b1, i1, s1⟩ := ru_set w qA false qX nilS nilS (cRu ⟨#[]⟩ false ⟨#[]⟩ nilS nilS) rfl
  obtain ⟨w1, h1⟩ : ∃ X, (w.alloc (.cells (cRu ⟨#[]⟩ false ⟨#[]⟩ nilS nilS) 35)).setRow w.heap.size (cRu qA false qX nilS nilS) = X := ⟨_, rfl⟩
  rw [h1] at b1 i1 s1 ⊢
  obtain ⟨r1, e1⟩ : ∃ X, w.heap.size = X := ⟨_, rfl⟩
  rw [e1] at b1 ⊢
  clear h1 s1 e1
  replace b1 := Lib.hid b1
  replace i1 := Lib.hid i1
  simp only [Act.put, List.setIfInBounds_toArray, List.set_cons_zero, List.set_cons_succ]
  go_upto_region 2 with fail
  apply wp_region_lit
  refine wpList_buildTo rfl 25 _ rfl (some 5) rfl #[S qA, .bool false, .slice none 0 0] (by kernel_rfl) ?_
  refine wpList_buildTo rfl 35 _ rfl (some 6) rfl (cRu qA false sl nilS nilS) (by kernel_rfl) ?_
  refine Great.wpList_runTo rfl (some 2) rfl (.pointer (some ⟨World.heap w1 |>.size, 0, none⟩)) (World.alloc w1 (.cells (cRu ⟨#[]⟩ false ⟨#[]⟩ nilS nilS) 35)) ?_ ?_
  · go_simp
  refine wpList_store_rowTo rfl 35 _ _ rfl rfl (World.heap w1 |>.size) (cRu qA false sl nilS nilS) rfl rfl 35 (cRu ⟨#[]⟩ false ⟨#[]⟩ nilS nilS) (heap_alloc_new w1 (oRu ⟨#[]⟩ false ⟨#[]⟩ nilS nilS)) sizeRu rfl (by kernel_rfl) ?_
  apply wpList_nil
  obtain ⟨b2, i2, s2⟩ := ru_set w1 qA false sl nilS nilS (cRu ⟨#[]⟩ false ⟨#[]⟩ nilS nilS) rfl
  obtain ⟨w2, h2⟩ : ∃ X, (w1.alloc (.cells (cRu ⟨#[]⟩ false ⟨#[]⟩ nilS nilS) 35)).setRow w1.heap.size (cRu qA false sl nilS nilS) = X := ⟨_, rfl⟩
  rw [h2] at b2 i2 s2 ⊢
  obtain ⟨r2, e2⟩ : ∃ X, w1.heap.size = X := ⟨_, rfl⟩
  rw [e2] at b2 ⊢
  clear h2 s2 e2
  have g1 := blk_bl b1.out i2
  have hb0 := i1.out.tr i2
  have hq := Bl.rfl' w2
  clear i2 i1 b1
  replace hb0 := Lib.hid hb0
  simp only [Act.put, List.setIfInBounds_toArray, List.set_cons_zero, List.set_cons_succ]
  go_upto_region 3 with fail
  have hB := blk_bl g1 hq
  have C := rwpath_any qA false qX nilS nilS qAB w2 (by decide) (by decide) (by decide)
  rw [lv1] at C
  replace C := Lib.hid C
  replace hq := Lib.hid hq
  replace hB := Lib.hid hB
  go_upto_region 99 with (refine wpList_load_ru _ r1 _ _ _ _ _ hB.out rfl rfl rfl ?_)
  with_reducible refine (C.out).mono ?_
  rintro e j1 ⟨rfl, hn⟩
  replace hq := hq.out.tr hn
  clear hn C hB
  have hB := blk_bl g1 hq
  have C := rwpath_any qA false qX nilS nilS qC j1 (by decide) (by decide) (by decide)
  rw [lv2] at C
  replace C := Lib.hid C
  replace hq := Lib.hid hq
  replace hB := Lib.hid hB
  go_upto_region 99 with (refine wpList_load_ru _ r1 _ _ _ _ _ hB.out rfl rfl rfl ?_)
  with_reducible refine (C.out).mono ?_
  rintro e j2 ⟨rfl, hn⟩
  replace hq := hq.out.tr hn
  clear hn C hB
  have hB := blk_bl b2 hq
  have C := rwpath_any qA false sl nilS nilS qAB j2 (by decide) (by decide) (by decide)
  rw [lv3] at C
  replace C := Lib.hid C
  replace hq := Lib.hid hq
  replace hB := Lib.hid hB
  go_upto_region 99 with (refine wpList_load_ru _ r2 _ _ _ _ _ hB.out rfl rfl rfl ?_)
  with_reducible refine (C.out).mono ?_
  rintro e j3 ⟨rfl, hn⟩
  replace hq := hq.out.tr hn
  clear hn C hB
  have hB := blk_bl b2 hq
  have C := rwpath_any qA false sl nilS nilS qA j3 (by decide) (by decide) (by decide)
  rw [lv4] at C
  replace C := Lib.hid C
  replace hq := Lib.hid hq
  replace hB := Lib.hid hB
  go_upto_region 99 with (refine wpList_load_ru _ r2 _ _ _ _ _ hB.out rfl rfl rfl ?_)
  with_reducible refine (C.out).mono ?_
  rintro e j4 ⟨rfl, hn⟩
  replace hq := hq.out.tr hn
  clear hn C hB
  have hz := hb0.out.tr hq
  replace hz := Lib.hid hz
  go_wp2_with fail
  go_ret
  exact ⟨rfl, hz.out⟩
end Go.Proofs.Ytnmehmlenbbfbaa.mat
