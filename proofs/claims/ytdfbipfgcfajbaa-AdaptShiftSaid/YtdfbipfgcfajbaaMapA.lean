/-
  A map that is made anew, with keys that are written out: putting a new key in, looking one up.
-/
import Derived.Test.YtdfbipfgcfajbaaGen
import Derived.MapKept
import Derived.WideMake
namespace Go.Proofs.Ytdfbipfgcfajbaa
open Go.ChangeShapes Go.WideShapes Go.ChangeAt Go.RowKit
set_option linter.unusedVariables false
set_option linter.unusedSimpArgs false

theorem set_alloc (w : World) (o o' : Obj) : ({ w.alloc o with heap := (w.alloc o).heap.setIfInBounds w.heap.size o' } : World) = w.alloc o' := by
  have e : (w.alloc o).heap = w.heap.push o := rfl
  have e' : (w.heap.push o).setIfInBounds w.heap.size o' = w.heap.push o' := by
    apply Array.ext
    · simp
    · intro i h1 h2
      simp only [Array.size_setIfInBounds, Array.size_push] at h1 h2
      by_cases hi : i = w.heap.size
      · subst hi; simp
      · rw [Array.getElem_setIfInBounds_ne (by simp; omega) (by omega), Array.getElem_push_lt (by omega), Array.getElem_push_lt (by omega)]
  rw [e, e']
  rfl
theorem run_put {P : Program} (w : World) (mty kt et : TypeId) (d : TypeDesc) (es : Array MapEntry) (clock : Nat) (k val : Value) (hm : P.underlying mty = some (.map kt et)) (hk : P.underlying kt = some d) (hK : MapKept.IsKey d k) (hf : Instr.findNow d k es.toList 0 = some none) :
    (Instr.mapUpdate mty (.map (some w.heap.size)) k val).run P (w.alloc (.map es clock)) = .ok () (w.alloc (.map (es.push { key := k, val := val, born := clock }) (clock + 1))) := by
  have hb := (MapKept.heap_alloc w (.map es clock)).1
  have hc : (Instr.checkKey false 10000 kt k).run P (w.alloc (.map es clock)) = .ok () (w.alloc (.map es clock)) := MapKept.run_checkKey hk hK false 9999
  have hs := MapKept.run_setObj_map (P := P) (.map (es.push { key := k, val := val, born := clock }) (clock + 1)) hb
  rw [set_alloc] at hs
  simp [Instr.mapUpdate, run_underlying hm, MapKept.run_getObj_map hb, hc, MapKept.run_findKey hk hf, hs, Result.andThen]
theorem run_get {P : Program} (w : World) (mty kt et : TypeId) (d : TypeDesc) (es : Array MapEntry) (clock : Nat) (r : Nat) (k v : Value) (i : Nat) (hm : P.underlying mty = some (.map kt et)) (hk : P.underlying kt = some d) (hK : MapKept.IsKey d k) (hb : w.heap[r]? = some (.map es clock)) (hf : Instr.findNow d k es.toList 0 = some (some (i, v))) :
    (Instr.lookup mty (.map (some r)) k false).run P w = .ok v w := by
  have hc : (Instr.checkKey es.isEmpty 10000 kt k).run P w = .ok () w := MapKept.run_checkKey hk hK _ 9999
  simp [Instr.lookup, run_underlying hm, MapKept.run_getObj_map hb, hc, MapKept.run_findKey hk hf, Result.andThen]
end Go.Proofs.Ytdfbipfgcfajbaa
