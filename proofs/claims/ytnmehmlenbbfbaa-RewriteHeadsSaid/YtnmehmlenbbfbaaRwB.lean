/-
  Package rewrite: paths made of numbers.
-/
import Derived.Test.YtnmehmlenbbfbaaRwA
import Derived.Test.YtnmehmlenbbfbaaHdB
import Derived.Test.YtnmehmlenbbfbaaAround
import Derived.Test.YtnmehmlenbbfbaaGen
namespace Go.Proofs.Ytnmehmlenbbfbaa.mat
open Go.ChangeShapes Go.WideShapes Go.ChangeAt Go.RowKit
open Go.Proofs.Ytnmehmlenbbfbaa.heads
set_option linter.unusedVariables false
set_option linter.unusedSimpArgs false

def prT (j : Nat) : ByteArray := [(⟨#[97]⟩ : ByteArray), ⟨#[98]⟩, ⟨#[120]⟩, ⟨#[97, 46, 98]⟩, ⟨#[99, 45, 49]⟩, ⟨#[95]⟩].getD j ⟨#[]⟩
abbrev oPr : Obj := .cells #[S ⟨#[97]⟩, S ⟨#[98]⟩, S ⟨#[120]⟩, S ⟨#[97, 46, 98]⟩, S ⟨#[99, 45, 49]⟩, S ⟨#[95]⟩] 9
abbrev longP : ByteArray := ⟨#[47, 97, 45, 108, 111, 110, 103, 45, 111, 110, 101, 45, 111, 102, 45, 109, 97, 110, 121, 45, 98, 121, 116, 101, 115, 45, 97, 115, 45, 105, 116, 45, 109, 97, 121, 45, 98, 101]⟩
theorem cellPr {v : World} {b : Nat} (hb : v.heap[b]? = some oPr) (j : Nat) (hj : j < 6) : v.cell? ⟨b, j, none⟩ = some (.string (prT j)) := by
  rw [cell_at hb j]
  rcases j with _ | _ | _ | _ | _ | _ | j
  all_goals first | rfl | omega
theorem pr_ok (j : Nat) (hj : j < 6) : (prT j).size ≤ 3 ∧ (prT j).data.toList ≠ [] ∧ ∃ q, runL (some 47) (prT j).data.toList = some q ∧ q ≠ 47 := by
  rcases j with _ | _ | _ | _ | _ | _ | j
  all_goals first | exact ⟨by decide, by decide, _, rfl, by decide⟩ | omega
def ofL : Nat → Nat → Nat → ByteArray → Nat × ByteArray
  | 0, i, k, s => (k, s)
  | f + 1, i, k, s => if i < k % 4 then ofL f (i + 1) (k / 4 / 6 + 5 * i) ((s ++ sl) ++ prT (k / 4 % 6)) else (k, s)
def ofT (k : Nat) : ByteArray := if (ofL 4 0 k ⟨#[]⟩).1 % 29 = 3 then (ofL 4 0 k ⟨#[]⟩).2 ++ longP else (ofL 4 0 k ⟨#[]⟩).2
def ofN (k : Nat) : ByteArray := if ofT k = ⟨#[]⟩ then sl else ofT k
def ofF (n : Int) : ByteArray := ofN (around n 1000000).toNat
theorem app_l2 (a b : ByteArray) : (a ++ b).data.toList = a.data.toList ++ b.data.toList := by
  rw [ByteArray.data_append, Array.toList_append]
theorem ofL_ok : ∀ (f i k : Nat) (s : ByteArray), (s = ⟨#[]⟩ ∨ Deep s) → ((ofL f i k s).2 = ⟨#[]⟩ ∨ Deep (ofL f i k s).2) ∧ (ofL f i k s).2.size ≤ s.size + 4 * f
  | 0, i, k, s, h => ⟨h, by simp [ofL]⟩
  | f + 1, i, k, s, h => by
    rw [ofL]
    split
    · obtain ⟨h1, h2, q, h3, h4⟩ := pr_ok (k / 4 % 6) (by omega)
      have hd : Deep ((s ++ sl) ++ prT (k / 4 % 6)) := deep_app h (by rw [app_l2, app_l2, List.append_assoc]; rfl) h2 h3 h4
      obtain ⟨i1, i2⟩ := ofL_ok f (i + 1) (k / 4 / 6 + 5 * i) _ (Or.inr hd)
      have hs : ((s ++ sl) ++ prT (k / 4 % 6)).size ≤ s.size + 4 := by
        rw [ByteArray.size_append, ByteArray.size_append]
        have : sl.size = 1 := rfl
        omega
      exact ⟨i1, by omega⟩
    · exact ⟨h, by simp⟩
theorem ofN_ok (k : Nat) : pathF (ofN k) = true ∧ (ofN k).size ≤ 54 := by
  obtain ⟨h1, h2⟩ := ofL_ok 4 0 k ⟨#[]⟩ (Or.inl rfl)
  have h0 : (⟨#[]⟩ : ByteArray).size = 0 := rfl
  have hT : (ofT k = ⟨#[]⟩ ∨ Deep (ofT k)) ∧ (ofT k).size ≤ 54 := by
    unfold ofT
    split
    · refine ⟨Or.inr (deep_app (l := longP.data.toList.tail) h1 (by rw [app_l2]; rfl) (by decide) (q := 101) (by decide) (by decide)), ?_⟩
      rw [ByteArray.size_append]
      have : longP.size = 38 := rfl
      omega
    · exact ⟨h1, by omega⟩
  unfold ofN
  split
  · exact ⟨path_sl, by decide⟩
  · rename_i hne
    rcases hT.1 with h | h
    · exact absurd h hne
    · exact ⟨deep_path h (by omega), hT.2⟩
end Go.Proofs.Ytnmehmlenbbfbaa.mat
