/-
  DrawJoins is true for every input: a text's number goes on from that of its beginning. No condition.
-/
import Derived.Test.YtbmgengcacoiaaaDrawC
import Derived.Test.YtbmgengcacoiaaaShort
import Derived.Laws.BytesArg
namespace Go.Proofs.Ytbmgengcacoiaaa.drawJoins
open Go.ChangeShapes Go.WideShapes Go.ChangeAt Go.RowKit
open Go.Proofs.Ytbmgengcacoiaaa.draw
set_option linter.unusedVariables false
set_option linter.unusedSimpArgs false

theorem hsh_left (t x : ByteArray) : ∀ k, k ≤ t.size → hsh (t ++ x) k = hsh t k
  | 0, _ => rfl
  | k + 1, h => by
    have h1 : k < t.size := by omega
    have h2 : k < (t ++ x).size := by rw [ByteArray.size_append]; omega
    rw [hsh_succ _ k h2, hsh_succ _ k h1, hsh_left t x k (by omega), ByteArray.getElem_append_left h1]

theorem one_size (c : Int) : (strOfNums [c]).size = 1 := rfl
theorem one_get (c : Int) (h : 0 < (strOfNums [c]).size) : (strOfNums [c])[0] = UInt8.ofNat c.toNat := rfl
theorem hsh_join (t : ByteArray) (c : Int) (c0 : 0 ≤ c) (c1 : c ≤ 255) : hsh (t ++ strOfNums [c]) (t ++ strOfNums [c]).size = IntKind.u64.wrap (bits .xor .u64 (hsh t t.size) c * 1099511628211) := by
  have hs : (t ++ strOfNums [c]).size = t.size + 1 := by rw [ByteArray.size_append, one_size]
  have h2 : t.size < (t ++ strOfNums [c]).size := by omega
  have he : (t ++ strOfNums [c])[t.size] = UInt8.ofNat c.toNat := by
    rw [ByteArray.getElem_append_right (Nat.le_refl _)]
    simp only [Nat.sub_self]
    exact one_get c _
  have hc : IntKind.u64.wrap ((UInt8.ofNat c.toNat).toNat : Nat) = c := by
    rw [IntKind.wrap_u64, UInt8.toNat_ofNat']
    omega
  rw [hs, hsh_succ _ _ h2, hsh_left _ _ _ (Nat.le_refl _), he, hc]

set_option maxHeartbeats 1000000 in
theorem walk {w : World} (s : ByteArray) (hs : s.size ≤ 9223372036854775807) (c : Int) (c0 : 0 ≤ c) (c1 : c ≤ 255) :
    Calls Try.prog 7 #[.string s, .int .u8 c] w fun e w' => e = .returned (.bool true) ∧ Bl w w' := by
  have S := Lib.hid (fun w => short_any s 80 w hs (by omega))
  have hz := shortS_size s 80
  obtain ⟨t, ht⟩ : ∃ t, shortS s 80 = t := ⟨_, rfl⟩
  rw [ht] at S hz
  clear ht
  go_enter Try.func7, Try.ntmps7
  go_wp2_with fail
  refine (S.out _).mono ?_
  rintro e w' ⟨rfl, rfl⟩
  have hcv : ∀ w : World, (convert 43 9 (.slice (some ⟨w.heap.size, 0, none⟩) 1 1)).run Try.prog (w.alloc (.cells #[.int .u8 c] 5)) = .ok (.string (strOfNums [c])) (w.alloc (.cells #[.int .u8 c] 5)) := fun w =>
    run_convert_bytes_arg _ 43 5 Try.underlying43 Try.underlying5 w.heap.size 0 1 1 [c] rfl (fun i hi => by
      match i, hi with
      | 0, _ => simp) 9 Try.underlying9
  have hX := one_size c
  have hj := hsh_join t c c0 c1
  have hms : (t ++ strOfNums [c]).size ≤ 9223372036854775807 := by rw [ByteArray.size_append, hX]; omega
  obtain ⟨X, hXe⟩ : ∃ X, strOfNums [c] = X := ⟨_, rfl⟩
  rw [hXe] at hj hX hms
  simp only [hXe] at hcv
  have hadd := fun w => run_string_add_sum (P := Try.prog) w t X (by omega)
  have H1 := Lib.hid (fun w => hash_any (t ++ X) w hms)
  have H2 := Lib.hid (fun w => hash_any t w (by omega))
  have H3 := Lib.hid (fun w => hash_any ⟨#[]⟩ w (by decide))
  rw [hj] at H1
  obtain ⟨y, hy⟩ : ∃ y, hsh t t.size = y := ⟨_, rfl⟩
  rw [hy] at H1 H2
  clear hXe hj hy
  go_wp2_with fail
  refine (H1.out _).mono ?_
  rintro e w' ⟨rfl, rfl⟩
  go_wp2_with fail
  refine (H2.out _).mono ?_
  rintro e w' ⟨rfl, rfl⟩
  go_wp2_with fail
  refine (H3.out _).mono ?_
  rintro e w' ⟨rfl, rfl⟩
  rw [show hsh ⟨#[]⟩ (ByteArray.size ⟨#[]⟩) = 14695981039346656037 from rfl]
  go_wp2_with fail
  refine (lives02 _).mono ?_
  rintro e w9 ⟨rfl, hb9⟩
  go_wp2_with fail
  go_ret
  exact ⟨rfl, ((Bl.rfl' _).al _).tr hb9⟩
end Go.Proofs.Ytbmgengcacoiaaa.drawJoins
