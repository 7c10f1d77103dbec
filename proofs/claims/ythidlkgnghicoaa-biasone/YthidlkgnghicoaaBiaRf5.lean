/-
  The contract of the document's Small of layer 9, as a walk over the translated text. The condition: texts are of at most a million bytes.
-/
import Derived.Test.YthidlkgnghicoaaBia3
namespace Go.Proofs.Ythidlkgnghicoaa
open Go.ChangeShapes Go.WideShapes Go.ChangeAt Go.RowKit
namespace Bia
open Bas Txt
set_option linter.unusedVariables false

theorem small_great {c : Int} (h0 : 65 ≤ c) (h1 : c ≤ 90) : smallI c = c + 32 := by unfold smallI; rw [if_pos ⟨h0, h1⟩]
theorem small_low {c : Int} (h : c < 65) : smallI c = c := by unfold smallI; rw [if_neg (by omega)]
theorem small_high {c : Int} (h : 90 < c) : smallI c = c := by unfold smallI; rw [if_neg (by omega)]
theorem small_snoc (l : List Int) (k : Nat) (h : k < l.length) : (l.take (k + 1)).map smallI = (l.take k).map smallI ++ [smallI (nth l k)] := by
  rw [take_snoc _ _ h, List.map_append]; rfl
set_option maxHeartbeats 8000000 in
set_option maxRecDepth 100000 in
theorem rSmall_any (s : ByteArray) (w : World) (hs : s.size ≤ 1000000) :
    Calls Try.prog 23 #[.string s] w fun e w' => e = .returned (.string (strOf ((bytesL s).map smallI))) ∧ Below w.heap.size w w' := by
  have HL : Hid ((bytesL s).length = s.size) := bytesL_length s
  go_enter Try.func23, Try.ntmps23
  go_wp2
  go_loopw [3, 4] (fun o i wr => ∃ k : Nat, i = .int .i64 k ∧ k ≤ s.size ∧ OutOf w wr o (((bytesL s).take k).map smallI)) (fun _ i _ => s.size - (intOf i).toNat)
  case atStart => exact ⟨0, rfl, Nat.zero_le _, seg_empty _ _ _, fun g hg => by simp [Value.ownBlock] at hg; omega, (Below.refl _ _).alloc (Nat.le_refl _) _⟩
  case round =>
    obtain ⟨k, rfl, hk, hO⟩ := hrel
    have HO : Hid (OutOf w wr u3 (((bytesL s).take k).map smallI)) := hO
    clear hO
    by_cases hlt : k < s.size
    · have i1 : (k : Int) < (s.size : Int) := by omega
      have hkL : k < (bytesL s).length := by rw [HL.out]; exact hlt
      have e1 : ((s[k]'hlt).toNat : Int) = nth (bytesL s) k := str_nth s k hlt
      have hc := bytesL_byte s _ (nth_mem hkL)
      have HT : Hid (((bytesL s).take (k + 1)).map smallI = ((bytesL s).take k).map smallI ++ [smallI (nth (bytesL s) k)] ∧ (((bytesL s).take k).map smallI).length ≤ 1000000) := by
        refine ⟨small_snoc _ _ hkL, ?_⟩
        rw [List.length_map, List.length_take]; omega
      obtain ⟨c, hce⟩ : ∃ c, nth (bytesL s) k = c := ⟨_, rfl⟩
      obtain ⟨t, ht⟩ : ∃ t, ((bytesL s).take k).map smallI = t := ⟨_, rfl⟩
      rw [hce] at e1 HT hc
      rw [ht] at HT HO
      clear hce ht hkL
      obtain ⟨c0, c1⟩ := hc
      have HSA : Hid (∀ o, OutOf w (wr.alloc o) u3 t) := fun o => HO.out.below ((Below.refl _ _).alloc (Nat.le_refl _) o)
      by_cases hg : 65 ≤ c
      · by_cases hg2 : c ≤ 90
        · rw [small_great hg hg2] at HT
          go_wp2_with (at_builtin; go_must (refine wpList_append_seg rfl _ _ 48 48 rfl .u8 5 1 Try.underlying48 info_u8 u3 t [c + 32] rfl (HSA.out _).1 _ rfl (src_row (l := [c + 32]) Try.underlying48 (by exact row_new .u8 wr [c + 32] _ _ rfl) rfl (fun h => by cases h)) (by have := HT.out.2; unfold maxLen; simp; omega) (by have := HT.out.2; simp; omega) ?_; intro vo w4 hs4 hc4 hm4))
          have HF4 : Hid (OutOf w w4 vo (t ++ [c + 32])) := HO.out.app ((Below.refl _ _).alloc (Nat.le_refl _) _) hs4 hc4 hm4
          clear hs4 hc4 hm4 HSA
          exact ⟨⟨k + 1, by go_num, by omega, by rw [HT.out.1]; exact HF4.out⟩, by simp [intOf]; omega⟩
        · have hg3 : 90 < c := by omega
          clear hg2
          rw [small_high hg3] at HT
          go_wp2_with (at_builtin; go_must (refine wpList_append_seg rfl _ _ 48 48 rfl .u8 5 1 Try.underlying48 info_u8 u3 t [c] rfl (HSA.out _).1 _ rfl (src_row (l := [c]) Try.underlying48 (by exact row_new .u8 wr [c] _ _ rfl) rfl (fun h => by cases h)) (by have := HT.out.2; unfold maxLen; simp; omega) (by have := HT.out.2; simp; omega) ?_; intro vo w4 hs4 hc4 hm4))
          have HF4 : Hid (OutOf w w4 vo (t ++ [c])) := HO.out.app ((Below.refl _ _).alloc (Nat.le_refl _) _) hs4 hc4 hm4
          clear hs4 hc4 hm4 HSA
          exact ⟨⟨k + 1, by go_num, by omega, by rw [HT.out.1]; exact HF4.out⟩, by simp [intOf]; omega⟩
      · have hg3 : c < 65 := by omega
        clear hg
        rw [small_low hg3] at HT
        go_wp2_with (at_builtin; go_must (refine wpList_append_seg rfl _ _ 48 48 rfl .u8 5 1 Try.underlying48 info_u8 u3 t [c] rfl (HSA.out _).1 _ rfl (src_row (l := [c]) Try.underlying48 (by exact row_new .u8 wr [c] _ _ rfl) rfl (fun h => by cases h)) (by have := HT.out.2; unfold maxLen; simp; omega) (by have := HT.out.2; simp; omega) ?_; intro vo w4 hs4 hc4 hm4))
        have HF4 : Hid (OutOf w w4 vo (t ++ [c])) := HO.out.app ((Below.refl _ _).alloc (Nat.le_refl _) _) hs4 hc4 hm4
        clear hs4 hc4 hm4 HSA
        exact ⟨⟨k + 1, by go_num, by omega, by rw [HT.out.1]; exact HF4.out⟩, by simp [intOf]; omega⟩
    · have HF : Hid ((bytesL s).take k = bytesL s) := List.take_of_length_le (by rw [HL.out]; omega)
      rw [HF.out] at HO
      obtain ⟨ao, co, hvo, hro, -⟩ := HO.out.1.form
      rw [List.length_map, HL.out] at hvo
      subst hvo
      have hcv := run_string wr _ s.size co _ hro (by rw [List.length_map, HL.out])
      have HB : Hid (Below w.heap.size w wr) := HO.out.2.2
      clear hro HO
      go_wp2
      go_ret
      exact ⟨rfl, HB.out⟩
end Bia
end Go.Proofs.Ythidlkgnghicoaa
