/-
  The contract of the document's Read of layer 10, as a walk over the translated text. The condition: texts are of at most 4000 bytes.
-/
import Derived.Test.YtemgbmacdpnepaaPunRf2
namespace Go.Proofs.Ytemgbmacdpnepaa
open Go.ChangeShapes Go.WideShapes Go.ChangeAt Go.RowKit
namespace Pun
open Bas Cod Bia Sca Fen Stp
set_option linter.unusedVariables false

set_option maxHeartbeats 2000000 in
theorem rRead_any (s : ByteArray) (w : World) (hs : s.size ≤ 4000) :
    Calls Try.prog 14 #[.string s] w fun e w' => ∃ v, e = .returned (.tuple #[v, .int .i64 (rdQ (bytesL s)), .int .i64 (bahL (bytesL s))]) ∧ Seg .u32 w' v (rdL (bytesL s)) ∧ Below w.heap.size w w' := by
  have HL : Hid ((bytesL s).length = s.size) := bytesL_length s
  obtain ⟨R, hR⟩ : ∃ R, bahL (bytesL s) = R := ⟨_, rfl⟩
  have HR0 : Hid (bahL (bytesL s) = R) := hR
  rw [hR]
  have HR : Hid (0 + bahL ((bytesL s).drop 0) = R) := by show _ = _; simpa using hR
  obtain ⟨Q, hQ⟩ : ∃ Q, rdQ (bytesL s) = Q := ⟨_, rfl⟩
  obtain ⟨M, hM⟩ : ∃ M, rdL (bytesL s) = M := ⟨_, rfl⟩
  have HQM : Hid (rdQ (bytesL s) = Q ∧ rdL (bytesL s) = M) := ⟨hQ, hM⟩
  rw [hQ, hM]
  clear hR hQ hM
  go_enter Try.func14, Try.ntmps14
  go_wp2
  go_loopw [5] (fun i wr => ∃ k : Nat, i = .int .i64 k ∧ k ≤ s.size ∧ k + bahL ((bytesL s).drop k) = R ∧ wr = w) (fun i _ => s.size - (intOf i).toNat)
  case atStart => exact ⟨0, rfl, Nat.zero_le _, HR.out, rfl⟩
  case round =>
    clear HR
    obtain ⟨k, rfl, hk, hr, hw⟩ := hrel
    have hw := hw.symm
    subst hw
    have HR : Hid (k + bahL ((bytesL s).drop k) = R) := hr
    clear hr
    by_cases hlt : k < s.size
    · have hkL : k < (bytesL s).length := by rw [HL.out]; exact hlt
      have e1 : ((s[k]'hlt).toNat : Int) = nth (bytesL s) k := str_nth s _ hlt
      have i3 : (k : Int) < (s.size : Int) := by omega
      by_cases hh : nth (bytesL s) k < 128
      · have HF : Hid (k + 1 + bahL ((bytesL s).drop (k + 1)) = R) := by
          have := HR.out
          rw [drop_at _ _ hkL, bahL, if_pos hh] at this
          show _ = _
          omega
        obtain ⟨y, hy⟩ : ∃ y, nth (bytesL s) k = y := ⟨_, rfl⟩
        rw [hy] at e1 hh
        have hh2 : ¬ y > 127 := by omega
        clear hy HR hkL
        go_wp2
        go_roundw
        case rel => exact ⟨k + 1, by go_num, by omega, HF.out, trivial⟩
        case measure => simp [intOf]; omega
      · have HF : Hid (k = R ∧ Q = 3 ∧ M = []) := by
          have h1 := HR.out
          rw [drop_at _ _ hkL, bahL, if_neg hh] at h1
          have h2 : bahL (bytesL s) < (bytesL s).length := by rw [HR0.out, HL.out]; omega
          refine ⟨h1, ?_, ?_⟩
          · rw [← HQM.out.1]; unfold rdQ; rw [if_pos h2]
          · rw [← HQM.out.2]; unfold rdL; rw [if_pos h2]
        obtain ⟨y, hy⟩ : ∃ y, nth (bytesL s) k = y := ⟨_, rfl⟩
        rw [hy] at e1 hh
        have hh2 : y > 127 := by omega
        clear hy HR hkL
        go_wp2
        go_ret3
        exact ⟨.slice none 0 0, by rw [← HF.out.1, HF.out.2.1]; first | done | rfl, by rw [HF.out.2.2]; exact seg_nil _ _, Below.refl _ _⟩
    · have HF : Hid (s.size = R) := by
        have := HR.out
        rw [List.drop_of_length_le (by rw [HL.out]; omega), bahL] at this
        show _ = _
        omega
      have HN : Hid (¬ bahL (bytesL s) < (bytesL s).length) := by show ¬ _; rw [HR0.out, HL.out, ← HF.out]; omega
      have i3 : ¬ (k : Int) < (s.size : Int) := by omega
      clear HR
      go_wp2_with fail
      refine (rDen_any s w hs (bahL_all (by have := HN.out; have := bahL_le (bytesL s); omega))).mono ?_
      rintro e w3 ⟨hq, hb3⟩
      have HB3 : Hid (Below w.heap.size w w3) := hb3
      clear hb3
      rcases hq with ⟨hD, rfl⟩ | ⟨v, L, hD, rfl, hS, hf⟩
      · have HX : Hid (Q = 4 ∧ M = []) := by
          refine ⟨?_, ?_⟩
          · rw [← HQM.out.1]; unfold rdQ endQ; rw [if_neg HN.out, hD]
          · rw [← HQM.out.2]; unfold rdL endL; rw [if_neg HN.out, hD]
        clear hD
        go_wp2
        go_ret3
        exact ⟨.slice none 0 0, by rw [← HF.out, HX.out.1]; first | done | rfl, by rw [HX.out.2]; exact seg_nil _ _, HB3.out⟩
      · have HX : Hid (Q = 0 ∧ M = L ∧ Seg .u32 w3 v L) := by
          refine ⟨?_, ?_, hS⟩
          · rw [← HQM.out.1]; unfold rdQ endQ; rw [if_neg HN.out, hD]
          · rw [← HQM.out.2]; unfold rdL endL; rw [if_neg HN.out, hD]
        clear hD hS hf
        go_wp2
        go_ret3
        exact ⟨v, by rw [← HF.out, HX.out.1]; first | done | rfl, by rw [HX.out.2.1]; exact HX.out.2.2, HB3.out⟩
end Pun
end Go.Proofs.Ytemgbmacdpnepaa
