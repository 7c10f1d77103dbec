/-
  The contract of the document's Small of layer 10, as a walk over the translated text. The condition: texts are of at most 100000 bytes.
-/
import Derived.Test.YtemgbmacdpnepaaPunMat2
import Derived.Test.YtemgbmacdpnepaaBiaRf5
import Derived.Test.YtemgbmacdpnepaaCod
import Derived.Deep.RegionHeld3
import Derived.Deep.CutBlock
namespace Go.Proofs.Ytemgbmacdpnepaa
open Go.ChangeShapes Go.WideShapes Go.ChangeAt Go.RowKit
namespace Pun
open Bas Cod Bia Sca Stp
set_option linter.unusedVariables false

set_option maxHeartbeats 2000000 in
theorem rSmallT_any (s : ByteArray) (w : World) (hs : s.size ≤ 100000) :
    Calls Try.prog 24 #[.string s] w fun e w' => e = .returned (.string (Stp.strOf (smallT (bytesL s)))) ∧ Below w.heap.size w w' := by
  have HL : Hid ((bytesL s).length = s.size) := bytesL_length s
  go_enter Try.func24, Try.ntmps24
  go_wp2
  go_loopw [3, 4] (fun h i wr => ∃ k : Nat, i = .int .i64 k ∧ h = .int .i64 (hypK (bytesL s) k) ∧ k ≤ s.size ∧ wr = w) (fun _ i _ => s.size - (intOf i).toNat)
  case atStart => exact ⟨0, rfl, rfl, Nat.zero_le _, rfl⟩
  case round =>
    obtain ⟨k, rfl, rfl, hk, rfl⟩ := hrel
    by_cases hlt : k < s.size
    · have e1 : ((s[k]'hlt).toNat : Int) = nth (bytesL s) k := str_nth s _ hlt
      have i3 : (k : Int) < (s.size : Int) := by omega
      by_cases hh : nth (bytesL s) k = 45
      · have HF : Hid (hypK (bytesL s) (k + 1) = k) := hypK_hit hh
        rw [hh] at e1
        obtain ⟨h0, hh0⟩ : ∃ h0, hypK (bytesL s) k = h0 := ⟨_, rfl⟩
        rw [hh0]
        clear hh hh0
        go_wp2
        go_roundw
        case rel => exact ⟨k + 1, by go_num, by rw [HF.out], by omega, trivial⟩
        case measure => simp [intOf]; omega
      · have HF : Hid (hypK (bytesL s) (k + 1) = hypK (bytesL s) k) := hypK_miss hh
        obtain ⟨h0, hh0⟩ : ∃ h0, hypK (bytesL s) k = h0 := ⟨_, rfl⟩
        rw [hh0] at HF ⊢
        obtain ⟨y, hy⟩ : ∃ y, nth (bytesL s) k = y := ⟨_, rfl⟩
        rw [hy] at e1 hh
        have hh2 : (y == 45) = false := by simpa using hh
        clear hy hh0
        go_wp2
        go_roundw
        case rel => exact ⟨k + 1, by go_num, by rw [HF.out], by omega, trivial⟩
        case measure => simp [intOf]; omega
    · obtain rfl : k = s.size := by omega
      have hle := hypK_le (bytesL s) s.size
      have HH : Hid (hypK (bytesL s) s.size = hyp (bytesL s)) := by show _ = _; unfold hyp; rw [HL.out]
      rw [HH.out] at hle ⊢
      obtain ⟨h, hhe⟩ : ∃ h, hyp (bytesL s) = h := ⟨_, rfl⟩
      have HE : Hid (hyp (bytesL s) = h) := hhe
      rw [hhe] at hle ⊢
      have i3 : ¬ (s.size : Int) < (s.size : Int) := by omega
      have i4 : (h : Int) ≤ (s.size : Int) := by omega
      have HS9 : Hid (∀ w, Calls Try.prog 37 #[.string (s.extract h s.size)] w fun e w' => e = .returned (.string (Stp.strOf ((bytesL (s.extract h s.size)).map smallI))) ∧ Below w.heap.size w w') := fun w => rSmall_any (s.extract h s.size) w (by simp; omega)
      obtain ⟨r, hr⟩ : ∃ r, Stp.strOf ((bytesL (s.extract h s.size)).map smallI) = r := ⟨_, rfl⟩
      have HR : Hid (s.extract 0 h ++ r = Stp.strOf (smallT (bytesL s)) ∧ r.size ≤ 100000) := by
        refine ⟨?_, ?_⟩
        · unfold smallT
          rw [hhe, strOf_append, ← hr, bytesL_drop, ← bytesL_take, Stp.strOf_bytesL]
        · rw [← hr, strOf_size, List.length_map, bytesL_length]; simp; omega
      rw [hr] at HS9
      have g3 : ¬ 9223372036854775807 < (s.extract 0 h).size + r.size := by have := HR.out.2; simp; omega
      have g4 : ¬ 9223372036854775807 < min h s.size + r.size := by have := HR.out.2; omega
      have g5 : ¬ 9223372036854775807 < h + r.size := by have := HR.out.2; omega
      have g6 : h + r.size ≤ 9223372036854775807 := by omega
      have g7 : min h s.size + r.size ≤ 9223372036854775807 := by omega
      clear hr hhe hlt hk HH
      have B5 := (Below.refl wr.heap.size wr).drew
      go_wp2
      go_region_held3 (fun _ => True) (exact trivial) (first
        | (go_at_call 37; refine (HS9.out _).mono ?_; rintro e w5 ⟨rfl, b5⟩; have B5 := below_two B5 b5; have hF := trivial))
      go_wp2
      go_ret
      exact ⟨congrArg (fun z => Ending.returned (.string z)) HR.out.1, B5⟩
end Pun
end Go.Proofs.Ytemgbmacdpnepaa
