/-
  What the laws on both machines of layer 12 share. No statement of the program; no condition.
-/
import Derived.Test.YtlifobdooophbaaDoorBOSWr2
import Derived.Test.YtlifobdooophbaaDoorBOAwk
import Derived.Test.YtlifobdooophbaaDoorBOGrt
import Derived.Test.YtlifobdooophbaaDoorPair
namespace Go.Proofs.YtlifobdooophbaaDoor
open Go.ChangeShapes Go.WideShapes Go.ChangeAt Go.RowKit
namespace BO
open Bas Sca Stp Scn Cod
set_option linter.unusedVariables false

/-- The text of a list. -/
abbrev txtS (π : Par) (l : List Int) : List Int := allS (oneS π) (nxtS π) (e0 π) l
theorem txt_byte (π : Par) (l : List Int) (h : ∀ c ∈ l, isB c = true ∧ 0 ≤ c) : ∀ x ∈ txtS π l, 0 ≤ x ∧ x < 256 := allS_byte π l _ Boc.ga_64 h
theorem txt_le (π : Par) (l : List Int) : (txtS π l).length ≤ 4 * l.length := allS_le (oneS π) (nxtS π) 4 (oneS_max π) l (e0 π)
/-- Behind a text the decoder stands so. -/
def stB (l : List Int) : St := ⟨stS Boc.nxtB 64 l, []⟩
theorem scan_txt (π : Par) (l : List Int) (h : ∀ c ∈ l, isB c = true ∧ 0 ≤ c) : scan (stepU π) (st0 π) (txtS π l) = ⟨l, (txtS π l).length, stB l, false⟩ := Boc.scan_back Boc.ga_64 l h
theorem came_seg {w : World} {v : Value} {L : List Int} {b : Nat} {vE : Value} (h : Seg .u32 w v L) (hf : ∀ g, v.ownBlock = some g → ¬ footE b vE g) : Came w v L b vE := by
  rcases h with ⟨rfl, rfl⟩ | ⟨g, off, cap, rfl, hg, h1, h2, h3, h4, h5⟩
  · exact .inl ⟨none, rfl, rfl⟩
  · exact .inr ⟨g, off, cap, rfl, h1, h2, ⟨g, off, fun _ => rfl, h3⟩, fun _ => hf g rfl⟩
/-- A text without FF that is read to its end without an error is what is written of its scalars. -/
theorem whole_text (π : Par) (s : ByteArray) (X : Res St) (hX : X = scan (stepU π) (st0 π) (bytesL s)) (hq : endQ X = 0) (hff : ∀ x ∈ bytesL s, x ≠ 255) : Stp.strOf (txtS π X.told) = s ∧ ∀ c ∈ X.told, isB c = true ∧ 0 ≤ c := by
  have hbad : X.bad = false ∧ rest X.st = true := by
    unfold endQ at hq
    split at hq
    · omega
    · split at hq
      · exact ⟨by simpa using (by assumption : ¬ X.bad = true), by assumption⟩
      · omega
  have hst : X.st.beg = [] := by simpa [rest] using hbad.2
  obtain ⟨f1, f2⟩ := Boc.scan_facts (bytesL s) Boc.st0 Boc.good_0 (fun x hx => by have := bytesL_byte s x hx; have := hff x hx; omega)
  have hX' : X = scan Boc.stepB Boc.st0 (bytesL s) := hX
  have hea := scan_all Boc.stepB (bytesL s) Boc.st0 (by rw [← hX']; exact hbad.1)
  rw [hea, List.take_length, ← hX', hst, List.append_nil] at f1
  rw [← hX'] at f2
  have f3 : txtS π X.told = bytesL s := f1
  exact ⟨by rw [f3, strOf_bytesL], f2⟩
/-- Scalars that came in. -/
theorem scalars_of {l : List Int} (h : ¬ okLen l < l.length) (hf : ∀ x ∈ l, (Lit.int .u32 x).wf = true) : ∀ c ∈ l, isB c = true ∧ 0 ≤ c := by
  have hle := okLen_le l
  have hall := okLen_all l (by omega)
  intro c hc
  obtain ⟨i, hi, rfl⟩ := List.mem_iff_getElem.1 hc
  have h1 := hall i hi
  have h2 := hf _ hc
  have e : nth l i = l[i] := by simp [nth, hi]
  rw [e] at h1
  exact ⟨h1, fits_u32 h2⟩
set_option maxHeartbeats 1000000 in
/-- Is a byte in a text? -/
theorem rHas_any (s : ByteArray) (x : Int) (w : World) (hs : s.size ≤ 100000) (hx : 0 ≤ x ∧ x < 256) :
    Calls Tryd.prog 25 #[.string s, .int .u8 x] w fun e w' => e = .returned (.bool (decide (x ∈ bytesL s))) ∧ w' = w := by
  have HL : Hid ((bytesL s).length = s.size) := bytesL_length s
  obtain ⟨R, hR⟩ : ∃ R, decide (x ∈ bytesL s) = R := ⟨_, rfl⟩
  have HR : Hid (decide (x ∈ bytesL s) = R) := hR
  rw [hR]
  clear hR
  go_enter Tryd.func25, Tryd.ntmps25
  go_wp2
  go_loopw [5] (fun i wr => ∃ k : Nat, i = .int .i64 k ∧ k ≤ s.size ∧ (∀ j, j < k → nth (bytesL s) j ≠ x) ∧ wr = w) (fun i _ => s.size - (intOf i).toNat)
  case atStart => exact ⟨0, rfl, Nat.zero_le _, fun j hj => by omega, rfl⟩
  case round =>
    obtain ⟨k, rfl, hk, hno, hw⟩ := hrel
    subst hw
    have HN : Hid (∀ j, j < k → nth (bytesL s) j ≠ x) := hno
    clear hno
    by_cases hlt : (k : Int) < (s.size : Int)
    · have hks : k < s.size := by omega
      have hsn := str_nth s k hks
      have HM : Hid (nth (bytesL s) k ∈ bytesL s) := nth_mem (by rw [HL.out]; exact hks)
      obtain ⟨y, hy⟩ : ∃ y, nth (bytesL s) k = y := ⟨_, rfl⟩
      have HY : Hid (nth (bytesL s) k = y) := hy
      rw [hy] at hsn HM
      clear hy
      by_cases he : y = x
      · subst he
        have HT : Hid (R = true) := by show _ = _; rw [← HR.out]; exact decide_eq_true HM.out
        go_wp2
        go_ret
        exact ⟨ret_bool HT.out.symm, rfl⟩
      · have hne : (y == x) = false := by rw [beq_eq_false_iff_ne]; exact he
        have HN2 : Hid (∀ j, j < k + 1 → nth (bytesL s) j ≠ x) := fun j hj => by
          by_cases e : j = k
          · subst e; rw [HY.out]; exact he
          · exact HN.out j (by omega)
        go_wp2
        go_roundw
        case rel => exact ⟨k + 1, by go_num, by omega, HN2.out, trivial⟩
        case measure => simp [intOf]; omega
    · have HT : Hid (R = false) := by
        show _ = _
        rw [← HR.out]
        apply decide_eq_false
        intro hm
        obtain ⟨i, hi, e⟩ := List.mem_iff_getElem.1 hm
        have hi2 : i < s.size := by rw [← HL.out]; exact hi
        refine HN.out i (by omega) ?_
        rw [← e]; simp [nth, hi]
      go_wp2
      go_ret
      exact ⟨ret_bool HT.out.symm, rfl⟩
end BO
end Go.Proofs.YtlifobdooophbaaDoor
