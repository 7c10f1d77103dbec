/-
  Plain facts on layer 14: what the document's parts come to, part by part, in the words of the machine that goes byte by byte. No Go text is named here; the conditions of each fact stand with it.
-/
import Derived.Test.YtpglmfhlgaliaaaDoorEXRf2
namespace Go.Proofs.YtpglmfhlgaliaaaDoor
open Go.ChangeShapes Go.WideShapes Go.ChangeAt Go.RowKit
namespace EX
open Bas Sca Stp Scn Cod Win
set_option linter.unusedVariables false
set_option linter.unusedSimpArgs false

section
variable {str : ByteArray} {X : Res St} {s : St} {l : List Int} {m : Nat}
theorem at_some {sU : St} {b : Int} {z : St × List Int} (hX : X = (scan Exp.stepX sU ((bytesL str).drop m)).pre l m) (hm : m < str.size) (hb : nth (bytesL str) m = b) (hz : Exp.stepX sU b = some z) : X = (scan Exp.stepX z.1 ((bytesL str).drop (m + 1))).pre (l ++ z.2) (m + 1) := by
  rw [hX, drop_at (bytesL str) m (by rw [bytesL_length]; exact hm), hb, scan_some _ hz, Res.pre_pre]
theorem at_none {sU : St} {b : Int} (hX : X = (scan Exp.stepX sU ((bytesL str).drop m)).pre l m) (hm : m < str.size) (hb : nth (bytesL str) m = b) (hz : Exp.stepX sU b = none) : X = ⟨l, m, sU, true⟩ := by
  rw [hX, drop_at (bytesL str) m (by rw [bytesL_length]; exact hm), hb, scan_none _ hz]
  simp [Res.pre]
theorem at_end {sU : St} (hX : X = (scan Exp.stepX sU ((bytesL str).drop m)).pre l m) (hm : m ≤ str.size) (he : str.size ≤ m) : X = ⟨l, str.size, sU, false⟩ := by
  obtain rfl : m = str.size := by omega
  rw [hX, List.drop_of_length_le (by rw [bytesL_length]; exact Nat.le_refl _)]
  simp [scan, Res.pre]
theorem rest_beg {u : Bool} {a : Nat} {W : List Int} {h b : Int} {r : List Int} : Exp.rest ⟨u, a, W, h, b :: r⟩ = false := rfl
/-- A unit, from the state at its place on. -/
theorem unitH_of {sU : St} (hX : X = (scan Exp.stepX sU ((bytesL str).drop m)).pre l m) (hm : m ≤ str.size) (hr : str.size ≤ m → Exp.rest sU = false)
    (h1 : ∀ x, m < str.size → nth (bytesL str) m = x → Exp.lowB x = decide (0 < s.hi) → ∃ sV, Exp.stepX sU x = some (sV, []) ∧ Exp.rest sV = false ∧ ∀ y, Exp.stepX sV y = some (Exp.unitE s x y))
    (h2 : ∀ x, m < str.size → nth (bytesL str) m = x → Exp.lowB x ≠ decide (0 < s.hi) → Exp.stepX sU x = none) : UnitH str X s l m := by
  refine ⟨fun he => ⟨sU, at_end hX hm he, hr he⟩, fun hlt hl => ⟨sU, at_none hX hlt rfl (h2 _ hlt rfl hl)⟩, fun hlt hl he => ?_, fun hlt hl => ?_⟩
  · obtain ⟨sV, e1, e2, e3⟩ := h1 _ hlt rfl hl
    have := at_some hX hlt rfl e1
    simp only [List.append_nil] at this
    exact ⟨sV, at_end this (by omega) he, e2⟩
  · obtain ⟨sV, e1, e2, e3⟩ := h1 _ (by omega) rfl hl
    have := at_some hX (by omega) rfl e1
    simp only [List.append_nil] at this
    exact at_some this hlt rfl (e3 _)
end
section
variable {str : ByteArray} {X : Res St} {s : St} {l : List Int} {m : Nat} {b : Int}
theorem st_nil (hn : s.beg = []) : s = ⟨s.uni, s.act, s.wins, s.hi, []⟩ := by rw [← hn]
theorem unit_bare (hX : X = (scan Exp.stepX s ((bytesL str).drop m)).pre l m) (hn : s.beg = []) (hm : m < str.size) (hb : nth (bytesL str) m = b) (hk : Exp.kindP s.uni b = 2) : UnitH str X s l m := by
  obtain ⟨u, a, W, h, beg⟩ := s
  simp only [] at hn hk
  subst hn
  refine unitH_of hX (by omega) (fun h => by omega) (fun x _ hx hl => ?_) (fun x _ hx hl => ?_)
  · obtain rfl : b = x := hb.symm.trans hx
    exact ⟨_, Exp.e0_2 hk hl, rest_beg, fun y => Exp.e1_2 hk⟩
  · obtain rfl : b = x := hb.symm.trans hx
    exact Exp.e0_2n hk hl
theorem unit_marked (hX : X = (scan Exp.stepX s ((bytesL str).drop m)).pre l m) (hn : s.beg = []) (hm : m < str.size) (hb : nth (bytesL str) m = b) (hk : Exp.kindP s.uni b = 1) : UnitH str X s l (m + 1) := by
  obtain ⟨u, a, W, h, beg⟩ := s
  simp only [] at hn hk
  subst hn
  have := at_some hX hm hb (Exp.e0_1 hk)
  simp only [List.append_nil] at this
  exact unitH_of this (by omega) (fun _ => rest_beg) (fun x _ hx hl => ⟨_, Exp.e1_1 hk hl, rest_beg, fun y => Exp.e2_1 hk⟩) (fun x _ hx hl => Exp.e1_1n hk hl)
theorem part_lay (hX : X = (scan Exp.stepX s ((bytesL str).drop m)).pre l m) (hn : s.beg = []) (hm : m < str.size) (hb : nth (bytesL str) m = b) (hk : Exp.kindP s.uni b = 5) (hp : ¬ 0 < s.hi) {n : Nat} (hnn : Exp.numP s.uni b = n) : LayI str X s l (m + 1) n := by
  obtain ⟨u, a, W, h, beg⟩ := s
  simp only [] at hn hk hp hnn
  subst hn
  have := at_some hX hm hb (Exp.e0_b (by omega) (by omega) hp)
  simp only [List.append_nil] at this
  refine ⟨fun he => ⟨_, at_end this (by omega) he, rest_beg⟩, fun hlt ho => ⟨_, at_none this hlt rfl (Exp.e1_5n hk ho)⟩, fun hlt ho => ?_⟩
  have h2 := at_some this hlt rfl (Exp.e1_5 hk ho)
  simp only [List.append_nil, hnn] at h2
  exact h2
theorem part_ext (hX : X = (scan Exp.stepX s ((bytesL str).drop m)).pre l m) (hn : s.beg = []) (hm : m < str.size) (hb : nth (bytesL str) m = b) (hk : Exp.kindP s.uni b = 4) (hp : ¬ 0 < s.hi) : LayT str X s l (m + 1) := by
  obtain ⟨u, a, W, h, beg⟩ := s
  simp only [] at hn hk hp
  subst hn
  have := at_some hX hm hb (Exp.e0_b (by omega) (by omega) hp)
  simp only [List.append_nil] at this
  have h1 : m + 1 < str.size → X = (scan Exp.stepX ⟨u, a, W, h, [b, nth (bytesL str) (m + 1)]⟩ ((bytesL str).drop (m + 1 + 1))).pre l (m + 1 + 1) := fun hlt => by
    have := at_some this hlt rfl (Exp.e1_4 hk)
    simp only [List.append_nil] at this
    exact this
  refine ⟨fun he => ?_, fun hlt => ?_⟩
  · by_cases h0 : str.size ≤ m + 1
    · exact ⟨_, at_end this (by omega) h0, rest_beg⟩
    · exact ⟨_, at_end (h1 (by omega)) (by omega) he, rest_beg⟩
  · have h2 := at_some (h1 (by omega)) hlt rfl (Exp.e2_4 hk)
    simp only [List.append_nil] at h2
    exact h2
theorem part_quoted (hX : X = (scan Exp.stepX s ((bytesL str).drop m)).pre l m) (hn : s.beg = []) (hm : m < str.size) (hb : nth (bytesL str) m = b) (hk : Exp.kindP s.uni b = 3) (hp : ¬ 0 < s.hi) :
    (str.size ≤ m + 1 → ∃ z : St, X = ⟨l, str.size, z, false⟩ ∧ Exp.rest z = false) ∧ (∀ x, m + 1 < str.size → nth (bytesL str) (m + 1) = x → X = (scan Exp.stepX s ((bytesL str).drop (m + 2))).pre (l ++ [if x < 128 then nth statL (b - 1).toNat + x else nth s.wins (b - 1).toNat + x - 128]) (m + 2)) := by
  obtain ⟨u, a, W, h, beg⟩ := s
  simp only [] at hn hk hp
  subst hn
  have := at_some hX hm hb (Exp.e0_b (by omega) (by omega) hp)
  simp only [List.append_nil] at this
  refine ⟨fun he => ⟨_, at_end this (by omega) he, rest_beg⟩, fun x hlt hx => ?_⟩
  exact at_some this hlt hx (Exp.e1_3 hk)
theorem part_chg (hX : X = (scan Exp.stepX s ((bytesL str).drop m)).pre l m) (hn : s.beg = []) (hm : m < str.size) (hb : nth (bytesL str) m = b) (hk : Exp.kindP s.uni b = 6) (hp : ¬ 0 < s.hi) {n : Nat} (hnn : Exp.numP s.uni b = n) : X = (scan Exp.stepX ⟨false, n, s.wins, s.hi, []⟩ ((bytesL str).drop (m + 1))).pre l (m + 1) := by
  obtain ⟨u, a, W, h, beg⟩ := s
  simp only [] at hn hk hp hnn
  subst hn
  have := at_some hX hm hb (Exp.e0_6 hk hp)
  simp only [List.append_nil, hnn] at this
  exact this
theorem part_wide (hX : X = (scan Exp.stepX s ((bytesL str).drop m)).pre l m) (hn : s.beg = []) (hm : m < str.size) (hb : nth (bytesL str) m = b) (hk : Exp.kindP s.uni b = 7) (hp : ¬ 0 < s.hi) : X = (scan Exp.stepX ⟨true, s.act, s.wins, s.hi, []⟩ ((bytesL str).drop (m + 1))).pre l (m + 1) := by
  obtain ⟨u, a, W, h, beg⟩ := s
  simp only [] at hn hk hp
  subst hn
  have := at_some hX hm hb (Exp.e0_7 hk hp)
  simp only [List.append_nil] at this
  exact this
theorem part_shown (hX : X = (scan Exp.stepX s ((bytesL str).drop m)).pre l m) (hn : s.beg = []) (hm : m < str.size) (hb : nth (bytesL str) m = b) (hk : Exp.kindP s.uni b = 8) (hp : ¬ 0 < s.hi) : X = (scan Exp.stepX s ((bytesL str).drop (m + 1))).pre (l ++ [nth s.wins s.act + b - 128]) (m + 1) := by
  obtain ⟨u, a, W, h, beg⟩ := s
  simp only [] at hn hk hp
  subst hn
  exact at_some hX hm hb (Exp.e0_8 hk hp)
theorem part_own (hX : X = (scan Exp.stepX s ((bytesL str).drop m)).pre l m) (hn : s.beg = []) (hm : m < str.size) (hb : nth (bytesL str) m = b) (hk : Exp.kindP s.uni b = 9) (hp : ¬ 0 < s.hi) : X = (scan Exp.stepX s ((bytesL str).drop (m + 1))).pre (l ++ [b]) (m + 1) := by
  obtain ⟨u, a, W, h, beg⟩ := s
  simp only [] at hn hk hp
  subst hn
  exact at_some hX hm hb (Exp.e0_9 hk hp)
theorem part_wrong (hX : X = (scan Exp.stepX s ((bytesL str).drop m)).pre l m) (hn : s.beg = []) (hm : m < str.size) (hb : nth (bytesL str) m = b) (hk : Exp.kindP s.uni b = 0 ∨ (Exp.kindP s.uni b ≠ 1 ∧ Exp.kindP s.uni b ≠ 2 ∧ 0 < s.hi)) : ∃ z : St, X = ⟨l, m, z, true⟩ := by
  obtain ⟨u, a, W, h, beg⟩ := s
  simp only [] at hn hk
  subst hn
  refine ⟨_, at_none hX hm hb ?_⟩
  rcases hk with hk | ⟨k1, k2, hp⟩
  · exact Exp.e0_0 hk
  · exact Exp.e0_hi k1 k2 hp
end
end EX
end Go.Proofs.YtpglmfhlgaliaaaDoor
