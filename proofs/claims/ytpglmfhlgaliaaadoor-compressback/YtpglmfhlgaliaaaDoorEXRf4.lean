/-
  The contract of the document's 'part' of layer 14, as walks over the translated text. The condition: its memory is there and may be written; the text is small.
-/
import Derived.Test.YtpglmfhlgaliaaaDoorEXRf3
namespace Go.Proofs.YtpglmfhlgaliaaaDoor
open Go.ChangeShapes Go.WideShapes Go.ChangeAt Go.RowKit
namespace EX
open Bas Sca Stp Scn Cod Win
set_option linter.unusedVariables false
set_option linter.unusedSimpArgs false

theorem hidP {p : Prop} (h : p) : Hid p := h
/-- What a part is asked of. -/
structure PartH (w : World) (T B : Nat) (str : ByteArray) (X : Res St) (m : Nat) (s : St) (l : List Int) (vo vw : Value) (a b : Int) : Prop where
  r : RSV w T B s l vo vw 0 a
  xe : X = (scan Exp.stepX s ((bytesL str).drop m)).pre l m
  hB : B ≤ w.heap.size
  sz : str.size ≤ 200000
  lt : m < str.size
  ll : l.length ≤ m
  bt : nth (bytesL str) m = b
  b0 : 0 ≤ b
  b1 : b < 256
section
variable {w : World} {T B : Nat} {str : ByteArray} {X : Res St} {m : Nat} {s : St} {l : List Int} {vo vw : Value} {a b : Int}
theorem PartH.unit0 (h : PartH w T B str X m s l vo vw a b) (hk : Exp.kindP s.uni b = 2) : Calls Tryd.prog 45 #[.pointer (some ⟨T, 0, none⟩), .string str, .int .i64 (m : Int)] w fun e w' => ∃ n', e = .returned (.int .i64 n') ∧ RQ T B str X m w n' w' :=
  rUnit_any T B str X m s l vo vw a w h.r (unit_bare h.xe h.r.nb h.lt h.bt hk) h.hB h.sz (Nat.le_of_lt h.lt) h.ll
theorem cast1 (m : Nat) : ((m + 1 : Nat) : Int) = (m : Int) + 1 := rfl
theorem PartH.unit1 (h : PartH w T B str X m s l vo vw a b) (hk : Exp.kindP s.uni b = 1) : Calls Tryd.prog 45 #[.pointer (some ⟨T, 0, none⟩), .string str, .int .i64 ((m : Int) + 1)] w fun e w' => ∃ n', e = .returned (.int .i64 n') ∧ RQ T B str X m w n' w' := by
  have := rUnit_any T B str X (m + 1) s l vo vw a w h.r (unit_marked h.xe h.r.nb h.lt h.bt hk) h.hB h.sz h.lt (Nat.le_succ_of_le h.ll)
  rw [cast1] at this
  exact this.mono fun e w' ⟨n', h1, h2⟩ => ⟨n', h1, h2.le (Nat.le_succ m)⟩
theorem PartH.lay (h : PartH w T B str X m s l vo vw a b) (hk : Exp.kindP s.uni b = 5) (hp : ¬ 0 < s.hi) {y : Int} {n : Nat} (hy : y = (n : Int)) (hn : Exp.numP s.uni b = n) : Calls Tryd.prog 47 #[.pointer (some ⟨T, 0, none⟩), .string str, .int .i64 ((m : Int) + 1), .int .i64 y] w fun e w' => ∃ n', e = .returned (.int .i64 n') ∧ RQ T B str X m w n' w' := by
  subst hy
  have hn8 : n < 8 := by rw [← hn]; exact Exp.num_lt h.b0 h.b1 (.inl hk)
  have := rLayI_any T B str X (m + 1) n s l vo vw a w h.r (part_lay h.xe h.r.nb h.lt h.bt hk hp hn) hn8 h.hB h.sz h.lt (Nat.le_succ_of_le h.ll)
  rw [cast1] at this
  exact this.mono fun e w' ⟨n', h1, h2⟩ => ⟨n', h1, h2.le (Nat.le_succ m)⟩
theorem PartH.ext (h : PartH w T B str X m s l vo vw a b) (hk : Exp.kindP s.uni b = 4) (hp : ¬ 0 < s.hi) : Calls Tryd.prog 47 #[.pointer (some ⟨T, 0, none⟩), .string str, .int .i64 ((m : Int) + 1), .int .i64 (-1)] w fun e w' => ∃ n', e = .returned (.int .i64 n') ∧ RQ T B str X m w n' w' := by
  have := rLayT_any T B str X (m + 1) s l vo vw a w h.r (part_ext h.xe h.r.nb h.lt h.bt hk hp) h.hB h.sz h.lt (Nat.le_succ_of_le h.ll)
  rw [cast1] at this
  exact this.mono fun e w' ⟨n', h1, h2⟩ => ⟨n', h1, h2.le (Nat.le_succ m)⟩
theorem PartH.wrong (h : PartH w T B str X m s l vo vw a b) (hk : Exp.kindP s.uni b = 0 ∨ (Exp.kindP s.uni b ≠ 1 ∧ Exp.kindP s.uni b ≠ 2 ∧ 0 < s.hi)) : Calls Tryd.prog 46 #[.pointer (some ⟨T, 0, none⟩), .int .i64 (m : Int)] w fun e w' => ∃ n', e = .returned (.int .i64 n') ∧ RQ T B str X m w n' w' :=
  wrong_any T B str X m m s l vo vw a w h.r h.hB (by have := h.ll; have := h.lt; omega) (part_wrong h.xe h.r.nb h.lt h.bt hk)
/-- What goes on behind one byte. -/
theorem rq_one {n' : Int} {w' : World} {s' : St} {l' : List Int} {vo' vw' : Value} {k : Nat} (h : PartH w T B str X m s l vo vw a b) (hr : RSV w' T B s' l' vo' vw' 0 a) (hb : Below B w w') (hn : n' = (k : Int)) (hmk : m < k) (hk : k ≤ str.size) (hl : l'.length ≤ l.length + 1) (hX : X = (scan Exp.stepX s' ((bytesL str).drop k)).pre l' k) : RQ T B str X m w n' w' :=
  ⟨s', l', vo', vw', 0, a, hr, hb, by have := h.ll; omega, .inl ⟨rfl, k, hn, hmk, hk, by have := h.ll; omega, hX⟩⟩
end
set_option maxHeartbeats 8000000 in
set_option maxRecDepth 100000 in
theorem partU_any (T B : Nat) (str : ByteArray) (X : Res St) (m : Nat) (s : St) (l : List Int) (vo vw : Value) (a b : Int) (w : World) (h : PartH w T B str X m s l vo vw a b) (hu : s.uni = true) :
    Calls Tryd.prog 38 #[.pointer (some ⟨T, 0, none⟩), .string str, .int .i64 (m : Int)] w fun e w' => ∃ n', e = .returned (.int .i64 n') ∧ RQ T B str X m w n' w' := by
  have H : Hid (PartH w T B str X m s l vo vw a b) := h
  have hw1 : IntKind.i64.wrap ((m : Int) + 1) = (m : Int) + 1 := wrap_i64w _ (by omega) (by have := h.lt; have := h.sz; omega)
  have hsz := h.sz
  have hlt := h.lt
  have hsn := str_nth str m hlt
  rw [h.bt] at hsn
  have h3 := h.r.c3
  rw [hu] at h3
  have h4 := h.r.c4
  have b0 := h.b0
  have b1 := h.b1
  have HK : Hid (∀ k, Exp.kindP true b = k → Exp.kindP s.uni b = k) := fun k e => by rw [hu]; exact e
  have HNP : Hid (∀ k, Exp.numP true b = k → Exp.numP s.uni b = k) := fun k e => by rw [hu]; exact e
  obtain ⟨hi, hhh⟩ : ∃ hi, s.hi = hi := ⟨_, rfl⟩
  have HHH : Hid (s.hi = hi) := hhh
  rw [hhh] at h4
  have hh0 : 0 ≤ hi := by have := h.r.good.hi; omega
  clear h hu hhh
  by_cases c1 : b < 224
  · have HC := hidP (H.out.unit0 (HK.out 2 (kt_unit (.inl c1))))
    go_enter Tryd.func38, Tryd.ntmps38
    go_wp2_with fail
    refine HC.out.mono ?_
    rintro e w2 ⟨n', rfl, hq⟩
    have HQ : Hid (RQ T B str X m w n' w2) := hq
    clear hq
    go_wp2
    go_ret
    exact ⟨n', rfl, HQ.out⟩
  by_cases c2 : b > 242
  · have HC := hidP (H.out.unit0 (HK.out 2 (kt_unit (.inr c2))))
    go_enter Tryd.func38, Tryd.ntmps38
    go_wp2_with fail
    refine HC.out.mono ?_
    rintro e w2 ⟨n', rfl, hq⟩
    have HQ : Hid (RQ T B str X m w n' w2) := hq
    clear hq
    go_wp2
    go_ret
    exact ⟨n', rfl, HQ.out⟩
  by_cases c3 : b = 240
  · subst c3
    have HC := hidP (H.out.unit1 (HK.out 1 rfl))
    go_enter Tryd.func38, Tryd.ntmps38
    go_wp2_with fail
    refine HC.out.mono ?_
    rintro e w2 ⟨n', rfl, hq⟩
    have HQ : Hid (RQ T B str X m w n' w2) := hq
    clear hq
    go_wp2
    go_ret
    exact ⟨n', rfl, HQ.out⟩
  have d3 : (b == 240) = false := by simp [c3]
  by_cases c4 : hi > 0
  · have hk1 : Exp.kindP true b ≠ 1 ∧ Exp.kindP true b ≠ 2 := by
      unfold Exp.kindP; rw [if_pos rfl]
      repeat' split
      all_goals omega
    have HC := hidP (H.out.wrong (.inr ⟨by rw [HK.out _ rfl]; exact hk1.1, by rw [HK.out _ rfl]; exact hk1.2, by rw [HHH.out]; exact c4⟩))
    clear hk1
    go_enter Tryd.func38, Tryd.ntmps38
    go_wp2_with fail
    refine HC.out.mono ?_
    rintro e w2 ⟨n', rfl, hq⟩
    have HQ : Hid (RQ T B str X m w n' w2) := hq
    clear hq
    go_wp2
    go_ret
    exact ⟨n', rfl, HQ.out⟩
  have HP : Hid (¬ 0 < s.hi) := by show ¬ 0 < s.hi; rw [HHH.out]; omega
  by_cases c5 : b = 242
  · subst c5
    have HC := hidP (H.out.wrong (.inl (HK.out 0 rfl)))
    go_enter Tryd.func38, Tryd.ntmps38
    go_wp2_with fail
    refine HC.out.mono ?_
    rintro e w2 ⟨n', rfl, hq⟩
    have HQ : Hid (RQ T B str X m w n' w2) := hq
    clear hq
    go_wp2
    go_ret
    exact ⟨n', rfl, HQ.out⟩
  have d5 : (b == 242) = false := by simp [c5]
  by_cases c6 : b = 241
  · subst c6
    have HC := hidP (H.out.ext (HK.out 4 rfl) HP.out)
    go_enter Tryd.func38, Tryd.ntmps38
    go_wp2_with fail
    refine HC.out.mono ?_
    rintro e w2 ⟨n', rfl, hq⟩
    have HQ : Hid (RQ T B str X m w n' w2) := hq
    clear hq
    go_wp2
    go_ret
    exact ⟨n', rfl, HQ.out⟩
  have d6 : (b == 241) = false := by simp [c6]
  by_cases c7 : b ≥ 232
  · have HC := hidP (H.out.lay (y := b - 232) (n := (b - 232).toNat) (HK.out 5 (kt_lay c7 (by omega))) HP.out (by omega) (HNP.out _ (by unfold Exp.numP; rw [if_pos rfl, if_pos c7])))
    go_enter Tryd.func38, Tryd.ntmps38
    go_wp2_with fail
    refine HC.out.mono ?_
    rintro e w2 ⟨n', rfl, hq⟩
    have HQ : Hid (RQ T B str X m w n' w2) := hq
    clear hq
    go_wp2
    go_ret
    exact ⟨n', rfl, HQ.out⟩
  · obtain ⟨n, hn⟩ := Int.eq_ofNat_of_zero_le (show 0 ≤ b - 224 by omega)
    have HX : Hid _ := part_chg H.out.xe H.out.r.nb H.out.lt H.out.bt (HK.out 6 (kt_chg (by omega) (by omega))) HP.out (HNP.out n (by unfold Exp.numP; rw [if_pos rfl, if_neg (by omega)]; omega))
    have h2 := H.out.r.c2
    have f2 := H.out.r.fr 2
    have f3 := H.out.r.fr 3
    have HN8 : Hid (n < 8) := by show n < 8; omega
    have hw2 : IntKind.i64.wrap (b - 224) = (n : Int) := by rw [hn]; exact wrap_i64w _ (by omega) (by omega)
    go_enter Tryd.func38, Tryd.ntmps38
    go_wp2
    go_ret
    have h := H.out.r
    have hc1 := chg_setCell w T 2 (.int .i64 (n : Int))
    have hc2 := chg_setCell (w.setCell ⟨T, 2, none⟩ (.int .i64 (n : Int))) T 3 (.bool false)
    have hcc : Chg (fun k j => k = T ∧ (j = 2 ∨ j = 3)) w ((w.setCell ⟨T, 2, none⟩ (.int .i64 (n : Int))).setCell ⟨T, 3, none⟩ (.bool false)) := hc1.trans2 hc2 (fun k j _ h => ⟨h.1, .inl h.2⟩) (fun k j _ h => ⟨h.1, .inr h.2⟩)
    exact ⟨_, rfl, rq_one (k := m + 1) H.out (h.cells (s' := ⟨false, n, s.wins, s.hi, []⟩) (hcc.mono (fun k j _ h => ⟨h.1, by omega, by omega⟩)) (hc2.cellAt (World.cell?_setCell_same _ _ _ h.c2) (by omega)) (World.cell?_setCell_same _ _ _ (hc1.cellAt h.c3 (by omega))) (hcc.cellAt h.c4 (by omega)) (hcc.cellAt h.c5 (by omega)) (hcc.cellAt h.c6 (by omega)) (good_of h.good h.good.len HN8.out h.good.wins h.good.hi) rfl rfl)
      (hcc.below H.out.hB (fun k j hk hh => by have := h.low; omega)) rfl (by omega) hlt (by omega) HX.out⟩
end EX
end Go.Proofs.YtpglmfhlgaliaaaDoor
