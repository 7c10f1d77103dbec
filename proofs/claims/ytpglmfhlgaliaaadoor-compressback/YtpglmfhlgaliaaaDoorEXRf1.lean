/-
  The document's State of layer 14 in memory, and the contracts of its 'cut', 'wrong' and 'unit', as walks over the translated text. The condition: its memory is there and may be written; the text is small.
-/
import Derived.Test.YtpglmfhlgaliaaaDoorEXMath
import Derived.Test.YtpglmfhlgaliaaaDoorStp3
import Derived.Test.YtpglmfhlgaliaaaDoorSca1
import Derived.Test.YtpglmfhlgaliaaaDoorStrs
import Derived.Test.YtpglmfhlgaliaaaDoorWinRf1
import Derived.Test.YtpglmfhlgaliaaaDoorMemStep
import Derived.Deep.RegionLaw
import Derived.Deep.RegionHeld3
import Derived.Deep.CutBlock
import Derived.Deep.DeepCutAuto
namespace Go.Proofs.YtpglmfhlgaliaaaDoor
open Go.ChangeShapes Go.WideShapes Go.ChangeAt Go.RowKit
namespace EX
open Bas Sca Stp Scn Cod Win
set_option linter.unusedVariables false
set_option linter.unusedSimpArgs false

/-- The document's State in block T, all its memory from block B on: what it holds, what it told, its error with its place. -/
structure RSV (w : World) (T B : Nat) (s : St) (l : List Int) (vo vw : Value) (e a : Int) : Prop where
  c0 : w.cell? ⟨T, 0, none⟩ = some vo
  c1 : w.cell? ⟨T, 1, none⟩ = some vw
  c2 : w.cell? ⟨T, 2, none⟩ = some (.int .i64 s.act)
  c3 : w.cell? ⟨T, 3, none⟩ = some (.bool s.uni)
  c4 : w.cell? ⟨T, 4, none⟩ = some (.int .u32 s.hi)
  c5 : w.cell? ⟨T, 5, none⟩ = some (.int .i64 e)
  c6 : w.cell? ⟨T, 6, none⟩ = some (.int .i64 a)
  fr : ∀ i, w.frozen? ⟨T, i, none⟩ = false
  so : Seg .u32 w vo l
  sw : Seg .u32 w vw s.wins
  no : vo.ownBlock ≠ some T
  nw : vw.ownBlock ≠ some T
  ap : ∀ g, vo.ownBlock = some g → vw.ownBlock ≠ some g
  good : Exp.Good s
  nb : s.beg = []
  low : B ≤ T
  lo : ∀ g, vo.ownBlock = some g → B ≤ g
  lw : ∀ g, vw.ownBlock = some g → B ≤ g
section
variable {w w' : World} {T B : Nat} {s : St} {l : List Int} {vo vw : Value} {e a : Int}
theorem RSV.lt (h : RSV w T B s l vo vw e a) : T < w.heap.size := World.block_lt_of_cell? w _ h.c0
theorem RSV.below (h : RSV w T B s l vo vw e a) (hb : Below w.heap.size w w') : RSV w' T B s l vo vw e a := by
  have hc := chg_of_below hb (Nat.le_refl _) (fun _ _ => False)
  exact ⟨hc.cellAt h.c0 id, hc.cellAt h.c1 id, hc.cellAt h.c2 id, hc.cellAt h.c3 id, hc.cellAt h.c4 id, hc.cellAt h.c5 id, hc.cellAt h.c6 id, fun i => (hc.frozen T i h.lt).trans (h.fr i), h.so.chg hc (fun _ _ _ h => h), h.sw.chg hc (fun _ _ _ h => h), h.no, h.nw, h.ap, h.good, h.nb, h.low, h.lo, h.lw⟩
/-- Behind other numbers in its own cells. -/
theorem RSV.cells {s' : St} {e' a' : Int} (h : RSV w T B s l vo vw e a) (hc : Chg (fun k j => k = T ∧ 2 ≤ j ∧ j ≤ 6) w w') (a2 : w'.cell? ⟨T, 2, none⟩ = some (.int .i64 s'.act)) (a3 : w'.cell? ⟨T, 3, none⟩ = some (.bool s'.uni)) (a4 : w'.cell? ⟨T, 4, none⟩ = some (.int .u32 s'.hi))
    (a5 : w'.cell? ⟨T, 5, none⟩ = some (.int .i64 e')) (a6 : w'.cell? ⟨T, 6, none⟩ = some (.int .i64 a')) (hg : Exp.Good s') (hw : s'.wins = s.wins) (hb : s'.beg = []) : RSV w' T B s' l vo vw e' a' :=
  ⟨hc.cellAt h.c0 (by omega), hc.cellAt h.c1 (by omega), a2, a3, a4, a5, a6, fun i => (hc.frozen T i h.lt).trans (h.fr i), h.so.chg hc (fun g o hg hh => h.no (by rw [hg, hh.1])), by rw [hw]; exact h.sw.chg hc (fun g o hg hh => h.nw (by rw [hg, hh.1])), h.no, h.nw, h.ap, hg, hb, h.low, h.lo, h.lw⟩
/-- Behind other offsets. -/
theorem RSV.wset {W' : List Int} (h : RSV w T B s l vo vw e a) (hc : Chg (fun k _ => vw.ownBlock = some k) w w') (hs : Seg .u32 w' vw W') (hg : Exp.Good ⟨s.uni, s.act, W', s.hi, []⟩) : RSV w' T B ⟨s.uni, s.act, W', s.hi, []⟩ l vo vw e a :=
  ⟨hc.cellAt h.c0 h.nw, hc.cellAt h.c1 h.nw, hc.cellAt h.c2 h.nw, hc.cellAt h.c3 h.nw, hc.cellAt h.c4 h.nw, hc.cellAt h.c5 h.nw, hc.cellAt h.c6 h.nw, fun i => (hc.frozen T i h.lt).trans (h.fr i), h.so.chg hc (fun g o hg hh => h.ap g hg hh), hs, h.no, h.nw, h.ap, hg, rfl, h.low, h.lo, h.lw⟩
/-- Behind a scalar that is told. -/
theorem RSV.app {w1 w4 : World} {vo' : Value} {m : List Int} (h : RSV w T B s l vo vw e a) (hB : B ≤ w.heap.size) (hb : Below w.heap.size w w1) (hs : Seg .u32 w4 vo' m) (hc : Chg (fun k _ => vo.ownBlock = some k) w1 w4) (hm : Mov w1 vo vo') : RSV (w4.setCell ⟨T, 0, none⟩ vo') T B s m vo' vw e a ∧ Below B w (w4.setCell ⟨T, 0, none⟩ vo') := by
  have h1 := h.below hb
  have hn : vo'.ownBlock ≠ some T := fun e => by
    rcases hm T e with e | e
    · exact h.no e
    · have := h1.lt; omega
  have hc2 := chg_setCell w4 T 0 vo'
  have hcc : Chg (fun k j => (k = T ∧ j = 0) ∨ vo.ownBlock = some k) w1 (w4.setCell ⟨T, 0, none⟩ vo') := hc.trans2 hc2 (fun _ _ _ h => .inr h) (fun _ _ _ h => .inl h)
  have hN : ∀ j, j ≠ 0 → ¬ ((T = T ∧ j = 0) ∨ vo.ownBlock = some T) := fun j hj hh => by
    rcases hh with hh | hh
    · exact hj hh.2
    · exact h.no hh
  refine ⟨⟨World.cell?_setCell_same _ _ _ (hc.cellAt h1.c0 h.no), hcc.cellAt h1.c1 (hN 1 (by decide)), hcc.cellAt h1.c2 (hN 2 (by decide)), hcc.cellAt h1.c3 (hN 3 (by decide)), hcc.cellAt h1.c4 (hN 4 (by decide)), hcc.cellAt h1.c5 (hN 5 (by decide)), hcc.cellAt h1.c6 (hN 6 (by decide)), fun i => (hcc.frozen T i h1.lt).trans (h1.fr i),
    hs.chg hc2 (fun g o hg hh => hn (by rw [hg, hh.1])), h1.sw.chg hcc (fun g o hg hh => ?_), hn, h.nw, fun g hg hw => ?_, h.good, h.nb, h.low, fun g hg => ?_, h.lw⟩, (hb.mono hB).trans (hcc.below (Nat.le_trans hB hb.size) (fun k o hk hh => ?_))⟩
  · rcases hh with hh | hh
    · exact h.nw (by rw [hg, hh.1])
    · exact h.ap g hh hg
  · rcases hm g hg with e | e
    · exact h.ap g e hw
    · have := h1.sw.lt hw; omega
  · rcases hm g hg with e | e
    · exact h.lo g e
    · have := hb.size; omega
  · rcases hh with hh | hh
    · have := h.low; omega
    · have := h.lo k hh; omega
end
/-- What an append to what was told wants. -/
structure AppH (w : World) (T : Nat) (l : List Int) (vo : Value) : Prop where
  c : ∀ o, (w.drew.alloc o).cell? ⟨T, 0, none⟩ = some vo
  f : ∀ o, (w.drew.alloc o).frozen? ⟨T, 0, none⟩ = false
  s : ∀ o, Seg .u32 (w.drew.alloc o) vo l
  n : vo.ownBlock ≠ some T
theorem RSV.appH {w : World} {T B : Nat} {s : St} {l : List Int} {vo vw : Value} {e a : Int} (h : RSV w T B s l vo vw e a) : AppH w T l vo :=
  ⟨fun o => (h.below (low_alloc w o)).c0, fun o => (h.below (low_alloc w o)).fr 0, fun o => (h.below (low_alloc w o)).so, h.no⟩
/-- What a call on a part comes to: it goes on behind place n, or a byte is wrong, or it is cut off. -/
def OutQ (str : ByteArray) (X : Res St) (m : Nat) (s' : St) (l' : List Int) (n' e' a' : Int) : Prop :=
  (e' = 0 ∧ ∃ k : Nat, n' = (k : Int) ∧ m < k ∧ k ≤ str.size ∧ l'.length ≤ k ∧ X = (scan Exp.stepX s' ((bytesL str).drop k)).pre l' k) ∨ (e' = 3 ∧ ∃ (k : Nat) (z : St), a' = (k : Int) ∧ X = ⟨l', k, z, true⟩) ∨ (e' = 4 ∧ ∃ z : St, a' = (str.size : Int) ∧ X = ⟨l', str.size, z, false⟩ ∧ Exp.rest z = false)
/-- .. and leaves. -/
def RQ (T B : Nat) (str : ByteArray) (X : Res St) (m : Nat) (w : World) (n' : Int) (w' : World) : Prop :=
  ∃ (s' : St) (l' : List Int) (vo' vw' : Value) (e' a' : Int), RSV w' T B s' l' vo' vw' e' a' ∧ Below B w w' ∧ l'.length ≤ str.size ∧ OutQ str X m s' l' n' e' a'
theorem RQ.le {T B : Nat} {str : ByteArray} {X : Res St} {m m' : Nat} {w w' : World} {n' : Int} (h : RQ T B str X m w n' w') (hm : m' ≤ m) : RQ T B str X m' w n' w' := by
  obtain ⟨s', l', vo', vw', e', a', h1, h2, h3, h4⟩ := h
  refine ⟨s', l', vo', vw', e', a', h1, h2, h3, ?_⟩
  rcases h4 with ⟨h5, k, h6, h7, h8⟩ | h4
  · exact .inl ⟨h5, k, h6, by omega, h8⟩
  · exact .inr h4
theorem ret_i' {a b : Int} (h : a = b) : Ending.returned (.int .i64 a) = .returned (.int .i64 b) := by rw [h]
set_option maxHeartbeats 1000000 in
theorem cut_any (T B : Nat) (str : ByteArray) (X : Res St) (m : Nat) (s : St) (l : List Int) (vo vw : Value) (a : Int) (w : World) (h : RSV w T B s l vo vw 0 a) (hB : B ≤ w.heap.size) (hl : l.length ≤ str.size) (hX : ∃ z : St, X = ⟨l, str.size, z, false⟩ ∧ Exp.rest z = false) :
    Calls Tryd.prog 39 #[.pointer (some ⟨T, 0, none⟩), .string str] w fun e w' => ∃ n', e = .returned (.int .i64 n') ∧ RQ T B str X m w n' w' := by
  have H : Hid (RSV w T B s l vo vw 0 a) := h
  have h5 := h.c5
  have h6 := h.c6
  have f5 := h.fr 5
  have f6 := h.fr 6
  clear h
  go_enter Tryd.func39, Tryd.ntmps39
  go_wp2
  go_ret
  have hc1 := chg_setCell w T 5 (.int .i64 4)
  have hc2 := chg_setCell (w.setCell ⟨T, 5, none⟩ (.int .i64 4)) T 6 (.int .i64 (str.size : Int))
  have hcc : Chg (fun k j => k = T ∧ 5 ≤ j ∧ j ≤ 6) w ((w.setCell ⟨T, 5, none⟩ (.int .i64 4)).setCell ⟨T, 6, none⟩ (.int .i64 (str.size : Int))) := hc1.trans2 hc2 (fun k j _ h => ⟨h.1, by omega, by omega⟩) (fun k j _ h => ⟨h.1, by omega, by omega⟩)
  have h := H.out
  obtain ⟨z, hz, hr⟩ := hX
  exact ⟨_, rfl, s, l, vo, vw, 4, (str.size : Int), h.cells (hcc.mono (fun k j _ h => ⟨h.1, by omega, h.2.2⟩)) (hcc.cellAt h.c2 (by omega)) (hcc.cellAt h.c3 (by omega)) (hcc.cellAt h.c4 (by omega)) (hc2.cellAt (World.cell?_setCell_same _ _ _ h5) (by omega)) (World.cell?_setCell_same _ _ _ (hc1.cellAt h6 (by omega))) h.good rfl h.nb,
    hcc.below hB (fun k o hk hh => by have := h.low; omega), hl, .inr (.inr ⟨rfl, z, rfl, hz, hr⟩)⟩
set_option maxHeartbeats 1000000 in
theorem wrong_any (T B : Nat) (str : ByteArray) (X : Res St) (m k : Nat) (s : St) (l : List Int) (vo vw : Value) (a : Int) (w : World) (h : RSV w T B s l vo vw 0 a) (hB : B ≤ w.heap.size) (hl : l.length ≤ str.size) (hX : ∃ z : St, X = ⟨l, k, z, true⟩) :
    Calls Tryd.prog 46 #[.pointer (some ⟨T, 0, none⟩), .int .i64 (k : Int)] w fun e w' => ∃ n', e = .returned (.int .i64 n') ∧ RQ T B str X m w n' w' := by
  have H : Hid (RSV w T B s l vo vw 0 a) := h
  have h5 := h.c5
  have h6 := h.c6
  have f5 := h.fr 5
  have f6 := h.fr 6
  clear h
  go_enter Tryd.func46, Tryd.ntmps46
  go_wp2
  go_ret
  have hc1 := chg_setCell w T 5 (.int .i64 3)
  have hc2 := chg_setCell (w.setCell ⟨T, 5, none⟩ (.int .i64 3)) T 6 (.int .i64 (k : Int))
  have hcc : Chg (fun k j => k = T ∧ 5 ≤ j ∧ j ≤ 6) w ((w.setCell ⟨T, 5, none⟩ (.int .i64 3)).setCell ⟨T, 6, none⟩ (.int .i64 (k : Int))) := hc1.trans2 hc2 (fun k j _ h => ⟨h.1, by omega, by omega⟩) (fun k j _ h => ⟨h.1, by omega, by omega⟩)
  have h := H.out
  obtain ⟨z, hz⟩ := hX
  exact ⟨_, rfl, s, l, vo, vw, 3, (k : Int), h.cells (hcc.mono (fun k j _ h => ⟨h.1, by omega, h.2.2⟩)) (hcc.cellAt h.c2 (by omega)) (hcc.cellAt h.c3 (by omega)) (hcc.cellAt h.c4 (by omega)) (hc2.cellAt (World.cell?_setCell_same _ _ _ h5) (by omega)) (World.cell?_setCell_same _ _ _ (hc1.cellAt h6 (by omega))) h.good rfl h.nb,
    hcc.below hB (fun k o hk hh => by have := h.low; omega), hl, .inr (.inl ⟨rfl, k, z, rfl, hz⟩)⟩
/-- What a unit at place m comes to. -/
structure UnitH (str : ByteArray) (X : Res St) (s : St) (l : List Int) (m : Nat) : Prop where
  c0 : str.size ≤ m → ∃ z : St, X = ⟨l, str.size, z, false⟩ ∧ Exp.rest z = false
  wr : m < str.size → Exp.lowB (nth (bytesL str) m) ≠ decide (0 < s.hi) → ∃ z : St, X = ⟨l, m, z, true⟩
  c1 : m < str.size → Exp.lowB (nth (bytesL str) m) = decide (0 < s.hi) → str.size ≤ m + 1 → ∃ z : St, X = ⟨l, str.size, z, false⟩ ∧ Exp.rest z = false
  go : m + 1 < str.size → Exp.lowB (nth (bytesL str) m) = decide (0 < s.hi) → X = (scan Exp.stepX (Exp.unitE s (nth (bytesL str) m) (nth (bytesL str) (m + 1))).1 ((bytesL str).drop (m + 2))).pre (l ++ (Exp.unitE s (nth (bytesL str) m) (nth (bytesL str) (m + 1))).2) (m + 2)
set_option maxHeartbeats 4000000 in
set_option maxRecDepth 100000 in
theorem rUnit_any (T B : Nat) (str : ByteArray) (X : Res St) (m : Nat) (s : St) (l : List Int) (vo vw : Value) (a : Int) (w : World) (h : RSV w T B s l vo vw 0 a) (hU : UnitH str X s l m) (hB : B ≤ w.heap.size) (hsz : str.size ≤ 200000) (hm : m ≤ str.size) (hl : l.length ≤ m) :
    Calls Tryd.prog 45 #[.pointer (some ⟨T, 0, none⟩), .string str, .int .i64 (m : Int)] w fun e w' => ∃ n', e = .returned (.int .i64 n') ∧ RQ T B str X m w n' w' := by
  have H : Hid (RSV w T B s l vo vw 0 a) := h
  have HU : Hid (UnitH str X s l m) := hU
  have HB : Hid (B ≤ w.heap.size) := hB
  by_cases h0 : str.size ≤ m
  · have h0' : (m : Int) ≥ (str.size : Int) := by omega
    clear h hU hB
    go_enter Tryd.func45, Tryd.ntmps45
    go_wp2_with fail
    refine (cut_any T B str X m s l vo vw a w H.out HB.out (by omega) (HU.out.c0 h0)).mono ?_
    rintro e w2 ⟨n', rfl, hq⟩
    have HQ : Hid (RQ T B str X m w n' w2) := hq
    clear hq
    go_wp2
    go_ret
    exact ⟨n', rfl, HQ.out⟩
  · have hlt : m < str.size := by omega
    have h0' : ¬ (m : Int) ≥ (str.size : Int) := by omega
    have hx := bytesL_byte str _ (nth_mem (l := bytesL str) (i := m) (by rw [bytesL_length]; exact hlt))
    have hsn := str_nth str m hlt
    have h4 := h.c4
    have hhi := h.good.hi
    obtain ⟨x, hxx⟩ : ∃ x, nth (bytesL str) m = x := ⟨_, rfl⟩
    have HXX : Hid (nth (bytesL str) m = x) := hxx
    rw [hxx] at hx hsn
    obtain ⟨hi, hhh⟩ : ∃ hi, s.hi = hi := ⟨_, rfl⟩
    have HHH : Hid (s.hi = hi) := hhh
    rw [hhh] at h4 hhi
    have HWR : Hid (Exp.lowB x ≠ decide (0 < hi) → ∃ z : St, X = ⟨l, m, z, true⟩) := fun e => HU.out.wr hlt (by rw [HXX.out, HHH.out]; exact e)
    have HC1 : Hid (Exp.lowB x = decide (0 < hi) → str.size ≤ m + 1 → ∃ z : St, X = ⟨l, str.size, z, false⟩ ∧ Exp.rest z = false) := fun e g => HU.out.c1 hlt (by rw [HXX.out, HHH.out]; exact e) g
    have HGO : Hid (Exp.lowB x = decide (0 < hi) → m + 1 < str.size → X = (scan Exp.stepX (Exp.unitE s x (nth (bytesL str) (m + 1))).1 ((bytesL str).drop (m + 2))).pre (l ++ (Exp.unitE s x (nth (bytesL str) (m + 1))).2) (m + 2)) := fun e g => by
      have := HU.out.go g (by rw [HXX.out, HHH.out]; exact e)
      rwa [HXX.out] at this
    have hw1 : IntKind.i64.wrap ((m : Int) + 1) = ((m + 1 : Nat) : Int) := by rw [wrap_i64w _ (by omega) (by omega)]; omega
    clear h hU hB hxx hhh HU
    obtain ⟨x0, x1⟩ := hx
    by_cases hL : 220 ≤ x ∧ x ≤ 223
    · have hlb : Exp.lowB x = true := Exp.low_iff2.2 hL
      obtain ⟨l1, l2⟩ := hL
      by_cases hp : 0 < hi
      · have hp' : hi > 0 := hp
        have hlp : Exp.lowB x = decide (0 < hi) := by rw [hlb, decide_eq_true hp]
        by_cases h1 : str.size ≤ m + 1
        · have h1' : ((m + 1 : Nat) : Int) ≥ (str.size : Int) := by omega
          have HX : Hid _ := HC1.out hlp h1
          clear hlb hlp
          go_enter Tryd.func45, Tryd.ntmps45
          go_wp2_with fail
          refine (cut_any T B str X m s l vo vw a w H.out HB.out (by omega) HX.out).mono ?_
          rintro e w2 ⟨n', rfl, hq⟩
          have HQ : Hid (RQ T B str X m w n' w2) := hq
          clear hq
          go_wp2
          go_ret
          exact ⟨n', rfl, HQ.out⟩
        · have h1' : ¬ ((m + 1 : Nat) : Int) ≥ (str.size : Int) := by omega
          have hlt1 : m + 1 < str.size := by omega
          have hy := bytesL_byte str _ (nth_mem (l := bytesL str) (i := m + 1) (by rw [bytesL_length]; exact hlt1))
          have hsn1 := str_nth str (m + 1) hlt1
          have HG := HGO.out hlp hlt1
          obtain ⟨y, hyy⟩ : ∃ y, nth (bytesL str) (m + 1) = y := ⟨_, rfl⟩
          rw [hyy] at hy hsn1 HG
          have HX : Hid (X = (scan Exp.stepX (Exp.unitE s x y).1 ((bytesL str).drop (m + 2))).pre (l ++ (Exp.unitE s x y).2) (m + 2)) := HG
          obtain ⟨y0, y1⟩ := hy
          clear HG hlb hlp hyy HC1 HGO HWR
          have hlti : (m : Int) + 1 < (str.size : Int) := by omega
          go_enter Tryd.func45, Tryd.ntmps45
          go_upto_region 8 with fail
          go_quiet (fail)
          go_upto_region 10 with fail
          have HW : Hid (RSV (w.drewN nq) T B s l vo vw 0 a ∧ Below B w (w.drewN nq) ∧ B ≤ (w.drewN nq).heap.size) := ⟨H.out.below (below_dn w nq), (below_dn w nq).mono HB.out, HB.out⟩
          have h4 : (w.drewN nq).cell? ⟨T, 4, none⟩ = some (.int .u32 hi) := h4
          generalize w.drewN nq = W at HW h4 ⊢
          have hc0 := HW.out.1.c0
          have hcA : ∀ C : Int, (W.alloc (.cells #[.int .u32 C] 35)).cell? ⟨T, 0, none⟩ = some vo := fun C => (HW.out.1.below ((Below.refl _ _).alloc (Nat.le_refl _) _)).c0
          have HAP : Hid (AppH W T l vo) := HW.out.1.appH
          obtain ⟨C, hC⟩ : ∃ C, IntKind.u32.wrap (IntKind.u32.wrap (IntKind.u32.wrap (65536 + IntKind.u32.wrap (IntKind.u32.wrap (hi - 55296) * 1024)) + (x * 256 + y)) - 56320) = C := ⟨_, rfl⟩
          have HCC : Hid (Exp.unitE s x y = (⟨s.uni, s.act, s.wins, 0, []⟩, [C])) := by
            show _ = _
            rw [Exp.unit_low (Exp.low_iff2.2 ⟨l1, l2⟩), HHH.out, ← hC]
            congr 2
            rw [show IntKind.u32.wrap (hi - 55296) = hi - 55296 from by rw [IntKind.wrap_u32]; omega, IntKind.wrap_u32, IntKind.wrap_u32, IntKind.wrap_u32, IntKind.wrap_u32]
            omega
          replace hcA := hcA C
          clear h0' hlti hsn hsn1
          go_region_law ((refine step_append_seg (by rfl) _ _ 22 22 (by rfl) .u32 35 4 Tryd.underlying22 Stp.info_u32 vo l [C] (by rfl) (HAP.out.s _) _ (by rfl) (src_row (l := [C]) Tryd.underlying22 (by exact row_new .u32 _ [C] _ _ (by simp)) rfl (fun h => by cases h)) (by unfold maxLen; simp; omega) (by simp; omega) ?_; intro vo2 w4 hs4 hc4 hm4; have hc1 := hc4.cellAt (k := T) (o := 0) (HAP.out.c _) HAP.out.n; have hf1 := hc4.freeAt (k := T) (o := 0) (HAP.out.c _) (HAP.out.f _); obtain ⟨a1, c1, hv1, -⟩ := hs4.form; obtain ⟨ln, hln⟩ : ∃ ln, (l ++ [C]).length = ln := ⟨_, rfl⟩; rw [hln] at hv1; subst hv1))
          all_goals
            generalize hvo : Value.slice a1 ln c1 = vo3 at *
            obtain ⟨R5, B5⟩ := HW.out.1.app HW.out.2.2 (low_alloc W _) hs4 hc4 hm4
            have HW5 : Hid (RSV (w4.setCell ⟨T, 0, none⟩ vo3) T B s (l ++ [C]) vo3 vw 0 a ∧ Below B w (w4.setCell ⟨T, 0, none⟩ vo3)) := ⟨R5, HW.out.2.1.trans B5⟩
            generalize w4.setCell ⟨T, 0, none⟩ vo3 = w5 at *
            clear hs4 hc4 hm4 hc1 hf1 R5 B5 hln hvo hc0 hcA h4 HW HAP hC
            have h45 := HW5.out.1.c4
            have f45 := HW5.out.1.fr 4
            go_wp2
            go_ret
            have hc := chg_setCell w5 T 4 (.int .u32 0)
            have h := HW5.out.1
            refine ⟨_, rfl, ⟨s.uni, s.act, s.wins, 0, []⟩, l ++ [C], vo3, vw, 0, a, h.cells (hc.mono (fun k j _ h => ⟨h.1, by omega, by omega⟩)) (hc.cellAt h.c2 (by omega)) (hc.cellAt h.c3 (by omega)) (World.cell?_setCell_same _ _ _ h.c4) (hc.cellAt h.c5 (by omega)) (hc.cellAt h.c6 (by omega)) (good_of h.good h.good.len h.good.act h.good.wins (.inl rfl)) rfl rfl,
              HW5.out.2.trans (hc.below (Nat.le_trans HB.out HW5.out.2.size) (fun k o hk hh => by have := h.low; omega)), by simp; omega, .inl ⟨rfl, m + 2, by rfl, by omega, by omega, by simp; omega, ?_⟩⟩
            have := HX.out
            rw [HCC.out] at this
            exact this
      · have hlp : Exp.lowB x ≠ decide (0 < hi) := by rw [hlb, decide_eq_false hp]; decide
        have HX : Hid _ := HWR.out hlp
        obtain rfl : hi = 0 := by omega
        clear hlb hlp hp
        go_enter Tryd.func45, Tryd.ntmps45
        go_wp2_with fail
        refine (wrong_any T B str X m m s l vo vw a w H.out HB.out (by omega) HX.out).mono ?_
        rintro e w2 ⟨n', rfl, hq⟩
        have HQ : Hid (RQ T B str X m w n' w2) := hq
        clear hq
        go_wp2
        go_ret
        exact ⟨n', rfl, HQ.out⟩
    · have hlb : Exp.lowB x = false := Bool.eq_false_iff.2 (fun e => hL (Exp.low_iff2.1 e))
      have hcs : x < 220 ∨ (220 ≤ x ∧ ¬ x ≤ 223) := by omega
      by_cases hp : 0 < hi
      · have hp' : hi > 0 := hp
        have hlp : Exp.lowB x ≠ decide (0 < hi) := by rw [hlb, decide_eq_true hp]; decide
        have HX : Hid _ := HWR.out hlp
        clear hlb hlp hL
        rcases hcs with c | ⟨c, c'⟩
        all_goals
          go_enter Tryd.func45, Tryd.ntmps45
          go_wp2_with fail
          refine (wrong_any T B str X m m s l vo vw a w H.out HB.out (by omega) HX.out).mono ?_
          rintro e w2 ⟨n', rfl, hq⟩
          have HQ : Hid (RQ T B str X m w n' w2) := hq
          clear hq
          go_wp2
          go_ret
          exact ⟨n', rfl, HQ.out⟩
      · have hlp : Exp.lowB x = decide (0 < hi) := by rw [hlb, decide_eq_false hp]
        have HLP : Hid (Exp.lowB x = decide (0 < hi)) := hlp
        obtain rfl : hi = 0 := by omega
        by_cases h1 : str.size ≤ m + 1
        · have h1' : ((m + 1 : Nat) : Int) ≥ (str.size : Int) := by omega
          have HX : Hid _ := HC1.out hlp h1
          clear hlb hlp hL hp
          rcases hcs with c | ⟨c, c'⟩
          all_goals
            go_enter Tryd.func45, Tryd.ntmps45
            go_wp2_with fail
            refine (cut_any T B str X m s l vo vw a w H.out HB.out (by omega) HX.out).mono ?_
            rintro e w2 ⟨n', rfl, hq⟩
            have HQ : Hid (RQ T B str X m w n' w2) := hq
            clear hq
            go_wp2
            go_ret
            exact ⟨n', rfl, HQ.out⟩
        · have h1' : ¬ ((m + 1 : Nat) : Int) ≥ (str.size : Int) := by omega
          have hlt1 : m + 1 < str.size := by omega
          have hy := bytesL_byte str _ (nth_mem (l := bytesL str) (i := m + 1) (by rw [bytesL_length]; exact hlt1))
          have hsn1 := str_nth str (m + 1) hlt1
          have HG := HGO.out hlp hlt1
          obtain ⟨y, hyy⟩ : ∃ y, nth (bytesL str) (m + 1) = y := ⟨_, rfl⟩
          rw [hyy] at hy hsn1 HG
          obtain ⟨y0, y1⟩ := hy
          have HX : Hid (X = (scan Exp.stepX (Exp.unitE s x y).1 ((bytesL str).drop (m + 2))).pre (l ++ (Exp.unitE s x y).2) (m + 2)) := HG
          have hlti : (m : Int) + 1 < (str.size : Int) := by omega
          replace hcs := hcs.symm
          obtain ⟨U, hU⟩ : ∃ U, x * 256 + y = U := ⟨_, rfl⟩
          have HUU : Hid (x * 256 + y = U) := hU
          have u0 : 0 ≤ U := by omega
          have u1 : U < 65536 := by omega
          have HNL : Hid (¬ (220 ≤ x ∧ x ≤ 223) ∧ 0 ≤ y ∧ y < 256) := ⟨hL, y0, y1⟩
          clear HG hlb hlp hyy HC1 HGO HWR hL hp
          by_cases hsu : 55296 ≤ U ∧ U ≤ 56319
          · have HCC : Hid (Exp.unitE s x y = (⟨s.uni, s.act, s.wins, U, []⟩, [])) := by
              show _ = _
              rw [Exp.unit_high ⟨y0, y1⟩ (by omega), hU]
            obtain ⟨su1, su2⟩ := hsu
            have su3 : U ≥ 55296 := su1
            have f4 := H.out.fr 4
            have c : x < 220 := by omega
            clear hcs
            all_goals
              go_enter Tryd.func45, Tryd.ntmps45
              go_upto_region 8 with fail
              go_quiet (fail)
              go_wp2
              go_ret
              have hc := chg_setCell (w.drewN nq) T 4 (.int .u32 U)
              have h := H.out.below (below_dn w nq)
              refine ⟨_, rfl, ⟨s.uni, s.act, s.wins, U, []⟩, l, vo, vw, 0, a, h.cells (hc.mono (fun k j _ h => ⟨h.1, by omega, by omega⟩)) (hc.cellAt h.c2 (by omega)) (hc.cellAt h.c3 (by omega)) (World.cell?_setCell_same _ _ _ h.c4) (hc.cellAt h.c5 (by omega)) (hc.cellAt h.c6 (by omega)) (good_of h.good h.good.len h.good.act h.good.wins (.inr ⟨su1, su2⟩)) rfl rfl,
                ((below_dn w nq).mono HB.out).trans (hc.below HB.out (fun k o hk hh => by have := h.low; omega)), by omega, .inl ⟨rfl, m + 2, by rfl, by omega, by omega, by omega, ?_⟩⟩
              have := HX.out
              rw [HCC.out] at this
              simpa using this
          · have HCC : Hid (Exp.unitE s x y = (⟨s.uni, s.act, s.wins, s.hi, []⟩, [U])) := by
              show _ = _
              rw [Exp.unit_one ⟨y0, y1⟩ (by omega), hU]
            have hcu : U < 55296 ∨ (55296 ≤ U ∧ ¬ U ≤ 56319) := by omega
            have HS : Hid ((⟨s.uni, s.act, s.wins, s.hi, []⟩ : St) = s) := bare_st H.out.nb
            have HSG : Hid (∀ n o, Seg .u32 ((w.drewN n).alloc o) vo l) := fun n o => (H.out.below ((below_dn w n).trans (((Below.refl _ _).alloc (Nat.le_refl _) _).mono (below_dn w n).size))).so
            have HC0 : Hid (∀ n o, ((w.drewN n).alloc o).cell? ⟨T, 0, none⟩ = some vo ∧ ((w.drewN n).alloc o).frozen? ⟨T, 0, none⟩ = false) := fun n o => ⟨(H.out.below ((below_dn w n).trans (((Below.refl _ _).alloc (Nat.le_refl _) _).mono (below_dn w n).size))).c0, (H.out.below ((below_dn w n).trans (((Below.refl _ _).alloc (Nat.le_refl _) _).mono (below_dn w n).size))).fr 0⟩
            have hc0 := H.out.c0
            have HNO : Hid (vo.ownBlock ≠ some T) := H.out.no
            clear hsu
            have hcz : (x < 220 ∧ U < 55296) ∨ (220 ≤ x ∧ ¬ x ≤ 223 ∧ 55296 ≤ U ∧ ¬ U ≤ 56319) := by omega
            clear hcs hcu
            rcases hcz with ⟨c, k⟩ | ⟨c, c', k, k'⟩
            all_goals
              go_enter Tryd.func45, Tryd.ntmps45
              go_upto_region 8 with fail
              go_quiet (fail)
              go_wp2_with (at_builtin; go_must (refine wpList_append_seg rfl _ _ 22 22 rfl .u32 35 4 Tryd.underlying22 Stp.info_u32 vo l [U] rfl (HSG.out _ _) _ rfl (src_row (l := [U]) Tryd.underlying22 (by exact row_new .u32 _ [U] _ _ (by simp)) rfl (fun h => by cases h)) (by unfold maxLen; simp; omega) (by simp; omega) ?_; intro vo2 w4 hs4 hc4 hm4; have hc1 := hc4.cellAt (k := T) (o := 0) (HC0.out _ _).1 HNO.out; have hf1 := hc4.freeAt (k := T) (o := 0) (HC0.out _ _).1 (HC0.out _ _).2; obtain ⟨a1, c1, hv1, -⟩ := hs4.form; obtain ⟨ln, hln⟩ : ∃ ln, (l ++ [U]).length = ln := ⟨_, rfl⟩; rw [hln] at hv1; subst hv1))
              go_ret
              generalize hvo : Value.slice a1 ln c1 = vo3 at *
              obtain ⟨R5, B5⟩ := (H.out.below (below_dn w nq)).app (Nat.le_trans HB.out (below_dn w nq).size) ((Below.refl _ _).alloc (Nat.le_refl _) _) hs4 hc4 hm4
              refine ⟨_, rfl, s, l ++ [U], vo3, vw, 0, a, R5, ((below_dn w nq).mono HB.out).trans B5, by simp; omega, .inl ⟨rfl, m + 2, by rfl, by omega, by omega, by simp; omega, ?_⟩⟩
              have := HX.out
              rw [HCC.out, HS.out] at this
              exact this
end EX
end Go.Proofs.YtpglmfhlgaliaaaDoor
