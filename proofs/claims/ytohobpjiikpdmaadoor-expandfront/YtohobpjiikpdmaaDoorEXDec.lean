/-
  The decoder of layer 14 in memory, with its windows. The condition: its memory is there and may be written; the tables are as the program's text lays them.
-/
import Derived.Test.YtohobpjiikpdmaaDoorStp3
import Derived.Test.YtohobpjiikpdmaaDoorSca1
import Derived.Test.YtohobpjiikpdmaaDoorEXMath
import Derived.Test.YtohobpjiikpdmaaDoorWin2
import Derived.Deep.RegionHeld3
import Derived.Deep.CutBlock
namespace Go.Proofs.YtohobpjiikpdmaaDoor
open Go.ChangeShapes Go.WideShapes Go.ChangeAt Go.RowKit
namespace EX
open Bas Sca Stp Scn Cod Win
set_option linter.unusedVariables false

/-- The tables, as the program's text lays them. -/
structure Tabs (w : World) : Prop where
  win : Win.Tabs w
  sz : ∀ i : Nat, i < 10 → w.cell? ⟨0, i, none⟩ = some (.int .i64 (nth sizeL i))
  all : 3 ≤ w.heap.size
theorem Tabs.chg {S : Nat → Nat → Prop} {w w' : World} (h : Tabs w) (hc : Chg S w w') (h0 : ∀ k, k < 3 → ∀ j, ¬ S k j) : Tabs w' :=
  ⟨h.win.chg hc h0, fun i hi => hc.cellAt (h.sz i hi) (h0 _ (by decide) _), Nat.le_trans h.all hc.size⟩
theorem Tabs.below {w w' : World} (h : Tabs w) (hb : Below w.heap.size w w') : Tabs w' :=
  h.chg (chg_of_below hb (Nat.le_refl _) (fun _ _ => False)) (fun _ _ _ h => h)
theorem Tabs.drewN {w : World} (h : Tabs w) (n : Nat) : Tabs (w.drewN n) := ⟨h.win.drewN n, h.sz, h.all⟩
theorem Tabs.pos {w : World} (h : Tabs w) : 3 ≤ w.heap.size := h.all

/-- A decoder in block D, its windows in block d: what it has eaten, its error, has it ended? Its state, what waits, what has begun. -/
structure DecW (w : World) (D d : Nat) (p q : Int) (en : Bool) (s : St) (l : List Int) (v u : Value) : Prop where
  base : BaseAt w D 0 p q en
  row : RowAt .u32 w D 3 v l
  st : RowAt .u8 w D 9 u s.beg
  dy : w.cell? ⟨D, 4, none⟩ = some (.pointer (some ⟨d, 0, none⟩))
  ac : w.cell? ⟨D, 5, none⟩ = some (.int .i64 s.act)
  un : w.cell? ⟨D, 6, none⟩ = some (.bool s.uni)
  wa : w.cell? ⟨D, 7, none⟩ = some (.bool (decide (0 < s.hi)))
  up : ∃ y : Int, w.cell? ⟨D, 8, none⟩ = some (.int .u32 y) ∧ (0 < s.hi → y = s.hi)
  fr : ∀ i, w.frozen? ⟨D, i, none⟩ = false
  win : WinV w d 0 s.wins used0
  apart : D ≠ d
  ne : ∀ g, v.ownBlock = some g → u.ownBlock ≠ some g
  nv : v.ownBlock ≠ some d
  nu : u.ownBlock ≠ some d
  good : Exp.Good s
  tabs : Tabs w
  big : 3 ≤ D
  bigd : 3 ≤ d
  bigV : ∀ g, v.ownBlock = some g → 3 ≤ g
  bigU : ∀ g, u.ownBlock = some g → 3 ≤ g
/-- Its memory. -/
def footX (D d : Nat) (v u : Value) (k : Nat) : Prop := (k = D ∨ k = d) ∨ v.ownBlock = some k ∨ u.ownBlock = some k
section
variable {w w' : World} {D d : Nat} {p q : Int} {en : Bool} {s : St} {l : List Int} {v u : Value}
theorem DecW.lt (h : DecW w D d p q en s l v u) : D < w.heap.size := h.base.lt
theorem DecW.ltd (h : DecW w D d p q en s l v u) : d < w.heap.size := h.win.lt
theorem DecW.ltV (h : DecW w D d p q en s l v u) {g : Nat} (hg : v.ownBlock = some g) : g < w.heap.size := h.row.seg.lt hg
theorem DecW.ltU (h : DecW w D d p q en s l v u) {g : Nat} (hg : u.ownBlock = some g) : g < w.heap.size := h.st.seg.lt hg
theorem DecW.foot_lt (h : DecW w D d p q en s l v u) {k : Nat} (hk : footX D d v u k) : k < w.heap.size := by
  rcases hk with (rfl | rfl) | hk | hk
  · exact h.lt
  · exact h.ltd
  · exact h.ltV hk
  · exact h.ltU hk
theorem DecW.foot_big (h : DecW w D d p q en s l v u) {k : Nat} (hk : footX D d v u k) : 3 ≤ k := by
  rcases hk with (rfl | rfl) | hk | hk
  · exact h.big
  · exact h.bigd
  · exact h.bigV k hk
  · exact h.bigU k hk
theorem DecW.chg {S : Nat → Nat → Prop} (h : DecW w D d p q en s l v u) (hc : Chg S w w') (hS : ∀ k j, footX D d v u k → ¬ S k j) (h0 : ∀ k, k < 3 → ∀ j, ¬ S k j) : DecW w' D d p q en s l v u := by
  have hD : ∀ j, ¬ S D j := fun j => hS D j (.inl (.inl rfl))
  obtain ⟨y, hy, hy2⟩ := h.up
  exact ⟨h.base.chg hc (fun k j hk => by rw [hk.1]; exact hD j), h.row.chg hc (fun k j hk => by
      rcases hk with hk | hk
      · rw [hk.1]; exact hD j
      · exact hS k j (.inr (.inl hk))),
    h.st.chg hc (fun k j hk => by
      rcases hk with hk | hk
      · rw [hk.1]; exact hD j
      · exact hS k j (.inr (.inr hk))),
    hc.cellAt h.dy (hD 4), hc.cellAt h.ac (hD 5), hc.cellAt h.un (hD 6), hc.cellAt h.wa (hD 7), ⟨y, hc.cellAt hy (hD 8), hy2⟩, fun i => (hc.frozen D i h.lt).trans (h.fr i),
    h.win.chg hc (fun k j hk => hS k j (.inl (.inr hk.1))), h.apart, h.ne, h.nv, h.nu, h.good, h.tabs.chg hc h0, h.big, h.bigd, h.bigV, h.bigU⟩
theorem DecW.below (h : DecW w D d p q en s l v u) (hb : Below w.heap.size w w') : DecW w' D d p q en s l v u :=
  h.chg (chg_of_below hb (Nat.le_refl _) (fun _ _ => False)) (fun _ _ _ h => h) (fun _ _ _ h => h)
/-- Behind other numbers in its own cells. -/
theorem DecW.cells {s' : St} (h : DecW w D d p q en s l v u) (hc : Chg (fun k j => k = D ∧ 5 ≤ j ∧ j ≤ 8) w w') (a5 : w'.cell? ⟨D, 5, none⟩ = some (.int .i64 s'.act)) (a6 : w'.cell? ⟨D, 6, none⟩ = some (.bool s'.uni))
    (a7 : w'.cell? ⟨D, 7, none⟩ = some (.bool (decide (0 < s'.hi)))) (a8 : ∃ y : Int, w'.cell? ⟨D, 8, none⟩ = some (.int .u32 y) ∧ (0 < s'.hi → y = s'.hi)) (hg : Exp.Good s') (hw : s'.wins = s.wins) (hb : s'.beg = s.beg) : DecW w' D d p q en s' l v u := by
  refine ⟨h.base.chg hc (fun k j hk hh => ?_), h.row.chg hc (fun k j hk hh => ?_), ?_, hc.cellAt h.dy (by omega), a5, a6, a7, a8, fun i => (hc.frozen D i h.lt).trans (h.fr i), ?_, h.apart, h.ne, h.nv, h.nu, hg, h.tabs.chg hc (fun k hk j hh => ?_), h.big, h.bigd, h.bigV, h.bigU⟩
  · have := hk.2; have := hh.2; omega
  · rcases hk with hk | hk
    · have := hk.2; have := hh.2; omega
    · exact h.row.ne (by rw [hk, hh.1])
  · rw [hb]
    refine h.st.chg hc (fun k j hk hh => ?_)
    rcases hk with hk | hk
    · have := hk.2; have := hh.2; omega
    · exact h.st.ne (by rw [hk, hh.1])
  · rw [hw]
    exact h.win.chg hc (fun k j hk hh => h.apart (by rw [← hh.1, hk.1]))
  · have := h.big; have := hh.1; omega
/-- Behind another offset of a window. -/
theorem DecW.wset {W' : List Int} (h : DecW w D d p q en s l v u) (hc : Chg (footW d 0) w w') (hw : WinV w' d 0 W' used0) (hg : Exp.Good ⟨s.uni, s.act, W', s.hi, s.beg⟩) : DecW w' D d p q en ⟨s.uni, s.act, W', s.hi, s.beg⟩ l v u := by
  obtain ⟨y, hy, hy2⟩ := h.up
  have hD : ∀ j, ¬ footW d 0 D j := fun j hh => h.apart hh.1
  refine ⟨h.base.chg hc (fun k j hk => by rw [hk.1]; exact hD j), h.row.chg hc (fun k j hk hh => ?_), h.st.chg hc (fun k j hk hh => ?_), hc.cellAt h.dy (hD 4), hc.cellAt h.ac (hD 5), hc.cellAt h.un (hD 6), hc.cellAt h.wa (hD 7), ⟨y, hc.cellAt hy (hD 8), hy2⟩, fun i => (hc.frozen D i h.lt).trans (h.fr i),
    hw, h.apart, h.ne, h.nv, h.nu, hg, h.tabs.chg hc (fun k hk j hh => ?_), h.big, h.bigd, h.bigV, h.bigU⟩
  · rcases hk with hk | hk
    · exact h.apart (by rw [← hk.1, hh.1])
    · exact h.nv (by rw [hk, hh.1])
  · rcases hk with hk | hk
    · exact h.apart (by rw [← hk.1, hh.1])
    · exact h.nu (by rw [hk, hh.1])
  · have := h.bigd; have := hh.1; omega
/-- Behind bytes written in the spare of what has begun. -/
theorem DecW.spare (h : DecW w D d p q en s l v u) (hc : Chg (fun k _ => u.ownBlock = some k) w w') (hs : Seg .u8 w' u s.beg) : DecW w' D d p q en s l v u := by
  obtain ⟨y, hy, hy2⟩ := h.up
  refine ⟨h.base.chg hc (fun k j hk hh => h.st.ne (by rw [hh, hk.1])), h.row.chg hc (fun k j hk hh => ?_), ⟨hc.cellAt h.st.c h.st.ne, hc.freeAt h.st.c h.st.f, hs, h.st.ne⟩, hc.cellAt h.dy h.st.ne, hc.cellAt h.ac h.st.ne, hc.cellAt h.un h.st.ne, hc.cellAt h.wa h.st.ne,
    ⟨y, hc.cellAt hy h.st.ne, hy2⟩, fun i => (hc.frozen D i h.lt).trans (h.fr i), h.win.chg hc (fun k j hk hh => h.nu (by rw [hh, hk.1])), h.apart, h.ne, h.nv, h.nu, h.good, h.tabs.chg hc (fun k hk j hh => by have := h.bigU k hh; omega), h.big, h.bigd, h.bigV, h.bigU⟩
  rcases hk with hk | hk
  · exact h.st.ne (by rw [hh, hk.1])
  · exact h.ne k hk hh
/-- Behind a new beginning. -/
theorem DecW.put {s' : List Int} {u' vv : Value} {H : Nat} (h : DecW w D d p q en s l v u) (hc : Chg (fun k j => (k = D ∧ j = 9) ∨ u.ownBlock = some k) w w') (h5 : w'.cell? ⟨D, 9, none⟩ = some vv) (hs : Seg .u8 w' u' s') (hm : ∀ g, u'.ownBlock = some g → u.ownBlock = some g ∨ H ≤ g) (hb : D < H) (hd : d < H) (hv : ∀ g, v.ownBlock = some g → g < H)
    (hg : Exp.Good ⟨s.uni, s.act, s.wins, s.hi, s'⟩) : DecW (w'.setCell ⟨D, 9, none⟩ u') D d p q en ⟨s.uni, s.act, s.wins, s.hi, s'⟩ l v u' := by
  obtain ⟨y, hy, hy2⟩ := h.up
  have hbig := h.big
  have hnb : u'.ownBlock ≠ some D := fun e => by
    rcases hm D e with e | e
    · exact h.st.ne e
    · omega
  have hc2 : Chg (fun k j => (k = D ∧ j = 9) ∨ u.ownBlock = some k) w (w'.setCell ⟨D, 9, none⟩ u') := hc.trans2 (chg_setCell w' D 9 u') (fun _ _ _ h => h) (fun k j _ h => .inl h)
  have hN : ∀ j, j ≠ 9 → ¬ ((D = D ∧ j = 9) ∨ u.ownBlock = some D) := fun j hj hh => by
    rcases hh with hh | hh
    · exact hj hh.2
    · exact h.st.ne hh
  refine ⟨h.base.chg hc2 (fun k j hk => by have := hk.2; rw [hk.1]; exact hN j (by omega)), h.row.chg hc2 (fun k j hk hh => ?_), ⟨World.cell?_setCell_same _ _ _ h5, hc2.freeAt h.st.c h.st.f, hs.chg (chg_setCell w' D 9 u') (fun g o hg hh => hnb (by rw [hg, hh.1])), hnb⟩,
    hc2.cellAt h.dy (hN 4 (by decide)), hc2.cellAt h.ac (hN 5 (by decide)), hc2.cellAt h.un (hN 6 (by decide)), hc2.cellAt h.wa (hN 7 (by decide)), ⟨y, hc2.cellAt hy (hN 8 (by decide)), hy2⟩, fun i => (hc2.frozen D i h.lt).trans (h.fr i),
    h.win.chg hc2 (fun k j hk hh => ?_), h.apart, fun g hg hu => ?_, h.nv, fun e => ?_, hg, h.tabs.chg hc2 (fun k hk j hh => ?_), h.big, h.bigd, h.bigV, fun g hg => ?_⟩
  · rcases hh with hh | hh
    · rcases hk with hk | hk
      · omega
      · exact h.row.ne (by rw [hk, hh.1])
    · rcases hk with hk | hk
      · exact h.st.ne (by rw [hh, hk.1])
      · exact h.ne k hk hh
  · rcases hh with hh | hh
    · exact h.apart (by rw [← hh.1, hk.1])
    · exact h.nu (by rw [hh, hk.1])
  · rcases hm g hu with e | e
    · exact h.ne g hg e
    · have := hv g hg; omega
  · rcases hm d e with e | e
    · exact h.nu e
    · omega
  · rcases hh with hh | hh
    · omega
    · have := h.bigU k hh; omega
  · rcases hm g hg with e | e
    · exact h.bigU g e
    · omega
/-- Behind what is told more. -/
theorem DecW.hold {l' : List Int} {v' : Value} (h : DecW w D d p q en s l v u) (hr : RowAt .u32 w' D 3 v' l') (hc : Chg (footR D 3 v) w w') (hm : Mov w v v') : DecW w' D d p q en s l' v' u := by
  obtain ⟨y, hy, hy2⟩ := h.up
  have hbig := h.big
  have hN : ∀ j, j ≠ 3 → ¬ footR D 3 v D j := fun j hj hh => by
    rcases hh with hh | hh
    · exact hj hh.2
    · exact h.row.ne hh
  refine ⟨h.base.chg hc (fun k j hk => by have := hk.2; rw [hk.1]; exact hN j (by omega)), hr, h.st.chg hc (fun k j hk hh => ?_), hc.cellAt h.dy (hN 4 (by decide)), hc.cellAt h.ac (hN 5 (by decide)), hc.cellAt h.un (hN 6 (by decide)), hc.cellAt h.wa (hN 7 (by decide)), ⟨y, hc.cellAt hy (hN 8 (by decide)), hy2⟩,
    fun i => (hc.frozen D i h.lt).trans (h.fr i), h.win.chg hc (fun k j hk hh => ?_), h.apart, fun g hg hu => ?_, fun e => ?_, h.nu, h.good, h.tabs.chg hc (fun k hk j hh => ?_), h.big, h.bigd, fun g hg => ?_, h.bigU⟩
  · rcases hk with hk | hk
    · rcases hh with hh | hh
      · omega
      · exact h.row.ne (by rw [hh, hk.1])
    · rcases hh with hh | hh
      · exact h.st.ne (by rw [hk, hh.1])
      · exact h.ne k hh hk
  · rcases hh with hh | hh
    · exact h.apart (by rw [← hh.1, hk.1])
    · exact h.nv (by rw [hh, hk.1])
  · rcases hm g hg with e | e
    · exact h.ne g e hu
    · have := h.ltU hu; omega
  · rcases hm d e with e | e
    · exact h.nv e
    · have := h.ltd; omega
  · rcases hh with hh | hh
    · omega
    · have := h.bigV k hh; omega
  · rcases hm g hg with hg | hg
    · exact h.bigV g hg
    · have := h.tabs.all; omega
/-- Behind another place, error, end. -/
theorem DecW.rebase {p' q' : Int} {en' : Bool} (h : DecW w D d p q en s l v u) (hb : BaseAt w' D 0 p' q' en') (hc : Chg (footB D 0) w w') : DecW w' D d p' q' en' s l v u := by
  obtain ⟨y, hy, hy2⟩ := h.up
  have hbig := h.big
  have hN : ∀ j, 3 ≤ j → ¬ footB D 0 D j := fun j hj hh => by have := hh.2; omega
  refine ⟨hb, h.row.chg hc (fun k j hk hh => ?_), h.st.chg hc (fun k j hk hh => ?_), hc.cellAt h.dy (hN 4 (by decide)), hc.cellAt h.ac (hN 5 (by decide)), hc.cellAt h.un (hN 6 (by decide)), hc.cellAt h.wa (hN 7 (by decide)), ⟨y, hc.cellAt hy (hN 8 (by decide)), hy2⟩,
    fun i => (hc.frozen D i h.lt).trans (h.fr i), h.win.chg hc (fun k j hk hh => h.apart (by rw [← hh.1, hk.1])), h.apart, h.ne, h.nv, h.nu, h.good, h.tabs.chg hc (fun k hk j hh => ?_), h.big, h.bigd, h.bigV, h.bigU⟩
  · rcases hk with hk | hk
    · have := hh.2; omega
    · exact h.row.ne (by rw [hk, hh.1])
  · rcases hk with hk | hk
    · have := hh.2; omega
    · exact h.st.ne (by rw [hk, hh.1])
  · have := hh.1; omega
end
/-- What has begun, and what is told, behind a byte more. -/
def stN (s : St) (x : Int) : St := match Exp.stepX s x with | none => s | some y => y.1
def toldN (s : St) (x : Int) : List Int := match Exp.stepX s x with | none => [] | some y => y.2
set_option maxHeartbeats 1000000 in
theorem newW_any (w : World) {N : Nat} (hN : N = w.heap.size) (hT : Tabs w) :
    Calls Tryd.prog 11 #[] w fun e w' => e = .returned (.pointer (some ⟨N + 1, 0, none⟩)) ∧ DecW w' (N + 1) N 0 0 false Exp.st0 [] (.slice none 0 0) (.slice none 0 0) ∧ w'.heap.size = N + 2 ∧ Below N w w' := by
  have HT : Hid (Tabs w ∧ N = w.heap.size) := ⟨hT, hN⟩
  clear hT
  go_enter Tryd.func11, Tryd.ntmps11
  go_wp2_with fail
  refine (new_at w).mono ?_
  rw [← hN]
  clear hN
  rintro e w1 ⟨rfl, hv, hb, hz⟩
  have HW : Hid (WinV w1 N 0 firstL8 used0 ∧ Below N w w1 ∧ w1.heap.size = N + 1) := ⟨hv, hb, hz⟩
  clear hv hb hz
  go_wp2
  go_ret
  obtain ⟨hw, hb1, hz⟩ := HW.out
  obtain ⟨hT, hN⟩ := HT.out
  have hall := hT.all
  have hba : ∀ o, Below w1.heap.size w1 (w1.alloc o) := fun o => (Below.refl _ _).alloc (Nat.le_refl _) _
  have hT1 : Tabs w1 := hT.below (by rw [← hN]; exact hb1)
  refine ⟨by rw [hz]; rfl, ⟨⟨?_, ?_, ?_, ?_, ?_, ?_⟩, ⟨?_, ?_, seg_nil _ _, by simp [Value.ownBlock]⟩, ⟨?_, ?_, seg_nil _ _, by simp [Value.ownBlock]⟩, ?_, ?_, ?_, ?_, ⟨0, ?_, fun h => absurd h (by decide)⟩, fun i => ?_, hw.below (hba _), by omega, fun g hg => by simp [Value.ownBlock] at hg, by simp [Value.ownBlock], by simp [Value.ownBlock], Exp.good_0, hT1.below (hba _), by omega, by omega, by simp [Value.ownBlock], by simp [Value.ownBlock]⟩, by simp; omega, hb1.trans ((hba _).mono (by omega))⟩
  all_goals rw [← hz]
  all_goals first | (rw [World.cell?_alloc_new]; rfl) | simp
end EX
end Go.Proofs.YtohobpjiikpdmaaDoor
