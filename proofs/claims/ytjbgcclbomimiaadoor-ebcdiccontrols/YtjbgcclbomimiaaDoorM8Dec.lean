/-
  The decoder of layer 6 in memory. The condition: its memory is there and may be written; the table is as the program's text lays it.
-/
import Derived.Test.YtjbgcclbomimiaaDoorM8Row
import Derived.Test.YtjbgcclbomimiaaDoorMemS
namespace Go.Proofs.YtjbgcclbomimiaaDoor
open Go.ChangeShapes Go.WideShapes Go.ChangeAt Go.RowKit
namespace M8
open Bas Sca Stp Scn Cod
set_option linter.unusedVariables false

/-- A decoder in memory: what it has eaten, its error, has it ended? What has begun (its bits, its row, how many bytes lack), what waits. -/
structure DecV (π : Par) (w : World) (b : Nat) (p q : Int) (en : Bool) (s : St) (l : List Int) (v u : Value) : Prop where
  base : BaseAt w b 0 p q en
  row : RowAt .u32 w b 3 v l
  num : w.cell? ⟨b, 4, none⟩ = some (.int .u32 (bitsN s))
  rown : w.cell? ⟨b, 5, none⟩ = some (.int .i64 (rowN s))
  lack : w.cell? ⟨b, 6, none⟩ = some (.int .i64 (lackN s))
  f4 : w.frozen? ⟨b, 4, none⟩ = false
  f5 : w.frozen? ⟨b, 5, none⟩ = false
  f6 : w.frozen? ⟨b, 6, none⟩ = false
  u0 : u = .slice none 0 0
  good : Good π s
  byte : ∀ x ∈ s, 0 ≤ x ∧ x < 256
  tabs : Tabs w
  one : 1 ≤ b
  oneV : ∀ g, v.ownBlock = some g → 1 ≤ g
/-- Its memory. -/
def footD (b : Nat) (v u : Value) (k : Nat) : Prop := k = b ∨ v.ownBlock = some k ∨ u.ownBlock = some k
variable {π : Par}
theorem DecV.lt {w : World} {b : Nat} {p q : Int} {en : Bool} {s l : List Int} {v u : Value} (h : DecV π w b p q en s l v u) : b < w.heap.size := h.base.lt
theorem DecV.ltV {w : World} {b : Nat} {p q : Int} {en : Bool} {s l : List Int} {v u : Value} (h : DecV π w b p q en s l v u) {g : Nat} (hg : v.ownBlock = some g) : g < w.heap.size := h.row.seg.lt hg
theorem DecV.ltU {w : World} {b : Nat} {p q : Int} {en : Bool} {s l : List Int} {v u : Value} (h : DecV π w b p q en s l v u) {g : Nat} (hg : u.ownBlock = some g) : g < w.heap.size := by
  rw [h.u0] at hg; simp [Value.ownBlock] at hg
theorem DecV.foot_lt {w : World} {b : Nat} {p q : Int} {en : Bool} {s l : List Int} {v u : Value} (h : DecV π w b p q en s l v u) {k : Nat} (hk : footD b v u k) : k < w.heap.size := by
  rcases hk with rfl | hk | hk
  · exact h.lt
  · exact h.ltV hk
  · exact h.ltU hk
theorem DecV.foot_one {w : World} {b : Nat} {p q : Int} {en : Bool} {s l : List Int} {v u : Value} (h : DecV π w b p q en s l v u) {k : Nat} (hk : footD b v u k) : 1 ≤ k := by
  rcases hk with rfl | hk | hk
  · exact h.one
  · exact h.oneV k hk
  · rw [h.u0] at hk; simp [Value.ownBlock] at hk
theorem DecV.chg {S : Nat → Nat → Prop} {w w' : World} {b : Nat} {p q : Int} {en : Bool} {s l : List Int} {v u : Value} (h : DecV π w b p q en s l v u) (hc : Chg S w w') (hS : ∀ k j, footD b v u k → ¬ S k j) (h0 : ∀ j, ¬ S 0 j) : DecV π w' b p q en s l v u :=
  ⟨h.base.chg hc (fun k j hk => hS k j (.inl hk.1)), h.row.chg hc (fun k j hk => hS k j (by rcases hk with hk | hk; exact .inl hk.1; exact .inr (.inl hk))),
   hc.cellAt h.num (hS b 4 (.inl rfl)), hc.cellAt h.rown (hS b 5 (.inl rfl)), hc.cellAt h.lack (hS b 6 (.inl rfl)), hc.freeAt h.num h.f4, hc.freeAt h.rown h.f5, hc.freeAt h.lack h.f6, h.u0, h.good, h.byte, h.tabs.chg hc h0, h.one, h.oneV⟩
theorem DecV.below {w w' : World} {b : Nat} {p q : Int} {en : Bool} {s l : List Int} {v u : Value} (h : DecV π w b p q en s l v u) (hb : Below w.heap.size w w') : DecV π w' b p q en s l v u :=
  h.chg (chg_of_below hb (Nat.le_refl _) (fun _ _ => False)) (fun _ _ _ h => h) (fun _ h => h)
theorem put_chg' (w : World) (b : Nat) (x y z : Value) : Chg (fun k j => k = b ∧ 4 ≤ j) w (((w.setCell ⟨b, 4, none⟩ x).setCell ⟨b, 5, none⟩ y).setCell ⟨b, 6, none⟩ z) :=
  ((chg_setCell w b 4 x).trans2 (chg_setCell _ b 5 y) (fun k j _ h => (show k = b ∧ 4 ≤ j from ⟨h.1, by omega⟩)) (fun k j _ h => ⟨h.1, by omega⟩)).trans2 (chg_setCell _ b 6 z) (fun k j _ h => h) (fun k j _ h => ⟨h.1, by omega⟩)
theorem put_chg (w : World) (b : Nat) (x y z : Value) : Chg (fun k _ => k = b) w (((w.setCell ⟨b, 4, none⟩ x).setCell ⟨b, 5, none⟩ y).setCell ⟨b, 6, none⟩ z) :=
  (put_chg' w b x y z).mono (fun k j _ h => h.1)
/-- Behind a new beginning. -/
theorem DecV.put {w : World} {b : Nat} {p q : Int} {en : Bool} {s l s' : List Int} {v u : Value} {m : Int} {n k : Int} (h : DecV π w b p q en s l v u) (hm : m = bitsN s') (hn : n = rowN s') (hk : k = lackN s')
    (hg : Good π s') (hby : ∀ x ∈ s', 0 ≤ x ∧ x < 256) : DecV π (((w.setCell ⟨b, 4, none⟩ (.int .u32 m)).setCell ⟨b, 5, none⟩ (.int .i64 n)).setCell ⟨b, 6, none⟩ (.int .i64 k)) b p q en s' l v u := by
  have hc := put_chg' w b (.int .u32 m) (.int .i64 n) (.int .i64 k)
  have e4 : (w.setCell ⟨b, 4, none⟩ (.int .u32 m)).cell? ⟨b, 4, none⟩ = some (.int .u32 m) := World.cell?_setCell_same _ _ _ h.num
  have e5 : (w.setCell ⟨b, 4, none⟩ (.int .u32 m)).cell? ⟨b, 5, none⟩ = some (.int .i64 (rowN s)) := (chg_setCell w b 4 _).cellAt h.rown (fun hh => by have := hh.2; omega)
  have e6 : (w.setCell ⟨b, 4, none⟩ (.int .u32 m)).cell? ⟨b, 6, none⟩ = some (.int .i64 (lackN s)) := (chg_setCell w b 4 _).cellAt h.lack (fun hh => by have := hh.2; omega)
  have g4 := (chg_setCell (w.setCell ⟨b, 4, none⟩ (.int .u32 m)) b 5 (.int .i64 n)).cellAt e4 (fun hh => by have := hh.2; omega)
  have g5 : ((w.setCell ⟨b, 4, none⟩ (.int .u32 m)).setCell ⟨b, 5, none⟩ (.int .i64 n)).cell? ⟨b, 5, none⟩ = some (.int .i64 n) := World.cell?_setCell_same _ _ _ e5
  have g6 := (chg_setCell (w.setCell ⟨b, 4, none⟩ (.int .u32 m)) b 5 (.int .i64 n)).cellAt e6 (fun hh => by have := hh.2; omega)
  refine ⟨h.base.chg hc (fun k j hk hh => ?_), h.row.chg hc (fun k j hk hh => ?_), ?_, ?_, ?_, hc.freeAt h.num h.f4, hc.freeAt h.rown h.f5, hc.freeAt h.lack h.f6, h.u0, hg, hby, h.tabs.chg hc (fun j hh => by have := h.one; have := hh.1; omega), h.one, h.oneV⟩
  · have := hk.2; have := hh.2; omega
  · rcases hk with hk | hk
    · have := hh.2; omega
    · exact h.row.ne (by rw [hk, hh.1])
  · rw [← hm]; exact (chg_setCell _ b 6 _).cellAt g4 (fun hh => by have := hh.2; omega)
  · rw [← hn]; exact (chg_setCell _ b 6 _).cellAt g5 (fun hh => by have := hh.2; omega)
  · rw [← hk]; exact World.cell?_setCell_same _ _ _ g6
/-- Behind what is told more. -/
theorem DecV.hold {w w' : World} {b : Nat} {p q : Int} {en : Bool} {s l l' : List Int} {v v' u : Value} (h : DecV π w b p q en s l v u) (hr : RowAt .u32 w' b 3 v' l') (hc : Chg (footR b 3 v) w w') (hm : Mov w v v') : DecV π w' b p q en s l' v' u := by
  have hx : ∀ j, 4 ≤ j → ¬ footR b 3 v b j := fun j hj hh => by
    rcases hh with hh | hh
    · omega
    · exact h.row.ne hh
  refine ⟨h.base.chg hc (fun k j hk hh => ?_), hr, hc.cellAt h.num (hx 4 (by omega)), hc.cellAt h.rown (hx 5 (by omega)), hc.cellAt h.lack (hx 6 (by omega)), hc.freeAt h.num h.f4, hc.freeAt h.rown h.f5, hc.freeAt h.lack h.f6, h.u0, h.good, h.byte, h.tabs.chg hc (fun j hh => ?_), h.one, fun g hg => ?_⟩
  · rcases hh with hh | hh
    · have := hk.2; omega
    · exact h.row.ne (by rw [hh, hk.1])
  · rcases hh with hh | hh
    · have := h.one; omega
    · have := h.oneV 0 hh; omega
  · rcases hm g hg with hg | hg
    · exact h.oneV g hg
    · have := h.tabs.pos; omega
/-- Behind another place, error, end. -/
theorem DecV.rebase {w w' : World} {b : Nat} {p q p' q' : Int} {en en' : Bool} {s l : List Int} {v u : Value} (h : DecV π w b p q en s l v u) (hb : BaseAt w' b 0 p' q' en') (hc : Chg (footB b 0) w w') : DecV π w' b p' q' en' s l v u := by
  refine ⟨hb, h.row.chg hc (fun k j hk hh => ?_), hc.cellAt h.num (fun hh => ?_), hc.cellAt h.rown (fun hh => ?_), hc.cellAt h.lack (fun hh => ?_), hc.freeAt h.num h.f4, hc.freeAt h.rown h.f5, hc.freeAt h.lack h.f6, h.u0, h.good, h.byte, h.tabs.chg hc (fun j hh => ?_), h.one, h.oneV⟩
  · rcases hk with hk | hk
    · have := hh.2; omega
    · exact h.row.ne (by rw [hk, hh.1])
  · have := hh.2; omega
  · have := hh.2; omega
  · have := hh.2; omega
  · have := h.one; have := hh.1; omega
theorem footD_nil {b k : Nat} (h : footD b (.slice none 0 0) (.slice none 0 0) k) : k = b := by
  rcases h with h | h | h
  · exact h
  · simp [Value.ownBlock] at h
  · simp [Value.ownBlock] at h
/-- What has begun, and what is told, behind a byte more. -/
def stN (π : Par) (s : St) (x : Int) : St := match stepU π s x with | none => s | some y => y.1
def toldN (π : Par) (s : St) (x : Int) : List Int := match stepU π s x with | none => [] | some y => y.2

theorem newD_any (π : Par) (w : World) {N : Nat} (hN : N = w.heap.size) (hT : Tabs w) :
    Calls Tryd.prog 18 #[] w fun e w' => e = .returned (.pointer (some ⟨N, 0, none⟩)) ∧ DecV π w' N 0 0 false (st0 π) [] (.slice none 0 0) (.slice none 0 0) ∧ w'.heap.size = N + 1 ∧ Below N w w' := by
  subst hN
  have hpos := hT.pos
  go_enter Tryd.func18, Tryd.ntmps18
  go_wp2
  go_ret
  refine ⟨rfl, ⟨⟨?_, ?_, ?_, ?_, ?_, ?_⟩, ⟨?_, ?_, seg_nil _ _, by simp [Value.ownBlock]⟩, ?_, ?_, ?_, ?_, ?_, ?_, rfl, good_nil π, by simp [st0], hT.below ((Below.refl _ _).alloc (Nat.le_refl _) _), hpos, by simp [Value.ownBlock]⟩, by simp, (Below.refl _ _).alloc (Nat.le_refl _) _⟩
  all_goals first | (rw [World.cell?_alloc_new]; rfl) | simp
end M8
end Go.Proofs.YtjbgcclbomimiaaDoor
