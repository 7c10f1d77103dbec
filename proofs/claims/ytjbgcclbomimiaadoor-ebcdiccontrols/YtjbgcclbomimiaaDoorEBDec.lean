/-
  The decoder of layer 8 in memory: a block that leads to layer 6's decoder and to a table. The condition: its memory is there and may be written; the tables are as the program's text lays them.
-/
import Derived.Test.YtjbgcclbomimiaaDoorM8Feed
import Derived.Test.YtjbgcclbomimiaaDoorPer2
import Derived.Test.YtjbgcclbomimiaaDoorEBMath
namespace Go.Proofs.YtjbgcclbomimiaaDoor
open Go.ChangeShapes Go.WideShapes Go.ChangeAt Go.RowKit
namespace Per
open Bas
theorem Arr.chg {S : Nat → Nat → Prop} {w w' : World} {b o : Nat} {l : List Int} (h : Arr w b o l) (hc : Chg S w w') (hS : ∀ j, ¬ S b j) : Arr w' b o l := fun i hi => hc.cellAt (h i hi) (hS _)
theorem TabAt.chg {S : Nat → Nat → Prop} {w w' : World} {b : Nat} (h : TabAt w b) (hc : Chg S w w') (hS : ∀ j, ¬ S b j) : TabAt w' b := ⟨h.to.chg hc hS, h.fr.chg hc hS⟩
end Per
namespace EB
open Bas Sca Stp Scn Cod
set_option linter.unusedVariables false

/-- The block that leads to both, five blocks behind the machine's own; the table one block behind it. -/
structure Outer (w : World) (b : Nat) : Prop where
  c0 : w.cell? ⟨b + 5, 0, none⟩ = some (.pointer (some ⟨b, 0, none⟩))
  c1 : w.cell? ⟨b + 5, 1, none⟩ = some (.pointer (some ⟨b + 1, 0, none⟩))
  tab : Per.TabAt w (b + 1)
theorem Outer.chg {S : Nat → Nat → Prop} {w w' : World} {b : Nat} (h : Outer w b) (hc : Chg S w w') (hS : ∀ k j, k = b + 1 ∨ k = b + 5 → ¬ S k j) : Outer w' b :=
  ⟨hc.cellAt h.c0 (hS _ _ (.inr rfl)), hc.cellAt h.c1 (hS _ _ (.inr rfl)), h.tab.chg hc (fun j => hS _ j (.inl rfl))⟩
theorem Outer.below {w w' : World} {b : Nat} (h : Outer w b) (hb : Below w.heap.size w w') : Outer w' b :=
  h.chg (chg_of_below hb (Nat.le_refl _) (fun _ _ => False)) (fun _ _ _ h => h)
theorem Outer.lt {w : World} {b : Nat} (h : Outer w b) : b + 5 < w.heap.size := World.block_lt_of_cell? w _ h.c0
/-- Where a machine stands, and the block that leads to it. -/
structure OBase (w : World) (b o : Nat) (p q : Int) (en : Bool) : Prop where
  base : BaseAt w b o p q en
  oc : w.cell? ⟨b + 5, 0, none⟩ = some (.pointer (some ⟨b, 0, none⟩))
theorem OBase.chg {S : Nat → Nat → Prop} {w w' : World} {b o : Nat} {p q : Int} {en : Bool} (h : OBase w b o p q en) (hc : Chg S w w') (hS : ∀ k j, (k = b ∨ k = b + 5) ∧ True → ¬ S k j) : OBase w' b o p q en :=
  ⟨h.base.chg hc (fun k j hk => hS k j ⟨.inl hk.1, trivial⟩), hc.cellAt h.oc (hS _ _ ⟨.inr rfl, trivial⟩)⟩
theorem OBase.below {w w' : World} {b o : Nat} {p q : Int} {en : Bool} (h : OBase w b o p q en) (hb : Below w.heap.size w w') : OBase w' b o p q en :=
  h.chg (chg_of_below hb (Nat.le_refl _) (fun _ _ => False)) (fun _ _ _ h => h)
theorem OBase.lt {w : World} {b o : Nat} {p q : Int} {en : Bool} (h : OBase w b o p q en) : b + 5 < w.heap.size := World.block_lt_of_cell? w _ h.oc

/-- A decoder in memory. -/
structure DecV (π : Par) (w : World) (b : Nat) (p q : Int) (en : Bool) (s : St) (l : List Int) (v u : Value) : Prop where
  inn : M8.DecV () w b p q en s l v u
  outer : Outer w b
  vne : ∀ g, v.ownBlock = some g → g ≠ b + 1 ∧ g ≠ b + 5
/-- Its memory. -/
def footD (b : Nat) (v u : Value) (k : Nat) : Prop := (k = b ∨ k = b + 1 ∨ k = b + 5) ∨ v.ownBlock = some k ∨ u.ownBlock = some k
variable {π : Par}
theorem foot_in {b : Nat} {v u : Value} {k : Nat} (h : M8.footD b v u k) : footD b v u k := by
  rcases h with h | h | h
  · exact .inl (.inl h)
  · exact .inr (.inl h)
  · exact .inr (.inr h)
section
variable {w w' : World} {b : Nat} {p q p' q' : Int} {en en' : Bool} {s l : List Int} {v u : Value}
theorem DecV.base (h : DecV π w b p q en s l v u) : BaseAt w b 0 p q en := h.inn.base
theorem DecV.obase (h : DecV π w b p q en s l v u) : OBase w b 0 p q en := ⟨h.inn.base, h.outer.c0⟩
theorem DecV.row (h : DecV π w b p q en s l v u) : RowAt .u32 w b 3 v l := h.inn.row
theorem DecV.tabs (h : DecV π w b p q en s l v u) : M8.Tabs w := h.inn.tabs
theorem DecV.oc (h : DecV π w b p q en s l v u) : w.cell? ⟨b + 5, 0, none⟩ = some (.pointer (some ⟨b, 0, none⟩)) := h.outer.c0
theorem DecV.lt (h : DecV π w b p q en s l v u) : b + 5 < w.heap.size := h.outer.lt
theorem DecV.foot_lt (h : DecV π w b p q en s l v u) {k : Nat} (hk : footD b v u k) : k < w.heap.size := by
  have := h.lt
  rcases hk with hk | hk | hk
  · omega
  · exact h.inn.ltV hk
  · exact h.inn.ltU hk
theorem DecV.u_none (h : DecV π w b p q en s l v u) {k : Nat} (hk : u.ownBlock = some k) : False := by
  rw [h.inn.u0] at hk; simp [Value.ownBlock] at hk
/-- What layer 6's decoder changes is none of the other blocks. -/
theorem DecV.apart (h : DecV π w b p q en s l v u) {k : Nat} (hk : k = b + 1 ∨ k = b + 5) : ¬ M8.footD b v u k := fun hf => by
  rcases hf with hf | hf | hf
  · omega
  · have := h.vne k hf; omega
  · exact h.u_none hf
theorem DecV.chg {S : Nat → Nat → Prop} (h : DecV π w b p q en s l v u) (hc : Chg S w w') (hS : ∀ k j, footD b v u k → ¬ S k j) (h0 : ∀ j, ¬ S 0 j) : DecV π w' b p q en s l v u :=
  ⟨h.inn.chg hc (fun k j hk => hS k j (foot_in hk)) h0, h.outer.chg hc (fun k j hk => hS k j (.inl (.inr hk))), h.vne⟩
theorem DecV.below (h : DecV π w b p q en s l v u) (hb : Below w.heap.size w w') : DecV π w' b p q en s l v u :=
  h.chg (chg_of_below hb (Nat.le_refl _) (fun _ _ => False)) (fun _ _ _ h => h) (fun _ h => h)
end
theorem footD_nil {b k : Nat} (h : footD b (.slice none 0 0) (.slice none 0 0) k) : b ≤ k ∧ k ≤ b + 5 := by
  rcases h with h | h | h
  · omega
  · simp [Value.ownBlock] at h
  · simp [Value.ownBlock] at h
theorem dEnd_any (b : Nat) (p q : Int) (en : Bool) (s : St) (l : List Int) (v u : Value) (w : World) (h : DecV π w b p q en s l v u) :
    Calls Tryd.prog 45 #[.pointer (some ⟨b, 0, none⟩)] w fun e w' => e = .returned (.tuple #[]) ∧ DecV π w' b p (if rest s = true then q else stopI q en 4) (endB (if rest s = true then q else stopI q en 4) en) s l v u ∧ Chg (footB b 0) w w' :=
  (M8.dEnd_any b p q en s l v u w h.inn).mono fun e w' ⟨he, D, C⟩ => ⟨he, ⟨D, h.outer.chg C (fun k j hk hh => by have := hh.1; omega), h.vne⟩, C⟩
theorem outer_new (w : World) (t : TypeId) {N : Nat} (h : Per.TabAt w (N + 1)) (hz : w.heap.size = N + 5) : Outer (w.alloc (.cells #[.pointer (some ⟨N, 0, none⟩), .pointer (some ⟨N + 1, 0, none⟩)] t)) N :=
  ⟨by rw [← hz, World.cell?_alloc_new]; rfl, by rw [← hz, World.cell?_alloc_new]; rfl, h.below ((Below.refl _ _).alloc (Nat.le_refl _) _)⟩
set_option maxHeartbeats 1000000 in
theorem newD_any (π : Par) (w : World) {N : Nat} (hN : N = w.heap.size) (hT : M8.Tabs w) :
    Calls Tryd.prog 34 #[] w fun e w' => e = .returned (.pointer (some ⟨N + 5, 0, none⟩)) ∧ DecV π w' N 0 0 false (st0 π) [] (.slice none 0 0) (.slice none 0 0) ∧ w'.heap.size = N + 6 ∧ Below N w w' := by
  have HT : Hid (M8.Tabs w) := hT
  clear hT
  go_enter Tryd.func34, Tryd.ntmps34
  go_wp2_with fail
  refine (M8.newD_any () w hN HT.out).mono ?_
  rintro e w1 ⟨rfl, D1, z1, B1⟩
  have HD1 : Hid (M8.DecV () w1 N 0 0 false (st0 π) [] (.slice none 0 0) (.slice none 0 0) ∧ w1.heap.size = N + 1 ∧ Below N w w1) := ⟨D1, z1, B1⟩
  clear D1 B1 hN
  go_wp2_with fail
  refine (Per.new_at w1).mono ?_
  rintro e w2 ⟨rfl, T2, B2, z2⟩
  rw [z1] at T2 z2 ⊢
  have hz : w2.heap.size = N + 5 := by omega
  have HD2 : Hid (M8.DecV () w2 N 0 0 false (st0 π) [] (.slice none 0 0) (.slice none 0 0) ∧ Per.TabAt w2 (N + 1) ∧ Below N w w2) := ⟨HD1.out.1.below B2, T2, HD1.out.2.2.trans (B2.mono (by omega))⟩
  clear T2 B2 z1 z2 HD1
  go_wp2
  go_ret
  exact ⟨rfl, ⟨HD2.out.1.below ((Below.refl _ _).alloc (Nat.le_refl _) _), outer_new w2 _ HD2.out.2.1 hz, by simp [Value.ownBlock]⟩, by simp; omega, HD2.out.2.2.alloc (by omega) _⟩
end EB
end Go.Proofs.YtjbgcclbomimiaaDoor
