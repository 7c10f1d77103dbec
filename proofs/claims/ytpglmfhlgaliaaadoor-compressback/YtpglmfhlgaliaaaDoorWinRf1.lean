/-
  Contracts of the document's plain functions of layer 13, as walks over the translated text. No condition.
-/
import Derived.Test.YtpglmfhlgaliaaaDoorWin2
namespace Go.Proofs.YtpglmfhlgaliaaaDoor
open Go.ChangeShapes Go.WideShapes Go.ChangeAt Go.RowKit
namespace Win
open Bas
set_option linter.unusedVariables false

/-- Eight numbers in a block. -/
def cells8 (k : IntKind) (l : List Int) : Array Value := (l.map (Value.int k)).toArray
theorem seg_new (k : IntKind) (w : World) (l : List Int) (t : TypeId) {g : Nat} (hg : g = w.heap.size) (hl : l.length ≤ maxLen) : Seg k (w.alloc (.cells (l.map (Value.int k)).toArray t)) (.slice (some ⟨g, 0, none⟩) l.length l.length) l := by
  subst hg
  refine .inr ⟨w.heap.size, 0, l.length, rfl, by simp, Nat.le_refl _, hl, fun i hi => ?_, fun i hi => ?_, fun o => by simp⟩
  · rw [Nat.zero_add, World.cell?_alloc_at _ _ _ _ rfl]; exact map_at hi
  · rw [Nat.zero_add, World.cell?_alloc_at _ _ _ _ rfl]
    rw [map_at hi]; rfl
set_option maxHeartbeats 400000 in
theorem rStatics_any (w : World) : Calls Tryd.prog 48 #[] w fun e w' => e = .returned (.slice (some ⟨w.heap.size, 0, none⟩) 8 8) ∧ Seg .u32 w' (.slice (some ⟨w.heap.size, 0, none⟩) 8 8) statL ∧ Below w.heap.size w w' ∧ w'.heap.size = w.heap.size + 1 := by
  have HS : Hid _ := seg_new .u32 w statL 35 rfl (by decide)
  go_enter Tryd.func48, Tryd.ntmps48
  go_wp2
  go_ret
  exact ⟨rfl, HS.out, (Below.refl _ _).alloc (Nat.le_refl _) _, by simp⟩
set_option maxHeartbeats 400000 in
theorem rFirsts_any (w : World) : Calls Tryd.prog 37 #[] w fun e w' => e = .returned (.slice (some ⟨w.heap.size, 0, none⟩) 8 8) ∧ Seg .u32 w' (.slice (some ⟨w.heap.size, 0, none⟩) 8 8) firstL8 ∧ Below w.heap.size w w' ∧ w'.heap.size = w.heap.size + 1 := by
  have HS : Hid _ := seg_new .u32 w firstL8 35 rfl (by decide)
  go_enter Tryd.func37, Tryd.ntmps37
  go_wp2
  go_ret
  exact ⟨rfl, HS.out, (Below.refl _ _).alloc (Nat.le_refl _) _, by simp⟩
set_option maxHeartbeats 2000000 in
theorem rOffset_any (x : Int) (w : World) :
    Calls Tryd.prog 55 #[.int .i64 x] w fun e w' => e = .returned (.tuple #[.int .u32 (offV x), .bool (offB x)]) ∧ Below w.heap.size w w' := by
  by_cases h : 249 ≤ x
  · by_cases h2 : x ≤ 255
    · have hcs : x = 249 ∨ x = 250 ∨ x = 251 ∨ x = 252 ∨ x = 253 ∨ x = 254 ∨ x = 255 := by omega
      clear h h2
      rcases hcs with rfl | rfl | rfl | rfl | rfl | rfl | rfl
      all_goals
        go_enter Tryd.func55, Tryd.ntmps55
        go_wp2
        go_ret2
        exact ⟨rfl, (Below.refl _ _).alloc (Nat.le_refl _) _⟩
    · have HE := off_not (off_none (x := x) (by omega))
      rw [HE.1, HE.2]
      have h3 : ¬ x ≤ 103 := by omega
      have h4 : ¬ x ≤ 167 := by omega
      have h5 : 1 ≤ x := by omega
      have h6 : 104 ≤ x := by omega
      clear HE
      go_enter Tryd.func55, Tryd.ntmps55
      go_wp2
      go_ret2
      exact ⟨rfl, Below.refl _ _⟩
  · by_cases h1 : x < 1
    · have HE := off_not (off_none (x := x) (by omega))
      rw [HE.1, HE.2]
      clear HE
      go_enter Tryd.func55, Tryd.ntmps55
      go_wp2
      go_ret2
      exact ⟨rfl, Below.refl _ _⟩
    · by_cases h2 : 167 < x
      · have HE := off_not (off_none (x := x) (by omega))
        rw [HE.1, HE.2]
        have h3 : ¬ x ≤ 103 := by omega
        have h4 : ¬ x ≤ 167 := by omega
        clear HE
        go_enter Tryd.func55, Tryd.ntmps55
        go_wp2
        go_ret2
        exact ⟨rfl, Below.refl _ _⟩
      · by_cases h3 : x ≤ 103
        · have HE : Hid (offV x = 128 * x ∧ offB x = true) := off_yes (off_one (x := x) (by omega) h3) (by omega)
          rw [HE.out.1, HE.out.2]
          go_enter Tryd.func55, Tryd.ntmps55
          go_wp2
          go_ret2
          exact ⟨ret_ub (by first | rfl | omega) rfl, Below.refl _ _⟩
        · have HE : Hid (offV x = 128 * x + 44032 ∧ offB x = true) := off_yes (off_two (x := x) (by omega) (by omega)) (by omega)
          rw [HE.out.1, HE.out.2]
          have h4 : ¬ x < 104 := by omega
          go_enter Tryd.func55, Tryd.ntmps55
          go_wp2
          go_ret2
          exact ⟨ret_ub (by first | rfl | omega) rfl, Below.refl _ _⟩
theorem offV_rng (x : Int) : 0 ≤ offV x ∧ offV x < 4294967296 := by
  have := off_cases x
  unfold offV; split <;> omega
theorem offV_eq {x : Int} (h : 0 ≤ offI x) : offV x = offI x := by unfold offV; rw [if_neg (by omega)]
end Win
end Go.Proofs.YtpglmfhlgaliaaaDoor
