/-
  The encoder of layer 5 in memory, and the contracts of its own calls, as walks over the translated text. The condition: its memory is there and may be written.
-/
import Derived.Test.YtafigcmiibemeaaCod
import Derived.Test.YtafigcmiibemeaaU32Dec
import Derived.Test.YtafigcmiibemeaaMemS
import Derived.Laws.BitsAll
import Derived.Deep.RegionHeld3
import Derived.Deep.CutBlock
namespace Go.Proofs.Ytafigcmiibemeaa
open Go.ChangeShapes Go.WideShapes Go.ChangeAt Go.RowKit
namespace U32
open Bas Sca Stp Scn Cod
set_option linter.unusedVariables false

/-- An encoder in memory. -/
structure EncV (π : Par) (w : World) (b : Nat) (p q : Int) (en : Bool) (K : List Int) (v : Value) : Prop where
  base : BaseAt w b 0 p q en
  row : RowAt .u8 w b 3 v K
  par : w.cell? ⟨b, 4, none⟩ = some (.bool π)
/-- Its memory. -/
def footE (b : Nat) (v : Value) (k : Nat) : Prop := k = b ∨ v.ownBlock = some k
variable {π : Par}
theorem EncV.lt {w : World} {b : Nat} {p q : Int} {en : Bool} {K : List Int} {v : Value} (h : EncV π w b p q en K v) {k : Nat} (hk : footE b v k) : k < w.heap.size := by
  rcases hk with rfl | hk
  · exact h.base.lt
  · exact h.row.seg.lt hk
theorem EncV.chg {S : Nat → Nat → Prop} {w w' : World} {b : Nat} {p q : Int} {en : Bool} {K : List Int} {v : Value} (h : EncV π w b p q en K v) (hc : Chg S w w') (hS : ∀ k j, footE b v k → ¬ S k j) : EncV π w' b p q en K v :=
  ⟨h.base.chg hc (fun k j hk => hS k j (.inl hk.1)), h.row.chg hc (fun k j hk => hS k j (by rcases hk with hk | hk; exact .inl hk.1; exact .inr hk)), hc.cellAt h.par (hS b 4 (.inl rfl))⟩
theorem EncV.below {w w' : World} {b : Nat} {p q : Int} {en : Bool} {K : List Int} {v : Value} (h : EncV π w b p q en K v) (hb : Below w.heap.size w w') : EncV π w' b p q en K v :=
  h.chg (chg_of_below hb (Nat.le_refl _) (fun _ _ => False)) (fun _ _ _ h => h)
theorem EncV.kp {X : Nat → Prop} {w w' : World} {b : Nat} {p q : Int} {en : Bool} {K : List Int} {v : Value} (h : EncV π w b p q en K v) (hc : Kp X w w') (hS : ∀ k, footE b v k → ¬ X k) : EncV π w' b p q en K v :=
  ⟨h.base.kp hc (hS b (.inl rfl)), h.row.kp hc (fun k j hk => hS k (by rcases hk with hk | hk; exact .inl hk.1; exact .inr hk)), hc.cellAt h.par (hS b (.inl rfl))⟩
theorem EncV.rebase {w w' : World} {b : Nat} {p q p' q' : Int} {en en' : Bool} {K : List Int} {v : Value} (h : EncV π w b p q en K v) (hb : BaseAt w' b 0 p' q' en') (hc : Chg (footB b 0) w w') : EncV π w' b p' q' en' K v := by
  refine ⟨hb, h.row.chg hc (fun k j hk hh => ?_), hc.cellAt h.par (fun hh => by have := hh.2; omega)⟩
  rcases hk with hk | hk
  · have := hh.2; omega
  · exact h.row.ne (by rw [hk, hh.1])
theorem EncV.rerow {w w' : World} {b : Nat} {p q : Int} {en : Bool} {K K' : List Int} {v v' : Value} (h : EncV π w b p q en K v) (hr : RowAt .u8 w' b 3 v' K') (hc : Chg (footR b 3 v) w w') : EncV π w' b p q en K' v' := by
  refine ⟨h.base.chg hc (fun k j hk hh => ?_), hr, hc.cellAt h.par (fun hh => ?_)⟩
  · rcases hh with hh | hh
    · have := hk.2; omega
    · exact h.row.ne (by rw [hh, hk.1])
  · rcases hh with hh | hh
    · omega
    · exact h.row.ne hh
theorem footE_nil {b k : Nat} (h : footE b (.slice none 0 0) k) : k = b := by
  rcases h with h | h
  · exact h
  · simp [Value.ownBlock] at h
theorem newEn_any (π : Par) (w : World) {N : Nat} (hN : N = w.heap.size) :
    Calls Try.prog 18 #[.bool π] w fun e w' => e = .returned (.pointer (some ⟨N, 0, none⟩)) ∧ EncV π w' N 0 0 false [] (.slice none 0 0) ∧ w'.heap.size = N + 1 ∧ Below N w w' := by
  subst hN
  go_enter Try.func18, Try.ntmps18
  go_wp2
  go_ret
  refine ⟨rfl, ⟨⟨?_, ?_, ?_, ?_, ?_, ?_⟩, ⟨?_, ?_, seg_nil _ _, by simp [Value.ownBlock]⟩, ?_⟩, by simp, (Below.refl _ _).alloc (Nat.le_refl _) _⟩
  all_goals first | (rw [World.cell?_alloc_new]; rfl) | simp
/-- Four bytes, of which so many are laid. -/
def fillN (o : List Int) (k : Nat) : List Int := o.take k ++ List.replicate (4 - k) 0
theorem fill_length {o : List Int} (h : o.length = 4) {k : Nat} (hk : k ≤ 4) : (fillN o k).length = 4 := by unfold fillN; simp; omega
theorem fill_set {o : List Int} (h : o.length = 4) {k : Nat} (hk : k < 4) : (fillN o k).set k (nth o k) = fillN o (k + 1) := by
  match o, h with
  | [a, b, c, d], _ =>
    have : k = 0 ∨ k = 1 ∨ k = 2 ∨ k = 3 := by omega
    rcases this with rfl | rfl | rfl | rfl <;> rfl
theorem fill_all {o : List Int} (h : o.length = 4) : fillN o 4 = o := by
  unfold fillN; rw [List.take_of_length_le (by omega)]; simp
/-- The byte at a place of a number. -/
theorem byte_wt {π : Par} {c : Int} {k : Nat} (h0 : 0 ≤ c) (h1 : c < 4294967296) (hk : k ≤ 3) : c / wt π k % 256 = nth (oneN π c) k := by
  have : k = 0 ∨ k = 1 ∨ k = 2 ∨ k = 3 := by omega
  rcases this with rfl | rfl | rfl | rfl <;> cases π <;> simp [wt, oneN, nth] <;> omega
set_option maxHeartbeats 4000000 in
set_option maxRecDepth 100000 in
theorem spell_any (c : Int) (w : World) (h0 : 0 ≤ c) (hi : isB c = true) :
    Calls Try.prog 43 #[.agg #[.bool π], .int .u32 c] w fun e w' => e = .returned (.string (Stp.strOf (oneN π c))) ∧ Below w.heap.size w w' := by
  have h1 := isB_iff.1 hi
  have h2 : c < 4294967296 := by omega
  have HK : Hid (∀ k : Nat, k ≤ 3 → c / wt π k % 256 = nth (oneN π c) k) := fun k hk => byte_wt h0 h2 hk
  clear h1 hi
  obtain ⟨H, hH⟩ : ∃ H, H = w.heap.size := ⟨_, rfl⟩
  have HH : Hid (H = w.heap.size) := hH
  have HOL : Hid ((oneN π c).length = 4) := oneN_length π c
  have hmk : ∀ w1 : World, (Instr.makeSlice 58 (.int .i64 4) (.int .i64 4)).run Try.prog w1 = .ok (.slice (some ⟨w1.heap.size, 0, none⟩) 4 4) (w1.alloc (.cells #[.int .u8 0, .int .u8 0, .int .u8 0, .int .u8 0] 5)) := fun w1 => by kernel_rfl
  clear hH
  go_enter Try.func43, Try.ntmps43
  go_wp2
  rw [← HH.out]
  go_loopw [10] (fun i wr => ∃ k : Nat, i = .int .i64 k ∧ k ≤ 4 ∧ wr.cell? ⟨H, 0, none⟩ = some (.bool π) ∧ Seg .u8 wr (.slice (some ⟨H + 1, 0, none⟩) 4 4) (fillN (oneN π c) k) ∧ Below w.heap.size w wr) (fun i _ => 4 - (intOf i).toNat)
  case atStart =>
    have hz : (w.alloc (.cells #[.bool π] 45)).heap.size = H + 1 := by rw [HH.out]; simp
    refine ⟨0, rfl, by omega, ?_, .inr ⟨H + 1, 0, 4, rfl, by rw [← hz]; simp, by simp [fillN], by unfold maxLen; simp, fun j hj => ?_, fun j hj => ?_, fun o => by rw [← hz]; simp⟩, ((Below.refl _ _).alloc (Nat.le_refl _) _).alloc (by simp) _⟩
    · exact cell_later (w := w.alloc (.cells #[.bool π] 45)) ((Below.refl _ _).alloc (Nat.le_refl _) _) (show (w.alloc (.cells #[.bool π] 45)).cell? ⟨H, 0, none⟩ = some (.bool π) by rw [HH.out, World.cell?_alloc_new]; rfl)
    · rw [← hz, Nat.zero_add, World.cell?_alloc_new]
      have hj4 : j < 4 := by simpa [fillN] using hj
      have : j = 0 ∨ j = 1 ∨ j = 2 ∨ j = 3 := by omega
      rcases this with rfl | rfl | rfl | rfl <;> rfl
    · rw [← hz, Nat.zero_add, World.cell?_alloc_new]
      have : j = 0 ∨ j = 1 ∨ j = 2 ∨ j = 3 := by omega
      rcases this with rfl | rfl | rfl | rfl <;> rfl
  case round =>
    obtain ⟨k, rfl, hk, hbox, hS, hB⟩ := hrel
    have HS : Hid (Seg .u8 wr (.slice (some ⟨H + 1, 0, none⟩) 4 4) (fillN (oneN π c) k) ∧ Below w.heap.size w wr) := ⟨hS, hB⟩
    clear hS hB
    by_cases hlt : (k : Int) < 4
    · have hk3 : k ≤ 3 := by omega
      have hsb := shN_bd π hk3
      have hsw := sh_wt π hk3
      have hkk := HK.out k hk3
      obtain ⟨sh, hsh⟩ : ∃ sh, shN π k = sh := ⟨_, rfl⟩
      rw [hsh] at hsb hsw
      rw [← hsw] at hkk
      have HSH : Hid (shN π k = sh) := hsh
      have HKK : Hid (c / 2 ^ sh.toNat % 256 = nth (oneN π c) k) := hkk
      obtain ⟨s0, s1⟩ := hsb
      clear hsw hkk hsh
      go_wp2_with fail
      refine (shift_any k wr hk3).mono ?_
      rintro e w5 ⟨rfl, b5⟩
      rw [HSH.out]
      have hS5 := HS.out.1.chg (chg_of_below b5 (Nat.le_refl _) (fun _ _ => False)) (fun _ _ _ h => h)
      have hkl : k < (fillN (oneN π c) k).length := by rw [fill_length HOL.out hk]; omega
      obtain ⟨g, o, e, c1, f1⟩ := hS5.at (j := k) hkl
      simp only [Option.some.injEq, Addr.mk.injEq] at e
      obtain ⟨rfl, rfl, -⟩ := e
      have hs2 := hS5.set (nth (oneN π c) k) hkl
      rw [fill_set HOL.out (by omega)] at hs2
      simp only [Nat.zero_add] at c1 f1 hs2
      have HN5 : Hid (Seg .u8 (w5.setCell ⟨H + 1, k, none⟩ (.int .u8 (nth (oneN π c) k))) (.slice (some ⟨H + 1, 0, none⟩) 4 4) (fillN (oneN π c) (k + 1)) ∧ Below w.heap.size w (w5.setCell ⟨H + 1, k, none⟩ (.int .u8 (nth (oneN π c) k))) ∧ (w5.setCell ⟨H + 1, k, none⟩ (.int .u8 (nth (oneN π c) k))).cell? ⟨H, 0, none⟩ = some (.bool π)) :=
        ⟨hs2, (below_two HS.out.2 b5).setCell (p := ⟨H + 1, k, none⟩) (by show w.heap.size ≤ H + 1; rw [HH.out]; omega) _, (chg_setCell w5 (H + 1) k _).cellAt (cell_later b5 hbox) (fun hh => by have := hh.1; omega)⟩
      clear hS5 hs2 hbox HS b5 hkl
      go_wp2
      rw [HKK.out]
      go_roundw
      case rel => exact ⟨k + 1, by go_num, by omega, HN5.out.2.2, HN5.out.1, HN5.out.2.1⟩
      case measure => simp [intOf]; omega
    · have hk4 : k = 4 := by omega
      subst hk4
      have hS := HS.out.1
      rw [fill_all HOL.out] at hS
      have hcv := run_string wr _ 4 4 (oneN π c) (seg_rowU hS) HOL.out
      clear hS
      go_wp2
      go_ret
      exact ⟨rfl, HS.out.2⟩
end U32
end Go.Proofs.Ytafigcmiibemeaa
