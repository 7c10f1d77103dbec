/-
  What the document's function of layer 15 makes of the one scalar FEFF, as a walk over the translated text, round by round. No condition.
-/
import Derived.Test.YtmihceoeoggjjaaSgRf1
namespace Go.Proofs.Ytmihceoeoggjjaa
open Go.ChangeShapes Go.WideShapes Go.ChangeAt Go.RowKit
namespace Sig
open Bas Txt
set_option linter.unusedVariables false

theorem fir13 (w : World) : Calls Try.prog 40 #[] w fun e w' => e = .returned (.slice (some ⟨w.heap.size, 0, none⟩) 8 8) ∧ Below w.heap.size w w' := by
  go_enter Try.func40, Try.ntmps40
  go_wp2
  go_ret
  exact ⟨rfl, (Below.refl _ _).alloc (Nat.le_refl _) _⟩
set_option maxHeartbeats 1000000 in
theorem new13 (w : World) : Calls Try.prog 28 #[] w fun e w' => (∃ g, e = .returned (.pointer (some ⟨g, 0, none⟩))) ∧ Below w.heap.size w w' := by
  go_enter Try.func28, Try.ntmps28
  go_wp2_with fail
  refine (fir13 w).mono ?_
  rintro e w1 ⟨rfl, hb⟩
  go_wp2
  go_ret
  exact ⟨⟨_, rfl⟩, below_two hb (((Below.refl _ _).alloc (Nat.le_refl _) _).alloc (by simp) _)⟩
set_option maxHeartbeats 1000000 in
theorem put15 (b : Nat) (a : Option Addr) (c : Nat) (W : World) (hc : W.cell? ⟨b, 0, none⟩ = some (.slice none 0 0)) (hf : W.frozen? ⟨b, 0, none⟩ = false) (hr : Row .u8 W a [14, 254, 255]) (hn : a = none → c = 0) :
    Calls Try.prog 29 #[.pointer (some ⟨b, 0, none⟩), .slice a 3 c] W fun e w' => e = .returned (.tuple #[]) ∧ (∃ ao co, w'.cell? ⟨b, 0, none⟩ = some (.slice ao 3 co) ∧ Row .u8 w' ao [14, 254, 255]) ∧ Chg (fun k o => k = b ∧ o = 0) W w' := by
  have hlt := World.block_lt_of_cell? W _ hc
  have HR : Hid (Row .u8 W a [14, 254, 255] ∧ (a = none → c = 0)) := ⟨hr, hn⟩
  have HC : Hid (W.cell? ⟨b, 0, none⟩ = some (.slice none 0 0) ∧ W.frozen? ⟨b, 0, none⟩ = false ∧ b < W.heap.size) := ⟨hc, hf, hlt⟩
  clear hr hn hlt
  go_enter Try.func29, Try.ntmps29
  go_wp2_with (at_builtin; go_must (refine wpList_append_seg rfl _ _ 40 40 rfl .u8 5 1 Try.underlying40 info_u8 (.slice none 0 0) [] [14, 254, 255] rfl (seg_nil _ _) _ rfl (src_row (l := [14, 254, 255]) Try.underlying40 HR.out.1 rfl HR.out.2) (by unfold maxLen; decide) (by decide) ?_; intro vo w4 hs4 hc4 hm4; obtain ⟨ao, co, hvo, -⟩ := hs4.form; change vo = .slice ao 3 co at hvo; subst hvo; have hc5 : w4.cell? ⟨b, 0, none⟩ = some (.slice none 0 0) := hc4.cellAt HC.out.1 (by simp [Value.ownBlock]); have hf5 : w4.frozen? ⟨b, 0, none⟩ = false := hc4.freeAt HC.out.1 HC.out.2.1; have HS : Hid (Seg .u8 w4 (.slice ao 3 co) [14, 254, 255] ∧ Chg (fun k o => k = b ∧ o = 0) W w4 ∧ (∀ g, (Value.slice ao 3 co).ownBlock = some g → W.heap.size ≤ g)) := ⟨hs4, hc4.mono (fun k o _ h => by simp [Value.ownBlock] at h), fun g hg => (hm4 g hg).elim (fun h => by simp [Value.ownBlock] at h) id⟩; clear hs4 hc4 hm4))
  go_end0
  have hst := chg_setCell w4 b 0 (.slice ao 3 co)
  have hlt : b < W.heap.size := HC.out.2.2
  obtain ⟨ao', co', hv, hro, -⟩ := (HS.out.1.chg hst (fun g o hg hh => by have := HS.out.2.2 g hg; have := hh.1; omega)).form
  change Value.slice ao 3 co = .slice ao' 3 co' at hv
  refine ⟨rfl, ⟨ao', co', ?_, hro⟩, HS.out.2.1.trans hst⟩
  rw [← hv]
  exact World.cell?_setCell_same _ _ _ hc5
set_option maxHeartbeats 2000000 in
theorem byt15 (a : Option Addr) (c : Nat) (w : World) (hr : Row .u32 w a [65279]) :
    Calls Try.prog 20 #[.slice a 1 c, .bool false] w fun e w' => e = .returned (.string { data := #[14, 254, 255] }) ∧ Below w.heap.size w w' := by
  obtain ⟨b, off, ha, hc⟩ := hr
  obtain rfl := ha (by simp)
  have hc0 : w.cell? ⟨b, off, none⟩ = some (.int .u32 65279) := hc 0 (by decide)
  clear hc ha
  go_enter Try.func20, Try.ntmps20
  go_wp2_with fail
  refine (new13 w).mono ?_
  rintro e w1 ⟨⟨g, rfl⟩, hb⟩
  have hc1 := cell_later hb hc0
  have hlt : b < w1.heap.size := World.block_lt_of_cell? w1 _ hc1
  have HB : Hid (Below w.heap.size w w1) := hb
  clear hb hc0
  go_wp2
  refine wp_loop_chain 1 ?_
  unfold Chain
  go_wp2_with fail
  refine (put15 w1.heap.size (some ⟨w1.heap.size + 1, 0, none⟩) 3 _ ?_ ?_ ?_ (fun h => by cases h)).mono ?_
  · rw [World.cell?_alloc2_first]; rfl
  · simp
  · exact row_new .u8 _ [14, 254, 255] _ _ (by simp)
  rintro e w2 ⟨rfl, ⟨ao, co, hc2, hr2⟩, hch⟩
  have HB2 : Hid (Below w.heap.size w w2) := by
    have h1 : Below w1.heap.size w1 ((w1.alloc (.cells #[.slice none 0 0, .pointer (some ⟨g, 0, none⟩), .bool false, .int .i64 0, .int .u32 0, .bool false] 48)).alloc (.cells #[.int .u8 14, .int .u8 254, .int .u8 255] 5)) := ((Below.refl _ _).alloc (Nat.le_refl _) _).alloc (by simp) _
    refine below_two HB.out (h1.trans (hch.below (by simp; omega) (fun k j hk hh => by have := hh.1; omega)))
  have hcv := run_string w2 ao 3 co [14, 254, 255] hr2 rfl
  clear hch hr2
  go_wp2
  unfold Chain
  go_wp2
  go_ret
  exact ⟨rfl, HB2.out⟩
end Sig
end Go.Proofs.Ytmihceoeoggjjaa
