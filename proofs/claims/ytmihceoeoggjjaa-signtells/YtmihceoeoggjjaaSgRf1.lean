/-
  What the document's functions of layers 3, 4, 5, 8, 12 and 15 make of the one scalar FEFF, as walks over the translated text, round by round. No condition.
-/
import Derived.Test.YtmihceoeoggjjaaSigMath
import Derived.Test.YtmihceoeoggjjaaUnrl
import Derived.Test.YtmihceoeoggjjaaPerRf3
import Derived.Test.YtmihceoeoggjjaaDifRf2
import Derived.Test.YtmihceoeoggjjaaMemStep
import Derived.Deep.CutBlock
import Derived.Deep.DeepCutAuto
namespace Go.Proofs.Ytmihceoeoggjjaa
open Go.ChangeShapes Go.WideShapes Go.ChangeAt Go.RowKit
namespace Sig
open Bas Txt
set_option linter.unusedVariables false

abbrev s3 : ByteArray := { data := #[239, 187, 191] }
theorem size3 (w : World) : Calls Try.prog 34 #[.int .u32 65279] w fun e w' => e = .returned (.int .i64 3) ∧ w' = w := by
  go_enter Try.func34, Try.ntmps34
  go_wp2
  go_ret
  exact ⟨rfl, rfl⟩
set_option maxHeartbeats 1000000 in
theorem one3 (w : World) : Calls Try.prog 22 #[.int .u32 65279] w fun e w' => e = .returned (.string s3) ∧ Below w.heap.size w w' := by
  have hmk : ∀ w, (Instr.makeSlice 40 (.int .i64 3) (.int .i64 3)).run Try.prog w = .ok (.slice (some ⟨w.heap.size, 0, none⟩) 3 3) (w.alloc (.cells #[.int .u8 0, .int .u8 0, .int .u8 0] 5)) := fun w => Per.make_u8 w 3 (by decide)
  go_enter Try.func22, Try.ntmps22
  go_wp2_with fail
  refine (size3 w).mono ?_
  rintro e w1 ⟨rfl, hw⟩
  subst hw
  go_wp2
  refine wp_loop_chain 2 ?_
  unfold Chain
  go_wp2
  unfold Chain
  go_wp2
  unfold Chain
  have hcv := run_string (w1.alloc (.cells #[.int .u8 239, .int .u8 187, .int .u8 191] 5)) (some ⟨w1.heap.size, 0, none⟩) 3 3 [239, 187, 191] (row_new .u8 w1 [239, 187, 191] 5 _ rfl) rfl
  go_wp2
  go_ret
  exact ⟨rfl, (Below.refl _ _).alloc (Nat.le_refl _) _⟩
set_option maxHeartbeats 1000000 in
theorem byt3 (a : Option Addr) (c : Nat) (w : World) (hr : Row .u32 w a [65279]) :
    Calls Try.prog 15 #[.slice a 1 c] w fun e w' => e = .returned (.string s3) ∧ Below w.heap.size w w' := by
  obtain ⟨b, off, ha, hc⟩ := hr
  obtain rfl := ha (by simp)
  have hc0 : w.cell? ⟨b, off, none⟩ = some (.int .u32 65279) := hc 0 (by decide)
  clear hc ha
  go_enter Try.func15, Try.ntmps15
  go_wp2
  refine wp_loop_chain 1 ?_
  unfold Chain
  go_wp2_with fail
  refine (one3 w).mono ?_
  rintro e w1 ⟨rfl, hb⟩
  go_wp2
  unfold Chain
  go_wp2
  go_ret
  exact ⟨rfl, hb⟩
theorem uni4 (w : World) (g : Nat) (hg : g = w.heap.size) : Calls Try.prog 23 #[.int .u32 65279] w fun e w' => e = .returned (.slice (some ⟨g, 0, none⟩) 1 1) ∧ w'.cell? ⟨g, 0, none⟩ = some (.int .u32 65279) ∧ Below w.heap.size w w' := by
  subst hg
  go_enter Try.func23, Try.ntmps23
  go_wp2
  go_ret
  exact ⟨rfl, by rw [World.cell?_alloc_new]; rfl, (Below.refl _ _).alloc (Nat.le_refl _) _⟩
set_option maxHeartbeats 4000000 in
theorem byt4b (a : Option Addr) (c : Nat) (w : World) (hr : Row .u32 w a [65279]) :
    Calls Try.prog 16 #[.slice a 1 c, .bool true] w fun e w' => e = .returned (.string { data := #[254, 255] }) ∧ Below w.heap.size w w' := by
  obtain ⟨b, off, ha, hc⟩ := hr
  obtain rfl := ha (by simp)
  have hc0 : w.cell? ⟨b, off, none⟩ = some (.int .u32 65279) := hc 0 (by decide)
  have hlt : b < w.heap.size := World.block_lt_of_cell? w _ hc0
  have HO0 : Hid (Dif.OutOf w (w.alloc (.cells #[] 5)) (.slice (some ⟨w.heap.size, 0, none⟩) 0 0) []) := ⟨Dif.seg_none w _ rfl, fun g hg => by simp [Value.ownBlock] at hg; omega, (Below.refl _ _).alloc (Nat.le_refl _) _⟩
  have HS : Hid ((w.alloc (.cells #[] 5)).heap.size = w.heap.size + 1) := by show _ = _; simp
  clear hc ha
  go_enter Try.func16, Try.ntmps16
  go_wp2
  refine wp_loop_chain 1 ?_
  unfold Chain
  go_wp2_with fail
  refine (uni4 _ (w.heap.size + 1) HS.out.symm).mono ?_
  rintro e w1 ⟨rfl, hcy, hb⟩
  have HO : Hid (Dif.OutOf w w1 (.slice (some ⟨w.heap.size, 0, none⟩) 0 0) []) := HO0.out.below hb
  clear HO0 hb hlt
  go_wp2
  refine wp_loop_chain 1 ?_
  unfold Chain
  go_upto_region 10 with fail
  have hF : w1.drew.cell? ⟨w.heap.size + 1, 0, none⟩ = some (.int .u32 65279) := by rw [World.cell?_drew]; exact hcy
  have hBd : Below w1.heap.size w1 (w1.alloc (.cells #[.int .u8 254, .int .u8 255] 5)).drew := ((Below.refl _ _).alloc (Nat.le_refl _) _).drew
  have hsg := HO.out.below hBd
  have hrw : Row .u8 (w1.alloc (.cells #[.int .u8 254, .int .u8 255] 5)).drew (some ⟨w1.heap.size, 0, none⟩) [254, 255] := (row_new .u8 w1 [254, 255] 5 _ rfl).mono ((Below.refl _ _).drew)
  have hF2 := cell_later hBd hcy
  go_region_held3 (fun w' => w'.cell? ⟨w.heap.size + 1, 0, none⟩ = some (.int .u32 65279)) (first | exact hF | exact hF2 | assumption)
    ((refine step_append_seg (by rfl) _ _ 40 40 (by rfl) .u8 5 1 Try.underlying40 info_u8 (.slice (some ⟨w.heap.size, 0, none⟩) 0 0) [] [254, 255] (by rfl) hsg.1 _ (by rfl) (src_row (l := [254, 255]) Try.underlying40 hrw rfl (fun h => by cases h)) (by unfold maxLen; decide) (by decide) ?_; intro vo w4 hs4 hc4 hm4; have hFz := hc4.cellAt hF2 (by simp [Value.ownBlock])))
  have HF4 : Hid (Dif.OutOf w w4 vo [254, 255]) := HO.out.app hBd hs4 hc4 hm4
  clear hF hBd hsg hrw hF2 hs4 hc4 hm4 hFz hcy HO
  go_wp2
  unfold Chain
  go_wp2
  unfold Chain
  obtain ⟨ao, co, hvo, hro, -⟩ := HF4.out.1.form
  subst hvo
  have hcv := run_string w4 ao 2 co [254, 255] hro rfl
  go_wp2
  go_ret
  exact ⟨rfl, HF4.out.2.2⟩
set_option maxHeartbeats 4000000 in
theorem byt4l (a : Option Addr) (c : Nat) (w : World) (hr : Row .u32 w a [65279]) :
    Calls Try.prog 16 #[.slice a 1 c, .bool false] w fun e w' => e = .returned (.string { data := #[255, 254] }) ∧ Below w.heap.size w w' := by
  obtain ⟨b, off, ha, hc⟩ := hr
  obtain rfl := ha (by simp)
  have hc0 : w.cell? ⟨b, off, none⟩ = some (.int .u32 65279) := hc 0 (by decide)
  have hlt : b < w.heap.size := World.block_lt_of_cell? w _ hc0
  have HO0 : Hid (Dif.OutOf w (w.alloc (.cells #[] 5)) (.slice (some ⟨w.heap.size, 0, none⟩) 0 0) []) := ⟨Dif.seg_none w _ rfl, fun g hg => by simp [Value.ownBlock] at hg; omega, (Below.refl _ _).alloc (Nat.le_refl _) _⟩
  have HS : Hid ((w.alloc (.cells #[] 5)).heap.size = w.heap.size + 1) := by show _ = _; simp
  clear hc ha
  go_enter Try.func16, Try.ntmps16
  go_wp2
  refine wp_loop_chain 1 ?_
  unfold Chain
  go_wp2_with fail
  refine (uni4 _ (w.heap.size + 1) HS.out.symm).mono ?_
  rintro e w1 ⟨rfl, hcy, hb⟩
  have HO : Hid (Dif.OutOf w w1 (.slice (some ⟨w.heap.size, 0, none⟩) 0 0) []) := HO0.out.below hb
  clear HO0 hb hlt
  go_wp2
  refine wp_loop_chain 1 ?_
  unfold Chain
  go_upto_region 11 with fail
  have hF : w1.drew.cell? ⟨w.heap.size + 1, 0, none⟩ = some (.int .u32 65279) := by rw [World.cell?_drew]; exact hcy
  have hBd : Below w1.heap.size w1 (w1.alloc (.cells #[.int .u8 255, .int .u8 254] 5)).drew := ((Below.refl _ _).alloc (Nat.le_refl _) _).drew
  have hsg := HO.out.below hBd
  have hrw : Row .u8 (w1.alloc (.cells #[.int .u8 255, .int .u8 254] 5)).drew (some ⟨w1.heap.size, 0, none⟩) [255, 254] := (row_new .u8 w1 [255, 254] 5 _ rfl).mono ((Below.refl _ _).drew)
  have hF2 := cell_later hBd hcy
  go_region_held3 (fun w' => w'.cell? ⟨w.heap.size + 1, 0, none⟩ = some (.int .u32 65279)) (first | exact hF | exact hF2 | assumption)
    ((refine step_append_seg (by rfl) _ _ 40 40 (by rfl) .u8 5 1 Try.underlying40 info_u8 (.slice (some ⟨w.heap.size, 0, none⟩) 0 0) [] [255, 254] (by rfl) hsg.1 _ (by rfl) (src_row (l := [255, 254]) Try.underlying40 hrw rfl (fun h => by cases h)) (by unfold maxLen; decide) (by decide) ?_; intro vo w4 hs4 hc4 hm4; have hFz := hc4.cellAt hF2 (by simp [Value.ownBlock])))
  have HF4 : Hid (Dif.OutOf w w4 vo [255, 254]) := HO.out.app hBd hs4 hc4 hm4
  clear hF hBd hsg hrw hF2 hs4 hc4 hm4 hFz hcy HO
  go_wp2
  unfold Chain
  go_wp2
  unfold Chain
  obtain ⟨ao, co, hvo, hro, -⟩ := HF4.out.1.form
  subst hvo
  have hcv := run_string w4 ao 2 co [255, 254] hro rfl
  go_wp2
  go_ret
  exact ⟨rfl, HF4.out.2.2⟩
set_option maxHeartbeats 4000000 in
theorem byt5l (a : Option Addr) (c : Nat) (w : World) (hr : Row .u32 w a [65279]) :
    Calls Try.prog 17 #[.slice a 1 c, .bool false] w fun e w' => e = .returned (.string { data := #[255, 254, 0, 0] }) ∧ Below w.heap.size w w' := by
  obtain ⟨b, off, ha, hc⟩ := hr
  obtain rfl := ha (by simp)
  have hc0 : w.cell? ⟨b, off, none⟩ = some (.int .u32 65279) := hc 0 (by decide)
  have hlt : b < w.heap.size := World.block_lt_of_cell? w _ hc0
  have HO : Hid (Dif.OutOf w (w.alloc (.cells #[] 5)) (.slice (some ⟨w.heap.size, 0, none⟩) 0 0) []) := ⟨Dif.seg_none w _ rfl, fun g hg => by simp [Value.ownBlock] at hg; omega, (Below.refl _ _).alloc (Nat.le_refl _) _⟩
  clear hc ha
  go_enter Try.func17, Try.ntmps17
  go_wp2
  obtain ⟨W, hW⟩ : ∃ W, w.alloc (.cells #[] 5) = W := ⟨_, rfl⟩
  have hc1 : W.cell? ⟨b, off, none⟩ = some (.int .u32 65279) := by rw [← hW]; exact cell_later ((Below.refl _ _).alloc (Nat.le_refl _) _) hc0
  rw [hW] at HO ⊢
  clear hW hc0 hlt
  refine wp_loop_chain 1 ?_
  unfold Chain
  have hBd : Below W.heap.size W (W.alloc (.cells #[.int .u8 255, .int .u8 254, .int .u8 0, .int .u8 0] 5)) := (Below.refl _ _).alloc (Nat.le_refl _) _
  have HSA : Hid (∀ O, Dif.OutOf w (W.alloc O) (.slice (some ⟨w.heap.size, 0, none⟩) 0 0) []) := fun O => HO.out.below ((Below.refl _ _).alloc (Nat.le_refl _) O)
  go_wp2_with (at_builtin; go_must (refine wpList_append_seg rfl _ _ 40 40 rfl .u8 5 1 Try.underlying40 info_u8 (.slice (some ⟨w.heap.size, 0, none⟩) 0 0) [] [255, 254, 0, 0] rfl (HSA.out _).1 _ rfl (src_row (l := [255, 254, 0, 0]) Try.underlying40 (by exact row_new .u8 W [255, 254, 0, 0] _ _ rfl) rfl (fun h => by cases h)) (by unfold maxLen; decide) (by decide) ?_; intro vo w4 hs4 hc4 hm4))
  have HF4 : Hid (Dif.OutOf w w4 vo [255, 254, 0, 0]) := HO.out.app hBd hs4 hc4 hm4
  clear hBd hs4 hc4 hm4 HO HSA
  first | go_wp2 | skip
  unfold Chain
  obtain ⟨ao, co, hvo, hro, -⟩ := HF4.out.1.form
  change vo = .slice ao 4 co at hvo
  subst hvo
  have hcv := run_string w4 ao 4 co [255, 254, 0, 0] hro rfl
  go_wp2
  go_ret
  exact ⟨rfl, HF4.out.2.2⟩
set_option maxHeartbeats 4000000 in
theorem byt5b (a : Option Addr) (c : Nat) (w : World) (hr : Row .u32 w a [65279]) :
    Calls Try.prog 17 #[.slice a 1 c, .bool true] w fun e w' => e = .returned (.string { data := #[0, 0, 254, 255] }) ∧ Below w.heap.size w w' := by
  obtain ⟨b, off, ha, hc⟩ := hr
  obtain rfl := ha (by simp)
  have hc0 : w.cell? ⟨b, off, none⟩ = some (.int .u32 65279) := hc 0 (by decide)
  have hlt : b < w.heap.size := World.block_lt_of_cell? w _ hc0
  have HO : Hid (Dif.OutOf w (w.alloc (.cells #[] 5)) (.slice (some ⟨w.heap.size, 0, none⟩) 0 0) []) := ⟨Dif.seg_none w _ rfl, fun g hg => by simp [Value.ownBlock] at hg; omega, (Below.refl _ _).alloc (Nat.le_refl _) _⟩
  clear hc ha
  go_enter Try.func17, Try.ntmps17
  go_wp2
  obtain ⟨W, hW⟩ : ∃ W, w.alloc (.cells #[] 5) = W := ⟨_, rfl⟩
  have hc1 : W.cell? ⟨b, off, none⟩ = some (.int .u32 65279) := by rw [← hW]; exact cell_later ((Below.refl _ _).alloc (Nat.le_refl _) _) hc0
  rw [hW] at HO ⊢
  clear hW hc0 hlt
  refine wp_loop_chain 1 ?_
  unfold Chain
  have hB1 : Below W.heap.size W (W.alloc (.cells #[.int .u8 255, .int .u8 254, .int .u8 0, .int .u8 0] 5)) := (Below.refl _ _).alloc (Nat.le_refl _) _
  have hF : (W.alloc (.cells #[.int .u8 255, .int .u8 254, .int .u8 0, .int .u8 0] 5)).drew.cell? ⟨W.heap.size, 0, none⟩ = some (.int .u8 255) ∧ (W.alloc (.cells #[.int .u8 255, .int .u8 254, .int .u8 0, .int .u8 0] 5)).drew.cell? ⟨W.heap.size, 1, none⟩ = some (.int .u8 254) ∧ (W.alloc (.cells #[.int .u8 255, .int .u8 254, .int .u8 0, .int .u8 0] 5)).drew.cell? ⟨W.heap.size, 2, none⟩ = some (.int .u8 0) ∧ (W.alloc (.cells #[.int .u8 255, .int .u8 254, .int .u8 0, .int .u8 0] 5)).drew.cell? ⟨W.heap.size, 3, none⟩ = some (.int .u8 0) := by
    simp only [World.cell?_drew]
    refine ⟨?_, ?_, ?_, ?_⟩ <;> (rw [World.cell?_alloc_new]; rfl)
  have HB1 : Hid (Below W.heap.size W (W.alloc (.cells #[.int .u8 255, .int .u8 254, .int .u8 0, .int .u8 0] 5))) := hB1
  clear hB1
  go_upto_region 8 with fail
  obtain ⟨g, hg⟩ : ∃ g, W.heap.size = g := ⟨_, rfl⟩
  obtain ⟨V, hV⟩ : ∃ V, W.alloc (.cells #[.int .u8 255, .int .u8 254, .int .u8 0, .int .u8 0] 5) = V := ⟨_, rfl⟩
  rw [hV] at hF HB1 ⊢
  rw [hg] at hF ⊢
  clear hV
  have hF2 : ∀ O, (V.drew.alloc O).cell? ⟨g, 0, none⟩ = some (.int .u8 255) ∧ (V.drew.alloc O).cell? ⟨g, 1, none⟩ = some (.int .u8 254) ∧ (V.drew.alloc O).cell? ⟨g, 2, none⟩ = some (.int .u8 0) ∧ (V.drew.alloc O).cell? ⟨g, 3, none⟩ = some (.int .u8 0) := fun O =>
    have hb := (Below.refl V.drew.heap.size V.drew).alloc (Nat.le_refl _) O
    ⟨cell_later hb hF.1, cell_later hb hF.2.1, cell_later hb hF.2.2.1, cell_later hb hF.2.2.2⟩
  go_region_held3 (fun w' => w'.cell? ⟨g, 0, none⟩ = some (.int .u8 255) ∧ w'.cell? ⟨g, 1, none⟩ = some (.int .u8 254) ∧ w'.cell? ⟨g, 2, none⟩ = some (.int .u8 0) ∧ w'.cell? ⟨g, 3, none⟩ = some (.int .u8 0)) (first | exact hF | exact hF2 _) (fail)
  have hBd : Below W.heap.size W (V.alloc (.cells #[.int .u8 0, .int .u8 0, .int .u8 254, .int .u8 255] 5)).drew := (HB1.out.alloc HB1.out.size _).drew
  have HSG : Hid (Dif.OutOf w (V.alloc (.cells #[.int .u8 0, .int .u8 0, .int .u8 254, .int .u8 255] 5)).drew (.slice (some ⟨w.heap.size, 0, none⟩) 0 0) []) := HO.out.below hBd
  have HRW : Hid (Row .u8 (V.alloc (.cells #[.int .u8 0, .int .u8 0, .int .u8 254, .int .u8 255] 5)).drew (some ⟨V.heap.size, 0, none⟩) [0, 0, 254, 255]) := (row_new .u8 V [0, 0, 254, 255] 5 _ rfl).mono ((Below.refl _ _).drew)
  clear hF hF2 hg
  go_wp2_with (at_builtin; go_must (refine wpList_append_seg rfl _ _ 40 40 rfl .u8 5 1 Try.underlying40 info_u8 (.slice (some ⟨w.heap.size, 0, none⟩) 0 0) [] [0, 0, 254, 255] rfl HSG.out.1 _ rfl (src_row (l := [0, 0, 254, 255]) Try.underlying40 HRW.out rfl (fun h => by cases h)) (by unfold maxLen; decide) (by decide) ?_; intro vo w4 hs4 hc4 hm4))
  have HF4 : Hid (Dif.OutOf w w4 vo [0, 0, 254, 255]) := HO.out.app hBd hs4 hc4 hm4
  clear hBd hs4 hc4 hm4 HO HSG HRW
  first | go_wp2 | skip
  unfold Chain
  obtain ⟨ao, co, hvo, hro, -⟩ := HF4.out.1.form
  change vo = .slice ao 4 co at hvo
  subst hvo
  have hcv := run_string w4 ao 4 co [0, 0, 254, 255] hro rfl
  go_wp2
  go_ret
  exact ⟨rfl, HF4.out.2.2⟩
end Sig
end Go.Proofs.Ytmihceoeoggjjaa
