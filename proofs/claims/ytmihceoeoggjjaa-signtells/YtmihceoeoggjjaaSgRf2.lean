/-
  What the document's functions of layers 6, 8 and 12 make of the one scalar FEFF, as walks over the translated text, round by round. No condition.
-/
import Derived.Test.YtmihceoeoggjjaaSgRf1
namespace Go.Proofs.Ytmihceoeoggjjaa
open Go.ChangeShapes Go.WideShapes Go.ChangeAt Go.RowKit
namespace Sig
open Bas Txt
set_option linter.unusedVariables false

/-- Bytes put ahead of the bytes so far. -/
theorem out_front {w wr w4 : World} {o vo : Value} {t t' : List Int} {O : Obj} (HO : Dif.OutOf w wr o t) (hs4 : Seg .u8 w4 vo t') (hc4 : Chg (fun b _ => (Value.slice (some ⟨wr.heap.size, 0, none⟩) 1 1).ownBlock = some b) (wr.alloc O) w4)
    (hm4 : Mov (wr.alloc O) (.slice (some ⟨wr.heap.size, 0, none⟩) 1 1) vo) : Dif.OutOf w w4 vo t' := by
  have hz4 := HO.2.2.size
  refine ⟨hs4, fun g hg => ?_, (HO.2.2.alloc hz4 _).trans (hc4.below (by simp; omega) (fun k j hk hh => by simp [Value.ownBlock] at hh; omega))⟩
  rcases hm4 g hg with e | e
  · simp [Value.ownBlock] at e; omega
  · simp at e; omega
theorem size6 (w : World) : Calls Try.prog 55 #[.int .u32 65279] w fun e w' => e = .returned (.int .i64 4) ∧ w' = w := by
  go_enter Try.func55, Try.ntmps55
  go_wp2
  go_ret
  exact ⟨rfl, rfl⟩
abbrev s6 : ByteArray := { data := #[241, 191, 183, 191] }
set_option maxHeartbeats 4000000 in
theorem one6 (w : World) : Calls Try.prog 37 #[.int .u32 65279] w fun e w' => e = .returned (.string s6) ∧ Below w.heap.size w w' := by
  have HO : Hid (Dif.OutOf w (w.alloc (.cells #[] 5)) (.slice (some ⟨w.heap.size, 0, none⟩) 0 0) []) := ⟨Dif.seg_none w _ rfl, fun g hg => by simp [Value.ownBlock] at hg; omega, (Below.refl _ _).alloc (Nat.le_refl _) _⟩
  go_enter Try.func37, Try.ntmps37
  go_wp2_with fail
  refine (size6 w).mono ?_
  rintro e w0 ⟨rfl, hw⟩
  subst hw
  go_wp2
  obtain ⟨W, hW⟩ : ∃ W, w0.alloc (.cells #[] 5) = W := ⟨_, rfl⟩
  rw [hW] at HO ⊢
  clear hW
  refine wp_loop_chain 3 ?_
  unfold Chain
  have HR : Hid (Row .u8 W (some ⟨w0.heap.size, 0, none⟩) []) := row_nil _ _ _
  have HN : Hid ((some (⟨w0.heap.size, 0, none⟩ : Addr)) = none → 0 = 0) := fun h => by cases h
  have HAL : Hid (∀ O, Row .u8 (W.alloc O) (some ⟨w0.heap.size, 0, none⟩) []) := fun O => HR.out.mono ((Below.refl _ _).alloc (Nat.le_refl _) _)
  go_wp2_with (at_builtin; go_must (refine wpList_append_seg rfl _ _ 40 40 rfl .u8 5 1 Try.underlying40 info_u8 (.slice (some ⟨W.heap.size, 0, none⟩) 1 1) [191] [] rfl (Dif.seg_one W 191 _ rfl) _ rfl (src_row (l := []) Try.underlying40 (HAL.out _) rfl HN.out) (by unfold maxLen; decide) (by decide) ?_; intro vo w4 hs4 hc4 hm4))
  have HO1 : Hid (Dif.OutOf w0 w4 vo [191]) := out_front HO.out hs4 hc4 hm4
  clear hs4 hc4 hm4 HAL HR HN HO
  obtain ⟨ao, co, hvo, hro, -, -, -, hno⟩ := HO1.out.1.form
  change vo = .slice ao 1 co at hvo
  subst hvo
  have HR : Hid (Row .u8 w4 ao [191]) := hro
  have HN : Hid (ao = none → co = 0) := hno
  have HO : Hid (Dif.OutOf w0 w4 (.slice ao 1 co) [191]) := HO1.out
  clear hro hno HO1
  obtain ⟨V0, hV0⟩ : ∃ V, w4 = V := ⟨_, rfl⟩
  rw [hV0] at HR HO ⊢
  clear hV0 w4
  obtain ⟨b0, hb0⟩ : ∃ b, ao = b := ⟨_, rfl⟩
  rw [hb0] at HR HO HN ⊢
  clear hb0 ao
  obtain ⟨d0, hd0⟩ : ∃ d, co = d := ⟨_, rfl⟩
  rw [hd0] at HO HN ⊢
  clear hd0 co
  first | go_wp2 | skip
  unfold Chain
  have HAL : Hid (∀ O, Row .u8 (V0.alloc O) b0 [191]) := fun O => HR.out.mono ((Below.refl _ _).alloc (Nat.le_refl _) _)
  go_wp2_with (at_builtin; go_must (refine wpList_append_seg rfl _ _ 40 40 rfl .u8 5 1 Try.underlying40 info_u8 (.slice (some ⟨V0.heap.size, 0, none⟩) 1 1) [183] [191] rfl (Dif.seg_one V0 183 _ rfl) _ rfl (src_row (l := [191]) Try.underlying40 (HAL.out _) rfl HN.out) (by unfold maxLen; decide) (by decide) ?_; intro vo w4 hs4 hc4 hm4))
  have HO2 : Hid (Dif.OutOf w0 w4 vo [183, 191]) := out_front HO.out hs4 hc4 hm4
  clear hs4 hc4 hm4 HAL HR HN HO
  obtain ⟨ao, co, hvo, hro, -, -, -, hno⟩ := HO2.out.1.form
  change vo = .slice ao 2 co at hvo
  subst hvo
  have HR : Hid (Row .u8 w4 ao [183, 191]) := hro
  have HN : Hid (ao = none → co = 0) := hno
  have HO : Hid (Dif.OutOf w0 w4 (.slice ao 2 co) [183, 191]) := HO2.out
  clear hro hno HO2
  obtain ⟨V1, hV1⟩ : ∃ V, w4 = V := ⟨_, rfl⟩
  rw [hV1] at HR HO ⊢
  clear hV1 w4
  obtain ⟨b1, hb1⟩ : ∃ b, ao = b := ⟨_, rfl⟩
  rw [hb1] at HR HO HN ⊢
  clear hb1 ao
  obtain ⟨d1, hd1⟩ : ∃ d, co = d := ⟨_, rfl⟩
  rw [hd1] at HO HN ⊢
  clear hd1 co
  first | go_wp2 | skip
  unfold Chain
  have HAL : Hid (∀ O, Row .u8 (V1.alloc O) b1 [183, 191]) := fun O => HR.out.mono ((Below.refl _ _).alloc (Nat.le_refl _) _)
  go_wp2_with (at_builtin; go_must (refine wpList_append_seg rfl _ _ 40 40 rfl .u8 5 1 Try.underlying40 info_u8 (.slice (some ⟨V1.heap.size, 0, none⟩) 1 1) [191] [183, 191] rfl (Dif.seg_one V1 191 _ rfl) _ rfl (src_row (l := [183, 191]) Try.underlying40 (HAL.out _) rfl HN.out) (by unfold maxLen; decide) (by decide) ?_; intro vo w4 hs4 hc4 hm4))
  have HO3 : Hid (Dif.OutOf w0 w4 vo [191, 183, 191]) := out_front HO.out hs4 hc4 hm4
  clear hs4 hc4 hm4 HAL HR HN HO
  obtain ⟨ao, co, hvo, hro, -, -, -, hno⟩ := HO3.out.1.form
  change vo = .slice ao 3 co at hvo
  subst hvo
  have HR : Hid (Row .u8 w4 ao [191, 183, 191]) := hro
  have HN : Hid (ao = none → co = 0) := hno
  have HO : Hid (Dif.OutOf w0 w4 (.slice ao 3 co) [191, 183, 191]) := HO3.out
  clear hro hno HO3
  obtain ⟨V2, hV2⟩ : ∃ V, w4 = V := ⟨_, rfl⟩
  rw [hV2] at HR HO ⊢
  clear hV2 w4
  obtain ⟨b2, hb2⟩ : ∃ b, ao = b := ⟨_, rfl⟩
  rw [hb2] at HR HO HN ⊢
  clear hb2 ao
  obtain ⟨d2, hd2⟩ : ∃ d, co = d := ⟨_, rfl⟩
  rw [hd2] at HO HN ⊢
  clear hd2 co
  first | go_wp2 | skip
  unfold Chain
  have HAL : Hid (∀ O O2, Row .u8 ((V2.alloc O).alloc O2) b2 [191, 183, 191]) := fun O O2 => (HR.out.mono ((Below.refl _ _).alloc (Nat.le_refl _) O)).mono ((Below.refl _ _).alloc (Nat.le_refl _) _)
  have HSG : Hid (∀ O, Seg .u8 ((V2.alloc O).alloc (.cells #[.int .u8 241] 5)) (.slice (some ⟨V2.heap.size + 1, 0, none⟩) 1 1) [241]) := fun O => Dif.seg_one _ 241 _ (by simp)
  have HBV : Hid (Below w0.heap.size w0 V2) := HO.out.2.2
  clear HO HR
  go_wp2_with (at_builtin; go_must (refine wpList_append_seg rfl _ _ 40 40 rfl .u8 5 1 Try.underlying40 info_u8 (.slice (some ⟨V2.heap.size + 1, 0, none⟩) 1 1) [241] [191, 183, 191] rfl (HSG.out _) _ rfl (src_row (l := [191, 183, 191]) Try.underlying40 (HAL.out _ _) rfl HN.out) (by unfold maxLen; decide) (by decide) ?_; intro vo w4 hs4 hc4 hm4; obtain ⟨a4, c4, hv4, hr4, -⟩ := hs4.form; change vo = .slice a4 4 c4 at hv4; subst hv4; have hcv := run_string w4 a4 4 c4 [241, 191, 183, 191] hr4 rfl; have HB4 : Hid (Below w0.heap.size w0 w4) := (by have hz4 := HBV.out.size; exact ((HBV.out.alloc hz4 _).alloc (by simp; omega) _).trans (hc4.below (by simp; omega) (fun k j hk hh => by simp [Value.ownBlock] at hh; omega))); clear hs4 hc4 hm4 hr4))
  go_ret
  exact ⟨rfl, HB4.out⟩
set_option maxHeartbeats 1000000 in
theorem byt6 (a : Option Addr) (c : Nat) (w : World) (hr : Row .u32 w a [65279]) :
    Calls Try.prog 25 #[.slice a 1 c] w fun e w' => e = .returned (.string s6) ∧ Below w.heap.size w w' := by
  obtain ⟨b, off, ha, hc⟩ := hr
  obtain rfl := ha (by simp)
  have hc0 : w.cell? ⟨b, off, none⟩ = some (.int .u32 65279) := hc 0 (by decide)
  clear hc ha
  go_enter Try.func25, Try.ntmps25
  go_wp2
  refine wp_loop_chain 1 ?_
  unfold Chain
  go_wp2_with fail
  refine (one6 w).mono ?_
  rintro e w1 ⟨rfl, hb⟩
  go_wp2
  unfold Chain
  go_wp2
  go_ret
  exact ⟨rfl, hb⟩
theorem turn6 : strOf (Per.turnL Per.tabL (bytesL s6)) = { data := #[221, 115, 102, 115] } := by decide +kernel
set_option maxHeartbeats 1000000 in
theorem byt8 (a : Option Addr) (c : Nat) (w : World) (hr : Row .u32 w a [65279]) :
    Calls Try.prog 18 #[.slice a 1 c] w fun e w' => e = .returned (.string { data := #[221, 115, 102, 115] }) ∧ Below w.heap.size w w' := by
  go_enter Try.func18, Try.ntmps18
  go_wp2_with fail
  refine (byt6 a c w hr).mono ?_
  rintro e w1 ⟨rfl, hb⟩
  go_wp2_with fail
  refine (Per.rText_any s6 w1 (by decide)).mono ?_
  rw [turn6]
  rintro e w2 ⟨rfl, hb2⟩
  go_wp2
  go_ret
  exact ⟨rfl, below_two hb hb2⟩
theorem pack12 : strOf (Dif.packL 65215) = { data := #[251, 238, 40] } := by decide +kernel
set_option maxHeartbeats 1000000 in
theorem byt12 (a : Option Addr) (c : Nat) (w : World) (hr : Row .u32 w a [65279]) :
    Calls Try.prog 19 #[.slice a 1 c] w fun e w' => e = .returned (.string { data := #[251, 238, 40] }) ∧ Below w.heap.size w w' := by
  obtain ⟨b, off, ha, hc⟩ := hr
  obtain rfl := ha (by simp)
  have hc0 : w.cell? ⟨b, off, none⟩ = some (.int .u32 65279) := hc 0 (by decide)
  have HP : Hid (∀ w, Calls Try.prog 26 #[.int .i64 65215] w fun e w' => e = .returned (.string { data := #[251, 238, 40] }) ∧ Below w.heap.size w w') := fun w => by
    have := Dif.rPack_any 65215 w (by unfold Dif.inR; omega)
    rwa [pack12] at this
  clear hc ha
  go_enter Try.func19, Try.ntmps19
  go_wp2
  refine wp_loop_chain 1 ?_
  unfold Chain
  go_wp2_with fail
  refine (HP.out w).mono ?_
  rintro e w1 ⟨rfl, hb⟩
  go_wp2_with fail
  refine (Dif.rPrev_any 65279 w1 (by decide) (by decide)).mono ?_
  rw [show Dif.prevI 65279 = 65216 from rfl]
  rintro e w2 ⟨rfl, hw⟩
  subst hw
  go_wp2
  unfold Chain
  go_wp2
  go_ret
  exact ⟨rfl, hb⟩
end Sig
end Go.Proofs.Ytmihceoeoggjjaa
