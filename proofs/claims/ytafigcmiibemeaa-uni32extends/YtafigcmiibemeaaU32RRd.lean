/-
  The contract of the document's Read of layer 5: it tells what the machine tells, as a walk over the translated text. The condition: the text is small.
-/
import Derived.Test.YtafigcmiibemeaaU32Ref
namespace Go.Proofs.Ytafigcmiibemeaa
open Go.ChangeShapes Go.WideShapes Go.ChangeAt Go.RowKit
namespace U32
open Bas Sca Stp Scn Cod
set_option linter.unusedVariables false
variable {π : Par}

/-- What Read leaves. -/
def RReadQ (X : Res St) (vo : Value) (w w' : World) : Prop := Seg .u32 w' vo X.told ∧ (∀ g, vo.ownBlock = some g → w.heap.size ≤ g) ∧ Below w.heap.size w w'
/-- The loop of Read: up to where, what is told. -/
def RInv (π : Par) (str : ByteArray) (X : Res St) (w wr : World) (K : Nat) (t : List Int) (o : Value) : Prop :=
  Good π (((bytesL str).drop (K / 4 * 4)).take (K - K / 4 * 4)) ∧ Seg .u32 wr o t ∧ (∀ g, o.ownBlock = some g → w.heap.size ≤ g) ∧
      X = (scan (stepU π) (((bytesL str).drop (K / 4 * 4)).take (K - K / 4 * 4)) ((bytesL str).drop K)).pre t K ∧ Below w.heap.size w wr
theorem beg_four {s : List Int} (h : s.length = 4) (hb : begN π s = true) : begC π s = numN π s := by
  rw [beg4 h] at hb; unfold begC; rw [if_pos hb]
set_option maxHeartbeats 8000000 in
set_option maxRecDepth 100000 in
theorem rRead_any (str : ByteArray) (X : Res St) (w : World) (hX : X = scan (stepU π) (st0 π) (bytesL str)) (hs : str.size ≤ 100000) :
    Calls Try.prog 13 #[.string str, .bool π] w fun e w' => ∃ vo, e = .returned (.tuple #[vo, .int .i64 (endQ X), .int .i64 X.eaten]) ∧ RReadQ X vo w w' := by
  have HX : Hid (X = scan (stepU π) (st0 π) (bytesL str)) := hX
  have HL : Hid ((bytesL str).length = str.size) := bytesL_length str
  clear hX
  go_enter Try.func13, Try.ntmps13
  go_wp2
  go_loopw [7, 8] (fun o k wr => ∃ (K : Nat) (t : List Int), k = .int .i64 K ∧ K ≤ str.size ∧ t.length ≤ K ∧ RInv π str X w wr K t o) (fun _ k _ => str.size - (intOf k).toNat)
  case atStart => exact ⟨0, [], rfl, Nat.zero_le _, by simp, by simpa using good_nil π, seg_empty _ _ _, fun g hg => by simp [Value.ownBlock] at hg; omega, by rw [HX.out]; simp [Res.pre, st0], (Below.refl _ _).alloc (Nat.le_refl _) _⟩
  case round =>
    obtain ⟨K, t, rfl, hK, htK, hI⟩ := hrel
    have HI : Hid (RInv π str X w wr K t u7) := hI
    clear hI
    by_cases hlt : (K : Int) < (str.size : Int)
    · have hKl : K < (bytesL str).length := by rw [HL.out]; omega
      obtain ⟨F, hFF⟩ : ∃ F, K / 4 * 4 = F := ⟨_, rfl⟩
      have hF : F ≤ K := by omega
      have hq : bytesL (str.extract F (K + 1)) = ((bytesL str).drop F).take (K - F) ++ [nth (bytesL str) K] := by rw [bytesL_extract, cut_snoc _ hF hKl]
      have hdr := drop_at (bytesL str) K hKl
      have hby : ∀ y ∈ ((bytesL str).drop F).take (K - F) ++ [nth (bytesL str) K], 0 ≤ y ∧ y < 256 := by rw [← hq]; exact bytesL_byte _
      have hq1 : (((bytesL str).drop F).take (K - F) ++ [nth (bytesL str) K]) = ((bytesL str).drop F).take (K + 1 - F) := by
        rw [← cut_snoc _ hF hKl, List.drop_take]
      have hlen : (((bytesL str).drop F).take (K - F)).length = K % 4 := by rw [List.length_take, List.length_drop]; omega
      have HI1 := HI.out
      unfold RInv at HI1
      rw [hFF] at HI1
      obtain ⟨st, hst⟩ : ∃ st, ((bytesL str).drop F).take (K - F) = st := ⟨_, rfl⟩
      obtain ⟨x, hx⟩ : ∃ x, nth (bytesL str) K = x := ⟨_, rfl⟩
      obtain ⟨qs, hqs⟩ : ∃ qs, str.extract F (K + 1) = qs := ⟨_, rfl⟩
      rw [hqs] at hq
      rw [hst, hx] at hq hby hq1
      rw [hst] at hlen HI1
      rw [hx] at hdr
      have HI2 : Hid (Good π st ∧ Seg .u32 wr u7 t ∧ (∀ g, u7.ownBlock = some g → w.heap.size ≤ g) ∧ X = (scan (stepU π) st ((bytesL str).drop K)).pre t K ∧ Below w.heap.size w wr) := HI1
      have HDR : Hid ((bytesL str).drop K = x :: (bytesL str).drop (K + 1)) := hdr
      have HQ : Hid (bytesL qs = st ++ [x] ∧ st ++ [x] = ((bytesL str).drop F).take (K + 1 - F) ∧ (∀ y ∈ st ++ [x], 0 ≤ y ∧ y < 256) ∧ st.length = K % 4) := ⟨hq, hq1, hby, hlen⟩
      have HFK : Hid (K / 4 * 4 = F ∧ str.extract F (K + 1) = qs) := ⟨hFF, hqs⟩
      have hF4 : (K : Int) / 4 * 4 = (F : Int) := by omega
      have hFK : (F : Int) ≤ (K : Int) + 1 := by omega
      have hKs : (K : Int) + 1 ≤ (str.size : Int) := by omega
      clear hst hx hqs hq hdr hby hq1 HI HI1 hlen hFF
      go_wp2_with fail
      rw [HFK.out.2]
      have hml := HQ.out.2.2.2
      refine (rBegins_any (π := π) qs (st ++ [x]) wr HQ.out.1 ⟨by simp, by simp; omega⟩).mono ?_
      rintro e w2 ⟨rfl, rfl⟩
      clear hml hF4 hFK hKs hKl
      cases hf : begN π (st ++ [x]) with
      | false =>
        have HX5 : Hid (X = ⟨t, K, st, true⟩) := by
          show _ = _
          rw [HI2.out.2.2.2.1, HDR.out, scan_none _ (step_no hf)]; simp [Res.pre]
        clear hf
        go_wp2
        go_ret3
        exact ⟨u7, by rw [HX5.out]; rfl, by rw [HX5.out]; exact HI2.out.2.1, HI2.out.2.2.1, HI2.out.2.2.2.2⟩
      | true =>
        by_cases h3 : K % 4 = 3
        · have hl3 : st.length = 3 := by rw [HQ.out.2.2.2, h3]
          have hl4 : (st ++ [x]).length = 4 := by rw [List.length_append, hl3]; rfl
          have hs := step_last hf hl3
          have hc := beg_four hl4 hf
          obtain ⟨c, hcc⟩ : ∃ c, numN π (st ++ [x]) = c := ⟨_, rfl⟩
          rw [hcc] at hs hc
          rw [hc]
          have HX5 : Hid (X = (scan (stepU π) [] ((bytesL str).drop (K + 1))).pre (t ++ [c]) (K + 1)) := by
            show _ = _
            rw [HI2.out.2.2.2.1, HDR.out, scan_some _ hs, Res.pre_pre]
          have h3' : ((K : Int) % 4 == 3) = true := by simp; omega
          have HSA : Hid (∀ o, Seg .u32 (w2.alloc o) u7 t) := fun o => HI2.out.2.1.chg ((Chg.refl (fun _ _ => False) _).alloc o) (fun _ _ _ h => h)
          have HK4 : Hid ((K + 1) - (K + 1) / 4 * 4 = 0) := by show _ = _; omega
          clear hf h3 hl3 hl4 hs hc hcc
          go_wp2_with (at_builtin; go_must (refine wpList_append_seg rfl _ _ 28 28 rfl .u32 46 4 Try.underlying28 info_u32 u7 t [c] rfl (HSA.out _) _ rfl (src_row (l := [c]) Try.underlying28 (by exact row_new .u32 w2 [c] _ _ rfl) rfl (fun h => by cases h)) (by unfold maxLen; simp; omega) (by simp; omega) ?_; intro vo w4 hs4 hc4 hm4))
          have HO4 : Hid (Seg .u32 w4 vo (t ++ [c]) ∧ (∀ g, vo.ownBlock = some g → w.heap.size ≤ g) ∧ Below w.heap.size w w4) := by
            have hz := HI2.out.2.2.2.2.size
            refine ⟨hs4, fun g hg => ?_, (HI2.out.2.2.2.2.alloc hz _).trans (hc4.below (by simp; omega) (fun k j hk hh => by have := HI2.out.2.2.1 k hh; omega))⟩
            rcases hm4 g hg with e | e
            · exact HI2.out.2.2.1 g e
            · simp at e; omega
          clear hs4 hc4 hm4 HSA
          go_roundw
          case rel => exact ⟨K + 1, t ++ [c], by go_num, by omega, by simp; omega, by rw [HK4.out]; simpa using good_nil π, HO4.out.1, HO4.out.2.1, by rw [HK4.out]; simpa using HX5.out, HO4.out.2.2⟩
          case measure => simp [intOf]; omega
        · have hl3 : st.length ≠ 3 := by rw [HQ.out.2.2.2]; exact h3
          have hs := step_mid hf hl3
          have HX5 : Hid (X = (scan (stepU π) (st ++ [x]) ((bytesL str).drop (K + 1))).pre t (K + 1)) := by
            show _ = _
            rw [HI2.out.2.2.2.1, HDR.out, scan_some _ hs, Res.pre_pre]; simp
          have HG : Hid (Good π (st ++ [x])) := ⟨by have := HI2.out.1.len; simp; omega, fun _ => hf⟩
          have h3' : ((K : Int) % 4 == 3) = false := by simp; omega
          have HK4 : Hid ((K + 1) / 4 * 4 = F) := by show _ = _; have := HFK.out.1; omega
          clear hf h3 hl3 hs
          go_wp2
          go_roundw
          case rel => exact ⟨K + 1, t, by go_num, by omega, by omega, by rw [HK4.out, ← HQ.out.2.1]; exact HG.out, HI2.out.2.1, HI2.out.2.2.1, by rw [HK4.out, ← HQ.out.2.1]; exact HX5.out, HI2.out.2.2.2.2⟩
          case measure => simp [intOf]; omega
    · have hKe : K = str.size := by omega
      have HX5 : Hid (X = ⟨t, K, ((bytesL str).drop (K / 4 * 4)).take (K - K / 4 * 4), false⟩) := by
        show _ = _
        have := HI.out.2.2.2.1
        rw [this, List.drop_of_length_le (show (bytesL str).length ≤ K by rw [HL.out]; omega)]; simp [scan, Res.pre]
      have hse : X.st.length = K % 4 := by
        rw [HX5.out, List.length_take, List.length_drop, HL.out]; omega
      have hbd : X.bad = false := by rw [HX5.out]
      by_cases hFl : (str.size : Int) % 4 > 0
      · have HE : Hid (endQ X = 4 ∧ X.eaten = str.size) := by
          have hne : X.st ≠ [] := by intro e; rw [e] at hse; simp at hse; omega
          exact ⟨by simp [endQ, hbd, rest, hne], by rw [HX5.out]; exact hKe⟩
        clear hse hbd
        go_wp2
        go_ret3
        exact ⟨u7, by rw [HE.out.1, HE.out.2]; rfl, by rw [HX5.out]; exact HI.out.2.1, HI.out.2.2.1, HI.out.2.2.2.2⟩
      · have HE : Hid (endQ X = 0 ∧ X.eaten = str.size) := by
          have hne : X.st = [] := List.length_eq_zero_iff.1 (by omega)
          exact ⟨by simp [endQ, hbd, rest, hne], by rw [HX5.out]; exact hKe⟩
        clear hse hbd
        go_wp2
        go_ret3
        exact ⟨u7, by rw [HE.out.1, HE.out.2]; rfl, by rw [HX5.out]; exact HI.out.2.1, HI.out.2.2.1, HI.out.2.2.2.2⟩
end U32
end Go.Proofs.Ytafigcmiibemeaa
