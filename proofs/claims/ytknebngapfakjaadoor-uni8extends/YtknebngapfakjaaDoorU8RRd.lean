/-
  The contract of the document's Read of layer 3: it tells what the machine tells, as a walk over the translated text. The condition: the text is small.
-/
import Derived.Test.YtknebngapfakjaaDoorU8Bgn
import Derived.Test.YtknebngapfakjaaDoorU8Lst
import Derived.Test.YtknebngapfakjaaDoorU8Rd
import Derived.OwnWalk
namespace Go.Proofs.YtknebngapfakjaaDoor
open Go.ChangeShapes Go.WideShapes Go.ChangeAt Go.RowKit
namespace U8
open Bas Sca Stp Scn
set_option linter.unusedVariables false

theorem cut_snoc (L : List Int) {F K : Nat} (hF : F ≤ K) (hK : K < L.length) : (L.take (K + 1)).drop F = (L.drop F).take (K - F) ++ [nth L K] := by
  rw [take_snoc L K hK, List.drop_append_of_le_length (by simp; omega), List.drop_take]
theorem good_len {s : List Int} (h : Good s) : s.length ≤ 3 := h.len
/-- What Read leaves. -/
def RReadQ (X : Res (List Int)) (vo : Value) (w w' : World) : Prop := Seg .u32 w' vo X.told ∧ (∀ g, vo.ownBlock = some g → w.heap.size ≤ g) ∧ Below w.heap.size w w'

set_option maxHeartbeats 8000000 in
set_option maxRecDepth 100000 in
theorem rRead_any (str : ByteArray) (X : Res (List Int)) (w : World) (hX : X = scan stepU [] (bytesL str)) (hs : str.size ≤ 100000) :
    Calls Tryd.prog 13 #[.string str] w fun e w' => ∃ vo, e = .returned (.tuple #[vo, .int .i64 (endQ X), .int .i64 X.eaten]) ∧ RReadQ X vo w w' := by
  have HX : Hid (X = scan stepU [] (bytesL str)) := hX
  have HL : Hid ((bytesL str).length = str.size) := bytesL_length str
  clear hX
  go_enter Tryd.func13, Tryd.ntmps13
  go_wp2
  go_loopw [5, 6, 7] (fun o f k wr => ∃ (F K : Nat) (t : List Int), f = .int .i64 F ∧ k = .int .i64 K ∧ F ≤ K ∧ K ≤ str.size ∧ Good (((bytesL str).drop F).take (K - F)) ∧ Seg .u32 wr o t ∧ (∀ g, o.ownBlock = some g → w.heap.size ≤ g) ∧
      X = (scan stepU (((bytesL str).drop F).take (K - F)) ((bytesL str).drop K)).pre t K ∧ Below w.heap.size w wr ∧ t.length ≤ K) (fun _ _ k _ => str.size - (intOf k).toNat)
  case atStart => exact ⟨0, 0, [], rfl, rfl, Nat.le_refl _, Nat.zero_le _, by simpa using good_nil, seg_empty _ _ _, fun g hg => by simp [Value.ownBlock] at hg; omega, by rw [HX.out]; simp [Res.pre], (Below.refl _ _).alloc (Nat.le_refl _) _, by simp⟩
  case round =>
    obtain ⟨F, K, t, rfl, rfl, hF, hK, hg, hsg, hown, hXe, hB, htK⟩ := hrel
    have HG : Hid (Good (((bytesL str).drop F).take (K - F))) := hg
    have HO : Hid (Seg .u32 wr u5 t ∧ (∀ g, u5.ownBlock = some g → w.heap.size ≤ g) ∧ Below w.heap.size w wr) := ⟨hsg, hown, hB⟩
    have HXE : Hid (X = (scan stepU (((bytesL str).drop F).take (K - F)) ((bytesL str).drop K)).pre t K) := hXe
    clear hg hsg hown hXe hB
    by_cases hlt : (K : Int) < (str.size : Int)
    · have hKl : K < (bytesL str).length := by rw [HL.out]; omega
      have hFK : (F : Int) ≤ (K : Int) + 1 := by omega
      go_wp2_with fail
      have hq : bytesL (str.extract F (K + 1)) = ((bytesL str).drop F).take (K - F) ++ [nth (bytesL str) K] := by rw [bytesL_extract, cut_snoc _ hF hKl]
      have hdr := drop_at (bytesL str) K hKl
      have hb0 := (bytesL_byte str _ (nth_mem hKl)).1
      have hq0 : 0 ≤ nth (((bytesL str).drop F).take (K - F) ++ [nth (bytesL str) K]) 0 := by
        rw [← hq]
        exact (bytesL_byte _ _ (nth_mem (by rw [hq]; simp))).1
      refine (begins_any (str.extract F (K + 1)) _ _ wr hq HG.out).mono ?_
      rintro e w2 ⟨⟨c, ok, rfl, hok, hc⟩, hb2⟩
      have hql : (((bytesL str).drop F).take (K - F) ++ [nth (bytesL str) K]).length = K + 1 - F := by
        rw [List.length_append, List.length_take, List.length_drop]; simp; omega
      have hq1 : (((bytesL str).drop F).take (K - F) ++ [nth (bytesL str) K]) = ((bytesL str).drop F).take (K + 1 - F) := by
        rw [← cut_snoc _ hF hKl, List.drop_take]
      obtain ⟨st, hst⟩ : ∃ st, ((bytesL str).drop F).take (K - F) = st := ⟨_, rfl⟩
      obtain ⟨x, hx⟩ : ∃ x, nth (bytesL str) K = x := ⟨_, rfl⟩
      rw [hst, hx] at hok hc hql hq1 hq0
      rw [hx] at hdr
      rw [hst] at HXE
      have HO2 : Hid (Seg .u32 w2 u5 t ∧ (∀ g, u5.ownBlock = some g → w.heap.size ≤ g) ∧ Below w.heap.size w w2) :=
        ⟨HO.out.1.chg (chg_of_below hb2 (Nat.le_refl _) (fun _ _ => False)) (fun _ _ _ h => h), HO.out.2.1, HO.out.2.2.trans (hb2.mono HO.out.2.2.size)⟩
      have HDR : Hid ((bytesL str).drop K = x :: (bytesL str).drop (K + 1)) := hdr
      have HST : Hid (((bytesL str).drop F).take (K - F) = st) := hst
      have HQ : Hid ((st ++ [x]).length = K + 1 - F ∧ st ++ [x] = ((bytesL str).drop F).take (K + 1 - F) ∧ 0 ≤ nth (st ++ [x]) 0) := ⟨hql, hq1, hq0⟩
      have HGD : Hid (Good st) := by rw [← hst]; exact HG.out
      clear hst hx hdr hql hq1 hq hb0 hb2 HO HG hq0
      cases ho : okq (st ++ [x]) with
      | false =>
        rw [ho] at hok
        subst hok
        have HX5 : Hid (X = ⟨t, K, st, true⟩) := by
          show _ = _
          rw [HXE.out, HDR.out, scan_none _ (step_bad ho)]; simp [Res.pre]
        clear ho hc HXE
        go_wp2
        go_ret3
        exact ⟨u5, by rw [HX5.out]; rfl, by rw [HX5.out]; exact HO2.out.1, HO2.out.2.1, HO2.out.2.2⟩
      | true =>
        rw [ho] at hok
        subst hok
        have hcl := hc ho
        have hlo0 := least_ok ho HQ.out.2.2
        rw [← hcl] at hlo0
        have HLO : Hid (LeastOk (st ++ [x]) c (needN (nth (st ++ [x]) 0))) := hlo0
        have HOK : Hid (okq (st ++ [x]) = true) := ho
        clear hlo0 hcl hc ho
        go_wp2_with fail
        refine (size_any c w2).mono ?_
        rintro e w3 ⟨rfl, rfl⟩
        have hlo := HLO.out
        have ho := HOK.out
        rw [hlo.1]
        obtain ⟨nn, hnn⟩ : ∃ nn, needN (nth (st ++ [x]) 0) = nn := ⟨_, rfl⟩
        rw [hnn]
        by_cases hwh : nn = K + 1 - F
        · have hst2 := step_whole ho (by rw [hnn, HQ.out.1, hwh])
          have hcn : c = numU (st ++ [x]) := hlo.2.2.1 (by rw [HQ.out.1, hnn, hwh])
          rw [← hcn] at hst2
          have HX5 : Hid (X = (scan stepU [] ((bytesL str).drop (K + 1))).pre (t ++ [c]) (K + 1)) := by
            show _ = _
            rw [HXE.out, HDR.out, scan_some _ hst2, Res.pre_pre]
          have heq : ((nn : Int) == (K : Int) + 1 - F) = true := by simp; omega
          clear ho hlo hnn hwh hst2 hcn HXE
          have HSA : Hid (∀ o, Seg .u32 (w3.alloc o) u5 t) := fun o => HO2.out.1.chg ((Chg.refl (fun _ _ => False) _).alloc o) (fun _ _ _ h => h)
          go_wp2_with (at_builtin; go_must (refine wpList_append_seg rfl _ _ 27 27 rfl .u32 70 4 Tryd.underlying27 info_u32 u5 t [c] rfl (HSA.out _) _ rfl (src_row (l := [c]) Tryd.underlying27 (by exact row_new .u32 w3 [c] _ _ rfl) rfl (fun h => by cases h)) (by unfold maxLen; simp; omega) (by simp; omega) ?_; intro vo w4 hs4 hc4 hm4))
          have HO4 : Hid (Seg .u32 w4 vo (t ++ [c]) ∧ (∀ g, vo.ownBlock = some g → w.heap.size ≤ g) ∧ Below w.heap.size w w4) := by
            have hz := HO2.out.2.2.size
            refine ⟨hs4, fun g hg => ?_, (HO2.out.2.2.alloc hz _).trans (hc4.below (by simp; omega) (fun k j hk hh => by have := HO2.out.2.1 k hh; omega))⟩
            rcases hm4 g hg with e | e
            · exact HO2.out.2.1 g e
            · simp at e; omega
          clear hs4 hc4 hm4 HO2 HSA
          go_roundw
          case rel => exact ⟨K + 1, K + 1, t ++ [c], by go_num, by go_num, Nat.le_refl _, by omega, by simpa using good_nil, HO4.out.1, HO4.out.2.1, by simpa using HX5.out, HO4.out.2.2, by simp; omega⟩
          case measure => simp [intOf]; omega
        · have hst2 : stepU st x = some (st ++ [x], []) := step_beg (by
            have := okq_len ho
            rw [hnn, HQ.out.1] at this
            simp only [isBeg, ho, Bool.true_and, decide_eq_true_eq]
            rw [hnn, HQ.out.1]; omega)
          have HX5 : Hid (X = (scan stepU (st ++ [x]) ((bytesL str).drop (K + 1))).pre t (K + 1)) := by
            show _ = _
            rw [HXE.out, HDR.out, scan_some _ hst2, Res.pre_pre]; simp
          have hgd : Good (st ++ [x]) := step_good st x _ HGD.out hst2
          have HG2 : Hid (Good (st ++ [x])) := hgd
          have heq : ((nn : Int) == (K : Int) + 1 - F) = false := by simp; omega
          clear ho hlo hnn hwh hst2 HXE hgd
          go_wp2
          go_roundw
          case rel => exact ⟨F, K + 1, t, by go_num, by go_num, by omega, by omega, by rw [← HQ.out.2.1]; exact HG2.out, HO2.out.1, HO2.out.2.1, by rw [← HQ.out.2.1]; exact HX5.out, HO2.out.2.2, by omega⟩
          case measure => simp [intOf]; omega
    · have hKe : K = str.size := by omega
      have HX5 : Hid (X = ⟨t, K, ((bytesL str).drop F).take (K - F), false⟩) := by
        show _ = _
        rw [HXE.out, List.drop_of_length_le (show (bytesL str).length ≤ K by rw [HL.out]; omega)]; simp [scan, Res.pre]
      clear HXE
      have hse : X.st.length = K - F := by
        rw [HX5.out, List.length_take, List.length_drop, HL.out]; omega
      by_cases hFl : (F : Int) < (str.size : Int)
      · have HE : Hid (endQ X = 4 ∧ X.eaten = str.size) := by
          have hne : X.st ≠ [] := by intro e; rw [e] at hse; simp at hse; omega
          refine ⟨?_, by rw [HX5.out]; exact hKe⟩
          have hbd : X.bad = false := by rw [HX5.out]
          simp [endQ, hbd, hne]
        clear hse
        go_wp2
        go_ret3
        exact ⟨u5, by rw [HE.out.1, HE.out.2]; rfl, by rw [HX5.out]; exact HO.out.1, HO.out.2.1, HO.out.2.2⟩
      · have HE : Hid (endQ X = 0 ∧ X.eaten = str.size) := by
          have hne : X.st = [] := List.length_eq_zero_iff.1 (by omega)
          refine ⟨?_, by rw [HX5.out]; exact hKe⟩
          have hbd : X.bad = false := by rw [HX5.out]
          simp [endQ, hbd, hne]
        clear hse
        go_wp2
        go_ret3
        exact ⟨u5, by rw [HE.out.1, HE.out.2]; rfl, by rw [HX5.out]; exact HO.out.1, HO.out.2.1, HO.out.2.2⟩
end U8
end Go.Proofs.YtknebngapfakjaaDoor
