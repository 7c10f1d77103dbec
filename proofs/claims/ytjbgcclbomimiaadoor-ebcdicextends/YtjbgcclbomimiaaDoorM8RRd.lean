/-
  The contract of the document's Read of layer 6: it tells what the machine tells, as a walk over the translated text. The condition: the text is small.
-/
import Derived.Test.YtjbgcclbomimiaaDoorM8Bgn
import Derived.OwnWalk
namespace Go.Proofs.YtjbgcclbomimiaaDoor
open Go.ChangeShapes Go.WideShapes Go.ChangeAt Go.RowKit
namespace M8
open Bas Sca Stp Scn Cod
set_option linter.unusedVariables false
variable {π : Par}

/-- The least scalar of a beginning. -/
theorem least_ok {q : List Int} (h1 : 1 ≤ q.length) (hb : ∀ x ∈ q, 0 ≤ x ∧ x < 256) (hg : begN q = true) {c : Int} (hc : c = someLo (bitsN q * p32 (lackN q)) (rowN q + 1)) :
    rowC c = rowN q ∧ isB c = true ∧ 0 ≤ c ∧ (lackN q = 0 → c = bitsN q) ∧ (oneN π c).take q.length = q := by
  obtain ⟨ht, hl, ho⟩ := beg_iff.1 hg
  have hne : q ≠ [] := by intro e; rw [e] at h1; simp at h1
  have ha : 0 ≤ nth q 0 ∧ nth q 0 < 256 := hb _ (nth_mem (by omega))
  have ha2 : nth q 0 < 252 := by
    by_cases h : 252 ≤ nth q 0
    · rw [beg_252 h1 h] at hg; cases hg
    · omega
  have ha3 : ¬ (160 ≤ nth q 0 ∧ nth q 0 < 192) := fun h => by rw [beg_160 h1 h.1 h.2] at hg; cases hg
  have hrow := rowN_nth h1
  have hlk := lackN_nth h1
  have hr := rowB_iff (nth q 0)
  have hle := rowB_le (nth q 0)
  obtain ⟨h2, h3⟩ := lo_all hne hl
  have key : (0 ≤ nth q 0 - leadN (rowN q)) ∧ hiR q (rowN q) < capN (rowN q) := by
    have hcs : rowN q = 0 ∨ rowN q = 1 ∨ rowN q = 2 ∨ rowN q = 3 ∨ rowN q = 4 := by omega
    rcases hcs with e | e | e | e | e
    · have hz : 0 ≤ nth q 0 - leadN (rowN q) := by rw [e, show leadN 0 = 0 from rfl]; omega
      have hbd := lohi_bd (q := q) (j := rowN q) (by omega) (fun i i1 i2 i3 => tail_nth.1 ht i i1 i3) rfl hz
      rw [e, show leadN 0 = 0 from rfl, show p32 0 = 1 from rfl] at hbd
      exact ⟨hz, by rw [e, show capN 0 = 160 from rfl]; omega⟩
    · have hz : 0 ≤ nth q 0 - leadN (rowN q) := by rw [e, show leadN 1 = 192 from rfl]; omega
      have hbd := lohi_bd (q := q) (j := rowN q) (by omega) (fun i i1 i2 i3 => tail_nth.1 ht i i1 i3) rfl hz
      rw [e, show leadN 1 = 192 from rfl, show p32 1 = 32 from rfl] at hbd
      exact ⟨hz, by rw [e, show capN 1 = 1024 from rfl]; omega⟩
    · have hz : 0 ≤ nth q 0 - leadN (rowN q) := by rw [e, show leadN 2 = 224 from rfl]; omega
      have hbd := lohi_bd (q := q) (j := rowN q) (by omega) (fun i i1 i2 i3 => tail_nth.1 ht i i1 i3) rfl hz
      rw [e, show leadN 2 = 224 from rfl, show p32 2 = 1024 from rfl] at hbd
      exact ⟨hz, by rw [e, show capN 2 = 16384 from rfl]; omega⟩
    · have hz : 0 ≤ nth q 0 - leadN (rowN q) := by rw [e, show leadN 3 = 240 from rfl]; omega
      have hbd := lohi_bd (q := q) (j := rowN q) (by omega) (fun i i1 i2 i3 => tail_nth.1 ht i i1 i3) rfl hz
      rw [e, show leadN 3 = 240 from rfl, show p32 3 = 32768 from rfl] at hbd
      exact ⟨hz, by rw [e, show capN 3 = 262144 from rfl]; omega⟩
    · have hz : 0 ≤ nth q 0 - leadN (rowN q) := by rw [e, show leadN 4 = 248 from rfl]; omega
      have hbd := lohi_bd (q := q) (j := rowN q) (by omega) (fun i i1 i2 i3 => tail_nth.1 ht i i1 i3) rfl hz
      rw [e, show leadN 4 = 248 from rfl, show p32 4 = 1048576 from rfl] at hbd
      exact ⟨hz, by rw [e, show capN 4 = 4194304 from rfl]; omega⟩
  have hb0 : 0 ≤ bitsN q := goN_first hne ht key.1
  have h4 := least_of (r := rowN q) (k := lackN q) (m := bitsN q) (by omega) (by omega) hb0 (by rw [← h3]; exact key.2) ho
  rw [← hc] at h4
  refine ⟨h4.1, h4.2.1, h4.2.2.1, fun e => ?_, take_one hne hl h4.1 h4.2.2.1 h4.2.2.2 ht⟩
  have h5 := h4.2.2.2
  rw [e, show p32 0 = 1 from rfl] at h5
  omega
/-- What Read leaves. -/
def RReadQ (X : Res St) (vo : Value) (w w' : World) : Prop := Seg .u32 w' vo X.told ∧ (∀ g, vo.ownBlock = some g → w.heap.size ≤ g) ∧ Below w.heap.size w w'

set_option maxHeartbeats 8000000 in
set_option maxRecDepth 100000 in
theorem rRead_any (str : ByteArray) (X : Res St) (w : World) (hX : X = scan (stepU π) (st0 π) (bytesL str)) (hs : str.size ≤ 100000) :
    Calls Tryd.prog 20 #[.string str] w fun e w' => ∃ vo, e = .returned (.tuple #[vo, .int .i64 (endQ X), .int .i64 X.eaten]) ∧ RReadQ X vo w w' := by
  have HX : Hid (X = scan (stepU π) [] (bytesL str)) := hX
  have HL : Hid ((bytesL str).length = str.size) := bytesL_length str
  clear hX
  go_enter Tryd.func20, Tryd.ntmps20
  go_wp2
  go_loopw [5, 6, 7] (fun o f k wr => ∃ (F K : Nat) (t : List Int), f = .int .i64 F ∧ k = .int .i64 K ∧ F ≤ K ∧ K ≤ str.size ∧ Good π (((bytesL str).drop F).take (K - F)) ∧ Seg .u32 wr o t ∧ (∀ g, o.ownBlock = some g → w.heap.size ≤ g) ∧
      X = (scan (stepU π) (((bytesL str).drop F).take (K - F)) ((bytesL str).drop K)).pre t K ∧ Below w.heap.size w wr ∧ t.length ≤ K) (fun _ _ k _ => str.size - (intOf k).toNat)
  case atStart => exact ⟨0, 0, [], rfl, rfl, Nat.le_refl _, Nat.zero_le _, by simpa using good_nil π, seg_empty _ _ _, fun g hg => by simp [Value.ownBlock] at hg; omega, by rw [HX.out]; simp [Res.pre], (Below.refl _ _).alloc (Nat.le_refl _) _, by simp⟩
  case round =>
    obtain ⟨F, K, t, rfl, rfl, hF, hK, hg, hsg, hown, hXe, hB, htK⟩ := hrel
    have HG : Hid (Good π (((bytesL str).drop F).take (K - F))) := hg
    have HO : Hid (Seg .u32 wr u5 t ∧ (∀ g, u5.ownBlock = some g → w.heap.size ≤ g) ∧ Below w.heap.size w wr) := ⟨hsg, hown, hB⟩
    have HXE : Hid (X = (scan (stepU π) (((bytesL str).drop F).take (K - F)) ((bytesL str).drop K)).pre t K) := hXe
    clear hg hsg hown hXe hB
    by_cases hlt : (K : Int) < (str.size : Int)
    · have hKl : K < (bytesL str).length := by rw [HL.out]; omega
      have hFK : (F : Int) ≤ (K : Int) + 1 := by omega
      go_wp2_with fail
      have hq : bytesL (str.extract F (K + 1)) = ((bytesL str).drop F).take (K - F) ++ [nth (bytesL str) K] := by rw [bytesL_extract, cut_snoc _ hF hKl]
      have hdr := drop_at (bytesL str) K hKl
      have hby : ∀ y ∈ ((bytesL str).drop F).take (K - F) ++ [nth (bytesL str) K], 0 ≤ y ∧ y < 256 := by rw [← hq]; exact bytesL_byte _
      refine (begins_any (str.extract F (K + 1)) _ wr hq (by simp)).mono ?_
      rintro e w2 ⟨⟨c, rfl, hc⟩, hb2⟩
      have hql : (((bytesL str).drop F).take (K - F) ++ [nth (bytesL str) K]).length = K + 1 - F := by
        rw [List.length_append, List.length_take, List.length_drop]; simp; omega
      have hq1 : (((bytesL str).drop F).take (K - F) ++ [nth (bytesL str) K]) = ((bytesL str).drop F).take (K + 1 - F) := by
        rw [← cut_snoc _ hF hKl, List.drop_take]
      obtain ⟨st, hst⟩ : ∃ st, ((bytesL str).drop F).take (K - F) = st := ⟨_, rfl⟩
      obtain ⟨x, hx⟩ : ∃ x, nth (bytesL str) K = x := ⟨_, rfl⟩
      rw [hst, hx] at hc hql hq1 hby ⊢
      rw [hx] at hdr
      rw [hst] at HXE
      have HO2 : Hid (Seg .u32 w2 u5 t ∧ (∀ g, u5.ownBlock = some g → w.heap.size ≤ g) ∧ Below w.heap.size w w2) :=
        ⟨HO.out.1.chg (chg_of_below hb2 (Nat.le_refl _) (fun _ _ => False)) (fun _ _ _ h => h), HO.out.2.1, HO.out.2.2.trans (hb2.mono HO.out.2.2.size)⟩
      have HDR : Hid ((bytesL str).drop K = x :: (bytesL str).drop (K + 1)) := hdr
      have HST : Hid (((bytesL str).drop F).take (K - F) = st) := hst
      have HQ : Hid ((st ++ [x]).length = K + 1 - F ∧ st ++ [x] = ((bytesL str).drop F).take (K + 1 - F) ∧ ∀ y ∈ st ++ [x], 0 ≤ y ∧ y < 256) := ⟨hql, hq1, hby⟩
      have HGD : Hid (Good π st) := by rw [← hst]; exact HG.out
      clear hst hx hdr hql hq1 hq hb2 HO HG hby
      cases ho : begN (st ++ [x]) with
      | false =>
        have HX5 : Hid (X = ⟨t, K, st, true⟩) := by
          show _ = _
          rw [HXE.out, HDR.out, scan_none _ (step_no ho)]; simp [Res.pre]
        clear ho hc HXE
        go_wp2
        go_ret3
        exact ⟨u5, by rw [HX5.out]; rfl, by rw [HX5.out]; exact HO2.out.1, HO2.out.2.1, HO2.out.2.2⟩
      | true =>
        have HLO : Hid (rowC c = rowN (st ++ [x]) ∧ isB c = true ∧ 0 ≤ c ∧ (lackN (st ++ [x]) = 0 → c = bitsN (st ++ [x])) ∧ (oneN π c).take (st ++ [x]).length = st ++ [x]) := least_ok (by simp) HQ.out.2.2 ho (hc ho)
        have HOK : Hid (begN (st ++ [x]) = true) := ho
        clear hc ho
        go_wp2_with fail
        refine (size_any c w2).mono ?_
        rintro e w3 ⟨rfl, rfl⟩
        have hlo := HLO.out
        have ho := HOK.out
        rw [hlo.1]
        have hlk := lackN_nth (q := st ++ [x]) (by simp)
        rw [← rowN_nth (q := st ++ [x]) (by simp), HQ.out.1] at hlk
        have hle : K + 1 - F ≤ rowN (st ++ [x]) + 1 := by rw [← HQ.out.1]; exact (beg_iff.1 ho).2.1
        obtain ⟨nn, hnn⟩ : ∃ nn, rowN (st ++ [x]) + 1 = nn := ⟨_, rfl⟩
        rw [hnn] at hlk hle ⊢
        by_cases hwh : nn = K + 1 - F
        · have hst2 := step_last (π := π) ho (by omega)
          have hcn : c = bitsN (st ++ [x]) := hlo.2.2.2.1 (by omega)
          rw [← hcn] at hst2
          have HX5 : Hid (X = (scan (stepU π) [] ((bytesL str).drop (K + 1))).pre (t ++ [c]) (K + 1)) := by
            show _ = _
            rw [HXE.out, HDR.out, scan_some _ hst2, Res.pre_pre]
          have heq : ((nn : Int) == (K : Int) + 1 - F) = true := by simp; omega
          clear ho hlo hnn hwh hst2 hcn HXE hlk hle
          have HSA : Hid (∀ o, Seg .u32 (w3.alloc o) u5 t) := fun o => HO2.out.1.chg ((Chg.refl (fun _ _ => False) _).alloc o) (fun _ _ _ h => h)
          go_wp2_with (at_builtin; go_must (refine wpList_append_seg rfl _ _ 27 27 rfl .u32 43 4 Tryd.underlying27 info_u32 u5 t [c] rfl (HSA.out _) _ rfl (src_row (l := [c]) Tryd.underlying27 (by exact row_new .u32 w3 [c] _ _ rfl) rfl (fun h => by cases h)) (by unfold maxLen; simp; omega) (by simp; omega) ?_; intro vo w4 hs4 hc4 hm4))
          have HO4 : Hid (Seg .u32 w4 vo (t ++ [c]) ∧ (∀ g, vo.ownBlock = some g → w.heap.size ≤ g) ∧ Below w.heap.size w w4) := by
            have hz := HO2.out.2.2.size
            refine ⟨hs4, fun g hg => ?_, (HO2.out.2.2.alloc hz _).trans (hc4.below (by simp; omega) (fun k j hk hh => by have := HO2.out.2.1 k hh; omega))⟩
            rcases hm4 g hg with e | e
            · exact HO2.out.2.1 g e
            · simp at e; omega
          clear hs4 hc4 hm4 HO2 HSA
          go_roundw
          case rel => exact ⟨K + 1, K + 1, t ++ [c], by go_num, by go_num, Nat.le_refl _, by omega, by simpa using good_nil π, HO4.out.1, HO4.out.2.1, by simpa using HX5.out, HO4.out.2.2, by simp; omega⟩
          case measure => simp [intOf]; omega
        · have hst2 : stepU π st x = some (st ++ [x], []) := step_mid ho (by omega)
          have HX5 : Hid (X = (scan (stepU π) (st ++ [x]) ((bytesL str).drop (K + 1))).pre t (K + 1)) := by
            show _ = _
            rw [HXE.out, HDR.out, scan_some _ hst2, Res.pre_pre]; simp
          have hgd : Good π (st ++ [x]) := by
            rcases step_cases HGD.out (fun y hy => HQ.out.2.2 y (by simp [hy])) (HQ.out.2.2 x (by simp)) hst2 with ⟨_, h⟩ | ⟨c, h, _⟩
            · exact h
            · simp at h
          have HG2 : Hid (Good π (st ++ [x])) := hgd
          have heq : ((nn : Int) == (K : Int) + 1 - F) = false := by simp; omega
          clear ho hlo hnn hwh hst2 HXE hgd hlk hle
          go_wp2
          go_roundw
          case rel => exact ⟨F, K + 1, t, by go_num, by go_num, by omega, by omega, by rw [← HQ.out.2.1]; exact HG2.out, HO2.out.1, HO2.out.2.1, by rw [← HQ.out.2.1]; exact HX5.out, HO2.out.2.2, by omega⟩
          case measure => simp [intOf]; omega
    · have hKe : K = str.size := by omega
      have HX5 : Hid (X = ⟨t, K, ((bytesL str).drop F).take (K - F), false⟩) := by
        show _ = _
        rw [HXE.out, List.drop_of_length_le (show (bytesL str).length ≤ K by rw [HL.out]; omega)]; simp [scan, Res.pre]
      clear HXE
      have hse : X.st.length = K - F := by
        rw [HX5.out, List.length_take, List.length_drop, HL.out]; omega
      by_cases hFl : (F : Int) < (str.size : Int)
      · have HE : Hid (endQ X = 4 ∧ X.eaten = str.size) := by
          have hne : X.st ≠ [] := by intro e; rw [e] at hse; simp at hse; omega
          refine ⟨?_, by rw [HX5.out]; exact hKe⟩
          have hbd : X.bad = false := by rw [HX5.out]
          simp [endQ, hbd, hne, rest]
        clear hse
        go_wp2
        go_ret3
        exact ⟨u5, by rw [HE.out.1, HE.out.2]; rfl, by rw [HX5.out]; exact HO.out.1, HO.out.2.1, HO.out.2.2⟩
      · have HE : Hid (endQ X = 0 ∧ X.eaten = str.size) := by
          have hne : X.st = [] := List.length_eq_zero_iff.1 (by omega)
          refine ⟨?_, by rw [HX5.out]; exact hKe⟩
          have hbd : X.bad = false := by rw [HX5.out]
          simp [endQ, hbd, hne, rest]
        clear hse
        go_wp2
        go_ret3
        exact ⟨u5, by rw [HE.out.1, HE.out.2]; rfl, by rw [HX5.out]; exact HO.out.1, HO.out.2.1, HO.out.2.2⟩
end M8
end Go.Proofs.YtjbgcclbomimiaaDoor
