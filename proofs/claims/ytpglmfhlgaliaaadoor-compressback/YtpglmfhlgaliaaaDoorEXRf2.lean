/-
  The contract of the document's 'lay' of layer 14, as walks over the translated text. The condition: its memory is there and may be written; the text is small.
-/
import Derived.Test.YtpglmfhlgaliaaaDoorEXRf1
import Derived.BigRegion
namespace Go.Proofs.YtpglmfhlgaliaaaDoor
open Go.ChangeShapes Go.WideShapes Go.ChangeAt Go.RowKit
namespace EX
open Bas Sca Stp Scn Cod Win
set_option linter.unusedVariables false
set_option linter.unusedSimpArgs false

/-- A slice of eight numbers, opened. -/
theorem seg8 {k : IntKind} {w : World} {v : Value} {l : List Int} (h : Seg k w v l) (hl : l.length = 8) :
    ∃ g of c, v = .slice (some ⟨g, of, none⟩) 8 c ∧ ∀ i : Nat, i < 8 → w.cell? ⟨g, of + i, none⟩ = some (.int k (nth l i)) ∧ w.frozen? ⟨g, of + i, none⟩ = false := by
  rcases h with ⟨_, rfl⟩ | ⟨g, off, cap, hv, hg, h1, h2, h3, h4, h5⟩
  · simp at hl
  · rw [hl] at hv h3
    exact ⟨g, off, cap, hv, fun i hi => ⟨h3 i hi, h5 _⟩⟩
/-- A window that is laid by an index at place m. -/
structure LayI (str : ByteArray) (X : Res St) (s : St) (l : List Int) (m n : Nat) : Prop where
  c0 : str.size ≤ m → ∃ z : St, X = ⟨l, str.size, z, false⟩ ∧ Exp.rest z = false
  wr : m < str.size → offI (nth (bytesL str) m) < 0 → ∃ z : St, X = ⟨l, m, z, true⟩
  go : m < str.size → ¬ offI (nth (bytesL str) m) < 0 → X = (scan Exp.stepX (Exp.layE s n (offI (nth (bytesL str) m))) ((bytesL str).drop (m + 1))).pre l (m + 1)
/-- .. by two bytes from there on. -/
structure LayT (str : ByteArray) (X : Res St) (s : St) (l : List Int) (m : Nat) : Prop where
  c0 : str.size ≤ m + 1 → ∃ z : St, X = ⟨l, str.size, z, false⟩ ∧ Exp.rest z = false
  go : m + 1 < str.size → X = (scan Exp.stepX (Exp.layE s (extN (nth (bytesL str) m)).toNat (extO (nth (bytesL str) m) (nth (bytesL str) (m + 1)))) ((bytesL str).drop (m + 2))).pre l (m + 2)
/-- Behind the three stores. -/
theorem lay_fin {T B : Nat} {s : St} {l : List Int} {vo : Value} {a : Int} {g of c n : Nat} {o : Int} {w w1 : World} (h : RSV w T B s l vo (.slice (some ⟨g, of, none⟩) 8 c) 0 a) (hB : B ≤ w.heap.size) (hn : n < 8) (ho : Exp.offOK o) (hw1 : w1 = w.setCell ⟨g, of + n, none⟩ (.int .u32 o)) :
    RSV ((w1.setCell ⟨T, 2, none⟩ (.int .i64 (n : Int))).setCell ⟨T, 3, none⟩ (.bool false)) T B (Exp.layE s n o) l vo (.slice (some ⟨g, of, none⟩) 8 c) 0 a ∧ Below B w ((w1.setCell ⟨T, 2, none⟩ (.int .i64 (n : Int))).setCell ⟨T, 3, none⟩ (.bool false)) := by
  subst hw1
  have hg := h.good
  have hc := chg_setCell w g (of + n) (.int .u32 o)
  have h1 := h.wset (w' := w.setCell ⟨g, of + n, none⟩ (.int .u32 o)) (W' := s.wins.set n o) (hc.mono (fun k j _ h => by rw [h.1]; rfl)) (h.sw.set o (by rw [hg.len]; exact hn)) ⟨by rw [List.length_set]; exact hg.len, hg.act, hg.hi, Exp.set_ok hg.wins ho, trivial⟩
  obtain ⟨W, hW⟩ : ∃ W, w.setCell ⟨g, of + n, none⟩ (.int .u32 o) = W := ⟨_, rfl⟩
  rw [hW] at h1 hc ⊢
  have hc1 := chg_setCell W T 2 (.int .i64 (n : Int))
  have hc2 := chg_setCell (W.setCell ⟨T, 2, none⟩ (.int .i64 (n : Int))) T 3 (.bool false)
  have hcc : Chg (fun k j => k = T ∧ (j = 2 ∨ j = 3)) W ((W.setCell ⟨T, 2, none⟩ (.int .i64 (n : Int))).setCell ⟨T, 3, none⟩ (.bool false)) := hc1.trans2 hc2 (fun k j _ h => ⟨h.1, .inl h.2⟩) (fun k j _ h => ⟨h.1, .inr h.2⟩)
  refine ⟨h1.cells (s' := Exp.layE s n o) (hcc.mono (fun k j _ h => ⟨h.1, by omega, by omega⟩)) (hc2.cellAt (World.cell?_setCell_same _ _ _ h1.c2) (by omega)) (World.cell?_setCell_same _ _ _ (hc1.cellAt h1.c3 (by omega))) (hcc.cellAt h1.c4 (by omega)) (hcc.cellAt h1.c5 (by omega)) (hcc.cellAt h1.c6 (by omega)) (Exp.good_lay hg hn ho) rfl rfl,
    (hc.below hB (fun k j hk hh => by have := h.lw g rfl; omega)).trans (hcc.below (Nat.le_trans hB hc.size) (fun k j hk hh => by have := h.low; omega))⟩
set_option maxHeartbeats 4000000 in
set_option maxRecDepth 100000 in
theorem rLayI_any (T B : Nat) (str : ByteArray) (X : Res St) (m n : Nat) (s : St) (l : List Int) (vo vw : Value) (a : Int) (w : World) (h : RSV w T B s l vo vw 0 a) (hL : LayI str X s l m n) (hn : n < 8) (hB : B ≤ w.heap.size) (hsz : str.size ≤ 200000) (hm : m ≤ str.size) (hl : l.length ≤ m) :
    Calls Tryd.prog 47 #[.pointer (some ⟨T, 0, none⟩), .string str, .int .i64 (m : Int), .int .i64 (n : Int)] w fun e w' => ∃ n', e = .returned (.int .i64 n') ∧ RQ T B str X m w n' w' := by
  have H : Hid (RSV w T B s l vo vw 0 a) := h
  have HB : Hid (B ≤ w.heap.size) := hB
  by_cases h0 : str.size ≤ m
  · have h0' : (m : Int) ≥ (str.size : Int) := by omega
    have HX : Hid _ := hL.c0 h0
    clear h hL hB
    go_enter Tryd.func47, Tryd.ntmps47
    go_wp2_with fail
    refine (cut_any T B str X m s l vo vw a w H.out HB.out (by omega) HX.out).mono ?_
    rintro e w2 ⟨n', rfl, hq⟩
    have HQ : Hid (RQ T B str X m w n' w2) := hq
    clear hq
    go_wp2
    go_ret
    exact ⟨n', rfl, HQ.out⟩
  · have hlt : m < str.size := by omega
    have h0' : ¬ (m : Int) ≥ (str.size : Int) := by omega
    have hx := bytesL_byte str _ (nth_mem (l := bytesL str) (i := m) (by rw [bytesL_length]; exact hlt))
    have hsn := str_nth str m hlt
    obtain ⟨x, hxx⟩ : ∃ x, nth (bytesL str) m = x := ⟨_, rfl⟩
    have HWR : Hid (offI x < 0 → ∃ z : St, X = ⟨l, m, z, true⟩) := fun e => hL.wr hlt (by rw [hxx]; exact e)
    have HGO : Hid (¬ offI x < 0 → X = (scan Exp.stepX (Exp.layE s n (offI x)) ((bytesL str).drop (m + 1))).pre l (m + 1)) := fun e => by
      have := hL.go hlt (by rw [hxx]; exact e)
      rwa [hxx] at this
    rw [hxx] at hx hsn
    obtain ⟨x0, x1⟩ := hx
    have hn0 : ¬ (n : Int) < 0 := by omega
    have hn8 : (n : Int) < 8 := by omega
    clear h hL hB hxx
    by_cases ho : offI x < 0
    · have HX : Hid _ := HWR.out ho
      have hof := off_not (show offI x = -1 from by have := off_cases x; omega)
      have HOF : Hid (∀ w : World, Calls Tryd.prog 55 #[.int .i64 x] w fun e w' => e = .returned (.tuple #[.int .u32 0, .bool false]) ∧ Below w.heap.size w w') := fun w => by
        have := rOffset_any x w
        rwa [hof.1, hof.2] at this
      clear ho hof HGO
      go_enter Tryd.func47, Tryd.ntmps47
      go_wp2_with fail
      refine (HOF.out w).mono ?_
      rintro e w1 ⟨rfl, b1⟩
      have H1 : Hid (RSV w1 T B s l vo vw 0 a ∧ Below B w w1 ∧ B ≤ w1.heap.size) := ⟨H.out.below b1, b1.mono HB.out, Nat.le_trans HB.out b1.size⟩
      clear b1
      go_wp2_with fail
      refine (wrong_any T B str X m m s l vo vw a w1 H1.out.1 H1.out.2.2 (by omega) HX.out).mono ?_
      rintro e w2 ⟨n', rfl, s', l', vo', vw', e', a', q1, q2, q3⟩
      have HQ : Hid (RQ T B str X m w n' w2) := ⟨s', l', vo', vw', e', a', q1, H1.out.2.1.trans q2, q3⟩
      clear q1 q2 q3
      go_wp2
      go_ret
      exact ⟨n', rfl, HQ.out⟩
    · have HX : Hid _ := HGO.out ho
      have HOK : Hid (Exp.offOK (offI x)) := Exp.off_ok ho
      have hof := off_yes rfl (show 0 ≤ offI x by omega)
      have HOF : Hid (∀ w : World, Calls Tryd.prog 55 #[.int .i64 x] w fun e w' => e = .returned (.tuple #[.int .u32 (offI x), .bool true]) ∧ Below w.heap.size w w') := fun w => by
        have := rOffset_any x w
        rwa [hof.1, hof.2] at this
      obtain ⟨O, hO⟩ : ∃ O, offI x = O := ⟨_, rfl⟩
      rw [hO] at HX HOK HOF
      clear ho hof HGO HWR hO
      go_enter Tryd.func47, Tryd.ntmps47
      go_wp2_with fail
      refine (HOF.out w).mono ?_
      rintro e w1 ⟨rfl, b1⟩
      have R1 := H.out.below b1
      obtain ⟨g, of, c, hv, hcs⟩ := seg8 R1.sw R1.good.len
      subst hv
      have H1 : Hid (RSV w1 T B s l vo (.slice (some ⟨g, of, none⟩) 8 c) 0 a ∧ Below B w w1 ∧ B ≤ w1.heap.size) := ⟨R1, b1.mono HB.out, Nat.le_trans HB.out b1.size⟩
      obtain ⟨hcn, hfn⟩ := hcs n hn
      have h1 := R1.c1
      have h2 := R1.c2
      have h3 := R1.c3
      have f2 := R1.fr 2
      have f3 := R1.fr 3
      have hgT : g ≠ T := fun e => R1.nw (by rw [e]; rfl)
      have hTg : T ≠ g := fun e => hgT e.symm
      clear b1 R1 hcs
      go_wp2
      go_ret
      obtain ⟨R2, B2⟩ := lay_fin H1.out.1 H1.out.2.2 hn HOK.out rfl
      exact ⟨_, rfl, _, l, vo, _, 0, a, R2, H1.out.2.1.trans B2, by omega, .inl ⟨rfl, m + 1, by rfl, by omega, by omega, by omega, HX.out⟩⟩
set_option maxHeartbeats 4000000 in
set_option maxRecDepth 100000 in
theorem rLayT_any (T B : Nat) (str : ByteArray) (X : Res St) (m : Nat) (s : St) (l : List Int) (vo vw : Value) (a : Int) (w : World) (h : RSV w T B s l vo vw 0 a) (hL : LayT str X s l m) (hB : B ≤ w.heap.size) (hsz : str.size ≤ 200000) (hm : m ≤ str.size) (hl : l.length ≤ m) :
    Calls Tryd.prog 47 #[.pointer (some ⟨T, 0, none⟩), .string str, .int .i64 (m : Int), .int .i64 (-1)] w fun e w' => ∃ n', e = .returned (.int .i64 n') ∧ RQ T B str X m w n' w' := by
  have H : Hid (RSV w T B s l vo vw 0 a) := h
  have HB : Hid (B ≤ w.heap.size) := hB
  have hw1 : IntKind.i64.wrap ((m : Int) + 1) = (m : Int) + 1 := wrap_i64w _ (by omega) (by omega)
  by_cases h1 : str.size ≤ m + 1
  · have HX : Hid _ := hL.c0 h1
    by_cases h0 : str.size ≤ m
    · have h0' : (m : Int) ≥ (str.size : Int) := by omega
      clear h hL hB
      go_enter Tryd.func47, Tryd.ntmps47
      go_wp2_with fail
      refine (cut_any T B str X m s l vo vw a w H.out HB.out (by omega) HX.out).mono ?_
      rintro e w2 ⟨n', rfl, hq⟩
      have HQ : Hid (RQ T B str X m w n' w2) := hq
      clear hq
      go_wp2
      go_ret
      exact ⟨n', rfl, HQ.out⟩
    · have h0' : ¬ (m : Int) ≥ (str.size : Int) := by omega
      have h1' : (m : Int) + 1 ≥ (str.size : Int) := by omega
      clear h hL hB
      go_enter Tryd.func47, Tryd.ntmps47
      go_wp2_with fail
      refine (cut_any T B str X m s l vo vw a w H.out HB.out (by omega) HX.out).mono ?_
      rintro e w2 ⟨n', rfl, hq⟩
      have HQ : Hid (RQ T B str X m w n' w2) := hq
      clear hq
      go_wp2
      go_ret
      exact ⟨n', rfl, HQ.out⟩
  · have hlt : m < str.size := by omega
    have hlt1 : m + 1 < str.size := by omega
    have h0' : ¬ (m : Int) ≥ (str.size : Int) := by omega
    have h1' : ¬ (m : Int) + 1 ≥ (str.size : Int) := by omega
    have hlti : (m : Int) + 1 < (str.size : Int) := by omega
    have hx := bytesL_byte str _ (nth_mem (l := bytesL str) (i := m) (by rw [bytesL_length]; exact hlt))
    have hy := bytesL_byte str _ (nth_mem (l := bytesL str) (i := m + 1) (by rw [bytesL_length]; exact hlt1))
    have hsn := str_nth str m hlt
    have hsn1 := str_nth str (m + 1) hlt1
    have HG := hL.go hlt1
    obtain ⟨x, hxx⟩ : ∃ x, nth (bytesL str) m = x := ⟨_, rfl⟩
    obtain ⟨y, hyy⟩ : ∃ y, nth (bytesL str) (m + 1) = y := ⟨_, rfl⟩
    rw [hxx] at hx hsn HG
    rw [hyy] at hy hsn1 HG
    obtain ⟨x0, x1⟩ := hx
    obtain ⟨y0, y1⟩ := hy
    have hr := ext_rng x0 x1 y0 y1
    obtain ⟨n, hn⟩ := Int.eq_ofNat_of_zero_le (show 0 ≤ extN x by omega)
    have hn8 : n < 8 := by omega
    have hn8i : (n : Int) < 8 := by omega
    have hnx : x / 32 = (n : Int) := by rw [← hn]; rfl
    have HOK : Hid (Exp.offOK (extO x y)) := Exp.ext_ok x0 x1 y0 y1
    rw [show (extN x).toNat = n from by rw [hn]; rfl] at HG
    have HX : Hid (X = (scan Exp.stepX (Exp.layE s n (extO x y)) ((bytesL str).drop (m + 2))).pre l (m + 2)) := HG
    have hext : extO x y = 65536 + 128 * (x % 32 * 256 + y) := rfl
    obtain ⟨g, of, c, hv, hcs⟩ := seg8 h.sw h.good.len
    subst hv
    obtain ⟨hcn, hfn⟩ := hcs n hn8
    have h1 := h.c1
    have h2 := h.c2
    have h3 := h.c3
    have f2 := h.fr 2
    have f3 := h.fr 3
    have hgT : g ≠ T := fun e => h.nw (by rw [e]; rfl)
    have hTg : T ≠ g := fun e => hgT e.symm
    have hxq : x.tdiv 32 = (n : Int) := by rw [← hnx]; exact Int.tdiv_eq_ediv_of_nonneg x0
    have hxr : x.tmod 32 = x % 32 := Int.tmod_eq_emod_of_nonneg x0
    clear h hL hB hxx hyy HG hcs hr hn
    go_enter Tryd.func47, Tryd.ntmps47
    go_upto_region 7 with fail
    go_region
    rw [← hext]
    have HD : Hid (RSV w.drew T B s l vo (.slice (some ⟨g, of, none⟩) 8 c) 0 a ∧ Below B w w.drew ∧ B ≤ w.drew.heap.size) := ⟨H.out.below (Below.refl _ _).drew, (Below.refl _ _).drew, HB.out⟩
    obtain ⟨W1, hW1⟩ : ∃ W1, (w.setCell ⟨g, of + n, none⟩ (.int .u32 (extO x y))).drew = W1 := ⟨_, rfl⟩
    have hW2 : W1 = w.drew.setCell ⟨g, of + n, none⟩ (.int .u32 (extO x y)) := by rw [← hW1]; rfl
    have hch := chg_setCell w.drew g (of + n) (.int .u32 (extO x y))
    rw [← hW2] at hch
    have h2 : W1.cell? ⟨T, 2, none⟩ = some (.int .i64 s.act) := hch.cellAt HD.out.1.c2 (fun e => hTg e.1)
    have h3 : W1.cell? ⟨T, 3, none⟩ = some (.bool s.uni) := hch.cellAt HD.out.1.c3 (fun e => hTg e.1)
    have f2 : W1.frozen? ⟨T, 2, none⟩ = false := hch.freeAt HD.out.1.c2 (HD.out.1.fr 2)
    have f3 : W1.frozen? ⟨T, 3, none⟩ = false := hch.freeAt HD.out.1.c3 (HD.out.1.fr 3)
    have HW2 : Hid (W1 = w.drew.setCell ⟨g, of + n, none⟩ (.int .u32 (extO x y))) := hW2
    rw [hW1]
    clear hcn hfn h1 hch hW2 hW1 hext hxq hxr hnx hsn hsn1
    go_wp2
    go_ret
    obtain ⟨R2, B2⟩ := lay_fin HD.out.1 HD.out.2.2 hn8 HOK.out HW2.out
    exact ⟨_, rfl, _, l, vo, _, 0, a, R2, HD.out.2.1.trans B2, by omega, .inl ⟨rfl, m + 2, by first | rfl | (push_cast; omega), by omega, by omega, by omega, HX.out⟩⟩
end EX
end Go.Proofs.YtpglmfhlgaliaaaDoor
