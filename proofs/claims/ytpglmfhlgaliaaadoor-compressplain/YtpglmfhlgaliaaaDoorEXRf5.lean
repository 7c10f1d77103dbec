/-
  The contract of the document's 'part' of layer 14 in the single mode, as walks over the translated text. The condition: its memory is there and may be written; the text is small.
-/
import Derived.Test.YtpglmfhlgaliaaaDoorEXRf4
namespace Go.Proofs.YtpglmfhlgaliaaaDoor
open Go.ChangeShapes Go.WideShapes Go.ChangeAt Go.RowKit
namespace EX
open Bas Sca Stp Scn Cod Win
set_option linter.unusedVariables false
set_option linter.unusedSimpArgs false

/-- What a part of the single mode is walked with. -/
theorem PartH.cut {w : World} {T B : Nat} {str : ByteArray} {X : Res St} {m : Nat} {s : St} {l : List Int} {vo vw : Value} {a b : Int} (h : PartH w T B str X m s l vo vw a b) (hX : ∃ z : St, X = ⟨l, str.size, z, false⟩ ∧ Exp.rest z = false) : Calls Tryd.prog 39 #[.pointer (some ⟨T, 0, none⟩), .string str] w fun e w' => ∃ n', e = .returned (.int .i64 n') ∧ RQ T B str X m w n' w' :=
  cut_any T B str X m s l vo vw a w h.r h.hB (by have := h.ll; have := h.lt; omega) hX
theorem k1_of {b : Int} (h : ¬ b = 14) : Exp.kindP false b ≠ 1 ∧ Exp.kindP false b ≠ 2 := by
  unfold Exp.kindP; rw [if_neg (by simp)]
  repeat' split
  all_goals omega
theorem k3_of {b : Int} (h1 : 1 ≤ b) (h2 : b ≤ 8) : Exp.kindP false b = 3 := by
  unfold Exp.kindP; rw [if_neg (by simp)]; simp (disch := omega) only [if_neg, if_pos]
theorem k9_of {b : Int} (h : ¬ b = 14) (h1 : ¬ b = 12) (h2 : ¬ (1 ≤ b ∧ b ≤ 8)) (h3 : ¬ b = 11) (h4 : ¬ (24 ≤ b ∧ b ≤ 31)) (h5 : ¬ (16 ≤ b ∧ b ≤ 23)) (h6 : ¬ b = 15) (h7 : ¬ 128 ≤ b) : Exp.kindP false b = 9 := by
  unfold Exp.kindP; rw [if_neg (by simp)]; simp (disch := omega) only [if_neg]
set_option maxHeartbeats 8000000 in
set_option maxRecDepth 100000 in
theorem partS_any (T B : Nat) (str : ByteArray) (X : Res St) (m : Nat) (s : St) (l : List Int) (vo vw : Value) (a b : Int) (w : World) (h : PartH w T B str X m s l vo vw a b) (hu : s.uni = false) :
    Calls Tryd.prog 38 #[.pointer (some ⟨T, 0, none⟩), .string str, .int .i64 (m : Int)] w fun e w' => ∃ n', e = .returned (.int .i64 n') ∧ RQ T B str X m w n' w' := by
  have H : Hid (PartH w T B str X m s l vo vw a b) := h
  have hw1 : IntKind.i64.wrap ((m : Int) + 1) = (m : Int) + 1 := wrap_i64w _ (by omega) (by have := h.lt; have := h.sz; omega)
  have hsz := h.sz
  have hlt := h.lt
  have hll := h.ll
  have hsn := str_nth str m hlt
  rw [h.bt] at hsn
  have h3 := h.r.c3
  rw [hu] at h3
  have h4 := h.r.c4
  have b0 := h.b0
  have b1 := h.b1
  have HK : Hid (∀ k, Exp.kindP false b = k → Exp.kindP s.uni b = k) := fun k e => by rw [hu]; exact e
  have HNP : Hid (∀ k, Exp.numP false b = k → Exp.numP s.uni b = k) := fun k e => by rw [hu]; exact e
  obtain ⟨hi, hhh⟩ : ∃ hi, s.hi = hi := ⟨_, rfl⟩
  have HHH : Hid (s.hi = hi) := hhh
  rw [hhh] at h4
  have hh0 : 0 ≤ hi := by have := h.r.good.hi; omega
  have HUN : Hid (s.uni = false) := hu
  clear h hu hhh
  by_cases c1 : b = 14
  · subst c1
    have HC := hidP (H.out.unit1 (HK.out 1 rfl))
    go_enter Tryd.func38, Tryd.ntmps38
    go_wp2_with fail
    refine HC.out.mono ?_
    rintro e w2 ⟨n', rfl, hq⟩
    have HQ : Hid (RQ T B str X m w n' w2) := hq
    clear hq
    go_wp2
    go_ret
    exact ⟨n', rfl, HQ.out⟩
  have d1 : (b == 14) = false := by simp [c1]
  by_cases c2 : hi > 0
  · have hk1 := k1_of c1
    have HC := hidP (H.out.wrong (.inr ⟨by rw [HK.out _ rfl]; exact hk1.1, by rw [HK.out _ rfl]; exact hk1.2, by rw [HHH.out]; exact c2⟩))
    clear hk1
    go_enter Tryd.func38, Tryd.ntmps38
    go_wp2_with fail
    refine HC.out.mono ?_
    rintro e w2 ⟨n', rfl, hq⟩
    have HQ : Hid (RQ T B str X m w n' w2) := hq
    clear hq
    go_wp2
    go_ret
    exact ⟨n', rfl, HQ.out⟩
  have HP : Hid (¬ 0 < s.hi) := by show ¬ 0 < s.hi; rw [HHH.out]; omega
  by_cases c3 : b = 12
  · subst c3
    have HC := hidP (H.out.wrong (.inl (HK.out 0 rfl)))
    go_enter Tryd.func38, Tryd.ntmps38
    go_wp2_with fail
    refine HC.out.mono ?_
    rintro e w2 ⟨n', rfl, hq⟩
    have HQ : Hid (RQ T B str X m w n' w2) := hq
    clear hq
    go_wp2
    go_ret
    exact ⟨n', rfl, HQ.out⟩
  have d3 : (b == 12) = false := by simp [c3]
  by_cases c4 : 1 ≤ b ∧ b ≤ 8
  · obtain ⟨c4a, c4b⟩ := c4
    have hq := part_quoted H.out.xe H.out.r.nb H.out.lt H.out.bt (HK.out 3 (k3_of c4a c4b)) HP.out
    by_cases h1 : str.size ≤ m + 1
    · have HC := hidP (H.out.cut (hq.1 h1))
      have h1' : (m : Int) + 1 ≥ (str.size : Int) := by omega
      clear hq
      go_enter Tryd.func38, Tryd.ntmps38
      go_wp2_with fail
      refine HC.out.mono ?_
      rintro e w2 ⟨n', rfl, hq⟩
      have HQ : Hid (RQ T B str X m w n' w2) := hq
      clear hq
      go_wp2
      go_ret
      exact ⟨n', rfl, HQ.out⟩
    · have h1' : ¬ (m : Int) + 1 ≥ (str.size : Int) := by omega
      have hlt1 : m + 1 < str.size := by omega
      have hlti : (m : Int) + 1 < (str.size : Int) := by omega
      have hy := bytesL_byte str _ (nth_mem (l := bytesL str) (i := m + 1) (by rw [bytesL_length]; exact hlt1))
      have hsn1 := str_nth str (m + 1) hlt1
      have hX := hq.2 _ hlt1 rfl
      obtain ⟨y, hyy⟩ : ∃ y, nth (bytesL str) (m + 1) = y := ⟨_, rfl⟩
      rw [hyy] at hy hsn1 hX
      obtain ⟨y0, y1⟩ := hy
      obtain ⟨n, hn⟩ := Int.eq_ofNat_of_zero_le (show 0 ≤ b - 1 by omega)
      have hn8 : n < 8 := by omega
      have hn8i : (n : Int) < 8 := by omega
      rw [show (b - 1).toNat = n from by omega] at hX
      have hwn : IntKind.i64.wrap (n : Int) = (n : Int) := wrap_i64w _ (by omega) (by omega)
      clear hq hyy
      by_cases hy8 : y < 128
      · rw [if_pos hy8] at hX
        have HX : Hid _ := hX
        have hst := Exp.stat_ok n hn8
        clear hX
        have hc0 := H.out.r.c0
        have f0 := H.out.r.fr 0
        obtain ⟨S, hS⟩ : ∃ S, nth statL n = S := ⟨_, rfl⟩
        rw [hS] at HX hst
        have HSN : Hid (nth statL n = S ∧ n < 8) := ⟨hS, hn8⟩
        obtain ⟨N0, hN0⟩ : ∃ N0, w.heap.size = N0 := ⟨_, rfl⟩
        have HN0 : Hid (w.heap.size = N0) := hN0
        obtain ⟨C, hC⟩ : ∃ C, IntKind.u32.wrap (S + y) = C := ⟨_, rfl⟩
        have hCC : C = S + y := by rw [← hC, IntKind.wrap_u32]; omega
        rw [← hCC] at HX
        have HST : Hid (∀ w : World, Calls Tryd.prog 48 #[] w fun e w' => e = .returned (.slice (some ⟨w.heap.size, 0, none⟩) 8 8) ∧ w'.cell? ⟨w.heap.size, n, none⟩ = some (.int .u32 S) ∧ Below w.heap.size w w' ∧ w'.heap.size = w.heap.size + 1) := fun w =>
          (rStatics_any w).mono fun e w' ⟨q1, q2, q3, q4⟩ => ⟨q1, by
            obtain ⟨g, o, ha, hc, -⟩ := q2.at (j := n) (by show n < 8; exact HSN.out.2)
            simp only [Option.some.injEq, Addr.mk.injEq] at ha
            obtain ⟨rfl, rfl, -⟩ := ha
            rw [Nat.zero_add, HSN.out.1] at hc
            exact hc, q3, q4⟩
        clear hCC hS hN0
        go_enter Tryd.func38, Tryd.ntmps38
        go_upto_region 25 with fail
        go_region_law (first
          | (refine step_append_seg (by rfl) _ _ 22 22 (by rfl) .u32 35 4 Tryd.underlying22 Stp.info_u32 vo l [C] (by rfl) (HS2.out _) _ (by rfl) (src_row (l := [C]) Tryd.underlying22 (by exact row_new .u32 _ [C] _ _ (by simp)) rfl (fun h => by cases h)) (by unfold maxLen; simp; omega) (by simp; omega) ?_; intro vo2 w4 hs4 hc4 hm4; have hc1 := hc4.cellAt (k := T) (o := 0) (HC2.out _).1 H.out.r.no; have hf1 := hc4.freeAt (k := T) (o := 0) (HC2.out _).1 (HC2.out _).2; obtain ⟨a1, e1, hv1, -⟩ := hs4.form; obtain ⟨ln, hln⟩ : ∃ ln, (l ++ [C]).length = ln := ⟨_, rfl⟩; rw [hln] at hv1; subst hv1)
          | (go_simp; refine (HST.out _).mono ?_; rintro e w2 ⟨rfl, hcS, hbS, -⟩; have hcS : w2.cell? ⟨w.heap.size, n, none⟩ = some (.int .u32 S) := hcS; have HR2 : Hid (RSV w2 T B s l vo vw 0 a ∧ Below w.heap.size w w2) := ⟨H.out.r.below (((Below.refl _ _).drew).trans hbS), ((Below.refl _ _).drew).trans hbS⟩; have HS2 : Hid (∀ o, Seg .u32 (w2.alloc o) vo l) := fun o => (HR2.out.1.below ((Below.refl _ _).alloc (Nat.le_refl _) _)).so; have HC2 : Hid (∀ o, (w2.alloc o).cell? ⟨T, 0, none⟩ = some vo ∧ (w2.alloc o).frozen? ⟨T, 0, none⟩ = false) := fun o => ⟨(HR2.out.1.below ((Below.refl _ _).alloc (Nat.le_refl _) _)).c0, (HR2.out.1.below ((Below.refl _ _).alloc (Nat.le_refl _) _)).fr 0⟩; have hc02 := HR2.out.1.c0; have hcA2 : (w2.alloc (.cells #[.int .u32 C] 35)).cell? ⟨T, 0, none⟩ = some vo := (HC2.out _).1; clear hbS))
        all_goals
          generalize hvo : Value.slice a1 ln e1 = vo3 at *
          obtain ⟨R5, B5⟩ := H.out.r.app H.out.hB (HR2.out.2.trans (((Below.refl _ _).alloc (Nat.le_refl _) _).mono HR2.out.2.size)) hs4 hc4 hm4
          have HR5 : Hid (RSV (w4.setCell ⟨T, 0, none⟩ vo3) T B s (l ++ [C]) vo3 vw 0 a ∧ Below B w (w4.setCell ⟨T, 0, none⟩ vo3)) := ⟨R5, B5⟩
          generalize w4.setCell ⟨T, 0, none⟩ vo3 = w5 at *
          clear hs4 hc4 hm4 hc1 hf1 R5 B5 hln hvo hc0 hc02 hcA2 hcS HR2 HS2 HC2
          go_wp2
          go_ret
          exact ⟨_, rfl, rq_one (k := m + 2) H.out HR5.out.1 HR5.out.2 (by first | rfl | (push_cast; omega)) (by omega) (by omega) (by simp) HX.out⟩
      · rw [if_neg hy8] at hX
        have HX : Hid _ := hX
        clear hX
        obtain ⟨g, of, c, hv, hcs⟩ := seg8 H.out.r.sw H.out.r.good.len
        subst hv
        have hcw := H.out.r.c1
        have hc0 := H.out.r.c0
        have HAP : Hid (AppH w T l vo) := H.out.r.appH
        have hok := Exp.win_ok H.out.r.good hn8
        have hcn := (hcs n hn8).1
        obtain ⟨A, hA⟩ : ∃ A, nth s.wins n = A := ⟨_, rfl⟩
        rw [hA] at hcn hok HX
        unfold Exp.offOK at hok
        obtain ⟨C, hC⟩ : ∃ C, IntKind.u32.wrap (IntKind.u32.wrap (A + y) - 128) = C := ⟨_, rfl⟩
        have hCC : C = A + y - 128 := by rw [← hC, IntKind.wrap_u32, IntKind.wrap_u32]; omega
        rw [← hCC] at HX
        have hcA : (w.alloc (.cells #[.int .u32 C] 35)).cell? ⟨T, 0, none⟩ = some vo := (H.out.r.below ((Below.refl _ _).alloc (Nat.le_refl _) _)).c0
        clear hok hCC hA hcs
        go_enter Tryd.func38, Tryd.ntmps38
        go_upto_region 26 with fail
        go_region_law ((refine step_append_seg (by rfl) _ _ 22 22 (by rfl) .u32 35 4 Tryd.underlying22 Stp.info_u32 vo l [C] (by rfl) (HAP.out.s _) _ (by rfl) (src_row (l := [C]) Tryd.underlying22 (by exact row_new .u32 _ [C] _ _ (by simp)) rfl (fun h => by cases h)) (by unfold maxLen; simp; omega) (by simp; omega) ?_; intro vo2 w4 hs4 hc4 hm4; have hc1 := hc4.cellAt (k := T) (o := 0) (HAP.out.c _) HAP.out.n; have hf1 := hc4.freeAt (k := T) (o := 0) (HAP.out.c _) (HAP.out.f _); obtain ⟨a1, e1, hv1, -⟩ := hs4.form; obtain ⟨ln, hln⟩ : ∃ ln, (l ++ [C]).length = ln := ⟨_, rfl⟩; rw [hln] at hv1; subst hv1))
        all_goals
          generalize hvo : Value.slice a1 ln e1 = vo3 at *
          obtain ⟨R5, B5⟩ := H.out.r.app H.out.hB (low_alloc w _) hs4 hc4 hm4
          have HR5 : Hid (RSV (w4.setCell ⟨T, 0, none⟩ vo3) T B s (l ++ [C]) vo3 (.slice (some ⟨g, of, none⟩) 8 c) 0 a ∧ Below B w (w4.setCell ⟨T, 0, none⟩ vo3)) := ⟨R5, B5⟩
          generalize w4.setCell ⟨T, 0, none⟩ vo3 = w5 at *
          clear hs4 hc4 hm4 hc1 hf1 R5 B5 hln hvo hc0 hcA
          go_wp2
          go_ret
          exact ⟨_, rfl, rq_one (k := m + 2) H.out HR5.out.1 HR5.out.2 (by first | rfl | (push_cast; omega)) (by omega) (by omega) (by simp) HX.out⟩
  by_cases c5 : b = 11
  · subst c5
    have HC := hidP (H.out.ext (HK.out 4 rfl) HP.out)
    clear c4
    go_enter Tryd.func38, Tryd.ntmps38
    go_wp2_with fail
    refine HC.out.mono ?_
    rintro e w2 ⟨n', rfl, hq⟩
    have HQ : Hid (RQ T B str X m w n' w2) := hq
    clear hq
    go_wp2
    go_ret
    exact ⟨n', rfl, HQ.out⟩
  have d5 : (b == 11) = false := by simp [c5]
  have hcz : b < 1 ∨ (1 ≤ b ∧ ¬ b ≤ 8) := by omega
  by_cases c6 : 24 ≤ b ∧ b ≤ 31
  · obtain ⟨c6a, c6b⟩ := c6
    obtain ⟨n, hn⟩ := Int.eq_ofNat_of_zero_le (show 0 ≤ b - 24 by omega)
    have hwb : IntKind.i64.wrap (b - 24) = (n : Int) := by rw [hn]; exact wrap_i64w _ (by omega) (by omega)
    have HC := hidP (H.out.lay (y := (n : Int)) (n := n) (HK.out 5 (kf_lay c6a (by omega))) HP.out rfl (HNP.out _ (by unfold Exp.numP; rw [if_neg (by simp), if_pos c6a]; omega)))
    have c4' : ¬ b ≤ 8 := by omega
    clear c4 hcz
    go_enter Tryd.func38, Tryd.ntmps38
    go_wp2_with fail
    refine HC.out.mono ?_
    rintro e w2 ⟨n', rfl, hq⟩
    have HQ : Hid (RQ T B str X m w n' w2) := hq
    clear hq
    go_wp2
    go_ret
    exact ⟨n', rfl, HQ.out⟩
  by_cases c7 : 16 ≤ b ∧ b ≤ 23
  · obtain ⟨c7a, c7b⟩ := c7
    obtain ⟨n, hn⟩ := Int.eq_ofNat_of_zero_le (show 0 ≤ b - 16 by omega)
    have HX : Hid _ := part_chg H.out.xe H.out.r.nb H.out.lt H.out.bt (HK.out 6 (kf_chg c7a (by omega))) HP.out (HNP.out n (by unfold Exp.numP; rw [if_neg (by simp), if_neg (by omega)]; omega))
    have h2 := H.out.r.c2
    have f2 := H.out.r.fr 2
    have HN8 : Hid (n < 8) := by show n < 8; omega
    have hw2 : IntKind.i64.wrap (b - 16) = (n : Int) := by rw [hn]; exact wrap_i64w _ (by omega) (by omega)
    have c4' : ¬ b ≤ 8 := by omega
    have c6' : ¬ 24 ≤ b := by omega
    clear c4 hcz c6
    go_enter Tryd.func38, Tryd.ntmps38
    go_wp2
    go_ret
    have h := H.out.r
    have hc := chg_setCell w T 2 (.int .i64 (n : Int))
    exact ⟨_, rfl, rq_one (k := m + 1) H.out (h.cells (s' := ⟨false, n, s.wins, s.hi, []⟩) (hc.mono (fun k j _ h => ⟨h.1, by omega, by omega⟩)) (World.cell?_setCell_same _ _ _ h.c2) (by have := hc.cellAt h.c3 (by omega); rw [HUN.out] at this; exact this) (hc.cellAt h.c4 (by omega)) (hc.cellAt h.c5 (by omega)) (hc.cellAt h.c6 (by omega)) (good_of h.good h.good.len HN8.out h.good.wins h.good.hi) rfl rfl)
      (hc.below H.out.hB (fun k j hk hh => by have := h.low; omega)) rfl (by omega) hlt (by omega) HX.out⟩
  by_cases c8 : b = 15
  · subst c8
    have HX : Hid _ := part_wide H.out.xe H.out.r.nb H.out.lt H.out.bt (HK.out 7 rfl) HP.out
    have f3 := H.out.r.fr 3
    clear c4 hcz c6 c7
    go_enter Tryd.func38, Tryd.ntmps38
    go_wp2
    go_ret
    have h := H.out.r
    have hc := chg_setCell w T 3 (.bool true)
    exact ⟨_, rfl, rq_one (k := m + 1) H.out (h.cells (s' := ⟨true, s.act, s.wins, s.hi, []⟩) (hc.mono (fun k j _ h => ⟨h.1, by omega, by omega⟩)) (hc.cellAt h.c2 (by omega)) (World.cell?_setCell_same _ _ _ h.c3) (hc.cellAt h.c4 (by omega)) (hc.cellAt h.c5 (by omega)) (hc.cellAt h.c6 (by omega)) (good_of h.good h.good.len h.good.act h.good.wins h.good.hi) rfl rfl)
      (hc.below H.out.hB (fun k j hk hh => by have := h.low; omega)) rfl (by omega) hlt (by omega) HX.out⟩
  have d8 : (b == 15) = false := by simp [c8]
  by_cases c9 : b ≥ 128
  · have HX : Hid _ := part_shown H.out.xe H.out.r.nb H.out.lt H.out.bt (HK.out 8 (kf_up c9)) HP.out
    have c4' : ¬ b ≤ 8 := by omega
    have c6' : ¬ b ≤ 31 := by omega
    have c7' : ¬ b ≤ 23 := by omega
    have e4 : 1 ≤ b := by omega
    have e6 : 24 ≤ b := by omega
    have e7 : 16 ≤ b := by omega
    obtain ⟨g, of, c, hv, hcs⟩ := seg8 H.out.r.sw H.out.r.good.len
    subst hv
    have hcw := H.out.r.c1
    have hc0 := H.out.r.c0
    have HAP : Hid (AppH w T l vo) := H.out.r.appH
    have hact := H.out.r.good.act
    have hok := Exp.win_ok H.out.r.good hact
    have hca := H.out.r.c2
    have hcn := (hcs s.act hact).1
    obtain ⟨A, hA⟩ : ∃ A, nth s.wins s.act = A := ⟨_, rfl⟩
    rw [hA] at hcn hok HX
    obtain ⟨act, hac⟩ : ∃ act, s.act = act := ⟨_, rfl⟩
    rw [hac] at hcn hca hact
    have hacti : (act : Int) < 8 := by omega
    unfold Exp.offOK at hok
    obtain ⟨C, hC⟩ : ∃ C, IntKind.u32.wrap (IntKind.u32.wrap (A + IntKind.u32.wrap b) - 128) = C := ⟨_, rfl⟩
    have hCC : C = A + b - 128 := by
      rw [← hC, show IntKind.u32.wrap b = b from by rw [IntKind.wrap_u32]; omega, IntKind.wrap_u32, IntKind.wrap_u32]; omega
    rw [← hCC] at HX
    have hcA : (w.alloc (.cells #[.int .u32 C] 35)).cell? ⟨T, 0, none⟩ = some vo := (H.out.r.below ((Below.refl _ _).alloc (Nat.le_refl _) _)).c0
    clear c4 hcz c6 c7 hok hCC hac hA hcs
    go_enter Tryd.func38, Tryd.ntmps38
    go_upto_region 37 with fail
    go_region_law ((refine step_append_seg (by rfl) _ _ 22 22 (by rfl) .u32 35 4 Tryd.underlying22 Stp.info_u32 vo l [C] (by rfl) (HAP.out.s _) _ (by rfl) (src_row (l := [C]) Tryd.underlying22 (by exact row_new .u32 _ [C] _ _ (by simp)) rfl (fun h => by cases h)) (by unfold maxLen; simp; omega) (by simp; omega) ?_; intro vo2 w4 hs4 hc4 hm4; have hc1 := hc4.cellAt (k := T) (o := 0) (HAP.out.c _) HAP.out.n; have hf1 := hc4.freeAt (k := T) (o := 0) (HAP.out.c _) (HAP.out.f _); obtain ⟨a1, e1, hv1, -⟩ := hs4.form; obtain ⟨ln, hln⟩ : ∃ ln, (l ++ [C]).length = ln := ⟨_, rfl⟩; rw [hln] at hv1; subst hv1))
    all_goals
      generalize hvo : Value.slice a1 ln e1 = vo3 at *
      obtain ⟨R5, B5⟩ := H.out.r.app H.out.hB (low_alloc w _) hs4 hc4 hm4
      have HR5 : Hid (RSV (w4.setCell ⟨T, 0, none⟩ vo3) T B s (l ++ [C]) vo3 (.slice (some ⟨g, of, none⟩) 8 c) 0 a ∧ Below B w (w4.setCell ⟨T, 0, none⟩ vo3)) := ⟨R5, B5⟩
      generalize w4.setCell ⟨T, 0, none⟩ vo3 = w5 at *
      clear hs4 hc4 hm4 hc1 hf1 R5 B5 hln hvo hc0 hcA
      go_wp2
      go_ret
      exact ⟨_, rfl, rq_one (k := m + 1) H.out HR5.out.1 HR5.out.2 (by first | rfl | (push_cast; omega)) (by omega) (by omega) (by simp) HX.out⟩
  · have HX : Hid _ := part_own H.out.xe H.out.r.nb H.out.lt H.out.bt (HK.out 9 (k9_of c1 c3 c4 c5 c6 c7 c8 c9)) HP.out
    have hcs : (b < 1) ∨ (1 ≤ b ∧ ¬ b ≤ 8 ∧ b < 16) ∨ (24 ≤ b ∧ ¬ b ≤ 31) := by omega
    have HSG : Hid (∀ o, Seg .u32 (w.alloc o) vo l) := fun o => (H.out.r.below ((Below.refl _ _).alloc (Nat.le_refl _) _)).so
    have HC0 : Hid (∀ o, (w.alloc o).cell? ⟨T, 0, none⟩ = some vo ∧ (w.alloc o).frozen? ⟨T, 0, none⟩ = false) := fun o => ⟨(H.out.r.below ((Below.refl _ _).alloc (Nat.le_refl _) _)).c0, (H.out.r.below ((Below.refl _ _).alloc (Nat.le_refl _) _)).fr 0⟩
    have hc0 := H.out.r.c0
    have HNO : Hid (vo.ownBlock ≠ some T) := H.out.r.no
    have hwu : IntKind.u32.wrap b = b := by rw [IntKind.wrap_u32]; omega
    clear c4 hcz c6 c7
    rcases hcs with k | ⟨k, k2, k3⟩ | ⟨k, k2⟩
    all_goals
      go_enter Tryd.func38, Tryd.ntmps38
      go_wp2_with (at_builtin; go_must (refine wpList_append_seg rfl _ _ 22 22 rfl .u32 35 4 Tryd.underlying22 Stp.info_u32 vo l [b] rfl (HSG.out _) _ rfl (src_row (l := [b]) Tryd.underlying22 (by exact row_new .u32 _ [b] _ _ (by simp)) rfl (fun h => by cases h)) (by unfold maxLen; simp; omega) (by simp; omega) ?_; intro vo2 w4 hs4 hc4 hm4; have hc1 := hc4.cellAt (k := T) (o := 0) (HC0.out _).1 HNO.out; have hf1 := hc4.freeAt (k := T) (o := 0) (HC0.out _).1 (HC0.out _).2; obtain ⟨a1, e1, hv1, -⟩ := hs4.form; obtain ⟨ln, hln⟩ : ∃ ln, (l ++ [b]).length = ln := ⟨_, rfl⟩; rw [hln] at hv1; subst hv1))
      go_ret
      generalize hvo : Value.slice a1 ln e1 = vo3 at *
      obtain ⟨R5, B5⟩ := H.out.r.app H.out.hB ((Below.refl _ _).alloc (Nat.le_refl _) _) hs4 hc4 hm4
      exact ⟨_, rfl, rq_one (k := m + 1) H.out R5 B5 rfl (by omega) hlt (by simp) HX.out⟩
end EX
end Go.Proofs.YtpglmfhlgaliaaaDoor
