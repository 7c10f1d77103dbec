/-
  The contracts of the document's Run and Read of layer 12: they tell what the machine tells, as walks over the translated text. The condition: the text is small.
-/
import Derived.Test.YtlifobdooophbaaDoorBORd
import Derived.Test.YtlifobdooophbaaDoorRefO
import Derived.Test.YtlifobdooophbaaDoorDifRf1
import Derived.Test.YtlifobdooophbaaDoorDifRf2
import Derived.Test.YtlifobdooophbaaDoorDifRf3
namespace Go.Proofs.YtlifobdooophbaaDoor
open Go.ChangeShapes Go.WideShapes Go.ChangeAt Go.RowKit
namespace BO
open Bas Sca Stp Scn Cod
set_option linter.unusedVariables false
variable {π : Par}

/-- What Read leaves. -/
def RReadQ (X : Res St) (vo : Value) (w w' : World) : Prop := Seg .u32 w' vo X.told ∧ (∀ g, vo.ownBlock = some g → w.heap.size ≤ g) ∧ Below w.heap.size w w'
/-- The loop of Run: from where, up to where, what is told. -/
structure RInv (str : ByteArray) (X : Res St) (w wr : World) (F K : Nat) (t : List Int) (o : Value) (st : St) (R : ByteArray) : Prop where
  beg : st.beg = ((bytesL str).drop F).take (K - F)
  good : Boc.Good st
  seg : Seg .u32 wr o t
  own : ∀ g, o.ownBlock = some g → w.heap.size ≤ g
  run : X = (scan Boc.stepB st ((bytesL str).drop K)).pre t K
  low : Below w.heap.size w wr
  rest : st.beg ≠ [] → R = Stp.strOf (Boc.restB st)
theorem RInv.below {str : ByteArray} {X : Res St} {w wr w2 : World} {F K : Nat} {t : List Int} {o : Value} {st : St} {R : ByteArray} (h : RInv str X w wr F K t o st R) (b : Below wr.heap.size wr w2) : RInv str X w w2 F K t o st R :=
  ⟨h.beg, h.good, h.seg.chg (chg_of_below b (Nat.le_refl _) (fun _ _ => False)) (fun _ _ _ h => h), h.own, h.run, below_two h.low b, h.rest⟩
set_option maxHeartbeats 1000000 in
theorem rLeast2_any (a b : Int) (w : World) :
    Calls Tryd.prog 56 #[.int .i64 a, .int .i64 b] w fun e w' => e = .returned (.int .i64 (Boc.leastS a b)) ∧ w' = w := by
  by_cases h1 : a < 33
  · by_cases h2 : 33 ≤ b
    · have H : Hid (Boc.leastS a b = 33) := by show _ = _; unfold Boc.leastS; rw [if_pos h1, if_pos h2]
      rw [H.out]
      clear H
      go_enter Tryd.func56, Tryd.ntmps56
      go_wp2
      go_ret
      exact ⟨rfl, rfl⟩
    · have H : Hid (Boc.leastS a b = -1) := by show _ = _; unfold Boc.leastS; rw [if_pos h1, if_neg h2]
      rw [H.out]
      clear H
      go_enter Tryd.func56, Tryd.ntmps56
      go_wp2
      go_ret
      exact ⟨rfl, rfl⟩
  · by_cases h3 : 55296 ≤ a ∧ a ≤ 57343
    · by_cases h2 : 57344 ≤ b
      · have H : Hid (Boc.leastS a b = 57344) := by show _ = _; unfold Boc.leastS; rw [if_neg h1, if_pos h3, if_pos h2]
        rw [H.out]
        clear H
        obtain ⟨h3, h4⟩ := h3
        go_enter Tryd.func56, Tryd.ntmps56
        go_wp2
        go_ret
        exact ⟨rfl, rfl⟩
      · have H : Hid (Boc.leastS a b = -1) := by show _ = _; unfold Boc.leastS; rw [if_neg h1, if_pos h3, if_neg h2]
        rw [H.out]
        clear H
        obtain ⟨h3, h4⟩ := h3
        go_enter Tryd.func56, Tryd.ntmps56
        go_wp2
        go_ret
        exact ⟨rfl, rfl⟩
    · by_cases h2 : a ≤ b ∧ a ≤ 1114111
      · have H : Hid (Boc.leastS a b = a) := by show _ = _; unfold Boc.leastS; rw [if_neg h1, if_neg h3, if_pos h2]
        rw [H.out]
        clear H
        obtain ⟨h4, h5⟩ := h2
        by_cases h6 : 55296 ≤ a
        · have h7 : ¬ a ≤ 57343 := fun e => h3 ⟨h6, e⟩
          clear h3
          go_enter Tryd.func56, Tryd.ntmps56
          go_wp2
          go_ret
          exact ⟨rfl, rfl⟩
        · clear h3
          go_enter Tryd.func56, Tryd.ntmps56
          go_wp2
          go_ret
          exact ⟨rfl, rfl⟩
      · have H : Hid (Boc.leastS a b = -1) := by show _ = _; unfold Boc.leastS; rw [if_neg h1, if_neg h3, if_neg h2]
        rw [H.out]
        clear H
        by_cases h6 : 55296 ≤ a
        · have h7 : ¬ a ≤ 57343 := fun e => h3 ⟨h6, e⟩
          by_cases h4 : a ≤ b
          · have h5 : ¬ a ≤ 1114111 := fun e => h2 ⟨h4, e⟩
            clear h3 h2
            go_enter Tryd.func56, Tryd.ntmps56
            go_wp2
            go_ret
            exact ⟨rfl, rfl⟩
          · clear h3 h2
            go_enter Tryd.func56, Tryd.ntmps56
            go_wp2
            go_ret
            exact ⟨rfl, rfl⟩
        · have h4 : ¬ a ≤ b := fun e => h2 ⟨e, by omega⟩
          clear h3 h2
          go_enter Tryd.func56, Tryd.ntmps56
          go_wp2
          go_ret
          exact ⟨rfl, rfl⟩
set_option maxHeartbeats 8000000 in
set_option maxRecDepth 100000 in
theorem rRun_any (str : ByteArray) (X : Res St) (w : World) (hX : X = scan Boc.stepB Boc.st0 (bytesL str)) (hs : str.size ≤ 100000) :
    Calls Tryd.prog 34 #[.string str] w fun e w' => ∃ vo R, e = .returned (.tuple #[vo, .int .i64 (endQ X), .int .i64 X.eaten, .string R]) ∧ RReadQ X vo w w' ∧ (X.bad = false → R = Stp.strOf (Boc.restB X.st)) := by
  have HX : Hid (X = scan Boc.stepB Boc.st0 (bytesL str)) := hX
  have HL : Hid ((bytesL str).length = str.size) := bytesL_length str
  clear hX
  go_enter Tryd.func34, Tryd.ntmps34
  go_wp2
  go_loopw [6, 7, 8, 9, 10] (fun o ag r f k wr => ∃ (F K : Nat) (t : List Int) (st : St) (R : ByteArray), ag = .int .i64 st.ag ∧ r = .string R ∧ f = .int .i64 F ∧ k = .int .i64 K ∧ F ≤ K ∧ K ≤ str.size ∧ t.length ≤ K ∧ RInv str X w wr F K t o st R) (fun _ _ _ _ k _ => str.size - (intOf k).toNat)
  case atStart => exact ⟨0, 0, [], Boc.st0, _, rfl, rfl, rfl, rfl, Nat.le_refl _, Nat.zero_le _, by simp, by simp [Boc.st0], Boc.good_0, seg_empty _ _ _, fun g hg => by simp [Value.ownBlock] at hg; omega, by rw [HX.out]; simp [Res.pre], (Below.refl _ _).alloc (Nat.le_refl _) _, fun h => absurd rfl h⟩
  case round =>
    obtain ⟨F, K, t, ⟨A, beg⟩, R, rfl, rfl, rfl, rfl, hF, hK, htK, hI⟩ := hrel
    have HI : Hid (RInv str X w wr F K t u6 ⟨A, beg⟩ R) := hI
    clear hI
    by_cases hlt : (K : Int) < (str.size : Int)
    · have hKl : K < (bytesL str).length := by rw [HL.out]; omega
      have hdr := drop_at (bytesL str) K hKl
      have hq : bytesL (str.extract F (K + 1)) = beg ++ [nth (bytesL str) K] := by
        have := HI.out.beg
        simp only [] at this
        rw [this, bytesL_extract, cut_snoc _ hF hKl]
      have hbl : beg.length = K - F := by
        have := HI.out.beg
        simp only [] at this
        rw [this, List.length_take, List.length_drop]; omega
      have hby := bytesL_byte str _ (nth_mem (l := bytesL str) (i := K) hKl)
      have hks : K < str.size := by omega
      have hsn := str_nth str K hks
      obtain ⟨x, hx⟩ : ∃ x, nth (bytesL str) K = x := ⟨_, rfl⟩
      rw [hx] at hdr hq hby hsn
      have HDR : Hid ((bytesL str).drop K = x :: (bytesL str).drop (K + 1)) := hdr
      clear hx hdr
      by_cases h1 : F = K ∧ (x = 255 ∨ x ≤ 32)
      · obtain ⟨rfl, h1⟩ := h1
        have hb0 : beg = [] := List.length_eq_zero_iff.1 (by omega)
        subst hb0
        rcases h1 with rfl | h1
        · have HN : Hid (X = (scan Boc.stepB ⟨64, []⟩ ((bytesL str).drop (F + 1))).pre t (F + 1)) := by
            show _ = _
            rw [HI.out.run, HDR.out, scan_some _ (Boc.step_ff (s := ⟨A, []⟩) rfl), Res.pre_pre, List.append_nil]
          clear hq hbl hKl
          go_wp2
          go_roundw
          case rel => exact ⟨F + 1, F + 1, t, ⟨64, []⟩, R, rfl, rfl, by go_num, by go_num, Nat.le_refl _, by omega, by omega, by simp, Boc.good_nil Boc.ga_64, HI.out.seg, HI.out.own, HN.out, HI.out.low, fun h => absurd rfl h⟩
          case measure => simp [intOf]; omega
        · have HN : Hid (X = (scan Boc.stepB ⟨Boc.nxtB A x, []⟩ ((bytesL str).drop (F + 1))).pre (t ++ [x]) (F + 1)) := by
            show _ = _
            rw [HI.out.run, HDR.out, scan_some _ (Boc.step_small (s := ⟨A, []⟩) rfl h1), Res.pre_pre]
          have HG : Hid (Boc.GA (Boc.nxtB A x)) := Boc.ga_nxt HI.out.good.1 hby.1 (isB_iff.2 (by omega))
          have HSA : Hid (∀ o, Seg .u32 (wr.alloc o) u6 t) := fun o => HI.out.seg.chg ((Chg.refl (fun _ _ => False) _).alloc o) (fun _ _ _ h => h)
          have hne : (x == 255) = false := by rw [beq_eq_false_iff_ne]; omega
          have hne2 : ¬ x = 255 := by omega
          obtain ⟨x0, x1⟩ := hby
          clear hq hbl hKl
          by_cases h32 : x = 32
          · have HNX : Hid (Boc.nxtB A x = A) := by show _ = _; unfold Boc.nxtB; rw [if_pos h1, if_pos h32]
            rw [HNX.out] at HN HG
            subst h32
            go_wp2_with (at_builtin; go_must (refine wpList_append_seg rfl _ _ 27 27 rfl .u32 43 4 Tryd.underlying27 info_u32 u6 t [32] rfl (HSA.out _) _ rfl (src_row (l := [32]) Tryd.underlying27 (by exact row_new .u32 wr [32] _ _ rfl) rfl (fun h => by cases h)) (by unfold maxLen; simp; omega) (by simp; omega) ?_; intro vo w4 hs4 hc4 hm4))
            have HO4 : Hid (Seg .u32 w4 vo (t ++ [32]) ∧ (∀ g, vo.ownBlock = some g → w.heap.size ≤ g) ∧ Below w.heap.size w w4) := by
              have hz := HI.out.low.size
              refine ⟨hs4, fun g hg => ?_, (HI.out.low.alloc hz _).trans (hc4.below (by simp; omega) (fun k j hk hh => by have := HI.out.own k hh; omega))⟩
              rcases hm4 g hg with e | e
              · exact HI.out.own g e
              · simp at e; omega
            clear hs4 hc4 hm4 HSA
            go_roundw
            case rel => exact ⟨F + 1, F + 1, t ++ [32], ⟨A, []⟩, R, rfl, rfl, by go_num, by go_num, Nat.le_refl _, by omega, by simp; omega, by simp, Boc.good_nil HG.out, HO4.out.1, HO4.out.2.1, HN.out, HO4.out.2.2, fun h => absurd rfl h⟩
            case measure => simp [intOf]; omega
          · have HNX : Hid (Boc.nxtB A x = 64) := by show _ = _; unfold Boc.nxtB; rw [if_pos h1, if_neg h32]
            rw [HNX.out] at HN HG
            have hne3 : (x == 32) = false := by rw [beq_eq_false_iff_ne]; exact h32
            go_wp2_with (at_builtin; go_must (refine wpList_append_seg rfl _ _ 27 27 rfl .u32 43 4 Tryd.underlying27 info_u32 u6 t [x] rfl (HSA.out _) _ rfl (src_row (l := [x]) Tryd.underlying27 (by exact row_new .u32 wr [x] _ _ rfl) rfl (fun h => by cases h)) (by unfold maxLen; simp; omega) (by simp; omega) ?_; intro vo w4 hs4 hc4 hm4))
            have HO4 : Hid (Seg .u32 w4 vo (t ++ [x]) ∧ (∀ g, vo.ownBlock = some g → w.heap.size ≤ g) ∧ Below w.heap.size w w4) := by
              have hz := HI.out.low.size
              refine ⟨hs4, fun g hg => ?_, (HI.out.low.alloc hz _).trans (hc4.below (by simp; omega) (fun k j hk hh => by have := HI.out.own k hh; omega))⟩
              rcases hm4 g hg with e | e
              · exact HI.out.own g e
              · simp at e; omega
            clear hs4 hc4 hm4 HSA
            go_roundw
            case rel => exact ⟨F + 1, F + 1, t ++ [x], ⟨64, []⟩, R, rfl, rfl, by go_num, by go_num, Nat.le_refl _, by omega, by simp; omega, by simp, Boc.good_nil HG.out, HO4.out.1, HO4.out.2.1, HN.out, HO4.out.2.2, fun h => absurd rfl h⟩
            case measure => simp [intOf]; omega
      · have HP : Hid (Boc.plain ⟨A, beg⟩ x) := by
          show Boc.plain ⟨A, beg⟩ x
          by_cases e : F = K
          · right; exact ⟨fun e2 => h1 ⟨e, .inl e2⟩, by have : ¬ x ≤ 32 := fun e2 => h1 ⟨e, .inr e2⟩; omega⟩
          · left; intro e2
            simp only [] at e2
            rw [e2] at hbl; simp at hbl; omega
        have hcs : (((F : Int) == (K : Int)) = true ∧ (x == 255) = false ∧ ¬ x ≤ 32) ∨ ((F : Int) == (K : Int)) = false := by
          by_cases e : F = K
          · left; refine ⟨by rw [e]; simp, ?_, fun e2 => h1 ⟨e, .inr e2⟩⟩
            rw [beq_eq_false_iff_ne]; exact fun e2 => h1 ⟨e, .inl e2⟩
          · right; rw [beq_eq_false_iff_ne]; omega
        have hFK : (F : Int) ≤ (K : Int) + 1 := by omega
        have hqs1 : (str.extract F (K + 1)).size = beg.length + 1 := by rw [← bytesL_length, hq]; simp
        have hgood := HI.out.good
        have hblen := Boc.Good.len hgood
        have hga : 64 ≤ A ∧ A ≤ 1114048 := hgood.1
        obtain ⟨qs, hqs⟩ : ∃ qs, str.extract F (K + 1) = qs := ⟨_, rfl⟩
        rw [hqs] at hq hqs1
        have HQS : Hid (str.extract F (K + 1) = qs) := hqs
        have HQB : Hid (beg ++ [x] = ((bytesL str).drop F).take (K + 1 - F)) := by show _ = _; rw [← hq, ← hqs, bytesL_extract, List.drop_take]
        have HQ : Hid (bytesL qs = beg ++ [x] ∧ qs.size = beg.length + 1 ∧ beg.length = K - F ∧ beg.length ≤ 3 ∧ 0 ≤ x ∧ x < 256) := ⟨hq, hqs1, hbl, hblen, hby⟩
        obtain ⟨g0, g1⟩ := hga
        clear h1 hq hqs hqs1 hgood hblen hbl hby hKl
        rcases hcs with ⟨c1, c2, c3⟩ | c1
        all_goals
          go_wp2_with fail
          rw [HQS.out]
          refine (Dif.rRange_any qs wr (by rw [HQ.out.2.1]; omega) (by rw [HQ.out.2.1]; have := HQ.out.2.2.2.1; omega)).mono ?_
          rintro e w2 ⟨rfl, b2⟩
          rw [HQ.out.1]
          have HI2 : Hid (RInv str X w w2 F K t u6 ⟨A, beg⟩ R) := HI.out.below b2
          clear b2
          cases hr : Dif.rngL (beg ++ [x]) with
          | none =>
            have HX5 : Hid (X = ⟨t, K, ⟨A, beg⟩, true⟩) := by
              show _ = _
              rw [HI2.out.run, HDR.out, scan_none _ (Boc.step_none HP.out hr)]; simp [Res.pre]
            clear hr
            unfold Dif.rrV
            go_wp2
            (try simp only [Exit.inBlock, Exit.then])
            refine bodyPost_ret (Dif.results_tmp4 rfl _ _ _) rfl ?_
            exact ⟨u6, R, by rw [HX5.out]; rfl, by rw [HX5.out]; exact ⟨HI2.out.seg, HI2.out.own, HI2.out.low⟩, fun h => by rw [HX5.out] at h; cases h⟩
          | some z =>
            obtain ⟨lo, hi, n⟩ := z
            obtain ⟨q1, q2, q3, q4, q5, q6⟩ := Boc.rng_le hr
            rw [List.length_append] at q5
            simp only [List.length_singleton] at q5
            have hnn : (n : Int) > 0 := by omega
            have HR : Hid (Dif.rngL (beg ++ [x]) = some (lo, hi, n) ∧ beg.length + 1 ≤ n) := ⟨hr, q5⟩
            clear hr q4
            unfold Dif.rrV
            go_wp2_with fail
            refine (rLeast2_any (A + lo) (A + hi) w2).mono ?_
            rintro e w3 ⟨rfl, hw⟩
            rw [hw]
            clear hw w3
            by_cases hl : Boc.leastS (A + lo) (A + hi) < 0
            · have HX5 : Hid (X = ⟨t, K, ⟨A, beg⟩, true⟩) := by
                show _ = _
                rw [HI2.out.run, HDR.out, scan_none _ (Boc.step_far HP.out HR.out.1 hl)]; simp [Res.pre]
              obtain ⟨c, hc⟩ : ∃ c, Boc.leastS (A + lo) (A + hi) = c := ⟨_, rfl⟩
              rw [hc] at hl ⊢
              clear hc
              go_wp2
              (try simp only [Exit.inBlock, Exit.then])
              refine bodyPost_ret (Dif.results_tmp4 rfl _ _ _) rfl ?_
              exact ⟨u6, R, by rw [HX5.out]; rfl, by rw [HX5.out]; exact ⟨HI2.out.seg, HI2.out.own, HI2.out.low⟩, fun h => by rw [HX5.out] at h; cases h⟩
            · have hli := Boc.least_is (Int.not_lt.1 hl)
              have HSTW : Hid (beg.length + 1 = n → Boc.stepB ⟨A, beg⟩ x = some (⟨Dif.prevI (Boc.leastS (A + lo) (A + hi)), []⟩, [Boc.leastS (A + lo) (A + hi)])) := fun e => Boc.step_whole HP.out HR.out.1 hl e
              have HSTM : Hid (beg.length + 1 ≠ n → Boc.stepB ⟨A, beg⟩ x = some (⟨A, beg ++ [x]⟩, [])) := fun e => Boc.step_more HP.out HR.out.1 hl e
              have HRB : Hid (Boc.restB ⟨A, beg ++ [x]⟩ = (Dif.packL (Boc.leastS (A + lo) (A + hi) - A)).drop (beg.length + 1)) := by
                show _ = _
                unfold Boc.restB; rw [if_neg (by simp), HR.out.1]; simp only [List.length_append, List.length_singleton]
              obtain ⟨c, hce⟩ : ∃ c, Boc.leastS (A + lo) (A + hi) = c := ⟨_, rfl⟩
              rw [hce] at hl hli HSTW HRB ⊢
              clear hce
              have hci := isB_iff.1 hli.2.2.2
              have hin : Dif.inR (c - A) := Boc.ga_inR ⟨g0, g1⟩ hli.2.2.1 hci.1
              have htk := Boc.rng_take HR.out.1 (d := c - A) (by omega) (by omega) hin
              have HPK : Hid (∀ w, Calls Tryd.prog 38 #[.int .i64 (c - A)] w fun e w' => e = .returned (.string (Stp.strOf (Dif.packL (c - A)))) ∧ Below w.heap.size w w') := fun w => Dif.rPack_any (c - A) w hin
              have HC : Hid (33 ≤ c ∧ c ≤ 1114111 ∧ isB c = true) := ⟨hli.2.2.1, hci.1, hli.2.2.2⟩
              obtain ⟨P, hP⟩ : ∃ P, Dif.packL (c - A) = P := ⟨_, rfl⟩
              rw [hP] at htk HPK HRB
              obtain ⟨ps, hps⟩ : ∃ ps, Stp.strOf P = ps := ⟨_, rfl⟩
              have hpz : ps.size = n := by rw [← hps, strOf_size, htk.2.1]
              have HPS : Hid (Stp.strOf P = ps) := hps
              rw [hps] at HPK
              obtain ⟨m, hm⟩ : ∃ m, beg.length + 1 = m := ⟨_, rfl⟩
              have hmK : (K : Int) + 1 - F = (m : Int) := by have := HQ.out.2.2.1; omega
              have hmn : m ≤ n := by have := HR.out.2; omega
              have HM : Hid (beg.length + 1 = m ∧ (K : Int) + 1 - F = (m : Int)) := ⟨hm, hmK⟩
              rw [hm] at HSTW HSTM HRB
              have hKF : (F : Int) ≤ (K : Int) + 1 := hFK
              have hps1 : (K : Int) + 1 - F ≤ (ps.size : Int) := by omega
              have hc0 : 0 ≤ c := by omega
              have hc1 : c ≤ 1114111 := hci.1
              clear hli hci hin htk hP hps hm q5
              go_wp2_with fail
              refine (HPK.out w2).mono ?_
              rintro e w3 ⟨rfl, b3⟩
              have HI3 : Hid (RInv str X w w3 F K t u6 ⟨A, beg⟩ R) := HI2.out.below b3
              clear b3 HPK
              by_cases hn : m = n
              · have heq : ((K : Int) + 1 - F == (n : Int)) = true := by rw [hmK, hn]; simp
                have HX5 : Hid (X = (scan Boc.stepB ⟨Dif.prevI c, []⟩ ((bytesL str).drop (K + 1))).pre (t ++ [c]) (K + 1)) := by
                  show _ = _
                  rw [HI3.out.run, HDR.out, scan_some _ (HSTW.out hn), Res.pre_pre]
                have HGA : Hid (Boc.GA (Dif.prevI c)) := Boc.ga_prev HC.out.1 HC.out.2.2
                have HSA : Hid (∀ o, Seg .u32 (w3.alloc o) u6 t) := fun o => HI3.out.seg.chg ((Chg.refl (fun _ _ => False) _).alloc o) (fun _ _ _ h => h)
                clear hmK hmn hn HRB
                go_wp2_with (at_builtin; go_must (refine wpList_append_seg rfl _ _ 27 27 rfl .u32 43 4 Tryd.underlying27 info_u32 u6 t [c] rfl (HSA.out _) _ rfl (src_row (l := [c]) Tryd.underlying27 (by exact row_new .u32 w3 [c] _ _ rfl) rfl (fun h => by cases h)) (by unfold maxLen; simp; omega) (by simp; omega) ?_; intro vo w4 hs4 hc4 hm4))
                obtain ⟨z, hz⟩ : ∃ z, Dif.prevI c = z := ⟨_, rfl⟩
                have HPV : Hid (Calls Tryd.prog 39 #[.int .u32 c] w4 fun e w' => e = .returned (.int .u32 z) ∧ w' = w4) := by rw [← hz]; exact Dif.rPrev_any c w4 hc0 (by omega)
                rw [hz] at HX5 HGA
                clear hz
                have HO4 : Hid (Seg .u32 w4 vo (t ++ [c]) ∧ (∀ g, vo.ownBlock = some g → w.heap.size ≤ g) ∧ Below w.heap.size w w4) := by
                  have hz := HI3.out.low.size
                  refine ⟨hs4, fun g hg => ?_, (HI3.out.low.alloc hz _).trans (hc4.below (by simp; omega) (fun k j hk hh => by have := HI3.out.own k hh; omega))⟩
                  rcases hm4 g hg with e | e
                  · exact HI3.out.own g e
                  · simp at e; omega
                clear hs4 hc4 hm4 HSA
                refine HPV.out.mono ?_
                rintro e w5 ⟨rfl, hw⟩
                rw [hw]
                clear hw w5 HPV
                have hz0 : 64 ≤ z := HGA.out.1
                have hz1 : z ≤ 1114048 := HGA.out.2
                go_wp2
                go_roundw
                case rel => exact ⟨K + 1, K + 1, t ++ [c], ⟨z, []⟩, _, rfl, rfl, by go_num, by go_num, Nat.le_refl _, by omega, by simp; omega, by simp, Boc.good_nil HGA.out, HO4.out.1, HO4.out.2.1, HX5.out, HO4.out.2.2, fun h => absurd rfl h⟩
                case measure => simp [intOf]; omega
              · have hne : ((K : Int) + 1 - F == (n : Int)) = false := by rw [hmK, beq_eq_false_iff_ne]; omega
                have hne2 : ¬ (K : Int) + 1 - F = (n : Int) := by omega
                have hst := HSTM.out (by have := HM.out.1; omega)
                have HX5 : Hid (X = (scan Boc.stepB ⟨A, beg ++ [x]⟩ ((bytesL str).drop (K + 1))).pre t (K + 1)) := by
                  show _ = _
                  rw [HI3.out.run, HDR.out, scan_some _ hst, Res.pre_pre, List.append_nil]
                have HGD : Hid (Boc.Good ⟨A, beg ++ [x]⟩) := Boc.step_good HI3.out.good HQ.out.2.2.2.2.1 hst
                have HRS : Hid (ps.extract (K + 1 - F) n = Stp.strOf (Boc.restB ⟨A, beg ++ [x]⟩)) := by
                  show _ = _
                  rw [HRB.out, ← strOf_drop, HPS.out, hpz, show K + 1 - F = m by omega]
                clear hmK hmn hn hst
                go_wp2
                go_roundw
                case rel => exact ⟨F, K + 1, t, ⟨A, beg ++ [x]⟩, _, rfl, rfl, by go_num, by go_num, by omega, by omega, by omega, HQB.out, HGD.out, HI3.out.seg, HI3.out.own, HX5.out, HI3.out.low, fun _ => HRS.out⟩
                case measure => simp [intOf]; omega
    · have hKe : K = str.size := by omega
      have HX5 : Hid (X = ⟨t, K, ⟨A, beg⟩, false⟩) := by
        show _ = _
        rw [HI.out.run, List.drop_of_length_le (by rw [HL.out]; omega)]; simp [scan, Res.pre]
      have hbl : beg.length = K - F := by
        have := HI.out.beg
        simp only [] at this
        rw [this, List.length_take, List.length_drop, HL.out]; omega
      by_cases hFl : (F : Int) < (str.size : Int)
      · have HE : Hid (endQ X = 4 ∧ X.eaten = str.size ∧ R = Stp.strOf (Boc.restB X.st)) := by
          have hne : beg ≠ [] := by intro e; rw [e] at hbl; simp at hbl; omega
          refine ⟨?_, by rw [HX5.out]; exact hKe, by rw [HX5.out]; exact HI.out.rest hne⟩
          rw [HX5.out]
          have : rest (⟨A, beg⟩ : St) = false := by simpa [rest] using hne
          simp [endQ, this]
        clear hbl hKe
        go_wp2
        (try simp only [Exit.inBlock, Exit.then])
        refine bodyPost_ret (Dif.results_tmp4 rfl _ _ _) rfl ?_
        exact ⟨u6, R, by rw [HE.out.1, HE.out.2.1]; rfl, by rw [HX5.out]; exact ⟨HI.out.seg, HI.out.own, HI.out.low⟩, fun _ => HE.out.2.2⟩
      · have HE : Hid (endQ X = 0 ∧ X.eaten = str.size ∧ Boc.restB X.st = []) := by
          have hb0 : beg = [] := List.length_eq_zero_iff.1 (by omega)
          subst hb0
          refine ⟨?_, by rw [HX5.out]; exact hKe, ?_⟩
          · rw [HX5.out]; simp [endQ, rest]
          · rw [HX5.out]; simp [Boc.restB]
        clear hbl hKe
        go_wp2
        (try simp only [Exit.inBlock, Exit.then])
        refine bodyPost_ret (Dif.results_tmp4 rfl _ _ _) rfl ?_
        exact ⟨u6, _, by rw [HE.out.1, HE.out.2.1]; rfl, by rw [HX5.out]; exact ⟨HI.out.seg, HI.out.own, HI.out.low⟩, fun _ => by rw [HE.out.2.2]; rfl⟩
set_option maxHeartbeats 1000000 in
theorem rRead_any (str : ByteArray) (X : Res St) (w : World) (hX : X = scan (stepU π) (st0 π) (bytesL str)) (hs : str.size ≤ 100000) :
    Calls Tryd.prog 15 #[.string str] w fun e w' => ∃ vo, e = .returned (.tuple #[vo, .int .i64 (endQ X), .int .i64 X.eaten]) ∧ RReadQ X vo w w' := by
  have HX : Hid (X = scan Boc.stepB Boc.st0 (bytesL str)) := hX
  clear hX
  go_enter Tryd.func15, Tryd.ntmps15
  go_wp2_with fail
  refine (rRun_any str X w HX.out hs).mono ?_
  rintro e w2 ⟨vo, R, rfl, h, -⟩
  have H : Hid (RReadQ X vo w w2) := h
  obtain ⟨ar, cr, hvr, -⟩ := h.1.form
  obtain ⟨tl, htl⟩ : ∃ tl, X.told.length = tl := ⟨_, rfl⟩
  rw [htl] at hvr
  subst hvr
  clear h htl
  go_wp2
  go_ret3
  exact ⟨_, rfl, H.out⟩
end BO
end Go.Proofs.YtlifobdooophbaaDoor
