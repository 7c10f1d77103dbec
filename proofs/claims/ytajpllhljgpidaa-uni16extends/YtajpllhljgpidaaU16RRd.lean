/-
  The contract of the document's Read of layer 4: it tells what the machine tells, as a walk over the translated text. The condition: the text is small.
-/
import Derived.Test.YtajpllhljgpidaaU16Ref
namespace Go.Proofs.Ytajpllhljgpidaa
open Go.ChangeShapes Go.WideShapes Go.ChangeAt Go.RowKit
namespace U16
open Bas Sca Stp Scn Cod
set_option linter.unusedVariables false
variable {π : Par}

/-- What Read leaves. -/
def RReadQ (X : Res St) (vo : Value) (w w' : World) : Prop := Seg .u32 w' vo X.told ∧ (∀ g, vo.ownBlock = some g → w.heap.size ≤ g) ∧ Below w.heap.size w w'
/-- The loop of Read: from where, up to where, what is told. -/
def RInv (π : Par) (str : ByteArray) (X : Res St) (w wr : World) (F K : Nat) (t : List Int) (o : Value) : Prop :=
  Good π (((bytesL str).drop F).take (K - F)) ∧ Seg .u32 wr o t ∧ (∀ g, o.ownBlock = some g → w.heap.size ≤ g) ∧
      X = (scan (stepU π) (((bytesL str).drop F).take (K - F)) ((bytesL str).drop K)).pre t K ∧ Below w.heap.size w wr

/-- How a whole came about. -/
theorem whole_cases {st : St} {x c : Int} (hg : Good π st) (hb : ∀ y ∈ st ++ [x], 0 ≤ y ∧ y < 256) (hf : fitsN π st x = true) (h : wholeN π (st ++ [x]) = some c) :
    (∃ a, st = [a] ∧ c = unitN π a x) ∨ ∃ a b d, st = [a, b, d] ∧ c = 65536 + (unitN π a b - 55296) * 1024 + unitN π d x - 56320 ∧ 55296 ≤ unitN π a b ∧ unitN π a b ≤ 56319 ∧ 56320 ≤ unitN π d x ∧ unitN π d x ≤ 57343 := by
  match st, hg with
  | [], _ => simp [wholeN] at h
  | [a], _ =>
    simp only [List.cons_append, List.nil_append, wholeN] at h
    split at h
    · cases h
    · simp at h; exact .inl ⟨a, rfl, h.symm⟩
  | [a, b], _ => simp [wholeN] at h
  | [a, b, d], hg =>
    have hlo := lo_hi (π := π) (hb d (by simp)) (hb x (by simp))
    have hl : isLo (unitN π d x) = true := by
      rw [hlo]
      cases π
      · simpa using fits3.1 hf rfl
      · simpa using hg.2 rfl
    rw [isLo_iff] at hl
    have hu := isUp_iff.1 hg.1
    simp [wholeN] at h
    exact .inr ⟨a, b, d, rfl, by omega, hu.1, hu.2, hl.1, hl.2⟩
set_option maxHeartbeats 8000000 in
set_option maxRecDepth 100000 in
theorem rRead_any (str : ByteArray) (X : Res St) (w : World) (hX : X = scan (stepU π) (st0 π) (bytesL str)) (hs : str.size ≤ 100000) :
    Calls Try.prog 13 #[.string str, .bool π] w fun e w' => ∃ vo, e = .returned (.tuple #[vo, .int .i64 (endQ X), .int .i64 X.eaten]) ∧ RReadQ X vo w w' := by
  have HX : Hid (X = scan (stepU π) (st0 π) (bytesL str)) := hX
  have HL : Hid ((bytesL str).length = str.size) := bytesL_length str
  clear hX
  go_enter Try.func13, Try.ntmps13
  go_wp2
  go_loopw [7, 8, 9] (fun o f k wr => ∃ (F K : Nat) (t : List Int), f = .int .i64 F ∧ k = .int .i64 K ∧ F ≤ K ∧ K ≤ str.size ∧ t.length ≤ K ∧ RInv π str X w wr F K t o) (fun _ _ k _ => str.size - (intOf k).toNat)
  case atStart => exact ⟨0, 0, [], rfl, rfl, Nat.le_refl _, Nat.zero_le _, by simp, by simpa using good_nil π, seg_empty _ _ _, fun g hg => by simp [Value.ownBlock] at hg; omega, by rw [HX.out]; simp [Res.pre, st0], (Below.refl _ _).alloc (Nat.le_refl _) _⟩
  case round =>
    obtain ⟨F, K, t, rfl, rfl, hF, hK, htK, hI⟩ := hrel
    have HI : Hid (RInv π str X w wr F K t u7) := hI
    clear hI
    by_cases hlt : (K : Int) < (str.size : Int)
    · have hKl : K < (bytesL str).length := by rw [HL.out]; omega
      have hFK : (F : Int) ≤ (K : Int) + 1 := by omega
      go_wp2_with fail
      have hq : bytesL (str.extract F (K + 1)) = ((bytesL str).drop F).take (K - F) ++ [nth (bytesL str) K] := by rw [bytesL_extract, cut_snoc _ hF hKl]
      have hdr := drop_at (bytesL str) K hKl
      have hby : ∀ y ∈ ((bytesL str).drop F).take (K - F) ++ [nth (bytesL str) K], 0 ≤ y ∧ y < 256 := by rw [← hq]; exact bytesL_byte _
      have hq1 : (((bytesL str).drop F).take (K - F) ++ [nth (bytesL str) K]) = ((bytesL str).drop F).take (K + 1 - F) := by
        rw [← cut_snoc _ hF hKl, List.drop_take]
      obtain ⟨st, hst⟩ : ∃ st, ((bytesL str).drop F).take (K - F) = st := ⟨_, rfl⟩
      obtain ⟨x, hx⟩ : ∃ x, nth (bytesL str) K = x := ⟨_, rfl⟩
      obtain ⟨qs, hqs⟩ : ∃ qs, str.extract F (K + 1) = qs := ⟨_, rfl⟩
      rw [hqs] at hq
      rw [hqs]
      rw [hst, hx] at hq hby hq1
      rw [hx] at hdr
      have HI2 : Hid (Good π st ∧ Seg .u32 wr u7 t ∧ (∀ g, u7.ownBlock = some g → w.heap.size ≤ g) ∧ X = (scan (stepU π) st ((bytesL str).drop K)).pre t K ∧ Below w.heap.size w wr) := by
        have := HI.out; unfold RInv at this; rw [hst] at this; exact this
      have HDR : Hid ((bytesL str).drop K = x :: (bytesL str).drop (K + 1)) := hdr
      have HQ : Hid (bytesL qs = st ++ [x] ∧ st ++ [x] = ((bytesL str).drop F).take (K + 1 - F) ∧ ∀ y ∈ st ++ [x], 0 ≤ y ∧ y < 256) := ⟨hq, hq1, hby⟩
      clear hst hx hqs hq hdr hby hq1 HI
      refine (begins_any (π := π) qs st x wr HQ.out.1 HI2.out.1).mono ?_
      rintro e w2 ⟨⟨wh, rfl, hwh⟩, b2⟩
      have HO2 : Hid (Seg .u32 w2 u7 t ∧ (∀ g, u7.ownBlock = some g → w.heap.size ≤ g) ∧ Below w.heap.size w w2) :=
        ⟨HI2.out.2.1.chg (chg_of_below b2 (Nat.le_refl _) (fun _ _ => False)) (fun _ _ _ h => h), HI2.out.2.2.1, HI2.out.2.2.2.2.trans (b2.mono HI2.out.2.2.2.2.size)⟩
      clear b2
      cases hf : fitsN π st x with
      | false =>
        have HX5 : Hid (X = ⟨t, K, st, true⟩) := by
          show _ = _
          have hs : stepU π st x = none := by unfold stepU; rw [hf]; rfl
          rw [HI2.out.2.2.2.1, HDR.out, scan_none _ hs]; simp [Res.pre]
        clear hf hwh
        go_wp2
        go_ret3
        exact ⟨u7, by rw [HX5.out]; rfl, by rw [HX5.out]; exact HO2.out.1, HO2.out.2.1, HO2.out.2.2⟩
      | true =>
        have hwh2 := hwh hf
        cases ho : wholeN π (st ++ [x]) with
        | none =>
          rw [ho] at hwh2
          have hwh3 : wh = false := hwh2
          subst hwh3
          have hs : stepU π st x = some (st ++ [x], []) := by unfold stepU; rw [hf, ho]; rfl
          have HX5 : Hid (X = (scan (stepU π) (st ++ [x]) ((bytesL str).drop (K + 1))).pre t (K + 1)) := by
            show _ = _
            rw [HI2.out.2.2.2.1, HDR.out, scan_some _ hs, Res.pre_pre]; simp
          have hgd : Good π (st ++ [x]) := by
            rcases step_cases HI2.out.1 (fun y hy => HQ.out.2.2 y (by simp [hy])) (HQ.out.2.2 x (by simp)) hs with ⟨_, h⟩ | ⟨c, h, _⟩
            · exact h
            · simp at h
          have HG : Hid (Good π (st ++ [x])) := hgd
          clear hf ho hwh hwh2 hs hgd
          go_wp2
          go_roundw
          case rel => exact ⟨F, K + 1, t, by go_num, by go_num, by omega, by omega, by omega, by rw [← HQ.out.2.1]; exact HG.out, HO2.out.1, HO2.out.2.1, by rw [← HQ.out.2.1]; exact HX5.out, HO2.out.2.2⟩
          case measure => simp [intOf]; omega
        | some c =>
          rw [ho] at hwh2
          have hwh3 : wh = true := hwh2
          subst hwh3
          have hs : stepU π st x = some ([], [c]) := by unfold stepU; rw [hf, ho]; rfl
          have HX5 : Hid (X = (scan (stepU π) [] ((bytesL str).drop (K + 1))).pre (t ++ [c]) (K + 1)) := by
            show _ = _
            rw [HI2.out.2.2.2.1, HDR.out, scan_some _ hs, Res.pre_pre]
          have HO : Hid (wholeN π (st ++ [x]) = some c ∧ Good π st ∧ fitsN π st x = true) := ⟨ho, HI2.out.1, hf⟩
          clear hf ho hwh hwh2 hs
          rcases whole_cases HO.out.2.1 HQ.out.2.2 HO.out.2.2 HO.out.1 with ⟨a, rfl, rfl⟩ | ⟨a, b, d, rfl, hc, u1, u2, u3, u4⟩
          · have hq4 : ((qs.size : Int) == 4) = false := by
              have : qs.size = 2 := by rw [← bytesL_length, HQ.out.1]; rfl
              rw [this]; rfl
            go_wp2_with fail
            refine (rUnit_any (π := π) qs a x [] w2 HQ.out.1).mono ?_
            rintro e w3 ⟨rfl, b3⟩
            have HO3 : Hid (Seg .u32 w3 u7 t ∧ (∀ g, u7.ownBlock = some g → w.heap.size ≤ g) ∧ Below w.heap.size w w3) :=
              ⟨HO2.out.1.chg (chg_of_below b3 (Nat.le_refl _) (fun _ _ => False)) (fun _ _ _ h => h), HO2.out.2.1, HO2.out.2.2.trans (b3.mono HO2.out.2.2.size)⟩
            clear b3
            have HSA : Hid (∀ o, Seg .u32 (w3.alloc o) u7 t) := fun o => HO3.out.1.chg ((Chg.refl (fun _ _ => False) _).alloc o) (fun _ _ _ h => h)
            go_wp2_with (at_builtin; go_must (refine wpList_append_seg rfl _ _ 28 28 rfl .u32 74 4 Try.underlying28 info_u32 u7 t [unitN π a x] rfl (HSA.out _) _ rfl (src_row (l := [unitN π a x]) Try.underlying28 (by exact row_new .u32 w3 [unitN π a x] _ _ rfl) rfl (fun h => by cases h)) (by unfold maxLen; simp; omega) (by simp; omega) ?_; intro vo w4 hs4 hc4 hm4))
            have HO4 : Hid (Seg .u32 w4 vo (t ++ [unitN π a x]) ∧ (∀ g, vo.ownBlock = some g → w.heap.size ≤ g) ∧ Below w.heap.size w w4) := by
              have hz := HO3.out.2.2.size
              refine ⟨hs4, fun g hg => ?_, (HO3.out.2.2.alloc hz _).trans (hc4.below (by simp; omega) (fun k j hk hh => by have := HO3.out.2.1 k hh; omega))⟩
              rcases hm4 g hg with e | e
              · exact HO3.out.2.1 g e
              · simp at e; omega
            clear hs4 hc4 hm4 HO3 HSA
            go_roundw
            case rel => exact ⟨K + 1, K + 1, t ++ [unitN π a x], by go_num, by go_num, Nat.le_refl _, by omega, by simp; omega, by simpa using good_nil π, HO4.out.1, HO4.out.2.1, by simpa using HX5.out, HO4.out.2.2⟩
            case measure => simp [intOf]; omega
          · have hz4 : qs.size = 4 := by rw [← bytesL_length, HQ.out.1]; rfl
            have hq4 : ((qs.size : Int) == 4) = true := by rw [hz4]; rfl
            have hq2 : (2 : Int) ≤ (qs.size : Int) := by omega
            have HQ2 : Hid (bytesL (qs.extract 2 qs.size) = [d, x]) := by
              show _ = _
              rw [bytesL_drop, HQ.out.1]; rfl
            clear hz4
            go_wp2_with fail
            refine (rUnit_any (π := π) qs a b [d, x] w2 HQ.out.1).mono ?_
            rintro e w3 ⟨rfl, b3⟩
            have HO3 : Hid (Seg .u32 w3 u7 t ∧ (∀ g, u7.ownBlock = some g → w.heap.size ≤ g) ∧ Below w.heap.size w w3) :=
              ⟨HO2.out.1.chg (chg_of_below b3 (Nat.le_refl _) (fun _ _ => False)) (fun _ _ _ h => h), HO2.out.2.1, HO2.out.2.2.trans (b3.mono HO2.out.2.2.size)⟩
            clear b3 HO2
            obtain ⟨un, hun⟩ : ∃ un, unitN π a b = un := ⟨_, rfl⟩
            obtain ⟨um, hum⟩ : ∃ um, unitN π d x = um := ⟨_, rfl⟩
            rw [hun] at hc u1 u2
            rw [hum] at hc u3 u4
            rw [hun]
            have HUM : Hid (unitN π d x = um ∧ c = 65536 + (un - 55296) * 1024 + um - 56320) := ⟨hum, hc⟩
            clear hun hum hc
            go_wp2_with fail
            refine (rUnit_any (π := π) (qs.extract 2 qs.size) d x [] w3 HQ2.out).mono ?_
            rintro e w5 ⟨rfl, b5⟩
            have HO5 : Hid (Seg .u32 w5 u7 t ∧ (∀ g, u7.ownBlock = some g → w.heap.size ≤ g) ∧ Below w.heap.size w w5) :=
              ⟨HO3.out.1.chg (chg_of_below b5 (Nat.le_refl _) (fun _ _ => False)) (fun _ _ _ h => h), HO3.out.2.1, HO3.out.2.2.trans (b5.mono HO3.out.2.2.size)⟩
            clear b5 HO3
            rw [HUM.out.1]
            rw [HUM.out.2] at HX5
            have HUM2 : Hid (c = 65536 + (un - 55296) * 1024 + um - 56320) := HUM.out.2
            clear HUM HO
            have HSA : Hid (∀ o, Seg .u32 (w5.alloc o) u7 t) := fun o => HO5.out.1.chg ((Chg.refl (fun _ _ => False) _).alloc o) (fun _ _ _ h => h)
            go_wp2_with (at_builtin; go_must (refine wpList_append_seg rfl _ _ 28 28 rfl .u32 74 4 Try.underlying28 info_u32 u7 t [65536 + (un - 55296) * 1024 + um - 56320] rfl (HSA.out _) _ rfl (src_row (l := [65536 + (un - 55296) * 1024 + um - 56320]) Try.underlying28 (by exact row_new .u32 w5 [65536 + (un - 55296) * 1024 + um - 56320] _ _ rfl) rfl (fun h => by cases h)) (by unfold maxLen; simp; omega) (by simp; omega) ?_; intro vo w4 hs4 hc4 hm4))
            have HO4 : Hid (Seg .u32 w4 vo (t ++ [65536 + (un - 55296) * 1024 + um - 56320]) ∧ (∀ g, vo.ownBlock = some g → w.heap.size ≤ g) ∧ Below w.heap.size w w4) := by
              have hz := HO5.out.2.2.size
              refine ⟨hs4, fun g hg => ?_, (HO5.out.2.2.alloc hz _).trans (hc4.below (by simp; omega) (fun k j hk hh => by have := HO5.out.2.1 k hh; omega))⟩
              rcases hm4 g hg with e | e
              · exact HO5.out.2.1 g e
              · simp at e; omega
            clear hs4 hc4 hm4 HO5 HSA
            go_roundw
            case rel => exact ⟨K + 1, K + 1, t ++ [65536 + (un - 55296) * 1024 + um - 56320], by go_num, by go_num, Nat.le_refl _, by omega, by simp; omega, by simpa using good_nil π, HO4.out.1, HO4.out.2.1, by simpa using HX5.out, HO4.out.2.2⟩
            case measure => simp [intOf]; omega
    · have hKe : K = str.size := by omega
      have HX5 : Hid (X = ⟨t, K, ((bytesL str).drop F).take (K - F), false⟩) := by
        show _ = _
        have := HI.out.2.2.2.1
        rw [this, List.drop_of_length_le (show (bytesL str).length ≤ K by rw [HL.out]; omega)]; simp [scan, Res.pre]
      have hse : X.st.length = K - F := by
        rw [HX5.out, List.length_take, List.length_drop, HL.out]; omega
      by_cases hFl : (F : Int) < (str.size : Int)
      · have HE : Hid (endQ X = 4 ∧ X.eaten = str.size) := by
          have hne : X.st ≠ [] := by intro e; rw [e] at hse; simp at hse; omega
          refine ⟨?_, by rw [HX5.out]; exact hKe⟩
          have hbd : X.bad = false := by rw [HX5.out]
          simp [endQ, hbd, rest, hne]
        clear hse
        go_wp2
        go_ret3
        exact ⟨u7, by rw [HE.out.1, HE.out.2]; rfl, by rw [HX5.out]; exact HI.out.2.1, HI.out.2.2.1, HI.out.2.2.2.2⟩
      · have HE : Hid (endQ X = 0 ∧ X.eaten = str.size) := by
          have hne : X.st = [] := List.length_eq_zero_iff.1 (by omega)
          refine ⟨?_, by rw [HX5.out]; exact hKe⟩
          have hbd : X.bad = false := by rw [HX5.out]
          simp [endQ, hbd, rest, hne]
        clear hse
        go_wp2
        go_ret3
        exact ⟨u7, by rw [HE.out.1, HE.out.2]; rfl, by rw [HX5.out]; exact HI.out.2.1, HI.out.2.2.1, HI.out.2.2.2.2⟩
end U16
end Go.Proofs.Ytajpllhljgpidaa
