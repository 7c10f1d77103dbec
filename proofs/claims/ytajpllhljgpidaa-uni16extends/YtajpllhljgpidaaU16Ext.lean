/-
  The contract of the document's Rest of layer 4, as a walk over the translated text: bytes with which a beginning goes on. The condition: the text is right so far, and small.
-/
import Derived.Test.YtajpllhljgpidaaU16RRd
import Derived.Test.YtajpllhljgpidaaU16Byt
namespace Go.Proofs.Ytajpllhljgpidaa
open Go.ChangeShapes Go.WideShapes Go.ChangeAt Go.RowKit
namespace U16
open Bas Sca Stp Scn Cod
set_option linter.unusedVariables false
variable {π : Par}

theorem up_lo {u : Int} (h : isUp u = true) : isLo u = false := by rw [isUp_iff] at h; rw [isLo_no]; omega
theorem scan_self {st : St} (h : Good π st) (hb : ∀ x ∈ st, 0 ≤ x ∧ x < 256) : scan (stepU π) [] st = ⟨[], st.length, st, false⟩ := by
  match st, h, hb with
  | [], _, _ => rfl
  | [a], h, _ =>
    have : fitsN π [] a = true := fits0.2 h
    have e : stepU π [] a = some ([a], []) := by simp [stepU, this, wholeN]
    rw [scan_some _ e]; rfl
  | [a, b], h, hb =>
    rw [scan_unit (hb a (by simp)) (hb b (by simp)) (up_lo h), if_pos (show isUp (unitN π a b) = true from h)]; rfl
  | [a, b, c], h, hb =>
    have : fitsN π [a, b] c = true := fits2.2 h.2
    have e : stepU π [a, b] c = some ([a, b, c], []) := by simp [stepU, this, wholeN]
    rw [scan_unit (hb a (by simp)) (hb b (by simp)) (up_lo h.1), if_pos h.1, scan_some _ e]; rfl
/-- With these bytes behind it a beginning is a whole. -/
def Fine (π : Par) (st : St) (m : List Int) : Prop := (scan (stepU π) st m).bad = false ∧ (scan (stepU π) st m).st = []
/-- The bytes that are tried, one behind the other. -/
def mS : Nat → ByteArray
  | 0 => ⟨#[]⟩ | 1 => ⟨#[0]⟩ | 2 => ⟨#[220]⟩ | 3 => ⟨#[0, 220]⟩ | 4 => ⟨#[220, 0]⟩ | 5 => ⟨#[0, 220, 0]⟩ | 6 => ⟨#[0, 0, 220]⟩
  | _ => ⟨#[]⟩
theorem mS_size (i : Nat) : (mS i).size ≤ 3 := by
  unfold mS; split <;> decide
theorem fine_some {st : St} (h : Good π st) (hne : st ≠ []) (hb : ∀ x ∈ st, 0 ≤ x ∧ x < 256) : ∃ j, j < 7 ∧ Fine π st (bytesL (mS j)) := by
  have b1 : bytesL (mS 1) = [0] := rfl
  have b2 : bytesL (mS 2) = [220] := rfl
  have b3 : bytesL (mS 3) = [0, 220] := rfl
  have b4 : bytesL (mS 4) = [220, 0] := rfl
  have b5 : bytesL (mS 5) = [0, 220, 0] := rfl
  have l0 : isLo ((0 : Int) * 256) = false := by decide
  have l220 : isLo ((220 : Int) * 256) = true := by decide
  match st, h, hne, hb with
  | [], _, hne, _ => exact absurd rfl hne
  | [a], h, _, hb =>
    have ha := hb a (by simp)
    have f1 : fitsN π [a] 0 = true := fits1.2 (fun _ => l0)
    by_cases hu : isUp (unitN π a 0) = true
    · have hπ : π = true := by
        cases π
        · rw [isUp_iff] at hu; simp [unitN] at hu; omega
        · rfl
      subst hπ
      have e1 : stepU true [a] 0 = some ([a, 0], []) := by simp [stepU, f1, wholeN, hu]
      have f2 : fitsN true [a, 0] 220 = true := fits2.2 (fun _ => l220)
      have e2 : stepU true [a, 0] 220 = some ([a, 0, 220], []) := by simp [stepU, f2, wholeN]
      have f3 : fitsN true [a, 0, 220] 0 = true := fits3.2 (fun h => by cases h)
      have e3 := show stepU true [a, 0, 220] 0 = some ([], [65536 + unitN true a 0 % 1024 * 1024 + unitN true 220 0 % 1024]) by simp [stepU, f3, wholeN]
      refine ⟨5, by omega, ?_⟩
      unfold Fine
      rw [b5, scan_some _ e1, scan_some _ e2, scan_some _ e3]
      exact ⟨rfl, rfl⟩
    · have e1 : stepU π [a] 0 = some ([], [unitN π a 0]) := by simp [stepU, f1, wholeN, hu]
      refine ⟨1, by omega, ?_⟩
      unfold Fine
      rw [b1, scan_some _ e1]
      exact ⟨rfl, rfl⟩
  | [a, b], h, _, _ =>
    cases π
    · refine ⟨3, by omega, ?_⟩
      unfold Fine
      rw [b3, scan_pair (by omega) (by omega) (by decide)]
      exact ⟨rfl, rfl⟩
    · refine ⟨4, by omega, ?_⟩
      unfold Fine
      rw [b4, scan_pair (by omega) (by omega) (by decide)]
      exact ⟨rfl, rfl⟩
  | [a, b, c], h, _, _ =>
    cases π
    · have f3 : fitsN false [a, b, c] 220 = true := fits3.2 (fun _ => l220)
      have e3 := show stepU false [a, b, c] 220 = some ([], [65536 + unitN false a b % 1024 * 1024 + unitN false c 220 % 1024]) by simp [stepU, f3, wholeN]
      refine ⟨2, by omega, ?_⟩
      unfold Fine
      rw [b2, scan_some _ e3]
      exact ⟨rfl, rfl⟩
    · have f3 : fitsN true [a, b, c] 0 = true := fits3.2 (fun h => by cases h)
      have e3 := show stepU true [a, b, c] 0 = some ([], [65536 + unitN true a b % 1024 * 1024 + unitN true c 0 % 1024]) by simp [stepU, f3, wholeN]
      refine ⟨1, by omega, ?_⟩
      unfold Fine
      rw [b1, scan_some _ e3]
      exact ⟨rfl, rfl⟩
/-- Read behind such bytes: no error just if they are fine. -/
theorem fine_end {st : St} (h : Good π st) (hb : ∀ x ∈ st, 0 ≤ x ∧ x < 256) (m : List Int) : endQ (scan (stepU π) (st0 π) (st ++ m)) = 0 ↔ Fine π st m := by
  have e : scan (stepU π) (st0 π) (st ++ m) = (scan (stepU π) st m).pre [] st.length := by
    show scan (stepU π) [] (st ++ m) = _
    rw [scan_append, scan_self h hb]; rfl
  rw [e]
  unfold endQ Fine
  obtain ⟨t, n, s', bd⟩ := scan (stepU π) st m
  simp only [Res.pre]
  cases bd
  · cases s' with
    | nil => simp [rest]
    | cons a r => simp [rest]
  · simp

set_option maxHeartbeats 8000000 in
set_option maxRecDepth 100000 in
theorem rRest_any (str : ByteArray) (X : Res St) (w : World) (hX : X = scan (stepU π) (st0 π) (bytesL str)) (hbad : X.bad = false) (hs : str.size ≤ 1000) :
    Calls Try.prog 23 #[.string str, .bool π] w fun e w' => ∃ r : ByteArray, e = .returned (.string r) ∧ Fine π X.st (bytesL r) ∧ r.size ≤ 3 ∧ Below w.heap.size w w' := by
  obtain ⟨f1, f2, f3⟩ := scan_facts π (bytesL str) (bytesL_byte str) [] (good_nil π) (by simp)
  have hX' : X = scan (stepU π) [] (bytesL str) := hX
  have hea := scan_all (stepU π) (bytesL str) [] (by rw [← hX']; exact hbad)
  rw [hea, List.take_length, ← hX', List.nil_append] at f1
  rw [← hX'] at f2 f3
  have htl : X.told.length ≤ 1000 := by rw [hX]; have := scan_short (stepU π) (step_one π) (bytesL str) (st0 π); rw [bytesL_length] at this; omega
  have hlen : (bytesOf (oneN π) X.told).length + X.st.length = str.size := by rw [← bytesL_length, ← f1, List.length_append]
  have hdr : (bytesL str).drop (bytesOf (oneN π) X.told).length = X.st := by rw [← f1]; simp
  have hst0 : ∀ x ∈ X.st, 0 ≤ x ∧ x < 256 := fun x hx => bytesL_byte str x (by rw [← f1]; simp [hx])
  have HX : Hid (X = scan (stepU π) (st0 π) (bytesL str)) := hX
  have HS : Hid (∀ c ∈ X.told, isB c = true ∧ 0 ≤ c) := f2
  have HG : Hid (Good π X.st ∧ (bytesL str).drop (bytesOf (oneN π) X.told).length = X.st ∧ ∀ x ∈ X.st, 0 ≤ x ∧ x < 256) := ⟨f3, hdr, hst0⟩
  clear hX hX' f1 hea f2 f3 hdr hst0 hbad
  go_enter Try.func23, Try.ntmps23
  go_wp2_with fail
  refine (rRead_any str X w HX.out (by omega)).mono ?_
  rintro e w1 ⟨vo, rfl, s1, g1, b1⟩
  obtain ⟨ao, co, hvo, -⟩ := s1.form
  obtain ⟨tl, htt⟩ : ∃ tl, X.told.length = tl := ⟨_, rfl⟩
  rw [htt] at hvo htl
  subst hvo
  have HR : Hid (Row .u32 w1 ao X.told ∧ X.told.length = tl ∧ Below w.heap.size w w1) := ⟨(seg_row s1).1, htt, b1⟩
  clear s1 g1 b1 htt
  go_wp2_with fail
  refine (rBytes_any (π := π) ao tl co X.told w1 HR.out.1 HR.out.2.1 (by omega) HS.out).mono ?_
  rintro e w2 ⟨rfl, b2⟩
  have HB2 : Hid (Below w.heap.size w w2) := below_two HR.out.2.2 b2
  clear b2
  obtain ⟨fr, hfr⟩ : ∃ fr, (bytesOf (oneN π) X.told).length = fr := ⟨_, rfl⟩
  have hsz : (Stp.strOf (bytesOf (oneN π) X.told)).size = fr := by rw [strOf_size, hfr]
  rw [hfr] at hlen HG
  obtain ⟨bt, hbt⟩ : ∃ bt, Stp.strOf (bytesOf (oneN π) X.told) = bt := ⟨_, rfl⟩
  rw [hbt] at hsz ⊢
  have hfs : (bt.size : Int) ≤ (str.size : Int) := by omega
  have HQ : Hid (bytesL (str.extract bt.size str.size) = X.st) := by show _ = _; rw [bytesL_drop, hsz]; exact HG.out.2.1
  clear hsz hfr hbt hlen
  have hqz : (str.extract bt.size str.size).size = X.st.length := by rw [← HQ.out, bytesL_length]
  have hq3 := HG.out.1.len
  by_cases hst : X.st = []
  · have hz0 : (((str.extract bt.size str.size).size : Int) == 0) = true := by rw [hqz, hst]; rfl
    have hz1 : (str.size - bt.size) = 0 := by have := hqz; rw [hst, ByteArray.size_extract] at this; simp at this; omega
    have HF : Hid (Fine π X.st (bytesL ⟨#[]⟩)) := by show Fine π X.st []; rw [hst]; exact ⟨rfl, rfl⟩
    clear hst hqz hq3
    go_wp2
    go_ret
    exact ⟨_, rfl, HF.out, by decide, HB2.out⟩
  · obtain ⟨j0, hj0, hfine⟩ := fine_some HG.out.1 hst HG.out.2.2
    have hl0 : X.st.length ≠ 0 := fun e => hst (List.length_eq_zero_iff.1 e)
    have hz0 : (((str.extract bt.size str.size).size : Int) == 0) = false := by rw [hqz]; simp; omega
    have HJ : Hid (Fine π X.st (bytesL (mS j0))) := hfine
    obtain ⟨qs, hqs⟩ : ∃ qs, str.extract bt.size str.size = qs := ⟨_, rfl⟩
    rw [hqs] at HQ hqz hz0
    have hz1 : qs.size ≤ 3 := by omega
    have hne : ¬ str.size - bt.size = 0 := by rw [← hqs, ByteArray.size_extract] at hqz; omega
    have hz2 : (((str.size - bt.size : Nat) : Int) == 0) = false := by simp only [beq_eq_false_iff_ne]; omega
    clear hne
    have HQS : Hid (str.extract bt.size str.size = qs) := hqs
    clear hqs hqz hq3 hst hfine hl0
    go_wp2
    rw [HQS.out]
    go_loopw [9] (fun i wr => i = .int .i64 0 ∧ wr = w2) (fun _ _ => 0)
    case atStart => exact ⟨rfl, rfl⟩
    case round =>
      obtain ⟨rfl, rfl⟩ := hrel
      go_wp2
      obtain ⟨B, hB⟩ : ∃ B, B = wr.heap.size := ⟨_, rfl⟩
      rw [← hB]
      have HBB : Hid (B = wr.heap.size) := hB
      clear hB
      go_loopw [37] (fun i wr => ∃ k : Nat, i = .int .i64 k ∧ k ≤ j0 ∧ Below w.heap.size w wr ∧ ∀ n, n < 7 → wr.cell? ⟨B, n, none⟩ = some (.string (mS n))) (fun i _ => 7 - (intOf i).toNat)
      case atStart =>
        refine ⟨0, rfl, Nat.zero_le _, HB2.out.alloc HB2.out.size _, fun n hn => ?_⟩
        rw [HBB.out, World.cell?_alloc_new]
        match n, hn with
        | 0, _ => rfl
        | 1, _ => rfl
        | 2, _ => rfl
        | 3, _ => rfl
        | 4, _ => rfl
        | 5, _ => rfl
        | 6, _ => rfl
      case round =>
        obtain ⟨k, rfl, hk, hBr, hcl⟩ := hrel
        have HI : Hid (Below w.heap.size w wr ∧ ∀ n, n < 7 → wr.cell? ⟨B, n, none⟩ = some (.string (mS n))) := ⟨hBr, hcl⟩
        have hcell := hcl k (by omega)
        clear hBr hcl
        have hk7 : (k : Int) < 7 := by omega
        obtain ⟨ms, hms⟩ : ∃ ms, mS k = ms := ⟨_, rfl⟩
        rw [hms] at hcell
        have hmz : ms.size ≤ 3 := by rw [← hms]; exact mS_size k
        have HMS : Hid (mS k = ms) := hms
        have g3 : ¬ 9223372036854775807 < qs.size + ms.size := by omega
        clear hms
        go_wp2_with fail
        obtain ⟨Z, hZ⟩ : ∃ Z, Z = scan (stepU π) (st0 π) (bytesL (qs ++ ms)) := ⟨_, rfl⟩
        refine (rRead_any (π := π) (qs ++ ms) Z wr hZ (by rw [← bytesL_length, bytesL_append, List.length_append, bytesL_length, bytesL_length]; omega)).mono ?_
        rintro e w4 ⟨vz, rfl, s4, f4, b4⟩
        have HE : Hid (endQ Z = 0 ↔ Fine π X.st (bytesL ms)) := by
          show _ ↔ _
          rw [hZ, bytesL_append, HQ.out]
          exact fine_end HG.out.1 HG.out.2.2 _
        have HI4 : Hid (Below w.heap.size w w4 ∧ ∀ n, n < 7 → w4.cell? ⟨B, n, none⟩ = some (.string (mS n))) := ⟨below_two HI.out.1 b4, fun n hn => cell_later b4 (HI.out.2 n hn)⟩
        obtain ⟨ez, hez⟩ : ∃ ez, endQ Z = ez := ⟨_, rfl⟩
        rw [hez] at HE
        rw [hez]
        clear hZ hez s4 f4 b4 HI hcell
        by_cases h0 : ez = 0
        · subst h0
          have HFF : Hid (Fine π X.st (bytesL ms)) := HE.out.1 rfl
          go_wp2
          go_ret
          exact ⟨_, rfl, HFF.out, hmz, HI4.out.1⟩
        · have h0' : (ez == 0) = false := by simp [h0]
          have hkj : k ≠ j0 := fun e => h0 (HE.out.2 (by rw [← HMS.out, e]; exact HJ.out))
          have HKJ : Hid (k + 1 ≤ j0) := by show k + 1 ≤ j0; omega
          clear h0 hkj
          go_wp2
          go_roundw
          case rel =>
            exact ⟨k + 1, by go_num, HKJ.out, HI4.out.1, HI4.out.2⟩
          case measure => simp [intOf]; omega
end U16
end Go.Proofs.Ytajpllhljgpidaa
