/-
  The contract of the document's Rest of layer 6, as a walk over the translated text: bytes with which a beginning goes on to a whole. The condition: the text is right so far, and small.
-/
import Derived.Test.YtjbgcclbomimiaaDoorM8RRd
import Derived.Test.YtjbgcclbomimiaaDoorM8Byt
namespace Go.Proofs.YtjbgcclbomimiaaDoor
open Go.ChangeShapes Go.WideShapes Go.ChangeAt Go.RowKit
namespace M8
open Bas Sca Stp Scn Cod
set_option linter.unusedVariables false
variable {π : Par}

/-- Bytes with which what has begun becomes whole. -/
def Fine (π : Par) (st : St) (m : List Int) : Prop := (scan (stepU π) st m).bad = false ∧ (scan (stepU π) st m).st = []
theorem fine_front {st : St} {c : Int} (hg : Good π st) (hne : st ≠ []) (hb : ∀ x ∈ st, 0 ≤ x ∧ x < 256) (h0 : 0 ≤ c) (hc : isB c = true) (hr : rowC c = rowN st) (hf : (oneN π c).take st.length = st) : Fine π st ((oneN π c).drop st.length) := by
  obtain ⟨R, hR⟩ : ∃ R, (oneN π c).drop st.length = R := ⟨_, rfl⟩
  have ho : oneN π c = st ++ R := by rw [← hR]; conv => lhs; rw [← List.take_append_drop st.length (oneN π c), hf]
  have hlen : st.length < (oneN π c).length := by
    rcases hg with e | ⟨_, h⟩
    · exact absurd e hne
    · rw [oneN_length, hr]; omega
  have h1 := scan_one π c h0 hc []
  rw [List.append_nil, ho, scan_append] at h1
  obtain ⟨f1, f2, f3⟩ := scan_facts π st hb [] (good_nil π) (by simp)
  rw [hR]
  cases hs : scan (stepU π) [] st with
  | mk t n s' bd =>
    rw [hs] at h1 f1
    cases bd with
    | true =>
      rw [if_pos rfl] at h1
      have := congrArg Res.bad h1
      simp [scan, Res.pre] at this
    | false =>
      have hea := scan_all (stepU π) st [] (by rw [hs])
      rw [hs] at hea
      simp only at hea
      subst hea
      simp only [Bool.false_eq_true, if_false] at h1
      simp only [List.nil_append, List.take_length] at f1
      have ht := congrArg Res.told h1
      have hbd := congrArg Res.bad h1
      have hst := congrArg Res.st h1
      simp only [scan, Res.pre, List.append_nil] at ht hbd hst
      cases t with
      | nil =>
        simp only [bytesOf, List.nil_append] at f1
        subst f1
        exact ⟨hbd, hst⟩
      | cons d r =>
        exfalso
        simp only [List.cons_append, List.cons.injEq] at ht
        obtain ⟨rfl, ht2⟩ := ht
        have := congrArg List.length f1
        simp only [bytesOf, List.length_append] at this
        rw [ho] at hlen
        have h2 := congrArg List.length ho
        rw [List.length_append] at h2 hlen
        omega
set_option maxHeartbeats 8000000 in
set_option maxRecDepth 100000 in
theorem rRest_any (str : ByteArray) (X : Res St) (w : World) (hX : X = scan (stepU π) (st0 π) (bytesL str)) (hbad : X.bad = false) (hs : str.size ≤ 1000) :
    Calls Tryd.prog 30 #[.string str] w fun e w' => ∃ r : ByteArray, e = .returned (.string r) ∧ Fine π X.st (bytesL r) ∧ r.size ≤ 5 ∧ Below w.heap.size w w' := by
  obtain ⟨f1, f2, f3⟩ := scan_facts π (bytesL str) (bytesL_byte str) [] (good_nil π) (by simp)
  have hX' : X = scan (stepU π) [] (bytesL str) := hX
  have hea := scan_all (stepU π) (bytesL str) [] (by rw [← hX']; exact hbad)
  rw [hea, List.take_length, ← hX', List.nil_append] at f1
  rw [← hX'] at f2 f3
  have htl : X.told.length ≤ 1000 := by rw [hX']; have := scan_short (stepU π) (step_one π) (bytesL str) []; rw [bytesL_length] at this; omega
  have hlen : (bytesOf (oneN π) X.told).length + X.st.length = str.size := by rw [← bytesL_length, ← f1, List.length_append]
  have hdr : (bytesL str).drop (bytesOf (oneN π) X.told).length = X.st := by rw [← f1]; simp
  have hst0 : ∀ x ∈ X.st, 0 ≤ x ∧ x < 256 := fun x hx => bytesL_byte str x (by rw [← f1]; simp [hx])
  have HX : Hid (X = scan (stepU π) (st0 π) (bytesL str)) := hX
  have HS : Hid (∀ c ∈ X.told, isB c = true ∧ 0 ≤ c) := f2
  have HG : Hid (Good π X.st ∧ (bytesL str).drop (bytesOf (oneN π) X.told).length = X.st ∧ ∀ x ∈ X.st, 0 ≤ x ∧ x < 256) := ⟨f3, hdr, hst0⟩
  clear hX hX' f1 hea f2 f3 hdr hst0 hbad
  go_enter Tryd.func30, Tryd.ntmps30
  go_wp2_with fail
  refine (rRead_any (π := π) str X w HX.out (by omega)).mono ?_
  rintro e w1 ⟨vo, rfl, s1, f1, b1⟩
  obtain ⟨ao, co, hvo, -⟩ := s1.form
  obtain ⟨tl, htt⟩ : ∃ tl, X.told.length = tl := ⟨_, rfl⟩
  rw [htt] at hvo htl
  subst hvo
  have HR : Hid (Row .u32 w1 ao X.told ∧ X.told.length = tl ∧ Below w.heap.size w w1) := ⟨(seg_row s1).1, htt, b1⟩
  clear s1 f1 b1 htt
  go_wp2_with fail
  refine (rBytes_any (π := π) ao tl co X.told w1 HR.out.1 HR.out.2.1 (by omega) HS.out).mono ?_
  rintro e w2 ⟨rfl, b2⟩
  have HB2 : Hid (Below w.heap.size w w2) := below_two HR.out.2.2 b2
  clear b2
  obtain ⟨fr, hfr⟩ : ∃ fr, (bytesOf (oneN π) X.told).length = fr := ⟨_, rfl⟩
  have hsz : (Stp.strOf (bytesOf (oneN π) X.told)).size = fr := by rw [strOf_size, hfr]
  rw [hfr] at hlen HG
  have HSZ : Hid ((Stp.strOf (bytesOf (oneN π) X.told)).size = fr) := hsz
  obtain ⟨bt, hbt⟩ : ∃ bt, Stp.strOf (bytesOf (oneN π) X.told) = bt := ⟨_, rfl⟩
  rw [hbt] at HSZ ⊢
  clear hsz hfr hbt
  by_cases hst : X.st = []
  · have hq : (bt.size : Int) = (str.size : Int) := by have := HSZ.out; rw [hst] at hlen; simp at hlen; omega
    have hq2 : ((bt.size : Int) == (str.size : Int)) = true := by simp; omega
    have HF : Hid (Fine π X.st (bytesL ⟨#[]⟩)) := by show Fine π X.st []; rw [hst]; exact ⟨rfl, rfl⟩
    clear hst hq
    go_wp2
    go_ret
    exact ⟨_, rfl, HF.out, by decide, HB2.out⟩
  · have hsl : X.st.length ≠ 0 := fun e => hst (List.length_eq_zero_iff.1 e)
    have hq2 : ((bt.size : Int) == (str.size : Int)) = false := by have := HSZ.out; simp; omega
    have hfs : (bt.size : Int) ≤ (str.size : Int) := by have := HSZ.out; omega
    have hbg : begN X.st = true := by
      rcases HG.out.1 with e | ⟨h, _⟩
      · exact absurd e hst
      · exact h
    have HP : Hid (begN X.st = true ∧ X.st ≠ [] ∧ 1 ≤ X.st.length) := ⟨hbg, hst, by omega⟩
    clear hbg hst
    go_wp2_with fail
    refine (begins_any _ X.st w2 ?_ HP.out.2.2).mono ?_
    · rw [bytesL_drop, HSZ.out, HG.out.2.1]
    rintro e w3 ⟨⟨c, rfl, hc⟩, b3⟩
    obtain ⟨c1, c2, c3, -, c5⟩ := least_ok (π := π) HP.out.2.2 HG.out.2.2 HP.out.1 (hc HP.out.1)
    have HC : Hid (isB c = true ∧ 0 ≤ c ∧ (oneN π c).take X.st.length = X.st ∧ Fine π X.st ((oneN π c).drop X.st.length) ∧ Below w.heap.size w w3) := ⟨c2, c3, c5, fine_front HG.out.1 HP.out.2.1 HG.out.2.2 c3 c2 c1 c5, below_two HB2.out b3⟩
    rw [HP.out.1]
    clear hc b3 c1 c2 c3 c5
    go_wp2_with fail
    refine (rOne_any (π := π) c w3 HC.out.1 HC.out.2.1).mono ?_
    rintro e w4 ⟨rfl, b4⟩
    have hol := oneN_max π c
    have HON : Hid (X.st.length ≤ (Stp.strOf (oneN π c)).size ∧ (Stp.strOf (oneN π c)).extract X.st.length (Stp.strOf (oneN π c)).size = Stp.strOf ((oneN π c).drop X.st.length) ∧ Below w.heap.size w w4 ∧ bytesL (Stp.strOf ((oneN π c).drop X.st.length)) = (oneN π c).drop X.st.length ∧ (Stp.strOf ((oneN π c).drop X.st.length)).size ≤ 5) := by
      refine ⟨?_, strOf_drop _ _, below_two HC.out.2.2.2.2 b4, bytesL_strOf _ (fun x hx => oneN_byte π c HC.out.1 HC.out.2.1 x (List.mem_of_mem_drop hx)), ?_⟩
      · have := congrArg List.length HC.out.2.2.1
        rw [List.length_take] at this
        rw [strOf_size]; omega
      · rw [strOf_size, List.length_drop]; omega
    clear b4 hol
    obtain ⟨on, hon⟩ : ∃ on, Stp.strOf (oneN π c) = on := ⟨_, rfl⟩
    rw [hon] at HON ⊢
    clear hon
    have hwr : IntKind.i64.wrap ((str.size : Int) - (bt.size : Int)) = (X.st.length : Int) := by
      have := HSZ.out
      rw [wrap_i64s _ (by omega) (by omega)]; omega
    have hle : (X.st.length : Int) ≤ (on.size : Int) := by have := HON.out.1; omega
    go_wp2
    go_ret
    refine ⟨on.extract X.st.length on.size, rfl, ?_, ?_, HON.out.2.2.1⟩
    · rw [HON.out.2.1, HON.out.2.2.2.1]; exact HC.out.2.2.2.1
    · rw [HON.out.2.1]; exact HON.out.2.2.2.2
end M8
end Go.Proofs.YtjbgcclbomimiaaDoor
