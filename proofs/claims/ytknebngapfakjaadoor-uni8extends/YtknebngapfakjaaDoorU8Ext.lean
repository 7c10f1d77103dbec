/-
  The contract of the document's Rest of layer 3, as a walk over the translated text: the bytes with which a beginning goes on. The condition: the text is right so far, and small.
-/
import Derived.Test.YtknebngapfakjaaDoorU8Law2
import Derived.Test.YtknebngapfakjaaDoorU8One
namespace Go.Proofs.YtknebngapfakjaaDoor
open Go.ChangeShapes Go.WideShapes Go.ChangeAt Go.RowKit
namespace U8
open Bas Sca Stp Scn
set_option linter.unusedVariables false

theorem good_split {st : List Int} (h : Good st) (hne : st ≠ []) : ∃ s b, st = s ++ [b] ∧ Good s := by
  rcases h with rfl | ⟨ho, hn⟩
  · exact absurd rfl hne
  match st, ho, hn with
  | [a], ho, hn => exact ⟨[], a, rfl, good_nil⟩
  | [a, b], ho, hn =>
    simp [okq] at ho
    exact ⟨[a], b, rfl, .inr ⟨by simp [okq]; omega, by simp [nth] at hn ⊢; omega⟩⟩
  | [a, b, c], ho, hn =>
    simp [okq] at ho
    exact ⟨[a, b], c, rfl, .inr ⟨by simp [okq]; omega, by simp [nth] at hn ⊢; omega⟩⟩
  | [a, b, c, d], ho, hn =>
    have := needN_le (nth [a, b, c, d] 0)
    simp at hn; omega
theorem scan_self (n : Nat) : ∀ st : List Int, st.length = n → Good st → scan stepU [] st = ⟨[], st.length, st, false⟩ := by
  induction n with
  | zero => intro st hl _; rw [List.length_eq_zero_iff.1 hl]; rfl
  | succ n ih =>
    intro st hl hg
    obtain ⟨s, b, rfl, hs⟩ := good_split hg (by intro e; rw [e] at hl; simp at hl)
    have h1 := ih s (by simpa using hl) hs
    rcases hg with e | ⟨ho, hn⟩
    · simp at e
    have hst : stepU s b = some (s ++ [b], []) := step_beg (by simp only [isBeg, ho, Bool.true_and, decide_eq_true_eq]; exact hn)
    rw [scan_append, h1]
    simp only [Bool.false_eq_true, if_false]
    rw [scan_some _ hst]
    simp [scan, Res.pre]
theorem scan_rest {st rest : List Int} {c : Int} (h : Good st) (ho : oneN c = st ++ rest) (hc : isB c = true) (h0 : 0 ≤ c) : scan stepU st rest = ⟨[c], rest.length, [], false⟩ := by
  have h1 := scan_one c h0 hc []
  rw [List.append_nil, ho, scan_append, scan_self _ st rfl h] at h1
  simp only [Bool.false_eq_true, if_false] at h1
  cases hs : scan stepU st rest with
  | mk t n s b =>
    rw [hs] at h1
    simp [scan, Res.pre] at h1
    simp [h1]
/-- The bytes with which a beginning goes on. -/
def restN (st : List Int) : List Int := if st = [] then [] else (oneN (leastU st)).drop st.length
theorem rest_one {st : List Int} (h : Good st) (hne : st ≠ []) (hb : ∀ x ∈ st, 0 ≤ x) : oneN (leastU st) = st ++ restN st ∧ isB (leastU st) = true ∧ 0 ≤ leastU st := by
  rcases h with e | ⟨ho, _⟩
  · exact absurd e hne
  have hl := okq_len ho
  have := least_ok ho (hb _ (nth_mem (by omega)))
  refine ⟨?_, this.2.2.2.1, this.2.2.2.2⟩
  unfold restN
  rw [if_neg hne]
  conv => lhs; rw [← List.take_append_drop st.length (oneN (leastU st)), this.2.1]
theorem restN_len (st : List Int) : (restN st).length ≤ 4 := by
  unfold restN
  split
  · simp
  · rw [List.length_drop, oneN_length]; have := sizeN_bd (leastU st); omega
theorem strOf_drop (l : List Int) (k : Nat) : (Stp.strOf l).extract k (Stp.strOf l).size = Stp.strOf (l.drop k) := by
  apply str_ext
  rw [ByteArray.data_extract, Array.toList_extract, List.extract_eq_take_drop, strOf_data, strOf_data, strOf_size, List.map_drop, ← List.drop_take]
  rw [List.take_of_length_le (by simp)]

set_option maxHeartbeats 8000000 in
set_option maxRecDepth 100000 in
theorem rRest_any (str : ByteArray) (X : Res (List Int)) (w : World) (hX : X = scan stepU [] (bytesL str)) (hbad : X.bad = false) (hs : str.size ≤ 1000) :
    Calls Tryd.prog 23 #[.string str] w fun e w' => e = .returned (.string (Stp.strOf (restN X.st))) ∧ Below w.heap.size w w' := by
  have hpos : ∀ x ∈ bytesL str, 0 ≤ x := fun x hx => (bytesL_byte str x hx).1
  have hby := scan_bytes (bytesL str) hpos [] (by simp)
  have hea := scan_all stepU (bytesL str) [] (by rw [← hX]; exact hbad)
  rw [hea, List.take_length, ← hX, List.nil_append] at hby
  have hsc := scan_scalars (bytesL str) hpos [] (by simp)
  rw [← hX] at hsc
  have hgd : Good X.st := by rw [hX]; exact scan_good stepU Good step_good (bytesL str) [] good_nil
  have htl : X.told.length ≤ 1000 := by rw [hX]; have := scan_short stepU step_one (bytesL str) []; rw [bytesL_length] at this; omega
  have hlen : (bytesN X.told).length + X.st.length = str.size := by rw [← bytesL_length, ← hby, List.length_append]
  have hdr : (bytesL str).drop (bytesN X.told).length = X.st := by rw [← hby]; simp
  have hst0 : ∀ x ∈ X.st, 0 ≤ x := fun x hx => hpos x (by rw [← hby]; simp [hx])
  have HX : Hid (X = scan stepU [] (bytesL str)) := hX
  have HS : Hid (∀ c ∈ X.told, isB c = true ∧ 0 ≤ c) := hsc
  have HG : Hid (Good X.st ∧ (bytesL str).drop (bytesN X.told).length = X.st ∧ ∀ x ∈ X.st, 0 ≤ x) := ⟨hgd, hdr, hst0⟩
  clear hX hby hea hsc hgd hdr hst0 hbad
  go_enter Tryd.func23, Tryd.ntmps23
  go_wp2_with fail
  refine (rRead_any str X w HX.out (by omega)).mono ?_
  rintro e w1 ⟨vo, rfl, s1, f1, b1⟩
  obtain ⟨ao, co, hvo, -⟩ := s1.form
  obtain ⟨tl, htt⟩ : ∃ tl, X.told.length = tl := ⟨_, rfl⟩
  rw [htt] at hvo htl
  subst hvo
  have HR : Hid (Row .u32 w1 ao X.told ∧ X.told.length = tl ∧ Below w.heap.size w w1) := ⟨(seg_row s1).1, htt, b1⟩
  clear s1 f1 b1 htt
  go_wp2_with fail
  refine (rBytes_any ao tl co X.told w1 HR.out.1 HR.out.2.1 (by omega) HS.out).mono ?_
  rintro e w2 ⟨rfl, b2⟩
  have HB2 : Hid (Below w.heap.size w w2) := below_two HR.out.2.2 b2
  clear b2
  obtain ⟨fr, hfr⟩ : ∃ fr, (bytesN X.told).length = fr := ⟨_, rfl⟩
  have hsz : (Stp.strOf (bytesN X.told)).size = fr := by rw [strOf_size, hfr]
  rw [hfr] at hlen HG
  have HSZ : Hid ((Stp.strOf (bytesN X.told)).size = fr) := hsz
  obtain ⟨bt, hbt⟩ : ∃ bt, Stp.strOf (bytesN X.told) = bt := ⟨_, rfl⟩
  rw [hbt] at HSZ ⊢
  clear hsz hfr hbt
  by_cases hst : X.st = []
  · have hq : (bt.size : Int) = (str.size : Int) := by have := HSZ.out; rw [hst] at hlen; simp at hlen; omega
    have hq2 : ((bt.size : Int) == (str.size : Int)) = true := by simp; omega
    have HN : Hid (Stp.strOf (restN X.st) = ⟨#[]⟩) := by show _ = _; rw [hst]; rfl
    clear hst hq
    go_wp2
    go_ret
    exact ⟨by rw [HN.out]; rfl, HB2.out⟩
  · have hsl : X.st.length ≠ 0 := fun e => hst (List.length_eq_zero_iff.1 e)
    have hq2 : ((bt.size : Int) == (str.size : Int)) = false := by have := HSZ.out; simp; omega
    have hfs : (bt.size : Int) ≤ (str.size : Int) := by have := HSZ.out; omega
    obtain ⟨s', b', hsp, hgs⟩ := good_split HG.out.1 hst
    have hro := rest_one HG.out.1 hst HG.out.2.2
    have hokq : okq X.st = true := by
      rcases HG.out.1 with e | ⟨h, _⟩
      · exact absurd e hst
      · exact h
    have HP : Hid (X.st = s' ++ [b'] ∧ Good s' ∧ oneN (leastU X.st) = X.st ++ restN X.st ∧ isB (leastU X.st) = true ∧ 0 ≤ leastU X.st ∧ okq X.st = true ∧ X.st ≠ []) := ⟨hsp, hgs, hro.1, hro.2.1, hro.2.2, hokq, hst⟩
    clear hsp hgs hro hokq hst
    go_wp2_with fail
    refine (begins_any _ s' b' w2 ?_ HP.out.2.1).mono ?_
    · rw [bytesL_drop, HSZ.out, HG.out.2.1]; exact HP.out.1
    rintro e w3 ⟨⟨c, ok, rfl, hok, hc⟩, b3⟩
    rw [← HP.out.1] at hok hc
    have hok2 := hok.trans HP.out.2.2.2.2.2.1
    have hc2 := hc HP.out.2.2.2.2.2.1
    subst hok2
    have HC : Hid (c = leastU X.st ∧ Below w.heap.size w w3) := ⟨hc2, below_two HB2.out b3⟩
    clear hok hc hc2 b3
    go_wp2_with fail
    refine (rOne_any c w3 (by rw [HC.out.1]; exact HP.out.2.2.2.1) (by rw [HC.out.1]; exact HP.out.2.2.2.2.1)).mono ?_
    rintro e w4 ⟨rfl, b4⟩
    have HON : Hid ((Stp.strOf (oneN c)).size = X.st.length + (restN X.st).length ∧ (Stp.strOf (oneN c)).extract X.st.length (Stp.strOf (oneN c)).size = Stp.strOf (restN X.st) ∧ Below w.heap.size w w4) := by
      refine ⟨by rw [strOf_size, HC.out.1, HP.out.2.2.1, List.length_append], ?_, below_two HC.out.2 b4⟩
      rw [strOf_drop, HC.out.1, HP.out.2.2.1]; simp
    clear b4
    obtain ⟨on, hon⟩ : ∃ on, Stp.strOf (oneN c) = on := ⟨_, rfl⟩
    rw [hon] at HON ⊢
    clear hon
    have hwr : IntKind.i64.wrap ((str.size : Int) - (bt.size : Int)) = (X.st.length : Int) := by
      have := HSZ.out
      rw [wrap_small _ (by omega) (by omega)]; omega
    have hle : (X.st.length : Int) ≤ (on.size : Int) := by have := HON.out.1; omega
    go_wp2
    go_ret
    exact ⟨by rw [← HON.out.2.1]; rfl, HON.out.2.2⟩
end U8
end Go.Proofs.YtknebngapfakjaaDoor
