/-
  The contract of the document's Rest of layer 5, as a walk over the translated text: bytes with which a beginning goes on. The condition: the text is right so far, and small.
-/
import Derived.Test.YtafigcmiibemeaaU32RRd
import Derived.Test.YtafigcmiibemeaaU32Byt
namespace Go.Proofs.Ytafigcmiibemeaa
open Go.ChangeShapes Go.WideShapes Go.ChangeAt Go.RowKit
namespace U32
open Bas Sca Stp Scn Cod
set_option linter.unusedVariables false
variable {π : Par}

/-- With these bytes behind it a beginning is a whole. -/
def Fine (π : Par) (st : St) (m : List Int) : Prop := (scan (stepU π) st m).bad = false ∧ (scan (stepU π) st m).st = []
theorem bytes_four (l : List Int) : (bytesOf (oneN π) l).length = 4 * l.length := by
  induction l with
  | nil => rfl
  | cons c r ih => rw [bytesOf, List.length_append, oneN_length, ih, List.length_cons]; omega
theorem beg_front {st : St} (hg : Good π st) (hne : st ≠ []) (hb : ∀ x ∈ st, 0 ≤ x ∧ x < 256) : isB (begC π st) = true ∧ 0 ≤ begC π st ∧ (oneN π (begC π st)).take st.length = st := by
  have hbg := hg.2 hne
  have hl := hg.1
  have hl1 : 1 ≤ st.length := by have := List.length_pos_iff.2 hne; omega
  rw [beg_is ⟨hl1, by omega⟩ hb] at hbg
  have hnb := numN_bd (π := π) (show st.length ≤ 4 by omega) hb
  by_cases hi : isB (numN π st) = true
  · have e : begC π st = numN π st := by unfold begC; rw [if_pos hi]
    rw [e]
    refine ⟨hi, hnb.1, ?_⟩
    clear e hi hbg hnb hg
    match st, hl1, hl with
    | [a], _, _ =>
      have := hb a (by simp)
      rw [num1]; cases π <;> simp [oneN] <;> omega
    | [a, b], _, _ =>
      have := hb a (by simp); have := hb b (by simp)
      rw [num2]; cases π <;> simp [oneN] <;> omega
    | [a, b, c], _, _ =>
      have := hb a (by simp); have := hb b (by simp); have := hb c (by simp)
      rw [num3]; cases π <;> simp [oneN] <;> omega
  · have hi' : isB (numN π st) = false := by simpa using hi
    rw [hi'] at hbg
    simp at hbg
    obtain ⟨rfl, h2⟩ := hbg
    have e : begC false st = numN false st + 65536 := by unfold begC; rw [if_neg hi, if_pos ⟨rfl, h2⟩]
    rw [e]
    match st, h2 with
    | [a, b], _ =>
      have := hb a (by simp); have := hb b (by simp)
      rw [num2]
      refine ⟨isB_true (by simp; omega), by simp; omega, ?_⟩
      simp [oneN]; omega
theorem fine_front {st : St} {c : Int} (hne : st ≠ []) (hl : st.length ≤ 3) (h0 : 0 ≤ c) (hc : isB c = true) (hf : (oneN π c).take st.length = st) : Fine π st ((oneN π c).drop st.length) := by
  obtain ⟨a, b, d, e, he, h1, h2, h3, h4⟩ := beg_one (π := π) h0 hc
  rw [he] at hf ⊢
  have e1 : stepU π [a] b = some ([a, b], []) := step_mid (s := [a]) h2 (by simp)
  have e2 : stepU π [a, b] d = some ([a, b, d], []) := step_mid (s := [a, b]) h3 (by simp)
  have e3 : stepU π [a, b, d] e = some ([], [numN π [a, b, d, e]]) := step_last (s := [a, b, d]) h4 (by simp)
  have hl' : st.length = 1 ∨ st.length = 2 ∨ st.length = 3 := by have := List.length_pos_iff.2 hne; omega
  unfold Fine
  rcases hl' with hn | hn | hn
  · rw [hn] at hf ⊢
    have hf' : [a] = st := hf
    rw [← hf']
    show (scan (stepU π) [a] [b, d, e]).bad = false ∧ (scan (stepU π) [a] [b, d, e]).st = []
    rw [scan_some _ e1, scan_some _ e2, scan_some _ e3]; exact ⟨rfl, rfl⟩
  · rw [hn] at hf ⊢
    have hf' : [a, b] = st := hf
    rw [← hf']
    show (scan (stepU π) [a, b] [d, e]).bad = false ∧ (scan (stepU π) [a, b] [d, e]).st = []
    rw [scan_some _ e2, scan_some _ e3]; exact ⟨rfl, rfl⟩
  · rw [hn] at hf ⊢
    have hf' : [a, b, d] = st := hf
    rw [← hf']
    show (scan (stepU π) [a, b, d] [e]).bad = false ∧ (scan (stepU π) [a, b, d] [e]).st = []
    rw [scan_some _ e3]; exact ⟨rfl, rfl⟩
set_option maxHeartbeats 8000000 in
set_option maxRecDepth 100000 in
theorem rRest_any (str : ByteArray) (X : Res St) (w : World) (hX : X = scan (stepU π) (st0 π) (bytesL str)) (hbad : X.bad = false) (hs : str.size ≤ 1000) :
    Calls Try.prog 23 #[.string str, .bool π] w fun e w' => ∃ r : ByteArray, e = .returned (.string r) ∧ Fine π X.st (bytesL r) ∧ r.size ≤ 3 ∧ Below w.heap.size w w' := by
  obtain ⟨f1, f2, f3⟩ := scan_facts π (bytesL str) (bytesL_byte str) [] (good_nil π) (by simp)
  have hX' : X = scan (stepU π) [] (bytesL str) := hX
  have hea := scan_all (stepU π) (bytesL str) [] (by rw [← hX']; exact hbad)
  rw [hea, List.take_length, ← hX', List.nil_append] at f1
  rw [← hX'] at f3
  have hlen : 4 * X.told.length + X.st.length = str.size := by rw [← bytesL_length, ← f1, List.length_append, bytes_four]
  have hl3 := f3.len
  obtain ⟨F, hF⟩ : ∃ F, str.size / 4 * 4 = F := ⟨_, rfl⟩
  have hdr : (bytesL str).drop F = X.st := by
    rw [← f1, show F = (bytesOf (oneN π) X.told).length by rw [bytes_four]; omega]; simp
  have hst0 : ∀ x ∈ X.st, 0 ≤ x ∧ x < 256 := fun x hx => bytesL_byte str x (by rw [← f1]; simp [hx])
  have hqz : bytesL (str.extract F str.size) = X.st := by rw [bytesL_drop]; exact hdr
  have HG : Hid (Good π X.st ∧ ∀ x ∈ X.st, 0 ≤ x ∧ x < 256) := ⟨f3, hst0⟩
  have hF4 : (str.size : Int) / 4 * 4 = (F : Int) := by omega
  have hFs : (F : Int) ≤ (str.size : Int) := by omega
  have hsz : (str.extract F str.size).size = X.st.length := by rw [← hqz, bytesL_length]
  have hsz' : str.size - F = X.st.length := by omega
  obtain ⟨qs, hqs⟩ : ∃ qs, str.extract F str.size = qs := ⟨_, rfl⟩
  rw [hqs] at hqz hsz
  have HQ : Hid (bytesL qs = X.st ∧ str.extract F str.size = qs) := ⟨hqz, hqs⟩
  have HZ : Hid (qs.size = X.st.length ∧ str.size - F = X.st.length ∧ X.st.length ≤ 3) := ⟨hsz, hsz', hl3⟩
  clear hX hX' f1 hea f2 f3 hdr hst0 hbad hlen hl3 hF hqz hsz hsz' hqs
  by_cases hst : X.st = []
  · have HF : Hid (Fine π X.st (bytesL ⟨#[]⟩)) := by show Fine π X.st []; rw [hst]; exact ⟨rfl, rfl⟩
    have hz1 : str.size - F = 0 := by rw [HZ.out.2.1, hst]; rfl
    have hz0 : ((qs.size : Int) == 0) = true := by rw [HZ.out.1, hst]; rfl
    clear hst
    go_enter Try.func23, Try.ntmps23
    go_wp2
    go_ret
    exact ⟨_, rfl, HF.out, by decide, Below.refl _ _⟩
  · have hl1 := List.length_pos_iff.2 hst
    obtain ⟨c1, c2, c3⟩ := beg_front HG.out.1 hst HG.out.2
    have hfn := fine_front hst HZ.out.2.2 c2 c1 c3
    have hbt := HG.out.1.2 hst
    have HBT : Hid (begN π X.st = true) := hbt
    obtain ⟨c, hc⟩ : ∃ c, begC π X.st = c := ⟨_, rfl⟩
    rw [hc] at c1 c2 hfn
    have HC : Hid (begC π X.st = c ∧ isB c = true ∧ 0 ≤ c) := ⟨hc, c1, c2⟩
    have HFN : Hid (Fine π X.st ((oneN π c).drop X.st.length)) := hfn
    have hn0 : ¬ str.size - F = 0 := by rw [HZ.out.2.1]; omega
    have hz0 : ((qs.size : Int) == 0) = false := by rw [HZ.out.1]; simp; omega
    have hz2 : (((str.size - F : Nat) : Int) == 0) = false := by rw [HZ.out.2.1]; simp; omega
    clear c1 c2 c3 hfn hbt hc hn0 hst
    go_enter Try.func23, Try.ntmps23
    go_wp2_with fail
    rw [HQ.out.2]
    refine (rBegins_any (π := π) qs X.st w HQ.out.1 ⟨hl1, by have := HZ.out; omega⟩).mono ?_
    rintro e w2 ⟨rfl, rfl⟩
    rw [HBT.out, HC.out.1]
    go_wp2_with fail
    have hB7 := (Below.refl w2.heap.size w2).alloc (Nat.le_refl _) (.cells #[.int .u32 c] 46)
    refine (rBytes_any (π := π) _ 1 1 [c] _ (by exact row_new .u32 _ [c] _ _ (by simp)) rfl (by omega) (by intro x hx; simp at hx; subst hx; exact HC.out.2)).mono ?_
    rintro e w3 ⟨rfl, b3⟩
    have HB3 : Hid (Below w2.heap.size w2 w3) := below_two hB7 b3
    have hb1 : bytesOf (oneN π) [c] = oneN π c := bytesOf_one _ _
    rw [hb1]
    obtain ⟨bs, hbs⟩ : ∃ bs, Stp.strOf (oneN π c) = bs := ⟨_, rfl⟩
    have hbz : bs.size = 4 := by rw [← hbs, strOf_size, oneN_length]
    have HBS : Hid (bytesL bs = oneN π c) := by
      show _ = _
      rw [← hbs]; exact bytesL_strOf _ (oneN_byte π c HC.out.2.1 HC.out.2.2)
    rw [hbs]
    clear hbs hB7 b3 hb1
    have hqb : (qs.size : Int) ≤ (bs.size : Int) := by have := HZ.out; omega
    have HR : Hid (bytesL (bs.extract qs.size 4) = (oneN π c).drop X.st.length) := by
      show _ = _
      rw [← hbz, bytesL_drop, HBS.out, HZ.out.1]
    go_wp2
    go_ret
    refine ⟨bs.extract qs.size 4, rfl, by rw [HR.out]; exact HFN.out, ?_, HB3.out⟩
    rw [← bytesL_length, HR.out, List.length_drop, oneN_length]; omega
end U32
end Go.Proofs.Ytafigcmiibemeaa
