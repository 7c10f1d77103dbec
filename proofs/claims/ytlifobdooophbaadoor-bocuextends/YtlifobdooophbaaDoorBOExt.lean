/-
  The contract of the document's Rest of layer 12, as a walk over the translated text: bytes with which a beginning goes on. The condition: the text is right so far, and small.
-/
import Derived.Test.YtlifobdooophbaaDoorBORRd
namespace Go.Proofs.YtlifobdooophbaaDoor
open Go.ChangeShapes Go.WideShapes Go.ChangeAt Go.RowKit
namespace BO
open Bas Sca Stp Scn Cod
set_option linter.unusedVariables false
variable {π : Par}

/-- With these bytes behind it a beginning is a whole. -/
def Fine (π : Par) (st : St) (m : List Int) : Prop := (scan (stepU π) st m).bad = false ∧ rest (scan (stepU π) st m).st = true
theorem rest_byte {s : St} (hg : Boc.Good s) : (∀ x ∈ Boc.restB s, 0 ≤ x ∧ x < 256) ∧ (Boc.restB s).length ≤ 3 := by
  unfold Boc.restB
  by_cases e : s.beg = []
  · rw [if_pos e]; simp
  · obtain ⟨lo, hi, n, h1, h2, h3⟩ := hg.2 e
    rw [if_neg e, h1]
    simp only []
    have hc := Boc.least_is h3
    obtain ⟨c, hce⟩ : ∃ c, Boc.leastS (s.ag + lo) (s.ag + hi) = c := ⟨_, rfl⟩
    rw [hce] at hc ⊢
    have hci := isB_iff.1 hc.2.2.2
    have hin := Boc.ga_inR hg.1 hc.2.2.1 hci.1
    refine ⟨fun x hx => ?_, ?_⟩
    · have := Dif.pack_byte hin x (List.mem_of_mem_drop hx)
      omega
    · rw [List.length_drop, Dif.pack_len]
      have := Dif.trN_le (Dif.rowD (c - s.ag))
      have := List.length_pos_iff.2 e
      omega
theorem rest_fine (π : Par) {s : St} (hg : Boc.Good s) : Fine π s (Boc.restB s) := by
  rcases Boc.rest_goes hg with ⟨h1, h2⟩ | ⟨h1, c, hc, h33, h2⟩
  · rw [h2]; exact ⟨rfl, by simp [scan, rest, h1]⟩
  · unfold Fine
    have e : scan (stepU π) s (Boc.restB s) = ⟨[c], (Boc.restB s).length, ⟨Dif.prevI c, []⟩, false⟩ := h2
    rw [e]; exact ⟨rfl, rfl⟩
set_option maxHeartbeats 2000000 in
theorem rRest_any (s : ByteArray) (X : Res St) (w : World) (hX : X = scan (stepU π) (st0 π) (bytesL s)) (hb : X.bad = false) (hs : s.size ≤ 100000) :
    Calls Tryd.prog 26 #[.string s] w fun e w' => ∃ r, e = .returned (.string r) ∧ Fine π X.st (bytesL r) ∧ r.size ≤ 3 ∧ Below w.heap.size w w' := by
  have HX : Hid (X = scan Boc.stepB Boc.st0 (bytesL s)) := hX
  have hg : Boc.Good X.st := by rw [hX]; exact (Boc.scan_scalars (bytesL s) Boc.st0 Boc.good_0 (bytesL_byte s)).2
  have hrb := rest_byte hg
  have HF : Hid (Fine π X.st (bytesL (Stp.strOf (Boc.restB X.st))) ∧ (Stp.strOf (Boc.restB X.st)).size ≤ 3) := ⟨by rw [bytesL_strOf _ hrb.1]; exact rest_fine π hg, by rw [strOf_size]; exact hrb.2⟩
  have HB : Hid (X.bad = false) := hb
  clear hX hg hrb hb
  go_enter Tryd.func26, Tryd.ntmps26
  go_wp2_with fail
  refine (rRun_any s X w HX.out hs).mono ?_
  rintro e w2 ⟨vo, R, rfl, h, hR⟩
  have HR : Hid (R = Stp.strOf (Boc.restB X.st)) := hR HB.out
  have H : Hid (Below w.heap.size w w2) := h.2.2
  obtain ⟨ar, cr, hvr, -⟩ := h.1.form
  obtain ⟨tl, htl⟩ : ∃ tl, X.told.length = tl := ⟨_, rfl⟩
  rw [htl] at hvr
  subst hvr
  clear h htl hR
  go_wp2
  go_ret
  exact ⟨R, rfl, by rw [HR.out]; exact HF.out.1, by rw [HR.out]; exact HF.out.2, H.out⟩
end BO
end Go.Proofs.YtlifobdooophbaaDoor
