/-
  The contract of the document's Rest of layer 14, as a walk over the translated text: bytes with which a beginning goes on. The condition: the text is right so far, and small.
-/
import Derived.Test.YtohobpjiikpdmaaDoorEXRRd
namespace Go.Proofs.YtohobpjiikpdmaaDoor
open Go.ChangeShapes Go.WideShapes Go.ChangeAt Go.RowKit
namespace EX
open Bas Sca Stp Scn Cod Win
set_option linter.unusedVariables false
set_option linter.unusedSimpArgs false
variable {π : Par}

/-- With these bytes behind it a beginning is a whole. -/
def Fine (π : Par) (st : St) (m : List Int) : Prop := (scan (stepU π) st m).bad = false ∧ rest (scan (stepU π) st m).st = true
theorem scan_ok (l : List Int) (s : St) (hs : Exp.Good s) (hl : ∀ x ∈ l, 0 ≤ x ∧ x < 256) : Exp.Good (scan Exp.stepX s l).st ∧ ∀ c ∈ (scan Exp.stepX s l).told, isB c = true ∧ 0 ≤ c := by
  induction l generalizing s with
  | nil => exact ⟨hs, by simp [scan]⟩
  | cons b r ih =>
    cases h : Exp.stepX s b with
    | none => rw [scan_none _ h]; exact ⟨hs, by simp⟩
    | some z =>
      have hg := Exp.step_good hs (hl b (by simp)) h
      have := ih z.1 hg.1 (fun x hx => hl x (by simp [hx]))
      rw [scan_some _ h]
      refine ⟨this.1, fun c hc => ?_⟩
      simp only [Res.pre, List.mem_append] at hc
      rcases hc with hc | hc
      · exact hg.2.2 c hc
      · exact this.2 c hc
/-- The bytes that are tried. -/
def mB : Nat → ByteArray
  | 0 => ⟨#[]⟩ | 1 => ⟨#[1]⟩ | 2 => ⟨#[1, 1]⟩ | 3 => ⟨#[14, 220, 0]⟩ | 4 => ⟨#[220, 0]⟩ | 5 => ⟨#[0, 14, 220, 0]⟩ | 6 => ⟨#[0, 220, 0]⟩ | _ => ⟨#[]⟩
theorem seven (i : Nat) (h : i < 7) : i = 0 ∨ i = 1 ∨ i = 2 ∨ i = 3 ∨ i = 4 ∨ i = 5 ∨ i = 6 := by omega
theorem mB_bytes (i : Nat) (h : i < 7) : bytesL (mB i) = Exp.mS i := by
  rcases seven i h with rfl | rfl | rfl | rfl | rfl | rfl | rfl <;> rfl
theorem mB_size (i : Nat) (h : i < 7) : (mB i).size ≤ 4 := by
  rcases seven i h with rfl | rfl | rfl | rfl | rfl | rfl | rfl <;> decide
theorem mB_cells (w : World) {N : Nat} (hN : N = w.heap.size) (t : TypeId) (i : Nat) (h : i < 7) : (w.alloc (.cells #[.string ⟨#[]⟩, .string ⟨#[1]⟩, .string ⟨#[1, 1]⟩, .string ⟨#[14, 220, 0]⟩, .string ⟨#[220, 0]⟩, .string ⟨#[0, 14, 220, 0]⟩, .string ⟨#[0, 220, 0]⟩] t)).cell? ⟨N, i, none⟩ = some (.string (mB i)) := by
  rw [World.cell?_alloc_at _ _ _ _ hN]
  rcases seven i h with rfl | rfl | rfl | rfl | rfl | rfl | rfl <;> rfl
/-- Does such an end make it whole? -/
theorem end_fine {s m : ByteArray} {X : Res St} (hX : X = scan Exp.stepX Exp.st0 (bytesL s)) (hb : X.bad = false) : (endQ (scan Exp.stepX Exp.st0 (bytesL (s ++ m))) = 0) ↔ Fine π X.st (bytesL m) := by
  have e : scan Exp.stepX Exp.st0 (bytesL (s ++ m)) = (scan Exp.stepX X.st (bytesL m)).pre X.told X.eaten := by
    rw [bytesL_append, scan_append, ← hX, hb]; rfl
  rw [e]
  unfold Fine endQ
  show (if (scan Exp.stepX X.st (bytesL m)).bad = true then (3 : Int) else if Exp.rest (scan Exp.stepX X.st (bytesL m)).st = true then 0 else 4) = 0 ↔ (scan Exp.stepX X.st (bytesL m)).bad = false ∧ Exp.rest (scan Exp.stepX X.st (bytesL m)).st = true
  cases (scan Exp.stepX X.st (bytesL m)).bad <;> cases Exp.rest (scan Exp.stepX X.st (bytesL m)).st <;> simp
set_option maxHeartbeats 4000000 in
set_option maxRecDepth 100000 in
theorem rRest_any (s : ByteArray) (X : Res St) (w : World) (hX : X = scan (stepU π) (st0 π) (bytesL s)) (hb : X.bad = false) (hs : s.size ≤ 100000) :
    Calls Tryd.prog 18 #[.string s] w fun e w' => ∃ r, e = .returned (.string r) ∧ Fine π X.st (bytesL r) ∧ r.size ≤ 4 ∧ Below w.heap.size w w' := by
  have hg : Exp.Good X.st := by rw [hX]; exact (scan_ok (bytesL s) Exp.st0 Exp.good_0 (bytesL_byte s)).1
  have HE : Hid (∃ j, j < 7 ∧ Fine π X.st (bytesL (mB j))) := by
    obtain ⟨j, hj, hf⟩ := Exp.fin_some hg
    exact ⟨j, hj, by rw [mB_bytes j hj]; exact hf⟩
  have HF : Hid (∀ m : ByteArray, (endQ (scan Exp.stepX Exp.st0 (bytesL (s ++ m))) = 0) ↔ Fine π X.st (bytesL m)) := fun m => end_fine hX hb
  obtain ⟨N, hN⟩ : ∃ N, w.heap.size = N := ⟨_, rfl⟩
  have HN : Hid (w.heap.size = N) := hN
  clear hX hb hg
  go_enter Tryd.func18, Tryd.ntmps18
  go_wp2
  have HC0 : Hid ((∀ i, i < 7 → (w.alloc (.cells #[.string ⟨#[]⟩, .string ⟨#[1]⟩, .string ⟨#[1, 1]⟩, .string ⟨#[14, 220, 0]⟩, .string ⟨#[220, 0]⟩, .string ⟨#[0, 14, 220, 0]⟩, .string ⟨#[0, 220, 0]⟩] 9)).cell? ⟨N, i, none⟩ = some (.string (mB i))) ∧ Below N w (w.alloc (.cells #[.string ⟨#[]⟩, .string ⟨#[1]⟩, .string ⟨#[1, 1]⟩, .string ⟨#[14, 220, 0]⟩, .string ⟨#[220, 0]⟩, .string ⟨#[0, 14, 220, 0]⟩, .string ⟨#[0, 220, 0]⟩] 9)) ∧ N < (w.alloc (.cells #[.string ⟨#[]⟩, .string ⟨#[1]⟩, .string ⟨#[1, 1]⟩, .string ⟨#[14, 220, 0]⟩, .string ⟨#[220, 0]⟩, .string ⟨#[0, 14, 220, 0]⟩, .string ⟨#[0, 220, 0]⟩] 9)).heap.size) :=
    ⟨fun i hi => mB_cells w hN.symm _ i hi, (Below.refl _ _).alloc (by omega) _, by simp; omega⟩
  generalize w.alloc (.cells #[.string ⟨#[]⟩, .string ⟨#[1]⟩, .string ⟨#[1, 1]⟩, .string ⟨#[14, 220, 0]⟩, .string ⟨#[220, 0]⟩, .string ⟨#[0, 14, 220, 0]⟩, .string ⟨#[0, 220, 0]⟩] 9) = W0 at *
  clear hN
  go_loopw [7] (fun q wr => ∃ i : Nat, q = .int .i64 i ∧ i ≤ 7 ∧ (∀ j, j < i → ¬ Fine π X.st (bytesL (mB j))) ∧ (∀ i, i < 7 → wr.cell? ⟨N, i, none⟩ = some (.string (mB i))) ∧ Below N w wr ∧ N < wr.heap.size) (fun q _ => 7 - (intOf q).toNat)
  case atStart => exact ⟨0, rfl, by decide, fun j hj => by omega, HC0.out.1, HC0.out.2.1, HC0.out.2.2⟩
  case round =>
    obtain ⟨i, rfl, hi, hno, hcs, hbl, hlt⟩ := hrel
    have HI : Hid ((∀ j, j < i → ¬ Fine π X.st (bytesL (mB j))) ∧ (∀ i, i < 7 → wr.cell? ⟨N, i, none⟩ = some (.string (mB i))) ∧ Below N w wr ∧ N < wr.heap.size) := ⟨hno, hcs, hbl, hlt⟩
    clear hno hcs hbl hlt
    by_cases hi7 : i < 7
    · have hci := HI.out.2.1 i hi7
      have hii : (i : Int) < 7 := by omega
      have hmz := mB_size i hi7
      have HFI : Hid _ := HF.out (mB i)
      obtain ⟨m, hm⟩ : ∃ m, mB i = m := ⟨_, rfl⟩
      have HM : Hid (mB i = m) := hm
      rw [hm] at hci hmz HFI
      have hsum : ¬ 9223372036854775807 < s.size + m.size := by omega
      clear hm
      go_wp2_with fail
      refine (rRun_any (s ++ m) (scan Exp.stepX Exp.st0 (bytesL (s ++ m))) wr rfl (by rw [ByteArray.size_append]; omega)).mono ?_
      rintro e w2 ⟨T, rfl, s2, vo, vw, hr, hb2⟩
      have h5 := hr.c5
      have HB2 : Hid ((∀ i, i < 7 → w2.cell? ⟨N, i, none⟩ = some (.string (mB i))) ∧ Below N w w2 ∧ N < w2.heap.size) := ⟨fun j hj => by
        have hc := chg_of_below hb2 (Nat.le_refl _) (fun _ _ => False)
        exact hc.cellAt (HI.out.2.1 j hj) id, HI.out.2.2.1.trans (hb2.mono (Nat.le_of_lt HI.out.2.2.2)), Nat.lt_of_lt_of_le HI.out.2.2.2 hb2.size⟩
      by_cases hq : endQ (scan Exp.stepX Exp.st0 (bytesL (s ++ m))) = 0
      · have hfn : Fine π X.st (bytesL m) := HFI.out.1 hq
        have HFN : Hid (Fine π X.st (bytesL m)) := hfn
        rw [hq] at h5
        clear hr hb2 hq hfn
        go_wp2
        go_ret
        exact ⟨m, rfl, HFN.out, hmz, by rw [HN.out]; exact HB2.out.2.1⟩
      · have hfn : ¬ Fine π X.st (bytesL m) := fun e => hq (HFI.out.2 e)
        have HFN : Hid (∀ j, j < i + 1 → ¬ Fine π X.st (bytesL (mB j))) := fun j hj => by
          by_cases e : j = i
          · rw [e, HM.out]; exact hfn
          · exact HI.out.1 j (by omega)
        obtain ⟨Q, hQ⟩ : ∃ Q, endQ (scan Exp.stepX Exp.st0 (bytesL (s ++ m))) = Q := ⟨_, rfl⟩
        rw [hQ] at h5 hq
        have hQ0 : (Q == 0) = false := by simp [hq]
        clear hr hb2 hfn hQ
        go_wp2
        go_roundw
        case rel => exact ⟨i + 1, by go_num, by omega, HFN.out, HB2.out⟩
        case measure => simp [intOf]; omega
    · obtain ⟨j, hj, hf⟩ := HE.out
      exact absurd hf (HI.out.1 j (by omega))
end EX
end Go.Proofs.YtohobpjiikpdmaaDoor
