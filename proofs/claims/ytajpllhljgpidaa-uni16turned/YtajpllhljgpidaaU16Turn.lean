/-
  A text whose bytes are turned, two by two: what both machines tell of it; and the contract of the document's Turn of layer 4, as a walk over the translated text. The condition: the text has whole units, and is small.
-/
import Derived.Test.YtajpllhljgpidaaU16Byt
import Derived.Test.YtajpllhljgpidaaU16Ref
import Derived.Test.YtajpllhljgpidaaU16Enc
namespace Go.Proofs.Ytajpllhljgpidaa
open Go.ChangeShapes Go.WideShapes Go.ChangeAt Go.RowKit
namespace U16
open Bas Sca Stp Scn Cod
set_option linter.unusedVariables false

/-- Bytes, turned two by two. -/
def turnL : List Int → List Int
  | x :: y :: r => y :: x :: turnL r
  | l => l
theorem unit_turn (x y : Int) : unitN false y x = unitN true x y := by simp [unitN]
/-- What both machines tell is the same, up to the half of a unit at which an error lies. -/
def Alike (X Y : Res St) : Prop := X.told = Y.told ∧ X.bad = Y.bad ∧ (X.bad = false → rest X.st = rest Y.st) ∧ X.eaten / 2 = Y.eaten / 2
theorem Alike.pre {X Y : Res St} (h : Alike X Y) (t : List Int) : Alike (X.pre t 2) (Y.pre t 2) := by
  obtain ⟨h1, h2, h3, h4⟩ := h
  exact ⟨by simp [Res.pre, h1], h2, h3, by simp only [Res.pre]; omega⟩
theorem turn_scan (n : Nat) : ∀ L : List Int, L.length = 2 * n → (∀ x ∈ L, 0 ≤ x ∧ x < 256) →
    Alike (scan (stepU true) [] L) (scan (stepU false) [] (turnL L)) ∧ ∀ a b, isUp (unitN true a b) = true → Alike (scan (stepU true) [a, b] L) (scan (stepU false) [b, a] (turnL L)) := by
  induction n with
  | zero =>
    intro L hl _
    have : L = [] := List.length_eq_zero_iff.1 (by omega)
    subst this
    exact ⟨⟨rfl, rfl, fun _ => rfl, rfl⟩, fun a b _ => ⟨rfl, rfl, fun _ => rfl, rfl⟩⟩
  | succ n ih =>
    intro L hl hb
    match L, hl, hb with
    | [], hl, _ => simp at hl
    | [x], hl, _ => simp at hl; omega
    | x :: y :: r, hl, hb =>
      have hx := hb x (by simp); have hy := hb y (by simp)
      obtain ⟨i1, i2⟩ := ih r (by simp at hl; omega) (fun z hz => hb z (by simp [hz]))
      have hlo := lo_hi (π := true) hx hy
      simp only [if_true] at hlo
      have e1 : turnL (x :: y :: r) = y :: x :: turnL r := rfl
      rw [e1]
      constructor
      · by_cases hl2 : isLo (unitN true x y) = true
        · rw [hl2] at hlo
          have s1 : stepU true [] x = none := by
            have : fitsN true [] x = false := by simp [fitsN, hiAt, ← hlo]
            simp [stepU, this]
          have s2 : stepU false [] y = some ([y], []) := by
            have : fitsN false [] y = true := fits0.2 (fun h => by cases h)
            simp [stepU, this, wholeN]
          have s3 : stepU false [y] x = none := by
            have : fitsN false [y] x = false := by simp [fitsN, hiAt, ← hlo]
            simp [stepU, this]
          rw [scan_none _ s1, scan_some _ s2, scan_none _ s3]
          exact ⟨rfl, rfl, fun h => by simp at h, by simp [Res.pre]⟩
        · have hl3 : isLo (unitN true x y) = false := by simpa using hl2
          rw [scan_unit hx hy hl3, scan_unit hy hx (by rw [unit_turn]; exact hl3), unit_turn]
          split
          · rename_i hu
            exact (i2 x y hu).pre []
          · exact i1.pre _
      · intro a b hu
        by_cases hl2 : isLo (unitN true x y) = true
        · rw [scan_pair hx hy hl2, scan_pair hy hx (by rw [unit_turn]; exact hl2), unit_turn, unit_turn]
          exact i1.pre _
        · have hl3 : isLo (unitN true x y) = false := by simpa using hl2
          rw [hl3] at hlo
          have s1 : stepU true [a, b] x = none := by
            have : fitsN true [a, b] x = false := by simp [fitsN, hiAt, ← hlo]
            simp [stepU, this]
          have s2 : stepU false [b, a] y = some ([b, a, y], []) := by
            have : fitsN false [b, a] y = true := fits2.2 (fun h => by cases h)
            simp [stepU, this, wholeN]
          have s3 : stepU false [b, a, y] x = none := by
            have : fitsN false [b, a, y] x = false := by simp [fitsN, hiAt, ← hlo]
            simp [stepU, this]
          rw [scan_none _ s1, scan_some _ s2, scan_none _ s3]
          exact ⟨rfl, rfl, fun h => by simp at h, by simp [Res.pre]⟩
theorem Alike.endQ {X Y : Res St} (h : Alike X Y) : endQ X = endQ Y := by
  obtain ⟨h1, h2, h3, h4⟩ := h
  unfold U16.endQ
  rw [← h2]
  split
  · rfl
  · rename_i hb
    rw [h3 (by simpa using hb)]
theorem turnL_snoc (n : Nat) : ∀ L : List Int, L.length = 2 * n → ∀ x y, turnL (L ++ [x, y]) = turnL L ++ [y, x] := by
  induction n with
  | zero =>
    intro L hl x y
    have : L = [] := List.length_eq_zero_iff.1 (by omega)
    subst this; rfl
  | succ n ih =>
    intro L hl x y
    match L, hl with
    | [], hl => simp at hl
    | [x], hl => simp at hl; omega
    | a :: b :: r, hl =>
      have := ih r (by simp at hl; omega) x y
      simp [turnL, this]
theorem turnL_length (L : List Int) : (turnL L).length = L.length := by
  match L with
  | [] => rfl
  | [x] => rfl
  | x :: y :: r => simp [turnL, turnL_length r]
theorem turnL_byte (L : List Int) (h : ∀ x ∈ L, 0 ≤ x ∧ x < 256) : ∀ x ∈ turnL L, 0 ≤ x ∧ x < 256 := by
  match L with
  | [] => exact h
  | [x] => exact h
  | x :: y :: r =>
    intro z hz
    simp [turnL] at hz
    rcases hz with rfl | rfl | hz
    · exact h z (by simp)
    · exact h z (by simp)
    · exact turnL_byte r (fun u hu => h u (by simp [hu])) z hz
theorem take_two (L : List Int) (k : Nat) (h : k + 1 < L.length) : L.take (k + 2) = L.take k ++ [nth L k, nth L (k + 1)] := by
  rw [take_snoc L (k + 1) h, take_snoc L k (by omega)]; simp

set_option maxHeartbeats 8000000 in
set_option maxRecDepth 100000 in
theorem rTurn_any (str : ByteArray) (h : Nat) (w : World) (hz : str.size = 2 * h) (hn : h ≤ 100000) :
    Calls Try.prog 24 #[.string str] w fun e w' => e = .returned (.string (Stp.strOf (turnL (bytesL str)))) ∧ Below w.heap.size w w' := by
  have HZ : Hid (str.size = 2 * h ∧ (bytesL str).length = 2 * h) := ⟨hz, by rw [bytesL_length, hz]⟩
  have hzz : (str.size : Int) = 2 * h := by omega
  have HZZ : Hid ((str.size : Int) = 2 * h) := hzz
  clear hz hzz
  go_enter Try.func24, Try.ntmps24
  go_wp2
  go_loopw [3, 4] (fun o i wr => ∃ k : Nat, i = .int .i64 (2 * k : Nat) ∧ k ≤ h ∧ OutOf w wr o (turnL ((bytesL str).take (2 * k)))) (fun _ i _ => 2 * h - (intOf i).toNat)
  case atStart => exact ⟨0, rfl, Nat.zero_le _, seg_empty _ _ _, fun g hg => by simp [Value.ownBlock] at hg; omega, (Below.refl _ _).alloc (Nat.le_refl _) _⟩
  case round =>
    obtain ⟨k, rfl, hk, hO⟩ := hrel
    have HO : Hid (OutOf w wr u3 (turnL ((bytesL str).take (2 * k)))) := hO
    clear hO
    obtain ⟨K, hK⟩ : ∃ K, 2 * k = K := ⟨_, rfl⟩
    rw [hK] at HO ⊢
    have hKb : K ≤ 200000 := by omega
    by_cases hlt : k < h
    · have hl1 : K + 1 < (bytesL str).length := by rw [HZ.out.2]; omega
      obtain ⟨h0, m0, e0, n0, l0⟩ := byte_at (str := str) rfl (j := K) (by omega)
      obtain ⟨h1, m1, e1, n1, l1⟩ := byte_at (str := str) rfl (j := K + 1) hl1
      have h0' : (K : Int) < (str.size : Int) := by omega
      have h1' : (K : Int) + 1 < (str.size : Int) := by omega
      have h1'' : (0 : Int) ≤ (K : Int) + 1 := by omega
      have ht : turnL ((bytesL str).take (2 * (k + 1))) = turnL ((bytesL str).take K) ++ [(m1 : Int), (m0 : Int)] := by
        rw [show 2 * (k + 1) = K + 2 by omega, take_two _ _ hl1, n0, n1]
        exact turnL_snoc k _ (by rw [List.length_take, HZ.out.2]; omega) _ _
      have hz2 : (turnL ((bytesL str).take K)).length ≤ 200000 := by rw [turnL_length, List.length_take]; omega
      obtain ⟨t, htt⟩ : ∃ t, turnL ((bytesL str).take K) = t := ⟨_, rfl⟩
      rw [htt] at ht hz2 HO
      have HT : Hid (turnL ((bytesL str).take (2 * (k + 1))) = t ++ [(m1 : Int), (m0 : Int)] ∧ 2 * k = K) := ⟨ht, hK⟩
      have hwK : IntKind.i64.wrap ((K : Int) + 1) = (K : Int) + 1 := wrap_i64s _ (by omega) (by omega)
      clear ht htt hK n0 n1 hl1
      go_upto_region 5 with fail
      have hBd : Below wr.heap.size wr (wr.alloc (.cells #[.int .u8 m1, .int .u8 m0] 5)).drew := ((Below.refl _ _).alloc (Nat.le_refl _) _).drew
      have hsg := HO.out.below hBd
      have hrw : Row .u8 (wr.alloc (.cells #[.int .u8 m1, .int .u8 m0] 5)).drew (some ⟨wr.heap.size, 0, none⟩) [(m1 : Int), (m0 : Int)] := (row_new .u8 wr [(m1 : Int), (m0 : Int)] 5 _ rfl).mono ((Below.refl _ _).drew)
      go_region_held3 (fun w' => True) (exact trivial)
        ((refine step_append_seg (by rfl) _ _ 46 46 (by rfl) .u8 5 1 Try.underlying46 info_u8 u3 t [(m1 : Int), (m0 : Int)] (by rfl) hsg.1 _ (by rfl) (src_row (l := [(m1 : Int), (m0 : Int)]) Try.underlying46 hrw rfl (fun h => by cases h)) (by unfold maxLen; simp; omega) (by simp; omega) ?_; intro vo w4 hs4 hc4 hm4))
      all_goals
        have HF4 : Hid (OutOf w w4 vo (t ++ [(m1 : Int), (m0 : Int)])) := HO.out.app hBd hs4 hc4 hm4
        clear hBd hsg hrw hs4 hc4 hm4
        go_wp2
        go_roundw
        case rel => exact ⟨k + 1, by have := HT.out.2; rw [show ((2 * (k + 1) : Nat) : Int) = (K : Int) + 2 by omega], by omega, by rw [HT.out.1]; exact HF4.out⟩
        case measure => simp [intOf]; have := HT.out.2; omega
    · have hkh : k = h := by omega
      have HF : Hid ((bytesL str).take K = bytesL str) := by
        show _ = _
        rw [List.take_of_length_le (by rw [HZ.out.2]; omega)]
      have hc1 : ¬ (K : Int) + 1 < (str.size : Int) := by have := HZ.out.1; omega
      obtain ⟨ao, co, hvo, hro, -⟩ := HO.out.1.form
      obtain ⟨ln, hln⟩ : ∃ ln, (turnL ((bytesL str).take K)).length = ln := ⟨_, rfl⟩
      rw [hln] at hvo
      subst hvo
      have hcv := run_string wr.drew _ ln co (turnL ((bytesL str).take K)) (hro.mono (Below.refl _ _).drew) hln
      have HB : Hid (Below w.heap.size w wr.drew) := HO.out.2.2.drew
      have hd1 : (str.size : Int).tdiv 2 = h := by rw [Int.tdiv_eq_ediv_of_nonneg (by omega), HZZ.out]; omega
      have hd2 : IntKind.i64.wrap (h : Int) = h := wrap_i64s _ (by omega) (by omega)
      have hd3 : IntKind.i64.wrap ((h : Int) * 2) = (h : Int) * 2 := wrap_i64s _ (by omega) (by omega)
      have hd4 : (0 : Int) ≤ (h : Int) * 2 := by omega
      have hd5 : (h : Int) * 2 ≤ (str.size : Int) := by have := HZ.out.1; omega
      have hts : (turnL ((bytesL str).take K)).length ≤ 200000 := by rw [turnL_length, List.length_take]; omega
      have g3 : ∀ x, ¬ 9223372036854775807 < (Stp.strOf (turnL ((bytesL str).take K))).size + (str.extract x str.size).size := fun x => by
        have := HZ.out.1
        rw [strOf_size, ByteArray.size_extract]; omega
      have g4 : ∀ x, ¬ 9223372036854775807 < (Stp.strOf (turnL ((bytesL str).take K))).size + (str.size - x) := fun x => by
        have := HZ.out.1
        rw [strOf_size]; omega
      have HE : Hid (str.extract ((h : Int) * 2).toNat str.size = ByteArray.empty) := by
        show _ = _
        apply bytesL_inj
        rw [bytesL_drop, List.drop_of_length_le (by rw [HZ.out.2]; omega)]
        rfl
      clear hln hro HO hkh
      go_upto_region 6 with fail
      go_region_held3 (fun w' => (convert 46 9 (.slice ao ln co)).run Try.prog w' = .ok (.string (Stp.strOf (turnL ((bytesL str).take K)))) w') (exact hcv) (fail)
      all_goals
        go_wp2
        go_ret
        exact ⟨ret_str (by rw [HE.out, HF.out]; simp), HB.out⟩
end U16
end Go.Proofs.Ytajpllhljgpidaa
