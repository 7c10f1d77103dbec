/-
  Contracts of the document's Of, Has and Sniff of layer 17, as walks over the translated text. The condition: texts are of at most a million bytes.
-/
import Derived.Test.YtmihceoeoggjjaaSgRf2
import Derived.Test.YtmihceoeoggjjaaSgRf3
namespace Go.Proofs.Ytmihceoeoggjjaa
open Go.ChangeShapes Go.WideShapes Go.ChangeAt Go.RowKit
namespace Sig
open Bas Txt
set_option linter.unusedVariables false

/-- A codec's signature as a text. -/
def sigS (c : Int) : ByteArray := strOf (sigL c)
theorem sigS_bytes (c : Int) : bytesL (sigS c) = sigL c := by
  refine bytesL_strOf _ fun x hx => ?_
  by_cases h : sigL c = []
  · rw [h] at hx; cases hx
  · rcases sig_ne.1 h with rfl | rfl | rfl | rfl | rfl | rfl | rfl | rfl <;> revert x <;> decide
theorem sigS_size (c : Int) : (sigS c).size = (sigL c).length := strOf_size _
theorem sigS_le (c : Int) : (sigS c).size ≤ 4 := by rw [sigS_size]; exact sig_len c
theorem sig_nil {c : Int} (h : ¬ hasS c) : sigL c = [] := by
  by_cases e : sigL c = []
  · exact e
  · exact absurd (sig_ne.1 e) h
theorem ret_str {s t : ByteArray} (h : s = t) : Ending.returned (.string s) = .returned (.string t) := by rw [h]
set_option maxHeartbeats 4000000 in
theorem rOf_any (c : Int) (w : World) : Calls Try.prog 10 #[.int .i64 c] w fun e w' => e = .returned (.string (sigS c)) ∧ Below w.heap.size w w' := by
  have HB : Hid (Below w.heap.size w (w.alloc (.cells #[.int .u32 65279] 35))) := (Below.refl _ _).alloc (Nat.le_refl _) _
  have HR : Hid (Row .u32 (w.alloc (.cells #[.int .u32 65279] 35)) (some ⟨w.heap.size, 0, none⟩) [65279]) := row_new .u32 w [65279] _ _ rfl
  by_cases h : hasS c
  · rcases h with rfl | rfl | rfl | rfl | rfl | rfl | rfl | rfl
    · go_enter Try.func10, Try.ntmps10
      go_wp2_with fail
      refine (byt3 _ 1 _ HR.out).mono ?_
      rintro e w1 ⟨rfl, hb⟩
      go_wp2
      go_ret
      exact ⟨ret_str (by decide +kernel), below_two HB.out hb⟩
    · go_enter Try.func10, Try.ntmps10
      go_wp2_with fail
      refine (byt4b _ 1 _ HR.out).mono ?_
      rintro e w1 ⟨rfl, hb⟩
      go_wp2
      go_ret
      exact ⟨ret_str (by decide +kernel), below_two HB.out hb⟩
    · go_enter Try.func10, Try.ntmps10
      go_wp2_with fail
      refine (byt4l _ 1 _ HR.out).mono ?_
      rintro e w1 ⟨rfl, hb⟩
      go_wp2
      go_ret
      exact ⟨ret_str (by decide +kernel), below_two HB.out hb⟩
    · go_enter Try.func10, Try.ntmps10
      go_wp2_with fail
      refine (byt5b _ 1 _ HR.out).mono ?_
      rintro e w1 ⟨rfl, hb⟩
      go_wp2
      go_ret
      exact ⟨ret_str (by decide +kernel), below_two HB.out hb⟩
    · go_enter Try.func10, Try.ntmps10
      go_wp2_with fail
      refine (byt5l _ 1 _ HR.out).mono ?_
      rintro e w1 ⟨rfl, hb⟩
      go_wp2
      go_ret
      exact ⟨ret_str (by decide +kernel), below_two HB.out hb⟩
    · go_enter Try.func10, Try.ntmps10
      go_wp2_with fail
      refine (byt8 _ 1 _ HR.out).mono ?_
      rintro e w1 ⟨rfl, hb⟩
      go_wp2
      go_ret
      exact ⟨ret_str (by decide +kernel), below_two HB.out hb⟩
    · go_enter Try.func10, Try.ntmps10
      go_wp2_with fail
      refine (byt12 _ 1 _ HR.out).mono ?_
      rintro e w1 ⟨rfl, hb⟩
      go_wp2
      go_ret
      exact ⟨ret_str (by decide +kernel), below_two HB.out hb⟩
    · go_enter Try.func10, Try.ntmps10
      go_wp2_with fail
      refine (byt15 _ 1 _ HR.out).mono ?_
      rintro e w1 ⟨rfl, hb⟩
      go_wp2
      go_ret
      exact ⟨ret_str (by decide +kernel), below_two HB.out hb⟩
  · have HE : Hid (sigS c = { data := #[] }) := by show _ = _; unfold sigS; rw [sig_nil h]; rfl
    rw [HE.out]
    unfold hasS at h
    have h1 : ¬ c = 1 := by omega
    have h2 : ¬ c = 2 := by omega
    have h3 : ¬ c = 3 := by omega
    have h4 : ¬ c = 4 := by omega
    have h5 : ¬ c = 5 := by omega
    have h6 : ¬ c = 6 := by omega
    have h8 : ¬ c = 8 := by omega
    have h9 : ¬ c = 9 := by omega
    clear h
    go_enter Try.func10, Try.ntmps10
    go_wp2
    go_ret
    exact ⟨rfl, HB.out⟩
theorem ext_low (U : ByteArray) (n : Nat) : bytesL (U.extract 0 n) = (bytesL U).take n := by
  unfold bytesL
  rw [ByteArray.data_extract, Array.toList_extract, List.extract_eq_take_drop, List.map_take, List.map_drop]
  simp
theorem str_beq (A B : ByteArray) : (A.toList == B.toList) = decide (A = B) := by
  rw [ByteArray.toList_eq, ByteArray.toList_eq]
  by_cases h : A = B
  · subst h; simp
  · rw [decide_eq_false h]
    simp
    exact fun e => h (str_ext (by rw [e]))
/-- How 'begins with it' is seen. -/
theorem pre_nil {l : List Int} {c : Int} (h : sigL c = []) : preB l c = false := pre_no fun hh => sig_ne.2 hh h
theorem pre_short {l : List Int} {c : Int} (h : l.length < (sigL c).length) : preB l c = false := by
  cases hp : preB l c with
  | false => rfl
  | true =>
    obtain ⟨-, r, rfl⟩ := pre_iff.1 hp
    simp at h; omega
theorem pre_ext {s : ByteArray} {c : Int} (h : ¬ sigL c = []) : preB (bytesL s) c = decide (s.extract 0 (sigS c).size = sigS c) := by
  unfold preB
  refine decide_eq_decide.2 ⟨fun e => ?_, fun e => ⟨h, ?_⟩⟩
  · apply bytesL_inj
    rw [ext_low, sigS_bytes, sigS_size]; exact e.2
  · have := congrArg bytesL e
    rwa [ext_low, sigS_bytes, sigS_size] at this
set_option maxHeartbeats 2000000 in
theorem rHas_any (s : ByteArray) (c : Int) (w : World) :
    Calls Try.prog 13 #[.string s, .int .i64 c] w fun e w' => e = .returned (.bool (preB (bytesL s) c)) ∧ Below w.heap.size w w' := by
  have HO : Hid (∀ w, Calls Try.prog 10 #[.int .i64 c] w fun e w' => e = .returned (.string (sigS c)) ∧ Below w.heap.size w w') := rOf_any c
  by_cases h0 : sigL c = []
  · have HE : Hid (sigS c = { data := #[] }) := by show _ = _; unfold sigS; rw [h0]; rfl
    rw [pre_nil h0]
    rw [HE.out] at HO
    clear h0 HE
    go_enter Try.func13, Try.ntmps13
    go_wp2_with fail
    refine (HO.out w).mono ?_
    rintro e w1 ⟨rfl, hb⟩
    go_wp2
    go_ret
    exact ⟨rfl, hb⟩
  · have hne : (sigS c).toList.isEmpty = false := by rcases sig_ne.1 h0 with rfl | rfl | rfl | rfl | rfl | rfl | rfl | rfl <;> decide +kernel
    have hle := sigS_le c
    by_cases hs : s.size < (sigS c).size
    · rw [pre_short (by rw [bytesL_length, ← sigS_size]; exact hs)]
      obtain ⟨S, hS⟩ : ∃ S, sigS c = S := ⟨_, rfl⟩
      rw [hS] at HO hne hs hle
      have i1 : (s.size : Int) < (S.size : Int) := by omega
      clear hS h0
      go_enter Try.func13, Try.ntmps13
      go_wp2_with fail
      refine (HO.out w).mono ?_
      rintro e w1 ⟨rfl, hb⟩
      go_wp2
      go_ret
      exact ⟨rfl, hb⟩
    · rw [pre_ext h0]
      obtain ⟨S, hS⟩ : ∃ S, sigS c = S := ⟨_, rfl⟩
      rw [hS] at HO hne hs hle ⊢
      have i1 : ¬ (s.size : Int) < (S.size : Int) := by omega
      have i2 : (S.size : Int) ≤ (s.size : Int) := by omega
      have i3 : S.size ≤ s.size := by omega
      clear hS h0
      go_enter Try.func13, Try.ntmps13
      go_wp2_with fail
      refine (HO.out w).mono ?_
      rintro e w1 ⟨rfl, hb⟩
      go_wp2
      go_ret
      exact ⟨ret_bool (str_beq _ _), hb⟩
set_option maxHeartbeats 8000000 in
theorem rSniff_any (s : ByteArray) (w : World) :
    Calls Try.prog 12 #[.string s] w fun e w' => e = .returned (.int .i64 (sniffL (bytesL s))) ∧ Below w.heap.size w w' := by
  have HO : Hid (∀ c w, Calls Try.prog 10 #[.int .i64 c] w fun e w' => e = .returned (.string (sigS c)) ∧ Below w.heap.size w w') := rOf_any
  have HH : Hid (∀ c w, Calls Try.prog 13 #[.string s, .int .i64 c] w fun e w' => e = .returned (.bool (preB (bytesL s) c)) ∧ Below w.heap.size w w') := rHas_any s
  have HF : Hid (bestL (bytesL s) 10 = sniffL (bytesL s)) := best_sniff _ (by decide)
  go_enter Try.func12, Try.ntmps12
  go_wp2
  go_loopw [4, 3] (fun i b wr => ∃ k : Nat, i = .int .i64 ((k + 1 : Nat) : Int) ∧ k ≤ 10 ∧ b = .int .i64 (bestL (bytesL s) k) ∧ Below w.heap.size w wr) (fun i _ _ => 11 - (intOf i).toNat)
  case atStart => exact ⟨0, rfl, by decide, rfl, Below.refl _ _⟩
  case round =>
    obtain ⟨k, rfl, hk, rfl, hb⟩ := hrel
    have HB : Hid (Below w.heap.size w wr) := hb
    clear hb
    by_cases hlt : k < 10
    · have HN : Hid (bestL (bytesL s) (k + 1) = if preB (bytesL s) ((k + 1 : Nat) : Int) = true ∧ (bestL (bytesL s) k = 0 ∨ (sigL (bestL (bytesL s) k)).length < (sigL ((k + 1 : Nat) : Int)).length) then (((k + 1 : Nat) : Int)) else bestL (bytesL s) k) := by
        show _ = _
        simp only [bestL]; push_cast; rfl
      obtain ⟨b, hbb⟩ : ∃ b, bestL (bytesL s) k = b := ⟨_, rfl⟩
      rw [hbb] at HN ⊢
      obtain ⟨x, hx⟩ : ∃ x, k + 1 = x := ⟨_, rfl⟩
      rw [hx] at HN ⊢
      have hx10 : x ≤ 10 := by omega
      have i1 : (x : Int) ≤ 10 := by omega
      obtain ⟨p, hp⟩ : ∃ p, preB (bytesL s) (x : Int) = p := ⟨_, rfl⟩
      have HHx : Hid (∀ w, Calls Try.prog 13 #[.string s, .int .i64 (x : Int)] w fun e w' => e = .returned (.bool p) ∧ Below w.heap.size w w') := by rw [← hp]; exact HH.out _
      rw [hp] at HN
      have HX : Hid (k + 1 = x) := hx
      clear hbb hp hx
      cases p with
      | false =>
        rw [if_neg (by simp)] at HN
        go_wp2_with fail
        refine (HHx.out wr).mono ?_
        rintro e w1 ⟨rfl, h1⟩
        go_wp2
        go_roundw
        case rel => exact ⟨x, by go_num, hx10, by rw [HN.out], below_two HB.out h1⟩
        case measure => simp [intOf]; omega
      | true =>
        by_cases hb0 : b = 0
        · replace HN : Hid (bestL (bytesL s) x = (x : Int)) := HN.out.trans (if_pos ⟨rfl, .inl hb0⟩)
          go_wp2_with fail
          refine (HHx.out wr).mono ?_
          rintro e w1 ⟨rfl, h1⟩
          go_wp2
          go_roundw
          case rel => exact ⟨x, by go_num, hx10, by rw [HN.out], below_two HB.out h1⟩
          case measure => simp [intOf]; omega
        · have HY : Hid ((sigL b).length < (sigL (x : Int)).length → bestL (bytesL s) x = (x : Int)) := fun hl => HN.out.trans (if_pos ⟨rfl, .inr hl⟩)
          have HZ : Hid (¬ (sigL b).length < (sigL (x : Int)).length → bestL (bytesL s) x = b) := fun hl => HN.out.trans (if_neg (fun h => h.2.elim hb0 hl))
          clear HN
          have HL1 : Hid ((sigS (x : Int)).size = (sigL (x : Int)).length ∧ (sigS b).size = (sigL b).length) := ⟨sigS_size _, sigS_size _⟩
          go_wp2_with fail
          refine (HHx.out wr).mono ?_
          rintro e w1 ⟨rfl, h1⟩
          have HB1 : Hid (Below w.heap.size w w1) := below_two HB.out h1
          clear h1 HB
          go_wp2_with fail
          refine (HO.out (x : Int) w1).mono ?_
          rintro e w2 ⟨rfl, h2⟩
          have HB2 : Hid (Below w.heap.size w w2) := below_two HB1.out h2
          clear h2 HB1
          go_wp2_with fail
          refine (HO.out b w2).mono ?_
          rintro e w3 ⟨rfl, h3⟩
          have HB3 : Hid (Below w.heap.size w w3) := below_two HB2.out h3
          clear h3 HB2
          by_cases hlen : (sigL b).length < (sigL (x : Int)).length
          · have HN : bestL (bytesL s) x = (x : Int) := HY.out hlen
            have i2 : ((sigS (x : Int)).size : Int) > ((sigS b).size : Int) := by rw [HL1.out.1, HL1.out.2]; omega
            go_wp2
            go_roundw
            case rel => exact ⟨x, by go_num, hx10, by rw [HN], HB3.out⟩
            case measure => simp [intOf]; omega
          · have HN : bestL (bytesL s) x = b := HZ.out hlen
            have i2 : ¬ ((sigS (x : Int)).size : Int) > ((sigS b).size : Int) := by rw [HL1.out.1, HL1.out.2]; omega
            have i3 : ((sigS (x : Int)).size : Int) ≤ ((sigS b).size : Int) := by rw [HL1.out.1, HL1.out.2]; omega
            have i4 : ¬ (sigS b).size < (sigS (x : Int)).size := by rw [HL1.out.1, HL1.out.2]; exact hlen
            obtain ⟨S1, hS1⟩ : ∃ S1, sigS (x : Int) = S1 := ⟨_, rfl⟩
            obtain ⟨S2, hS2⟩ : ∃ S2, sigS b = S2 := ⟨_, rfl⟩
            rw [hS1] at i2 i3 i4 ⊢
            rw [hS2] at i2 i3 i4 ⊢
            clear hS1 hS2 hlen
            go_wp2
            go_roundw
            case rel => exact ⟨x, by go_num, hx10, by rw [HN], HB3.out⟩
            case measure => simp [intOf]; omega
    · obtain rfl : k = 10 := by omega
      rw [HF.out]
      go_wp2
      go_ret
      exact ⟨rfl, HB.out⟩
end Sig
end Go.Proofs.Ytmihceoeoggjjaa
