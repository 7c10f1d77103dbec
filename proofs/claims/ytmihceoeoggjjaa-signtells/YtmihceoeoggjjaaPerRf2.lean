/-
  Contracts of the document's All, To, From, Turn, Text and Back of layer 7, as walks over the translated text. The condition: texts are of at most a million bytes.
-/
import Derived.Test.YtmihceoeoggjjaaPerRef
namespace Go.Proofs.Ytmihceoeoggjjaa
open Go.ChangeShapes Go.WideShapes Go.ChangeAt Go.RowKit
namespace Per
open Bas Txt
set_option linter.unusedVariables false

/-- The bytes so far: the program's own, in new memory. -/
def OutOf (w wr : World) (o : Value) (t : List Int) : Prop := Seg .u8 wr o t ∧ (∀ g, o.ownBlock = some g → w.heap.size ≤ g) ∧ Below w.heap.size w wr
theorem OutOf.below {w wr w2 : World} {o : Value} {t : List Int} (h : OutOf w wr o t) (b : Below wr.heap.size wr w2) : OutOf w w2 o t :=
  ⟨h.1.chg (chg_of_below b (Nat.le_refl _) (fun _ _ => False)) (fun _ _ _ h => h), h.2.1, below_two h.2.2 b⟩
theorem OutOf.app {w wr w2 w3 : World} {o o' : Value} {t t' : List Int} (h : OutOf w wr o t) (b : Below wr.heap.size wr w2) (hs : Seg .u8 w3 o' t') (hc : Chg (fun b _ => o.ownBlock = some b) w2 w3) (hm : Mov w2 o o') : OutOf w w3 o' t' := by
  have hz := h.2.2.size
  have hb := below_two h.2.2 b
  refine ⟨hs, fun g hg => ?_, hb.trans (hc.below (by have := b.size; omega) (fun k j hk hh => by have := h.2.1 k hh; omega))⟩
  rcases hm g hg with e | e
  · exact h.2.1 g e
  · have := b.size; omega
theorem rowL_take : rowL.take 160 = rowL := List.take_of_length_le (by rw [rowL_len]; exact Nat.le_refl _)

set_option maxHeartbeats 8000000 in
set_option maxRecDepth 100000 in
theorem rAll_any (w : World) : Calls Try.prog 36 #[] w fun e w' => e = .returned (.string (strOf tabL)) ∧ Below w.heap.size w w' := by
  go_enter Try.func36, Try.ntmps36
  go_wp2
  go_loopw [1, 2] (fun o i wr => ∃ k : Nat, i = .int .i64 k ∧ k ≤ 160 ∧ OutOf w wr o (rowL.take k)) (fun _ i _ => 160 - (intOf i).toNat)
  case atStart => exact ⟨0, rfl, Nat.zero_le _, seg_empty _ _ _, fun g hg => by simp [Value.ownBlock] at hg; omega, (Below.refl _ _).alloc (Nat.le_refl _) _⟩
  case round =>
    obtain ⟨k, rfl, hk, hO⟩ := hrel
    have HO : Hid (OutOf w wr u1 (rowL.take k)) := hO
    clear hO
    by_cases hlt : k < 160
    · have i1 : (k : Int) < 160 := by omega
      have HR : Hid (Calls Try.prog 54 #[.int .i64 k] wr fun e w' => e = .returned (.int .i64 (nth rowL k)) ∧ w' = wr) := rKnown_any k wr hlt
      have hrf := row_fact ⟨k, hlt⟩
      simp only at hrf
      have HT : Hid (rowL.take (k + 1) = rowL.take k ++ [nth rowL k] ∧ (rowL.take k).length ≤ 160) := ⟨take_snoc rowL k (by rw [rowL_len]; exact hlt), by simp; omega⟩
      obtain ⟨r, hr⟩ : ∃ r, nth rowL k = r := ⟨_, rfl⟩
      obtain ⟨t, ht⟩ : ∃ t, rowL.take k = t := ⟨_, rfl⟩
      rw [hr] at HR hrf HT
      rw [ht] at HT HO
      clear hr ht
      obtain ⟨r0, r1⟩ := hrf
      go_wp2_with fail
      refine HR.out.mono ?_
      rintro e w2 ⟨rfl, hw⟩
      rw [hw]
      clear hw w2 HR
      have HSA : Hid (∀ o, OutOf w (wr.alloc o) u1 t) := fun o => HO.out.below ((Below.refl _ _).alloc (Nat.le_refl _) o)
      go_wp2_with (at_builtin; go_must (refine wpList_append_seg rfl _ _ 40 40 rfl .u8 5 1 Try.underlying40 info_u8 u1 t [r] rfl (HSA.out _).1 _ rfl (src_row (l := [r]) Try.underlying40 (by exact row_new .u8 wr [r] _ _ rfl) rfl (fun h => by cases h)) (by have := HT.out.2; unfold maxLen; simp; omega) (by have := HT.out.2; simp; omega) ?_; intro vo w4 hs4 hc4 hm4))
      have HF4 : Hid (OutOf w w4 vo (t ++ [r])) := HO.out.app ((Below.refl _ _).alloc (Nat.le_refl _) _) hs4 hc4 hm4
      clear hs4 hc4 hm4 HSA
      go_roundw
      case rel => exact ⟨k + 1, by go_num, by omega, by rw [HT.out.1]; exact HF4.out⟩
      case measure => simp [intOf]; omega
    · obtain rfl : k = 160 := by omega
      rw [rowL_take] at HO
      go_wp2
      go_loopw [1, 3] (fun o x wr => ∃ k : Nat, x = .int .i64 k ∧ k ≤ 256 ∧ OutOf w wr o (allK k)) (fun _ x _ => 256 - (intOf x).toNat)
      case atStart => exact ⟨0, rfl, Nat.zero_le _, HO.out⟩
      case round =>
        clear HO hk hlt
        obtain ⟨k, rfl, hk, hO⟩ := hrel
        have HO : Hid (OutOf w wr u1 (allK k)) := hO
        clear hO
        by_cases hlt : k < 256
        · have i1 : (k : Int) < 256 := by omega
          have HL : Hid (160 ≤ (allK k).length ∧ (allK k).length ≤ 160 + k) := allK_len k
          obtain ⟨ao, co, hvo, -⟩ := HO.out.1.form
          obtain ⟨ln, hln⟩ : ∃ ln, (allK k).length = ln := ⟨_, rfl⟩
          rw [hln] at hvo HL
          subst hvo
          have hl1 := HL.out.1
          have hl2 := HL.out.2
          have HLN : Hid ((allK k).length = ln) := hln
          have HC : Hid (∀ j, j < 160 → ∃ g of, ao = some ⟨g, of, none⟩ ∧ wr.cell? ⟨g, of + j, none⟩ = some (.int .u8 (nth rowL j))) := fun j hj => by
            obtain ⟨g, of, h1, h2, -⟩ := HO.out.1.at (j := j) (by omega)
            rw [allK_row k j hj] at h2
            exact ⟨g, of, h1, h2⟩
          clear hln
          obtain ⟨W, rfl⟩ : ∃ W, W = wr := ⟨_, rfl⟩
          go_wp2
          go_loopw [4, 5] (fun t i wq => ∃ j : Nat, i = .int .i64 j ∧ j ≤ 160 ∧ t = .bool (inK k j) ∧ wq = W) (fun _ i _ => 160 - (intOf i).toNat)
          case atStart => exact ⟨0, rfl, Nat.zero_le _, rfl, rfl⟩
          case round =>
            obtain ⟨j, rfl, hj, rfl, hwq⟩ := hrel
            subst hwq
            by_cases hjt : j < 160
            · have i2 : (j : Int) < 160 := by omega
              obtain ⟨g, of, rfl, hcell⟩ := HC.out j hjt
              have i3 : (j : Int) < (ln : Int) := by omega
              have HS := inK_succ k j hjt
              cases hin : inK k j with
              | true =>
                have HT : Hid (inK k (j + 1) = true) := by rw [hin, Bool.true_or] at HS; exact HS
                clear HS hin
                go_wp2
                go_roundw
                case rel => exact ⟨j + 1, by go_num, by omega, by rw [HT.out], trivial⟩
                case measure => simp [intOf]; omega
              | false =>
                have HT : Hid (inK k (j + 1) = (nth rowL j == (k : Int))) := by rw [hin, Bool.false_or] at HS; exact HS
                clear HS hin
                go_wp2
                go_roundw
                case rel => exact ⟨j + 1, by go_num, by omega, by rw [HT.out], trivial⟩
                case measure => simp [intOf]; omega
            · have i2 : ¬ (j : Int) < 160 := by omega
              have hin : inK k j = inR k := by rw [show j = 160 by omega, inK_all]
              rw [hin]
              clear hin
              cases hr : inR k with
              | true =>
                have HN : Hid (allK (k + 1) = allK k) := by show _ = _; rw [allK, if_pos hr]
                clear hr
                go_wp2
                go_roundw
                case rel => exact ⟨k + 1, by go_num, by omega, by rw [HN.out]; exact HO.out⟩
                case measure => simp [intOf]; omega
              | false =>
                have HN : Hid (allK (k + 1) = allK k ++ [(k : Int)]) := by show _ = _; rw [allK, hr]; rfl
                clear hr
                obtain ⟨t, ht⟩ : ∃ t, allK k = t := ⟨_, rfl⟩
                rw [ht] at HN HO HLN
                clear ht
                have HSA : Hid (∀ o, OutOf w (wr.alloc o) (.slice ao ln co) t) := fun o => HO.out.below ((Below.refl _ _).alloc (Nat.le_refl _) o)
                go_wp2_with (at_builtin; go_must (refine wpList_append_seg rfl _ _ 40 40 rfl .u8 5 1 Try.underlying40 info_u8 (.slice ao ln co) t [(k : Int)] rfl (HSA.out _).1 _ rfl (src_row (l := [(k : Int)]) Try.underlying40 (by exact row_new .u8 wr [(k : Int)] _ _ rfl) rfl (fun h => by cases h)) (by have := HLN.out; unfold maxLen; simp; omega) (by have := HLN.out; simp; omega) ?_; intro vo w4 hs4 hc4 hm4))
                have HF4 : Hid (OutOf w w4 vo (t ++ [(k : Int)])) := HO.out.app ((Below.refl _ _).alloc (Nat.le_refl _) _) hs4 hc4 hm4
                clear hs4 hc4 hm4 HSA
                go_roundw
                case rel => exact ⟨k + 1, by go_num, by omega, by rw [HN.out]; exact HF4.out⟩
                case measure => simp [intOf]; omega
        · obtain rfl : k = 256 := by omega
          rw [allK_all] at HO
          obtain ⟨ao, co, hvo, hro, -⟩ := HO.out.1.form
          rw [tabL_len] at hvo
          subst hvo
          have hcv := run_string wr _ 256 co tabL hro tabL_len
          have HB : Hid (Below w.heap.size w wr) := HO.out.2.2
          clear hro HO
          go_wp2
          go_ret
          exact ⟨rfl, HB.out⟩
end Per
end Go.Proofs.Ytmihceoeoggjjaa
