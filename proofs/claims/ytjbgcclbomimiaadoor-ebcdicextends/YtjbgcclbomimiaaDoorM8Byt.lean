/-
  The contracts of the document's One and Bytes of layer 6, as walks over the translated text. The condition: scalars, not too many.
-/
import Derived.Test.YtjbgcclbomimiaaDoorM8Rd
import Derived.Test.YtjbgcclbomimiaaDoorM8Enc
import Derived.Test.YtjbgcclbomimiaaDoorM8Beg
import Derived.Test.YtjbgcclbomimiaaDoorMemStep
namespace Go.Proofs.YtjbgcclbomimiaaDoor
open Go.ChangeShapes Go.WideShapes Go.ChangeAt Go.RowKit
namespace M8
open Bas Sca Stp Scn Cod
set_option linter.unusedVariables false
variable {π : Par}

/-- The bytes so far: the program's own, in new memory. -/
def OutOf (w wr : World) (o : Value) (t : List Int) : Prop := Seg .u8 wr o t ∧ (∀ g, o.ownBlock = some g → w.heap.size ≤ g) ∧ Below w.heap.size w wr
theorem lead_small {c x : Int} {n : Nat} (h1 : c ≤ 1114111) (h0 : 0 ≤ c) (hn : rowC c = n) (hx : c / p32 n = x) : leadN n + x < 256 := by
  have hr := rowC_iff c
  have hle := rowC_le c
  have : n = 0 ∨ n = 1 ∨ n = 2 ∨ n = 3 ∨ n = 4 := by omega
  rcases this with rfl | rfl | rfl | rfl | rfl <;> simp [p32, leadN] at hx ⊢ <;> omega
/-- A slice of one number, new. -/
theorem seg_one (w : World) (x : Int) (t : TypeId) : Seg .u8 (w.alloc (.cells #[.int .u8 x] t)) (.slice (some ⟨w.heap.size, 0, none⟩) 1 1) [x] :=
  .inr ⟨w.heap.size, 0, 1, rfl, by simp, by simp, by simp [maxLen], fun i hi => by
    simp at hi; subst hi
    rw [World.cell?_alloc_new]; rfl, fun i hi => by
    obtain rfl : i = 0 := by omega
    rw [World.cell?_alloc_new]; rfl, fun o => by simp⟩
theorem seg_one_at (w : World) (x : Int) (t : TypeId) {N : Nat} (hN : N = w.heap.size) : Seg .u8 (w.alloc (.cells #[.int .u8 x] t)) (.slice (some ⟨N, 0, none⟩) 1 1) [x] := by
  subst hN; exact seg_one w x t
set_option maxHeartbeats 4000000 in
set_option maxRecDepth 100000 in
theorem rOne_any (c : Int) (w : World) (h : isB c = true) (h0 : 0 ≤ c) :
    Calls Tryd.prog 55 #[.int .u32 c] w fun e w' => e = .returned (.string (Stp.strOf (oneN π c))) ∧ Below w.heap.size w w' := by
  have h1 := isB_le h
  obtain ⟨n, hn⟩ : ∃ n, rowC c = n := ⟨_, rfl⟩
  have hn4 : n ≤ 4 := by rw [← hn]; exact rowC_le c
  have HC : Hid (0 ≤ c ∧ c ≤ 1114111 ∧ rowC c = n) := ⟨h0, h1.1, hn⟩
  have HO : Hid ((oneN π c).length = n + 1) := by show _ = _; rw [oneN_length, hn]
  have HSZ : Hid (rowC c = n) := hn
  by_cases hz : n = 0
  · subst hz
    have hlt : c < 160 := (rowC_iff c).1.1 hn
    have HE : Hid (oneN π c = [c]) := by show _ = _; simp [oneN, hlt]
    have hcv := fun w1 : World => run_string (w1.alloc (.cells #[.int .u8 c] 5)) _ 1 1 [c] (by exact row_new .u8 w1 [c] _ _ rfl) rfl
    clear hn h h1
    go_enter Tryd.func55, Tryd.ntmps55
    go_wp2_with fail
    refine (size_any c w).mono ?_
    rintro e w1 ⟨rfl, hw1⟩
    rw [hw1, HSZ.out]
    clear hw1 w1
    go_wp2
    go_ret
    exact ⟨by rw [HE.out]; rfl, (Below.refl _ _).alloc (Nat.le_refl _) _⟩
  · have hnz : (((n : Int) + 1) == 1) = false := by simp; omega
    clear hn h h1 h0
    go_enter Tryd.func55, Tryd.ntmps55
    go_wp2_with fail
    refine (size_any c w).mono ?_
    rintro e w1 ⟨rfl, hw1⟩
    rw [hw1, HSZ.out]
    clear hw1 w1
    go_wp2
    go_loopw [0, 4, 5] (fun x o i wr => ∃ k : Nat, i = .int .i64 ((k + 1 : Nat) : Int) ∧ k ≤ n ∧ x = .int .u32 (c / p32 k) ∧ OutOf w wr o ((oneN π c).drop (n + 1 - k))) (fun _ _ i _ => n + 1 - (intOf i).toNat)
    case atStart => exact ⟨0, by go_num, by omega, by simp [p32], by rw [List.drop_of_length_le (by rw [HO.out]; omega)]; exact ⟨seg_empty _ _ _, fun g hg => by simp [Value.ownBlock] at hg; omega, (Below.refl _ _).alloc (Nat.le_refl _) _⟩⟩
    case round =>
      obtain ⟨k, rfl, hk, rfl, hOO⟩ := hrel
      have HOO : Hid (OutOf w wr u4 ((oneN π c).drop (n + 1 - k))) := hOO
      obtain ⟨ao, co, hvo, hro, hml, hlc, hcm, hnil⟩ := hOO.1.form
      obtain ⟨x, hx⟩ : ∃ x, c / p32 k = x := ⟨_, rfl⟩
      have hp := (p32_pow (k := k) (by omega)).2.1
      have hx0 : 0 ≤ x := by rw [← hx]; exact Int.ediv_nonneg HC.out.1 (by omega)
      have hx1 : x ≤ 1114111 := by
        rw [← hx]
        exact Int.le_trans (Int.ediv_le_self _ HC.out.1) HC.out.2.1
      have hdl : ((oneN π c).drop (n + 1 - k)).length = k := by rw [List.length_drop, HO.out]; omega
      obtain ⟨t, ht⟩ : ∃ t, (oneN π c).drop (n + 1 - k) = t := ⟨_, rfl⟩
      rw [ht] at hvo hro hdl HOO
      rw [hdl] at hvo
      subst hvo
      rw [hx]
      have HX : Hid (c / p32 k = x) := hx
      have HT : Hid ((oneN π c).drop (n + 1 - k) = t ∧ t.length = k) := ⟨ht, hdl⟩
      have HR : Hid (Row .u8 wr ao t ∧ (ao = none → co = 0)) := ⟨hro, hnil⟩
      clear hOO hml hlc hcm hx hp ht hdl hro hnil
      by_cases hlt : ((k + 1 : Nat) : Int) < ((n + 1 : Nat) : Int)
      · have hkn : k + 1 ≤ n := by omega
        have hnx : nth (oneN π c) (n - k) = 160 + x % 32 := by
          have := one_at (π := π) (k := n - k - 1) HC.out.2.2 (by omega)
          rw [show n - k - 1 + 1 = n - k by omega, show n - (n - k) = k by omega, HX.out] at this
          exact this
        have HN : Hid ((oneN π c).drop (n + 1 - (k + 1)) = [160 + x % 32] ++ t ∧ x / 32 = c / p32 (k + 1)) := by
          refine ⟨?_, ?_⟩
          · rw [show n + 1 - (k + 1) = n - k by omega, drop_at _ (n - k) (by rw [HO.out]; omega), hnx, show n - k + 1 = n + 1 - k by omega, HT.out.1]; rfl
          · have := shr_p32 (c := c) (n := n) (k := n - k - 1) (by omega) hn4
            rw [show n - (n - k - 1 + 1) = k by omega, show n - (n - k - 1) = k + 1 by omega, HX.out] at this
            exact this
        have hbd : 0 ≤ 160 + x % 32 ∧ 160 + x % 32 < 256 := by omega
        have HAL : Hid (∀ O, Row .u8 (wr.alloc O) ao t) := fun O => HR.out.1.mono ((Below.refl _ _).alloc (Nat.le_refl _) _)
        clear hnx
        go_wp2_with (at_builtin; go_must (refine wpList_append_seg rfl _ _ 57 57 rfl .u8 5 1 Tryd.underlying57 info_u8 (.slice (some ⟨wr.heap.size, 0, none⟩) 1 1) [160 + x % 32] t rfl (seg_one wr _ _) _ rfl (src_row Tryd.underlying57 (HAL.out _) HT.out.2 HR.out.2) (by have := HT.out.2; unfold maxLen; simp; omega) (by have := HT.out.2; simp; omega) ?_; intro vo w4 hs4 hc4 hm4))
        have HF4 : Hid (OutOf w w4 vo ((oneN π c).drop (n + 1 - (k + 1)))) := by
          have hz4 := HOO.out.2.2.size
          refine ⟨by rw [HN.out.1]; exact hs4, fun g hg => ?_, (HOO.out.2.2.alloc hz4 _).trans (hc4.below (by simp; omega) (fun k j hk hh => by simp [Value.ownBlock] at hh; omega))⟩
          rcases hm4 g hg with e | e
          · simp [Value.ownBlock] at e; omega
          · simp at e; omega
        clear hs4 hc4 hm4 HAL
        go_roundw
        case rel => exact ⟨k + 1, by go_num, hkn, by rw [HN.out.2], HF4.out⟩
        case measure => simp [intOf]; omega
      · obtain rfl : k = n := by omega
        have hd0 := HT.out.1
        rw [show k + 1 - k = 1 by omega] at hd0
        have hol := or_lead HC.out.1 HC.out.2.1 HC.out.2.2
        rw [HX.out] at hol
        have HLD : Hid ((0 ≤ x ∧ x < 256) ∧ (leadN k + x < 256) ∧ oneN π c = [leadN k + x] ++ t) := by
          have hh := one_head (π := π) HC.out.2.2
          rw [HX.out] at hh
          have hbb := oneN_byte π c
          refine ⟨⟨hol.1, hol.2.1⟩, ?_, ?_⟩
          · have := lead_small (x := x) HC.out.2.1 HC.out.1 HC.out.2.2 HX.out; exact this
          · have := drop_at (oneN π c) 0 (by rw [HO.out]; omega)
            rw [List.drop_zero, hh, hd0] at this; exact this
        obtain ⟨x00, x01⟩ := HLD.out.1
        clear hol hd0
        have hcs : k = 1 ∨ k = 2 ∨ k = 3 ∨ k = 4 := by omega
        rcases hcs with rfl | rfl | rfl | rfl
        · have hor' : 192 + x < 256 := by have := HLD.out.2.1; rw [show leadN 1 = 192 from rfl] at this; omega
          have HAL : Hid (∀ O O2, Row .u8 ((wr.alloc O).alloc O2) ao t) := fun O O2 => (HR.out.1.mono ((Below.refl _ _).alloc (Nat.le_refl _) O)).mono ((Below.refl _ _).alloc (Nat.le_refl _) _)
          go_wp2_with (at_builtin; go_must (refine wpList_append_seg rfl _ _ 57 57 rfl .u8 5 1 Tryd.underlying57 info_u8 (.slice (some ⟨wr.heap.size + 1, 0, none⟩) 1 1) [192 + x] t rfl (seg_one_at _ _ _ (by simp)) _ rfl (src_row Tryd.underlying57 (HAL.out _ _) HT.out.2 HR.out.2) (by have := HT.out.2; unfold maxLen; simp; omega) (by have := HT.out.2; simp; omega) ?_; intro vo w4 hs4 hc4 hm4; obtain ⟨a4, c4, hv4, hr4, -⟩ := hs4.form; have hln : ([192 + x] ++ t).length = 1 + 1 := (by have := HT.out.2; simp; omega); rw [hln] at hv4; subst hv4; have hcv := run_string w4 a4 (1 + 1) c4 _ hr4 hln; have HB4 : Hid (Below w.heap.size w w4) := (by have hz4 := HOO.out.2.2.size; exact ((HOO.out.2.2.alloc hz4 (.cells #[.int .u32 0, .int .u32 0, .int .u32 192, .int .u32 224, .int .u32 240, .int .u32 248] 113)).alloc (by simp; omega) _).trans (hc4.below (by simp; omega) (fun k j hk hh => by simp [Value.ownBlock] at hh; omega))); clear hs4 hc4 hm4 hr4 hln))
          go_ret
          exact ⟨by rw [HLD.out.2.2]; rfl, HB4.out⟩
        · have hor' : 224 + x < 256 := by have := HLD.out.2.1; rw [show leadN 2 = 224 from rfl] at this; omega
          have HAL : Hid (∀ O O2, Row .u8 ((wr.alloc O).alloc O2) ao t) := fun O O2 => (HR.out.1.mono ((Below.refl _ _).alloc (Nat.le_refl _) O)).mono ((Below.refl _ _).alloc (Nat.le_refl _) _)
          go_wp2_with (at_builtin; go_must (refine wpList_append_seg rfl _ _ 57 57 rfl .u8 5 1 Tryd.underlying57 info_u8 (.slice (some ⟨wr.heap.size + 1, 0, none⟩) 1 1) [224 + x] t rfl (seg_one_at _ _ _ (by simp)) _ rfl (src_row Tryd.underlying57 (HAL.out _ _) HT.out.2 HR.out.2) (by have := HT.out.2; unfold maxLen; simp; omega) (by have := HT.out.2; simp; omega) ?_; intro vo w4 hs4 hc4 hm4; obtain ⟨a4, c4, hv4, hr4, -⟩ := hs4.form; have hln : ([224 + x] ++ t).length = 2 + 1 := (by have := HT.out.2; simp; omega); rw [hln] at hv4; subst hv4; have hcv := run_string w4 a4 (2 + 1) c4 _ hr4 hln; have HB4 : Hid (Below w.heap.size w w4) := (by have hz4 := HOO.out.2.2.size; exact ((HOO.out.2.2.alloc hz4 (.cells #[.int .u32 0, .int .u32 0, .int .u32 192, .int .u32 224, .int .u32 240, .int .u32 248] 113)).alloc (by simp; omega) _).trans (hc4.below (by simp; omega) (fun k j hk hh => by simp [Value.ownBlock] at hh; omega))); clear hs4 hc4 hm4 hr4 hln))
          go_ret
          exact ⟨by rw [HLD.out.2.2]; rfl, HB4.out⟩
        · have hor' : 240 + x < 256 := by have := HLD.out.2.1; rw [show leadN 3 = 240 from rfl] at this; omega
          have HAL : Hid (∀ O O2, Row .u8 ((wr.alloc O).alloc O2) ao t) := fun O O2 => (HR.out.1.mono ((Below.refl _ _).alloc (Nat.le_refl _) O)).mono ((Below.refl _ _).alloc (Nat.le_refl _) _)
          go_wp2_with (at_builtin; go_must (refine wpList_append_seg rfl _ _ 57 57 rfl .u8 5 1 Tryd.underlying57 info_u8 (.slice (some ⟨wr.heap.size + 1, 0, none⟩) 1 1) [240 + x] t rfl (seg_one_at _ _ _ (by simp)) _ rfl (src_row Tryd.underlying57 (HAL.out _ _) HT.out.2 HR.out.2) (by have := HT.out.2; unfold maxLen; simp; omega) (by have := HT.out.2; simp; omega) ?_; intro vo w4 hs4 hc4 hm4; obtain ⟨a4, c4, hv4, hr4, -⟩ := hs4.form; have hln : ([240 + x] ++ t).length = 3 + 1 := (by have := HT.out.2; simp; omega); rw [hln] at hv4; subst hv4; have hcv := run_string w4 a4 (3 + 1) c4 _ hr4 hln; have HB4 : Hid (Below w.heap.size w w4) := (by have hz4 := HOO.out.2.2.size; exact ((HOO.out.2.2.alloc hz4 (.cells #[.int .u32 0, .int .u32 0, .int .u32 192, .int .u32 224, .int .u32 240, .int .u32 248] 113)).alloc (by simp; omega) _).trans (hc4.below (by simp; omega) (fun k j hk hh => by simp [Value.ownBlock] at hh; omega))); clear hs4 hc4 hm4 hr4 hln))
          go_ret
          exact ⟨by rw [HLD.out.2.2]; rfl, HB4.out⟩
        · have hor' : 248 + x < 256 := by have := HLD.out.2.1; rw [show leadN 4 = 248 from rfl] at this; omega
          have HAL : Hid (∀ O O2, Row .u8 ((wr.alloc O).alloc O2) ao t) := fun O O2 => (HR.out.1.mono ((Below.refl _ _).alloc (Nat.le_refl _) O)).mono ((Below.refl _ _).alloc (Nat.le_refl _) _)
          go_wp2_with (at_builtin; go_must (refine wpList_append_seg rfl _ _ 57 57 rfl .u8 5 1 Tryd.underlying57 info_u8 (.slice (some ⟨wr.heap.size + 1, 0, none⟩) 1 1) [248 + x] t rfl (seg_one_at _ _ _ (by simp)) _ rfl (src_row Tryd.underlying57 (HAL.out _ _) HT.out.2 HR.out.2) (by have := HT.out.2; unfold maxLen; simp; omega) (by have := HT.out.2; simp; omega) ?_; intro vo w4 hs4 hc4 hm4; obtain ⟨a4, c4, hv4, hr4, -⟩ := hs4.form; have hln : ([248 + x] ++ t).length = 4 + 1 := (by have := HT.out.2; simp; omega); rw [hln] at hv4; subst hv4; have hcv := run_string w4 a4 (4 + 1) c4 _ hr4 hln; have HB4 : Hid (Below w.heap.size w w4) := (by have hz4 := HOO.out.2.2.size; exact ((HOO.out.2.2.alloc hz4 (.cells #[.int .u32 0, .int .u32 0, .int .u32 192, .int .u32 224, .int .u32 240, .int .u32 248] 113)).alloc (by simp; omega) _).trans (hc4.below (by simp; omega) (fun k j hk hh => by simp [Value.ownBlock] at hh; omega))); clear hs4 hc4 hm4 hr4 hln))
          go_ret
          exact ⟨by rw [HLD.out.2.2]; rfl, HB4.out⟩
set_option maxHeartbeats 4000000 in
set_option maxRecDepth 100000 in
theorem rBytes_any (a : Option Addr) (n cp : Nat) (l : List Int) (w : World) (hr : Row .u32 w a l) (hl : l.length = n) (hn : n ≤ 100000) (hs : ∀ c ∈ l, isB c = true ∧ 0 ≤ c) :
    Calls Tryd.prog 28 #[.slice a n cp] w fun e w' => e = .returned (.string (Stp.strOf (bytesOf (oneN π) l))) ∧ Below w.heap.size w w' := by
  obtain ⟨b1, o1, n1, c1⟩ := hr
  have N1 : Hid (l ≠ [] → a = some ⟨b1, o1, none⟩) := n1
  have HC : Hid (∀ i, i < l.length → w.cell? ⟨b1, o1 + i, none⟩ = some (.int .u32 (nth l i))) := c1
  have HS : Hid ((∀ c ∈ l, isB c = true ∧ 0 ≤ c) ∧ l.length = n) := ⟨hs, hl⟩
  clear n1 c1 hs hl
  go_enter Tryd.func28, Tryd.ntmps28
  go_wp2
  go_loopw [3, 4] (fun o i wr => ∃ k : Nat, i = .int .i64 k ∧ k ≤ n ∧ o = .string (Stp.strOf (bytesOf (oneN π) (l.take k))) ∧ Below w.heap.size w wr) (fun _ i _ => n - (intOf i).toNat)
  case atStart => exact ⟨0, rfl, Nat.zero_le _, by simp [bytesOf]; rfl, Below.refl _ _⟩
  case round =>
    obtain ⟨k, rfl, hk, rfl, hB⟩ := hrel
    have HB : Hid (Below w.heap.size w wr) := hB
    clear hB
    by_cases hlt : (k : Int) < (n : Int)
    · have hkn : k < l.length := by have := HS.out.2; omega
      obtain rfl := N1.out (by intro e; subst e; simp at hkn)
      have hcell : wr.cell? ⟨b1, o1 + k, none⟩ = some (.int .u32 (nth l k)) := cell_later HB.out (HC.out k hkn)
      have hsc := HS.out.1 _ (nth_mem hkn)
      have ht : bytesOf (oneN π) (l.take (k + 1)) = bytesOf (oneN π) (l.take k) ++ oneN π (nth l k) := by rw [take_snoc l k hkn, bytesOf_append, bytesOf_one]
      have hz := bytesOf_le (oneN π) 5 (oneN_max π) (l.take k)
      rw [List.length_take] at hz
      obtain ⟨x, hx⟩ : ∃ x, nth l k = x := ⟨_, rfl⟩
      rw [hx] at hcell hsc ht
      obtain ⟨t, htt⟩ : ∃ t, bytesOf (oneN π) (l.take k) = t := ⟨_, rfl⟩
      rw [htt] at ht hz ⊢
      have HT : Hid (bytesOf (oneN π) (l.take (k + 1)) = t ++ oneN π x) := ht
      have hzx := oneN_max π x
      have g3 : ¬ 9223372036854775807 < (Stp.strOf t).size + (Stp.strOf (oneN π x)).size := by rw [strOf_size, strOf_size]; omega
      clear hx htt ht hz hkn hzx
      go_wp2_with fail
      refine (rOne_any (π := π) x wr hsc.1 hsc.2).mono ?_
      rintro e w2 ⟨rfl, b2⟩
      have HB2 : Hid (Below w.heap.size w w2) := below_two HB.out b2
      clear b2 hcell
      go_wp2
      go_roundw
      case rel => exact ⟨k + 1, by go_num, by omega, by rw [HT.out, strOf_append], HB2.out⟩
      case measure => simp [intOf]; omega
    · have hkn : k = n := by omega
      have HF : Hid (l.take k = l) := by
        show _ = _
        rw [hkn, ← HS.out.2, List.take_length]
      clear hkn
      go_wp2
      go_ret
      exact ⟨by rw [HF.out]; rfl, HB.out⟩
end M8
end Go.Proofs.YtjbgcclbomimiaaDoor
