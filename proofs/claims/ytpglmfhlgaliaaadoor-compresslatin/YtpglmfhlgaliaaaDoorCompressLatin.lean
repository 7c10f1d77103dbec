/-
  Proved: scalars 00, 09, 0A, 0D, 20 to 7E and A0 to FF take a byte each, by either profile: themselves. No condition.
-/
import Derived.Test.YtpglmfhlgaliaaaDoorCPLaw
import Derived.Test.YtpglmfhlgaliaaaDoorMemStep
namespace Go.Proofs.YtpglmfhlgaliaaaDoor
open Go.ChangeShapes Go.WideShapes Go.ChangeAt Go.RowKit
open Go.ChangeMaps (open_string shut_string)
namespace compressLatin
open Bas Sca Stp Scn Cod Cmp Cps CP
set_option linter.unusedVariables false

/-- Is a byte none of those? -/
def badB (b : Int) : Bool := decide (¬ (b = 0 ∨ b = 9 ∨ b = 10 ∨ b = 13 ∨ (32 ≤ b ∧ b ≤ 126) ∨ 160 ≤ b))
theorem bad_no {b : Int} (h : badB b = false) (h1 : b < 256) : passC b = true ∨ (128 ≤ b ∧ b ≤ 255) := by
  unfold badB at h
  simp only [decide_eq_false_iff_not, Decidable.not_not] at h
  by_cases e : b ≤ 127
  · left; rw [pass_iff]; omega
  · right; omega
theorem vbool {a b : Bool} (h : a = true ↔ b = true) : Value.bool a = .bool b := by
  have : a = b := by rw [Bool.eq_iff_iff]; exact h
  rw [this]
set_option maxHeartbeats 8000000 in
set_option maxRecDepth 100000 in
theorem walk (w : World) (hT : CP.Tabs w) (π : Bool) (s : ByteArray) (hwf : s.size ≤ maxLen) :
    Calls Tryd.prog 5 #[.bool π, .string s] w fun e w' => e = .returned (.bool true) ∧ Below w.heap.size w w' := by
  have HT : Hid (CP.Tabs w) := hT
  clear hT hwf
  go_enter Tryd.func5, Tryd.ntmps5
  go_wp2_with fail
  refine (awake_any w HT.out).mono ?_
  rintro e w1 ⟨rfl, b1⟩
  have HB1 : Hid (Below w.heap.size w w1) := b1
  clear b1
  go_wp2_with fail
  refine (great_any _ none none 0 0 0 0 w1).mono ?_
  rintro e w1 ⟨rfl, rfl⟩
  obtain ⟨g, hg⟩ : ∃ g, (decide ((s.size : Int) > 400) || (decide (0 > 200) || decide (0 > 200))) = g := ⟨_, rfl⟩
  rw [hg]
  cases g with
  | true =>
    clear hg
    go_wp2_with fail
    refine (awake_any _ (HT.out.below HB1.out)).mono ?_
    rintro e w2 ⟨rfl, b2⟩
    go_wp2
    go_ret
    exact ⟨rfl, below_two HB1.out b2⟩
  | false =>
    obtain ⟨h400, -, -⟩ := great_no hg
    clear hg
    have HL : Hid ((bytesL s).length = s.size) := bytesL_length s
    go_wp2
    go_loopw [5, 6] (fun o q wr => ∃ i : Nat, q = .int .i64 i ∧ i ≤ s.size ∧ Seg .u32 wr o ((bytesL s).take i) ∧ (∀ g, o.ownBlock = some g → w.heap.size ≤ g) ∧ Below w.heap.size w wr ∧ (∀ j, j < i → badB (nth (bytesL s) j) = false)) (fun _ q _ => s.size - (intOf q).toNat)
    case atStart => exact ⟨0, rfl, Nat.zero_le _, by simpa using seg_nil _ _, fun g hg => by simp [Value.ownBlock] at hg, HB1.out, fun j hj => by omega⟩
    case round =>
      obtain ⟨i, rfl, hi, hsg, hown, hbl, hasc⟩ := hrel
      have HI : Hid (Seg .u32 wr u5 ((bytesL s).take i) ∧ (∀ g, u5.ownBlock = some g → w.heap.size ≤ g) ∧ Below w.heap.size w wr ∧ (∀ j, j < i → badB (nth (bytesL s) j) = false)) := ⟨hsg, hown, hbl, hasc⟩
      clear hsg hown hbl hasc
      by_cases hlt : i < s.size
      · have hlti : (i : Int) < (s.size : Int) := by omega
        have hb := bytesL_byte s _ (nth_mem (l := bytesL s) (i := i) (by rw [bytesL_length]; exact hlt))
        have hsn := str_nth s i hlt
        have htk := take_snoc (bytesL s) i (by rw [HL.out]; exact hlt)
        obtain ⟨b, hbb⟩ : ∃ b, nth (bytesL s) i = b := ⟨_, rfl⟩
        rw [hbb] at hb hsn htk
        have HBB : Hid (nth (bytesL s) i = b ∧ (bytesL s).take (i + 1) = (bytesL s).take i ++ [b]) := ⟨hbb, htk⟩
        obtain ⟨b0, b1⟩ := hb
        clear hbb htk
        cases hA0 : badB b with
        | false =>
          have HA : Hid (∀ j, j < i + 1 → badB (nth (bytesL s) j) = false) := fun j hj => by
            by_cases e : j = i
            · rw [e, HBB.out.1]; exact hA0
            · exact HI.out.2.2.2 j (by omega)
          have hwb : IntKind.u32.wrap b = b := by rw [IntKind.wrap_u32]; omega
          have HSG : Hid (∀ o, Seg .u32 (wr.alloc o) u5 ((bytesL s).take i)) := fun o => HI.out.1.chg (chg_of_below ((Below.refl _ _).alloc (Nat.le_refl _) _) (Nat.le_refl _) (fun _ _ => False)) (fun _ _ _ h => h)
          have hcs : b = 0 ∨ b = 9 ∨ b = 10 ∨ b = 13 ∨ (32 ≤ b ∧ b < 127) ∨ 160 ≤ b := by
            unfold badB at hA0
            simp only [decide_eq_false_iff_not, Decidable.not_not] at hA0
            omega
          have hcl : ((bytesL s).take i).length ≤ 400 := by rw [List.length_take]; omega
          clear hA0
          obtain ⟨L, hL⟩ : ∃ L, (bytesL s).take i = L := ⟨_, rfl⟩
          have HLL : Hid ((bytesL s).take i = L) := hL
          rw [hL] at HSG hcl
          clear hL
          rcases hcs with rfl | rfl | rfl | rfl | ⟨c1, c2⟩ | c
          · have HSV : Hid ((bytesL s).take (i + 1) = L ++ [0]) := by show _ = _; rw [HBB.out.2, HLL.out]
            clear HBB HLL
            go_wp2_with (at_builtin; go_must (refine wpList_append_seg rfl _ _ 22 22 rfl .u32 35 4 Tryd.underlying22 Stp.info_u32 u5 L [0] rfl (HSG.out _) _ rfl (src_row (l := [0]) Tryd.underlying22 (by exact row_new .u32 _ [0] _ _ (by simp)) rfl (fun h => by cases h)) (by unfold maxLen; simp; omega) (by simp; omega) ?_; intro vo2 w4 hs4 hc4 hm4; obtain ⟨a1, e1, hv1, -⟩ := hs4.form; obtain ⟨ln, hln⟩ : ∃ ln, (L ++ [0]).length = ln := ⟨_, rfl⟩; rw [hln] at hv1; subst hv1))
            generalize hvo : Value.slice a1 ln e1 = vo3 at *
            have HN : Hid (Seg .u32 w4 vo3 ((bytesL s).take (i + 1)) ∧ (∀ g, vo3.ownBlock = some g → w.heap.size ≤ g) ∧ Below w.heap.size w w4) := by
              have hal : Below wr.heap.size wr (wr.alloc (.cells #[.int .u32 (0)] 35)) := (Below.refl _ _).alloc (Nat.le_refl _) _
              refine ⟨by rw [HSV.out]; exact hs4, fun g hg => ?_, (below_two HI.out.2.2.1 hal).trans (hc4.below (by have := HI.out.2.2.1.size; have := hal.size; omega) (fun k o hk hh => by have := HI.out.2.1 k hh; omega))⟩
              rcases hm4 g hg with e | e
              · exact HI.out.2.1 g e
              · have := HI.out.2.2.1.size; have := hal.size; omega
            clear hs4 hc4 hm4 hln hvo hcl
            go_wp2
            go_roundw
            case rel => exact ⟨i + 1, by go_num, by omega, HN.out.1, HN.out.2.1, HN.out.2.2, HA.out⟩
            case measure => simp [intOf]; omega
          · have HSV : Hid ((bytesL s).take (i + 1) = L ++ [9]) := by show _ = _; rw [HBB.out.2, HLL.out]
            clear HBB HLL
            go_wp2_with (at_builtin; go_must (refine wpList_append_seg rfl _ _ 22 22 rfl .u32 35 4 Tryd.underlying22 Stp.info_u32 u5 L [9] rfl (HSG.out _) _ rfl (src_row (l := [9]) Tryd.underlying22 (by exact row_new .u32 _ [9] _ _ (by simp)) rfl (fun h => by cases h)) (by unfold maxLen; simp; omega) (by simp; omega) ?_; intro vo2 w4 hs4 hc4 hm4; obtain ⟨a1, e1, hv1, -⟩ := hs4.form; obtain ⟨ln, hln⟩ : ∃ ln, (L ++ [9]).length = ln := ⟨_, rfl⟩; rw [hln] at hv1; subst hv1))
            generalize hvo : Value.slice a1 ln e1 = vo3 at *
            have HN : Hid (Seg .u32 w4 vo3 ((bytesL s).take (i + 1)) ∧ (∀ g, vo3.ownBlock = some g → w.heap.size ≤ g) ∧ Below w.heap.size w w4) := by
              have hal : Below wr.heap.size wr (wr.alloc (.cells #[.int .u32 (9)] 35)) := (Below.refl _ _).alloc (Nat.le_refl _) _
              refine ⟨by rw [HSV.out]; exact hs4, fun g hg => ?_, (below_two HI.out.2.2.1 hal).trans (hc4.below (by have := HI.out.2.2.1.size; have := hal.size; omega) (fun k o hk hh => by have := HI.out.2.1 k hh; omega))⟩
              rcases hm4 g hg with e | e
              · exact HI.out.2.1 g e
              · have := HI.out.2.2.1.size; have := hal.size; omega
            clear hs4 hc4 hm4 hln hvo hcl
            go_wp2
            go_roundw
            case rel => exact ⟨i + 1, by go_num, by omega, HN.out.1, HN.out.2.1, HN.out.2.2, HA.out⟩
            case measure => simp [intOf]; omega
          · have HSV : Hid ((bytesL s).take (i + 1) = L ++ [10]) := by show _ = _; rw [HBB.out.2, HLL.out]
            clear HBB HLL
            go_wp2_with (at_builtin; go_must (refine wpList_append_seg rfl _ _ 22 22 rfl .u32 35 4 Tryd.underlying22 Stp.info_u32 u5 L [10] rfl (HSG.out _) _ rfl (src_row (l := [10]) Tryd.underlying22 (by exact row_new .u32 _ [10] _ _ (by simp)) rfl (fun h => by cases h)) (by unfold maxLen; simp; omega) (by simp; omega) ?_; intro vo2 w4 hs4 hc4 hm4; obtain ⟨a1, e1, hv1, -⟩ := hs4.form; obtain ⟨ln, hln⟩ : ∃ ln, (L ++ [10]).length = ln := ⟨_, rfl⟩; rw [hln] at hv1; subst hv1))
            generalize hvo : Value.slice a1 ln e1 = vo3 at *
            have HN : Hid (Seg .u32 w4 vo3 ((bytesL s).take (i + 1)) ∧ (∀ g, vo3.ownBlock = some g → w.heap.size ≤ g) ∧ Below w.heap.size w w4) := by
              have hal : Below wr.heap.size wr (wr.alloc (.cells #[.int .u32 (10)] 35)) := (Below.refl _ _).alloc (Nat.le_refl _) _
              refine ⟨by rw [HSV.out]; exact hs4, fun g hg => ?_, (below_two HI.out.2.2.1 hal).trans (hc4.below (by have := HI.out.2.2.1.size; have := hal.size; omega) (fun k o hk hh => by have := HI.out.2.1 k hh; omega))⟩
              rcases hm4 g hg with e | e
              · exact HI.out.2.1 g e
              · have := HI.out.2.2.1.size; have := hal.size; omega
            clear hs4 hc4 hm4 hln hvo hcl
            go_wp2
            go_roundw
            case rel => exact ⟨i + 1, by go_num, by omega, HN.out.1, HN.out.2.1, HN.out.2.2, HA.out⟩
            case measure => simp [intOf]; omega
          · have HSV : Hid ((bytesL s).take (i + 1) = L ++ [13]) := by show _ = _; rw [HBB.out.2, HLL.out]
            clear HBB HLL
            go_wp2_with (at_builtin; go_must (refine wpList_append_seg rfl _ _ 22 22 rfl .u32 35 4 Tryd.underlying22 Stp.info_u32 u5 L [13] rfl (HSG.out _) _ rfl (src_row (l := [13]) Tryd.underlying22 (by exact row_new .u32 _ [13] _ _ (by simp)) rfl (fun h => by cases h)) (by unfold maxLen; simp; omega) (by simp; omega) ?_; intro vo2 w4 hs4 hc4 hm4; obtain ⟨a1, e1, hv1, -⟩ := hs4.form; obtain ⟨ln, hln⟩ : ∃ ln, (L ++ [13]).length = ln := ⟨_, rfl⟩; rw [hln] at hv1; subst hv1))
            generalize hvo : Value.slice a1 ln e1 = vo3 at *
            have HN : Hid (Seg .u32 w4 vo3 ((bytesL s).take (i + 1)) ∧ (∀ g, vo3.ownBlock = some g → w.heap.size ≤ g) ∧ Below w.heap.size w w4) := by
              have hal : Below wr.heap.size wr (wr.alloc (.cells #[.int .u32 (13)] 35)) := (Below.refl _ _).alloc (Nat.le_refl _) _
              refine ⟨by rw [HSV.out]; exact hs4, fun g hg => ?_, (below_two HI.out.2.2.1 hal).trans (hc4.below (by have := HI.out.2.2.1.size; have := hal.size; omega) (fun k o hk hh => by have := HI.out.2.1 k hh; omega))⟩
              rcases hm4 g hg with e | e
              · exact HI.out.2.1 g e
              · have := HI.out.2.2.1.size; have := hal.size; omega
            clear hs4 hc4 hm4 hln hvo hcl
            go_wp2
            go_roundw
            case rel => exact ⟨i + 1, by go_num, by omega, HN.out.1, HN.out.2.1, HN.out.2.2, HA.out⟩
            case measure => simp [intOf]; omega
          · have HSV : Hid ((bytesL s).take (i + 1) = L ++ [b]) := by show _ = _; rw [HBB.out.2, HLL.out]
            clear HBB HLL
            go_wp2_with (at_builtin; go_must (refine wpList_append_seg rfl _ _ 22 22 rfl .u32 35 4 Tryd.underlying22 Stp.info_u32 u5 L [b] rfl (HSG.out _) _ rfl (src_row (l := [b]) Tryd.underlying22 (by exact row_new .u32 _ [b] _ _ (by simp)) rfl (fun h => by cases h)) (by unfold maxLen; simp; omega) (by simp; omega) ?_; intro vo2 w4 hs4 hc4 hm4; obtain ⟨a1, e1, hv1, -⟩ := hs4.form; obtain ⟨ln, hln⟩ : ∃ ln, (L ++ [b]).length = ln := ⟨_, rfl⟩; rw [hln] at hv1; subst hv1))
            generalize hvo : Value.slice a1 ln e1 = vo3 at *
            have HN : Hid (Seg .u32 w4 vo3 ((bytesL s).take (i + 1)) ∧ (∀ g, vo3.ownBlock = some g → w.heap.size ≤ g) ∧ Below w.heap.size w w4) := by
              have hal : Below wr.heap.size wr (wr.alloc (.cells #[.int .u32 (b)] 35)) := (Below.refl _ _).alloc (Nat.le_refl _) _
              refine ⟨by rw [HSV.out]; exact hs4, fun g hg => ?_, (below_two HI.out.2.2.1 hal).trans (hc4.below (by have := HI.out.2.2.1.size; have := hal.size; omega) (fun k o hk hh => by have := HI.out.2.1 k hh; omega))⟩
              rcases hm4 g hg with e | e
              · exact HI.out.2.1 g e
              · have := HI.out.2.2.1.size; have := hal.size; omega
            clear hs4 hc4 hm4 hln hvo hcl
            go_wp2
            go_roundw
            case rel => exact ⟨i + 1, by go_num, by omega, HN.out.1, HN.out.2.1, HN.out.2.2, HA.out⟩
            case measure => simp [intOf]; omega
          · have HSV : Hid ((bytesL s).take (i + 1) = L ++ [b]) := by show _ = _; rw [HBB.out.2, HLL.out]
            clear HBB HLL
            go_wp2_with (at_builtin; go_must (refine wpList_append_seg rfl _ _ 22 22 rfl .u32 35 4 Tryd.underlying22 Stp.info_u32 u5 L [b] rfl (HSG.out _) _ rfl (src_row (l := [b]) Tryd.underlying22 (by exact row_new .u32 _ [b] _ _ (by simp)) rfl (fun h => by cases h)) (by unfold maxLen; simp; omega) (by simp; omega) ?_; intro vo2 w4 hs4 hc4 hm4; obtain ⟨a1, e1, hv1, -⟩ := hs4.form; obtain ⟨ln, hln⟩ : ∃ ln, (L ++ [b]).length = ln := ⟨_, rfl⟩; rw [hln] at hv1; subst hv1))
            generalize hvo : Value.slice a1 ln e1 = vo3 at *
            have HN : Hid (Seg .u32 w4 vo3 ((bytesL s).take (i + 1)) ∧ (∀ g, vo3.ownBlock = some g → w.heap.size ≤ g) ∧ Below w.heap.size w w4) := by
              have hal : Below wr.heap.size wr (wr.alloc (.cells #[.int .u32 (b)] 35)) := (Below.refl _ _).alloc (Nat.le_refl _) _
              refine ⟨by rw [HSV.out]; exact hs4, fun g hg => ?_, (below_two HI.out.2.2.1 hal).trans (hc4.below (by have := HI.out.2.2.1.size; have := hal.size; omega) (fun k o hk hh => by have := HI.out.2.1 k hh; omega))⟩
              rcases hm4 g hg with e | e
              · exact HI.out.2.1 g e
              · have := HI.out.2.2.1.size; have := hal.size; omega
            clear hs4 hc4 hm4 hln hvo hcl
            go_wp2
            go_roundw
            case rel => exact ⟨i + 1, by go_num, by omega, HN.out.1, HN.out.2.1, HN.out.2.2, HA.out⟩
            case measure => simp [intOf]; omega
        | true =>
          have hcs : (b < 32 ∧ b ≠ 0 ∧ b ≠ 9 ∧ b ≠ 10 ∧ b ≠ 13) ∨ (127 ≤ b ∧ b < 160) := by
            unfold badB at hA0
            simp only [decide_eq_true_eq] at hA0
            omega
          clear hA0
          rcases hcs with ⟨d1, d2, d3, d4, d5⟩ | ⟨d1, d2⟩
          · go_wp2
            go_ret
            exact ⟨rfl, HI.out.2.2.1⟩
          · go_wp2
            go_ret
            exact ⟨rfl, HI.out.2.2.1⟩
      · have hfull : (bytesL s).take i = bytesL s := List.take_of_length_le (by rw [HL.out]; omega)
        have hall : ∀ c ∈ bytesL s, passC c = true ∨ (128 ≤ c ∧ c ≤ 255) := fun c hc => by
          obtain ⟨k, hk, rfl⟩ := List.mem_iff_getElem.1 hc
          have h1 := HI.out.2.2.2 k (by rw [HL.out] at hk; omega)
          have e : nth (bytesL s) k = (bytesL s)[k] := by simp [nth, hk]
          rw [e] at h1
          exact bad_no h1 (bytesL_byte s _ hc).2
        have hsg := HI.out.1
        rw [hfull] at hsg
        obtain ⟨ao, co, hvo, -⟩ := hsg.form
        rw [HL.out] at hvo
        have hscal : ∀ c ∈ bytesL s, isB c = true := fun c hc => by
          have := bytesL_byte s c hc
          rw [isB_iff]; omega
        have HS : Hid (Seg .u32 wr u5 (bytesL s) ∧ (∀ g, u5.ownBlock = some g → w.heap.size ≤ g) ∧ Below w.heap.size w wr ∧ (∀ c ∈ bytesL s, isB c = true) ∧ Stp.strOf (textC π (bytesL s)) = s) := ⟨hsg, HI.out.2.1, HI.out.2.2.1, hscal, by rw [text_latin π _ hall, strOf_bytesL]⟩
        subst hvo
        clear hfull hall hsg hscal HI
        go_wp2_with fail
        refine (newW_any π wr rfl (HT.out.below HS.out.2.2.1)).mono ?_
        rintro e w2 ⟨rfl, E2, z2, B2⟩
        have hltN : ∀ g, (Value.slice ao s.size co).ownBlock = some g → g < wr.heap.size := fun g hg => HS.out.1.lt hg
        obtain ⟨N, hN⟩ : ∃ N, N = wr.heap.size := ⟨_, rfl⟩
        have HN : Hid (w.heap.size ≤ N) := by show w.heap.size ≤ N; rw [hN]; exact HS.out.2.2.1.size
        rw [← hN] at E2 z2 B2 hltN ⊢
        have HB2 : Hid (Below w.heap.size w w2) := HS.out.2.2.1.trans (B2.mono HN.out)
        have hsg2 : Seg .u32 w2 (.slice ao s.size co) (bytesL s) := HS.out.1.chg (chg_of_below (by rw [hN] at B2; exact B2) (Nat.le_refl _) (fun _ _ => False)) (fun _ _ _ h => h)
        clear hN
        go_wp2_with fail
        refine (write_any N _ ao s.size co (bytesL s) w2 E2 (came_seg hsg2 (fun g hg hf => by have := footE_nil hf; have := hltN g hg; omega)) (fun c hc => by have := bytesL_byte s c hc; omega) HS.out.2.2.2.1 (by rw [HL.out]; omega)).mono ?_
        rintro e w3 ⟨rfl, C3⟩
        have HB3 : Hid (Below w.heap.size w w3) := HB2.out.trans (C3.below HB2.out.size (fun k j hk h => by have := footE_nil h; have := HN.out; omega))
        rw [HS.out.2.2.2.2]
        clear E2 z2 B2 C3 HB2 hsg2 hltN
        go_wp2
        go_ret
        exact ⟨by first | rfl | exact ret_bool (by simp), HB3.out⟩
theorem reads (os : Os) {H : Type} (enc : TypeId × Value → H) : ∃ places, DataW.whole enc Tryd.prog ((({ World.holding Tryd.prog os ⟨#[], #[], []⟩ with heap := (((World.holding Tryd.prog os ⟨#[], #[], []⟩).heap.modify 0 CP.layN).modify 1 CP.layS) } : World)).forCall (fun _ _ => 0) ⟨#[], #[.bool false, .string ByteArray.empty], []⟩).memory Tryd.f5.params.toList Rows.compressLatinSpec.vars false #[.bool false, .string ByteArray.empty].toList 8 = some ([.lit (.bool false), .lit (.string [])], [], places) :=
  ⟨[], by kernel_rfl⟩
set_option maxRecDepth 100000 in
theorem lifted (os : Os) (started : os.Started) (H : Type) (enc : TypeId × Value → H) (Fi : Stop.Interp) :
    ReturnsInHanded {} Tryd.checked os 5 .any ((OpenSpec.ofChange Rows.compressLatinSpec).preRow enc Tryd.prog Tryd.f5 Rows.compressLatinRow.domain false Rows.compressLatinRow.laid) (((OpenSpec.ofChange Rows.compressLatinSpec).at Fi).post enc Tryd.prog Tryd.f5 false true false false) := by
  obtain ⟨places, hx⟩ := reads os enc
  refine returnsInHanded_of_row (C := Tryd.checked) (s := OpenSpec.ofChange Rows.compressLatinSpec) Bas.own started (by kernel_rfl) Tryd.func5
    (witness_row_at (enc := enc) (C := Tryd.checked) false (({ World.holding Tryd.prog os ⟨#[], #[], []⟩ with heap := (((World.holding Tryd.prog os ⟨#[], #[], []⟩).heap.modify 0 CP.layN).modify 1 CP.layS) } : World)) #[.bool false, .string ByteArray.empty] rfl (by kernel_rfl) (by kernel_rfl) (by kernel_rfl)
      (OpenSpec.preRow_of_cond 8 hx (by kernel_rfl) (fun k hk => by cases hk) (by kernel_rfl) (CP.laid_met os _))) ?_
  intro W base args ds gs before hval0 hW _ _ _ hL _ _
  have hval : ∀ (j : Nat) t v, Tryd.f5.params[j]? = some t → args[j]? = some v → Value.okWide Tryd.prog W .any base t v := hval0
  have hW' := hW
  obtain ⟨p, q, hA0, hV, rfl, hfz, hnd⟩ := hW
  have hA : DataW.TrodAll enc Tryd.prog W 0 (fun _ => true) true Tryd.f5.params.toList args.toList ds p := hA0
  rw [Tryd.params5] at hA hval
  obtain ⟨v0, vs0, d0, ds0, p0, q0, hargs, rfl, rfl, h0, r0⟩ := trodAll_cons hA
  obtain ⟨v1, vs1, d1, ds1, p1, q1, rfl, rfl, rfl, h1, r1⟩ := trodAll_cons r0
  obtain ⟨rfl, rfl, rfl⟩ := trodAll_nil r1
  obtain rfl : args = #[v0, v1] := by cases args; simp_all
  obtain ⟨rfl, rfl⟩ := trodVars_none hV
  have k0 := h0
  have lt0 : ∀ x ∈ p0, x.block < W.heap.size := by obtain ⟨m, hm⟩ := k0; exact DataW.trod_lt m _ _ _ hm
  have k1 := h1
  have lt1 : ∀ x ∈ p1, x.block < W.heap.size := by obtain ⟨m, hm⟩ := k1; exact DataW.trod_lt m _ _ _ hm
  obtain ⟨a0, rfl, rfl, rfl⟩ := open_bool Tryd.underlying4 (hval 0 4 v0 rfl rfl) h0
  obtain ⟨a1, rfl, rfl, rfl, w1⟩ := open_string Tryd.underlying9 (hval 1 9 v1 rfl rfl) h1
  refine (walk W (CP.tabs_of hL) a0 a1 w1).mono fun e W' ⟨he, bel⟩ => ?_
  subst he
  exact ⟨_, rfl, _, _, _, [], _, [], hW', trodAll_mk1 (shut_bool Tryd.underlying4 _), (trodAll_cons_mk (Below.trod Bas.laidOut (by kernel_rfl) (of_decide_eq_true (by kernel_rfl)) k0 bel lt0) (trodAll_cons_mk (Below.trod Bas.laidOut (by kernel_rfl) (of_decide_eq_true (by kernel_rfl)) k1 bel lt1) trodAll_mk0)), rfl, bel.frame _, fun h => by cases h⟩


theorem over : Rows.compressLatinRow.holds Tryd.pinned (OpenSpec.ofChange Rows.compressLatinSpec) :=
  OpenClaim.holds_of_cond 5 Tryd.f5 rfl rfl rfl rfl rfl rfl rfl ⟨rfl, rfl, rfl, rfl, rfl⟩ rfl rfl rfl rfl rfl (by kernel_rfl) Tryd.func5 (by kernel_rfl)
    (of_decide_eq_true (by kernel_rfl)) (by unfold Func.isWrapper; first | (rw [if_pos (by decide +kernel)]; kernel_rfl) | (rw [if_neg (by decide +kernel)]; exact ⟨rfl, rfl⟩))
    (fun os started H enc _ Fi => by rw [OpenClaim.pre_eq_preRow]; exact lifted os started H enc Fi)
theorem plain (f : FuncId) (fn : Func) (hf : Tryd.pinned.checked.prog.funcNamed Rows.compressLatinRow.func = some f) (hfn : Tryd.pinned.checked.prog.funcs[f]? = some fn) :
    false = Tryd.pinned.checked.prog.looks [] ∧ ∀ (j : Nat) t, fn.params[j]? = some t → Tryd.pinned.checked.prog.wantsStandIn t = false := by
  obtain rfl : f = 5 := Option.some.inj ((show Tryd.prog.funcNamed Rows.compressLatinRow.func = some 5 by kernel_rfl).symm.trans hf) |>.symm
  obtain rfl : fn = Tryd.f5 := (Option.some.inj (Tryd.func5.symm.trans hfn)).symm
  refine ⟨by kernel_rfl, fun j t ht => ?_⟩
  rw [Tryd.params5] at ht
  have hm : t ∈ [4, 9] := by simpa using Array.mem_of_getElem? ht
  have hall : ([4, 9].all fun u => !Tryd.prog.wantsStandIn u) = true := by kernel_rfl
  exact (show Tryd.prog.wantsStandIn t = false by simpa using List.all_eq_true.1 hall t hm)
end Go.Proofs.YtpglmfhlgaliaaaDoor.compressLatin
namespace Go.Proofs.YtpglmfhlgaliaaaDoor
/-- The statement: the tied card. -/
theorem compressLatin_proved : Rows.CompressLatinCardSaid :=
  Claim7.holds_tied_plain_at .later [] _ _ _ _ compressLatin.over (fun _ h => by cases h) (by kernel_rfl) (fun _ h => by cases h) compressLatin_row_tie rfl ⟨rfl, rfl⟩ (by kernel_rfl) rfl compressLatin.plain (by kernel_rfl)
end Go.Proofs.YtpglmfhlgaliaaaDoor
