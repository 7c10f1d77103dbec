/-
  Proved: text of 00, 09, 0A, 0D and 20 to 7F denotes itself; with 80 to FF the first window's scalars besides. No condition.
-/
import Derived.Test.YtohobpjiikpdmaaDoorEXRd
import Derived.Test.YtohobpjiikpdmaaDoorEXAwk
import Derived.Test.YtohobpjiikpdmaaDoorEXGrt
import Derived.Test.YtohobpjiikpdmaaDoorEXTab
import Derived.Test.YtohobpjiikpdmaaDoorPair
namespace Go.Proofs.YtohobpjiikpdmaaDoor
open Go.ChangeShapes Go.WideShapes Go.ChangeAt Go.RowKit
open Go.ChangeMaps (open_string shut_string)
namespace expandAscii
open Bas Sca Stp Scn Cod EX
set_option linter.unusedVariables false

/-- The bytes that are looked at. -/
def asc (b : Int) : Bool := decide (32 ≤ b ∨ b = 0 ∨ b = 9 ∨ b = 10 ∨ b = 13)
set_option maxHeartbeats 8000000 in
set_option maxRecDepth 100000 in
theorem walk (w : World) (hT : EX.Tabs w) (s : ByteArray) (hwf : s.size ≤ maxLen) :
    Calls Tryd.prog 5 #[.string s] w fun e w' => e = .returned (.bool true) ∧ Below w.heap.size w w' := by
  have HT : Hid (EX.Tabs w) := hT
  clear hwf hT
  go_enter Tryd.func5, Tryd.ntmps5
  go_wp2_with fail
  refine (awake_any w HT.out).mono ?_
  rintro e w1 ⟨rfl, b1⟩
  have HB1 : Hid (Below w.heap.size w w1) := b1
  clear b1
  go_wp2_with fail
  refine (great_any _ none none 0 0 0 0 w1).mono ?_
  rintro e w1' ⟨rfl, rfl⟩
  obtain ⟨g, hg⟩ : ∃ g, (decide ((s.size : Int) > 400) || (decide (0 > 200) || decide (0 > 200))) = g := ⟨_, rfl⟩
  rw [hg]
  cases g with
  | true =>
    clear hg
    go_wp2_with fail
    refine (awake_any _ (HT.out.below HB1.out)).mono ?_
    rintro e w2 ⟨rfl, b2⟩
    go_wp2
    go_ret
    exact ⟨rfl, below_two HB1.out b2⟩
  | false =>
  obtain ⟨h400, -, -⟩ := great_no hg
  clear hg
  have HL : Hid ((bytesL s).length = s.size) := bytesL_length s
  go_wp2
  go_loopw [3, 4] (fun o q wr => ∃ i : Nat, q = .int .i64 i ∧ i ≤ s.size ∧ Seg .u32 wr o ((bytesL s).take i) ∧ (∀ g, o.ownBlock = some g → w.heap.size ≤ g) ∧ Below w.heap.size w wr ∧ (∀ j, j < i → asc (nth (bytesL s) j) = true)) (fun _ q _ => s.size - (intOf q).toNat)
  case atStart => exact ⟨0, rfl, Nat.zero_le _, by simpa using seg_nil _ _, fun g hg => by simp [Value.ownBlock] at hg, HB1.out, fun j hj => by omega⟩
  case round =>
    obtain ⟨i, rfl, hi, hsg, hown, hbl, hasc⟩ := hrel
    have HI : Hid (Seg .u32 wr u3 ((bytesL s).take i) ∧ (∀ g, u3.ownBlock = some g → w.heap.size ≤ g) ∧ Below w.heap.size w wr ∧ (∀ j, j < i → asc (nth (bytesL s) j) = true)) := ⟨hsg, hown, hbl, hasc⟩
    clear hsg hown hbl hasc
    by_cases hlt : i < s.size
    · have hlti : (i : Int) < (s.size : Int) := by omega
      have hb := bytesL_byte s _ (nth_mem (l := bytesL s) (i := i) (by rw [bytesL_length]; exact hlt))
      have hsn := str_nth s i hlt
      have htk := take_snoc (bytesL s) i (by rw [HL.out]; exact hlt)
      obtain ⟨b, hbb⟩ : ∃ b, nth (bytesL s) i = b := ⟨_, rfl⟩
      rw [hbb] at hb hsn htk
      have HBB : Hid (nth (bytesL s) i = b ∧ (bytesL s).take (i + 1) = (bytesL s).take i ++ [b]) := ⟨hbb, htk⟩
      obtain ⟨b0, b1⟩ := hb
      clear hbb htk
      by_cases hA : asc b = true
      · have HA : Hid (∀ j, j < i + 1 → asc (nth (bytesL s) j) = true) := fun j hj => by
          by_cases e : j = i
          · rw [e, HBB.out.1]; exact hA
          · exact HI.out.2.2.2 j (by omega)
        have hwb : IntKind.u32.wrap b = b := by rw [IntKind.wrap_u32]; omega
        have HSG : Hid (∀ o, Seg .u32 (wr.alloc o) u3 ((bytesL s).take i)) := fun o => HI.out.1.chg (chg_of_below ((Below.refl _ _).alloc (Nat.le_refl _) _) (Nat.le_refl _) (fun _ _ => False)) (fun _ _ _ h => h)
        have hcs : 32 ≤ b ∨ (b = 0 ∨ b = 9 ∨ b = 10 ∨ b = 13) := by unfold asc at hA; simpa using hA
        have hcl : ((bytesL s).take i).length ≤ 400 := by rw [List.length_take]; omega
        clear hA
        obtain ⟨L, hL⟩ : ∃ L, (bytesL s).take i = L := ⟨_, rfl⟩
        have HLL : Hid ((bytesL s).take i = L) := hL
        rw [hL] at HSG hcl
        clear hL
        rcases hcs with c | rfl | rfl | rfl | rfl
        · have HSV : Hid ((bytesL s).take (i + 1) = L ++ [b]) := by show _ = _; rw [HBB.out.2, HLL.out]
          clear HBB HLL
          go_wp2_with (at_builtin; go_must (refine wpList_append_seg rfl _ _ 27 27 rfl .u32 44 4 Tryd.underlying27 Stp.info_u32 u3 L [b] rfl (HSG.out _) _ rfl (src_row (l := [b]) Tryd.underlying27 (by exact row_new .u32 _ [b] _ _ (by simp)) rfl (fun h => by cases h)) (by unfold maxLen; simp; omega) (by simp; omega) ?_; intro vo2 w4 hs4 hc4 hm4; obtain ⟨a1, e1, hv1, -⟩ := hs4.form; obtain ⟨ln, hln⟩ : ∃ ln, (L ++ [b]).length = ln := ⟨_, rfl⟩; rw [hln] at hv1; subst hv1))
          generalize hvo : Value.slice a1 ln e1 = vo3 at *
          have HN : Hid (Seg .u32 w4 vo3 ((bytesL s).take (i + 1)) ∧ (∀ g, vo3.ownBlock = some g → w.heap.size ≤ g) ∧ Below w.heap.size w w4) := by
            have hal : Below wr.heap.size wr (wr.alloc (.cells #[.int .u32 (b)] 44)) := (Below.refl _ _).alloc (Nat.le_refl _) _
            refine ⟨by rw [HSV.out]; exact hs4, fun g hg => ?_, (below_two HI.out.2.2.1 hal).trans (hc4.below (by have := HI.out.2.2.1.size; have := hal.size; omega) (fun k o hk hh => by have := HI.out.2.1 k hh; omega))⟩
            rcases hm4 g hg with e | e
            · exact HI.out.2.1 g e
            · have := HI.out.2.2.1.size; have := hal.size; omega
          clear hs4 hc4 hm4 hln hvo hcl
          go_wp2
          go_roundw
          case rel => exact ⟨i + 1, by go_num, by omega, HN.out.1, HN.out.2.1, HN.out.2.2, HA.out⟩
          case measure => simp [intOf]; omega
        · have HSV : Hid ((bytesL s).take (i + 1) = L ++ [0]) := by show _ = _; rw [HBB.out.2, HLL.out]
          clear HBB HLL
          go_wp2_with (at_builtin; go_must (refine wpList_append_seg rfl _ _ 27 27 rfl .u32 44 4 Tryd.underlying27 Stp.info_u32 u3 L [0] rfl (HSG.out _) _ rfl (src_row (l := [0]) Tryd.underlying27 (by exact row_new .u32 _ [0] _ _ (by simp)) rfl (fun h => by cases h)) (by unfold maxLen; simp; omega) (by simp; omega) ?_; intro vo2 w4 hs4 hc4 hm4; obtain ⟨a1, e1, hv1, -⟩ := hs4.form; obtain ⟨ln, hln⟩ : ∃ ln, (L ++ [0]).length = ln := ⟨_, rfl⟩; rw [hln] at hv1; subst hv1))
          generalize hvo : Value.slice a1 ln e1 = vo3 at *
          have HN : Hid (Seg .u32 w4 vo3 ((bytesL s).take (i + 1)) ∧ (∀ g, vo3.ownBlock = some g → w.heap.size ≤ g) ∧ Below w.heap.size w w4) := by
            have hal : Below wr.heap.size wr (wr.alloc (.cells #[.int .u32 (0)] 44)) := (Below.refl _ _).alloc (Nat.le_refl _) _
            refine ⟨by rw [HSV.out]; exact hs4, fun g hg => ?_, (below_two HI.out.2.2.1 hal).trans (hc4.below (by have := HI.out.2.2.1.size; have := hal.size; omega) (fun k o hk hh => by have := HI.out.2.1 k hh; omega))⟩
            rcases hm4 g hg with e | e
            · exact HI.out.2.1 g e
            · have := HI.out.2.2.1.size; have := hal.size; omega
          clear hs4 hc4 hm4 hln hvo hcl
          go_wp2
          go_roundw
          case rel => exact ⟨i + 1, by go_num, by omega, HN.out.1, HN.out.2.1, HN.out.2.2, HA.out⟩
          case measure => simp [intOf]; omega
        · have HSV : Hid ((bytesL s).take (i + 1) = L ++ [9]) := by show _ = _; rw [HBB.out.2, HLL.out]
          clear HBB HLL
          go_wp2_with (at_builtin; go_must (refine wpList_append_seg rfl _ _ 27 27 rfl .u32 44 4 Tryd.underlying27 Stp.info_u32 u3 L [9] rfl (HSG.out _) _ rfl (src_row (l := [9]) Tryd.underlying27 (by exact row_new .u32 _ [9] _ _ (by simp)) rfl (fun h => by cases h)) (by unfold maxLen; simp; omega) (by simp; omega) ?_; intro vo2 w4 hs4 hc4 hm4; obtain ⟨a1, e1, hv1, -⟩ := hs4.form; obtain ⟨ln, hln⟩ : ∃ ln, (L ++ [9]).length = ln := ⟨_, rfl⟩; rw [hln] at hv1; subst hv1))
          generalize hvo : Value.slice a1 ln e1 = vo3 at *
          have HN : Hid (Seg .u32 w4 vo3 ((bytesL s).take (i + 1)) ∧ (∀ g, vo3.ownBlock = some g → w.heap.size ≤ g) ∧ Below w.heap.size w w4) := by
            have hal : Below wr.heap.size wr (wr.alloc (.cells #[.int .u32 (9)] 44)) := (Below.refl _ _).alloc (Nat.le_refl _) _
            refine ⟨by rw [HSV.out]; exact hs4, fun g hg => ?_, (below_two HI.out.2.2.1 hal).trans (hc4.below (by have := HI.out.2.2.1.size; have := hal.size; omega) (fun k o hk hh => by have := HI.out.2.1 k hh; omega))⟩
            rcases hm4 g hg with e | e
            · exact HI.out.2.1 g e
            · have := HI.out.2.2.1.size; have := hal.size; omega
          clear hs4 hc4 hm4 hln hvo hcl
          go_wp2
          go_roundw
          case rel => exact ⟨i + 1, by go_num, by omega, HN.out.1, HN.out.2.1, HN.out.2.2, HA.out⟩
          case measure => simp [intOf]; omega
        · have HSV : Hid ((bytesL s).take (i + 1) = L ++ [10]) := by show _ = _; rw [HBB.out.2, HLL.out]
          clear HBB HLL
          go_wp2_with (at_builtin; go_must (refine wpList_append_seg rfl _ _ 27 27 rfl .u32 44 4 Tryd.underlying27 Stp.info_u32 u3 L [10] rfl (HSG.out _) _ rfl (src_row (l := [10]) Tryd.underlying27 (by exact row_new .u32 _ [10] _ _ (by simp)) rfl (fun h => by cases h)) (by unfold maxLen; simp; omega) (by simp; omega) ?_; intro vo2 w4 hs4 hc4 hm4; obtain ⟨a1, e1, hv1, -⟩ := hs4.form; obtain ⟨ln, hln⟩ : ∃ ln, (L ++ [10]).length = ln := ⟨_, rfl⟩; rw [hln] at hv1; subst hv1))
          generalize hvo : Value.slice a1 ln e1 = vo3 at *
          have HN : Hid (Seg .u32 w4 vo3 ((bytesL s).take (i + 1)) ∧ (∀ g, vo3.ownBlock = some g → w.heap.size ≤ g) ∧ Below w.heap.size w w4) := by
            have hal : Below wr.heap.size wr (wr.alloc (.cells #[.int .u32 (10)] 44)) := (Below.refl _ _).alloc (Nat.le_refl _) _
            refine ⟨by rw [HSV.out]; exact hs4, fun g hg => ?_, (below_two HI.out.2.2.1 hal).trans (hc4.below (by have := HI.out.2.2.1.size; have := hal.size; omega) (fun k o hk hh => by have := HI.out.2.1 k hh; omega))⟩
            rcases hm4 g hg with e | e
            · exact HI.out.2.1 g e
            · have := HI.out.2.2.1.size; have := hal.size; omega
          clear hs4 hc4 hm4 hln hvo hcl
          go_wp2
          go_roundw
          case rel => exact ⟨i + 1, by go_num, by omega, HN.out.1, HN.out.2.1, HN.out.2.2, HA.out⟩
          case measure => simp [intOf]; omega
        · have HSV : Hid ((bytesL s).take (i + 1) = L ++ [13]) := by show _ = _; rw [HBB.out.2, HLL.out]
          clear HBB HLL
          go_wp2_with (at_builtin; go_must (refine wpList_append_seg rfl _ _ 27 27 rfl .u32 44 4 Tryd.underlying27 Stp.info_u32 u3 L [13] rfl (HSG.out _) _ rfl (src_row (l := [13]) Tryd.underlying27 (by exact row_new .u32 _ [13] _ _ (by simp)) rfl (fun h => by cases h)) (by unfold maxLen; simp; omega) (by simp; omega) ?_; intro vo2 w4 hs4 hc4 hm4; obtain ⟨a1, e1, hv1, -⟩ := hs4.form; obtain ⟨ln, hln⟩ : ∃ ln, (L ++ [13]).length = ln := ⟨_, rfl⟩; rw [hln] at hv1; subst hv1))
          generalize hvo : Value.slice a1 ln e1 = vo3 at *
          have HN : Hid (Seg .u32 w4 vo3 ((bytesL s).take (i + 1)) ∧ (∀ g, vo3.ownBlock = some g → w.heap.size ≤ g) ∧ Below w.heap.size w w4) := by
            have hal : Below wr.heap.size wr (wr.alloc (.cells #[.int .u32 (13)] 44)) := (Below.refl _ _).alloc (Nat.le_refl _) _
            refine ⟨by rw [HSV.out]; exact hs4, fun g hg => ?_, (below_two HI.out.2.2.1 hal).trans (hc4.below (by have := HI.out.2.2.1.size; have := hal.size; omega) (fun k o hk hh => by have := HI.out.2.1 k hh; omega))⟩
            rcases hm4 g hg with e | e
            · exact HI.out.2.1 g e
            · have := HI.out.2.2.1.size; have := hal.size; omega
          clear hs4 hc4 hm4 hln hvo hcl
          go_wp2
          go_roundw
          case rel => exact ⟨i + 1, by go_num, by omega, HN.out.1, HN.out.2.1, HN.out.2.2, HA.out⟩
          case measure => simp [intOf]; omega
      · have hcs : b < 32 ∧ (b != 0) = true ∧ (b != 9) = true ∧ (b != 10) = true ∧ (b != 13) = true := by
          unfold asc at hA
          simp only [decide_eq_true_eq] at hA
          refine ⟨by omega, ?_, ?_, ?_, ?_⟩ <;> (rw [bne_iff_ne]; omega)
        obtain ⟨c1, c2, c3, c4, c5⟩ := hcs
        clear hA
        go_wp2
        go_ret
        exact ⟨rfl, HI.out.2.2.1⟩
    · have hge : ¬ (i : Int) < (s.size : Int) := by omega
      obtain rfl : i = s.size := by omega
      have HX : Hid (scan Exp.stepX Exp.st0 (bytesL s) = ⟨bytesL s, (bytesL s).length, Exp.st0, false⟩) := Exp.scan_plain (bytesL s) (fun b hb => ⟨bytesL_byte s b hb, by
        obtain ⟨j, hj, rfl⟩ := List.getElem_of_mem hb
        have := HI.out.2.2.2 j (by rw [← HL.out]; exact hj)
        rw [show nth (bytesL s) j = (bytesL s)[j] from by simp [nth, hj]] at this
        exact this⟩)
      have htk : (bytesL s).take s.size = bytesL s := List.take_of_length_le (by rw [HL.out]; exact Nat.le_refl _)
      have hS := HI.out.1
      rw [htk] at hS
      obtain ⟨ao, co, hvo, -⟩ := hS.form
      rw [HL.out] at hvo
      have HS : Hid (Seg .u32 wr u3 (bytesL s)) := hS
      subst hvo
      clear hS htk hge
      go_wp2_with fail
      refine (newD_any () wr rfl (HT.out.below HI.out.2.2.1)).mono ?_
      rintro e w2 ⟨rfl, D2, z2, B2⟩
      obtain ⟨N, hN⟩ : ∃ N, N = wr.heap.size := ⟨_, rfl⟩
      have B2' : Below wr.heap.size wr w2 := by rw [← hN] at B2 ⊢; exact B2
      have HN : Hid (w.heap.size ≤ N ∧ N = wr.heap.size) := ⟨by rw [hN]; exact HI.out.2.2.1.size, hN⟩
      rw [← hN] at D2 z2 B2 ⊢
      have HB2 : Hid (Below w.heap.size w w2 ∧ Seg .u32 w2 (.slice ao s.size co) (bytesL s) ∧ (∀ g, (Value.slice ao s.size co).ownBlock = some g → g < N)) := ⟨below_two HI.out.2.2.1 B2', HS.out.chg (chg_of_below B2' (Nat.le_refl _) (fun _ _ => False)) (fun _ _ _ h => h), fun g hg => by have := HS.out.lt hg; omega⟩
      clear hN B2' z2 B2
      go_wp2_with fail
      refine (read_any N _ _ s none none 0 0 0 0 [] [] ⟨bytesL s, (bytesL s).length, Exp.st0, false⟩ w2 D2 HX.out.symm (ints_none _ _) (ints_none _ _) (fun b' o' h0 e h => by omega) (fun b' o' h0 e h => by omega) (by omega) (by omega) (by omega)).mono ?_
      rintro e w3 ⟨vo, rfl, v3, u3, s3, f3, D3, C3⟩
      have HB3 : Hid (Below w.heap.size w w3 ∧ Seg .u32 w3 (.slice ao s.size co) (bytesL s) ∧ Seg .u32 w3 vo (bytesL s)) := ⟨HB2.out.1.trans (C3.below HB2.out.1.size (fun k j hk h => by have := footD_nil h; have := HN.out.1; omega)), HB2.out.2.1.chg C3 (fun g o hg hh => by have := HB2.out.2.2 g hg; have := footD_nil hh; omega), s3⟩
      obtain ⟨a3, c3, hv3, -⟩ := s3.form
      simp only [] at hv3
      rw [HL.out] at hv3
      subst hv3
      clear s3 f3 D3 C3 D2 HB2
      go_wp2_with fail
      refine (rSame_any a3 ao s.size s.size c3 co (bytesL s) (bytesL s) w3 (seg_row HB3.out.2.2).1 (seg_row HB3.out.2.1).1 HL.out HL.out (by unfold maxLen; omega) (by unfold maxLen; omega)).mono ?_
      rintro e w4 ⟨rfl, nd, rfl⟩
      rw [cmpL_self, show ((0 : Int) == 0) = true from rfl]
      have HB4 : Hid (Below w.heap.size w (w3.drewN nd)) := below_two HB3.out.1 (below_dn _ _)
      generalize w3.drewN nd = w4 at *
      clear HB3
      go_wp2
      go_ret
      exact ⟨rfl, HB4.out⟩
theorem reads (os : Os) {H : Type} (enc : TypeId × Value → H) : ∃ places, DataW.whole enc Tryd.prog ((({ World.holding Tryd.prog os ⟨#[], #[], []⟩ with heap := ((((World.holding Tryd.prog os ⟨#[], #[], []⟩).heap.modify 1 EX.layN).modify 2 EX.layS).modify 0 EX.layZ) } : World)).forCall (fun _ _ => 0) ⟨#[], #[.string ByteArray.empty], []⟩).memory Tryd.f5.params.toList Rows.expandAsciiSpec.vars false #[.string ByteArray.empty].toList 8 = some ([.lit (.string [])], [], places) :=
  ⟨[], by kernel_rfl⟩
set_option maxRecDepth 100000 in
theorem lifted (os : Os) (started : os.Started) (H : Type) (enc : TypeId × Value → H) (Fi : Stop.Interp) :
    ReturnsInHanded {} Tryd.checked os 5 .any ((OpenSpec.ofChange Rows.expandAsciiSpec).preRow enc Tryd.prog Tryd.f5 Rows.expandAsciiRow.domain false Rows.expandAsciiRow.laid) (((OpenSpec.ofChange Rows.expandAsciiSpec).at Fi).post enc Tryd.prog Tryd.f5 false true false false) := by
  obtain ⟨places, hx⟩ := reads os enc
  refine returnsInHanded_of_row (C := Tryd.checked) (s := OpenSpec.ofChange Rows.expandAsciiSpec) Bas.own started (by kernel_rfl) Tryd.func5
    (witness_row_at (enc := enc) (C := Tryd.checked) false (({ World.holding Tryd.prog os ⟨#[], #[], []⟩ with heap := ((((World.holding Tryd.prog os ⟨#[], #[], []⟩).heap.modify 1 EX.layN).modify 2 EX.layS).modify 0 EX.layZ) } : World)) #[.string ByteArray.empty] rfl (by kernel_rfl) (by kernel_rfl) (by kernel_rfl)
      (OpenSpec.preRow_of_cond 8 hx (by kernel_rfl) (fun k hk => by cases hk) (by kernel_rfl) (EX.laid_met os _))) ?_
  intro W base args ds gs before hval0 hW _ _ _ hL _ _
  have hval : ∀ (j : Nat) t v, Tryd.f5.params[j]? = some t → args[j]? = some v → Value.okWide Tryd.prog W .any base t v := hval0
  have hW' := hW
  obtain ⟨p, q, hA0, hV, rfl, hfz, hnd⟩ := hW
  have hA : DataW.TrodAll enc Tryd.prog W 0 (fun _ => true) true Tryd.f5.params.toList args.toList ds p := hA0
  rw [Tryd.params5] at hA hval
  obtain ⟨v0, vs0, d0, ds0, p0, q0, hargs, rfl, rfl, h0, r0⟩ := trodAll_cons hA
  obtain ⟨rfl, rfl, rfl⟩ := trodAll_nil r0
  obtain rfl : args = #[v0] := by cases args; simp_all
  obtain ⟨rfl, rfl⟩ := trodVars_none hV
  have k0 := h0
  have lt0 : ∀ x ∈ p0, x.block < W.heap.size := by obtain ⟨m, hm⟩ := k0; exact DataW.trod_lt m _ _ _ hm
  obtain ⟨a0, rfl, rfl, rfl, w0⟩ := open_string Tryd.underlying9 (hval 0 9 v0 rfl rfl) h0
  refine (walk W (EX.tabs_of hL) a0 w0).mono fun e W' ⟨he, bel⟩ => ?_
  subst he
  exact ⟨_, rfl, _, _, _, [], _, [], hW', trodAll_mk1 (shut_bool Tryd.underlying4 _), (trodAll_cons_mk (Below.trod Bas.laidOut (by kernel_rfl) (of_decide_eq_true (by kernel_rfl)) k0 bel lt0) trodAll_mk0), rfl, bel.frame _, fun h => by cases h⟩


theorem over : Rows.expandAsciiRow.holds Tryd.pinned (OpenSpec.ofChange Rows.expandAsciiSpec) :=
  OpenClaim.holds_of_cond 5 Tryd.f5 rfl rfl rfl rfl rfl rfl rfl ⟨rfl, rfl, rfl, rfl, rfl⟩ rfl rfl rfl rfl rfl (by kernel_rfl) Tryd.func5 (by kernel_rfl)
    (of_decide_eq_true (by kernel_rfl)) (by unfold Func.isWrapper; first | (rw [if_pos (by decide +kernel)]; kernel_rfl) | (rw [if_neg (by decide +kernel)]; exact ⟨rfl, rfl⟩))
    (fun os started H enc _ Fi => by rw [OpenClaim.pre_eq_preRow]; exact lifted os started H enc Fi)
theorem plain (f : FuncId) (fn : Func) (hf : Tryd.pinned.checked.prog.funcNamed Rows.expandAsciiRow.func = some f) (hfn : Tryd.pinned.checked.prog.funcs[f]? = some fn) :
    false = Tryd.pinned.checked.prog.looks [] ∧ ∀ (j : Nat) t, fn.params[j]? = some t → Tryd.pinned.checked.prog.wantsStandIn t = false := by
  obtain rfl : f = 5 := Option.some.inj ((show Tryd.prog.funcNamed Rows.expandAsciiRow.func = some 5 by kernel_rfl).symm.trans hf) |>.symm
  obtain rfl : fn = Tryd.f5 := (Option.some.inj (Tryd.func5.symm.trans hfn)).symm
  refine ⟨by kernel_rfl, fun j t ht => ?_⟩
  rw [Tryd.params5] at ht
  have hm : t ∈ [9] := by simpa using Array.mem_of_getElem? ht
  have hall : ([9].all fun u => !Tryd.prog.wantsStandIn u) = true := by kernel_rfl
  exact (show Tryd.prog.wantsStandIn t = false by simpa using List.all_eq_true.1 hall t hm)
end Go.Proofs.YtohobpjiikpdmaaDoor.expandAscii
namespace Go.Proofs.YtohobpjiikpdmaaDoor
/-- The statement: the tied card. -/
theorem expandAscii_proved : Rows.ExpandAsciiCardSaid :=
  Claim7.holds_tied_plain_at .later [] _ _ _ _ expandAscii.over (fun _ h => by cases h) (by kernel_rfl) (fun _ h => by cases h) expandAscii_row_tie rfl ⟨rfl, rfl⟩ (by kernel_rfl) rfl expandAscii.plain (by kernel_rfl)
end Go.Proofs.YtohobpjiikpdmaaDoor
