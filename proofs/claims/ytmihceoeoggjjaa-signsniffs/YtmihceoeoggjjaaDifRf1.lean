/-
  Contracts of the document's functions of layer 11 on bytes and numbers: Trails, Worth, Kept, Least, Prev, as walks over the translated text. The condition: whole numbers of their kinds.
-/
import Derived.Test.YtmihceoeoggjjaaDifOut
namespace Go.Proofs.Ytmihceoeoggjjaa
open Go.ChangeShapes Go.WideShapes Go.ChangeAt Go.RowKit
namespace Dif
open Bas Txt
set_option linter.unusedVariables false

theorem seg_none (w : World) (t : TypeId) {g : Nat} (hg : g = w.heap.size) : Seg .u8 (w.alloc (.cells #[] t)) (.slice (some ⟨g, 0, none⟩) 0 0) [] := by subst hg; exact seg_empty _ _ _
set_option maxHeartbeats 4000000 in
set_option maxRecDepth 100000 in
theorem rTrails_any (w : World) :
    Calls Try.prog 39 #[] w fun e w' => (∃ v, e = .returned v ∧ OutOf w w' v allT) := by
  go_enter Try.func39, Try.ntmps39
  go_wp2
  have HO : Hid (OutOf w (w.alloc (.cells #[] 5)) (.slice (some ⟨w.heap.size, 0, none⟩) 0 0) []) := ⟨seg_none w _ rfl, fun g hg => by simp [Value.ownBlock] at hg; omega, (Below.refl _ _).alloc (Nat.le_refl _) _⟩
  go_loopw [1, 2] (fun o i wr => ∃ (b : Nat), i = .int .i64 b ∧ 1 ≤ b ∧ b ≤ 256 ∧ OutOf w wr o (tlL b)) (fun _ i _ => 256 - (intOf i).toNat)
  case atStart => exact ⟨1, rfl, by decide, by decide, HO.out⟩
  case round =>
    clear HO
    obtain ⟨b, rfl, hb1, hb2, hO⟩ := hrel
    have HO : Hid (OutOf w wr u1 (tlL b)) := hO
    have HL : Hid ((tlL b).length ≤ b) := tlL_len_le b
    clear hO
    by_cases hlt : b < 256
    · have i1 : (b : Int) < 256 := by omega
      cases hT : isT b with
      | true =>
        have HT : Hid (tlL (b + 1) = tlL b ++ [(b : Int)]) := tlL_yes hb1 hT
        have hcs : b ≤ 6 ∨ (16 ≤ b ∧ b ≤ 25) ∨ (28 ≤ b ∧ b ≤ 31) ∨ 33 ≤ b := by
          simp [isT] at hT; omega
        clear hT
        obtain ⟨T, hTe⟩ : ∃ T, tlL b = T := ⟨_, rfl⟩
        rw [hTe] at HO HL HT
        clear hTe
        have e1 : IntKind.u8.wrap (b : Int) = (b : Int) := by rw [IntKind.wrap_u8]; omega
        have HSA : Hid (∀ o, OutOf w (wr.alloc o) u1 T) := fun o => HO.out.below ((Below.refl _ _).alloc (Nat.le_refl _) o)
        rcases hcs with h | ⟨h, h'⟩ | ⟨h, h'⟩ | h
        all_goals
          go_wp2_with (at_builtin; go_must (refine wpList_append_seg rfl _ _ 40 40 rfl .u8 5 1 Try.underlying40 info_u8 u1 T [(b : Int)] rfl (HSA.out _).1 _ rfl (src_row (l := [(b : Int)]) Try.underlying40 (by exact row_new .u8 wr [(b : Int)] _ _ rfl) rfl (fun h => by cases h)) (by have := HL.out; unfold maxLen; simp; omega) (by have := HL.out; simp; omega) ?_; intro vo w4 hs4 hc4 hm4))
          have HF4 : Hid (OutOf w w4 vo (T ++ [(b : Int)])) := HO.out.app ((Below.refl _ _).alloc (Nat.le_refl _) _) hs4 hc4 hm4
          clear hs4 hc4 hm4
          exact ⟨⟨b + 1, by go_num, by omega, by omega, by rw [HT.out]; exact HF4.out⟩, by simp [intOf]; omega⟩
      | false =>
        have HT : Hid (tlL (b + 1) = tlL b) := tlL_no hb1 hT
        have hcs : ¬ b ≤ 6 ∧ ¬ (16 ≤ b ∧ b ≤ 25) ∧ ¬ (28 ≤ b ∧ b ≤ 31) ∧ ¬ 33 ≤ b := by
          simp [isT] at hT; omega
        clear hT
        have hc2 : (7 ≤ b ∧ b ≤ 15) ∨ (26 ≤ b ∧ b ≤ 27) ∨ b = 32 := by omega
        clear hcs
        rcases hc2 with ⟨h, h'⟩ | ⟨h, h'⟩ | h
        · go_wp2
          go_roundw
          case rel => exact ⟨b + 1, by go_num, by omega, by omega, by rw [HT.out]; exact HO.out⟩
          case measure => simp [intOf]; omega
        · go_wp2
          go_roundw
          case rel => exact ⟨b + 1, by go_num, by omega, by omega, by rw [HT.out]; exact HO.out⟩
          case measure => simp [intOf]; omega
        · have h1 : 32 ≤ b := by omega
          have h2 : b ≤ 32 := by omega
          clear h
          go_wp2
          go_roundw
          case rel => exact ⟨b + 1, by go_num, by omega, by omega, by rw [HT.out]; exact HO.out⟩
          case measure => simp [intOf]; omega
    · obtain rfl : b = 256 := by omega
      go_wp2
      go_ret
      exact ⟨_, rfl, HO.out⟩
set_option maxHeartbeats 2000000 in
theorem rPrev_any (c : Int) (w : World) (h0 : 0 ≤ c) (h1 : c < 4294967296) :
    Calls Try.prog 27 #[.int .u32 c] w fun e w' => e = .returned (.int .u32 (prevI c)) ∧ w' = w := by
  by_cases a1 : 12352 ≤ c ∧ c ≤ 12447
  · have H : Hid (prevI c = 12400) := by show _ = _; unfold prevI; rw [if_pos a1]
    obtain ⟨b1, b2⟩ := a1
    rw [H.out]
    go_enter Try.func27, Try.ntmps27
    go_wp2
    go_ret
    exact ⟨rfl, rfl⟩
  · by_cases a2 : 19968 ≤ c ∧ c ≤ 40869
    · have H : Hid (prevI c = 30481) := by show _ = _; unfold prevI; rw [if_neg a1, if_pos a2]
      obtain ⟨b1, b2⟩ := a2
      have b3 : ¬ c ≤ 12447 := by omega
      rw [H.out]
      clear a1
      go_enter Try.func27, Try.ntmps27
      go_wp2
      go_ret
      exact ⟨rfl, rfl⟩
    · by_cases a3 : 44032 ≤ c ∧ c ≤ 55203
      · have H : Hid (prevI c = 49617) := by show _ = _; unfold prevI; rw [if_neg a1, if_neg a2, if_pos a3]
        obtain ⟨b1, b2⟩ := a3
        have b3 : ¬ c ≤ 12447 := by omega
        have b4 : ¬ c ≤ 40869 := by omega
        rw [H.out]
        clear a1 a2
        go_enter Try.func27, Try.ntmps27
        go_wp2
        go_ret
        exact ⟨rfl, rfl⟩
      · have H : Hid (prevI c = c / 128 * 128 + 64) := by show _ = _; unfold prevI; rw [if_neg a1, if_neg a2, if_neg a3]
        rw [H.out]
        go_enter Try.func27, Try.ntmps27
        go_wp2
        all_goals
          go_ret
          exact ⟨rfl, rfl⟩
theorem ret_least {a b c d : Int} (h : a = b) (g : c = d) : Ending.returned (.tuple #[.int .i64 a, .int .i64 c]) = .returned (.tuple #[.int .i64 b, .int .i64 d]) := by rw [h, g]
set_option maxHeartbeats 8000000 in
theorem rLeast_any (b : Int) (w : World) (h0 : 0 ≤ b) (h1 : b < 256) :
    Calls Try.prog 38 #[.int .u8 b] w fun e w' => e = .returned (.tuple #[.int .i64 (lbI b), .int .i64 (ltI b)]) ∧ w' = w := by
  have hcs : b < 33 ∨ b = 33 ∨ (34 ≤ b ∧ b ≤ 36) ∨ (37 ≤ b ∧ b ≤ 79) ∨ (80 ≤ b ∧ b ≤ 207) ∨ (208 ≤ b ∧ b ≤ 250) ∨ (251 ≤ b ∧ b ≤ 253) ∨ b = 254 ∨ b = 255 := by omega
  rcases hcs with h | rfl | h | h | h | h | h | rfl | rfl
  · have H : Hid (0 = lbI b ∧ -1 = ltI b) := (by unfold lbI ltI; repeat' split
                                                 all_goals omega : 0 = lbI b ∧ -1 = ltI b)
    go_enter Try.func38, Try.ntmps38
    go_wp2
    go_ret2
    exact ⟨ret_least H.out.1 H.out.2, rfl⟩
  · go_enter Try.func38, Try.ntmps38
    go_wp2
    go_ret2
    exact ⟨rfl, rfl⟩
  · have H : Hid (-187660 + 59049 * (b - 34) = lbI b ∧ 2 = ltI b) := (by unfold lbI ltI; repeat' split
                                                                         all_goals omega : -187660 + 59049 * (b - 34) = lbI b ∧ 2 = ltI b)
    obtain ⟨h2, h3⟩ := h
    go_enter Try.func38, Try.ntmps38
    go_wp2
    go_ret2
    exact ⟨ret_least H.out.1 H.out.2, rfl⟩
  · have H : Hid (-10513 + 243 * (b - 37) = lbI b ∧ 1 = ltI b) := (by unfold lbI ltI; repeat' split
                                                                      all_goals omega : -10513 + 243 * (b - 37) = lbI b ∧ 1 = ltI b)
    obtain ⟨h2, h3⟩ := h
    go_enter Try.func38, Try.ntmps38
    go_wp2
    go_ret2
    exact ⟨ret_least H.out.1 H.out.2, rfl⟩
  · have H : Hid (-64 + b - 80 = lbI b ∧ 0 = ltI b) := (by unfold lbI ltI; repeat' split
                                                           all_goals omega : -64 + b - 80 = lbI b ∧ 0 = ltI b)
    obtain ⟨h2, h3⟩ := h
    go_enter Try.func38, Try.ntmps38
    go_wp2
    go_ret2
    exact ⟨ret_least H.out.1 H.out.2, rfl⟩
  · have H : Hid (64 + 243 * (b - 208) = lbI b ∧ 1 = ltI b) := (by unfold lbI ltI; repeat' split
                                                                   all_goals omega : 64 + 243 * (b - 208) = lbI b ∧ 1 = ltI b)
    obtain ⟨h2, h3⟩ := h
    go_enter Try.func38, Try.ntmps38
    go_wp2
    go_ret2
    exact ⟨ret_least H.out.1 H.out.2, rfl⟩
  · have H : Hid (10513 + 59049 * (b - 251) = lbI b ∧ 2 = ltI b) := (by unfold lbI ltI; repeat' split
                                                                        all_goals omega : 10513 + 59049 * (b - 251) = lbI b ∧ 2 = ltI b)
    obtain ⟨h2, h3⟩ := h
    go_enter Try.func38, Try.ntmps38
    go_wp2
    go_ret2
    exact ⟨ret_least H.out.1 H.out.2, rfl⟩
  · go_enter Try.func38, Try.ntmps38
    go_wp2
    go_ret2
    exact ⟨rfl, rfl⟩
  · go_enter Try.func38, Try.ntmps38
    go_wp2
    go_ret2
    exact ⟨rfl, rfl⟩
end Dif
end Go.Proofs.Ytmihceoeoggjjaa
