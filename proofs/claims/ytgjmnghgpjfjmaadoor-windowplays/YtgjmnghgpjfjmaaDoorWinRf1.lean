/-
  Contracts of the document's plain functions of layer 13, as walks over the translated text. No condition.
-/
import Derived.Test.YtgjmnghgpjfjmaaDoorWin2
namespace Go.Proofs.YtgjmnghgpjfjmaaDoor
open Go.ChangeShapes Go.WideShapes Go.ChangeAt Go.RowKit
namespace Win
open Bas
set_option linter.unusedVariables false

set_option maxHeartbeats 1000000 in
theorem rHolds_any (o c : Int) (w : World) (o0 : 0 ≤ o) (o1 : o < 4294967296) (c0 : 0 ≤ c) (c1 : c < 4294967296) :
    Calls Tryd.prog 14 #[.int .u32 o, .int .u32 c] w fun e w' => e = .returned (.bool (hasI o c)) ∧ w' = w := by
  by_cases h : o ≤ c
  · by_cases h2 : c < o + 128
    · have HE : Hid (hasI o c = true) := has_iff.2 ⟨h, by omega⟩
      rw [HE.out]
      go_enter Tryd.func14, Tryd.ntmps14
      go_wp2
      go_ret
      exact ⟨rfl, rfl⟩
    · have HE : Hid (hasI o c = false) := has_no.2 (by omega)
      rw [HE.out]
      go_enter Tryd.func14, Tryd.ntmps14
      go_wp2
      go_ret
      exact ⟨rfl, rfl⟩
  · have HE : Hid (hasI o c = false) := has_no.2 (by omega)
    rw [HE.out]
    go_enter Tryd.func14, Tryd.ntmps14
    go_wp2
    go_ret
    exact ⟨rfl, rfl⟩
/-- Eight numbers in a block. -/
def cells8 (k : IntKind) (l : List Int) : Array Value := (l.map (Value.int k)).toArray
theorem seg_new (k : IntKind) (w : World) (l : List Int) (t : TypeId) {g : Nat} (hg : g = w.heap.size) (hl : l.length ≤ maxLen) : Seg k (w.alloc (.cells (l.map (Value.int k)).toArray t)) (.slice (some ⟨g, 0, none⟩) l.length l.length) l := by
  subst hg
  refine .inr ⟨w.heap.size, 0, l.length, rfl, by simp, Nat.le_refl _, hl, fun i hi => ?_, fun i hi => ?_, fun o => by simp⟩
  · rw [Nat.zero_add, World.cell?_alloc_at _ _ _ _ rfl]; exact map_at hi
  · rw [Nat.zero_add, World.cell?_alloc_at _ _ _ _ rfl]
    rw [map_at hi]; rfl
set_option maxHeartbeats 400000 in
theorem rStatics_any (w : World) : Calls Tryd.prog 16 #[] w fun e w' => e = .returned (.slice (some ⟨w.heap.size, 0, none⟩) 8 8) ∧ Seg .u32 w' (.slice (some ⟨w.heap.size, 0, none⟩) 8 8) statL ∧ Below w.heap.size w w' ∧ w'.heap.size = w.heap.size + 1 := by
  have HS : Hid _ := seg_new .u32 w statL 22 rfl (by decide)
  go_enter Tryd.func16, Tryd.ntmps16
  go_wp2
  go_ret
  exact ⟨rfl, HS.out, (Below.refl _ _).alloc (Nat.le_refl _) _, by simp⟩
set_option maxHeartbeats 400000 in
theorem rFirsts_any (w : World) : Calls Tryd.prog 17 #[] w fun e w' => e = .returned (.slice (some ⟨w.heap.size, 0, none⟩) 8 8) ∧ Seg .u32 w' (.slice (some ⟨w.heap.size, 0, none⟩) 8 8) firstL8 ∧ Below w.heap.size w w' ∧ w'.heap.size = w.heap.size + 1 := by
  have HS : Hid _ := seg_new .u32 w firstL8 22 rfl (by decide)
  go_enter Tryd.func17, Tryd.ntmps17
  go_wp2
  go_ret
  exact ⟨rfl, HS.out, (Below.refl _ _).alloc (Nat.le_refl _) _, by simp⟩
set_option maxHeartbeats 2000000 in
theorem rOffset_any (x : Int) (w : World) :
    Calls Tryd.prog 9 #[.int .i64 x] w fun e w' => e = .returned (.tuple #[.int .u32 (offV x), .bool (offB x)]) ∧ Below w.heap.size w w' := by
  by_cases h : 249 ≤ x
  · by_cases h2 : x ≤ 255
    · have hcs : x = 249 ∨ x = 250 ∨ x = 251 ∨ x = 252 ∨ x = 253 ∨ x = 254 ∨ x = 255 := by omega
      clear h h2
      rcases hcs with rfl | rfl | rfl | rfl | rfl | rfl | rfl
      all_goals
        go_enter Tryd.func9, Tryd.ntmps9
        go_wp2
        go_ret2
        exact ⟨rfl, (Below.refl _ _).alloc (Nat.le_refl _) _⟩
    · have HE := off_not (off_none (x := x) (by omega))
      rw [HE.1, HE.2]
      have h3 : ¬ x ≤ 103 := by omega
      have h4 : ¬ x ≤ 167 := by omega
      have h5 : 1 ≤ x := by omega
      have h6 : 104 ≤ x := by omega
      clear HE
      go_enter Tryd.func9, Tryd.ntmps9
      go_wp2
      go_ret2
      exact ⟨rfl, Below.refl _ _⟩
  · by_cases h1 : x < 1
    · have HE := off_not (off_none (x := x) (by omega))
      rw [HE.1, HE.2]
      clear HE
      go_enter Tryd.func9, Tryd.ntmps9
      go_wp2
      go_ret2
      exact ⟨rfl, Below.refl _ _⟩
    · by_cases h2 : 167 < x
      · have HE := off_not (off_none (x := x) (by omega))
        rw [HE.1, HE.2]
        have h3 : ¬ x ≤ 103 := by omega
        have h4 : ¬ x ≤ 167 := by omega
        clear HE
        go_enter Tryd.func9, Tryd.ntmps9
        go_wp2
        go_ret2
        exact ⟨rfl, Below.refl _ _⟩
      · by_cases h3 : x ≤ 103
        · have HE : Hid (offV x = 128 * x ∧ offB x = true) := off_yes (off_one (x := x) (by omega) h3) (by omega)
          rw [HE.out.1, HE.out.2]
          go_enter Tryd.func9, Tryd.ntmps9
          go_wp2
          go_ret2
          exact ⟨ret_ub (by first | rfl | omega) rfl, Below.refl _ _⟩
        · have HE : Hid (offV x = 128 * x + 44032 ∧ offB x = true) := off_yes (off_two (x := x) (by omega) (by omega)) (by omega)
          rw [HE.out.1, HE.out.2]
          have h4 : ¬ x < 104 := by omega
          go_enter Tryd.func9, Tryd.ntmps9
          go_wp2
          go_ret2
          exact ⟨ret_ub (by first | rfl | omega) rfl, Below.refl _ _⟩
theorem offV_rng (x : Int) : 0 ≤ offV x ∧ offV x < 4294967296 := by
  have := off_cases x
  unfold offV; split <;> omega
theorem offV_eq {x : Int} (h : 0 ≤ offI x) : offV x = offI x := by unfold offV; rw [if_neg (by omega)]
set_option maxHeartbeats 4000000 in
theorem rIndex_any (c : Int) (w : World) (c0 : 0 ≤ c) (c1 : c < 4294967296) :
    Calls Tryd.prog 19 #[.int .u32 c] w fun e w' => e = .returned (.int .i64 (idxI c)) ∧ Below w.heap.size w w' := by
  have HH : Hid (∀ x : Int, 249 ≤ x → x ≤ 255 → (∀ y : Int, 249 ≤ y → y < x → hasI (offV y) c = false) → hasI (offV x) c = true → idxI c = x) := by
    intro x h1 h2 hno hh
    rw [offV_eq (by rw [off_fix h1 h2]; have := fix_rng x; omega)] at hh
    refine idx_fix h1 h2 hh (fun y g1 g2 => ?_)
    have := hno y g1 g2
    rwa [offV_eq (by rw [off_fix g1 (by omega)]; have := fix_rng y; omega)] at this
  have HK : Hid (∀ x : Int, 1 ≤ x → x ≤ 167 → (∀ y : Int, 249 ≤ y → y ≤ 255 → hasI (offV y) c = false) → hasI (offV x) c = true → idxI c = x) := by
    intro x h1 h2 hno hh
    rw [offV_eq (by have := off_cases x; omega)] at hh
    rw [idx_low (fun y g1 g2 => by
      have := hno y g1 g2
      rwa [offV_eq (by rw [off_fix g1 (by omega)]; have := fix_rng y; omega)] at this)]
    exact (low_iff h1 h2 c).1 hh
  have HL : Hid ((∀ y : Int, 249 ≤ y → y ≤ 255 → hasI (offV y) c = false) → (∀ y : Int, 1 ≤ y → y ≤ 167 → hasI (offV y) c = false) → idxI c = -1) := by
    intro hno hno2
    rw [idx_low (fun y g1 g2 => by
      have := hno y g1 g2
      rwa [offV_eq (by rw [off_fix g1 (by omega)]; have := fix_rng y; omega)] at this)]
    refine low_none fun y g1 g2 => ?_
    have := hno2 y g1 g2
    rwa [offV_eq (by have := off_cases y; omega)] at this
  have HO : Hid (∀ o : Int, 0 ≤ o → o < 4294967296 → ∀ w, Calls Tryd.prog 14 #[.int .u32 o, .int .u32 c] w fun e w' => e = .returned (.bool (hasI o c)) ∧ w' = w) := fun o h1 h2 w => rHolds_any o c w h1 h2 c0 c1
  obtain ⟨x, hx⟩ : ∃ x, idxI c = x := ⟨_, rfl⟩
  rw [hx] at HH HL HK ⊢
  clear hx
  go_enter Tryd.func19, Tryd.ntmps19
  go_wp2
  go_loopw [3] (fun i wr => ∃ j : Int, i = .int .i64 j ∧ 249 ≤ j ∧ j ≤ 256 ∧ (∀ y : Int, 249 ≤ y → y < j → hasI (offV y) c = false) ∧ Below w.heap.size w wr) (fun i _ => (256 - intOf i).toNat)
  case atStart => exact ⟨249, rfl, by decide, by decide, fun y h1 h2 => by omega, Below.refl _ _⟩
  case round =>
    obtain ⟨j, rfl, hj0, hj1, hno, hB⟩ := hrel
    have HNO : Hid ((∀ y : Int, 249 ≤ y → y < j → hasI (offV y) c = false) ∧ Below w.heap.size w wr) := ⟨hno, hB⟩
    clear hno hB
    by_cases hlt : j ≤ 255
    · have HJ : Hid (hasI (offV j) c = true → x = j) := HH.out j hj0 hlt HNO.out.1
      have HN : Hid (hasI (offV j) c = false → ∀ y : Int, 249 ≤ y → y < j + 1 → hasI (offV y) c = false) := fun h y h1 h2 => by
        by_cases e : y = j
        · rw [e]; exact h
        · exact HNO.out.1 y h1 (by omega)
      go_wp2_with fail
      refine (rOffset_any j wr).mono ?_
      rintro e w2 ⟨rfl, hb2⟩
      have HB : Hid (Below w.heap.size w w2) := below_two HNO.out.2 hb2
      have hrg := offV_rng j
      obtain ⟨F, hF⟩ : ∃ F, offV j = F := ⟨_, rfl⟩
      rw [hF] at hrg HJ HN ⊢
      clear hF hb2 HH HL HNO HK
      go_wp2_with fail
      refine (HO.out F hrg.1 hrg.2 w2).mono ?_
      rintro e w3 ⟨rfl, hw⟩
      rw [hw]
      clear hw w3
      by_cases hb : hasI F c = true
      · have HX : Hid (x = j) := HJ.out hb
        rw [hb]
        clear hb
        go_wp2
        go_ret
        exact ⟨ret_int HX.out.symm, HB.out⟩
      · have hb' := Bool.eq_false_iff.2 hb
        rw [hb']
        have HN' : Hid _ := HN.out hb'
        clear hb hb'
        go_wp2
        go_roundw
        case rel => exact ⟨j + 1, by go_num, by omega, by omega, HN'.out, HB.out⟩
        case measure => simp [intOf]; omega
    · obtain rfl : j = 256 := by omega
      have HN0 : Hid (∀ y : Int, 249 ≤ y → y ≤ 255 → hasI (offV y) c = false) := fun y h1 h2 => HNO.out.1 y h1 (by omega)
      have HB0 : Hid (Below w.heap.size w wr) := HNO.out.2
      clear HH HNO hlt hj0 hj1
      obtain ⟨W, hW⟩ : ∃ W, wr = W := ⟨_, rfl⟩
      rw [hW] at HB0 ⊢
      clear hW wr
      go_wp2
      go_loopw [6] (fun i wr => ∃ j : Int, i = .int .i64 j ∧ 1 ≤ j ∧ j ≤ 168 ∧ (∀ y : Int, 1 ≤ y → y < j → hasI (offV y) c = false) ∧ Below w.heap.size w wr) (fun i _ => (168 - intOf i).toNat)
      case atStart => exact ⟨1, rfl, by decide, by decide, fun y h1 h2 => by omega, HB0.out⟩
      case round =>
        obtain ⟨j, rfl, hj0, hj1, hno, hB⟩ := hrel
        have HNO : Hid ((∀ y : Int, 1 ≤ y → y < j → hasI (offV y) c = false) ∧ Below w.heap.size w wr) := ⟨hno, hB⟩
        clear hno hB
        by_cases hlt : j ≤ 167
        · have HJ : Hid (hasI (offV j) c = true → x = j) := HK.out j hj0 hlt HN0.out
          have HN : Hid (hasI (offV j) c = false → ∀ y : Int, 1 ≤ y → y < j + 1 → hasI (offV y) c = false) := fun h y h1 h2 => by
            by_cases e : y = j
            · rw [e]; exact h
            · exact HNO.out.1 y h1 (by omega)
          go_wp2_with fail
          refine (rOffset_any j wr).mono ?_
          rintro e w2 ⟨rfl, hb2⟩
          have HB : Hid (Below w.heap.size w w2) := below_two HNO.out.2 hb2
          have hrg := offV_rng j
          obtain ⟨F, hF⟩ : ∃ F, offV j = F := ⟨_, rfl⟩
          rw [hF] at hrg HJ HN ⊢
          clear hF hb2 HL HNO HK HB0
          go_wp2_with fail
          refine (HO.out F hrg.1 hrg.2 w2).mono ?_
          rintro e w3 ⟨rfl, hw⟩
          rw [hw]
          clear hw w3
          by_cases hb : hasI F c = true
          · have HX : Hid (x = j) := HJ.out hb
            rw [hb]
            clear hb
            go_wp2
            go_ret
            exact ⟨ret_int HX.out.symm, HB.out⟩
          · have hb' := Bool.eq_false_iff.2 hb
            rw [hb']
            have HN' : Hid _ := HN.out hb'
            clear hb hb'
            go_wp2
            go_roundw
            case rel => exact ⟨j + 1, by go_num, by omega, by omega, HN'.out, HB.out⟩
            case measure => simp [intOf]; omega
        · obtain rfl : j = 168 := by omega
          have HX : Hid (x = -1) := HL.out HN0.out (fun y h1 h2 => HNO.out.1 y h1 (by omega))
          have HB : Hid (Below w.heap.size w wr) := HNO.out.2
          clear HL HNO HK HO HN0 HB0
          go_wp2
          go_ret
          exact ⟨ret_int HX.out.symm, HB.out⟩
end Win
end Go.Proofs.YtgjmnghgpjfjmaaDoor
