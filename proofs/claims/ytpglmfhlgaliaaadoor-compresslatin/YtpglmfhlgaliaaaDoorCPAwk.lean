/-
  The contracts of the law's own 'awake' and 'great', as walks over the translated text. The condition: the tables are as the program's text lays them.
-/
import Derived.Test.YtpglmfhlgaliaaaDoorCPWr
namespace Go.Proofs.YtpglmfhlgaliaaaDoor
open Go.ChangeShapes Go.WideShapes Go.ChangeAt Go.RowKit
namespace CP
open Bas Sca Stp Scn Cod Cmp Cps
set_option linter.unusedVariables false

set_option maxHeartbeats 1000000 in
theorem great_any (n : Int) (a1 a2 : Option Addr) (n1 c1 n2 c2 : Nat) (w : World) :
    Calls Tryd.prog 9 #[.int .i64 n, .slice a1 n1 c1, .slice a2 n2 c2] w fun e w' => e = .returned (.bool (decide (n > 400) || (decide (n1 > 200) || decide (n2 > 200)))) ∧ w' = w := by
  by_cases h1 : n > 400
  · rw [decide_eq_true h1, Bool.true_or]
    go_enter Tryd.func9, Tryd.ntmps9
    go_wp2
    go_ret
    exact ⟨rfl, rfl⟩
  · rw [decide_eq_false h1, Bool.false_or]
    by_cases h2 : n1 > 200
    · have h2' : (n1 : Int) > 200 := by omega
      rw [decide_eq_true h2, Bool.true_or]
      go_enter Tryd.func9, Tryd.ntmps9
      go_wp2
      go_ret
      exact ⟨rfl, rfl⟩
    · have h2' : ¬ (n1 : Int) > 200 := by omega
      rw [decide_eq_false h2, Bool.false_or]
      by_cases h3 : n2 > 200
      · have h3' : (n2 : Int) > 200 := by omega
        rw [decide_eq_true h3]
        go_enter Tryd.func9, Tryd.ntmps9
        go_wp2
        go_ret
        exact ⟨rfl, rfl⟩
      · have h3' : ¬ (n2 : Int) > 200 := by omega
        rw [decide_eq_false h3]
        go_enter Tryd.func9, Tryd.ntmps9
        go_wp2
        go_ret
        exact ⟨rfl, rfl⟩
theorem mov_nil {w : World} {v : Value} (m : Mov w (.slice none 0 0) v) : ∀ g, v.ownBlock = some g → w.heap.size ≤ g := fun g hg => by
  rcases m g hg with e | e
  · simp [Value.ownBlock] at e
  · exact e
def awX : SRes CS := encT (folB false) (folS false) 9 cs0 [] [1052, 1086, 20013]
def awY : SRes CS := encT (folB true) (folS true) 99 cs0 [] [65279, 65, 128512]
theorem awX_is : awX.eaten = 3 ∧ awX.told = [18, 156, 190] ∧ awX.kept = [] ∧ folB false awX.st 1114112 = [14, 78, 45] := ⟨by decide +kernel, by decide +kernel, by decide +kernel, by decide +kernel⟩
theorem awY_is : awY.eaten = 3 ∧ awY.told = [14, 254, 255, 65] ∧ awY.kept = [] ∧ folB true awY.st 1114112 = [15, 216, 61, 222, 0] := ⟨by decide +kernel, by decide +kernel, by decide +kernel, by decide +kernel⟩
set_option maxHeartbeats 8000000 in
set_option maxRecDepth 100000 in
theorem awake_any (w : World) (hT : Tabs w) :
    Calls Tryd.prog 8 #[] w fun e w' => e = .returned (.bool true) ∧ Below w.heap.size w w' := by
  obtain ⟨N, hN⟩ : ∃ N, N = w.heap.size := ⟨_, rfl⟩
  rw [← hN]
  have HT : Hid (N = w.heap.size ∧ Tabs w ∧ 2 ≤ N) := ⟨hN, hT, by rw [hN]; exact hT.pos⟩
  clear hN hT
  go_enter Tryd.func8, Tryd.ntmps8
  go_wp2_with fail
  refine (newW_any false w HT.out.1 HT.out.2.1).mono ?_
  rintro e w1 ⟨rfl, E1, z1, B1⟩
  go_wp2_with fail
  refine (newW_any true w1 z1.symm E1.sp.tabs).mono ?_
  rintro e w2 ⟨rfl, F2, z2, B2⟩
  have E2 := E1.below (B2.mono (by omega))
  have HB2 : Hid (Below N w w2) := B1.trans (B2.mono (by omega))
  have HD2 : Hid (EncV false cs0 w2 N 0 0 false [] (.slice none 0 0) ∧ EncV true cs0 w2 (N + 2) 0 0 false [] (.slice none 0 0) ∧ w2.heap.size = N + 2 + 2) := ⟨E2, F2, z2⟩
  clear E1 F2 z1 z2 B1 B2 E2
  go_wp2_with fail
  obtain ⟨ww, hww⟩ : ∃ ww, w2.alloc (.cells #[.int .u32 1052, .int .u32 1086, .int .u32 20013] 35) = ww := ⟨_, rfl⟩
  have hbw : Below w2.heap.size w2 ww := by rw [← hww]; exact (Below.refl _ _).alloc (Nat.le_refl _) _
  have hrw : Row .u32 ww (some ⟨w2.heap.size, 0, none⟩) [1052, 1086, 20013] := by rw [← hww]; exact row_new .u32 w2 [1052, 1086, 20013] _ _ rfl
  have hzw : N + 4 ≤ ww.heap.size := by have := hbw.size; have := HD2.out.2.2; omega
  rw [hww]
  clear hww
  refine (eFeed_any (N + 1) N 0 cs0 [] _ (some ⟨w2.heap.size, 0, none⟩) 3 3 [1052, 1086, 20013] 9 awX ww (HD2.out.1.below hbw) rfl hrw rfl (fun b' o' e h => by simp at e; have := HD2.out.1.lt h; omega) (by intro c hc; simp at hc; omega) (by intro c hc; simp only [List.mem_cons, List.not_mem_nil, or_false] at hc; rcases hc with rfl | rfl | rfl <;> decide) (by omega) (by omega) (by omega) (by simp) (by omega) (by omega)).mono ?_
  rintro e w3 ⟨rfl, v3, E3, C3, M3⟩
  rw [awX_is.1, awX_is.2.1]
  rw [awX_is.1, awX_is.2.2.1] at E3
  have F3 := (HD2.out.2.1.below hbw).chg C3 (fun k j h1 h2 => by
    rcases h1 with (h1 | h1) | h1
    · rcases h2 with (h2 | h2) | h2
      · omega
      · omega
      · simp [Value.ownBlock] at h2
    · rcases h2 with (h2 | h2) | h2
      · omega
      · omega
      · simp [Value.ownBlock] at h2
    · simp [Value.ownBlock] at h1) (fun k hk j h2 => by have := footE_nil h2; have := HT.out.2.2; omega)
  have HB3 : Hid (Below N w w3) := (HB2.out.trans (hbw.mono (by have := HD2.out.2.2; omega))).trans (C3.below (by omega) (fun k j hk h => by have := footE_nil h; omega))
  have HD3 : Hid (EncV false awX.st w3 N 3 0 false [] v3 ∧ EncV true cs0 w3 (N + 2) 0 0 false [] (.slice none 0 0) ∧ N + 4 ≤ w3.heap.size ∧ ∀ g, v3.ownBlock = some g → N + 4 ≤ g) := ⟨E3, F3, by have := C3.size; omega, fun g hg => by have := mov_nil M3 g hg; omega⟩
  clear E3 F3 C3 M3 hbw hrw hzw HD2 HB2
  go_wp2_with fail
  refine (eEnd_any false awX.st (N + 1) N 3 [] v3 w3 HD3.out.1 (by simp)).mono ?_
  rintro e w4 ⟨v4, rfl, E4, C4, M4⟩
  rw [awX_is.2.2.2, List.nil_append] at E4
  have hout : ∀ k, footE (N + 2) (.slice none 0 0) k → ¬ footE N v3 k := fun k h1 h2 => by
    have hv := HD3.out.2.2.2
    rcases h1 with (h1 | h1) | h1
    · rcases h2 with (h2 | h2) | h2
      · omega
      · omega
      · have := hv k h2; omega
    · rcases h2 with (h2 | h2) | h2
      · omega
      · omega
      · have := hv k h2; omega
    · simp [Value.ownBlock] at h1
  have F4 := HD3.out.2.1.chg C4 (fun k j h1 h2 => hout k h1 h2) (fun k hk j h2 => by have := HD3.out.1.foot_big h2; omega)
  have HB4 : Hid (Below N w w4) := HB3.out.trans (C4.below (by have := HD3.out.2.2.1; omega) (fun k j hk h => by
    rcases h with (h | h) | h
    · omega
    · omega
    · have := HD3.out.2.2.2 k h; omega))
  have HD4 : Hid (EncV false (folS false awX.st 1114112) w4 N 3 0 true [14, 78, 45] v4 ∧ EncV true cs0 w4 (N + 2) 0 0 false [] (.slice none 0 0) ∧ N + 4 ≤ w4.heap.size ∧ ∀ g, v4.ownBlock = some g → N + 4 ≤ g) := ⟨E4, F4, by have := C4.size; have := HD3.out.2.2.1; omega, fun g hg => by
    rcases M4 g hg with e | e
    · exact HD3.out.2.2.2 g e
    · have := HD3.out.2.2.1; omega⟩
  clear E4 F4 C4 M4 hout HD3 HB3
  go_wp2_with fail
  refine (eFeed_off (N + 1) N 3 0 true [14, 78, 45] v4 9 w4 HD4.out.1 (by omega) rfl (by simp)).mono ?_
  rintro e w5 ⟨rfl, v5, E5, C5, M5⟩
  rw [show ([14, 78, 45] : List Int).take (frontR 9 ([14, 78, 45] : List Int).length) = [14, 78, 45] from by decide]
  rw [show ([14, 78, 45] : List Int).drop (frontR 9 ([14, 78, 45] : List Int).length) = [] from by decide] at E5
  have hout : ∀ k, footE (N + 2) (.slice none 0 0) k → ¬ footE N v4 k := fun k h1 h2 => by
    have hv := HD4.out.2.2.2
    rcases h1 with (h1 | h1) | h1
    · rcases h2 with (h2 | h2) | h2
      · omega
      · omega
      · have := hv k h2; omega
    · rcases h2 with (h2 | h2) | h2
      · omega
      · omega
      · have := hv k h2; omega
    · simp [Value.ownBlock] at h1
  have F5 := HD4.out.2.1.chg C5 (fun k j h1 h2 => hout k h1 h2) (fun k hk j h2 => by have := HD4.out.1.foot_big h2; omega)
  have HB5 : Hid (Below N w w5) := HB4.out.trans (C5.below (by have := HD4.out.2.2.1; omega) (fun k j hk h => by
    rcases h with (h | h) | h
    · omega
    · omega
    · have := HD4.out.2.2.2 k h; omega))
  have HD5 : Hid (EncV false (folS false awX.st 1114112) w5 N 3 0 true [] v5 ∧ EncV true cs0 w5 (N + 2) 0 0 false [] (.slice none 0 0) ∧ N + 4 ≤ w5.heap.size ∧ ∀ g, v5.ownBlock = some g → N + 4 ≤ g) := ⟨E5, F5, by have := C5.size; have := HD4.out.2.2.1; omega, fun g hg => by
    rcases M5 g hg with e | e
    · exact HD4.out.2.2.2 g e
    · have := HD4.out.2.2.1; omega⟩
  clear E5 F5 C5 M5 hout HD4 HB4
  go_wp2_with fail
  obtain ⟨wv, hwv⟩ : ∃ wv, w5.alloc (.cells #[.int .u32 65279, .int .u32 65, .int .u32 128512] 35) = wv := ⟨_, rfl⟩
  have hbv : Below w5.heap.size w5 wv := by rw [← hwv]; exact (Below.refl _ _).alloc (Nat.le_refl _) _
  have hrv : Row .u32 wv (some ⟨w5.heap.size, 0, none⟩) [65279, 65, 128512] := by rw [← hwv]; exact row_new .u32 w5 [65279, 65, 128512] _ _ rfl
  have hzv : N + 4 ≤ wv.heap.size ∧ w5.heap.size ≤ wv.heap.size := by have := hbv.size; have := HD5.out.2.2.1; omega
  rw [hwv]
  clear hwv
  refine (eFeed_any (N + 2 + 1) (N + 2) 0 cs0 [] _ (some ⟨w5.heap.size, 0, none⟩) 3 3 [65279, 65, 128512] 99 awY wv (HD5.out.2.1.below hbv) rfl hrv rfl (fun b' o' e h => by simp at e; have := HD5.out.2.1.lt h; omega) (by intro c hc; simp at hc; omega) (by intro c hc; simp only [List.mem_cons, List.not_mem_nil, or_false] at hc; rcases hc with rfl | rfl | rfl <;> decide) (by omega) (by omega) (by omega) (by simp) (by omega) (by omega)).mono ?_
  rintro e w6 ⟨rfl, v6, F6, C6, M6⟩
  rw [awY_is.1, awY_is.2.1]
  rw [awY_is.1, awY_is.2.2.1] at F6
  have E6 := (HD5.out.1.below hbv).chg C6 (fun k j h1 h2 => by
    have hv := HD5.out.2.2.2
    rcases h2 with (h2 | h2) | h2
    · rcases h1 with (h1 | h1) | h1
      · omega
      · omega
      · have := hv k h1; omega
    · rcases h1 with (h1 | h1) | h1
      · omega
      · omega
      · have := hv k h1; omega
    · simp [Value.ownBlock] at h2) (fun k hk j h2 => by have := footE_nil h2; have := HT.out.2.2; omega)
  have HB6 : Hid (Below N w w6) := (HB5.out.trans (hbv.mono (by have := HD5.out.2.2.1; omega))).trans (C6.below (by omega) (fun k j hk h => by have := footE_nil h; omega))
  have hlt5 : ∀ k, footE N v5 k → k < w5.heap.size := fun k hk => HD5.out.1.lt hk
  have HD6 : Hid (EncV false (folS false awX.st 1114112) w6 N 3 0 true [] v5 ∧ EncV true awY.st w6 (N + 2) 3 0 false [] v6 ∧ N + 4 ≤ w6.heap.size ∧ (∀ g, v6.ownBlock = some g → N + 4 ≤ g ∧ ¬ footE N v5 g) ∧ (∀ k, footE N v5 k → k < w6.heap.size) ∧ ∀ g, v5.ownBlock = some g → N + 4 ≤ g) := ⟨E6, F6, by have := C6.size; omega, fun g hg => by have := mov_nil M6 g hg; exact ⟨by omega, fun hh => by have := hlt5 g hh; omega⟩, fun k hk => by have := hlt5 k hk; have := C6.size; omega, HD5.out.2.2.2⟩
  clear E6 F6 C6 M6 hbv hrv hzv hlt5 HD5 HB5
  go_wp2_with fail
  refine (eEnd_any true awY.st (N + 2 + 1) (N + 2) 3 [] v6 w6 HD6.out.2.1 (by simp)).mono ?_
  rintro e w7 ⟨v7, rfl, F7, C7, M7⟩
  rw [awY_is.2.2.2, List.nil_append] at F7
  have hout : ∀ k, footE N v5 k → ¬ footE (N + 2) v6 k := fun k h1 h2 => by
    rcases h2 with (h2 | h2) | h2
    · rcases h1 with (h1 | h1) | h1
      · omega
      · omega
      · have := HD6.out.2.2.2.2.2 k h1; omega
    · rcases h1 with (h1 | h1) | h1
      · omega
      · omega
      · have := HD6.out.2.2.2.2.2 k h1; omega
    · exact (HD6.out.2.2.2.1 k h2).2 h1
  have E7 := HD6.out.1.chg C7 (fun k j h1 h2 => hout k h1 h2) (fun k hk j h2 => by have := HD6.out.2.1.foot_big h2; omega)
  have HB7 : Hid (Below N w w7) := HB6.out.trans (C7.below (by have := HD6.out.2.2.1; omega) (fun k j hk h => by
    rcases h with (h | h) | h
    · omega
    · omega
    · have := (HD6.out.2.2.2.1 k h).1; omega))
  have HD7 : Hid (EncV false (folS false awX.st 1114112) w7 N 3 0 true [] v5 ∧ EncV true (folS true awY.st 1114112) w7 (N + 2) 3 0 true [15, 216, 61, 222, 0] v7 ∧ N + 4 ≤ w7.heap.size ∧ (∀ g, v7.ownBlock = some g → N + 4 ≤ g ∧ ¬ footE N v5 g) ∧ ∀ g, v5.ownBlock = some g → N + 4 ≤ g) := ⟨E7, F7, by have := C7.size; have := HD6.out.2.2.1; omega, fun g hg => by
    rcases M7 g hg with e | e
    · exact HD6.out.2.2.2.1 g e
    · exact ⟨by have := HD6.out.2.2.1; omega, fun hh => by have := HD6.out.2.2.2.2.1 g hh; omega⟩, HD6.out.2.2.2.2.2⟩
  clear E7 F7 C7 M7 hout HD6 HB6
  go_wp2_with fail
  refine (eFeed_off (N + 2 + 1) (N + 2) 3 0 true [15, 216, 61, 222, 0] v7 99 w7 HD7.out.2.1 (by omega) rfl (by simp)).mono ?_
  rintro e w8 ⟨rfl, v8, F8, C8, M8⟩
  rw [show ([15, 216, 61, 222, 0] : List Int).take (frontR 99 ([15, 216, 61, 222, 0] : List Int).length) = [15, 216, 61, 222, 0] from by decide]
  have hout : ∀ k, footE N v5 k → ¬ footE (N + 2) v7 k := fun k h1 h2 => by
    rcases h2 with (h2 | h2) | h2
    · rcases h1 with (h1 | h1) | h1
      · omega
      · omega
      · have := HD7.out.2.2.2.2 k h1; omega
    · rcases h1 with (h1 | h1) | h1
      · omega
      · omega
      · have := HD7.out.2.2.2.2 k h1; omega
    · exact (HD7.out.2.2.2.1 k h2).2 h1
  have E8 := HD7.out.1.chg C8 (fun k j h1 h2 => hout k h1 h2) (fun k hk j h2 => by have := HD7.out.2.1.foot_big h2; omega)
  have HB8 : Hid (Below N w w8) := HB7.out.trans (C8.below (by have := HD7.out.2.2.1; omega) (fun k j hk h => by
    rcases h with (h | h) | h
    · omega
    · omega
    · have := (HD7.out.2.2.2.1 k h).1; omega))
  have HD8 : Hid (EncV false (folS false awX.st 1114112) w8 N 3 0 true [] v5) := E8
  clear E8 F8 C8 M8 hout HD7 HB7
  have hs1 : (Stp.strOf [18, 156, 190]).toList = [18, 156, 190] := by rw [ByteArray.toList_eq, strOf_data]; rfl
  have hs2 : (Stp.strOf [14, 78, 45]).toList = [14, 78, 45] := by rw [ByteArray.toList_eq, strOf_data]; rfl
  have hs3 : (Stp.strOf [14, 254, 255, 65] ++ Stp.strOf [15, 216, 61, 222, 0]).toList = [14, 254, 255, 65, 15, 216, 61, 222, 0] := by rw [← strOf_append, ByteArray.toList_eq, strOf_data]; rfl
  have hsz := no_more [14, 254, 255, 65] [15, 216, 61, 222, 0] (by simp)
  go_wp2_with fail
  refine (outDone_any (N + 1) 0 3 0 true v5 [] w8 HD8.out.base HD8.out.row).mono ?_
  rintro e w9 ⟨rfl, rfl⟩
  rw [show (!goB 0 true && (([] : List Int).length == 0)) = true from rfl]
  go_wp2
  go_ret
  exact ⟨rfl, HB8.out⟩
end CP
end Go.Proofs.YtpglmfhlgaliaaaDoor
