/-
  Contracts of the law's own 'awake', 'great' and 'failed', as walks over the translated text. The condition: the library's two tables are as its text lays them.
-/
import Derived.Test.YtknebngapfakjaaDoorU8Rd
import Derived.Test.YtknebngapfakjaaDoorU8EFeed
import Derived.Test.YtknebngapfakjaaDoorRefO
namespace Go.Proofs.YtknebngapfakjaaDoor
open Go.ChangeShapes Go.WideShapes Go.ChangeAt Go.RowKit
namespace U8
open Bas Sca Stp Scn
set_option linter.unusedVariables false

theorem newD_any (w : World) (hT : Tabs w) {N : Nat} (hN : N = w.heap.size) :
    Calls Tryd.prog 11 #[] w fun e w' => e = .returned (.pointer (some ⟨N, 0, none⟩)) ∧ DecV w' N 0 0 false [] [] (.slice none 0 0) (.slice none 0 0) ∧ w'.heap.size = N + 1 ∧ Below N w w' := by
  subst hN
  refine (new_any w).mono ?_
  rintro e w' ⟨rfl, rfl⟩
  have hb : Below w.heap.size w (w.alloc (.cells #[.int .i64 0, .int .i64 0, .bool false, .slice none 0 0, .slice none 0 0] 45)) := (Below.refl _ _).alloc (Nat.le_refl _) _
  have h2 : 2 ≤ w.heap.size := World.block_lt_of_cell? w _ hT.a0
  refine ⟨rfl, ⟨⟨?_, ?_, ?_, ?_, ?_, ?_⟩, ⟨?_, ?_, seg_nil _ _, by simp [Value.ownBlock]⟩, ⟨?_, ?_, seg_nil _ _, by simp [Value.ownBlock]⟩, fun g hg => by simp [Value.ownBlock] at hg, good_nil, by simp, hT.below hb, h2, fun g hg => by simp [Value.ownBlock] at hg, fun g hg => by simp [Value.ownBlock] at hg⟩, by simp, hb⟩
  all_goals first | (rw [World.cell?_alloc_new]; rfl) | simp
theorem newEn_any (w : World) {N : Nat} (hN : N = w.heap.size) :
    Calls Tryd.prog 18 #[] w fun e w' => e = .returned (.pointer (some ⟨N, 0, none⟩)) ∧ EncV w' N 0 0 false [] (.slice none 0 0) ∧ w'.heap.size = N + 1 ∧ Below N w w' := by
  subst hN
  refine (newE_any w).mono ?_
  rintro e w' ⟨rfl, rfl⟩
  have hb : Below w.heap.size w (w.alloc (.cells #[.int .i64 0, .int .i64 0, .bool false, .slice none 0 0] 60)) := (Below.refl _ _).alloc (Nat.le_refl _) _
  refine ⟨rfl, ⟨⟨?_, ?_, ?_, ?_, ?_, ?_⟩, ⟨?_, ?_, seg_nil _ _, by simp [Value.ownBlock]⟩⟩, by simp, hb⟩
  all_goals first | (rw [World.cell?_alloc_new]; rfl) | simp
theorem footD_nil {b k : Nat} (h : footD b (.slice none 0 0) (.slice none 0 0) k) : k = b := by
  rcases h with h | h | h
  · exact h
  · simp [Value.ownBlock] at h
  · simp [Value.ownBlock] at h
theorem footE_nil {b k : Nat} (h : footE b (.slice none 0 0) k) : k = b := by
  rcases h with h | h
  · exact h
  · simp [Value.ownBlock] at h
theorem mov_nil {w : World} {v : Value} (h : Mov w (.slice none 0 0) v) : ∀ g, v.ownBlock = some g → w.heap.size ≤ g := fun g hg => by
  rcases h g hg with e | e
  · simp [Value.ownBlock] at e
  · exact e
set_option maxHeartbeats 1000000 in
theorem great_any (n : Int) (a1 a2 : Option Addr) (n1 c1 n2 c2 : Nat) (w : World) :
    Calls Tryd.prog 10 #[.int .i64 n, .slice a1 n1 c1, .slice a2 n2 c2] w fun e w' => e = .returned (.bool (decide (n > 400) || (decide (n1 > 200) || decide (n2 > 200)))) ∧ w' = w := by
  by_cases h1 : n > 400
  · rw [decide_eq_true h1, Bool.true_or]
    go_enter Tryd.func10, Tryd.ntmps10
    go_wp2
    go_ret
    exact ⟨rfl, rfl⟩
  · rw [decide_eq_false h1, Bool.false_or]
    by_cases h2 : n1 > 200
    · have h2' : (n1 : Int) > 200 := by omega
      rw [decide_eq_true h2, Bool.true_or]
      go_enter Tryd.func10, Tryd.ntmps10
      go_wp2
      go_ret
      exact ⟨rfl, rfl⟩
    · have h2' : ¬ (n1 : Int) > 200 := by omega
      rw [decide_eq_false h2, Bool.false_or]
      by_cases h3 : n2 > 200
      · have h3' : (n2 : Int) > 200 := by omega
        rw [decide_eq_true h3]
        go_enter Tryd.func10, Tryd.ntmps10
        go_wp2
        go_ret
        exact ⟨rfl, rfl⟩
      · have h3' : ¬ (n2 : Int) > 200 := by omega
        rw [decide_eq_false h3]
        go_enter Tryd.func10, Tryd.ntmps10
        go_wp2
        go_ret
        exact ⟨rfl, rfl⟩
set_option maxHeartbeats 1000000 in
theorem failed_any (q a : Int) (w : World) :
    Calls Tryd.prog 16 #[.int .i64 q, .int .i64 a] w fun e w' => e = .returned (.agg #[.int .i64 q, .int .i64 (if q = 0 then 0 else a)]) ∧ Below w.heap.size w w' := by
  by_cases hq : q = 0
  · subst hq
    rw [if_pos rfl]
    go_enter Tryd.func16, Tryd.ntmps16
    go_wp2
    exact bodyPost_ret (v := .agg #[.int .i64 0, .int .i64 0]) (by simp [results, Tryd.results16, go_sem]) rfl ⟨rfl, (Below.refl _ _).alloc (Nat.le_refl _) _⟩
  · have hb : (q == 0) = false := by simp [hq]
    rw [if_neg hq]
    clear hq
    go_enter Tryd.func16, Tryd.ntmps16
    go_wp2
    exact bodyPost_ret (v := .agg #[.int .i64 q, .int .i64 a]) (by simp [results, Tryd.results16, go_sem]) rfl ⟨rfl, (Below.refl _ _).alloc (Nat.le_refl _) _⟩
set_option maxHeartbeats 8000000 in
set_option maxRecDepth 100000 in
theorem awake_any (w : World) (hT : Tabs w) :
    Calls Tryd.prog 9 #[] w fun e w' => e = .returned (.bool true) ∧ Below w.heap.size w w' := by
  obtain ⟨N, hN⟩ : ∃ N, N = w.heap.size := ⟨_, rfl⟩
  rw [← hN]
  have HT : Hid (Tabs w ∧ N = w.heap.size) := ⟨hT, hN⟩
  clear hN hT
  go_enter Tryd.func9, Tryd.ntmps9
  go_wp2_with fail
  refine (newD_any w HT.out.1 HT.out.2).mono ?_
  rintro e w1 ⟨rfl, D1, z1, B1⟩
  go_wp2_with fail
  refine (newD_any w1 D1.tabs z1.symm).mono ?_
  rintro e w2 ⟨rfl, F2, z2, B2⟩
  go_wp2_with fail
  refine (newEn_any w2 z2.symm).mono ?_
  rintro e w3 ⟨rfl, E3, z3, B3⟩
  have D3 := (D1.below (B2.mono (by omega))).below (B3.mono (by omega))
  have F3 := F2.below (B3.mono (by omega))
  have HB3 : Hid (Below N w w3) := (B1.trans (B2.mono (by omega))).trans (B3.mono (by omega))
  have HD3 : Hid (DecV w3 N 0 0 false [] [] (.slice none 0 0) (.slice none 0 0) ∧ DecV w3 (N + 1) 0 0 false [] [] (.slice none 0 0) (.slice none 0 0) ∧ EncV w3 (N + 1 + 1) 0 0 false [] (.slice none 0 0) ∧ w3.heap.size = N + 1 + 1 + 1) := ⟨D3, F3, E3, z3⟩
  clear D1 F2 E3 z1 z2 z3 B1 B2 B3 D3 F3
  go_wp2_with fail
  refine (feed_any N 0 [] _ _ ⟨#[226, 130, 172, 65, 224, 128]⟩ 9 ⟨[8364, 65], 5, [224], true⟩ w3 HD3.out.1 (by kernel_rfl) (by decide) (by decide) (by omega) (by omega)).mono ?_
  rintro e w4 ⟨vr4, rfl, v4, u4, s4, f4, D4, C4, M4, U4⟩
  have F4 := HD3.out.2.1.chg C4 (fun k j h1 h2 => by have := footD_nil h1; have := footD_nil h2; omega) (fun j h => by have := footD_nil h; have := HD3.out.1.two; omega) (fun j h => by have := footD_nil h; have := HD3.out.1.two; omega)
  have E4 := HD3.out.2.2.1.chg C4 (fun k j h1 h2 => by have := footE_nil h1; have := footD_nil h2; omega)
  have z3 := HD3.out.2.2.2
  have nv4 : ∀ k, footD N v4 u4 k → k = N ∨ N + 3 ≤ k := fun k hk => by
    rcases hk with hk | hk | hk
    · exact .inl hk
    · right; have := mov_nil M4 k hk; omega
    · right; have := mov_nil U4 k hk; omega
  have HB4 : Hid (Below N w w4) := HB3.out.trans (C4.below (by omega) (fun k j hk h => by have := footD_nil h; omega))
  have HD4 : Hid (DecV w4 N 5 3 false [224] [] v4 u4 ∧ DecV w4 (N + 1) 0 0 false [] [] (.slice none 0 0) (.slice none 0 0) ∧ EncV w4 (N + 1 + 1) 0 0 false [] (.slice none 0 0) ∧ N + 3 ≤ w4.heap.size) := ⟨D4, F4, E4, by have := C4.size; omega⟩
  have HS4 : Hid (Seg .u32 w4 vr4 [8364, 65] ∧ (∀ g, vr4.ownBlock = some g → N + 3 ≤ g) ∧ (∀ k, footD N v4 u4 k → k = N ∨ N + 3 ≤ k)) := ⟨s4, fun g hg => by have := (f4 g hg).1; omega, nv4⟩
  obtain ⟨ar, cr, hvr, -⟩ := s4.form
  rw [show ([8364, 65] : List Int).length = 2 from rfl] at hvr
  subst hvr
  clear D4 F4 E4 C4 M4 U4 s4 f4 nv4 HD3 HB3 z3
  go_wp2_with fail
  refine (feed_any (N + 1) 0 [] _ _ ⟨#[226, 130]⟩ 9 ⟨[], 2, [226, 130], false⟩ w4 HD4.out.2.1 (by kernel_rfl) (by decide) (by decide) (by omega) (by omega)).mono ?_
  rintro e w5 ⟨vr5, rfl, v5, u5, s5, f5, F5, C5, M5, U5⟩
  have two := HD4.out.1.two
  have D5 := HD4.out.1.chg C5 (fun k j h1 h2 => by have := HS4.out.2.2 k h1; have := footD_nil h2; omega) (fun j h => by have := footD_nil h; omega) (fun j h => by have := footD_nil h; omega)
  have E5 := HD4.out.2.2.1.chg C5 (fun k j h1 h2 => by have := footE_nil h1; have := footD_nil h2; omega)
  have S5 := HS4.out.1.chg C5 (fun g o hg h2 => by have := HS4.out.2.1 g hg; have := footD_nil h2; omega)
  have HB5 : Hid (Below N w w5) := HB4.out.trans (C5.below (by have := HD4.out.2.2.2; omega) (fun k j hk h => by have := footD_nil h; omega))
  have HD5 : Hid (DecV w5 N 5 3 false [224] [] v4 u4 ∧ DecV w5 (N + 1) 2 0 false [226, 130] [] v5 u5 ∧ EncV w5 (N + 1 + 1) 0 0 false [] (.slice none 0 0) ∧ N + 3 ≤ w5.heap.size ∧ Seg .u32 w5 (.slice ar 2 cr) [8364, 65]) := ⟨D5, F5, E5, by have := C5.size; have := HD4.out.2.2.2; omega, S5⟩
  clear D5 F5 E5 S5 C5 M5 U5 s5 f5 HD4 HB4
  go_wp2_with fail
  refine (dEnd_any (N + 1) _ _ _ [226, 130] [] v5 u5 w5 HD5.out.2.1).mono ?_
  rintro e w6 ⟨rfl, F6, C6⟩
  have D6 := HD5.out.1.chg C6 (fun k j h1 h2 => by have := HS4.out.2.2 k h1; have := h2.1; omega) (fun j h => by have := h.1; omega) (fun j h => by have := h.1; omega)
  have E6 := HD5.out.2.2.1.chg C6 (fun k j h1 h2 => by have := footE_nil h1; have := h2.1; omega)
  have S6 := HD5.out.2.2.2.2.chg C6 (fun g o hg h2 => by have := HS4.out.2.1 g hg; have := h2.1; omega)
  have HB6 : Hid (Below N w w6) := HB5.out.trans (C6.below (by have := HD5.out.2.2.2.1; omega) (fun k j hk h => by have := h.1; omega))
  have HD6 : Hid (DecV w6 N 5 3 false [224] [] v4 u4 ∧ BaseAt w6 (N + 1) 0 2 4 false ∧ EncV w6 (N + 1 + 1) 0 0 false [] (.slice none 0 0) ∧ N + 3 ≤ w6.heap.size ∧ Seg .u32 w6 (.slice ar 2 cr) [8364, 65]) := ⟨D6, F6.base, E6, by have := C6.size; have := HD5.out.2.2.2.1; omega, S6⟩
  clear D6 F6 E6 S6 C6 HD5 HB5
  go_wp2_with fail
  have hB7 : Below w6.heap.size w6 (w6.alloc (.cells #[.int .u32 8364, .int .u32 65] 70)) := (Below.refl _ _).alloc (Nat.le_refl _) _
  have E7 := HD6.out.2.2.1.below hB7
  refine (eFeed_any (N + 1 + 1) 0 [] _ (some ⟨w6.heap.size, 0, none⟩) 2 2 [8364, 65] 2 ⟨[226, 130], 1, [172], false⟩ _ E7 (by kernel_rfl) (by exact row_new .u32 w6 [8364, 65] _ _ rfl) rfl (fun b' o' e h => by simp at e; have := footE_nil h; have := HD6.out.2.2.2.1; omega) (by intro c hc; simp at hc; omega) (by omega) (by omega) (by omega) (by simp) (by omega) (by omega)).mono ?_
  rintro e w8 ⟨rfl, v8, E8, C8, M8⟩
  have z7 : N + 3 ≤ (w6.alloc (.cells #[.int .u32 8364, .int .u32 65] 70)).heap.size := by have := HD6.out.2.2.2.1; simp; omega
  have D8 := (HD6.out.1.below hB7).chg C8 (fun k j h1 h2 => by have := HS4.out.2.2 k h1; have := footE_nil h2; omega) (fun j h => by have := footE_nil h; omega) (fun j h => by have := footE_nil h; omega)
  have F8 := (HD6.out.2.1.below hB7).chg C8 (fun k j h1 h2 => by have := h1.1; have := footE_nil h2; omega)
  have S8 := (HD6.out.2.2.2.2.chg (chg_of_below hB7 (Nat.le_refl _) (fun _ _ => False)) (fun _ _ _ h => h)).chg C8 (fun g o hg h2 => by have := HS4.out.2.1 g hg; have := footE_nil h2; omega)
  have HB8 : Hid (Below N w w8) := (HB6.out.trans (hB7.mono (by have := HD6.out.2.2.2.1; omega))).trans (C8.below (by omega) (fun k j hk h => by have := footE_nil h; omega))
  have HD8 : Hid (DecV w8 N 5 3 false [224] [] v4 u4 ∧ BaseAt w8 (N + 1) 0 2 4 false ∧ EncV w8 (N + 1 + 1) 1 0 false [172] v8 ∧ N + 3 ≤ w8.heap.size ∧ Seg .u32 w8 (.slice ar 2 cr) [8364, 65]) := ⟨D8, F8, E8, by have := C8.size; omega, S8⟩
  clear D8 F8 E8 S8 C8 M8 z7 E7 hB7 HD6 HB6
  go_wp2_with fail
  have hB9 : Below w8.heap.size w8 (w8.alloc (.cells #[.int .u32 8364, .int .u32 65] 70)) := (Below.refl _ _).alloc (Nat.le_refl _) _
  obtain ⟨a8, c8', e8, r8, -⟩ := HD8.out.2.2.2.2.form
  simp only [Value.slice.injEq] at e8
  obtain ⟨rfl, -, -⟩ := e8
  refine (rSame_any ar _ 2 2 cr 2 [8364, 65] [8364, 65] _ (r8.mono hB9) (by exact row_new .u32 w8 [8364, 65] _ _ rfl) rfl rfl (by decide) (by decide)).mono ?_
  rintro e w10 ⟨rfl, nd, rfl⟩
  rw [show (cmpL [8364, 65] [8364, 65] == 0) = true from by decide]
  have HB10 : Hid (Below N w ((w8.alloc (.cells #[.int .u32 8364, .int .u32 65] 70)).drewN nd)) := below_drewN (HB8.out.trans (hB9.mono (by have := HD8.out.2.2.2.1; omega))) nd
  have HD10 : Hid (BaseAt ((w8.alloc (.cells #[.int .u32 8364, .int .u32 65] 70)).drewN nd) N 0 5 3 false ∧ BaseAt ((w8.alloc (.cells #[.int .u32 8364, .int .u32 65] 70)).drewN nd) (N + 1) 0 2 4 false ∧ RowAt .u8 ((w8.alloc (.cells #[.int .u32 8364, .int .u32 65] 70)).drewN nd) (N + 1 + 1) 3 v8 [172] ∧ N ≤ ((w8.alloc (.cells #[.int .u32 8364, .int .u32 65] 70)).drewN nd).heap.size) :=
    ⟨HD8.out.1.base.below (below_drewN hB9 nd), HD8.out.2.1.below (below_drewN hB9 nd), HD8.out.2.2.1.row.below (below_drewN hB9 nd), by have := HD8.out.2.2.2.1; have := (below_drewN hB9 nd).size; omega⟩
  generalize (w8.alloc (.cells #[.int .u32 8364, .int .u32 65] 70)).drewN nd = w10 at *
  clear HB8 HD8 hB9 r8
  go_wp2_with fail
  refine (fail_any N 0 5 3 false w10 HD10.out.1).mono ?_
  rintro e w11 ⟨rfl, hb11⟩
  rw [show failAt 5 3 = 5 from rfl]
  have HB11 : Hid (Below N w w11) := HB10.out.trans (hb11.mono HD10.out.2.2.2)
  have HD11 : Hid (BaseAt w11 (N + 1) 0 2 4 false ∧ RowAt .u8 w11 (N + 1 + 1) 3 v8 [172] ∧ N ≤ w11.heap.size) := ⟨HD10.out.2.1.below hb11, HD10.out.2.2.1.below hb11, by have := HD10.out.2.2.2; have := hb11.size; omega⟩
  clear hb11 HB10 HD10
  go_wp2_with fail
  refine (fail_any (N + 1) 0 2 4 false w11 HD11.out.1).mono ?_
  rintro e w12 ⟨rfl, hb12⟩
  rw [show failAt 2 4 = 2 from rfl]
  have HB12 : Hid (Below N w w12) := HB11.out.trans (hb12.mono HD11.out.2.2)
  have HD12 : Hid (RowAt .u8 w12 (N + 1 + 1) 3 v8 [172]) := HD11.out.2.1.below hb12
  clear hb12 HB11 HD11
  have hst : (Stp.strOf [226, 130]).toList = [226, 130] := by rw [ByteArray.toList_eq, strOf_data]; rfl
  go_wp2_with fail
  refine (kept_any (N + 1 + 1) 3 v8 [172] w12 HD12.out).mono ?_
  rintro e w13 ⟨rfl, rfl⟩
  rw [show (([172] : List Int).length : Int) = 1 from rfl]
  go_wp2
  go_ret
  exact ⟨rfl, HB12.out⟩
end U8
end Go.Proofs.YtknebngapfakjaaDoor
