/-
  The contract of the law's own 'awake', as a walk over the translated text. The condition: the tables are as the program's text lays them.
-/
import Derived.Test.YtohobpjiikpdmaaDoorEXFeed
import Derived.Test.YtohobpjiikpdmaaDoorRefO
namespace Go.Proofs.YtohobpjiikpdmaaDoor
open Go.ChangeShapes Go.WideShapes Go.ChangeAt Go.RowKit
namespace EX
open Bas Sca Stp Scn Cod
set_option linter.unusedVariables false

def aw1 : St := ⟨false, 0, [128512, 192, 1024, 1536, 2304, 12352, 12448, 65280], 0, []⟩
def aw2 : St := ⟨true, 0, Win.firstL8, 55357, []⟩
set_option maxHeartbeats 8000000 in
set_option maxRecDepth 100000 in
theorem awake_any (w : World) (hT : Tabs w) :
    Calls Tryd.prog 9 #[] w fun e w' => e = .returned (.bool true) ∧ Below w.heap.size w w' := by
  obtain ⟨N, hN⟩ : ∃ N, N = w.heap.size := ⟨_, rfl⟩
  rw [← hN]
  have HT : Hid (N = w.heap.size) := hN
  have HTB : Hid (Tabs w ∧ 3 ≤ N) := ⟨hT, by rw [hN]; exact hT.pos⟩
  clear hN hT
  go_enter Tryd.func9, Tryd.ntmps9
  go_wp2_with fail
  refine (newD_any () w HT.out HTB.out.1).mono ?_
  rintro e w1 ⟨rfl, D1, z1, B1⟩
  go_wp2_with fail
  refine (newD_any () w1 z1.symm D1.tabs).mono ?_
  rintro e w2 ⟨rfl, F2, z2, B2⟩
  have D2 := D1.below (B2.mono (by omega))
  have HB2 : Hid (Below N w w2) := B1.trans (B2.mono (by omega))
  have HD2 : Hid (DecV () w2 N 0 0 false (st0 ()) [] (.slice none 0 0) (.slice none 0 0) ∧ DecV () w2 (N + 2) 0 0 false (st0 ()) [] (.slice none 0 0) (.slice none 0 0) ∧ w2.heap.size = N + 2 + 2) := ⟨D2, F2, z2⟩
  clear D1 F2 z1 z2 B1 B2 D2
  go_wp2_with fail
  refine (feed_any N 0 (st0 ()) _ _ ⟨#[65, 233, 18, 176, 11, 1, 236, 128, 12]⟩ 9 ⟨[65, 233, 1072, 128512], 8, aw1, true⟩ w2 HD2.out.1 (by kernel_rfl) (by decide) (by decide) (by omega) (by omega)).mono ?_
  rintro e w4 ⟨vr4, rfl, v4, u4, s4, f4, D4, C4, M4, U4⟩
  have z2 := HD2.out.2.2
  have F4 := HD2.out.2.1.chg C4 (fun k j h1 h2 => by have := footD_nil h1; have := footD_nil h2; omega) (fun k hk j h2 => by have := footD_nil h2; have := HTB.out.2; omega)
  have nv4 : ∀ k, footD N v4 u4 k → k ≤ N + 1 ∨ N + 4 ≤ k := fun k hk => by
    rcases hk with hk | hk | hk
    · left; omega
    · right; have := mov_nil M4 k hk; omega
    · right; have := mov_nil U4 k hk; omega
  have HB4 : Hid (Below N w w4) := HB2.out.trans (C4.below (by omega) (fun k j hk h => by have := footD_nil h; omega))
  have HD4 : Hid (BaseAt w4 (N + 1) 0 8 3 false ∧ DecV () w4 (N + 2) 0 0 false (st0 ()) [] (.slice none 0 0) (.slice none 0 0) ∧ N + 4 ≤ w4.heap.size) := ⟨D4.base, F4, by have := C4.size; omega⟩
  have HS4 : Hid (Seg .u32 w4 vr4 [65, 233, 1072, 128512] ∧ (∀ g, vr4.ownBlock = some g → N + 4 ≤ g)) := ⟨s4, fun g hg => by have := (f4 g hg).1; omega⟩
  obtain ⟨ar, cr, hvr, -⟩ := s4.form
  rw [show ([65, 233, 1072, 128512] : List Int).length = 4 from rfl] at hvr
  subst hvr
  clear D4 F4 C4 M4 U4 s4 f4 nv4 HD2 HB2 z2
  go_wp2_with fail
  refine (feed_any (N + 2) 0 (st0 ()) _ _ ⟨#[15, 216, 61, 222, 0, 216, 61, 65]⟩ 9 ⟨[128512], 7, aw2, true⟩ w4 HD4.out.2.1 (by kernel_rfl) (by decide) (by decide) (by omega) (by omega)).mono ?_
  rintro e w5 ⟨vr5, rfl, v5, u5, s5, f5, F5, C5, M5, U5⟩
  have D5 := HD4.out.1.chg C5 (fun k j h1 h2 => by have := h1.1; have := footD_nil h2; omega)
  have S5 := HS4.out.1.chg C5 (fun g o hg h2 => by have := HS4.out.2 g hg; have := footD_nil h2; omega)
  have HB5 : Hid (Below N w w5) := HB4.out.trans (C5.below (by have := HD4.out.2.2; omega) (fun k j hk h => by have := footD_nil h; omega))
  have HD5 : Hid (BaseAt w5 (N + 1) 0 8 3 false ∧ BaseAt w5 (N + 2 + 1) 0 7 3 false ∧ N + 4 ≤ w5.heap.size ∧ Seg .u32 w5 (.slice ar 4 cr) [65, 233, 1072, 128512] ∧ Seg .u32 w5 vr5 [128512]) := ⟨D5, F5.base, by have := C5.size; have := HD4.out.2.2; omega, S5, s5⟩
  obtain ⟨ar5, cr5, hvr5, -⟩ := s5.form
  rw [show ([128512] : List Int).length = 1 from rfl] at hvr5
  subst hvr5
  clear D5 F5 S5 C5 M5 U5 s5 f5 HD4 HB4 HS4
  go_wp2_with fail
  have hB9 : Below w5.heap.size w5 (w5.alloc (.cells #[.int .u32 65, .int .u32 233, .int .u32 1072, .int .u32 128512] 44)) := (Below.refl _ _).alloc (Nat.le_refl _) _
  obtain ⟨a8, c8', e8, r8, -⟩ := HD5.out.2.2.2.1.form
  simp only [Value.slice.injEq] at e8
  obtain ⟨rfl, -, -⟩ := e8
  refine (rSame_any ar _ 4 4 cr 4 [65, 233, 1072, 128512] [65, 233, 1072, 128512] _ (r8.mono hB9) (by exact row_new .u32 w5 [65, 233, 1072, 128512] _ _ rfl) rfl rfl (by decide) (by decide)).mono ?_
  rintro e w10 ⟨rfl, nd, rfl⟩
  rw [show (cmpL [65, 233, 1072, 128512] [65, 233, 1072, 128512] == 0) = true from by decide]
  have hB10 := below_drewN hB9 nd
  have HB10 : Hid (Below N w ((w5.alloc (.cells #[.int .u32 65, .int .u32 233, .int .u32 1072, .int .u32 128512] 44)).drewN nd)) := HB5.out.trans (hB10.mono (by have := HD5.out.2.2.1; omega))
  have HD10 : Hid (BaseAt ((w5.alloc (.cells #[.int .u32 65, .int .u32 233, .int .u32 1072, .int .u32 128512] 44)).drewN nd) (N + 1) 0 8 3 false ∧ BaseAt ((w5.alloc (.cells #[.int .u32 65, .int .u32 233, .int .u32 1072, .int .u32 128512] 44)).drewN nd) (N + 2 + 1) 0 7 3 false ∧ N + 4 ≤ ((w5.alloc (.cells #[.int .u32 65, .int .u32 233, .int .u32 1072, .int .u32 128512] 44)).drewN nd).heap.size ∧ Seg .u32 ((w5.alloc (.cells #[.int .u32 65, .int .u32 233, .int .u32 1072, .int .u32 128512] 44)).drewN nd) (.slice ar5 1 cr5) [128512]) :=
    ⟨HD5.out.1.below hB10, HD5.out.2.1.below hB10, by have := HD5.out.2.2.1; have := hB10.size; omega, HD5.out.2.2.2.2.chg (chg_of_below hB10 (Nat.le_refl _) (fun _ _ => False)) (fun _ _ _ h => h)⟩
  generalize (w5.alloc (.cells #[.int .u32 65, .int .u32 233, .int .u32 1072, .int .u32 128512] 44)).drewN nd = w10 at *
  clear HB5 HD5 hB9 hB10 r8
  go_wp2_with fail
  refine (fail_any (N + 1) 0 8 3 false w10 HD10.out.1).mono ?_
  rintro e w11 ⟨rfl, hb11⟩
  rw [show failAt 8 3 = 8 from rfl]
  have HB11 : Hid (Below N w w11) := HB10.out.trans (hb11.mono (by have := HD10.out.2.2.1; omega))
  have HD11 : Hid (BaseAt w11 (N + 2 + 1) 0 7 3 false ∧ N + 4 ≤ w11.heap.size ∧ Seg .u32 w11 (.slice ar5 1 cr5) [128512]) := ⟨HD10.out.2.1.below hb11, by have := HD10.out.2.2.1; have := hb11.size; omega, HD10.out.2.2.2.chg (chg_of_below hb11 (Nat.le_refl _) (fun _ _ => False)) (fun _ _ _ h => h)⟩
  clear hb11 HB10 HD10
  go_wp2_with fail
  have hB12 : Below w11.heap.size w11 (w11.alloc (.cells #[.int .u32 128512] 44)) := (Below.refl _ _).alloc (Nat.le_refl _) _
  obtain ⟨a9, c9', e9, r9, -⟩ := HD11.out.2.2.form
  simp only [Value.slice.injEq] at e9
  obtain ⟨rfl, -, -⟩ := e9
  refine (rSame_any ar5 _ 1 1 cr5 1 [128512] [128512] _ (r9.mono hB12) (by exact row_new .u32 w11 [128512] _ _ rfl) rfl rfl (by decide) (by decide)).mono ?_
  rintro e w12 ⟨rfl, nd2, rfl⟩
  rw [show (cmpL [128512] [128512] == 0) = true from by decide]
  have hB13 := below_drewN hB12 nd2
  have HB13 : Hid (Below N w ((w11.alloc (.cells #[.int .u32 128512] 44)).drewN nd2)) := HB11.out.trans (hB13.mono (by have := HD11.out.2.1; omega))
  have HD13 : Hid (BaseAt ((w11.alloc (.cells #[.int .u32 128512] 44)).drewN nd2) (N + 2 + 1) 0 7 3 false ∧ N + 4 ≤ ((w11.alloc (.cells #[.int .u32 128512] 44)).drewN nd2).heap.size) := ⟨HD11.out.1.below hB13, by have := HD11.out.2.1; have := hB13.size; omega⟩
  generalize (w11.alloc (.cells #[.int .u32 128512] 44)).drewN nd2 = w13 at *
  clear HB11 HD11 hB12 hB13 r9
  go_wp2_with fail
  refine (fail_any (N + 2 + 1) 0 7 3 false w13 HD13.out.1).mono ?_
  rintro e w14 ⟨rfl, hb14⟩
  rw [show failAt 7 3 = 7 from rfl]
  have HB14 : Hid (Below N w w14) := HB13.out.trans (hb14.mono (by have := HD13.out.2; omega))
  clear hb14 HB13 HD13
  go_wp2
  go_ret
  exact ⟨rfl, HB14.out⟩
end EX
end Go.Proofs.YtohobpjiikpdmaaDoor
