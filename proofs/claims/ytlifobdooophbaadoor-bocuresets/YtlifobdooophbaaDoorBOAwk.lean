/-
  The contract of the law's own 'awake', as a walk over the translated text. The condition: the table is as the program's text lays it.
-/
import Derived.Test.YtlifobdooophbaaDoorBOFeed
import Derived.Test.YtlifobdooophbaaDoorBOEFeed
import Derived.Test.YtlifobdooophbaaDoorRefO
namespace Go.Proofs.YtlifobdooophbaaDoor
open Go.ChangeShapes Go.WideShapes Go.ChangeAt Go.RowKit
namespace BO
open Bas Sca Stp Scn Cod
set_option linter.unusedVariables false

set_option maxHeartbeats 8000000 in
set_option maxRecDepth 100000 in
theorem awake_any (w : World) (hT : Dif.Tabs w) :
    Calls Tryd.prog 11 #[] w fun e w' => e = .returned (.bool true) ∧ Below w.heap.size w w' := by
  obtain ⟨N, hN⟩ : ∃ N, N = w.heap.size := ⟨_, rfl⟩
  rw [← hN]
  have HT : Hid (N = w.heap.size) := hN
  have HTB : Hid (Dif.Tabs w ∧ 1 < N) := ⟨hT, by rw [hN]; exact hT.pos⟩
  clear hN hT
  go_enter Tryd.func11, Tryd.ntmps11
  go_wp2_with fail
  refine (newD_any () w HT.out HTB.out.1).mono ?_
  rintro e w1 ⟨rfl, D1, z1, B1⟩
  go_wp2_with fail
  refine (newD_any () w1 z1.symm D1.tabs).mono ?_
  rintro e w2 ⟨rfl, F2, z2, B2⟩
  go_wp2_with fail
  refine (newEn_any () w2 z2.symm F2.tabs).mono ?_
  rintro e w3 ⟨rfl, E3, z3, B3⟩
  have D3 := (D1.below (B2.mono (by omega))).below (B3.mono (by omega))
  have F3 := F2.below (B3.mono (by omega))
  have HB3 : Hid (Below N w w3) := (B1.trans (B2.mono (by omega))).trans (B3.mono (by omega))
  have HD3 : Hid (DecV () w3 N 0 0 false (st0 ()) [] (.slice none 0 0) (.slice none 0 0) ∧ DecV () w3 (N + 1) 0 0 false (st0 ()) [] (.slice none 0 0) (.slice none 0 0) ∧ EncV () (e0 ()) w3 (N + 1 + 1) 0 0 false [] (.slice none 0 0) ∧ w3.heap.size = N + 1 + 1 + 1) := ⟨D3, F3, E3, z3⟩
  clear D1 F2 E3 z1 z2 z3 B1 B2 B3 D3 F3
  go_wp2_with fail
  refine (feed_any N 0 (st0 ()) _ _ ⟨#[145, 146, 10, 255, 80]⟩ 9 ⟨[65, 66, 10], 4, ⟨64, []⟩, true⟩ w3 HD3.out.1 (by kernel_rfl) (by decide) (by decide) (by omega) (by omega)).mono ?_
  rintro e w4 ⟨vr4, rfl, v4, u4, s4, f4, D4, C4, M4, U4⟩
  have F4 := HD3.out.2.1.chg C4 (fun k j h1 h2 => by have := footD_nil h1; have := footD_nil h2; omega) (fun j h2 => by have := footD_nil h2; have := HTB.out.2; omega) (fun j h2 => by have := footD_nil h2; have := HTB.out.2; omega)
  have E4 := HD3.out.2.2.1.chg C4 (fun k j h1 h2 => by have := footE_nil h1; have := footD_nil h2; omega) (fun j h2 => by have := footD_nil h2; have := HTB.out.2; omega) (fun j h2 => by have := footD_nil h2; have := HTB.out.2; omega)
  have z3 := HD3.out.2.2.2
  have nv4 : ∀ k, footD N v4 u4 k → k = N ∨ N + 3 ≤ k := fun k hk => by
    rcases hk with hk | hk | hk
    · exact .inl hk
    · right; have := mov_nil M4 k hk; omega
    · right; have := mov_nil U4 k hk; omega
  have HB4 : Hid (Below N w w4) := HB3.out.trans (C4.below (by omega) (fun k j hk h => by have := footD_nil h; omega))
  have HD4 : Hid (DecV () w4 N 4 3 false ⟨64, []⟩ [] v4 u4 ∧ DecV () w4 (N + 1) 0 0 false (st0 ()) [] (.slice none 0 0) (.slice none 0 0) ∧ EncV () (e0 ()) w4 (N + 1 + 1) 0 0 false [] (.slice none 0 0) ∧ N + 3 ≤ w4.heap.size) := ⟨D4, F4, E4, by have := C4.size; omega⟩
  have HS4 : Hid (Seg .u32 w4 vr4 [65, 66, 10] ∧ (∀ g, vr4.ownBlock = some g → N + 3 ≤ g) ∧ (∀ k, footD N v4 u4 k → k = N ∨ N + 3 ≤ k)) := ⟨s4, fun g hg => by have := (f4 g hg).1; omega, nv4⟩
  obtain ⟨ar, cr, hvr, -⟩ := s4.form
  rw [show ([65, 66, 10] : List Int).length = 3 from rfl] at hvr
  subst hvr
  clear D4 F4 E4 C4 M4 U4 s4 f4 nv4 HD3 HB3 z3
  go_wp2_with fail
  refine (feed_any (N + 1) 0 (st0 ()) _ _ ⟨#[251, 238]⟩ 9 ⟨[], 2, ⟨64, [251, 238]⟩, false⟩ w4 HD4.out.2.1 (by kernel_rfl) (by decide) (by decide) (by omega) (by omega)).mono ?_
  rintro e w5 ⟨vr5, rfl, v5, u5, s5, f5, F5, C5, M5, U5⟩
  have D5 := HD4.out.1.chg C5 (fun k j h1 h2 => by have := HS4.out.2.2 k h1; have := footD_nil h2; omega) (fun j h2 => by have := footD_nil h2; have := HTB.out.2; omega) (fun j h2 => by have := footD_nil h2; have := HTB.out.2; omega)
  have E5 := HD4.out.2.2.1.chg C5 (fun k j h1 h2 => by have := footE_nil h1; have := footD_nil h2; omega) (fun j h2 => by have := footD_nil h2; have := HTB.out.2; omega) (fun j h2 => by have := footD_nil h2; have := HTB.out.2; omega)
  have S5 := HS4.out.1.chg C5 (fun g o hg h2 => by have := HS4.out.2.1 g hg; have := footD_nil h2; omega)
  have HB5 : Hid (Below N w w5) := HB4.out.trans (C5.below (by have := HD4.out.2.2.2; omega) (fun k j hk h => by have := footD_nil h; omega))
  have HD5 : Hid (DecV () w5 N 4 3 false ⟨64, []⟩ [] v4 u4 ∧ DecV () w5 (N + 1) 2 0 false ⟨64, [251, 238]⟩ [] v5 u5 ∧ EncV () (e0 ()) w5 (N + 1 + 1) 0 0 false [] (.slice none 0 0) ∧ N + 3 ≤ w5.heap.size ∧ Seg .u32 w5 (.slice ar 3 cr) [65, 66, 10]) := ⟨D5, F5, E5, by have := C5.size; have := HD4.out.2.2.2; omega, S5⟩
  clear D5 F5 E5 S5 C5 M5 U5 s5 f5 HD4 HB4
  go_wp2_with fail
  refine (dEnd_any (N + 1) _ _ _ ⟨64, [251, 238]⟩ [] v5 u5 w5 HD5.out.2.1).mono ?_
  rintro e w6 ⟨rfl, F6, C6⟩
  have D6 := HD5.out.1.chg C6 (fun k j h1 h2 => by have := HS4.out.2.2 k h1; have := h2.1; omega) (fun j h2 => by have := h2.1; have := HTB.out.2; omega) (fun j h2 => by have := h2.1; have := HTB.out.2; omega)
  have E6 := HD5.out.2.2.1.chg C6 (fun k j h1 h2 => by have := footE_nil h1; have := h2.1; omega) (fun j h2 => by have := h2.1; have := HTB.out.2; omega) (fun j h2 => by have := h2.1; have := HTB.out.2; omega)
  have S6 := HD5.out.2.2.2.2.chg C6 (fun g o hg h2 => by have := HS4.out.2.1 g hg; have := h2.1; omega)
  have HB6 : Hid (Below N w w6) := HB5.out.trans (C6.below (by have := HD5.out.2.2.2.1; omega) (fun k j hk h => by have := h.1; omega))
  have HD6 : Hid (DecV () w6 N 4 3 false ⟨64, []⟩ [] v4 u4 ∧ BaseAt w6 (N + 1) 0 2 4 false ∧ EncV () (e0 ()) w6 (N + 1 + 1) 0 0 false [] (.slice none 0 0) ∧ N + 3 ≤ w6.heap.size ∧ Seg .u32 w6 (.slice ar 3 cr) [65, 66, 10]) := ⟨D6, F6.base, E6, by have := C6.size; have := HD5.out.2.2.2.1; omega, S6⟩
  clear D6 F6 E6 S6 C6 HD5 HB5
  go_wp2_with fail
  have hB7 : Below w6.heap.size w6 (w6.alloc (.cells #[.int .u32 65279] 43)) := (Below.refl _ _).alloc (Nat.le_refl _) _
  have E7 := HD6.out.2.2.1.below hB7
  refine (eFeed_any (N + 1 + 1) 0 (e0 ()) [] _ (some ⟨w6.heap.size, 0, none⟩) 1 1 [65279] 9 ⟨[251, 238, 40], 1, [], 65216, false⟩ _ E7 (by kernel_rfl) (by exact row_new .u32 w6 [65279] _ _ rfl) rfl (fun b' o' e h => by simp at e; have := footE_nil h; have := HD6.out.2.2.2.1; omega) (by intro c hc; simp at hc; omega) (by omega) (by omega) (by omega) (by simp) (by omega) (by omega)).mono ?_
  rintro e w8 ⟨rfl, v8, E8, C8, Mv8⟩
  have z7 : N + 3 ≤ (w6.alloc (.cells #[.int .u32 65279] 43)).heap.size := by have := HD6.out.2.2.2.1; simp; omega
  have D8 := (HD6.out.1.below hB7).chg C8 (fun k j h1 h2 => by have := HS4.out.2.2 k h1; have := footE_nil h2; omega) (fun j h2 => by have := footE_nil h2; have := HTB.out.2; omega) (fun j h2 => by have := footE_nil h2; have := HTB.out.2; omega)
  have F8 := (HD6.out.2.1.below hB7).chg C8 (fun k j h1 h2 => by have := h1.1; have := footE_nil h2; omega)
  have S8 := (HD6.out.2.2.2.2.chg (chg_of_below hB7 (Nat.le_refl _) (fun _ _ => False)) (fun _ _ _ h => h)).chg C8 (fun g o hg h2 => by have := HS4.out.2.1 g hg; have := footE_nil h2; omega)
  have HB8 : Hid (Below N w w8) := (HB6.out.trans (hB7.mono (by have := HD6.out.2.2.2.1; omega))).trans (C8.below (by omega) (fun k j hk h => by have := footE_nil h; omega))
  have HD8 : Hid (DecV () w8 N 4 3 false ⟨64, []⟩ [] v4 u4 ∧ BaseAt w8 (N + 1) 0 2 4 false ∧ N + 3 ≤ w8.heap.size ∧ Seg .u32 w8 (.slice ar 3 cr) [65, 66, 10]) := ⟨D8, F8, by have := C8.size; omega, S8⟩
  clear D8 F8 E8 S8 C8 Mv8 z7 E7 hB7 HD6 HB6
  have hst : (Stp.strOf [251, 238, 40]).toList = [251, 238, 40] := by rw [ByteArray.toList_eq, strOf_data]; rfl
  go_wp2_with fail
  have hB9 : Below w8.heap.size w8 (w8.alloc (.cells #[.int .u32 65, .int .u32 66, .int .u32 10] 43)) := (Below.refl _ _).alloc (Nat.le_refl _) _
  obtain ⟨a8, c8', e8, r8, -⟩ := HD8.out.2.2.2.form
  simp only [Value.slice.injEq] at e8
  obtain ⟨rfl, -, -⟩ := e8
  refine (rSame_any ar _ 3 3 cr 3 [65, 66, 10] [65, 66, 10] _ (r8.mono hB9) (by exact row_new .u32 w8 [65, 66, 10] _ _ rfl) rfl rfl (by decide) (by decide)).mono ?_
  rintro e w10 ⟨rfl, nd, rfl⟩
  rw [show (cmpL [65, 66, 10] [65, 66, 10] == 0) = true from by decide]
  have HB10 : Hid (Below N w ((w8.alloc (.cells #[.int .u32 65, .int .u32 66, .int .u32 10] 43)).drewN nd)) := below_drewN (HB8.out.trans (hB9.mono (by have := HD8.out.2.2.1; omega))) nd
  have HD10 : Hid (BaseAt ((w8.alloc (.cells #[.int .u32 65, .int .u32 66, .int .u32 10] 43)).drewN nd) N 0 4 3 false ∧ BaseAt ((w8.alloc (.cells #[.int .u32 65, .int .u32 66, .int .u32 10] 43)).drewN nd) (N + 1) 0 2 4 false ∧ N ≤ ((w8.alloc (.cells #[.int .u32 65, .int .u32 66, .int .u32 10] 43)).drewN nd).heap.size) :=
    ⟨HD8.out.1.base.below (below_drewN hB9 nd), HD8.out.2.1.below (below_drewN hB9 nd), by have := HD8.out.2.2.1; have := (below_drewN hB9 nd).size; omega⟩
  generalize (w8.alloc (.cells #[.int .u32 65, .int .u32 66, .int .u32 10] 43)).drewN nd = w10 at *
  clear HB8 HD8 hB9 r8
  go_wp2_with fail
  refine (fail_any N 0 4 3 false w10 HD10.out.1).mono ?_
  rintro e w11 ⟨rfl, hb11⟩
  rw [show failAt 4 3 = 4 from rfl]
  have HB11 : Hid (Below N w w11) := HB10.out.trans (hb11.mono HD10.out.2.2)
  have HD11 : Hid (BaseAt w11 (N + 1) 0 2 4 false ∧ N ≤ w11.heap.size) := ⟨HD10.out.2.1.below hb11, by have := HD10.out.2.2; have := hb11.size; omega⟩
  clear hb11 HB10 HD10
  go_wp2_with fail
  refine (fail_any (N + 1) 0 2 4 false w11 HD11.out.1).mono ?_
  rintro e w12 ⟨rfl, hb12⟩
  rw [show failAt 2 4 = 2 from rfl]
  have HB12 : Hid (Below N w w12) := HB11.out.trans (hb12.mono HD11.out.2)
  clear hb12 HB11 HD11
  go_wp2
  go_ret
  exact ⟨rfl, HB12.out⟩
end BO
end Go.Proofs.YtlifobdooophbaaDoor
