/-
  Proved: each window can be laid by each index that stands for an offset, from either mode, is active then, and gives the scalars of that offset; it can be quoted from, whichever is active. No condition.
-/
import Derived.Test.YtohobpjiikpdmaaDoorEXRd
import Derived.Test.YtohobpjiikpdmaaDoorEXAwk
import Derived.Test.YtohobpjiikpdmaaDoorEXGrt
import Derived.Test.YtohobpjiikpdmaaDoorEXTab
import Derived.Test.YtohobpjiikpdmaaDoorPair
import Derived.Test.YtohobpjiikpdmaaDoorWinRf1
namespace Go.Proofs.YtohobpjiikpdmaaDoor
open Go.ChangeShapes Go.WideShapes Go.ChangeAt Go.RowKit
open Go.ChangeMaps (open_string shut_string)
namespace expandWindows
open Bas Sca Stp Scn Cod EX
set_option linter.unusedVariables false

theorem or128_b : ∀ i : Fin 256, 128 ≤ bits .or .u8 ((i.val : Nat) : Int) 128 ∧ bits .or .u8 ((i.val : Nat) : Int) 128 < 256 := by decide +kernel
theorem or128 {x : Int} (h : 0 ≤ x) (h1 : x < 256) : 128 ≤ bits .or .u8 x 128 ∧ bits .or .u8 x 128 < 256 := by
  obtain ⟨k, rfl⟩ := Int.eq_ofNat_of_zero_le h
  exact or128_b ⟨k, by omega⟩
theorem failQ (N m : Nat) (q fa : Int) (en : Bool) (w : World) (h : BaseAt w N 0 m q en) (hf : failAt (m : Int) q = fa) :
    Calls Tryd.prog 15 #[.pointer (some ⟨N, 0, none⟩)] w fun e w' => e = .returned (.agg #[.int .i64 q, .int .i64 fa]) ∧ Below w.heap.size w w' := by
  subst hf
  exact fail_any N 0 m q en w h
set_option maxHeartbeats 8000000 in
set_option maxRecDepth 100000 in
theorem walk (w : World) (hT : EX.Tabs w) (n : Int) (hn : (Lit.int .u8 n).wf = true) (x : Int) (hx : (Lit.int .u8 x).wf = true) (b : Int) (hb : (Lit.int .u8 b).wf = true) :
    Calls Tryd.prog 7 #[.int .u8 n, .int .u8 x, .int .u8 b] w fun e w' => e = .returned (.bool true) ∧ Below w.heap.size w w' := by
  have HT : Hid (EX.Tabs w) := hT
  obtain ⟨n0, n1⟩ := Win.byte_of hn
  obtain ⟨x0, x1⟩ := Win.byte_of hx
  obtain ⟨b0, b1⟩ := Win.byte_of hb
  obtain ⟨B0, B1⟩ := or128 b0 b1
  obtain ⟨B, hB⟩ : ∃ B, bits .or .u8 b 128 = B := ⟨_, rfl⟩
  rw [hB] at B0 B1
  obtain ⟨m, hm⟩ : ∃ m, n % 8 = m := ⟨_, rfl⟩
  have m0 : 0 ≤ m := by omega
  have m7 : m ≤ 7 := by omega
  obtain ⟨k, hk⟩ : ∃ k, (m + 1) % 8 = k := ⟨_, rfl⟩
  have k0 : 0 ≤ k := by omega
  have k7 : k ≤ 7 := by omega
  clear hT hn hx hb
  go_enter Tryd.func7, Tryd.ntmps7
  go_wp2_with fail
  refine (Win.rOffset_any x w).mono ?_
  rintro e w1 ⟨rfl, b1'⟩
  have HB1 : Hid (Below w.heap.size w w1) := b1'
  have hov := Win.offV_rng x
  obtain ⟨O, hO⟩ : ∃ O, Win.offV x = O := ⟨_, rfl⟩
  obtain ⟨G, hG⟩ : ∃ G, Win.offB x = G := ⟨_, rfl⟩
  rw [hO] at hov
  rw [hO, hG]
  have HOG : Hid (Win.offV x = O ∧ Win.offB x = G) := ⟨hO, hG⟩
  clear b1' hO hG
  go_wp2_with fail
  refine (awake_any w1 (HT.out.below HB1.out)).mono ?_
  rintro e w2 ⟨rfl, b2⟩
  have HB2 : Hid (Below w.heap.size w w2) := below_two HB1.out b2
  clear b2 HB1
  go_upto_region 6 with fail
  have hcv := Stp.run_string (w2.alloc (.cells #[.int .u8 (24 + m), .int .u8 x, .int .u8 B, .int .u8 (16 + k), .int .u8 (1 + m), .int .u8 B] 5)) (some ⟨w2.heap.size, 0, none⟩) 6 6 [24 + m, x, B, 16 + k, 1 + m, B] (by exact row_new .u8 w2 [24 + m, x, B, 16 + k, 1 + m, B] _ _ rfl) rfl
  obtain ⟨S1, hS1⟩ : ∃ S, Stp.strOf [24 + m, x, B, 16 + k, 1 + m, B] = S := ⟨_, rfl⟩
  rw [hS1] at hcv
  go_upto_region 7 with fail
  have hb3 : Below w2.heap.size w2 (w2.alloc (.cells #[.int .u8 (24 + m), .int .u8 x, .int .u8 B, .int .u8 (16 + k), .int .u8 (1 + m), .int .u8 B] 5)) := (Below.refl _ _).alloc (Nat.le_refl _) _
  have HB3 : Hid (Below w.heap.size w (w2.alloc (.cells #[.int .u8 (24 + m), .int .u8 x, .int .u8 B, .int .u8 (16 + k), .int .u8 (1 + m), .int .u8 B] 5))) := below_two HB2.out hb3
  have HS1 : Hid (bytesL S1 = [24 + m, x, B, 16 + k, 1 + m, B] ∧ S1.size = 6) := by
    have e := bytesL_strOf [24 + m, x, B, 16 + k, 1 + m, B] (by intro y hy; simp at hy; omega)
    rw [hS1] at e
    exact ⟨e, by rw [← bytesL_length, e]; rfl⟩
  generalize w2.alloc (.cells #[.int .u8 (24 + m), .int .u8 x, .int .u8 B, .int .u8 (16 + k), .int .u8 (1 + m), .int .u8 B] 5) = w3 at *
  clear hb3 hcv hS1 HB2
  have hcv := Stp.run_string (w3.alloc (.cells #[.int .u8 15, .int .u8 (232 + m), .int .u8 x, .int .u8 B, .int .u8 15, .int .u8 (224 + m), .int .u8 B] 5)) (some ⟨w3.heap.size, 0, none⟩) 7 7 [15, 232 + m, x, B, 15, 224 + m, B] (by exact row_new .u8 w3 [15, 232 + m, x, B, 15, 224 + m, B] _ _ rfl) rfl
  obtain ⟨S2, hS2⟩ : ∃ S, Stp.strOf [15, 232 + m, x, B, 15, 224 + m, B] = S := ⟨_, rfl⟩
  rw [hS2] at hcv
  go_upto_region 8 with fail
  have hb4 : Below w3.heap.size w3 (w3.alloc (.cells #[.int .u8 15, .int .u8 (232 + m), .int .u8 x, .int .u8 B, .int .u8 15, .int .u8 (224 + m), .int .u8 B] 5)) := (Below.refl _ _).alloc (Nat.le_refl _) _
  have HB4 : Hid (Below w.heap.size w (w3.alloc (.cells #[.int .u8 15, .int .u8 (232 + m), .int .u8 x, .int .u8 B, .int .u8 15, .int .u8 (224 + m), .int .u8 B] 5))) := below_two HB3.out hb4
  have HS2 : Hid (bytesL S2 = [15, 232 + m, x, B, 15, 224 + m, B] ∧ S2.size = 7) := by
    have e := bytesL_strOf [15, 232 + m, x, B, 15, 224 + m, B] (by intro y hy; simp at hy; omega)
    rw [hS2] at e
    exact ⟨e, by rw [← bytesL_length, e]; rfl⟩
  generalize w3.alloc (.cells #[.int .u8 15, .int .u8 (232 + m), .int .u8 x, .int .u8 B, .int .u8 15, .int .u8 (224 + m), .int .u8 B] 5) = w4 at *
  clear hb4 hcv hS2 HB3
  obtain ⟨X, hX⟩ : ∃ X, X = scan Exp.stepX Exp.st0 (bytesL S1) := ⟨_, rfl⟩
  obtain ⟨Y, hY⟩ : ∃ Y, Y = scan Exp.stepX Exp.st0 (bytesL S2) := ⟨_, rfl⟩
  have HX : Hid (X = scan Exp.stepX Exp.st0 (bytesL S1)) := hX
  have HY : Hid (Y = scan Exp.stepX Exp.st0 (bytesL S2)) := hY
  rw [HS1.out.1] at hX
  rw [HS2.out.1] at hY
  have HTW : Hid ((¬ Win.offI x < 0 → X.told = [Win.offI x + B - 128, Win.offI x + B - 128] ∧ Y.told = [Win.offI x + B - 128, Win.offI x + B - 128]) ∧ (Win.offI x < 0 → X.told = [] ∧ X.bad = true ∧ X.eaten = 1 ∧ Y.told = [] ∧ Y.bad = true ∧ Y.eaten = 2)) := by
    refine ⟨fun ho => ?_, fun ho => ?_⟩
    · obtain ⟨⟨z1, e1, -⟩, z2, e2, -⟩ := Exp.two_told m0 m7 B0 ho k k0 k7
      rw [hX, hY, e1, e2]
      exact ⟨rfl, rfl⟩
    · rw [hX, hY]
      exact Exp.two_wrong m0 m7 ho k
  have HZ : Hid (S1.size = 6 ∧ S2.size = 7) := ⟨HS1.out.2, HS2.out.2⟩
  clear hX hY HS1 HS2
  go_wp2_with fail
  refine (newD_any () w4 rfl (HT.out.below HB4.out)).mono ?_
  rintro e w5 ⟨rfl, D5, z5, B5⟩
  obtain ⟨N, hN⟩ : ∃ N, N = w4.heap.size := ⟨_, rfl⟩
  have HN : Hid (w.heap.size ≤ N) := by show w.heap.size ≤ N; rw [hN]; exact HB4.out.size
  rw [← hN] at D5 z5 B5 ⊢
  have HD5 : Hid (DecV () w5 N 0 0 false (st0 ()) [] (.slice none 0 0) (.slice none 0 0) ∧ w5.heap.size = N + 2 ∧ Below w.heap.size w w5) := ⟨D5, z5, HB4.out.trans (B5.mono HN.out)⟩
  clear hN D5 z5 B5 HB4
  go_wp2_with fail
  refine (newD_any () w5 HD5.out.2.1.symm (HT.out.below HD5.out.2.2)).mono ?_
  rintro e w6 ⟨rfl, F6, z6, B6⟩
  have B6' : Below w5.heap.size w5 w6 := by rw [HD5.out.2.1]; exact B6
  have HD6 : Hid (DecV () w6 N 0 0 false (st0 ()) [] (.slice none 0 0) (.slice none 0 0) ∧ DecV () w6 (N + 2) 0 0 false (st0 ()) [] (.slice none 0 0) (.slice none 0 0) ∧ w6.heap.size = N + 2 + 2 ∧ Below w.heap.size w w6) := ⟨HD5.out.1.below B6', F6, z6, below_two HD5.out.2.2 B6'⟩
  clear F6 z6 B6 B6' HD5
  go_wp2_with fail
  refine (read_any N _ _ S1 none none 0 0 0 0 [] [] X w6 HD6.out.1 HX.out (ints_none _ _) (ints_none _ _) (fun b' o' h0 e h => by omega) (fun b' o' h0 e h => by omega) (by omega) (by omega) (by rw [HZ.out.1]; decide)).mono ?_
  rintro e w7 ⟨vo, rfl, v7, u7, s7, f7, D7, C7⟩
  have HD7 : Hid (BaseAt w7 (N + 1) 0 X.eaten (endQ X) (endE X) ∧ DecV () w7 (N + 2) 0 0 false (st0 ()) [] (.slice none 0 0) (.slice none 0 0) ∧ Seg .u32 w7 vo X.told ∧ (∀ g, vo.ownBlock = some g → N + 4 ≤ g) ∧ Below w.heap.size w w7) :=
    ⟨D7.base, HD6.out.2.1.chg C7 (fun k j h1 h2 => by have := footD_nil h1; have := footD_nil h2; omega) (fun k hk j h2 => by have := footD_nil h2; have := HD6.out.1.inn.bigd; omega), s7, fun g hg => by have := f7 g hg; have := HD6.out.2.2.1; omega, HD6.out.2.2.2.trans (C7.below HD6.out.2.2.2.size (fun k j hk h => by have := footD_nil h; have := HN.out; omega))⟩
  obtain ⟨a7, c7, hv7, -⟩ := s7.form
  obtain ⟨xl, hxl⟩ : ∃ xl, X.told.length = xl := ⟨_, rfl⟩
  rw [hxl] at hv7
  subst hv7
  have HXL : Hid (X.told.length = xl) := hxl
  clear s7 f7 D7 C7 HD6 hxl
  go_wp2_with fail
  refine (read_any (N + 2) _ _ S2 none none 0 0 0 0 [] [] Y w7 HD7.out.2.1 HY.out (ints_none _ _) (ints_none _ _) (fun b' o' h0 e h => by omega) (fun b' o' h0 e h => by omega) (by omega) (by omega) (by rw [HZ.out.2]; decide)).mono ?_
  rintro e w8 ⟨vm, rfl, v8, u8, s8, f8, F8, C8⟩
  have HD8 : Hid (BaseAt w8 (N + 1) 0 X.eaten (endQ X) (endE X) ∧ BaseAt w8 (N + 2 + 1) 0 Y.eaten (endQ Y) (endE Y) ∧ Seg .u32 w8 (.slice a7 xl c7) X.told ∧ Seg .u32 w8 vm Y.told ∧ Below w.heap.size w w8) :=
    ⟨HD7.out.1.chg C8 (fun k j h1 h2 => by have := h1.1; have := footD_nil h2; omega), F8.base, HD7.out.2.2.1.chg C8 (fun g o hg h2 => by have := HD7.out.2.2.2.1 g hg; have := footD_nil h2; omega), s8, HD7.out.2.2.2.2.trans (C8.below HD7.out.2.2.2.2.size (fun k j hk h => by have := footD_nil h; have := HN.out; omega))⟩
  obtain ⟨a8, c8, hv8, -⟩ := s8.form
  obtain ⟨yl, hyl⟩ : ∃ yl, Y.told.length = yl := ⟨_, rfl⟩
  rw [hyl] at hv8
  subst hv8
  have HYL : Hid (Y.told.length = yl) := hyl
  clear s8 f8 F8 C8 HD7 hyl
  by_cases ho : Win.offI x < 0
  · obtain ⟨t1, t2, t3, t4, t5, t6⟩ := HTW.out.2 ho
    have hG : G = false := by rw [← HOG.out.2]; unfold Win.offB; exact decide_eq_false (by omega)
    have hxl0 : xl = 0 := by rw [← HXL.out, t1]; rfl
    have hyl0 : yl = 0 := by rw [← HYL.out, t4]; rfl
    obtain ⟨en, hen⟩ : ∃ en, endE X = en := ⟨_, rfl⟩
    obtain ⟨em, hem⟩ : ∃ em, endE Y = em := ⟨_, rfl⟩
    have HE : Hid (BaseAt w8 (N + 1) 0 ((1 : Nat) : Int) 3 en ∧ BaseAt w8 (N + 2 + 1) 0 ((2 : Nat) : Int) 3 em ∧ Below w.heap.size w w8) := by
      have q1 : endQ X = 3 := by unfold endQ; rw [if_pos t2]
      have q2 : endQ Y = 3 := by unfold endQ; rw [if_pos t5]
      have h := HD8.out
      rw [q1, q2, t3, t6, hen, hem] at h
      exact ⟨h.1, h.2.1, h.2.2.2.2⟩
    subst hxl0 hyl0 hG
    clear ho t1 t2 t3 t4 t5 t6 hen hem HD8
    go_wp2_with fail
    refine (failQ (N + 1) 1 3 1 en w8 HE.out.1 rfl).mono ?_
    rintro e w9 ⟨rfl, b9⟩
    have HE9 : Hid (BaseAt w9 (N + 2 + 1) 0 ((2 : Nat) : Int) 3 em ∧ Below w.heap.size w w9) := ⟨HE.out.2.1.below b9, below_two HE.out.2.2 b9⟩
    clear b9 HE
    go_wp2_with fail
    refine (failed_any 3 1 w9).mono ?_
    rintro e w10 ⟨rfl, b10⟩
    have HE10 : Hid (BaseAt w10 (N + 2 + 1) 0 ((2 : Nat) : Int) 3 em ∧ Below w.heap.size w w10) := ⟨HE9.out.1.below b10, below_two HE9.out.2 b10⟩
    rw [show (if (3 : Int) = 0 then (0 : Int) else 1) = 1 from rfl]
    clear b10 HE9
    go_wp2_with fail
    refine (failQ (N + 2 + 1) 2 3 2 em w10 HE10.out.1 rfl).mono ?_
    rintro e w11 ⟨rfl, b11⟩
    have HB11 : Hid (Below w.heap.size w w11) := below_two HE10.out.2 b11
    clear b11 HE10
    go_wp2_with fail
    refine (failed_any 3 2 w11).mono ?_
    rintro e w12 ⟨rfl, b12⟩
    have HB12 : Hid (Below w.heap.size w w12) := below_two HB11.out b12
    rw [show (if (3 : Int) = 0 then (0 : Int) else 2) = 2 from rfl]
    clear b12 HB11
    go_wp2
    go_ret
    exact ⟨rfl, HB12.out⟩
  · obtain ⟨t1, t2⟩ := HTW.out.1 (by omega)
    have hG : G = true := by rw [← HOG.out.2]; unfold Win.offB; exact decide_eq_true (by omega)
    have hO : Win.offI x = O := by rw [← HOG.out.1]; unfold Win.offV; rw [if_neg ho]
    have hok := Exp.off_ok ho
    unfold Exp.offOK at hok
    rw [hO] at t1 t2 hok
    obtain ⟨C, hC⟩ : ∃ C, O + B - 128 = C := ⟨_, rfl⟩
    rw [hC] at t1 t2
    have hxl2 : xl = 2 := by rw [← HXL.out, t1]; rfl
    have hyl2 : yl = 2 := by rw [← HYL.out, t2]; rfl
    subst hxl2 hyl2 hG
    have HE : Hid (Row .u32 w8 a7 [C, C] ∧ Row .u32 w8 a8 [C, C] ∧ Below w.heap.size w w8) := ⟨by rw [← t1]; exact (seg_row HD8.out.2.2.1).1, by rw [← t2]; exact (seg_row HD8.out.2.2.2.1).1, HD8.out.2.2.2.2⟩
    clear ho t1 t2 HD8 hO
    go_wp2_with fail
    have hbA : Below w8.heap.size w8 (w8.alloc (.cells #[.int .u32 C, .int .u32 C] 44)) := (Below.refl _ _).alloc (Nat.le_refl _) _
    refine (rSame_any a7 _ 2 2 c7 2 [C, C] [C, C] _ (HE.out.1.mono hbA) (by exact row_new .u32 w8 [C, C] _ _ rfl) rfl rfl (by decide) (by decide)).mono ?_
    rintro e w9 ⟨rfl, nd, rfl⟩
    rw [cmpL_self, show ((0 : Int) == 0) = true from rfl]
    have HE9 : Hid (Row .u32 ((w8.alloc (.cells #[.int .u32 C, .int .u32 C] 44)).drewN nd) a8 [C, C] ∧ Below w.heap.size w ((w8.alloc (.cells #[.int .u32 C, .int .u32 C] 44)).drewN nd)) := ⟨HE.out.2.1.mono (below_two hbA (below_dn _ nd)), below_two HE.out.2.2 (below_two hbA (below_dn _ nd))⟩
    generalize (w8.alloc (.cells #[.int .u32 C, .int .u32 C] 44)).drewN nd = w9 at *
    clear HE hbA
    go_wp2_with fail
    have hbA : Below w9.heap.size w9 (w9.alloc (.cells #[.int .u32 C, .int .u32 C] 44)) := (Below.refl _ _).alloc (Nat.le_refl _) _
    refine (rSame_any a8 _ 2 2 c8 2 [C, C] [C, C] _ (HE9.out.1.mono hbA) (by exact row_new .u32 w9 [C, C] _ _ rfl) rfl rfl (by decide) (by decide)).mono ?_
    rintro e w10 ⟨rfl, nd2, rfl⟩
    rw [cmpL_self, show ((0 : Int) == 0) = true from rfl]
    have HE10 : Hid (Below w.heap.size w ((w9.alloc (.cells #[.int .u32 C, .int .u32 C] 44)).drewN nd2)) := below_two HE9.out.2 (below_two hbA (below_dn _ nd2))
    generalize (w9.alloc (.cells #[.int .u32 C, .int .u32 C] 44)).drewN nd2 = w10 at *
    clear HE9 hbA
    go_wp2
    go_ret
    exact ⟨rfl, HE10.out⟩
theorem reads (os : Os) {H : Type} (enc : TypeId × Value → H) : ∃ places, DataW.whole enc Tryd.prog ((({ World.holding Tryd.prog os ⟨#[], #[], []⟩ with heap := ((((World.holding Tryd.prog os ⟨#[], #[], []⟩).heap.modify 1 EX.layN).modify 2 EX.layS).modify 0 EX.layZ) } : World)).forCall (fun _ _ => 0) ⟨#[], #[.int .u8 0, .int .u8 0, .int .u8 0], []⟩).memory Tryd.f7.params.toList Rows.expandWindowsSpec.vars false #[.int .u8 0, .int .u8 0, .int .u8 0].toList 8 = some ([.lit (.int .u8 0), .lit (.int .u8 0), .lit (.int .u8 0)], [], places) :=
  ⟨[], by kernel_rfl⟩
set_option maxRecDepth 100000 in
theorem lifted (os : Os) (started : os.Started) (H : Type) (enc : TypeId × Value → H) (Fi : Stop.Interp) :
    ReturnsInHanded {} Tryd.checked os 7 .any ((OpenSpec.ofChange Rows.expandWindowsSpec).preRow enc Tryd.prog Tryd.f7 Rows.expandWindowsRow.domain false Rows.expandWindowsRow.laid) (((OpenSpec.ofChange Rows.expandWindowsSpec).at Fi).post enc Tryd.prog Tryd.f7 false true false false) := by
  obtain ⟨places, hx⟩ := reads os enc
  refine returnsInHanded_of_row (C := Tryd.checked) (s := OpenSpec.ofChange Rows.expandWindowsSpec) Bas.own started (by kernel_rfl) Tryd.func7
    (witness_row_at (enc := enc) (C := Tryd.checked) false (({ World.holding Tryd.prog os ⟨#[], #[], []⟩ with heap := ((((World.holding Tryd.prog os ⟨#[], #[], []⟩).heap.modify 1 EX.layN).modify 2 EX.layS).modify 0 EX.layZ) } : World)) #[.int .u8 0, .int .u8 0, .int .u8 0] rfl (by kernel_rfl) (by kernel_rfl) (by kernel_rfl)
      (OpenSpec.preRow_of_cond 8 hx (by kernel_rfl) (fun k hk => by cases hk) (by kernel_rfl) (EX.laid_met os _))) ?_
  intro W base args ds gs before hval0 hW _ _ _ hL _ _
  have hval : ∀ (j : Nat) t v, Tryd.f7.params[j]? = some t → args[j]? = some v → Value.okWide Tryd.prog W .any base t v := hval0
  have hW' := hW
  obtain ⟨p, q, hA0, hV, rfl, hfz, hnd⟩ := hW
  have hA : DataW.TrodAll enc Tryd.prog W 0 (fun _ => true) true Tryd.f7.params.toList args.toList ds p := hA0
  rw [Tryd.params7] at hA hval
  obtain ⟨v0, vs0, d0, ds0, p0, q0, hargs, rfl, rfl, h0, r0⟩ := trodAll_cons hA
  obtain ⟨v1, vs1, d1, ds1, p1, q1, rfl, rfl, rfl, h1, r1⟩ := trodAll_cons r0
  obtain ⟨v2, vs2, d2, ds2, p2, q2, rfl, rfl, rfl, h2, r2⟩ := trodAll_cons r1
  obtain ⟨rfl, rfl, rfl⟩ := trodAll_nil r2
  obtain rfl : args = #[v0, v1, v2] := by cases args; simp_all
  obtain ⟨rfl, rfl⟩ := trodVars_none hV
  have k0 := h0
  have lt0 : ∀ x ∈ p0, x.block < W.heap.size := by obtain ⟨m, hm⟩ := k0; exact DataW.trod_lt m _ _ _ hm
  have k1 := h1
  have lt1 : ∀ x ∈ p1, x.block < W.heap.size := by obtain ⟨m, hm⟩ := k1; exact DataW.trod_lt m _ _ _ hm
  have k2 := h2
  have lt2 : ∀ x ∈ p2, x.block < W.heap.size := by obtain ⟨m, hm⟩ := k2; exact DataW.trod_lt m _ _ _ hm
  obtain ⟨a0, rfl, rfl, rfl, w0⟩ := open_int Tryd.underlying5 (hval 0 5 v0 rfl rfl) h0
  obtain ⟨a1, rfl, rfl, rfl, w1⟩ := open_int Tryd.underlying5 (hval 1 5 v1 rfl rfl) h1
  obtain ⟨a2, rfl, rfl, rfl, w2⟩ := open_int Tryd.underlying5 (hval 2 5 v2 rfl rfl) h2
  refine (walk W (EX.tabs_of hL) a0 w0 a1 w1 a2 w2).mono fun e W' ⟨he, bel⟩ => ?_
  subst he
  exact ⟨_, rfl, _, _, _, [], _, [], hW', trodAll_mk1 (shut_bool Tryd.underlying4 _), (trodAll_cons_mk (Below.trod Bas.laidOut (by kernel_rfl) (of_decide_eq_true (by kernel_rfl)) k0 bel lt0) (trodAll_cons_mk (Below.trod Bas.laidOut (by kernel_rfl) (of_decide_eq_true (by kernel_rfl)) k1 bel lt1) (trodAll_cons_mk (Below.trod Bas.laidOut (by kernel_rfl) (of_decide_eq_true (by kernel_rfl)) k2 bel lt2) trodAll_mk0))), rfl, bel.frame _, fun h => by cases h⟩


theorem over : Rows.expandWindowsRow.holds Tryd.pinned (OpenSpec.ofChange Rows.expandWindowsSpec) :=
  OpenClaim.holds_of_cond 7 Tryd.f7 rfl rfl rfl rfl rfl rfl rfl ⟨rfl, rfl, rfl, rfl, rfl⟩ rfl rfl rfl rfl rfl (by kernel_rfl) Tryd.func7 (by kernel_rfl)
    (of_decide_eq_true (by kernel_rfl)) (by unfold Func.isWrapper; first | (rw [if_pos (by decide +kernel)]; kernel_rfl) | (rw [if_neg (by decide +kernel)]; exact ⟨rfl, rfl⟩))
    (fun os started H enc _ Fi => by rw [OpenClaim.pre_eq_preRow]; exact lifted os started H enc Fi)
theorem plain (f : FuncId) (fn : Func) (hf : Tryd.pinned.checked.prog.funcNamed Rows.expandWindowsRow.func = some f) (hfn : Tryd.pinned.checked.prog.funcs[f]? = some fn) :
    false = Tryd.pinned.checked.prog.looks [] ∧ ∀ (j : Nat) t, fn.params[j]? = some t → Tryd.pinned.checked.prog.wantsStandIn t = false := by
  obtain rfl : f = 7 := Option.some.inj ((show Tryd.prog.funcNamed Rows.expandWindowsRow.func = some 7 by kernel_rfl).symm.trans hf) |>.symm
  obtain rfl : fn = Tryd.f7 := (Option.some.inj (Tryd.func7.symm.trans hfn)).symm
  refine ⟨by kernel_rfl, fun j t ht => ?_⟩
  rw [Tryd.params7] at ht
  have hm : t ∈ [5, 5, 5] := by simpa using Array.mem_of_getElem? ht
  have hall : ([5, 5, 5].all fun u => !Tryd.prog.wantsStandIn u) = true := by kernel_rfl
  exact (show Tryd.prog.wantsStandIn t = false by simpa using List.all_eq_true.1 hall t hm)
end Go.Proofs.YtohobpjiikpdmaaDoor.expandWindows
namespace Go.Proofs.YtohobpjiikpdmaaDoor
/-- The statement: the tied card. -/
theorem expandWindows_proved : Rows.ExpandWindowsCardSaid :=
  Claim7.holds_tied_plain_at .later [] _ _ _ _ expandWindows.over (fun _ h => by cases h) (by kernel_rfl) (fun _ h => by cases h) expandWindows_row_tie rfl ⟨rfl, rfl⟩ (by kernel_rfl) rfl expandWindows.plain (by kernel_rfl)
end Go.Proofs.YtohobpjiikpdmaaDoor
