/-
  The contracts of the laws' own 'awake', 'great' and 'failed', as walks over the translated text. No condition.
-/
import Derived.Test.YtemgbmacdpnepaaPunDec
import Derived.Test.YtemgbmacdpnepaaPunEn2
import Derived.Test.YtemgbmacdpnepaaRefO
namespace Go.Proofs.Ytemgbmacdpnepaa
open Go.ChangeShapes Go.WideShapes Go.ChangeAt Go.RowKit
namespace Pun
open Bas Cod Bia Sca Fen Stp Scn
set_option linter.unusedVariables false

/-- The document's first example. -/
def exT : List Int := [98, 99, 104, 101, 114, 45, 75, 118, 97]
def exS : List Int := [98, 99, 104, 101, 114, 45, 107, 118, 97]
def exL : List Int := [98, 252, 99, 104, 101, 114]
theorem ex_dec : textD exT = some exL := by decide +kernel
theorem ex_small : smallT exT = exS := by decide +kernel
theorem ex_text {X : List Int} (h : TextOf exL X) : X = exS := by
  have h1 : TextOf exL (smallT exT) := TextOf.of_dec (by decide) ex_dec
  rw [ex_small] at h1
  exact h.one h1

set_option maxHeartbeats 8000000 in
set_option maxRecDepth 100000 in
theorem awake_any (w : World) :
    Calls Try.prog 10 #[] w fun e w' => e = .returned (.bool true) ∧ Below w.heap.size w w' := by
  obtain ⟨N, hN⟩ : ∃ N, N = w.heap.size := ⟨_, rfl⟩
  rw [← hN]
  have HT : Hid (N = w.heap.size) := hN
  clear hN
  go_enter Try.func10, Try.ntmps10
  go_wp2_with fail
  refine (newD_any w HT.out).mono ?_
  rintro e w1 ⟨rfl, D1, z1, B1⟩
  go_wp2_with fail
  refine (newD_any w1 z1.symm).mono ?_
  rintro e w2 ⟨rfl, F2, z2, B2⟩
  go_wp2_with fail
  refine (newEn_any w2 z2.symm).mono ?_
  rintro e w3 ⟨rfl, E3, z3, B3⟩
  have D3 := (D1.below (B2.mono (by omega))).below (B3.mono (by omega))
  have F3 := F2.below (B3.mono (by omega))
  have HB3 : Hid (Below N w w3) := (B1.trans (B2.mono (by omega))).trans (B3.mono (by omega))
  have HD3 : Hid (DecV w3 N 0 0 false [] [] (.slice none 0 0) (.slice none 0 0) ∧ DecV w3 (N + 1) 0 0 false [] [] (.slice none 0 0) (.slice none 0 0) ∧ EncV w3 (N + 1 + 1) 0 0 false [] [] (.slice none 0 0) (.slice none 0 0) ∧ w3.heap.size = N + 1 + 1 + 1) := ⟨D3, F3, E3, z3⟩
  clear D1 F2 E3 z1 z2 z3 B1 B2 B3 D3 F3
  -- d.Feed
  go_wp2_with fail
  refine (feed_any N 0 [] ⟨#[98, 99, 104, 101, 114, 45, 75, 118, 97]⟩ 9 _ _ w3 HD3.out.1 (by decide) (by simp) (by omega) (wf_small _ (by omega) (by omega))).mono ?_
  rintro e w4 ⟨vr4, rfl, v4, u4, D4, s4, f4, C4, M4, U4⟩
  rw [show bytesL ⟨#[98, 99, 104, 101, 114, 45, 75, 118, 97]⟩ = exT from rfl, show feedN 9 exT = 9 from rfl, show feedB 9 exT = false from rfl] at D4
  rw [if_neg (by simp), if_neg (by simp), show ([] : List Int) ++ exT.take 9 = exT from rfl] at D4
  have z3 := HD3.out.2.2.2
  have F4 := HD3.out.2.1.chg C4 (fun k j h1 h2 => by have := footD_nil h1; have := footD_nil h2; omega)
  have E4 := HD3.out.2.2.1.chg C4 (fun k j h1 h2 => by have := footE_nil h1; have := footD_nil h2; omega)
  have nv4 : ∀ k, footD N v4 u4 k → k = N ∨ N + 3 ≤ k := fun k hk => by
    rcases hk with hk | hk | hk
    · exact .inl hk
    · right; have := mov_nil M4 k hk; omega
    · right; have := mov_nil U4 k hk; omega
  have HB4 : Hid (Below N w w4) := HB3.out.trans (C4.below (by omega) (fun k j hk h => by have := footD_nil h; omega))
  have HD4 : Hid (DecV w4 N ((0 : Int) + 9) 0 false exT [] v4 u4 ∧ DecV w4 (N + 1) 0 0 false [] [] (.slice none 0 0) (.slice none 0 0) ∧ EncV w4 (N + 1 + 1) 0 0 false [] [] (.slice none 0 0) (.slice none 0 0) ∧ N + 3 ≤ w4.heap.size ∧ ∀ k, footD N v4 u4 k → k = N ∨ N + 3 ≤ k) := ⟨D4, F4, E4, by have := C4.size; omega, nv4⟩
  obtain ⟨ar4, cr4, hvr4, -⟩ := s4.form
  rw [show ([] : List Int).length = 0 from rfl] at hvr4
  subst hvr4
  rw [show feedN 9 (bytesL ⟨#[98, 99, 104, 101, 114, 45, 75, 118, 97]⟩) = 9 from rfl]
  clear D4 F4 E4 C4 M4 U4 s4 f4 nv4 HD3 HB3 z3
  -- d.End
  go_wp2_with fail
  refine (dEnd_any lenOK N _ exT v4 u4 w4 HD4.out.1 (by decide) (by decide)).mono ?_
  rintro e w5 ⟨rfl, v5, u5, D5, C5, M5, U5⟩
  rw [show endQ exT = 0 by unfold endQ; rw [ex_dec], show endE exT = true by unfold endE; rw [ex_dec], show endL exT = exL by unfold endL; rw [ex_dec]] at D5
  have nv5 : ∀ k, footD N v5 u5 k → k = N ∨ N + 3 ≤ k := fun k hk => by
    have z4 := HD4.out.2.2.2.1
    rcases hk with hk | hk | hk
    · exact .inl hk
    · rcases M5 k hk with e | e
      · exact HD4.out.2.2.2.2 k (.inr (.inl e))
      · right; omega
    · rcases U5 k hk with e | e
      · exact HD4.out.2.2.2.2 k (.inr (.inr e))
      · right; omega
  have F5 := HD4.out.2.1.chg C5 (fun k j h1 h2 => by have := footD_nil h1; have := HD4.out.2.2.2.2 k h2; omega)
  have E5 := HD4.out.2.2.1.chg C5 (fun k j h1 h2 => by have := footE_nil h1; have := HD4.out.2.2.2.2 k h2; omega)
  have HB5 : Hid (Below N w w5) := HB4.out.trans (C5.below (by have := HD4.out.2.2.2.1; omega) (fun k j hk h => by have := HD4.out.2.2.2.2 k h; omega))
  have HD5 : Hid (DecV w5 N ((0 : Int) + 9) 0 true [] exL v5 u5 ∧ DecV w5 (N + 1) 0 0 false [] [] (.slice none 0 0) (.slice none 0 0) ∧ EncV w5 (N + 1 + 1) 0 0 false [] [] (.slice none 0 0) (.slice none 0 0) ∧ N + 3 ≤ w5.heap.size ∧ ∀ k, footD N v5 u5 k → k = N ∨ N + 3 ≤ k) := ⟨D5, F5, E5, by have := C5.size; have := HD4.out.2.2.2.1; omega, nv5⟩
  clear D5 F5 E5 C5 M5 U5 nv5 HD4 HB4
  -- d.Feed again
  go_wp2_with fail
  refine (feedE_any N _ _ _ [] exL _ 9 v5 u5 w5 HD5.out.1 rfl (by decide) (wf_small _ (by omega) (by omega))).mono ?_
  rintro e w6 ⟨vr6, rfl, v6, D6, S6, F6, C6, M6⟩
  rw [show exL.drop (frontN 9 exL.length) = [] from rfl] at D6
  rw [show exL.take (frontN 9 exL.length) = exL from rfl] at S6
  have nv6 : ∀ k, footD N v6 u5 k → k = N ∨ N + 3 ≤ k := fun k hk => by
    rcases hk with hk | hk | hk
    · exact .inl hk
    · exact HD5.out.2.2.2.2 k (.inr (.inl (M6 k hk)))
    · exact HD5.out.2.2.2.2 k (.inr (.inr hk))
  have G6 := HD5.out.2.1.chg C6 (fun k j h1 h2 => by have := footD_nil h1; omega)
  have E6 := HD5.out.2.2.1.chg C6 (fun k j h1 h2 => by have := footE_nil h1; omega)
  have HB6 : Hid (Below N w w6) := HB5.out.trans (C6.below (by have := HD5.out.2.2.2.1; omega) (fun k j hk h => by omega))
  have HD6 : Hid (DecV w6 N ((0 : Int) + 9) 0 true [] [] v6 u5 ∧ DecV w6 (N + 1) 0 0 false [] [] (.slice none 0 0) (.slice none 0 0) ∧ EncV w6 (N + 1 + 1) 0 0 false [] [] (.slice none 0 0) (.slice none 0 0) ∧ N + 3 ≤ w6.heap.size ∧ (∀ k, footD N v6 u5 k → k = N ∨ N + 3 ≤ k) ∧ Seg .u32 w6 vr6 exL ∧ ∀ g, vr6.ownBlock = some g → N + 3 ≤ g) := ⟨D6, G6, E6, by have := C6.size; have := HD5.out.2.2.2.1; omega, nv6, S6, fun g hg => by have := F6 g hg; have := HD5.out.2.2.2.1; omega⟩
  obtain ⟨ar, cr, hvr, -⟩ := S6.form
  rw [show exL.length = 6 from rfl] at hvr
  subst hvr
  clear D6 G6 E6 S6 F6 C6 M6 nv6 HD5 HB5
  -- f.Feed
  go_wp2_with fail
  refine (feed_any (N + 1) 0 [] ⟨#[97, 98, 255]⟩ 9 _ _ w6 HD6.out.2.1 (by decide) (by simp) (by omega) (wf_small _ (by omega) (by omega))).mono ?_
  rintro e w7 ⟨vr7, rfl, v7, u7, F7, s7, f7, C7, M7, U7⟩
  rw [show bytesL ⟨#[97, 98, 255]⟩ = [97, 98, 255] from rfl, show feedN 9 [97, 98, 255] = 2 from rfl, show feedB 9 [97, 98, 255] = true from rfl] at F7
  rw [if_pos rfl, if_pos rfl] at F7
  have D7 := HD6.out.1.chg C7 (fun k j h1 h2 => by have := HD6.out.2.2.2.2.1 k h1; have := footD_nil h2; omega)
  have E7 := HD6.out.2.2.1.chg C7 (fun k j h1 h2 => by have := footE_nil h1; have := footD_nil h2; omega)
  have S7 := HD6.out.2.2.2.2.2.1.chg C7 (fun g o hg h2 => by have := HD6.out.2.2.2.2.2.2 g hg; have := footD_nil h2; omega)
  have HB7 : Hid (Below N w w7) := HB6.out.trans (C7.below (by have := HD6.out.2.2.2.1; omega) (fun k j hk h => by have := footD_nil h; omega))
  have HD7 : Hid (DecV w7 N ((0 : Int) + 9) 0 true [] [] v6 u5 ∧ BaseAt w7 (N + 1) 0 ((0 : Int) + 2) 3 false ∧ EncV w7 (N + 1 + 1) 0 0 false [] [] (.slice none 0 0) (.slice none 0 0) ∧ N + 3 ≤ w7.heap.size ∧ (∀ k, footD N v6 u5 k → k = N ∨ N + 3 ≤ k) ∧ Seg .u32 w7 (.slice ar 6 cr) exL ∧ ∀ g, (Value.slice ar 6 cr).ownBlock = some g → N + 3 ≤ g) := ⟨D7, F7.base, E7, by have := C7.size; have := HD6.out.2.2.2.1; omega, HD6.out.2.2.2.2.1, S7, HD6.out.2.2.2.2.2.2⟩
  obtain ⟨ar7, cr7, hvr7, -⟩ := s7.form
  rw [show ([] : List Int).length = 0 from rfl] at hvr7
  subst hvr7
  rw [show feedN 9 (bytesL ⟨#[97, 98, 255]⟩) = 2 from rfl]
  clear D7 F7 E7 S7 C7 M7 U7 s7 f7 HD6 HB6
  -- e.Feed
  go_wp2_with fail
  have hB8 : Below w7.heap.size w7 (w7.alloc (.cells (exL.map (Value.int .u32)).toArray 64)) := (Below.refl _ _).alloc (Nat.le_refl _) _
  have E8 := HD7.out.2.2.1.below hB8
  refine (eFeed_any (N + 1 + 1) 0 [] exL (some ⟨w7.heap.size, 0, none⟩) 6 6 0 _ _ _ E8 (by exact row_new .u32 w7 exL 64 _ rfl) rfl (by omega) (fun h => by cases h) (fun b' o' e h => by simp at e; have := footE_nil h; have := HD7.out.2.2.2.1; omega) (by omega) (by simp) (by omega) (wf_small _ (by omega) (by omega))).mono ?_
  rintro e w9 ⟨rfl, v9, u9, E9, C9, M9, U9⟩
  rw [show okLen exL = 6 by decide] at E9
  rw [show exL.length = 6 from rfl, if_neg (by omega), if_neg (by omega), List.nil_append] at E9
  rw [show okLen exL = 6 by decide]
  have z8 : N + 3 ≤ (w7.alloc (.cells (exL.map (Value.int .u32)).toArray 64)).heap.size := by have := HD7.out.2.2.2.1; simp; omega
  have D9 := (HD7.out.1.below hB8).chg C9 (fun k j h1 h2 => by have := HD7.out.2.2.2.2.1 k h1; have := footE_nil h2; omega)
  have G9 := (HD7.out.2.1.below hB8).chg C9 (fun k j h1 h2 => by have := h1.1; have := footE_nil h2; omega)
  have S9 := (HD7.out.2.2.2.2.2.1.chg (chg_of_below hB8 (Nat.le_refl _) (fun _ _ => False)) (fun _ _ _ h => h)).chg C9 (fun g o hg h2 => by have := HD7.out.2.2.2.2.2.2 g hg; have := footE_nil h2; omega)
  have nv9 : ∀ k, footE (N + 1 + 1) v9 u9 k → k = N + 2 ∨ w7.heap.size < k := fun k hk => by
    rcases hk with hk | hk | hk
    · exact .inl hk
    · right; have := mov_nil M9 k hk; simp at this; omega
    · right; have := mov_nil U9 k hk; simp at this; omega
  have HB9 : Hid (Below N w w9) := (HB7.out.trans (hB8.mono (by have := HD7.out.2.2.2.1; omega))).trans (C9.below (by omega) (fun k j hk h => by have := footE_nil h; omega))
  have HD9 : Hid (DecV w9 N ((0 : Int) + 9) 0 true [] [] v6 u5 ∧ BaseAt w9 (N + 1) 0 ((0 : Int) + 2) 3 false ∧ EncV w9 (N + 1 + 1) (((0 : Nat) : Int) + 6) 0 false exL [] v9 u9 ∧ N + 3 ≤ w9.heap.size ∧ (∀ k, footD N v6 u5 k → (k = N ∨ N + 3 ≤ k) ∧ k < w7.heap.size) ∧ Seg .u32 w9 (.slice ar 6 cr) exL ∧ (∀ g, (Value.slice ar 6 cr).ownBlock = some g → N + 3 ≤ g ∧ g < w7.heap.size) ∧ (∀ k, footE (N + 1 + 1) v9 u9 k → k = N + 2 ∨ w7.heap.size < k) ∧ N + 3 ≤ w7.heap.size) :=
    ⟨D9, G9, E9, by have := C9.size; omega, fun k hk => ⟨HD7.out.2.2.2.2.1 k hk, HD7.out.1.foot_lt hk⟩, S9, fun g hg => ⟨HD7.out.2.2.2.2.2.2 g hg, HD7.out.2.2.2.2.2.1.lt hg⟩, nv9, HD7.out.2.2.2.1⟩
  clear D9 G9 E9 S9 C9 M9 U9 nv9 z8 hB8 E8 HD7 HB7
  -- e.End
  go_wp2_with fail
  refine (eEnd_any (N + 1 + 1) _ exL v9 u9 w9 HD9.out.2.2.1 (by decide) (by decide)).mono ?_
  rintro e wa ⟨rfl, X, va, ua, hX, Ea, Ca, Ma, Ua⟩
  obtain rfl := ex_text hX
  have Da := HD9.out.1.chg Ca (fun k j h1 h2 => by have := HD9.out.2.2.2.2.1 k h1; have := HD9.out.2.2.2.2.2.2.2.1 k h2; have := HD9.out.2.2.2.2.2.2.2.2; omega)
  have Ga := HD9.out.2.1.chg Ca (fun k j h1 h2 => by have := h1.1; have := HD9.out.2.2.2.2.2.2.2.1 k h2; have := HD9.out.2.2.2.2.2.2.2.2; omega)
  have Sa := HD9.out.2.2.2.2.2.1.chg Ca (fun g o hg h2 => by have := HD9.out.2.2.2.2.2.2.1 g hg; have := HD9.out.2.2.2.2.2.2.2.1 g h2; omega)
  have HBa : Hid (Below N w wa) := HB9.out.trans (Ca.below (by have := HD9.out.2.2.2.1; omega) (fun k j hk h => by have := HD9.out.2.2.2.2.2.2.2.1 k h; have := HD9.out.2.2.2.2.2.2.2.2; omega))
  have HDa : Hid (DecV wa N ((0 : Int) + 9) 0 true [] [] v6 u5 ∧ BaseAt wa (N + 1) 0 ((0 : Int) + 2) 3 false ∧ EncV wa (N + 1 + 1) (((0 : Nat) : Int) + 6) 0 true [] exS va ua ∧ N + 3 ≤ wa.heap.size ∧ (∀ k, footD N v6 u5 k → k = N ∨ N + 3 ≤ k) ∧ Seg .u32 wa (.slice ar 6 cr) exL ∧ (∀ g, (Value.slice ar 6 cr).ownBlock = some g → N + 3 ≤ g)) :=
    ⟨Da, Ga, Ea, by have := Ca.size; have := HD9.out.2.2.2.1; omega, fun k hk => (HD9.out.2.2.2.2.1 k hk).1, Sa, fun g hg => (HD9.out.2.2.2.2.2.2.1 g hg).1⟩
  clear Da Ga Ea Sa Ca Ma Ua hX HD9 HB9
  -- e.Feed again
  go_wp2_with fail
  refine (eFeedE_any (N + 1 + 1) _ _ _ [] exS _ 9 va ua wa HDa.out.2.2.1 rfl (wf_small _ (by omega) (by omega))).mono ?_
  rintro e wb ⟨rfl, vb, Eb, Cb, Mb⟩
  rw [show exS.take (frontN 9 exS.length) = exS from rfl]
  have Db := HDa.out.1.chg Cb (fun k j h1 h2 => by have := HDa.out.2.2.2.2.1 k h1; omega)
  have Gb := HDa.out.2.1.chg Cb (fun k j h1 h2 => by have := h1.1; omega)
  have Sb := HDa.out.2.2.2.2.2.1.chg Cb (fun g o hg h2 => by have := HDa.out.2.2.2.2.2.2 g hg; omega)
  have HBb : Hid (Below N w wb) := HBa.out.trans (Cb.below (by have := HDa.out.2.2.2.1; omega) (fun k j hk h => by omega))
  have HDb : Hid (DecV wb N ((0 : Int) + 9) 0 true [] [] v6 u5 ∧ BaseAt wb (N + 1) 0 ((0 : Int) + 2) 3 false ∧ N + 3 ≤ wb.heap.size ∧ Seg .u32 wb (.slice ar 6 cr) exL) := ⟨Db, Gb, by have := Cb.size; have := HDa.out.2.2.2.1; omega, Sb⟩
  clear Db Gb Eb Sb Cb Mb HDa HBa
  have hst : (Stp.strOf exS).toList = [98, 99, 104, 101, 114, 45, 107, 118, 97] := by rw [ByteArray.toList_eq, strOf_data]; rfl
  go_wp2_with fail
  have hBc : Below wb.heap.size wb (wb.alloc (.cells (exL.map (Value.int .u32)).toArray 64)) := (Below.refl _ _).alloc (Nat.le_refl _) _
  obtain ⟨a8, c8', e8, r8, -⟩ := HDb.out.2.2.2.form
  simp only [Value.slice.injEq] at e8
  obtain ⟨rfl, -, -⟩ := e8
  refine (rSame_any ar _ 6 6 cr 6 exL exL _ (r8.mono hBc) (by exact row_new .u32 wb exL 64 _ rfl) rfl rfl (by decide) (by decide)).mono ?_
  rintro e wd ⟨rfl, nd, hwd⟩
  rw [show (cmpL exL exL == 0) = true from by decide]
  have HBd : Hid (Below N w wd ∧ Below wb.heap.size wb wd) := by
    have hb1 : Below wb.heap.size wb wd := by rw [hwd]; exact below_drewN hBc nd
    exact ⟨HBb.out.trans (hb1.mono (by have := HDb.out.2.2.1; omega)), hb1⟩
  have HDd : Hid (DecV wd N ((0 : Int) + 9) 0 true [] [] v6 u5 ∧ BaseAt wd (N + 1) 0 ((0 : Int) + 2) 3 false ∧ N ≤ wd.heap.size) := ⟨HDb.out.1.below HBd.out.2, HDb.out.2.1.below HBd.out.2, by have := HDb.out.2.2.1; have := HBd.out.2.size; omega⟩
  clear hwd hBc r8 HDb HBb
  go_wp2_with fail
  refine (inDone_any N 0 _ _ _ v6 [] wd HDd.out.1.base HDd.out.1.row).mono ?_
  rintro e wg ⟨rfl, hwg⟩
  subst hwg
  rw [show (!goB 0 true && (([] : List Int).length == 0)) = true from rfl]
  go_wp2_with fail
  refine (fail_any (N + 1) 0 _ 3 false wg HDd.out.2.1).mono ?_
  rintro e wf ⟨rfl, hbf⟩
  rw [show failAt ((0 : Int) + 2) 3 = 2 from rfl]
  have HBf : Hid (Below N w wf) := HBd.out.1.trans (hbf.mono HDd.out.2.2)
  clear hbf HBd HDd
  go_wp2
  go_ret
  exact ⟨rfl, HBf.out⟩

set_option maxHeartbeats 1000000 in
theorem great_any (n : Int) (a1 a2 : Option Addr) (n1 c1 n2 c2 : Nat) (w : World) :
    Calls Try.prog 11 #[.int .i64 n, .slice a1 n1 c1, .slice a2 n2 c2] w fun e w' => e = .returned (.bool (decide (n > 120) || (decide (n1 > 200) || decide (n2 > 200)))) ∧ w' = w := by
  by_cases h1 : n > 120
  · rw [decide_eq_true h1, Bool.true_or]
    go_enter Try.func11, Try.ntmps11
    go_wp2
    go_ret
    exact ⟨rfl, rfl⟩
  · rw [decide_eq_false h1, Bool.false_or]
    by_cases h2 : n1 > 200
    · have h2' : (n1 : Int) > 200 := by omega
      rw [decide_eq_true h2, Bool.true_or]
      go_enter Try.func11, Try.ntmps11
      go_wp2
      go_ret
      exact ⟨rfl, rfl⟩
    · have h2' : ¬ (n1 : Int) > 200 := by omega
      rw [decide_eq_false h2, Bool.false_or]
      by_cases h3 : n2 > 200
      · have h3' : (n2 : Int) > 200 := by omega
        rw [decide_eq_true h3]
        go_enter Try.func11, Try.ntmps11
        go_wp2
        go_ret
        exact ⟨rfl, rfl⟩
      · have h3' : ¬ (n2 : Int) > 200 := by omega
        rw [decide_eq_false h3]
        go_enter Try.func11, Try.ntmps11
        go_wp2
        go_ret
        exact ⟨rfl, rfl⟩
set_option maxHeartbeats 1000000 in
theorem failed_any (q a : Int) (w : World) :
    Calls Try.prog 17 #[.int .i64 q, .int .i64 a] w fun e w' => e = .returned (.agg #[.int .i64 q, .int .i64 (if q = 0 then 0 else a)]) ∧ Below w.heap.size w w' := by
  by_cases hq : q = 0
  · subst hq
    rw [if_pos rfl]
    go_enter Try.func17, Try.ntmps17
    go_wp2
    exact bodyPost_ret (v := .agg #[.int .i64 0, .int .i64 0]) (by simp [results, Try.results17, go_sem]) rfl ⟨rfl, (Below.refl _ _).alloc (Nat.le_refl _) _⟩
  · have hb : (q == 0) = false := by simp [hq]
    rw [if_neg hq]
    clear hq
    go_enter Try.func17, Try.ntmps17
    go_wp2
    exact bodyPost_ret (v := .agg #[.int .i64 q, .int .i64 a]) (by simp [results, Try.results17, go_sem]) rfl ⟨rfl, (Below.refl _ _).alloc (Nat.le_refl _) _⟩
end Pun
end Go.Proofs.Ytemgbmacdpnepaa
