/-
  Contracts of puny's cursor, as walks over the translated text. The condition: numbers are at most 2^62, lists of at most a million scalars.
-/
import Derived.Test.YtemgbmacdpnepaaCod
import Derived.Test.YtemgbmacdpnepaaBia2
import Derived.Test.YtemgbmacdpnepaaPunOrd
import Derived.Test.YtemgbmacdpnepaaSca1
import Derived.Deep.RegionWith
namespace Go.Proofs.Ytemgbmacdpnepaa
open Go.ChangeShapes Go.WideShapes Go.ChangeAt Go.RowKit
namespace Pun
open Bas Cod Bia Sca
set_option linter.unusedVariables false

/-- A cursor in memory. -/
structure CurAt (w : World) (b n i len : Nat) (bi : Int) (mv : Bool) : Prop where
  c0 : w.cell? ⟨b, 0, none⟩ = some (.int .u64 n)
  c1 : w.cell? ⟨b, 1, none⟩ = some (.int .u64 i)
  c2 : w.cell? ⟨b, 2, none⟩ = some (.int .u64 len)
  c3 : w.cell? ⟨b, 3, none⟩ = some (.int .i64 bi)
  c4 : w.cell? ⟨b, 4, none⟩ = some (.bool mv)
  f : ∀ j, w.frozen? ⟨b, j, none⟩ = false
theorem CurAt.lt {w : World} {b n i len : Nat} {bi : Int} {mv : Bool} (h : CurAt w b n i len bi mv) : b < w.heap.size := World.block_lt_of_cell? w _ h.c0
theorem CurAt.chg {S : Nat → Nat → Prop} {w w' : World} {b n i len : Nat} {bi : Int} {mv : Bool} (h : CurAt w b n i len bi mv) (hc : Chg S w w') (hS : ∀ j, ¬ S b j) : CurAt w' b n i len bi mv :=
  ⟨hc.cellAt h.c0 (hS _), hc.cellAt h.c1 (hS _), hc.cellAt h.c2 (hS _), hc.cellAt h.c3 (hS _), hc.cellAt h.c4 (hS _), fun j => (hc.frozen b j h.lt).trans (h.f j)⟩
theorem CurAt.below {w w' : World} {b n i len : Nat} {bi : Int} {mv : Bool} (h : CurAt w b n i len bi mv) (hb : Below w.heap.size w w') : CurAt w' b n i len bi mv :=
  h.chg (chg_of_below hb (Nat.le_refl _) (fun _ _ => False)) (fun _ h => h)

set_option maxHeartbeats 1000000 in
theorem begin_any (m : Nat) (w : World) (hm : m ≤ 1000000) :
    Calls Try.prog 71 #[.int .i64 m] w fun e w' => e = .returned (.agg #[.int .u64 128, .int .u64 0, .int .u64 m, .int .i64 72, .bool false]) ∧ Below w.heap.size w w' := by
  go_enter Try.func71, Try.ntmps71
  go_wp2
  exact bodyPost_ret (v := .agg #[.int .u64 128, .int .u64 0, .int .u64 m, .int .i64 72, .bool false]) (by simp [results, Try.results71, go_sem]) rfl ⟨rfl, (Below.refl _ _).alloc (Nat.le_refl _) _⟩
theorem cur_new (w : World) (m : Nat) {b : Nat} (hb : b = w.heap.size) : CurAt (w.alloc (.cells #[.int .u64 128, .int .u64 0, .int .u64 m, .int .i64 72, .bool false] 117)) b 128 0 m 72 false := by
  subst hb
  refine ⟨?_, ?_, ?_, ?_, ?_, fun j => by simp⟩
  all_goals rw [World.cell?_alloc_new]; rfl

theorem set_chg (w : World) (b j : Nat) (v : Value) : Chg (fun k _ => k = b) w (w.setCell ⟨b, j, none⟩ v) := (chg_setCell w b j v).mono (fun _ _ _ h => h.1)
section
variable {w : World} {b n i len : Nat} {bi : Int} {mv : Bool}
theorem CurAt.s0 (h : CurAt w b n i len bi mv) (x : Nat) : CurAt (w.setCell ⟨b, 0, none⟩ (.int .u64 x)) b x i len bi mv :=
  ⟨World.cell?_setCell_same _ _ _ h.c0, (chg_setCell w b 0 _).cellAt h.c1 (by omega), (chg_setCell w b 0 _).cellAt h.c2 (by omega), (chg_setCell w b 0 _).cellAt h.c3 (by omega), (chg_setCell w b 0 _).cellAt h.c4 (by omega), fun j => by simp [h.f j]⟩
theorem CurAt.s1 (h : CurAt w b n i len bi mv) (x : Nat) : CurAt (w.setCell ⟨b, 1, none⟩ (.int .u64 x)) b n x len bi mv :=
  ⟨(chg_setCell w b 1 _).cellAt h.c0 (by omega), World.cell?_setCell_same _ _ _ h.c1, (chg_setCell w b 1 _).cellAt h.c2 (by omega), (chg_setCell w b 1 _).cellAt h.c3 (by omega), (chg_setCell w b 1 _).cellAt h.c4 (by omega), fun j => by simp [h.f j]⟩
theorem CurAt.s2 (h : CurAt w b n i len bi mv) (x : Nat) : CurAt (w.setCell ⟨b, 2, none⟩ (.int .u64 x)) b n i x bi mv :=
  ⟨(chg_setCell w b 2 _).cellAt h.c0 (by omega), (chg_setCell w b 2 _).cellAt h.c1 (by omega), World.cell?_setCell_same _ _ _ h.c2, (chg_setCell w b 2 _).cellAt h.c3 (by omega), (chg_setCell w b 2 _).cellAt h.c4 (by omega), fun j => by simp [h.f j]⟩
theorem CurAt.s3 (h : CurAt w b n i len bi mv) (x : Int) : CurAt (w.setCell ⟨b, 3, none⟩ (.int .i64 x)) b n i len x mv :=
  ⟨(chg_setCell w b 3 _).cellAt h.c0 (by omega), (chg_setCell w b 3 _).cellAt h.c1 (by omega), (chg_setCell w b 3 _).cellAt h.c2 (by omega), World.cell?_setCell_same _ _ _ h.c3, (chg_setCell w b 3 _).cellAt h.c4 (by omega), fun j => by simp [h.f j]⟩
theorem CurAt.s4 (h : CurAt w b n i len bi mv) (x : Bool) : CurAt (w.setCell ⟨b, 4, none⟩ (.bool x)) b n i len bi x :=
  ⟨(chg_setCell w b 4 _).cellAt h.c0 (by omega), (chg_setCell w b 4 _).cellAt h.c1 (by omega), (chg_setCell w b 4 _).cellAt h.c2 (by omega), (chg_setCell w b 4 _).cellAt h.c3 (by omega), World.cell?_setCell_same _ _ _ h.c4, fun j => by simp [h.f j]⟩
end
set_option maxHeartbeats 4000000 in
set_option maxRecDepth 100000 in
theorem move_any (b n i len d : Nat) (bi : Int) (mv : Bool) (w : World) (h : CurAt w b n i len bi mv) (hd : d ≤ 4611686018427387904) (hi : i ≤ 1000000) (hl : len ≤ 1000000) (hn : n ≤ 1114111) :
    Calls Try.prog 76 #[.pointer (some ⟨b, 0, none⟩), .int .u64 d] w fun e w' => e = .returned (.tuple #[]) ∧
      CurAt w' b (n + (i + d) / (len + 1)) ((i + d) % (len + 1) + 1) (len + 1) (adapt d (len + 1) (!mv) : Nat) true ∧ Chg (fun k _ => k = b) w w' := by
  have H : Hid (CurAt w b n i len bi mv) := h
  obtain ⟨c0, c1, c2, c3, c4, f⟩ := h
  have f1 := f 1
  have f2 := f 2
  clear f c3 c4
  have hq := Nat.div_le_self (i + d) (len + 1)
  have hr := Nat.mod_lt (i + d) (y := len + 1) (by omega)
  obtain ⟨L, hL⟩ : ∃ L, len + 1 = L := ⟨_, rfl⟩
  have hLi : (len : Int) + 1 = (L : Int) := by omega
  rw [hL] at hq hr ⊢
  obtain ⟨s, hs⟩ : ∃ s, i + d = s := ⟨_, rfl⟩
  have hsi : (i : Int) + (d : Int) = (s : Int) := by omega
  rw [hs] at hq hr ⊢
  obtain ⟨q, hqe⟩ : ∃ q, s / L = q := ⟨_, rfl⟩
  obtain ⟨r, hre⟩ : ∃ r, s % L = r := ⟨_, rfl⟩
  have hqi : (s : Int) / (L : Int) = (q : Int) := by rw [← hqe, Int.natCast_ediv]
  have hri : (s : Int) % (L : Int) = (r : Int) := by rw [← hre, Int.natCast_emod]
  rw [hqe] at hq ⊢
  rw [hre] at hr ⊢
  have hL1 : 1 ≤ L ∧ L ≤ 1000001 := by omega
  have hs1 : s ≤ 4611686018428387904 := by omega
  obtain ⟨hL1, hL2⟩ := hL1
  clear hL hs hqe hre
  have HA : Hid (∀ w, Calls Try.prog 92 #[.int .u64 d, .int .u64 L, .bool (!mv)] w fun e w' => e = .returned (.int .i64 (adapt d L (!mv))) ∧ w' = w) := fun w => adapt_any d L (!mv) w (by omega) (by omega)
  obtain ⟨ad, had⟩ : ∃ ad, adapt d L (!mv) = ad := ⟨_, rfl⟩
  rw [had] at HA ⊢
  clear had
  go_enter Try.func76, Try.ntmps76
  go_wp2
  have H2 : Hid (CurAt ((w.setCell ⟨b, 2, none⟩ (.int .u64 L)).setCell ⟨b, 1, none⟩ (.int .u64 s)) b n s L bi mv ∧ Chg (fun k _ => k = b) w ((w.setCell ⟨b, 2, none⟩ (.int .u64 L)).setCell ⟨b, 1, none⟩ (.int .u64 s))) := ⟨(H.out.s2 L).s1 s, (set_chg _ _ _ _).trans (set_chg _ _ _ _)⟩
  generalize (w.setCell ⟨b, 2, none⟩ (.int .u64 L)).setCell ⟨b, 1, none⟩ (.int .u64 s) = w2 at *
  clear c0 c1 c2 f1 f2
  have c0 := H2.out.1.c0
  have c1 := H2.out.1.c1
  have c2 := H2.out.1.c2
  have f0 := H2.out.1.f 0
  go_region
  rw [show (n : Int) + (q : Int) = ((n + q : Nat) : Int) by omega]
  have H3 : Hid (CurAt (w2.setCell ⟨b, 0, none⟩ (.int .u64 ((n + q : Nat) : Int))).drew b (n + q) s L bi mv ∧ Chg (fun k _ => k = b) w (w2.setCell ⟨b, 0, none⟩ (.int .u64 ((n + q : Nat) : Int))).drew) := ⟨(H2.out.1.s0 (n + q)).chg ((Chg.refl (fun _ _ => False) _).drew) (fun _ h => h), (H2.out.2.trans (set_chg _ _ _ _)).drew⟩
  generalize (w2.setCell ⟨b, 0, none⟩ (.int .u64 ((n + q : Nat) : Int))).drew = w3 at *
  clear c0 c1 c2 f0 H2
  have c1 := H3.out.1.c1
  have c2 := H3.out.1.c2
  have f1 := H3.out.1.f 1
  go_wp2
  go_region
  rw [show (r : Int) + 1 = ((r + 1 : Nat) : Int) by omega]
  have H4 : Hid (CurAt (w3.setCell ⟨b, 1, none⟩ (.int .u64 ((r + 1 : Nat) : Int))).drew b (n + q) (r + 1) L bi mv ∧ Chg (fun k _ => k = b) w (w3.setCell ⟨b, 1, none⟩ (.int .u64 ((r + 1 : Nat) : Int))).drew) := ⟨(H3.out.1.s1 (r + 1)).chg ((Chg.refl (fun _ _ => False) _).drew) (fun _ h => h), (H3.out.2.trans (set_chg _ _ _ _)).drew⟩
  generalize (w3.setCell ⟨b, 1, none⟩ (.int .u64 ((r + 1 : Nat) : Int))).drew = w4 at *
  clear c1 c2 f1 H3
  have c2 := H4.out.1.c2
  have c4 := H4.out.1.c4
  have c3 := H4.out.1.c3
  have f3 := H4.out.1.f 3
  go_wp2
  go_region_with (go_at_call 92; refine (HA.out _).mono ?_; rintro e w5 ⟨rfl, rfl⟩)
  all_goals
    have H5 : Hid (CurAt (w4.setCell ⟨b, 3, none⟩ (.int .i64 (ad : Int))).drew b (n + q) (r + 1) L ad mv ∧ Chg (fun k _ => k = b) w (w4.setCell ⟨b, 3, none⟩ (.int .i64 (ad : Int))).drew) := ⟨(H4.out.1.s3 ad).chg ((Chg.refl (fun _ _ => False) _).drew) (fun _ h => h), (H4.out.2.trans (set_chg _ _ _ _)).drew⟩
    generalize (w4.setCell ⟨b, 3, none⟩ (.int .i64 (ad : Int))).drew = w6 at *
    clear c2 c4 c3 f3 H4
    have c4 := H5.out.1.c4
    have f4 := H5.out.1.f 4
    go_wp2
    go_end0
    exact ⟨rfl, H5.out.1.s4 true, H5.out.2.trans (set_chg _ _ _ _)⟩

set_option maxHeartbeats 1000000 in
theorem onScalar_any (b n i len : Nat) (bi : Int) (mv : Bool) (w : World) (h : CurAt w b n i len bi mv) (hn : n < 9223372036854775808) :
    Calls Try.prog 82 #[.pointer (some ⟨b, 0, none⟩)] w fun e w' => e = .returned (.bool (isB (n : Int))) ∧ w' = w := by
  have c0 := h.c0
  clear h
  by_cases h1 : n ≤ 1114111
  · have i1 : (n : Int) ≤ 1114111 := by omega
    have HI : Hid (∀ w, Calls Try.prog 85 #[.int .u32 (n : Int)] w fun e w' => e = .returned (.bool (isB (n : Int))) ∧ w' = w) := fun w => sIs_any n w
    obtain ⟨t, ht⟩ : ∃ t, isB (n : Int) = t := ⟨_, rfl⟩
    rw [ht] at HI ⊢
    clear ht
    go_enter Try.func82, Try.ntmps82
    go_wp2_with (go_at_call 85; refine (HI.out _).mono ?_; rintro e w5 ⟨rfl, rfl⟩)
    go_ret
    exact ⟨rfl, rfl⟩
  · have i1 : ¬ (n : Int) ≤ 1114111 := by omega
    have HF : Hid (isB (n : Int) = false) := by
      show _ = _
      cases h2 : isB (n : Int)
      · rfl
      · have := (isB_iff.1 h2).1; omega
    go_enter Try.func82, Try.ntmps82
    go_wp2
    go_ret
    exact ⟨ret_bool HF.out.symm, rfl⟩

set_option maxHeartbeats 4000000 in
theorem delta_any (b n i len v p x : Nat) (bi : Int) (mv : Bool) (w : World) (h : CurAt w b n i len bi mv) (hn : n ≤ v) (hv : v ≤ 1114111) (hp : p ≤ 1000000) (hl : len ≤ 1000000) (hx : i + x = (v - n) * (len + 1) + p) :
    Calls Try.prog 72 #[.pointer (some ⟨b, 0, none⟩), .int .u32 v, .int .i64 p] w fun e w' => e = .returned (.int .u64 x) ∧ ∃ nd, w' = w.drewN nd := by
  have c0 := h.c0
  have c1 := h.c1
  have c2 := h.c2
  clear h
  have hm : (v - n) * (len + 1) ≤ 1114111 * 1000001 := Nat.mul_le_mul (by omega) (by omega)
  obtain ⟨m, hme⟩ : ∃ m, (v - n) * (len + 1) = m := ⟨_, rfl⟩
  have hmi : ((v : Int) - (n : Int)) * ((len : Int) + 1) = (m : Int) := by
    rw [← hme, Int.natCast_mul, Int.natCast_sub hn]; rfl
  rw [hme] at hm hx
  clear hme
  go_enter Try.func72, Try.ntmps72
  go_wp2
  go_quiet (fail)
  go_wp2
  go_ret
  exact ⟨congrArg (fun z => Ending.returned (.int .u64 z)) (show (m : Int) + (p : Int) - (i : Int) = (x : Int) by omega), nq, rfl⟩
end Pun
end Go.Proofs.Ytemgbmacdpnepaa
