/-
  What a complete part does, kind by kind: contracts of the decoder's finish, as walks over the translated text. The condition: its memory is there and may be written; the tables are as the program's text lays them.
-/
import Derived.Test.YtohobpjiikpdmaaDoorEXFin
namespace Go.Proofs.YtohobpjiikpdmaaDoor
open Go.ChangeShapes Go.WideShapes Go.ChangeAt Go.RowKit
namespace EX
open Bas Sca Stp Scn Cod Win
set_option linter.unusedVariables false

/-- A part's bytes in memory that its doing leaves alone. -/
structure Part (w : World) (D d : Nat) (v : Value) (g o : Nat) (m : List Int) : Prop where
  c : ∀ i : Nat, i < m.length → w.cell? ⟨g, o + i, none⟩ = some (.int .u8 (nth m i))
  b : ∀ x ∈ m, 0 ≤ x ∧ x < 256
  f : ¬ footF D d v g
section
variable {w : World} {D d : Nat} {p q : Int} {en : Bool} {s : St} {l : List Int} {v u : Value} {g o c : Nat}
theorem bare_st (hb : s.beg = []) : (⟨s.uni, s.act, s.wins, s.hi, []⟩ : St) = s := by rw [← hb]
theorem row_apart (h : DecW w D d p q en s l v u) (hf : ¬ footF D d v g) : ∀ j, ¬ footR D 3 v g j := fun j hh => by
  rcases hh with hh | hh
  · exact hf (.inl hh.1)
  · exact hf (.inr (.inr hh))
end
set_option maxHeartbeats 4000000 in
set_option maxRecDepth 100000 in
theorem fin_own (D d : Nat) (p q : Int) (en : Bool) (s : St) (l : List Int) (v u : Value) (g o c : Nat) (x : Int) (w : World) (h : DecW w D d p q en s l v u) (hP : Part w D d v g o [x]) (hlen : l.length ≤ 1000000) :
    Calls Tryd.prog 42 #[.pointer (some ⟨D, 0, none⟩), .int .i64 1, .slice (some ⟨g, o, none⟩) 1 c] w fun e w' => ∃ v', e = .returned (.tuple #[]) ∧ DecW w' D d p q en s (l ++ [x]) v' u ∧ Chg (fun k _ => footF D d v k) w w' ∧ Mov w v v' := by
  have HD : Hid (DecW w D d p q en s l v u) := h
  have hx := hP.b x (by simp)
  have hc : w.drew.cell? ⟨g, o, none⟩ = some (.int .u8 x) := hP.c 0 (by simp)
  have HR : Hid (RowAt .u32 (w.drew.alloc (.cells #[.int .u32 (IntKind.u32.wrap x)] 44)) D 3 v l ∧ ∀ j, ¬ footR D 3 v g j) := ⟨(h.below (low_alloc _ _)).row, row_apart h hP.f⟩
  have HX : Hid (IntKind.u32.wrap x = x) := by show _ = _; rw [IntKind.wrap_u32]; omega
  clear h hP
  go_enter Tryd.func42, Tryd.ntmps42
  go_upto_region 2 with fail
  have hF := hc
  go_region_held3 (fun w' => w'.cell? ⟨g, o, none⟩ = some (.int .u8 x)) (first | exact hF | exact cell_later ((Below.refl _ _).alloc (Nat.le_refl _) _) hF) (first
    | (go_at_call 53; refine (hold_any D 3 v l [IntKind.u32.wrap x] _ 1 1 _ ?_ ?_ rfl ?_ ?_).mono ?_; exact HR.out.1; exact row_new .u32 _ [IntKind.u32.wrap x] _ _ (by simp); (intro h; cases h); (simp; omega); rintro e w8 ⟨v', rfl, hr8, hc8, hm8⟩; have hF := hc8.cellAt (cell_later ((Below.refl _ _).alloc (Nat.le_refl _) _) hF) (HR.out.2 _)))
  rw [HX.out] at hr8
  obtain ⟨D9, C9, M9⟩ := held_fin HD.out (Chg.refl _ _) (low_alloc _ _) hr8 hc8 hm8
  have HD9 : Hid (DecW w8 D d p q en s (l ++ [x]) v' u ∧ Chg (fun k _ => footF D d v k) w w8 ∧ Mov w v v') := ⟨D9, C9, M9⟩
  clear D9 C9 M9 hr8 hc8 hm8 hF hc
  go_wp2
  go_end0
  exact ⟨v', rfl, HD9.out⟩
set_option maxHeartbeats 4000000 in
set_option maxRecDepth 100000 in
theorem fin_shown (D d : Nat) (p q : Int) (en : Bool) (s : St) (l : List Int) (v u : Value) (g o c : Nat) (x : Int) (w : World) (h : DecW w D d p q en s l v u) (hP : Part w D d v g o [x]) (hx1 : 128 ≤ x) (hlen : l.length ≤ 1000000) :
    Calls Tryd.prog 42 #[.pointer (some ⟨D, 0, none⟩), .int .i64 2, .slice (some ⟨g, o, none⟩) 1 c] w fun e w' => ∃ v', e = .returned (.tuple #[]) ∧ DecW w' D d p q en s (l ++ [nth s.wins s.act + x - 128]) v' u ∧ Chg (fun k _ => footF D d v k) w w' ∧ Mov w v v' := by
  have HD : Hid (DecW w D d p q en s l v u) := h
  have hx := hP.b x (by simp)
  have hc : w.drew.cell? ⟨g, o, none⟩ = some (.int .u8 x) := hP.c 0 (by simp)
  have hc4 : w.drew.cell? ⟨D, 4, none⟩ = some (.pointer (some ⟨d, 0, none⟩)) := h.dy
  have hc5 : w.drew.cell? ⟨D, 5, none⟩ = some (.int .i64 s.act) := h.ac
  have hact := h.good.act
  have hok := Exp.win_ok h.good hact
  have HA : Hid (∀ w : World, WinV w d 0 s.wins used0 → Calls Tryd.prog 54 #[.pointer (some ⟨d, 0, none⟩), .int .i64 (s.act : Int)] w fun e w' => e = .returned (.int .u32 (nth s.wins s.act)) ∧ w' = w) := fun w hw => by
    have := at_any d 0 (s.act : Int) s.wins used0 w hw
    rwa [atW_yes _ s.act hact] at this
  have HW : Hid (WinV w.drew d 0 s.wins used0) := h.win.below (Below.refl _ _).drew
  obtain ⟨A, hA2⟩ : ∃ A, nth s.wins s.act = A := ⟨_, rfl⟩
  rw [hA2] at HA hok ⊢
  unfold Exp.offOK at hok
  obtain ⟨T, hT⟩ : ∃ T, IntKind.u32.wrap (A + IntKind.u32.wrap (IntKind.u8.wrap (x - 128))) = T := ⟨_, rfl⟩
  have HX : Hid (T = A + x - 128) := by
    show _ = _
    rw [← hT, show IntKind.u8.wrap (x - 128) = x - 128 from by rw [IntKind.wrap_u8]; omega, show IntKind.u32.wrap (x - 128) = x - 128 from by rw [IntKind.wrap_u32]; omega, IntKind.wrap_u32]; omega
  have HR : Hid (RowAt .u32 (w.drew.alloc (.cells #[.int .u32 T] 44)) D 3 v l ∧ (∀ j, ¬ footR D 3 v g j) ∧ ∀ j, j ≠ 3 → ¬ footR D 3 v D j) := ⟨(h.below (low_alloc _ _)).row, row_apart h hP.f, fun j hj hh => by
    rcases hh with hh | hh
    · omega
    · exact h.row.ne hh⟩
  obtain ⟨act, hac⟩ : ∃ act, s.act = act := ⟨_, rfl⟩
  rw [hac] at HA hc5
  clear h hP hok hA2 hac
  go_enter Tryd.func42, Tryd.ntmps42
  go_upto_region 4 with fail
  have hF := And.intro hc (And.intro hc4 hc5)
  go_region_held3 (fun w' => w'.cell? ⟨g, o, none⟩ = some (.int .u8 x) ∧ w'.cell? ⟨D, 4, none⟩ = some (.pointer (some ⟨d, 0, none⟩)) ∧ w'.cell? ⟨D, 5, none⟩ = some (.int .i64 act)) (first | exact hF | exact ⟨cell_later ((Below.refl _ _).alloc (Nat.le_refl _) _) hF.1, cell_later ((Below.refl _ _).alloc (Nat.le_refl _) _) hF.2.1, cell_later ((Below.refl _ _).alloc (Nat.le_refl _) _) hF.2.2⟩) (first
    | (go_at_call 54; refine (HA.out _ HW.out).mono ?_; rintro e w5 ⟨rfl, rfl⟩)
    | (go_at_call 53; refine (hold_any D 3 v l [T] _ 1 1 _ ?_ ?_ rfl ?_ ?_).mono ?_; exact HR.out.1; exact row_new .u32 _ [T] _ _ (by simp); (intro h; cases h); (simp; omega); rintro e w8 ⟨v', rfl, hr8, hc8, hm8⟩; have hF := And.intro (hc8.cellAt (cell_later ((Below.refl _ _).alloc (Nat.le_refl _) _) hF.1) (HR.out.2.1 _)) (And.intro (hc8.cellAt (cell_later ((Below.refl _ _).alloc (Nat.le_refl _) _) hF.2.1) (HR.out.2.2 _ (by decide))) (hc8.cellAt (cell_later ((Below.refl _ _).alloc (Nat.le_refl _) _) hF.2.2) (HR.out.2.2 _ (by decide))))))
  rw [HX.out] at hr8
  obtain ⟨D9, C9, M9⟩ := held_fin HD.out (Chg.refl _ _) (low_alloc _ _) hr8 hc8 hm8
  have HD9 : Hid (DecW w8 D d p q en s (l ++ [A + x - 128]) v' u ∧ Chg (fun k _ => footF D d v k) w w8 ∧ Mov w v v') := ⟨D9, C9, M9⟩
  clear D9 C9 M9 hr8 hc8 hm8 hF hc hc4 hc5
  go_wp2
  go_end0
  exact ⟨v', rfl, HD9.out⟩
set_option maxHeartbeats 4000000 in
set_option maxRecDepth 100000 in
theorem fin_quoted (D d : Nat) (p q : Int) (en : Bool) (s : St) (l : List Int) (v u : Value) (g o c : Nat) (k x : Int) (w : World) (h : DecW w D d p q en s l v u) (hP : Part w D d v g o [k, x]) (hk1 : 1 ≤ k) (hk8 : k ≤ 8) (hlen : l.length ≤ 1000000) :
    Calls Tryd.prog 42 #[.pointer (some ⟨D, 0, none⟩), .int .i64 3, .slice (some ⟨g, o, none⟩) 2 c] w fun e w' => ∃ v', e = .returned (.tuple #[]) ∧ DecW w' D d p q en s (l ++ [if x < 128 then nth statL (k - 1).toNat + x else nth s.wins (k - 1).toNat + x - 128]) v' u ∧ Chg (fun k _ => footF D d v k) w w' ∧ Mov w v v' := by
  have HD : Hid (DecW w D d p q en s l v u) := h
  have hx := hP.b x (by simp)
  have hc : w.drew.cell? ⟨g, o, none⟩ = some (.int .u8 k) := hP.c 0 (by simp)
  have hc1 : w.drew.cell? ⟨g, o + 1, none⟩ = some (.int .u8 x) := hP.c 1 (by simp)
  obtain ⟨n, hn⟩ := Int.eq_ofNat_of_zero_le (show 0 ≤ k - 1 by omega)
  have hn8 : n < 8 := by omega
  have hkw : IntKind.u8.wrap (k - 1) = (n : Int) := by rw [hn, IntKind.wrap_u8]; omega
  have hnn : IntKind.i64.wrap (n : Int) = (n : Int) := wrap_i64w _ (by omega) (by omega)
  rw [show (k - 1).toNat = n from by omega]
  obtain ⟨T, hT⟩ : ∃ T, (if x < 128 then nth statL n + x else nth s.wins n + x - 128) = T := ⟨_, rfl⟩
  have HQ : Hid (∀ w : World, DecW w D d p q en s l v u → Calls Tryd.prog 55 #[.pointer (some ⟨D, 0, none⟩), .int .i64 (n : Int), .int .u8 x] w fun e w' => e = .returned (.int .u32 T) ∧ w' = w) := fun w hw => by
    have := quote_any D d p q en s l v u n x w hw hn8 hx.1 hx.2
    rwa [hT] at this
  have HDD : Hid (DecW w.drew D d p q en s l v u) := h.below (Below.refl _ _).drew
  have HR : Hid (RowAt .u32 (w.drew.alloc (.cells #[.int .u32 T] 44)) D 3 v l ∧ (∀ j, ¬ footR D 3 v g j)) := ⟨(h.below (low_alloc _ _)).row, row_apart h hP.f⟩
  rw [hT]
  clear h hP hT hn hn8
  go_enter Tryd.func42, Tryd.ntmps42
  go_upto_region 6 with fail
  have hF := And.intro hc hc1
  go_region_held3 (fun w' => w'.cell? ⟨g, o, none⟩ = some (.int .u8 k) ∧ w'.cell? ⟨g, o + 1, none⟩ = some (.int .u8 x)) (first | exact hF | exact ⟨cell_later ((Below.refl _ _).alloc (Nat.le_refl _) _) hF.1, cell_later ((Below.refl _ _).alloc (Nat.le_refl _) _) hF.2⟩) (first
    | (go_at_call 55; (try rw [hnn]); refine (HQ.out _ HDD.out).mono ?_; rintro e w5 ⟨rfl, rfl⟩)
    | (go_at_call 53; refine (hold_any D 3 v l [T] _ 1 1 _ ?_ ?_ rfl ?_ ?_).mono ?_; exact HR.out.1; exact row_new .u32 _ [T] _ _ (by simp); (intro h; cases h); (simp; omega); rintro e w8 ⟨v', rfl, hr8, hc8, hm8⟩; have hF := And.intro (hc8.cellAt (cell_later ((Below.refl _ _).alloc (Nat.le_refl _) _) hF.1) (HR.out.2 _)) (hc8.cellAt (cell_later ((Below.refl _ _).alloc (Nat.le_refl _) _) hF.2) (HR.out.2 _))))
  obtain ⟨D9, C9, M9⟩ := held_fin HD.out (Chg.refl _ _) (low_alloc _ _) hr8 hc8 hm8
  have HD9 : Hid (DecW w8 D d p q en s (l ++ [T]) v' u ∧ Chg (fun k _ => footF D d v k) w w8 ∧ Mov w v v') := ⟨D9, C9, M9⟩
  clear D9 C9 M9 hr8 hc8 hm8 hF hc hc1
  go_wp2
  go_end0
  exact ⟨v', rfl, HD9.out⟩
set_option maxHeartbeats 4000000 in
set_option maxRecDepth 100000 in
theorem fin_bare (D d : Nat) (p q : Int) (en : Bool) (s : St) (l : List Int) (v u : Value) (g o c : Nat) (k x : Int) (w : World) (h : DecW w D d p q en s l v u) (hb : s.beg = []) (hP : Part w D d v g o [k, x]) (hl : Exp.lowB k = decide (0 < s.hi)) (hlen : l.length ≤ 1000000) :
    Calls Tryd.prog 42 #[.pointer (some ⟨D, 0, none⟩), .int .i64 4, .slice (some ⟨g, o, none⟩) 2 c] w fun e w' => ∃ v', e = .returned (.tuple #[]) ∧ DecW w' D d p q en (Exp.unitE s k x).1 (l ++ (Exp.unitE s k x).2) v' u ∧ Chg (fun k _ => footF D d v k) w w' ∧ Mov w v v' := by
  have hx := hP.b x (by simp)
  have hk := hP.b k (by simp)
  have hc : w.drew.cell? ⟨g, o, none⟩ = some (.int .u8 k) := hP.c 0 (by simp)
  have hc1 : w.drew.cell? ⟨g, o + 1, none⟩ = some (.int .u8 x) := hP.c 1 (by simp)
  have HG : Hid (¬ footF D d v g) := hP.f
  have HU : Hid (∀ w' : World, DecW w' D d p q en s l v u → Calls Tryd.prog 56 #[.pointer (some ⟨D, 0, none⟩), .int .u8 k, .int .u8 x] w' fun e w2 => ∃ v', e = .returned (.tuple #[]) ∧ DecW w2 D d p q en (Exp.unitE s k x).1 (l ++ (Exp.unitE s k x).2) v' u ∧ Chg (fun k _ => footF D d v k) w' w2 ∧ Mov w' v v') := fun w' hw => unit_any D d p q en s l v u k x w' hw hb hk hx hl hlen
  have HDD : Hid (DecW w.drew D d p q en s l v u) := h.below (Below.refl _ _).drew
  clear h hP hl hb
  go_enter Tryd.func42, Tryd.ntmps42
  go_upto_region 8 with fail
  have hF := And.intro hc hc1
  go_region_held3 (fun w' => w'.cell? ⟨g, o, none⟩ = some (.int .u8 k) ∧ w'.cell? ⟨g, o + 1, none⟩ = some (.int .u8 x)) (exact hF) (first
    | (go_at_call 56; refine (HU.out _ HDD.out).mono ?_; rintro e w8 ⟨v', rfl, D8, C8, M8⟩; have hF := And.intro (C8.cellAt hF.1 HG.out) (C8.cellAt hF.2 HG.out)))
  have HD9 : Hid (DecW w8 D d p q en (Exp.unitE s k x).1 (l ++ (Exp.unitE s k x).2) v' u ∧ Chg (fun k _ => footF D d v k) w w8 ∧ Mov w v v') := ⟨D8, (chg_of_below (Below.refl _ _).drew (Nat.le_refl _) _).trans C8, M8⟩
  clear D8 C8 M8 hF hc hc1
  go_wp2
  go_end0
  exact ⟨v', rfl, HD9.out⟩
set_option maxHeartbeats 4000000 in
set_option maxRecDepth 100000 in
theorem fin_marked (D d : Nat) (p q : Int) (en : Bool) (s : St) (l : List Int) (v u : Value) (g o c : Nat) (j k x : Int) (w : World) (h : DecW w D d p q en s l v u) (hb : s.beg = []) (hP : Part w D d v g o [j, k, x]) (hl : Exp.lowB k = decide (0 < s.hi)) (hlen : l.length ≤ 1000000) :
    Calls Tryd.prog 42 #[.pointer (some ⟨D, 0, none⟩), .int .i64 5, .slice (some ⟨g, o, none⟩) 3 c] w fun e w' => ∃ v', e = .returned (.tuple #[]) ∧ DecW w' D d p q en (Exp.unitE s k x).1 (l ++ (Exp.unitE s k x).2) v' u ∧ Chg (fun k _ => footF D d v k) w w' ∧ Mov w v v' := by
  have hx := hP.b x (by simp)
  have hk := hP.b k (by simp)
  have hc : w.drew.cell? ⟨g, o + 1, none⟩ = some (.int .u8 k) := hP.c 1 (by simp)
  have hc1 : w.drew.cell? ⟨g, o + 2, none⟩ = some (.int .u8 x) := hP.c 2 (by simp)
  have HG : Hid (¬ footF D d v g) := hP.f
  have HU : Hid (∀ w' : World, DecW w' D d p q en s l v u → Calls Tryd.prog 56 #[.pointer (some ⟨D, 0, none⟩), .int .u8 k, .int .u8 x] w' fun e w2 => ∃ v', e = .returned (.tuple #[]) ∧ DecW w2 D d p q en (Exp.unitE s k x).1 (l ++ (Exp.unitE s k x).2) v' u ∧ Chg (fun k _ => footF D d v k) w' w2 ∧ Mov w' v v') := fun w' hw => unit_any D d p q en s l v u k x w' hw hb hk hx hl hlen
  have HDD : Hid (DecW w.drew D d p q en s l v u) := h.below (Below.refl _ _).drew
  clear h hP hl hb
  go_enter Tryd.func42, Tryd.ntmps42
  go_upto_region 10 with fail
  have hF := And.intro hc hc1
  go_region_held3 (fun w' => w'.cell? ⟨g, o + 1, none⟩ = some (.int .u8 k) ∧ w'.cell? ⟨g, o + 2, none⟩ = some (.int .u8 x)) (exact hF) (first
    | (go_at_call 56; refine (HU.out _ HDD.out).mono ?_; rintro e w8 ⟨v', rfl, D8, C8, M8⟩; have hF := And.intro (C8.cellAt hF.1 HG.out) (C8.cellAt hF.2 HG.out)))
  have HD9 : Hid (DecW w8 D d p q en (Exp.unitE s k x).1 (l ++ (Exp.unitE s k x).2) v' u ∧ Chg (fun k _ => footF D d v k) w w8 ∧ Mov w v v') := ⟨D8, (chg_of_below (Below.refl _ _).drew (Nat.le_refl _) _).trans C8, M8⟩
  clear D8 C8 M8 hF hc hc1
  go_wp2
  go_end0
  exact ⟨v', rfl, HD9.out⟩
set_option maxHeartbeats 4000000 in
theorem fin_wide (D d : Nat) (p q : Int) (en : Bool) (s : St) (l : List Int) (v u : Value) (a : Option Addr) (n c : Nat) (w : World) (h : DecW w D d p q en s l v u) (hb : s.beg = []) :
    Calls Tryd.prog 42 #[.pointer (some ⟨D, 0, none⟩), .int .i64 6, .slice a n c] w fun e w' => ∃ v', e = .returned (.tuple #[]) ∧ DecW w' D d p q en ⟨true, s.act, s.wins, s.hi, []⟩ l v' u ∧ Chg (fun k _ => footF D d v k) w w' ∧ Mov w v v' := by
  have H : Hid (DecW w D d p q en s l v u ∧ s.beg = []) := ⟨h, hb⟩
  have h6 := h.un
  have f6 := h.fr 6
  clear h hb
  go_enter Tryd.func42, Tryd.ntmps42
  go_wp2
  go_end0
  obtain ⟨h, hb⟩ := H.out
  have hc := chg_setCell w D 6 (.bool true)
  obtain ⟨y, hy, hy2⟩ := h.up
  exact ⟨v, rfl, h.cells (s' := ⟨true, s.act, s.wins, s.hi, []⟩) (hc.mono (fun k j _ h => ⟨h.1, by omega, by omega⟩)) (hc.cellAt h.ac (by omega)) (World.cell?_setCell_same _ _ _ h.un) (hc.cellAt h.wa (by omega)) ⟨y, hc.cellAt hy (by omega), hy2⟩ (good_of h.good h.good.len h.good.act h.good.wins h.good.hi) rfl hb.symm, hc.mono (fun k j _ h => .inl h.1), mov_refl _ _⟩
theorem and7_b : ∀ i : Fin 256, bits .and .u8 ((i.val : Nat) : Int) 7 = ((i.val : Nat) : Int) % 8 := by decide +kernel
theorem and7 {x : Int} (h : 0 ≤ x) (h1 : x < 256) : bits .and .u8 x 7 = x % 8 := by
  obtain ⟨k, rfl⟩ := Int.eq_ofNat_of_zero_le h
  exact and7_b ⟨k, by omega⟩
set_option maxHeartbeats 4000000 in
theorem fin_change (D d : Nat) (p q : Int) (en : Bool) (s : St) (l : List Int) (v u : Value) (g o c n : Nat) (x : Int) (w : World) (h : DecW w D d p q en s l v u) (hb : s.beg = []) (hP : Part w D d v g o [x]) (hn : (n : Int) = x % 8) :
    Calls Tryd.prog 42 #[.pointer (some ⟨D, 0, none⟩), .int .i64 7, .slice (some ⟨g, o, none⟩) 1 c] w fun e w' => ∃ v', e = .returned (.tuple #[]) ∧ DecW w' D d p q en ⟨false, n, s.wins, s.hi, []⟩ l v' u ∧ Chg (fun k _ => footF D d v k) w w' ∧ Mov w v v' := by
  have hx := hP.b x (by simp)
  have ha : bits .and .u8 x 7 = (n : Int) := by rw [and7 hx.1 hx.2, hn]
  have hc : w.cell? ⟨g, o, none⟩ = some (.int .u8 x) := hP.c 0 (by simp)
  have hn8 : n < 8 := by omega
  have HC : Hid (∀ w' : World, DecW w' D d p q en s l v u → Calls Tryd.prog 57 #[.pointer (some ⟨D, 0, none⟩), .int .i64 (n : Int)] w' fun e w2 => e = .returned (.tuple #[]) ∧ DecW w2 D d p q en ⟨false, n, s.wins, s.hi, []⟩ l v u ∧ Chg (fun k j => k = D ∧ 5 ≤ j ∧ j ≤ 8) w' w2) := fun w' hw => choose_any D d p q en s l v u n w' hw hb hn8
  have HDD : Hid (DecW w D d p q en s l v u) := h
  clear h hP hb hn
  go_enter Tryd.func42, Tryd.ntmps42
  go_wp2_with fail
  refine (HC.out _ HDD.out).mono ?_
  rintro e w8 ⟨rfl, D8, C8⟩
  have HD9 : Hid (DecW w8 D d p q en ⟨false, n, s.wins, s.hi, []⟩ l v u ∧ Chg (fun k _ => footF D d v k) w w8) := ⟨D8, C8.mono (fun k j _ h => .inl h.1)⟩
  clear D8 C8 hc
  go_wp2
  go_end0
  exact ⟨v, rfl, HD9.out.1, HD9.out.2, mov_refl _ _⟩
set_option maxHeartbeats 4000000 in
theorem fin_lay (D d : Nat) (p q : Int) (en : Bool) (s : St) (l : List Int) (v u : Value) (g o c n : Nat) (k x : Int) (w : World) (h : DecW w D d p q en s l v u) (hb : s.beg = []) (hP : Part w D d v g o [k, x]) (hn : (n : Int) = k % 8) (ho : ¬ offI x < 0) :
    Calls Tryd.prog 42 #[.pointer (some ⟨D, 0, none⟩), .int .i64 8, .slice (some ⟨g, o, none⟩) 2 c] w fun e w' => ∃ v', e = .returned (.tuple #[]) ∧ DecW w' D d p q en (Exp.layE s n (offI x)) l v' u ∧ Chg (fun k _ => footF D d v k) w w' ∧ Mov w v v' := by
  have hx := hP.b x (by simp)
  have hk := hP.b k (by simp)
  have ha : bits .and .u8 k 7 = (n : Int) := by rw [and7 hk.1 hk.2, hn]
  have hc : w.cell? ⟨g, o, none⟩ = some (.int .u8 k) := hP.c 0 (by simp)
  have hc1 : w.cell? ⟨g, o + 1, none⟩ = some (.int .u8 x) := hP.c 1 (by simp)
  have hn8 : n < 8 := by omega
  have hof := off_yes rfl (show 0 ≤ offI x by omega)
  have HOF : Hid (∀ w' : World, Win.Tabs w' → Calls Tryd.prog 52 #[.int .u8 x] w' fun e w2 => e = .returned (.tuple #[.int .u32 (offI x), .bool true]) ∧ w2 = w') := fun w' hw => by
    have := offset_any x w' hw hx.1 hx.2
    rwa [hof.1, hof.2] at this
  have HC : Hid (∀ w' : World, DecW w' D d p q en s l v u → Calls Tryd.prog 58 #[.pointer (some ⟨D, 0, none⟩), .int .i64 (n : Int), .int .u32 (offI x)] w' fun e w2 => e = .returned (.tuple #[]) ∧ DecW w2 D d p q en (Exp.layE s n (offI x)) l v u ∧ Chg (fun k _ => footF D d v k) w' w2) := fun w' hw => lay_any D d p q en s l v u n (offI x) w' hw hb hn8 (Exp.off_ok ho)
  have HDD : Hid (DecW w D d p q en s l v u) := h
  obtain ⟨O, hO⟩ : ∃ O, offI x = O := ⟨_, rfl⟩
  rw [hO] at HOF HC ⊢
  clear h hP hb hn ho hof hO
  go_enter Tryd.func42, Tryd.ntmps42
  go_wp2_with fail
  refine (HOF.out _ HDD.out.tabs.win).mono ?_
  rintro e w7 ⟨rfl, hw⟩
  rw [hw]
  clear hw w7
  go_wp2_with fail
  refine (HC.out _ HDD.out).mono ?_
  rintro e w8 ⟨rfl, D8, C8⟩
  have HD9 : Hid (DecW w8 D d p q en (Exp.layE s n O) l v u ∧ Chg (fun k _ => footF D d v k) w w8) := ⟨D8, C8⟩
  clear D8 C8 hc hc1
  go_wp2
  go_end0
  exact ⟨v, rfl, HD9.out.1, HD9.out.2, mov_refl _ _⟩
set_option maxHeartbeats 4000000 in
set_option maxRecDepth 100000 in
theorem fin_extend (D d : Nat) (p q : Int) (en : Bool) (s : St) (l : List Int) (v u : Value) (g o c : Nat) (j k x : Int) (w : World) (h : DecW w D d p q en s l v u) (hb : s.beg = []) (hP : Part w D d v g o [j, k, x]) :
    Calls Tryd.prog 42 #[.pointer (some ⟨D, 0, none⟩), .int .i64 9, .slice (some ⟨g, o, none⟩) 3 c] w fun e w' => ∃ v', e = .returned (.tuple #[]) ∧ DecW w' D d p q en (Exp.layE s (extN k).toNat (extO k x)) l v' u ∧ Chg (fun k _ => footF D d v k) w w' ∧ Mov w v v' := by
  have hx := hP.b x (by simp)
  have hk := hP.b k (by simp)
  have hc : w.drew.cell? ⟨g, o + 1, none⟩ = some (.int .u8 k) := hP.c 1 (by simp)
  have hc1 : w.drew.cell? ⟨g, o + 2, none⟩ = some (.int .u8 x) := hP.c 2 (by simp)
  have HG : Hid (¬ footF D d v g) := hP.f
  have hr := ext_rng hk.1 hk.2 hx.1 hx.2
  obtain ⟨n, hn⟩ := Int.eq_ofNat_of_zero_le (show 0 ≤ extN k by omega)
  have hn8 : n < 8 := by omega
  have HE : Hid (∀ w' : World, Calls Tryd.prog 59 #[.int .u8 k, .int .u8 x] w' fun e w2 => e = .returned (.tuple #[.int .i64 (n : Int), .int .u32 (extO k x)]) ∧ w2 = w') := fun w' => by
    have := ext_any k x w' hk.1 hk.2 hx.1 hx.2
    rwa [hn] at this
  have HC : Hid (∀ w' : World, DecW w' D d p q en s l v u → Calls Tryd.prog 58 #[.pointer (some ⟨D, 0, none⟩), .int .i64 (n : Int), .int .u32 (extO k x)] w' fun e w2 => e = .returned (.tuple #[]) ∧ DecW w2 D d p q en (Exp.layE s n (extO k x)) l v u ∧ Chg (fun k _ => footF D d v k) w' w2) := fun w' hw => lay_any D d p q en s l v u n (extO k x) w' hw hb hn8 (Exp.ext_ok hk.1 hk.2 hx.1 hx.2)
  have HDD : Hid (DecW w.drew D d p q en s l v u) := h.below (Below.refl _ _).drew
  rw [show (extN k).toNat = n from by rw [hn]; rfl]
  obtain ⟨O, hO⟩ : ∃ O, extO k x = O := ⟨_, rfl⟩
  rw [hO] at HE HC ⊢
  clear h hP hb hn hr hO
  go_enter Tryd.func42, Tryd.ntmps42
  go_upto_region 19 with fail
  have hF := And.intro hc hc1
  go_region_held3 (fun w' => w'.cell? ⟨g, o + 1, none⟩ = some (.int .u8 k) ∧ w'.cell? ⟨g, o + 2, none⟩ = some (.int .u8 x)) (exact hF) (first
    | (go_at_call 59; refine (HE.out _).mono ?_; rintro e w7 ⟨rfl, rfl⟩)
    | (go_at_call 58; refine (HC.out _ HDD.out).mono ?_; rintro e w8 ⟨rfl, D8, C8⟩; have hF := And.intro (C8.cellAt hF.1 HG.out) (C8.cellAt hF.2 HG.out)))
  have HD9 : Hid (DecW w8 D d p q en (Exp.layE s n O) l v u ∧ Chg (fun k _ => footF D d v k) w w8) := ⟨D8, (chg_of_below (Below.refl _ _).drew (Nat.le_refl _) _).trans C8⟩
  clear D8 C8 hF hc hc1
  go_wp2
  go_end0
  exact ⟨v, rfl, HD9.out.1, HD9.out.2, mov_refl _ _⟩
end EX
end Go.Proofs.YtohobpjiikpdmaaDoor
