/-
  What a complete part does, piece by piece: contracts of the decoder's calls, as walks over the translated text. The condition: its memory is there and may be written; the tables are as the program's text lays them.
-/
import Derived.Test.YtohobpjiikpdmaaDoorEXKnd
namespace Go.Proofs.YtohobpjiikpdmaaDoor
open Go.ChangeShapes Go.WideShapes Go.ChangeAt Go.RowKit
namespace EX
open Bas Sca Stp Scn Cod Win
set_option linter.unusedVariables false

/-- What a complete part may change. -/
def footF (D d : Nat) (v : Value) (k : Nat) : Prop := k = D ∨ k = d ∨ v.ownBlock = some k
theorem ret_u {a b : Int} (h : a = b) : Ending.returned (.int .u32 a) = .returned (.int .u32 b) := by rw [h]
theorem good_of {s : St} (h : Exp.Good s) {u : Bool} {a : Nat} {W : List Int} {hi : Int} (hW : W.length = 8) (ha : a < 8) (hw : ∀ o ∈ W, Exp.offOK o) (hh : hi = 0 ∨ (55296 ≤ hi ∧ hi ≤ 56319)) : Exp.Good ⟨u, a, W, hi, []⟩ := ⟨hW, ha, hh, hw, trivial⟩
section
variable {w : World} {D d : Nat} {p q : Int} {en : Bool} {s : St} {l : List Int} {v u : Value}
set_option maxHeartbeats 1000000 in
theorem quote_any (D d : Nat) (p q : Int) (en : Bool) (s : St) (l : List Int) (v u : Value) (n : Nat) (b : Int) (w : World) (h : DecW w D d p q en s l v u) (hn : n < 8) (b0 : 0 ≤ b) (b1 : b < 256) :
    Calls Tryd.prog 55 #[.pointer (some ⟨D, 0, none⟩), .int .i64 (n : Int), .int .u8 b] w fun e w' => e = .returned (.int .u32 (if b < 128 then nth statL n + b else nth s.wins n + b - 128)) ∧ w' = w := by
  have hok := Exp.win_ok h.good hn
  have hst := Exp.stat_ok n hn
  have hA : ∀ w : World, WinV w d 0 s.wins used0 → Calls Tryd.prog 54 #[.pointer (some ⟨d, 0, none⟩), .int .i64 (n : Int)] w fun e w' => e = .returned (.int .u32 (nth s.wins n)) ∧ w' = w := fun w hw => by
    have := at_any d 0 (n : Int) s.wins used0 w hw
    rwa [atW_yes _ n hn] at this
  have hB : ∀ w : World, Win.Tabs w → Calls Tryd.prog 61 #[.int .i64 (n : Int)] w fun e w' => e = .returned (.tuple #[.int .u32 (nth statL n), .bool true]) ∧ w' = w := fun w hw => by
    have := static_any (n : Int) w hw
    rwa [atW_yes _ n hn, isW_yes (by omega) (by omega)] at this
  have HA : Hid ((∀ w : World, WinV w d 0 s.wins used0 → Calls Tryd.prog 54 #[.pointer (some ⟨d, 0, none⟩), .int .i64 (n : Int)] w fun e w' => e = .returned (.int .u32 (nth s.wins n)) ∧ w' = w) ∧ WinV w d 0 s.wins used0) := ⟨hA, h.win⟩
  have HB : Hid ((∀ w : World, Win.Tabs w → Calls Tryd.prog 61 #[.int .i64 (n : Int)] w fun e w' => e = .returned (.tuple #[.int .u32 (nth statL n), .bool true]) ∧ w' = w) ∧ Win.Tabs w) := ⟨hB, h.tabs.win⟩
  have hdy := h.dy
  obtain ⟨A, hA2⟩ : ∃ A, nth s.wins n = A := ⟨_, rfl⟩
  obtain ⟨B, hB2⟩ : ∃ B, nth statL n = B := ⟨_, rfl⟩
  rw [hA2] at HA hok ⊢
  rw [hB2] at HB hst ⊢
  unfold Exp.offOK at hok
  clear h hA hB hA2 hB2
  by_cases hb : b < 128
  · rw [if_pos hb]
    go_enter Tryd.func55, Tryd.ntmps55
    go_wp2_with fail
    refine (HB.out.1 w HB.out.2).mono ?_
    rintro e w1 ⟨rfl, hw⟩
    rw [hw]
    clear hw w1
    go_wp2
    go_ret
    exact ⟨rfl, rfl⟩
  · rw [if_neg hb]
    have hE : Hid (A + (b - 128) = A + b - 128) := by show A + (b - 128) = A + b - 128; omega
    go_enter Tryd.func55, Tryd.ntmps55
    go_wp2_with fail
    refine (HA.out.1 w HA.out.2).mono ?_
    rintro e w1 ⟨rfl, hw⟩
    rw [hw]
    clear hw w1
    go_wp2
    go_ret
    exact ⟨ret_u hE.out, rfl⟩
set_option maxHeartbeats 1000000 in
theorem choose_any (D d : Nat) (p q : Int) (en : Bool) (s : St) (l : List Int) (v u : Value) (n : Nat) (w : World) (h : DecW w D d p q en s l v u) (hb : s.beg = []) (hn : n < 8) :
    Calls Tryd.prog 57 #[.pointer (some ⟨D, 0, none⟩), .int .i64 (n : Int)] w fun e w' => e = .returned (.tuple #[]) ∧ DecW w' D d p q en ⟨false, n, s.wins, s.hi, []⟩ l v u ∧ Chg (fun k j => k = D ∧ 5 ≤ j ∧ j ≤ 8) w w' := by
  have H : Hid (DecW w D d p q en s l v u ∧ s.beg = []) := ⟨h, hb⟩
  have h5 := h.ac
  have h6 := h.un
  have f5 := h.fr 5
  have f6 := h.fr 6
  clear h hb
  go_enter Tryd.func57, Tryd.ntmps57
  go_wp2
  go_end0
  obtain ⟨h, hb⟩ := H.out
  have hc1 := chg_setCell w D 5 (.int .i64 (n : Int))
  have hc2 := chg_setCell (w.setCell ⟨D, 5, none⟩ (.int .i64 (n : Int))) D 6 (.bool false)
  have hc : Chg (fun k j => k = D ∧ 5 ≤ j ∧ j ≤ 8) w ((w.setCell ⟨D, 5, none⟩ (.int .i64 (n : Int))).setCell ⟨D, 6, none⟩ (.bool false)) := hc1.trans2 hc2 (fun k j _ h => ⟨h.1, by omega, by omega⟩) (fun k j _ h => ⟨h.1, by omega, by omega⟩)
  have hcc : Chg (fun k j => k = D ∧ (j = 5 ∨ j = 6)) w ((w.setCell ⟨D, 5, none⟩ (.int .i64 (n : Int))).setCell ⟨D, 6, none⟩ (.bool false)) := hc1.trans2 hc2 (fun k j _ h => ⟨h.1, .inl h.2⟩) (fun k j _ h => ⟨h.1, .inr h.2⟩)
  obtain ⟨y, hy, hy2⟩ := h.up
  refine ⟨rfl, h.cells (s' := ⟨false, n, s.wins, s.hi, []⟩) hc (hc2.cellAt (World.cell?_setCell_same _ _ _ h.ac) (by omega)) (World.cell?_setCell_same _ _ _ (hc1.cellAt h.un (by omega))) (hcc.cellAt h.wa (by omega)) ⟨y, hcc.cellAt hy (by omega), hy2⟩ (good_of h.good h.good.len hn h.good.wins h.good.hi) rfl hb.symm, hc⟩
set_option maxHeartbeats 1000000 in
theorem lay_any (D d : Nat) (p q : Int) (en : Bool) (s : St) (l : List Int) (v u : Value) (n : Nat) (o : Int) (w : World) (h : DecW w D d p q en s l v u) (hb : s.beg = []) (hn : n < 8) (ho : Exp.offOK o) :
    Calls Tryd.prog 58 #[.pointer (some ⟨D, 0, none⟩), .int .i64 (n : Int), .int .u32 o] w fun e w' => e = .returned (.tuple #[]) ∧ DecW w' D d p q en (Exp.layE s n o) l v u ∧ Chg (fun k _ => footF D d v k) w w' := by
  have H : Hid (DecW w D d p q en s l v u ∧ s.beg = []) := ⟨h, hb⟩
  have HO : Hid (Exp.offOK o ∧ 0 ≤ o ∧ o < 4294967296) := ⟨ho, by unfold Exp.offOK at ho; omega, by unfold Exp.offOK at ho; omega⟩
  have hdy := h.dy
  clear h hb ho
  go_enter Tryd.func58, Tryd.ntmps58
  go_wp2_with fail
  refine (set_any d 0 (n : Int) o s.wins used0 w H.out.1.win HO.out.2.1 HO.out.2.2).mono ?_
  rintro e w1 ⟨rfl, hv, hc, -⟩
  rw [setL_yes _ n o hn] at hv
  have hg := H.out.1.good
  have D1 := H.out.1.wset hc hv ⟨by rw [List.length_set]; exact hg.len, hg.act, hg.hi, Exp.set_ok hg.wins HO.out.1, by rw [H.out.2]; exact trivial⟩
  have HD1 : Hid (DecW w1 D d p q en ⟨s.uni, s.act, s.wins.set n o, s.hi, s.beg⟩ l v u ∧ Chg (footW d 0) w w1) := ⟨D1, hc⟩
  clear hv hc hg D1
  go_wp2_with fail
  refine (choose_any D d p q en _ l v u n w1 HD1.out.1 H.out.2 hn).mono ?_
  rintro e w2 ⟨rfl, D2, C2⟩
  have HD2 : Hid (DecW w2 D d p q en (Exp.layE s n o) l v u ∧ Chg (fun k j => k = D ∧ 5 ≤ j ∧ j ≤ 8) w1 w2) := ⟨D2, C2⟩
  clear D2 C2
  go_wp2
  go_end0
  exact ⟨rfl, HD2.out.1, HD1.out.2.trans2 HD2.out.2 (fun k j _ h => .inr (.inl h.1)) (fun k j _ h => .inl h.1)⟩
theorem and10 (u : Int) (h0 : 0 ≤ u) (h1 : u < 4294967296) : bits .and .u32 u 1023 = u % 1024 := by
  obtain ⟨m, rfl⟩ := Int.eq_ofNat_of_zero_le h0
  have := u32_and_nat m 1023 (by omega) (by omega)
  rw [show ((1023 : Nat) : Int) = 1023 from rfl] at this
  rw [this, nat_mask10]
  omega
theorem or_join (i : Nat) (x y : Int) (hi : i ≤ 32) (hx0 : 0 ≤ x) (hx : x % 2 ^ i = 0) (hx1 : x < 4294967296) (hy0 : 0 ≤ y) (hy : y < 2 ^ i) (hy1 : y < 4294967296) : bits .or .u32 x y = x + y :=
  bits_join .u32 32 (by decide) (fun n h0 h1 => by rw [IntKind.wrap_u32]; omega) i x y hx0 hx hx1 hy0 hy hy1
end
/-- Behind a scalar that waits besides. -/
theorem held_fin {w w1 w7 w8 : World} {D d : Nat} {p q : Int} {en : Bool} {s : St} {l : List Int} {v u v' : Value} {c : Int} (D1 : DecW w1 D d p q en s l v u) (C1 : Chg (fun k _ => footF D d v k) w w1) (hB : Below w1.heap.size w1 w7)
    (hr8 : RowAt .u32 w8 D 3 v' (l ++ [c])) (hc8 : Chg (footR D 3 v) w7 w8) (hm8 : Mov w7 v v') : DecW w8 D d p q en s (l ++ [c]) v' u ∧ Chg (fun k _ => footF D d v k) w w8 ∧ Mov w v v' := by
  have hz : w.heap.size ≤ w7.heap.size := Nat.le_trans C1.size hB.size
  refine ⟨(D1.below hB).hold hr8 hc8 hm8, (C1.trans (chg_of_below hB (Nat.le_refl _) _)).trans2 hc8 (fun _ _ _ h => h) (fun k j _ h => ?_), mov_trans (mov_refl w v) hm8 hz⟩
  rcases h with h | h
  · exact .inl h.1
  · exact .inr (.inr h)
/-- .. a new one's memory. -/
theorem low_alloc (w : World) (o : Obj) : Below w.heap.size w (w.drew.alloc o) := (Below.refl _ _).drew.alloc (by simp) _
set_option maxHeartbeats 4000000 in
set_option maxRecDepth 100000 in
theorem unit_any (D d : Nat) (p q : Int) (en : Bool) (s : St) (l : List Int) (v u : Value) (x y : Int) (w : World) (h : DecW w D d p q en s l v u) (hb : s.beg = []) (hx : 0 ≤ x ∧ x < 256) (hy : 0 ≤ y ∧ y < 256) (hl : Exp.lowB x = decide (0 < s.hi)) (hlen : l.length ≤ 1000000) :
    Calls Tryd.prog 56 #[.pointer (some ⟨D, 0, none⟩), .int .u8 x, .int .u8 y] w fun e w' => ∃ v', e = .returned (.tuple #[]) ∧ DecW w' D d p q en (Exp.unitE s x y).1 (l ++ (Exp.unitE s x y).2) v' u ∧ Chg (fun k _ => footF D d v k) w w' ∧ Mov w v v' := by
  have H : Hid (DecW w D d p q en s l v u ∧ s.beg = []) := ⟨h, hb⟩
  have HG : Hid (Exp.Good (Exp.unitE s x y).1) := by
    have hg := h.good
    refine (Exp.good_unit (s := s) (y := y) hg hx hy hl).1
  have hor : bits .or .u32 (x * 256) y = x * 256 + y := or_join 8 _ _ (by decide) (by omega) (by omega) (by omega) (by omega) (by omega) (by omega)
  have h7 := h.wa
  have f7 := h.fr 7
  have f8 := h.fr 8
  obtain ⟨Y, h8, hY⟩ := h.up
  obtain ⟨x0, x1⟩ := hx
  obtain ⟨y0, y1⟩ := hy
  have hhi := h.good.hi
  by_cases h1 : Exp.lowB x = true
  · have hx2 := Exp.low_iff2.1 h1
    have h0 : 0 < s.hi := by rw [h1] at hl; simpa using hl.symm
    have hYY := hY h0
    subst hYY
    rw [decide_eq_true h0] at h7
    have HU : Hid (Exp.unitE s x y = (⟨s.uni, s.act, s.wins, 0, []⟩, [65536 + s.hi % 1024 * 1024 + (x * 256 + y) % 1024])) := by
      show _ = _
      rw [Exp.unit_low h1]
      congr 2
      omega
    have ha1 := and10 s.hi (by omega) (by omega)
    have ha2 := and10 (x * 256 + y) (by omega) (by omega)
    obtain ⟨P, hP⟩ : ∃ P, s.hi % 1024 = P := ⟨_, rfl⟩
    obtain ⟨Q, hQ⟩ : ∃ Q, (x * 256 + y) % 1024 = Q := ⟨_, rfl⟩
    obtain ⟨HI, hHI⟩ : ∃ HI, s.hi = HI := ⟨_, rfl⟩
    have HUP : Hid (s.hi = HI) := hHI
    rw [hP, hQ] at HU
    rw [hP, hHI] at ha1
    rw [hQ] at ha2
    rw [hHI] at h8
    have hP0 : 0 ≤ P ∧ P < 1024 := by omega
    have hQ0 : 0 ≤ Q ∧ Q < 1024 := by omega
    have hH2 : 0 ≤ HI ∧ HI < 4294967296 := by omega
    rw [HU.out] at HG
    obtain ⟨T, hT⟩ : ∃ T, x * 256 + y = T := ⟨_, rfl⟩
    have hT2 : 0 ≤ T ∧ T < 65536 := by omega
    rw [hT] at hor ha2
    clear h hb hl hhi hY h1 hx2 h0 hP hQ hHI
    go_enter Tryd.func56, Tryd.ntmps56
    go_upto_region 4 with fail
    have D1 : DecW (w.setCell ⟨D, 7, none⟩ (.bool false)) D d p q en ⟨s.uni, s.act, s.wins, 0, []⟩ l v u := by
      have hc := chg_setCell w D 7 (.bool false)
      obtain ⟨h, hb⟩ := H.out
      obtain ⟨y', hy', hy2⟩ := h.up
      exact h.cells (s' := ⟨s.uni, s.act, s.wins, 0, []⟩) (hc.mono (fun k j _ h => ⟨h.1, by omega, by omega⟩)) (hc.cellAt h.ac (by omega)) (hc.cellAt h.un (by omega)) (World.cell?_setCell_same _ _ _ h.wa) ⟨y', hc.cellAt hy' (by omega), fun h => absurd h (Int.lt_irrefl 0)⟩ HG.out rfl hb.symm
    have C1 : Chg (fun k _ => footF D d v k) w (w.setCell ⟨D, 7, none⟩ (.bool false)) := (chg_setCell w D 7 (.bool false)).mono (fun k j _ h => .inl h.1)
    have h81 : (w.setCell ⟨D, 7, none⟩ (.bool false)).cell? ⟨D, 8, none⟩ = some (.int .u32 HI) := (chg_setCell w D 7 (.bool false)).cellAt h8 (by omega)
    obtain ⟨W, hW⟩ : ∃ W, w.setCell ⟨D, 7, none⟩ (.bool false) = W := ⟨_, rfl⟩
    rw [hW] at D1 C1 h81 ⊢
    have hF : W.drew.cell? ⟨D, 8, none⟩ = some (.int .u32 HI) := by rw [World.cell?_drew]; exact h81
    have HD1 : Hid (DecW W D d p q en ⟨s.uni, s.act, s.wins, 0, []⟩ l v u ∧ Chg (fun k _ => footF D d v k) w W) := ⟨D1, C1⟩
    have HR : Hid (RowAt .u32 (W.drew.alloc (.cells #[.int .u32 (IntKind.u32.wrap (IntKind.u32.wrap (65536 + IntKind.u32.wrap (P * 1024)) + Q))] 44)) D 3 v l ∧ ∀ j, j = 8 → ¬ footR D 3 v D j) := ⟨(D1.below (low_alloc _ _)).row, fun j hj hh => by
      rcases hh with hh | hh
      · omega
      · exact D1.row.ne hh⟩
    clear hW D1 C1 h81 h7 h8 f7 f8
    go_region_held3 (fun w' => w'.cell? ⟨D, 8, none⟩ = some (.int .u32 HI)) (first | exact hF | exact cell_later ((Below.refl _ _).alloc (Nat.le_refl _) _) hF) (first
      | (go_at_call 53; refine (hold_any D 3 v l [IntKind.u32.wrap (IntKind.u32.wrap (65536 + IntKind.u32.wrap (P * 1024)) + Q)] _ 1 1 _ ?_ ?_ rfl ?_ ?_).mono ?_; exact HR.out.1; exact row_new .u32 _ [IntKind.u32.wrap (IntKind.u32.wrap (65536 + IntKind.u32.wrap (P * 1024)) + Q)] _ _ (by simp); (intro h; cases h); (simp; omega); rintro e w8 ⟨v', rfl, hr8, hc8, hm8⟩; have hF := hc8.cellAt (cell_later ((Below.refl _ _).alloc (Nat.le_refl _) _) hF) (HR.out.2 8 rfl)))
    rw [show IntKind.u32.wrap (IntKind.u32.wrap (65536 + IntKind.u32.wrap (P * 1024)) + Q) = 65536 + P * 1024 + Q from by rw [IntKind.wrap_u32, IntKind.wrap_u32, IntKind.wrap_u32]; omega] at hr8
    obtain ⟨D9, C9, M9⟩ := held_fin HD1.out.1 HD1.out.2 (low_alloc _ _) hr8 hc8 hm8
    have HD9 : Hid (DecW w8 D d p q en ⟨s.uni, s.act, s.wins, 0, []⟩ (l ++ [65536 + P * 1024 + Q]) v' u ∧ Chg (fun k _ => footF D d v k) w w8 ∧ Mov w v v') := ⟨D9, C9, M9⟩
    clear D9 C9 M9 hr8 hc8 hm8 hF
    go_wp2
    go_end0
    exact ⟨v', rfl, by rw [HU.out]; exact HD9.out.1, HD9.out.2⟩
  · have h1' : ¬ (220 ≤ x ∧ x ≤ 223) := fun e => h1 (Exp.low_iff2.2 e)
    have h0 : s.hi = 0 := by
      rw [Bool.eq_false_iff.2 h1] at hl
      have : ¬ 0 < s.hi := by simpa using hl.symm
      omega
    rw [decide_eq_false (by omega)] at h7
    obtain ⟨T, hT⟩ : ∃ T, x * 256 + y = T := ⟨_, rfl⟩
    rw [hT] at hor
    have hT2 : 0 ≤ T ∧ T < 65536 := by omega
    by_cases h2 : 55296 ≤ T ∧ T ≤ 56319
    · have HU : Hid (Exp.unitE s x y = (⟨s.uni, s.act, s.wins, T, []⟩, [])) := by
        show _ = _
        rw [Exp.unit_high ⟨y0, y1⟩ (by omega), hT]
      have hB : isB T = false := isB_false (by omega)
      have HI : Hid (∀ w : World, Calls Tryd.prog 62 #[.int .u32 T] w fun e w' => e = .returned (.bool false) ∧ w' = w) := by have := sIs_any T; rwa [hB] at this
      rw [HU.out] at HG
      clear h hb hl hhi hY h1 h1' h0 hB hT
      go_enter Tryd.func56, Tryd.ntmps56
      go_wp2_with fail
      refine (HI.out w).mono ?_
      rintro e w1 ⟨rfl, hw⟩
      rw [hw]
      clear hw w1
      go_wp2
      go_end0
      obtain ⟨h, hb⟩ := H.out
      have hc1 := chg_setCell w D 8 (.int .u32 T)
      have hc2 := chg_setCell (w.setCell ⟨D, 8, none⟩ (.int .u32 T)) D 7 (.bool true)
      have hcc : Chg (fun k j => k = D ∧ (j = 7 ∨ j = 8)) w ((w.setCell ⟨D, 8, none⟩ (.int .u32 T)).setCell ⟨D, 7, none⟩ (.bool true)) := hc1.trans2 hc2 (fun k j _ h => ⟨h.1, .inr h.2⟩) (fun k j _ h => ⟨h.1, .inl h.2⟩)
      have D1 := h.cells (s' := ⟨s.uni, s.act, s.wins, T, []⟩) (hcc.mono (fun k j _ h => ⟨h.1, by omega, by omega⟩)) (hcc.cellAt h.ac (by omega)) (hcc.cellAt h.un (by omega)) (by rw [decide_eq_true (by show 0 < T; omega)]; exact World.cell?_setCell_same _ _ _ (hc1.cellAt h.wa (by omega))) ⟨T, hc2.cellAt (World.cell?_setCell_same _ _ _ h8) (by omega), fun _ => rfl⟩ HG.out rfl hb.symm
      exact ⟨v, rfl, by rw [HU.out]; simpa using D1, hcc.mono (fun k j _ h => .inl h.1), mov_refl _ _⟩
    · have HU : Hid (Exp.unitE s x y = (⟨s.uni, s.act, s.wins, s.hi, []⟩, [T])) := by
        show _ = _
        rw [Exp.unit_one ⟨y0, y1⟩ (by omega), hT]
      have hB : isB T = true := isB_true (by omega)
      have HI : Hid (∀ w : World, Calls Tryd.prog 62 #[.int .u32 T] w fun e w' => e = .returned (.bool true) ∧ w' = w) := by have := sIs_any T; rwa [hB] at this
      have HR : Hid (RowAt .u32 (w.alloc (.cells #[.int .u32 T] 44)) D 3 v l) := (h.below ((Below.refl _ _).alloc (Nat.le_refl _) _)).row
      clear h hb hl hhi hY h1 h1' h0 hB hT
      go_enter Tryd.func56, Tryd.ntmps56
      go_wp2_with fail
      refine (HI.out w).mono ?_
      rintro e w1 ⟨rfl, hw⟩
      rw [hw]
      clear hw w1
      go_wp2_with fail
      refine (hold_any D 3 v l [T] _ 1 1 _ HR.out (by exact row_new .u32 _ [T] _ _ (by simp)) rfl (fun h => by cases h) (by simp; omega)).mono ?_
      rintro e w8 ⟨v', rfl, hr8, hc8, hm8⟩
      obtain ⟨D9, C9, M9⟩ := held_fin H.out.1 (Chg.refl _ _) ((Below.refl _ _).alloc (Nat.le_refl _) _) hr8 hc8 hm8
      have e : s = ⟨s.uni, s.act, s.wins, s.hi, []⟩ := by rw [← H.out.2]
      have HD9 : Hid (DecW w8 D d p q en ⟨s.uni, s.act, s.wins, s.hi, []⟩ (l ++ [T]) v' u ∧ Chg (fun k _ => footF D d v k) w w8 ∧ Mov w v v') := ⟨by rw [← e]; exact D9, C9, M9⟩
      clear D9 C9 M9 hr8 hc8 hm8 e
      go_wp2
      go_end0
      exact ⟨v', rfl, by rw [HU.out]; exact HD9.out.1, HD9.out.2⟩
end EX
end Go.Proofs.YtohobpjiikpdmaaDoor
