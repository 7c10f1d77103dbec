/-
  What spells scalars in memory (mode, active window, windows), and the contracts of its smaller calls, as walks over the translated text. The condition: its memory is there and may be written; the tables are as the program's text lays them.
-/
import Derived.Test.YtpglmfhlgaliaaaDoorCP1
import Derived.Deep.DeepCutAuto
namespace Go.Proofs.YtpglmfhlgaliaaaDoor
open Go.ChangeShapes Go.WideShapes Go.ChangeAt Go.RowKit
namespace CP
open Bas Sca Stp Scn Cod Win Exp Cmp Cps
set_option linter.unusedVariables false
set_option linter.unusedSimpArgs false

/-- The tables, as the program's text lays them. -/
structure Tabs (w : World) : Prop where
  win : Win.Tabs w
  all : 2 ≤ w.heap.size
theorem Tabs.chg {S : Nat → Nat → Prop} {w w' : World} (h : Tabs w) (hc : Chg S w w') (h0 : ∀ k, k < 2 → ∀ j, ¬ S k j) : Tabs w' :=
  ⟨h.win.chg hc h0, Nat.le_trans h.all hc.size⟩
theorem Tabs.below {w w' : World} (h : Tabs w) (hb : Below w.heap.size w w') : Tabs w' :=
  h.chg (chg_of_below hb (Nat.le_refl _) (fun _ _ => False)) (fun _ _ _ h => h)
theorem Tabs.drewN {w : World} (h : Tabs w) (n : Nat) : Tabs (w.drewN n) := ⟨h.win.drewN n, h.all⟩
theorem Tabs.pos {w : World} (h : Tabs w) : 2 ≤ w.heap.size := h.all

/-- An encoder's mode, active window and windows: itself in block D, its windows in block d. -/
structure SpW (w : World) (D d : Nat) (s : Cmp.ES) : Prop where
  dy : w.cell? ⟨D, 5, none⟩ = some (.pointer (some ⟨d, 0, none⟩))
  ac : w.cell? ⟨D, 6, none⟩ = some (.int .i64 s.act)
  un : w.cell? ⟨D, 7, none⟩ = some (.bool s.uni)
  fr : ∀ i, w.frozen? ⟨D, i, none⟩ = false
  win : WinV w d 0 s.wins s.used
  apart : D ≠ d
  good : GoodE s
  tabs : Tabs w
  big : 2 ≤ D
  bigd : 2 ≤ d
/-- Its memory. -/
def footP (D d k j : Nat) : Prop := (k = D ∧ 6 ≤ j ∧ j ≤ 7) ∨ k = d
section
variable {w w' : World} {D d : Nat} {s : Cmp.ES}
theorem SpW.lt (h : SpW w D d s) : D < w.heap.size := World.block_lt_of_cell? w _ h.dy
theorem SpW.ltd (h : SpW w D d s) : d < w.heap.size := h.win.lt
theorem SpW.chg {S : Nat → Nat → Prop} (h : SpW w D d s) (hc : Chg S w w') (hS : ∀ j, 5 ≤ j → j ≤ 7 → ¬ S D j) (hd : ∀ j, ¬ S d j) (h0 : ∀ k, k < 2 → ∀ j, ¬ S k j) : SpW w' D d s :=
  ⟨hc.cellAt h.dy (hS 5 (by decide) (by decide)), hc.cellAt h.ac (hS 6 (by decide) (by decide)), hc.cellAt h.un (hS 7 (by decide) (by decide)), fun i => (hc.frozen D i h.lt).trans (h.fr i),
    h.win.chg hc (fun k j hk => by rw [hk.1]; exact hd j), h.apart, h.good, h.tabs.chg hc h0, h.big, h.bigd⟩
theorem SpW.below (h : SpW w D d s) (hb : Below w.heap.size w w') : SpW w' D d s :=
  h.chg (chg_of_below hb (Nat.le_refl _) (fun _ _ => False)) (fun _ _ _ h => h) (fun _ h => h) (fun _ _ _ h => h)
/-- Behind other windows, or another order of their use. -/
theorem SpW.wset {W U : List Int} (h : SpW w D d s) (hc : Chg (footW d 0) w w') (hw : WinV w' d 0 W U) (hg : GoodE ⟨W, U, s.uni, s.act⟩) : SpW w' D d ⟨W, U, s.uni, s.act⟩ := by
  have hD : ∀ j, ¬ footW d 0 D j := fun j hh => h.apart hh.1
  exact ⟨hc.cellAt h.dy (hD 5), hc.cellAt h.ac (hD 6), hc.cellAt h.un (hD 7), fun i => (hc.frozen D i h.lt).trans (h.fr i), hw, h.apart, hg, h.tabs.chg hc (fun k hk j hh => by have := h.bigd; have := hh.1; omega), h.big, h.bigd⟩
/-- Behind another mode, or another active window. -/
theorem SpW.cells {u : Bool} {a : Nat} (h : SpW w D d s) (hc : Chg (fun k j => k = D ∧ 6 ≤ j ∧ j ≤ 7) w w') (h6 : w'.cell? ⟨D, 6, none⟩ = some (.int .i64 a)) (h7 : w'.cell? ⟨D, 7, none⟩ = some (.bool u)) (hg : GoodE ⟨s.wins, s.used, u, a⟩) : SpW w' D d ⟨s.wins, s.used, u, a⟩ :=
  ⟨hc.cellAt h.dy (by omega), h6, h7, fun i => (hc.frozen D i h.lt).trans (h.fr i), h.win.chg hc (fun k j hk hh => h.apart (by rw [← hh.1, hk.1])), h.apart, hg, h.tabs.chg hc (fun k hk j hh => by have := h.big; have := hh.1; omega), h.big, h.bigd⟩
end
theorem good_use {s : Cmp.ES} (h : GoodE s) {n : Int} (h0 : 0 ≤ n) (h1 : n ≤ 7) : GoodE ⟨s.wins, touchL s.used n, s.uni, s.act⟩ := ⟨h.len, h.act, touch_eight h.used n, h.wins⟩
theorem good_act2 {s : Cmp.ES} (h : GoodE s) {a : Nat} (h1 : a < 8) (u : Bool) : GoodE ⟨s.wins, s.used, u, a⟩ := ⟨h.len, h1, h.used, h.wins⟩
theorem wins_ok {s : Cmp.ES} (h : GoodE s) {n : Nat} (hn : n < 8) : offOK (nth s.wins n) := h.wins _ (nth_mem (by rw [h.len]; exact hn))
set_option maxHeartbeats 2000000 in
theorem choose_any (D d : Nat) (s : Cmp.ES) (n : Nat) (w : World) (h : SpW w D d s) (hn : n < 8) :
    Calls Tryd.prog 61 #[.pointer (some ⟨D, 0, none⟩), .int .i64 (n : Int)] w fun e w' => e = .returned (.tuple #[]) ∧ SpW w' D d ⟨s.wins, touchL s.used n, false, n⟩ ∧ Chg (footP D d) w w' := by
  have H : Hid (SpW w D d s) := h
  have h5 := h.dy
  have f6 := h.fr 6
  have f7 := h.fr 7
  clear h
  go_enter Tryd.func61, Tryd.ntmps61
  go_wp2_with fail
  refine (touch_any d 0 (n : Int) s.wins s.used w H.out.win H.out.good.used).mono ?_
  rintro e w1 ⟨rfl, hv, hc, -⟩
  have S1 := H.out.wset hc hv (good_use H.out.good (by omega) (by omega))
  have h6 := S1.ac
  have h7 := S1.un
  have g6 := S1.fr 6
  have g7 := S1.fr 7
  have HS1 : Hid (SpW w1 D d ⟨s.wins, touchL s.used n, s.uni, s.act⟩ ∧ Chg (footW d 0) w w1) := ⟨S1, hc⟩
  clear S1 hv hc h5 f6 f7
  go_wp2
  go_end0
  obtain ⟨S1, hc⟩ := HS1.out
  have hc1 := chg_setCell w1 D 6 (.int .i64 (n : Int))
  have hc2 := chg_setCell (w1.setCell ⟨D, 6, none⟩ (.int .i64 (n : Int))) D 7 (.bool false)
  have hcc : Chg (fun k j => k = D ∧ 6 ≤ j ∧ j ≤ 7) w1 ((w1.setCell ⟨D, 6, none⟩ (.int .i64 (n : Int))).setCell ⟨D, 7, none⟩ (.bool false)) := hc1.trans2 hc2 (fun k j _ h => ⟨h.1, by omega, by omega⟩) (fun k j _ h => ⟨h.1, by omega, by omega⟩)
  refine ⟨rfl, S1.cells hcc (hc2.cellAt (World.cell?_setCell_same _ _ _ S1.ac) (by omega)) (World.cell?_setCell_same _ _ _ (hc1.cellAt S1.un (by omega))) (good_act2 S1.good hn false), hc.trans2 hcc (fun k j _ h => .inr h.1) (fun k j _ h => .inl h)⟩
set_option maxHeartbeats 2000000 in
theorem show_any (D d : Nat) (s : Cmp.ES) (n : Nat) (c : Int) (w : World) (h : SpW w D d s) (hn : n < 8) (c0 : 0 ≤ c) (hh : hasI (nth s.wins n) c = true) :
    Calls Tryd.prog 71 #[.pointer (some ⟨D, 0, none⟩), .int .i64 (n : Int), .int .u32 c] w fun e w' => e = .returned (.string (Stp.strOf [128 + (c - nth s.wins n)])) ∧ Below w.heap.size w w' := by
  have hok := wins_ok h.good hn
  have hi := has_iff.1 hh
  have h5 := h.dy
  have HA : Hid (∀ w : World, WinV w d 0 s.wins s.used → Calls Tryd.prog 70 #[.pointer (some ⟨d, 0, none⟩), .int .i64 (n : Int)] w fun e w' => e = .returned (.int .u32 (nth s.wins n)) ∧ w' = w) := fun w hw => by
    have := at_any d 0 (n : Int) s.wins s.used w hw
    rwa [atW_yes _ n hn] at this
  have HW : Hid (WinV w.drew d 0 s.wins s.used ∧ WinV w d 0 s.wins s.used) := ⟨h.win.below (Below.refl _ _).drew, h.win⟩
  obtain ⟨o, ho⟩ : ∃ o, nth s.wins n = o := ⟨_, rfl⟩
  rw [ho] at HA hok hi ⊢
  unfold offOK at hok
  have e1 : IntKind.u32.wrap (c - o) = c - o := by rw [IntKind.wrap_u32]; omega
  have e2 : IntKind.u8.wrap (c - o) = c - o := by rw [IntKind.wrap_u8]; omega
  have e3 : IntKind.u8.wrap (128 + (c - o)) = 128 + (c - o) := by rw [IntKind.wrap_u8]; omega
  clear h hok hh ho
  go_enter Tryd.func71, Tryd.ntmps71
  go_wp2_with fail
  refine (HA.out _ HW.out.2).mono ?_
  rintro e w1 ⟨rfl, rfl⟩
  go_wp2_with fail
  refine (one_any (128 + (c - o)) w1).mono ?_
  rintro e w2 ⟨rfl, b2⟩
  go_wp2
  go_ret
  exact ⟨rfl, b2⟩
/-- What short tells. -/
def shV (s : Cmp.ES) (c : Int) : List Int := (easiC s c).getD []
def shB (s : Cmp.ES) (c : Int) : Bool := (easiC s c).isSome
theorem ret_sb {a b : ByteArray} {s t : Bool} (h : a = b) (g : s = t) : Ending.returned (.tuple #[.string a, .bool s]) = .returned (.tuple #[.string b, .bool t]) := by rw [h, g]
theorem sh_of {s : Cmp.ES} {c : Int} {l : List Int} (h : easiC s c = some l) : Ending.returned (.tuple #[.string (Stp.strOf l), .bool true]) = .returned (.tuple #[.string (Stp.strOf (shV s c)), .bool (shB s c)]) := by unfold shV shB; rw [h]; rfl
theorem sh_no {s : Cmp.ES} {c : Int} (h : easiC s c = none) : Ending.returned (.tuple #[.string (Stp.strOf []), .bool false]) = .returned (.tuple #[.string (Stp.strOf (shV s c)), .bool (shB s c)]) := by unfold shV shB; rw [h]; rfl
theorem str_nil : Stp.strOf [] = ⟨#[]⟩ := rfl
theorem str_two (a b : Int) : Stp.strOf [a] ++ Stp.strOf [b] = Stp.strOf [a, b] := by rw [← strOf_append]; rfl
theorem no_more (a b : List Int) (h : a.length + b.length ≤ 1000000) : ¬ 9223372036854775807 < (Stp.strOf a).size + (Stp.strOf b).size := by rw [strOf_size, strOf_size]; omega
set_option maxHeartbeats 2000000 in
theorem short_any (D d : Nat) (s : Cmp.ES) (c : Int) (w : World) (h : SpW w D d s) (c0 : 0 ≤ c) (c1 : c < 1114112) :
    Calls Tryd.prog 56 #[.pointer (some ⟨D, 0, none⟩), .int .u32 c] w fun e w' => e = .returned (.tuple #[.string (Stp.strOf (shV s c)), .bool (shB s c)]) ∧ Below w.heap.size w w' := by
  have HP : Hid (∀ w, Calls Tryd.prog 68 #[.int .u32 c] w fun e w' => e = .returned (.bool (passC c)) ∧ w' = w) := passes_any c
  have H : Hid (SpW w D d s) := h
  by_cases hp : passC c = true
  · have HE : Hid (easiC s c = some [c]) := by show _ = _; unfold easiC; rw [if_pos hp]
    have hb : IntKind.u8.wrap c = c := by have := pass_iff.1 hp; rw [IntKind.wrap_u8]; omega
    rw [hp] at HP
    clear h hp
    go_enter Tryd.func56, Tryd.ntmps56
    go_wp2_with fail
    refine (HP.out w).mono ?_
    rintro e w1 ⟨rfl, hw⟩
    subst hw
    go_wp2_with fail
    refine (one_any c _).mono ?_
    rintro e w2 ⟨rfl, b2⟩
    go_wp2
    go_ret2
    exact ⟨sh_of HE.out, b2⟩
  · have hpf : passC c = false := by simpa using hp
    rw [hpf] at HP
    by_cases h32 : c < 32
    · have HE : Hid (easiC s c = some [1, c]) := by show _ = _; unfold easiC; rw [if_neg hp, if_pos h32]
      have hb : IntKind.u8.wrap c = c := by rw [IntKind.wrap_u8]; omega
      have hm := no_more [1] [c] (by simp)
      clear h hp hpf
      go_enter Tryd.func56, Tryd.ntmps56
      go_wp2_with fail
      refine (HP.out w).mono ?_
      rintro e w1 ⟨rfl, hw⟩
      subst hw
      go_wp2_with fail
      refine (one_any 1 _).mono ?_
      rintro e w2 ⟨rfl, b2⟩
      go_wp2_with fail
      refine (one_any c _).mono ?_
      rintro e w3 ⟨rfl, b3⟩
      go_wp2
      rw [str_two]
      go_ret2
      exact ⟨sh_of HE.out, below_two b2 b3⟩
    · have h5 := h.dy
      have h6 := h.ac
      have hact := h.good.act
      have hok := wins_ok h.good hact
      have HA : Hid (∀ w : World, WinV w d 0 s.wins s.used → Calls Tryd.prog 70 #[.pointer (some ⟨d, 0, none⟩), .int .i64 (s.act : Int)] w fun e w' => e = .returned (.int .u32 (nth s.wins s.act)) ∧ w' = w) := fun w hw => by
        have := at_any d 0 (s.act : Int) s.wins s.used w hw
        rwa [atW_yes _ s.act hact] at this
      have HH : Hid (∀ w, Calls Tryd.prog 69 #[.int .u32 (nth s.wins s.act), .int .u32 c] w fun e w' => e = .returned (.bool (hasI (nth s.wins s.act) c)) ∧ w' = w) := fun w => holds_any (nth s.wins s.act) c w (by unfold offOK at hok; omega) (by unfold offOK at hok; omega) c0 (by omega)
      have HX : Hid (hasI (nth s.wins s.act) c = true → easiC s c = some [128 + (c - nth s.wins s.act)]) := fun hh => by unfold easiC; rw [if_neg hp, if_neg h32, if_pos hh]
      have HY : Hid (hasI (nth s.wins s.act) c = false → easiC s c = none) := fun hh => by unfold easiC; rw [if_neg hp, if_neg h32, if_neg (by rw [hh]; simp)]
      have HS : Hid (hasI (nth s.wins s.act) c = true → ∀ w, SpW w D d s → Calls Tryd.prog 71 #[.pointer (some ⟨D, 0, none⟩), .int .i64 (s.act : Int), .int .u32 c] w fun e w' => e = .returned (.string (Stp.strOf [128 + (c - nth s.wins s.act)])) ∧ Below w.heap.size w w') := fun hh w hw => show_any D d s s.act c w hw hact c0 hh
      have HW : Hid (SpW w D d s ∧ SpW w.drew D d s ∧ w.drew.cell? ⟨D, 5, none⟩ = some (.pointer (some ⟨d, 0, none⟩)) ∧ w.drew.cell? ⟨D, 6, none⟩ = some (.int .i64 s.act)) := ⟨h, h.below (Below.refl _ _).drew, h.dy, h.ac⟩
      obtain ⟨o, ho⟩ : ∃ o, nth s.wins s.act = o := ⟨_, rfl⟩
      rw [ho] at HA HH HX HY HS
      obtain ⟨a, ha⟩ : ∃ a, s.act = a := ⟨_, rfl⟩
      rw [ha] at HA HS HW
      clear h hp hpf hok ho hact ha H h5 h6
      go_enter Tryd.func56, Tryd.ntmps56
      go_wp2_with fail
      refine (HP.out w).mono ?_
      rintro e w1 ⟨rfl, hw⟩
      rw [hw]
      clear hw w1
      go_upto_region 5 with fail
      have hF := And.intro HW.out.2.2.1 HW.out.2.2.2
      go_region_held3 (fun w' => w'.cell? ⟨D, 5, none⟩ = some (.pointer (some ⟨d, 0, none⟩)) ∧ w'.cell? ⟨D, 6, none⟩ = some (.int .i64 a)) (exact hF) (first
        | (go_at_call 70; refine (HA.out _ HW.out.2.1.win).mono ?_; rintro e w5 ⟨rfl, rfl⟩)
        | (go_at_call 69; refine (HH.out _).mono ?_; rintro e w5 ⟨rfl, rfl⟩))
      have B1 : Below w.heap.size w w.drew := (Below.refl _ _).drew
      clear hF
      cases hh : hasI o c with
      | true =>
        have HE : Hid (easiC s c = some [128 + (c - o)]) := HX.out hh
        have HS2 := HS.out hh _ HW.out.2.1
        have h6 := HW.out.2.2.2
        clear hh HX HY HS HH HA
        go_wp2_with fail
        refine HS2.mono ?_
        rintro e w1 ⟨rfl, b1⟩
        go_wp2
        go_ret2
        exact ⟨sh_of HE.out, below_two B1 b1⟩
      | false =>
        have HE : Hid (easiC s c = none) := HY.out hh
        clear hh
        go_wp2
        go_ret2
        exact ⟨sh_no HE.out, B1⟩
theorem bool_or {a b : Bool} (h : a = b) : Ending.returned (.bool a) = .returned (.bool b) := by rw [h]
set_option maxHeartbeats 2000000 in
theorem easy_any (D d : Nat) (s : Cmp.ES) (c : Int) (w : World) (h : SpW w D d s) (c0 : 0 ≤ c) (c1 : c < 1114112) :
    Calls Tryd.prog 58 #[.pointer (some ⟨D, 0, none⟩), .int .u32 c] w fun e w' => e = .returned (.bool (easyC s c)) ∧ w' = w := by
  have HP : Hid (∀ w, Calls Tryd.prog 68 #[.int .u32 c] w fun e w' => e = .returned (.bool (passC c)) ∧ w' = w) := passes_any c
  have HF : Hid (Calls Tryd.prog 60 #[.pointer (some ⟨d, 0, none⟩), .int .u32 c] w fun e w' => e = .returned (.tuple #[.int .i64 (idxV (findL s.wins c)), .bool (idxB (findL s.wins c))]) ∧ w' = w) := find_any d 0 c s.wins s.used w h.win c0 (by omega)
  have h5 := h.dy
  have HE : Hid (easyC s c = (passC c || decide (c < 32) || idxB (findL s.wins c))) := rfl
  rw [HE.out]
  generalize idxV (findL s.wins c) = x at *
  generalize idxB (findL s.wins c) = y at *
  clear h HE
  go_enter Tryd.func58, Tryd.ntmps58
  go_wp2_with fail
  refine HF.out.mono ?_
  rintro e w1 ⟨rfl, hw⟩
  rw [hw]
  clear hw w1
  cases y with
  | true =>
    go_wp2
    go_ret
    exact ⟨bool_or (by simp), rfl⟩
  | false =>
    by_cases h32 : c < 32
    · go_wp2
      go_ret
      exact ⟨bool_or (by simp [h32]), rfl⟩
    · go_wp2_with fail
      refine (HP.out _).mono ?_
      rintro e w1 ⟨rfl, hw⟩
      rw [hw]
      clear hw w1
      go_wp2
      go_ret
      exact ⟨bool_or (by cases passC c <;> simp [h32]), rfl⟩
set_option maxHeartbeats 2000000 in
theorem soft_any (D d : Nat) (s : Cmp.ES) (c : Int) (w : World) (h : SpW w D d s) (c0 : 0 ≤ c) (c1 : c ≤ 1114112) :
    Calls Tryd.prog 59 #[.pointer (some ⟨D, 0, none⟩), .int .u32 c] w fun e w' => e = .returned (.bool (softC s (optI c))) ∧ w' = w := by
  by_cases hc : c = 1114112
  · subst hc
    clear h
    go_enter Tryd.func59, Tryd.ntmps59
    go_wp2
    go_ret
    exact ⟨bool_or rfl, rfl⟩
  · have HE : Hid (softC s (optI c) = easyC s c) := by show _ = _; unfold optI; rw [if_neg hc]; rfl
    have HY : Hid (∀ w, SpW w D d s → Calls Tryd.prog 58 #[.pointer (some ⟨D, 0, none⟩), .int .u32 c] w fun e w' => e = .returned (.bool (easyC s c)) ∧ w' = w) := fun w hw => easy_any D d s c w hw c0 (by omega)
    have H : Hid (SpW w D d s) := h
    rw [HE.out]
    clear h HE
    go_enter Tryd.func59, Tryd.ntmps59
    go_wp2_with fail
    refine (HY.out _ H.out).mono ?_
    rintro e w1 ⟨rfl, hw⟩
    rw [hw]
    clear hw w1
    go_wp2
    go_ret
    exact ⟨bool_or (by simp [hc]), rfl⟩
theorem and10 (u : Int) (h0 : 0 ≤ u) (h1 : u < 4294967296) : bits .and .u32 u 1023 = u % 1024 := by
  obtain ⟨m, rfl⟩ := Int.eq_ofNat_of_zero_le h0
  have := u32_and_nat m 1023 (by omega) (by omega)
  rw [show ((1023 : Nat) : Int) = 1023 from rfl] at this
  rw [this, nat_mask10]
  omega
theorem or_join (i : Nat) (x y : Int) (hi : i ≤ 32) (hx0 : 0 ≤ x) (hx : x % 2 ^ i = 0) (hx1 : x < 4294967296) (hy0 : 0 ≤ y) (hy : y < 2 ^ i) (hy1 : y < 4294967296) : bits .or .u32 x y = x + y :=
  bits_join .u32 32 (by decide) (fun n h0 h1 => by rw [IntKind.wrap_u32]; omega) i x y hx0 hx hx1 hy0 hy hy1
theorem good_uni {s : Cmp.ES} (h : GoodE s) (u : Bool) : GoodE ⟨s.wins, s.used, u, s.act⟩ := ⟨h.len, h.act, h.used, h.wins⟩
theorem unit_small {c : Int} (h : c < 65536) : big16 c = [c / 256, c % 256] := by unfold big16; rw [if_pos h]
set_option maxHeartbeats 4000000 in
set_option maxRecDepth 100000 in
theorem units_any (D d : Nat) (s : Cmp.ES) (c : Int) (w : World) (h : SpW w D d s) (c0 : 0 ≤ c) (c1 : c < 1114112) :
    Calls Tryd.prog 57 #[.pointer (some ⟨D, 0, none⟩), .int .u32 c] w fun e w' => e = .returned (.string (Stp.strOf ((if s.uni = true then [] else [15]) ++ unitsC c true))) ∧ SpW w' D d ⟨s.wins, s.used, true, s.act⟩ ∧ Chg (footP D d) w w' := by
  obtain ⟨A, hA⟩ : ∃ A : List Int, (if s.uni = true then [] else [15]) = A := ⟨_, rfl⟩
  have hAl : A.length ≤ 1 := by rw [← hA]; split <;> simp
  have H : Hid (SpW w D d s ∧ (if s.uni = true then [] else [15]) = A) := ⟨h, hA⟩
  have h7 := h.un
  have f7 := h.fr 7
  rw [hA]
  clear h hA
  go_enter Tryd.func57, Tryd.ntmps57
  go_upto_if 11 with fail
  go_cut [5] (fun o wc => o = .string (Stp.strOf A) ∧ SpW wc D d ⟨s.wins, s.used, true, s.act⟩ ∧ Chg (footP D d) w wc)
  case first =>
    cases hu : s.uni with
    | false =>
      have HA : Hid (A = [15]) := by show _ = _; rw [← H.out.2, hu, if_neg (by simp)]
      have HB : Hid (SpW w D d s ∧ s.uni = false) := ⟨H.out.1, hu⟩
      rw [hu] at h7
      clear hu H
      go_wp2_with fail
      refine (one_any 15 w).mono ?_
      rintro e w1 ⟨rfl, b1⟩
      have S1 := HB.out.1.below b1
      have h7' := S1.un
      rw [HB.out.2] at h7'
      have f7' := S1.fr 7
      have HS1 : Hid (SpW w1 D d s ∧ Below w.heap.size w w1) := ⟨S1, b1⟩
      clear S1 b1 h7 f7
      go_wp2_with fail
      go_meet
      case rel =>
        obtain ⟨S1, b1⟩ := HS1.out
        have hc := chg_setCell w1 D 7 (.bool true)
        have hcc : Chg (fun k j => k = D ∧ 6 ≤ j ∧ j ≤ 7) w1 (w1.setCell ⟨D, 7, none⟩ (.bool true)) := hc.mono (fun k j _ h => ⟨h.1, by omega, by omega⟩)
        exact ⟨by rw [HA.out], S1.cells hcc (hc.cellAt S1.ac (by omega)) (World.cell?_setCell_same _ _ _ S1.un) (good_uni S1.good true), (chg_of_below b1 (Nat.le_refl _) _).trans2 hcc (fun _ _ _ h => h) (fun k j _ h => .inl h)⟩
    | true =>
      have HA : Hid (A = []) := by show _ = _; rw [← H.out.2, hu, if_pos rfl]
      have HB : Hid (SpW w D d ⟨s.wins, s.used, true, s.act⟩) := by
        have := H.out.1
        obtain ⟨W, U, u, a⟩ := s
        simp only [] at hu
        subst hu
        exact this
      clear hu H
      go_wp2_with fail
      go_meet
      case rel => exact ⟨by rw [HA.out]; rfl, HB.out, Chg.refl _ _⟩
  case rest =>
    obtain ⟨rfl, hS, hC⟩ := hcut
    have HS : Hid (SpW wc D d ⟨s.wins, s.used, true, s.act⟩ ∧ Chg (footP D d) w wc) := ⟨hS, hC⟩
    clear hS hC H h7 f7
    have hfin : ∀ w', Below wc.heap.size wc w' → SpW w' D d ⟨s.wins, s.used, true, s.act⟩ ∧ Chg (footP D d) w w' := fun w' hb => ⟨HS.out.1.below hb, HS.out.2.trans (chg_of_below hb (Nat.le_refl _) _)⟩
    have HFIN : Hid (∀ w', Below wc.heap.size wc w' → SpW w' D d ⟨s.wins, s.used, true, s.act⟩ ∧ Chg (footP D d) w w') := hfin
    clear hfin
    go_wp2_with fail
    refine (clashes_any c wc).mono ?_
    rintro e w1 ⟨rfl, hw⟩
    rw [hw]
    clear hw w1
    cases ht : tagC c with
    | true =>
      have hu : c < 65536 := by unfold tagC at ht; simp only [decide_eq_true_eq] at ht; omega
      have HO : Hid (unitsC c true = [240] ++ [c / 256, c % 256]) := by show _ = _; unfold unitsC; rw [if_pos ⟨rfl, ht⟩, unit_small hu]
      have g1 := no_more A [240] (by simp; omega)
      have g2 := no_more (A ++ [240]) [c / 256, c % 256] (by simp; omega)
      rw [strOf_append] at g2
      clear ht
      go_wp2_with fail
      refine (one_any 240 wc).mono ?_
      rintro e w1 ⟨rfl, b1⟩
      go_wp2_with fail
      refine (unit_any c w1 c0 hu).mono ?_
      rintro e w2 ⟨rfl, b2⟩
      go_wp2
      go_ret
      exact ⟨ret_str (by rw [HO.out, strOf_append, strOf_append, ByteArray.append_assoc]), HFIN.out _ (below_two b1 b2)⟩
    | false =>
      by_cases hu : c < 65536
      · have HO : Hid (unitsC c true = [c / 256, c % 256]) := by show _ = _; unfold unitsC; rw [if_neg (by rw [ht]; simp), unit_small hu]; rfl
        have g1 := no_more A [c / 256, c % 256] (by simp; omega)
        clear ht
        go_wp2_with fail
        refine (unit_any c wc c0 hu).mono ?_
        rintro e w2 ⟨rfl, b2⟩
        go_wp2
        go_ret
        exact ⟨ret_str (by rw [HO.out, strOf_append]), HFIN.out _ b2⟩
      · have e0 : IntKind.u32.wrap (c - 65536) = c - 65536 := by rw [IntKind.wrap_u32]; omega
        have e1 : bits .and .u32 (c - 65536) 1023 = (c - 65536) % 1024 := and10 _ (by omega) (by omega)
        have e2 : bits .or .u32 55296 ((c - 65536) / 1024) = 55296 + (c - 65536) / 1024 := or_join 10 _ _ (by decide) (by omega) (by decide) (by omega) (by omega) (by omega) (by omega)
        have e3 : bits .or .u32 56320 ((c - 65536) % 1024) = 56320 + (c - 65536) % 1024 := or_join 10 _ _ (by decide) (by omega) (by decide) (by omega) (by omega) (by omega) (by omega)
        obtain ⟨x, hx⟩ : ∃ x, 55296 + (c - 65536) / 1024 = x := ⟨_, rfl⟩
        obtain ⟨y, hy⟩ : ∃ y, 56320 + (c - 65536) % 1024 = y := ⟨_, rfl⟩
        have HO : Hid (unitsC c true = [x / 256, x % 256] ++ [y / 256, y % 256]) := by show _ = _; unfold unitsC big16; rw [if_neg (by rw [ht]; simp), if_neg hu, ← hx, ← hy]; rfl
        have hx0 : 0 ≤ x ∧ x < 65536 := by omega
        have hy0 : 0 ≤ y ∧ y < 65536 := by omega
        have g1 := no_more A [x / 256, x % 256] (by simp; omega)
        have g2 := no_more (A ++ [x / 256, x % 256]) [y / 256, y % 256] (by simp; omega)
        rw [strOf_append] at g2
        rw [hx] at e2
        rw [hy] at e3
        clear ht
        go_wp2_with fail
        refine (unit_any x wc hx0.1 hx0.2).mono ?_
        rintro e w1 ⟨rfl, b1⟩
        go_wp2_with fail
        refine (unit_any y w1 hy0.1 hy0.2).mono ?_
        rintro e w2 ⟨rfl, b2⟩
        go_wp2
        go_ret
        exact ⟨ret_str (by rw [HO.out, strOf_append, strOf_append, ByteArray.append_assoc]), HFIN.out _ (below_two b1 b2)⟩
end CP
end Go.Proofs.YtpglmfhlgaliaaaDoor
