/-
  Contracts of the decoder's step and of its End, as walks over the translated text. The condition: its memory is there and may be written; the table is as the program's text lays it.
-/
import Derived.Test.YtjbgcclbomimiaaDoorM8Dec
namespace Go.Proofs.YtjbgcclbomimiaaDoor
open Go.ChangeShapes Go.WideShapes Go.ChangeAt Go.RowKit
namespace M8
open Bas Sca Stp Scn Cod
set_option linter.unusedVariables false
variable {π : Par}

theorem goN_pos (r : List Int) (h : ∀ x ∈ r, 160 ≤ x ∧ x ≤ 191) (a : Int) (ha : 0 ≤ a) : 0 ≤ goN a r := by
  induction r generalizing a with
  | nil => exact ha
  | cons y r ih => exact ih (fun x hx => h x (by simp [hx])) _ (by have := h y (by simp); omega)
theorem lead_le {x : Int} (h : 0 ≤ x) : leadN (rowB x) ≤ x := by
  have := rowB_iff x
  have hle := rowB_le x
  have : rowB x = 0 ∨ rowB x = 1 ∨ rowB x = 2 ∨ rowB x = 3 ∨ rowB x = 4 := by omega
  rcases this with e | e | e | e | e <;> rw [e] <;> simp [leadN] <;> omega
theorem bits_pos {s : List Int} (h : begN s = true) (hb : ∀ x ∈ s, 0 ≤ x ∧ x < 256) : 0 ≤ bitsN s := by
  match s with
  | [] => simp [bitsN]
  | a :: r => exact goN_pos r (beg_iff.1 h).1 _ (by have := lead_le (hb a (by simp)).1; omega)
theorem bits_small {s : List Int} (h : begN s = true) (hb : ∀ x ∈ s, 0 ≤ x ∧ x < 256) : 0 ≤ bitsN s ∧ bitsN s * p32 (lackN s) ≤ 1114111 ∧ bitsN s ≤ 1114111 := by
  have h0 := bits_pos h hb
  have h1 := (open_iff.1 (beg_iff.1 h).2.2).1.1
  have h2 := (p32_pow (lackN_le s)).2.1
  refine ⟨h0, h1, ?_⟩
  have : bitsN s * 1 ≤ bitsN s * p32 (lackN s) := Int.mul_le_mul_of_nonneg_left h2 h0
  omega
theorem p32_dec {k : Nat} (h : 1 ≤ k) (h4 : k ≤ 4) : p32 k = 32 * p32 (k - 1) ∧ 1 ≤ p32 (k - 1) ∧ p32 (k - 1) ≤ 32768 := by
  have : k = 1 ∨ k = 2 ∨ k = 3 ∨ k = 4 := by omega
  rcases this with rfl | rfl | rfl | rfl <;> decide
theorem lack_one {s : List Int} (hg : Good π s) (hs : s ≠ []) : 1 ≤ lackN s ∧ lackN s ≤ 4 := by
  have := hg.lack.2 hs
  have := lackN_le s
  omega
/-- The bits of a byte more are small. -/
theorem bits_bd {s : List Int} {x : Int} (hg : Good π s) (hb : ∀ y ∈ s, 0 ≤ y ∧ y < 256) (hx : 0 ≤ x ∧ x < 256) (hc : s = [] ∨ cont x = true) : 0 ≤ bitsN (s ++ [x]) ∧ bitsN (s ++ [x]) * p32 (lackN (s ++ [x])) < 16777216 := by
  by_cases hs : s = []
  · subst hs
    show 0 ≤ bitsN [x] ∧ bitsN [x] * p32 (rowB x - 0) < 16777216
    have hl := lead_le hx.1
    have hr := rowB_iff x
    have hle := rowB_le x
    refine ⟨by simp only [bitsN, goN]; omega, ?_⟩
    have : rowB x = 0 ∨ rowB x = 1 ∨ rowB x = 2 ∨ rowB x = 3 ∨ rowB x = 4 := by omega
    rcases this with e | e | e | e | e <;> rw [bits_as e, e] <;> simp [goN, leadN, p32] <;> omega
  · have hc' := cont_iff.1 (hc.resolve_left hs)
    rcases hg with h | ⟨h, hlen⟩
    · exact absurd h hs
    · obtain ⟨h0, h1, -⟩ := bits_small h hb
      have hk := lack_one (π := π) (.inr ⟨h, hlen⟩) hs
      obtain ⟨e, e1, e2⟩ := p32_dec hk.1 hk.2
      rw [bitsN_snoc hs, lackN_snoc hs]
      obtain ⟨m, hm⟩ : ∃ m, bitsN s = m := ⟨_, rfl⟩
      obtain ⟨P, hP⟩ : ∃ P, p32 (lackN s - 1) = P := ⟨_, rfl⟩
      rw [hm] at h0 h1 ⊢
      rw [hP] at e e1 e2 ⊢
      rw [e] at h1
      refine ⟨by omega, ?_⟩
      have h3 : (x - 160) * P ≤ 31 * 32768 := Int.mul_le_mul (by omega) e2 (by omega) (by omega)
      have h4 : (m * 32 + (x - 160)) * P = m * (32 * P) + (x - 160) * P := by rw [Int.add_mul, Int.mul_assoc]
      omega
/-- Is a byte more right? -/
theorem beg_snoc {s : List Int} {x : Int} (hg : Good π s) (hc : s = [] ∨ cont x = true) : begN (s ++ [x]) = openP (bitsN (s ++ [x])) (rowN (s ++ [x])) (lackN (s ++ [x])) := by
  by_cases hs : s = []
  · subst hs
    simp [begN]
  · rcases hg with h | ⟨h, hlen⟩
    · exact absurd h hs
    · have hc' := hc.resolve_left hs
      unfold begN
      rw [rowN_snoc hs]
      have h1 : (s ++ [x]).tail.all cont = true := by
        match s, hs with
        | a :: r, _ =>
          have := (beg_iff.1 h).1
          simp only [List.cons_append, List.tail_cons, List.all_append, List.all_cons, List.all_nil, Bool.and_true, Bool.and_eq_true]
          exact ⟨List.all_eq_true.2 (fun y hy => cont_iff.2 (this y hy)), hc'⟩
      have h2 : decide ((s ++ [x]).length ≤ rowN s + 1) = true := decide_eq_true (by rw [List.length_append]; simp; omega)
      rw [h1, h2]; simp
theorem beg_wrong {s : List Int} {x : Int} (hs : s ≠ []) (hc : cont x = false) : begN (s ++ [x]) = false := by
  unfold begN
  match s, hs with
  | a :: r, _ => simp [hc]
/-- A part in memory. -/
structure PV (w : World) (P : Nat) (m n k : Int) : Prop where
  c0 : w.cell? ⟨P, 0, none⟩ = some (.int .u32 m)
  c1 : w.cell? ⟨P, 1, none⟩ = some (.int .i64 n)
  c2 : w.cell? ⟨P, 2, none⟩ = some (.int .i64 k)
  f0 : w.frozen? ⟨P, 0, none⟩ = false
  f1 : w.frozen? ⟨P, 1, none⟩ = false
  f2 : w.frozen? ⟨P, 2, none⟩ = false
theorem PV.chg {S : Nat → Nat → Prop} {w w' : World} {P : Nat} {m n k : Int} (h : PV w P m n k) (hc : Chg S w w') (hS : ∀ j, ¬ S P j) : PV w' P m n k :=
  ⟨hc.cellAt h.c0 (hS _), hc.cellAt h.c1 (hS _), hc.cellAt h.c2 (hS _), hc.freeAt h.c0 h.f0, hc.freeAt h.c1 h.f1, hc.freeAt h.c2 h.f2⟩
theorem PV.below {w w' : World} {P : Nat} {m n k : Int} (h : PV w P m n k) (hb : Below w.heap.size w w') : PV w' P m n k :=
  h.chg (chg_of_below hb (Nat.le_refl _) (fun _ _ => False)) (fun _ h => h)
theorem PV.new (w : World) (m n k : Int) (t : TypeId) : PV (w.alloc (.cells #[.int .u32 m, .int .i64 n, .int .i64 k] t)) w.heap.size m n k := by
  refine ⟨?_, ?_, ?_, ?_, ?_, ?_⟩
  all_goals first | (rw [World.cell?_alloc_new]; rfl) | simp
theorem set3_chg (w : World) (P : Nat) (x y z : Value) : Chg (fun k _ => k = P) w (((w.setCell ⟨P, 0, none⟩ x).setCell ⟨P, 1, none⟩ y).setCell ⟨P, 2, none⟩ z) :=
  ((chg_setCell w P 0 x).trans2 (chg_setCell _ P 1 y) (fun k j _ h => h.1) (fun k j _ h => h.1)).trans2 (chg_setCell _ P 2 z) (fun k j _ h => h) (fun k j _ h => h.1)
theorem PV.set {w : World} {P : Nat} {m n k : Int} (h : PV w P m n k) (m' n' k' : Int) : PV (((w.setCell ⟨P, 0, none⟩ (.int .u32 m')).setCell ⟨P, 1, none⟩ (.int .i64 n')).setCell ⟨P, 2, none⟩ (.int .i64 k')) P m' n' k' := by
  have hc := set3_chg w P (.int .u32 m') (.int .i64 n') (.int .i64 k')
  have e0 : (w.setCell ⟨P, 0, none⟩ (.int .u32 m')).cell? ⟨P, 0, none⟩ = some (.int .u32 m') := World.cell?_setCell_same _ _ _ h.c0
  have e1 : (w.setCell ⟨P, 0, none⟩ (.int .u32 m')).cell? ⟨P, 1, none⟩ = some (.int .i64 n) := (chg_setCell w P 0 _).cellAt h.c1 (fun hh => by have := hh.2; omega)
  have e2 : (w.setCell ⟨P, 0, none⟩ (.int .u32 m')).cell? ⟨P, 2, none⟩ = some (.int .i64 k) := (chg_setCell w P 0 _).cellAt h.c2 (fun hh => by have := hh.2; omega)
  have g0 := (chg_setCell (w.setCell ⟨P, 0, none⟩ (.int .u32 m')) P 1 (.int .i64 n')).cellAt e0 (fun hh => by have := hh.2; omega)
  have g1 : ((w.setCell ⟨P, 0, none⟩ (.int .u32 m')).setCell ⟨P, 1, none⟩ (.int .i64 n')).cell? ⟨P, 1, none⟩ = some (.int .i64 n') := World.cell?_setCell_same _ _ _ e1
  have g2 := (chg_setCell (w.setCell ⟨P, 0, none⟩ (.int .u32 m')) P 1 (.int .i64 n')).cellAt e2 (fun hh => by have := hh.2; omega)
  exact ⟨(chg_setCell _ P 2 _).cellAt g0 (fun hh => by have := hh.2; omega), (chg_setCell _ P 2 _).cellAt g1 (fun hh => by have := hh.2; omega), World.cell?_setCell_same _ _ _ g2, hc.freeAt h.c0 h.f0, hc.freeAt h.c1 h.f1, hc.freeAt h.c2 h.f2⟩
set_option maxHeartbeats 4000000 in
set_option maxRecDepth 100000 in
theorem take_any (b : Nat) (p q : Int) (en : Bool) (s l : List Int) (v u : Value) (x : Int) (w : World) (h : DecV π w b p q en s l v u) (hx : 0 ≤ x ∧ x < 256) (hlen : l.length ≤ 1000000) :
    Calls Tryd.prog 62 #[.pointer (some ⟨b, 0, none⟩), .int .u8 x] w fun e w' => ∃ v' u', e = .returned (.bool (stepU π s x).isSome) ∧ DecV π w' b p q en (stN π s x) (l ++ toldN π s x) v' u' ∧ Chg (fun k _ => footD b v u k) w w' ∧ Mov w v v' ∧ Mov w u u' := by
  have HB : Hid (∀ y ∈ s ++ [x], 0 ≤ y ∧ y < 256) := byte_snoc h.byte hx
  have H : Hid (DecV π w b p q en s l v u) := h
  have HX : Hid (0 ≤ x ∧ x < 256) := hx
  have hlt := h.lt
  obtain ⟨m1, hm1⟩ : ∃ m, bitsN [x] = m := ⟨_, rfl⟩
  obtain ⟨n1, hn1⟩ : ∃ n, rowN [x] = n := ⟨_, rfl⟩
  obtain ⟨k1, hk1⟩ : ∃ k, lackN [x] = k := ⟨_, rfl⟩
  have hF := first_any x w hx h.tabs
  rw [hm1, hn1, hk1] at hF
  obtain ⟨m, hm⟩ : ∃ m, bitsN (s ++ [x]) = m := ⟨_, rfl⟩
  obtain ⟨n, hn⟩ : ∃ n, rowN (s ++ [x]) = n := ⟨_, rfl⟩
  obtain ⟨k, hk⟩ : ∃ k, lackN (s ++ [x]) = k := ⟨_, rfl⟩
  have HM : Hid (bitsN (s ++ [x]) = m ∧ rowN (s ++ [x]) = n ∧ lackN (s ++ [x]) = k) := ⟨hm, hn, hk⟩
  have HM1 : Hid (bitsN [x] = m1 ∧ rowN [x] = n1 ∧ lackN [x] = k1) := ⟨hm1, hn1, hk1⟩
  have HF : Hid (Calls Tryd.prog 81 #[.int .u8 x] w fun e w' => e = .returned (.agg #[.int .u32 m1, .int .i64 n1, .int .i64 k1]) ∧ Below w.heap.size w w') := hF
  have hc6 := h.lack
  clear hm1 hn1 hk1 hF
  by_cases hs : s = []
  · have hbd := bits_bd h.good h.byte hx (.inl hs)
    have hbs := beg_snoc (x := x) h.good (.inl hs)
    rw [hm, hk] at hbd
    rw [hm, hn, hk] at hbs
    have HBD : Hid ((0 ≤ m ∧ m * p32 k < 16777216) ∧ k ≤ 4 ∧ n ≤ 4) := ⟨hbd, by rw [← hk]; exact lackN_le _, by rw [← hn]; exact rowN_le _⟩
    have HBS : Hid (begN (s ++ [x]) = openP m n k) := hbs
    have HS : Hid (m1 = m ∧ n1 = n ∧ k1 = k) := by
      obtain ⟨e1, e2, e3⟩ := HM1.out
      subst hs
      exact ⟨e1.symm.trans hm, e2.symm.trans hn, e3.symm.trans hk⟩
    have hc6 : w.cell? ⟨b, 6, none⟩ = some (.int .i64 0) := by rw [h.lack, hs]; rfl
    clear h hx hm hn hk hbd hbs hs
    go_enter Tryd.func62, Tryd.ntmps62
    go_wp2_with fail
    refine HF.out.mono ?_
    rintro e w2 ⟨rfl, b2⟩
    rw [HS.out.1, HS.out.2.1, HS.out.2.2]
    have hc6 := cell_later b2 hc6
    have hlt2 : b < w2.heap.size := by have := b2.size; omega
    obtain ⟨P, hP⟩ : ∃ P, w2.heap.size = P := ⟨_, rfl⟩
    have HP3 : Hid (PV (w2.alloc (.cells #[.int .u32 m, .int .i64 n, .int .i64 k] 45)) P m n k ∧ w.heap.size ≤ P) := ⟨by rw [← hP]; exact PV.new _ _ _ _ _, by have := b2.size; omega⟩
    have hb3 := (Below.refl w2.heap.size w2).alloc (Nat.le_refl _) (.cells #[.int .u32 m, .int .i64 n, .int .i64 k] 45)
    have HD3 : Hid (DecV π (w2.alloc (.cells #[.int .u32 m, .int .i64 n, .int .i64 k] 45)) b p q en s l v u ∧ Below w.heap.size w (w2.alloc (.cells #[.int .u32 m, .int .i64 n, .int .i64 k] 45))) := ⟨(H.out.below b2).below hb3, below_two b2 hb3⟩
    have HPe : Hid (w2.heap.size = P) := hP
    clear b2 hb3 hP
    go_wp2_with fail
    rw [HPe.out]
    obtain ⟨w3, hw3⟩ : ∃ w3, w2.alloc (.cells #[.int .u32 m, .int .i64 n, .int .i64 k] 45) = w3 := ⟨_, rfl⟩
    rw [hw3] at HP3 HD3 ⊢
    clear hw3 hlt2 hc6 HPe
    refine (open_any m n k w3 HD3.out.1.tabs HBD.out.1 HBD.out.2.1 HBD.out.2.2).mono ?_
    rintro e w4 ⟨rfl, b4⟩
    have HP4 : Hid (PV w4 P m n k ∧ w.heap.size ≤ P) := ⟨HP3.out.1.below b4, HP3.out.2⟩
    have HD4 : Hid (DecV π w4 b p q en s l v u ∧ Below w.heap.size w w4) := ⟨HD3.out.1.below b4, below_two HD3.out.2 b4⟩
    clear b4 HP3 HD3
    obtain ⟨t, ht⟩ : ∃ t, openP m n k = t := ⟨_, rfl⟩
    rw [ht]
    have HT : Hid (begN (s ++ [x]) = t) := HBS.out.trans ht
    clear ht
    cases t with
    | false =>
      have HST : Hid (stepU π s x = none) := step_no HT.out
      go_wp2
      go_ret
      exact ⟨v, u, by rw [HST.out]; rfl, by simpa [stN, toldN, HST.out] using HD4.out.1, chg_of_below HD4.out.2 (Nat.le_refl _) _, mov_refl _ _, mov_refl _ _⟩
    | true =>
      have p2 := HP4.out.1.c2
      by_cases hk0 : k = 0
      · subst hk0
        have HST : Hid (stepU π s x = some ([], [m])) := by show _ = _; rw [step_last HT.out HM.out.2.2, HM.out.1]
        go_upto_region 9 with fail
        have hF : w4.drew.cell? ⟨P, 0, none⟩ = some (.int .u32 m) := by rw [World.cell?_drew]; exact HP4.out.1.c0
        have hB7 : Below w4.heap.size w4 (w4.drew.alloc (.cells #[.int .u32 m] 43)) := (Below.refl _ _).drew.alloc (by simp) _
        have HD7 : Hid (DecV π (w4.drew.alloc (.cells #[.int .u32 m] 43)) b p q en s l v u ∧ Below w.heap.size w (w4.drew.alloc (.cells #[.int .u32 m] 43)) ∧ PV (w4.drew.alloc (.cells #[.int .u32 m] 43)) P m n 0) := ⟨HD4.out.1.below hB7, below_two HD4.out.2 hB7, HP4.out.1.below hB7⟩
        have HPN : Hid (∀ j, ¬ footR b 3 v P j) := fun j hh => by
          have h1 := H.out.lt
          have h2 := HP4.out.2
          rcases hh with hh | hh
          · omega
          · have := H.out.ltV hh; omega
        clear hB7
        go_region_held3 (fun w' => w'.cell? ⟨P, 0, none⟩ = some (.int .u32 m)) (first | exact hF | exact cell_later ((Below.refl _ _).alloc (Nat.le_refl _) _) hF) (first
          | (go_at_call 84; refine (hold_any b 3 v l [m] _ 1 1 _ ?_ ?_ rfl ?_ ?_).mono ?_; exact HD7.out.1.row; exact row_new .u32 _ [m] _ _ (by simp); (intro h; cases h); (simp; omega); rintro e w8 ⟨v', rfl, hr8, hc8, hm8⟩; have hF := hc8.cellAt HD7.out.2.2.c0 (HPN.out 0)))
        have D8 := HD7.out.1.hold hr8 hc8 hm8
        have P8 := HD7.out.2.2.chg hc8 HPN.out
        have HD8 : Hid (DecV π w8 b p q en s (l ++ [m]) v' u ∧ Chg (fun k _ => footD b v u k) w w8 ∧ Mov w v v' ∧ PV w8 P m n 0 ∧ w.heap.size ≤ P ∧ ∀ g, footD b v' u g → g ≠ P) :=
          ⟨D8, (chg_of_below HD7.out.2.1 (Nat.le_refl _) _).trans2 hc8 (fun _ _ _ h => h) (fun k j _ h => by
            rcases h with h | h
            · exact .inl h.1
            · exact .inr (.inl h)), mov_trans (mov_refl w v) hm8 HD7.out.2.1.size, P8, HP4.out.2, fun g hg e => by
            have h1 := H.out.lt
            have h2 := HP4.out.2
            have h3 := World.block_lt_of_cell? _ _ HD7.out.2.2.c0
            rcases hg with hg | hg | hg
            · omega
            · rcases hm8 g hg with hg | hg
              · have := H.out.ltV hg; omega
              · have h4 : P < (w4.drew.alloc (.cells #[.int .u32 m] 43)).heap.size := h3
                rw [e] at hg; exact absurd (Nat.lt_of_lt_of_le h4 hg) (Nat.lt_irrefl _)
            · rw [H.out.u0] at hg; simp [Value.ownBlock] at hg⟩
        obtain ⟨q0, q1, q2, g0, g1, g2⟩ := P8
        have hc4 := D8.num
        have hc5 := D8.rown
        have hc6 := D8.lack
        have hf4 := D8.f4
        have hf5 := D8.f5
        have hf6 := D8.f6
        have hPb : P ≠ b := by have := H.out.lt; have := HP4.out.2; omega
        clear hr8 hc8 hm8 D8 hF HD7 HPN p2 HD4 HP4
        go_wp2
        go_ret
        have hc9 := set3_chg w8 P (.int .u32 0) (.int .i64 0) (.int .i64 0)
        have D9 := (HD8.out.1.chg hc9 (fun k j hf hk => HD8.out.2.2.2.2.2 k hf hk) (fun j hk => by have := HD8.out.2.2.2.2.1; omega)).put (s' := []) (m := 0) (n := 0) (k := 0) rfl rfl rfl (good_nil π) (by simp)
        have C9 : Chg (fun k _ => footD b v u k) w (((w8.setCell ⟨P, 0, none⟩ (.int .u32 0)).setCell ⟨P, 1, none⟩ (.int .i64 0)).setCell ⟨P, 2, none⟩ (.int .i64 0)) := HD8.out.2.1.trans2 hc9 (fun _ _ _ h => h) (fun k j hk h => by have := HD8.out.2.2.2.2.1; omega)
        refine ⟨v', u, by rw [HST.out]; rfl, by simpa [stN, toldN, HST.out] using D9, C9.trans2 (put_chg _ b _ _ _) (fun _ _ _ h => h) (fun k j _ h => .inl h), HD8.out.2.2.1, mov_refl _ _⟩
      · have HST : Hid (stepU π s x = some (s ++ [x], []) ∧ Good π (s ++ [x])) := by
          have e := step_mid (π := π) HT.out (by rw [HM.out.2.2]; exact hk0)
          refine ⟨e, ?_⟩
          rcases step_cases H.out.good H.out.byte HX.out e with ⟨_, h⟩ | ⟨c, h, _⟩
          · exact h
          · simp at h
        obtain ⟨q0, q1, q2, g0, g1, g2⟩ := HP4.out.1
        have hc4 := HD4.out.1.num
        have hc5 := HD4.out.1.rown
        have hc6 := HD4.out.1.lack
        have hf4 := HD4.out.1.f4
        have hf5 := HD4.out.1.f5
        have hf6 := HD4.out.1.f6
        have hk0' : ((k : Int) == 0) = false := by simp; omega
        clear p2
        go_wp2
        go_ret
        have D9 := HD4.out.1.put (s' := s ++ [x]) (m := m) (n := n) (k := k) HM.out.1.symm (by rw [HM.out.2.1]) (by rw [HM.out.2.2]) HST.out.2 HB.out
        refine ⟨v, u, by rw [HST.out.1]; rfl, by simpa [stN, toldN, HST.out.1] using D9, (chg_of_below HD4.out.2 (Nat.le_refl _) _).trans2 (put_chg w4 b _ _ _) (fun _ _ _ h => h) (fun k j _ h => .inl h), mov_refl _ _, mov_refl _ _⟩
  · obtain ⟨hk1, hk4⟩ := lack_one h.good hs
    have hc4 := h.num
    have hc5 := h.rown
    obtain ⟨m0, hm0⟩ : ∃ m, bitsN s = m := ⟨_, rfl⟩
    obtain ⟨n0, hn0⟩ : ∃ n, rowN s = n := ⟨_, rfl⟩
    obtain ⟨k0, hk0⟩ : ∃ k, lackN s = k := ⟨_, rfl⟩
    have hsm : 0 ≤ m0 ∧ m0 < 16777216 := by
      rcases h.good with h' | h'
      · exact absurd h' hs
      · have := bits_small h'.1 h.byte; rw [hm0] at this; omega
    rw [hm0] at hc4
    rw [hn0] at hc5
    rw [hk0] at hc6 hk1 hk4
    have hlg : (k0 : Int) > 0 := by omega
    obtain ⟨c, hc⟩ : ∃ c, cont x = c := ⟨_, rfl⟩
    cases c with
    | false =>
      have HST : Hid (stepU π s x = none) := step_no (beg_wrong hs hc)
      have hnx : (bits .andNot .u8 x 31 == 160) = false := by
        rw [not5 hx, beq_eq_false_iff_ne]
        intro e
        have : cont x = true := cont_iff.2 (by omega)
        rw [hc] at this; cases this
      clear h hx hm hn hk hs hc hk1 hk4 hsm hm0 hn0 hk0
      go_enter Tryd.func62, Tryd.ntmps62
      go_wp2_with fail
      refine HF.out.mono ?_
      rintro e w2 ⟨rfl, b2⟩
      have hc6 := cell_later b2 hc6
      have hlt2 : b < w2.heap.size := by have := b2.size; omega
      have hb3 := (Below.refl w2.heap.size w2).alloc (Nat.le_refl _) (.cells #[.int .u32 m1, .int .i64 n1, .int .i64 k1] 45)
      have HD3 : Hid (DecV π (w2.alloc (.cells #[.int .u32 m1, .int .i64 n1, .int .i64 k1] 45)) b p q en s l v u ∧ Below w.heap.size w (w2.alloc (.cells #[.int .u32 m1, .int .i64 n1, .int .i64 k1] 45))) := ⟨(H.out.below b2).below hb3, below_two b2 hb3⟩
      clear b2 hb3
      go_wp2
      go_ret
      exact ⟨v, u, by rw [HST.out]; rfl, by simpa [stN, toldN, HST.out] using HD3.out.1, chg_of_below HD3.out.2 (Nat.le_refl _) _, mov_refl _ _, mov_refl _ _⟩
    | true =>
      have hcx := cont_iff.1 hc
      have hnx : (bits .andNot .u8 x 31 == 160) = true := by
        rw [not5 hx, beq_iff_eq]; omega
      have hbd := bits_bd h.good h.byte hx (.inr hc)
      have hbs := beg_snoc (x := x) h.good (.inr hc)
      rw [hm, hk] at hbd
      rw [hm, hn, hk] at hbs
      have HBD : Hid ((0 ≤ m ∧ m * p32 k < 16777216) ∧ k ≤ 4 ∧ n ≤ 4) := ⟨hbd, by rw [← hk]; exact lackN_le _, by rw [← hn]; exact rowN_le _⟩
      have HBS : Hid (begN (s ++ [x]) = openP m n k) := hbs
      have HW : Hid ((160 ≤ x ∧ x ≤ 191) ∧ (0 ≤ m0 ∧ m0 < 16777216) ∧ (1 ≤ k0 ∧ k0 ≤ 4)) := ⟨hcx, hsm, hk1, hk4⟩
      have HS : Hid (m0 * 32 + (x - 160) = m ∧ n0 = n ∧ k0 - 1 = k) := by
        rw [bitsN_snoc hs] at hm
        rw [rowN_snoc hs] at hn
        rw [lackN_snoc hs] at hk
        exact ⟨by rw [← hm0]; exact hm, by rw [← hn0]; exact hn, by rw [← hk0]; exact hk⟩
      clear h hx hm hn hk hs hc hk1 hk4 hsm hm0 hn0 hk0 hbd hbs hcx
      go_enter Tryd.func62, Tryd.ntmps62
      go_wp2_with fail
      refine HF.out.mono ?_
      rintro e w2 ⟨rfl, b2⟩
      have hc4 := cell_later b2 hc4
      have hc5 := cell_later b2 hc5
      have hc6 := cell_later b2 hc6
      have hlt2 : b < w2.heap.size := by have := b2.size; omega
      obtain ⟨P, hP⟩ : ∃ P, w2.heap.size = P := ⟨_, rfl⟩
      have HP2 : Hid (PV (w2.alloc (.cells #[.int .u32 m1, .int .i64 n1, .int .i64 k1] 45)) P m1 n1 k1 ∧ w.heap.size ≤ P) := ⟨by rw [← hP]; exact PV.new _ _ _ _ _, by have := b2.size; omega⟩
      have hb3 := (Below.refl w2.heap.size w2).alloc (Nat.le_refl _) (.cells #[.int .u32 m1, .int .i64 n1, .int .i64 k1] 45)
      have HD2 : Hid (DecV π (w2.alloc (.cells #[.int .u32 m1, .int .i64 n1, .int .i64 k1] 45)) b p q en s l v u ∧ Below w.heap.size w (w2.alloc (.cells #[.int .u32 m1, .int .i64 n1, .int .i64 k1] 45))) := ⟨(H.out.below b2).below hb3, below_two b2 hb3⟩
      have HPe : Hid (w2.heap.size = P) := hP
      clear b2 hb3 hP
      go_wp2_with fail
      rw [HPe.out]
      obtain ⟨w2a, hw2a⟩ : ∃ w3, w2.alloc (.cells #[.int .u32 m1, .int .i64 n1, .int .i64 k1] 45) = w3 := ⟨_, rfl⟩
      rw [hw2a] at HP2 HD2 ⊢
      clear hw2a hlt2 hc4 hc5 hc6 HPe
      refine (with_any m0 x n0 k0 w2a HW.out.1 HW.out.2.1 HW.out.2.2).mono ?_
      rintro e w2b ⟨rfl, b2b⟩
      rw [HS.out.1, HS.out.2.1, HS.out.2.2]
      have HP2b : Hid (PV w2b P m1 n1 k1) := HP2.out.1.below b2b
      have HD2b : Hid (DecV π w2b b p q en s l v u ∧ Below w.heap.size w w2b) := ⟨HD2.out.1.below b2b, below_two HD2.out.2 b2b⟩
      obtain ⟨q0, q1, q2, g0, g1, g2⟩ := HP2b.out
      have hc3 := set3_chg w2b P (.int .u32 m) (.int .i64 n) (.int .i64 k)
      have HP3 : Hid (PV (((w2b.setCell ⟨P, 0, none⟩ (.int .u32 m)).setCell ⟨P, 1, none⟩ (.int .i64 n)).setCell ⟨P, 2, none⟩ (.int .i64 k)) P m n k ∧ w.heap.size ≤ P) := ⟨HP2b.out.set _ _ _, HP2.out.2⟩
      have HD3 : Hid (DecV π (((w2b.setCell ⟨P, 0, none⟩ (.int .u32 m)).setCell ⟨P, 1, none⟩ (.int .i64 n)).setCell ⟨P, 2, none⟩ (.int .i64 k)) b p q en s l v u ∧ Below w.heap.size w (((w2b.setCell ⟨P, 0, none⟩ (.int .u32 m)).setCell ⟨P, 1, none⟩ (.int .i64 n)).setCell ⟨P, 2, none⟩ (.int .i64 k))) := by
        refine ⟨HD2b.out.1.chg hc3 (fun k j hf hk => ?_) (fun j hk => ?_), ((HD2b.out.2.setCell (p := ⟨P, 0, none⟩) HP2.out.2 _).setCell (p := ⟨P, 1, none⟩) HP2.out.2 _).setCell (p := ⟨P, 2, none⟩) HP2.out.2 _⟩
        · have := H.out.foot_lt hf; have := HP2.out.2; omega
        · have := H.out.tabs.pos; have := HP2.out.2; omega
      clear b2b hc3 HP2 HD2 HP2b HD2b
      go_wp2_with fail
      obtain ⟨w3, hw3⟩ : ∃ w3, ((w2b.setCell ⟨P, 0, none⟩ (.int .u32 m)).setCell ⟨P, 1, none⟩ (.int .i64 n)).setCell ⟨P, 2, none⟩ (.int .i64 k) = w3 := ⟨_, rfl⟩
      rw [hw3] at HP3 HD3 ⊢
      clear hw3 q0 q1 q2 g0 g1 g2
      refine (open_any m n k w3 HD3.out.1.tabs HBD.out.1 HBD.out.2.1 HBD.out.2.2).mono ?_
      rintro e w4 ⟨rfl, b4⟩
      have HP4 : Hid (PV w4 P m n k ∧ w.heap.size ≤ P) := ⟨HP3.out.1.below b4, HP3.out.2⟩
      have HD4 : Hid (DecV π w4 b p q en s l v u ∧ Below w.heap.size w w4) := ⟨HD3.out.1.below b4, below_two HD3.out.2 b4⟩
      clear b4 HP3 HD3
      obtain ⟨t, ht⟩ : ∃ t, openP m n k = t := ⟨_, rfl⟩
      rw [ht]
      have HT : Hid (begN (s ++ [x]) = t) := HBS.out.trans ht
      clear ht
      cases t with
      | false =>
        have HST : Hid (stepU π s x = none) := step_no HT.out
        go_wp2
        go_ret
        exact ⟨v, u, by rw [HST.out]; rfl, by simpa [stN, toldN, HST.out] using HD4.out.1, chg_of_below HD4.out.2 (Nat.le_refl _) _, mov_refl _ _, mov_refl _ _⟩
      | true =>
        have p2 := HP4.out.1.c2
        by_cases hk0 : k = 0
        · subst hk0
          have HST : Hid (stepU π s x = some ([], [m])) := by show _ = _; rw [step_last HT.out HM.out.2.2, HM.out.1]
          go_upto_region 9 with fail
          have hF : w4.drew.cell? ⟨P, 0, none⟩ = some (.int .u32 m) := by rw [World.cell?_drew]; exact HP4.out.1.c0
          have hB7 : Below w4.heap.size w4 (w4.drew.alloc (.cells #[.int .u32 m] 43)) := (Below.refl _ _).drew.alloc (by simp) _
          have HD7 : Hid (DecV π (w4.drew.alloc (.cells #[.int .u32 m] 43)) b p q en s l v u ∧ Below w.heap.size w (w4.drew.alloc (.cells #[.int .u32 m] 43)) ∧ PV (w4.drew.alloc (.cells #[.int .u32 m] 43)) P m n 0) := ⟨HD4.out.1.below hB7, below_two HD4.out.2 hB7, HP4.out.1.below hB7⟩
          have HPN : Hid (∀ j, ¬ footR b 3 v P j) := fun j hh => by
            have h1 := H.out.lt
            have h2 := HP4.out.2
            rcases hh with hh | hh
            · omega
            · have := H.out.ltV hh; omega
          clear hB7
          go_region_held3 (fun w' => w'.cell? ⟨P, 0, none⟩ = some (.int .u32 m)) (first | exact hF | exact cell_later ((Below.refl _ _).alloc (Nat.le_refl _) _) hF) (first
            | (go_at_call 84; refine (hold_any b 3 v l [m] _ 1 1 _ ?_ ?_ rfl ?_ ?_).mono ?_; exact HD7.out.1.row; exact row_new .u32 _ [m] _ _ (by simp); (intro h; cases h); (simp; omega); rintro e w8 ⟨v', rfl, hr8, hc8, hm8⟩; have hF := hc8.cellAt HD7.out.2.2.c0 (HPN.out 0)))
          have D8 := HD7.out.1.hold hr8 hc8 hm8
          have P8 := HD7.out.2.2.chg hc8 HPN.out
          have HD8 : Hid (DecV π w8 b p q en s (l ++ [m]) v' u ∧ Chg (fun k _ => footD b v u k) w w8 ∧ Mov w v v' ∧ PV w8 P m n 0 ∧ w.heap.size ≤ P ∧ ∀ g, footD b v' u g → g ≠ P) :=
            ⟨D8, (chg_of_below HD7.out.2.1 (Nat.le_refl _) _).trans2 hc8 (fun _ _ _ h => h) (fun k j _ h => by
              rcases h with h | h
              · exact .inl h.1
              · exact .inr (.inl h)), mov_trans (mov_refl w v) hm8 HD7.out.2.1.size, P8, HP4.out.2, fun g hg e => by
              have h1 := H.out.lt
              have h2 := HP4.out.2
              have h3 := World.block_lt_of_cell? _ _ HD7.out.2.2.c0
              rcases hg with hg | hg | hg
              · omega
              · rcases hm8 g hg with hg | hg
                · have := H.out.ltV hg; omega
                · have h4 : P < (w4.drew.alloc (.cells #[.int .u32 m] 43)).heap.size := h3
                  rw [e] at hg; exact absurd (Nat.lt_of_lt_of_le h4 hg) (Nat.lt_irrefl _)
              · rw [H.out.u0] at hg; simp [Value.ownBlock] at hg⟩
          obtain ⟨q0, q1, q2, g0, g1, g2⟩ := P8
          have hc4 := D8.num
          have hc5 := D8.rown
          have hc6 := D8.lack
          have hf4 := D8.f4
          have hf5 := D8.f5
          have hf6 := D8.f6
          have hPb : P ≠ b := by have := H.out.lt; have := HP4.out.2; omega
          clear hr8 hc8 hm8 D8 hF HD7 HPN p2 HD4 HP4
          go_wp2
          go_ret
          have hc9 := set3_chg w8 P (.int .u32 0) (.int .i64 0) (.int .i64 0)
          have D9 := (HD8.out.1.chg hc9 (fun k j hf hk => HD8.out.2.2.2.2.2 k hf hk) (fun j hk => by have := HD8.out.2.2.2.2.1; omega)).put (s' := []) (m := 0) (n := 0) (k := 0) rfl rfl rfl (good_nil π) (by simp)
          have C9 : Chg (fun k _ => footD b v u k) w (((w8.setCell ⟨P, 0, none⟩ (.int .u32 0)).setCell ⟨P, 1, none⟩ (.int .i64 0)).setCell ⟨P, 2, none⟩ (.int .i64 0)) := HD8.out.2.1.trans2 hc9 (fun _ _ _ h => h) (fun k j hk h => by have := HD8.out.2.2.2.2.1; omega)
          refine ⟨v', u, by rw [HST.out]; rfl, by simpa [stN, toldN, HST.out] using D9, C9.trans2 (put_chg _ b _ _ _) (fun _ _ _ h => h) (fun k j _ h => .inl h), HD8.out.2.2.1, mov_refl _ _⟩
        · have HST : Hid (stepU π s x = some (s ++ [x], []) ∧ Good π (s ++ [x])) := by
            have e := step_mid (π := π) HT.out (by rw [HM.out.2.2]; exact hk0)
            refine ⟨e, ?_⟩
            rcases step_cases H.out.good H.out.byte HX.out e with ⟨_, h⟩ | ⟨c, h, _⟩
            · exact h
            · simp at h
          obtain ⟨q0, q1, q2, g0, g1, g2⟩ := HP4.out.1
          have hc4 := HD4.out.1.num
          have hc5 := HD4.out.1.rown
          have hc6 := HD4.out.1.lack
          have hf4 := HD4.out.1.f4
          have hf5 := HD4.out.1.f5
          have hf6 := HD4.out.1.f6
          have hk0' : ((k : Int) == 0) = false := by simp; omega
          clear p2
          go_wp2
          go_ret
          have D9 := HD4.out.1.put (s' := s ++ [x]) (m := m) (n := n) (k := k) HM.out.1.symm (by rw [HM.out.2.1]) (by rw [HM.out.2.2]) HST.out.2 HB.out
          refine ⟨v, u, by rw [HST.out.1]; rfl, by simpa [stN, toldN, HST.out.1] using D9, (chg_of_below HD4.out.2 (Nat.le_refl _) _).trans2 (put_chg w4 b _ _ _) (fun _ _ _ h => h) (fun k j _ h => .inl h), mov_refl _ _, mov_refl _ _⟩
set_option maxHeartbeats 4000000 in
theorem dEnd_any (b : Nat) (p q : Int) (en : Bool) (s : St) (l : List Int) (v u : Value) (w : World) (h : DecV π w b p q en s l v u) :
    Calls Tryd.prog 45 #[.pointer (some ⟨b, 0, none⟩)] w fun e w' => e = .returned (.tuple #[]) ∧ DecV π w' b p (if rest s = true then q else stopI q en 4) (endB (if rest s = true then q else stopI q en 4) en) s l v u ∧ Chg (footB b 0) w w' := by
  have hc6 := h.lack
  have H : Hid (DecV π w b p q en s l v u) := h
  by_cases hs : s = []
  · subst hs
    rw [if_pos (show rest [] = true from rfl)]
    have hc6 : w.cell? ⟨b, 6, none⟩ = some (.int .i64 0) := h.lack
    clear h
    go_enter Tryd.func45, Tryd.ntmps45
    go_wp2_with fail
    refine (end_any b 0 p q en w H.out.base).mono ?_
    rintro e w2 ⟨rfl, hB, hC⟩
    go_wp2
    go_end0
    exact ⟨rfl, H.out.rebase hB hC, hC⟩
  · rw [if_neg (show ¬ rest s = true by simpa [rest] using hs)]
    have hlen := h.good.lack.2 hs
    obtain ⟨n, hn⟩ : ∃ n, lackN s = n := ⟨_, rfl⟩
    rw [hn] at hc6 hlen
    clear h hn hs
    go_enter Tryd.func45, Tryd.ntmps45
    go_wp2_with fail
    refine (stop_any b 0 p q en 4 w H.out.base).mono ?_
    rintro e w2 ⟨rfl, hB, hC⟩
    have D2 := H.out.rebase hB hC
    go_wp2_with fail
    refine (end_any b 0 p _ en w2 D2.base).mono ?_
    rintro e w3 ⟨rfl, hB3, hC3⟩
    go_wp2
    go_end0
    exact ⟨rfl, D2.rebase hB3 hC3, hC.trans hC3⟩
end M8
end Go.Proofs.YtjbgcclbomimiaaDoor
