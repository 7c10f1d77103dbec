/-
  Contracts of the decoder's step and of its End, as walks over the translated text. The condition: its memory is there and may be written; the tables are as the program's text lays them.
-/
import Derived.Test.YtlifobdooophbaaDoorBODec
import Derived.Test.YtlifobdooophbaaDoorMemS
namespace Go.Proofs.YtlifobdooophbaaDoor
open Go.ChangeShapes Go.WideShapes Go.ChangeAt Go.RowKit
namespace BO
open Bas Sca Stp Scn Cod
set_option linter.unusedVariables false
variable {π : Par}

theorem seg_snoc {k : IntKind} {w : World} {v : Value} {s : List Int} {x : Int} (h : Seg k w v (s ++ [x])) : ∃ g o n c, v = .slice (some ⟨g, o, none⟩) n c ∧ ((s ++ [x]).length = n ∧ n ≤ c ∧ Row k w (some ⟨g, o, none⟩) (s ++ [x])) := by
  obtain ⟨a1, c1, hv1, hrow1, -, hcap1, -, -⟩ := h.form
  have hr := hrow1
  obtain ⟨g1, o1, hn, -⟩ := hr
  obtain rfl := hn (by simp)
  exact ⟨g1, o1, _, c1, hv1, rfl, hcap1, hrow1⟩
theorem own_len (a : Option Addr) (n m c : Nat) : (Value.slice a n c).ownBlock = (Value.slice a m c).ownBlock := by
  cases a with
  | none => rfl
  | some x =>
    obtain ⟨b, o, s⟩ := x
    cases s <;> rfl
set_option maxHeartbeats 4000000 in
set_option maxRecDepth 100000 in
/-- A scalar is complete: nothing has begun any more, it waits, and the next one is held against what it leaves. -/
theorem found_any (b : Nat) (p q : Int) (en : Bool) (s : St) (l s' : List Int) (v u : Value) (a : Option Addr) (n c : Nat) (x : Int) (w w1 : World) (h : DecV π w b p q en s l v u)
    (hA : Chg (fun k j => (k = b ∧ j = 5) ∨ u.ownBlock = some k) w w1) (h5 : w1.cell? ⟨b, 5, none⟩ = some (.slice a n c)) (hS : Seg .u8 w1 (.slice a n c) s')
    (hm : ∀ g, (Value.slice a n c).ownBlock = some g → u.ownBlock = some g ∨ w.heap.size ≤ g) (hx0 : 0 ≤ x) (hx : isB x = true) (hlen : l.length ≤ 1000000) :
    Calls Tryd.prog 60 #[.pointer (some ⟨b, 0, none⟩), .int .u32 x] w1 fun e w' => ∃ v', e = .returned (.tuple #[]) ∧ DecV π w' b p q en ⟨Boc.nxtB s.ag x, []⟩ (l ++ [x]) v' (.slice a 0 c) ∧ Chg (fun k _ => footD b v u k) w w' ∧ Mov w v v' := by
  have hxi := isB_iff.1 hx
  have hf5 := hA.freeAt h.st.c h.st.f
  have hS0 : Seg .u8 w1 (.slice a 0 c) [] := by simpa using hS.takeO (f := 0) (by simp)
  have hm0 : ∀ g, (Value.slice a 0 c).ownBlock = some g → u.ownBlock = some g ∨ w.heap.size ≤ g := fun g hg => hm g (by rw [own_len a n 0 c]; exact hg)
  have hcap : n ≤ c := by
    obtain ⟨a2, c2, e, -, -, hc2, -⟩ := hS.form
    simp only [Value.slice.injEq] at e
    omega
  have D5 := h.put hA h5 hS0 hm0 h.lt (fun g hg => h.ltV hg) (Boc.good_nil h.good.1) (by simp)
  have C5 : Chg (fun k _ => footD b v u k) w (w1.setCell ⟨b, 5, none⟩ (.slice a 0 c)) := by
    refine hA.trans2 (chg_setCell w1 b 5 _) (fun k j _ h => ?_) (fun k j _ h => .inl h.1)
    rcases h with h | h
    · exact .inl h.1
    · exact .inr (.inr h)
  have HD5 : Hid (DecV π (w1.setCell ⟨b, 5, none⟩ (.slice a 0 c)) b p q en ⟨s.ag, []⟩ l v (.slice a 0 c) ∧ Chg (fun k _ => footD b v u k) w (w1.setCell ⟨b, 5, none⟩ (.slice a 0 c))) := ⟨D5, C5⟩
  have HG : Hid (Boc.GA (Boc.nxtB s.ag x)) := Boc.ga_nxt h.good.1 hx0 hx
  have HX : Hid (0 ≤ x ∧ x < 4294967296) := ⟨hx0, by omega⟩
  have hci : (n : Int) ≤ (c : Int) := by omega
  have hc0 : (0 : Int) ≤ (c : Int) := by omega
  have hnil : a = none → c = 0 ∧ n = 0 := fun e => by
    obtain ⟨a2, c2, e2, -, -, -, -, h0⟩ := hS.form
    simp only [Value.slice.injEq] at e2
    have := h0 (by rw [← e2.1]; exact e)
    omega
  clear h hA hS hS0 hm hm0 D5 C5 hxi hx
  go_enter Tryd.func60, Tryd.ntmps60
  go_wp2_with fail
  have hB6 := (Below.refl (w1.setCell ⟨b, 5, none⟩ (.slice a 0 c)).heap.size (w1.setCell ⟨b, 5, none⟩ (.slice a 0 c))).alloc (Nat.le_refl _) (.cells #[.int .u32 x] 43)
  refine (hold_any b 3 v l [x] _ 1 1 _ (HD5.out.1.below hB6).row (by exact row_new .u32 _ [x] _ _ (by simp)) rfl (fun h => by cases h) (by simp; omega)).mono ?_
  rintro e w6 ⟨v', rfl, hr6, hc6, hm6⟩
  have hz : w.heap.size ≤ ((w1.setCell ⟨b, 5, none⟩ (.slice a 0 c)).alloc (.cells #[.int .u32 x] 43)).heap.size := Nat.le_trans HD5.out.2.size hB6.size
  have D6 := (HD5.out.1.below hB6).hold hr6 hc6 hm6
  have C6 : Chg (fun k _ => footD b v u k) w w6 := (HD5.out.2.alloc _).trans2 hc6 (fun _ _ _ h => h) (fun k j _ h => by
    rcases h with h | h
    · exact .inl h.1
    · exact .inr (.inl h))
  have HD6 : Hid (DecV π w6 b p q en ⟨s.ag, []⟩ (l ++ [x]) v' (.slice a 0 c) ∧ Chg (fun k _ => footD b v u k) w w6 ∧ Mov w v v') := ⟨D6, C6, mov_trans (mov_refl w v) hm6 hz⟩
  clear hB6 hr6 hc6 hm6 hz D6 C6 HD5
  go_wp2_with fail
  refine (pass_any b s.ag x w6 HD6.out.1.ag HD6.out.1.f4 HX.out.1 HX.out.2).mono ?_
  rintro e w7 ⟨rfl, h4, hc7⟩
  have D7 := HD6.out.1.anchor hc7 h4 HG.out
  have C7 : Chg (fun k _ => footD b v u k) w w7 := HD6.out.2.1.trans2 hc7 (fun _ _ _ h => h) (fun k j _ h => .inl h.1)
  have HD7 : Hid (DecV π w7 b p q en ⟨Boc.nxtB s.ag x, []⟩ (l ++ [x]) v' (.slice a 0 c) ∧ Chg (fun k _ => footD b v u k) w w7 ∧ Mov w v v') := ⟨D7, C7, HD6.out.2.2⟩
  clear HD6 h4 hc7 D7 C7
  go_wp2
  go_end0
  exact ⟨v', rfl, HD7.out.1, HD7.out.2.1, HD7.out.2.2⟩
set_option maxHeartbeats 4000000 in
set_option maxRecDepth 100000 in
/-- Is a difference right so far with this byte? -/
theorem grow_any (b : Nat) (p q : Int) (en : Bool) (s : St) (l : List Int) (v u : Value) (x : Int) (w : World) (h : DecV π w b p q en s l v u) (hx : 0 ≤ x ∧ x < 256) (hp : Boc.plain s x) (hlen : l.length ≤ 1000000) :
    Calls Tryd.prog 59 #[.pointer (some ⟨b, 0, none⟩), .int .u8 x] w fun e w' => ∃ v' u', e = .returned (.bool (stepU π s x).isSome) ∧ DecV π w' b p q en (stN π s x) (l ++ toldN π s x) v' u' ∧ Chg (fun k _ => footD b v u k) w w' ∧ Mov w v v' ∧ Mov w u u' := by
  have HB : Hid (∀ y ∈ s.beg ++ [x], 0 ≤ y ∧ y < 256) := byte_snoc h.byte hx
  have H : Hid (DecV π w b p q en s l v u) := h
  have HL : Hid (s.beg.length ≤ 3 ∧ 0 ≤ x ∧ x < 256) := ⟨Boc.Good.len h.good, hx⟩
  have HP : Hid (Boc.plain s x) := hp
  have hc5 := h.st.c
  have HX5 : Hid ((∀ o, (w.alloc o).cell? ⟨b, 5, none⟩ = some u) ∧ (∀ o, (w.alloc o).frozen? ⟨b, 5, none⟩ = false) ∧ u.ownBlock ≠ some b) :=
    ⟨fun o => ((Chg.refl (fun _ _ => False) w).alloc o).cellAt h.st.c id, fun o => ((Chg.refl (fun _ _ => False) w).alloc o).freeAt h.st.c h.st.f, h.st.ne⟩
  have HS : Hid (∀ o, Seg .u8 (w.alloc o) u s.beg) := fun o => h.st.seg.chg ((Chg.refl (fun _ _ => False) w).alloc o) (fun _ _ _ h => h)
  clear h hx hp
  go_enter Tryd.func59, Tryd.ntmps59
  go_upto_region 2 with (at_builtin; go_must (refine wpList_append_segK rfl _ _ 46 46 rfl .u8 5 1 Tryd.underlying46 info_u8 u s.beg [x] rfl (HS.out _) _ rfl (src_row (l := [x]) Tryd.underlying46 (by exact row_new .u8 w [x] _ _ rfl) rfl (fun h => by cases h)) (by have := HL.out; unfold maxLen; simp; omega) (by have := HL.out; simp; omega) ?_; intro u' w2 hs' hch hmov hold; have hc52 := hch.cellAt (HX5.out.1 _) HX5.out.2.2; have hf52 := hch.freeAt (HX5.out.1 _) (HX5.out.2.1 _); have hfm := seg_snoc hs'; obtain ⟨g1, o1, n1, c1, rfl, hn1⟩ := hfm))
  have hA1 : Chg (fun k j => (k = b ∧ j = 5) ∨ u.ownBlock = some k) w w2 := ((Chg.refl _ w).alloc _).trans2 hch (fun _ _ _ h => h) (fun k j _ h => .inr h)
  have hA0 : Chg (fun k _ => u.ownBlock = some k) w w2 := ((Chg.refl _ w).alloc _).trans2 hch (fun _ _ _ h => h) (fun k j _ h => h)
  have D2 := H.out.spare hA0 hold
  have hmv : ∀ g, (Value.slice (some ⟨g1, o1, none⟩) n1 c1).ownBlock = some g → u.ownBlock = some g ∨ w.heap.size ≤ g := fun g hg => by
    rcases hmov g hg with e | e
    · exact .inl e
    · right; simp at e; omega
  have hcv := Stp.run_string w2 (some ⟨g1, o1, none⟩) n1 c1 (s.beg ++ [x]) hn1.2.2 hn1.1
  obtain ⟨S, hS⟩ : ∃ S, Stp.strOf (s.beg ++ [x]) = S := ⟨_, rfl⟩
  have HBS : Hid (bytesL S = s.beg ++ [x]) := by show bytesL S = _; rw [← hS]; exact bytesL_strOf _ HB.out
  have hsz : S.size = n1 := by rw [← bytesL_length, HBS.out]; exact hn1.1
  have hn4 : n1 = s.beg.length + 1 := by rw [← hn1.1]; simp
  have HD2 : Hid (DecV π w2 b p q en s l v u ∧ Chg (fun k j => (k = b ∧ j = 5) ∨ u.ownBlock = some k) w w2 ∧ Chg (fun k _ => u.ownBlock = some k) w w2) := ⟨D2, hA1, hA0⟩
  have HSG : Hid (Seg .u8 w2 (.slice (some ⟨g1, o1, none⟩) n1 c1) (s.beg ++ [x]) ∧ (∀ g, (Value.slice (some ⟨g1, o1, none⟩) n1 c1).ownBlock = some g → u.ownBlock = some g ∨ w.heap.size ≤ g) ∧ n1 = s.beg.length + 1) := ⟨hs', hmv, hn4⟩
  have hn0 : 1 ≤ n1 ∧ n1 ≤ 4 := by have := HL.out.1; omega
  rw [hS] at hcv
  clear hn4 hA1 hA0 D2 hmv hs' hold hch hmov hS hn1 hc52 hf52 HX5 HS hc5
  go_wp2_with fail
  refine (Dif.range_any S w2 HD2.out.1.tabs (by omega) (by omega)).mono ?_
  rintro e w3 ⟨rfl, b3⟩
  rw [HBS.out]
  have HD3 : Hid (DecV π w3 b p q en s l v u ∧ Chg (fun k j => (k = b ∧ j = 5) ∨ u.ownBlock = some k) w w3 ∧ Chg (fun k _ => u.ownBlock = some k) w w3) := ⟨HD2.out.1.below b3, HD2.out.2.1.trans (chg_of_below b3 (Nat.le_refl _) _), HD2.out.2.2.trans (chg_of_below b3 (Nat.le_refl _) _)⟩
  have HS3 : Hid (Seg .u8 w3 (.slice (some ⟨g1, o1, none⟩) n1 c1) (s.beg ++ [x])) := HSG.out.1.chg (chg_of_below b3 (Nat.le_refl _) (fun _ _ => False)) (fun _ _ _ h => h)
  have HC3 : Hid (Chg (fun k _ => footD b v u k) w w3) := HD3.out.2.2.mono (fun k j _ h => .inr (.inr h))
  clear b3 HD2 hcv hsz
  have hga := H.out.good.1
  unfold Boc.GA at hga
  have hc4 := HD3.out.1.ag
  obtain ⟨A, hA⟩ : ∃ A, s.ag = A := ⟨_, rfl⟩
  rw [hA] at hc4 hga
  have HA : Hid (s.ag = A) := hA
  clear hA
  obtain ⟨r1, r2⟩ := hga
  cases hr : Dif.rngL (s.beg ++ [x]) with
  | none =>
    have HST : Hid (stepU π s x = none) := Boc.step_none HP.out hr
    clear hr
    unfold Dif.rngV
    go_wp2
    go_ret
    exact ⟨v, u, by rw [HST.out]; rfl, by simpa [stN, toldN, HST.out] using HD3.out.1, HC3.out, mov_refl _ _, mov_refl _ _⟩
  | some z =>
    obtain ⟨lo, hi, n⟩ := z
    have hle := Boc.rng_le hr
    have HR : Hid (Dif.rngL (s.beg ++ [x]) = some (lo, hi, n)) := hr
    clear hr
    obtain ⟨q1, q2, q3, q4, q5, q6⟩ := hle
    unfold Dif.rngV
    go_wp2_with fail
    refine (leads_any (A + lo) (A + hi) w3 (by omega) (by omega) (by omega) (by omega)).mono ?_
    rintro e w4 ⟨rfl, hw⟩
    rw [hw]
    clear hw w4
    by_cases hl : 0 ≤ Boc.leastS (A + lo) (A + hi)
    · rw [decide_eq_true hl]
      have hli := Boc.least_is hl
      have hc5 := HD3.out.1.st.c
      have hf5 := HD3.out.1.st.f
      by_cases hn : n1 = n
      · subst hn
        have hoe := Boc.rng_one HR.out (by rw [List.length_append, HSG.out.2.2]; rfl)
        subst hoe
        have hls : Boc.leastS (A + lo) (A + lo) = A + lo := by omega
        rw [hls] at hli
        have HST : Hid (stepU π s x = some (⟨Dif.prevI (A + lo), []⟩, [A + lo])) := by
          have := Boc.step_whole HP.out HR.out (by rw [HA.out]; omega) HSG.out.2.2.symm
          rw [HA.out, hls] at this
          exact this
        have hB : isB (A + lo) = true := hli.2.2.2
        have hBi := isB_iff.1 hB
        have h33 := hli.2.2.1
        clear hl hli hls
        go_wp2_with fail
        have hcs := chg_setCell w3 b 5 (.slice (some ⟨g1, o1, none⟩) n1 c1)
        have hAW := HD3.out.2.1.trans2 hcs (fun _ _ _ h => h) (fun k j _ h => .inl h)
        have hnb : g1 ≠ b := fun e => by
          rcases HSG.out.2.1 g1 rfl with h | h
          · exact HD3.out.1.st.ne (by rw [h, e])
          · have := H.out.lt; omega
        refine (found_any b p q en s l (s.beg ++ [x]) v u (some ⟨g1, o1, none⟩) n1 c1 (A + lo) w _ H.out hAW (World.cell?_setCell_same _ _ _ hc5) (HS3.out.chg hcs (fun g o hg hh => by simp [Value.ownBlock] at hg; omega)) HSG.out.2.1 (by omega) hB hlen).mono ?_
        rintro e w5 ⟨v', rfl, D5, C5, M5⟩
        have HD5 : Hid (DecV π w5 b p q en ⟨Boc.nxtB s.ag (A + lo), []⟩ (l ++ [A + lo]) v' (.slice (some ⟨g1, o1, none⟩) 0 c1) ∧ Chg (fun k _ => footD b v u k) w w5 ∧ Mov w v v') := ⟨D5, C5, M5⟩
        clear D5 C5 M5 hcs hAW
        go_wp2
        go_ret
        refine ⟨v', .slice (some ⟨g1, o1, none⟩) 0 c1, by rw [HST.out]; rfl, ?_, HD5.out.2.1, HD5.out.2.2, fun g hg => HSG.out.2.1 g hg⟩
        have e : Boc.nxtB s.ag (A + lo) = Dif.prevI (A + lo) := by unfold Boc.nxtB; rw [if_neg (by omega)]
        have := HD5.out.1
        rw [e] at this
        simpa [stN, toldN, HST.out] using this
      · have HST : Hid (stepU π s x = some (⟨s.ag, s.beg ++ [x]⟩, [])) := Boc.step_more HP.out HR.out (by rw [HA.out]; omega) (by rw [← HSG.out.2.2]; exact hn)
        have hne : ((n1 : Int) == (n : Int)) = false := by rw [beq_eq_false_iff_ne]; omega
        have hne2 : ¬ (n1 : Int) = (n : Int) := by omega
        have HG : Hid (Boc.Good ⟨s.ag, s.beg ++ [x]⟩) := Boc.step_good H.out.good HL.out.2.1 HST.out
        clear hl hli
        go_wp2
        go_ret
        have D := H.out.put HD3.out.2.1 hc5 HS3.out HSG.out.2.1 H.out.lt (fun g hg => H.out.ltV hg) HG.out HB.out
        refine ⟨v, _, by rw [HST.out]; rfl, by simpa [stN, toldN, HST.out] using D, HC3.out.trans2 (chg_setCell w3 b 5 _) (fun _ _ _ h => h) (fun k j _ h => .inl h.1), mov_refl _ _, fun g hg => HSG.out.2.1 g hg⟩
    · have HST : Hid (stepU π s x = none) := Boc.step_far HP.out HR.out (by rw [HA.out]; omega)
      rw [decide_eq_false hl]
      clear hl
      go_wp2
      go_ret
      exact ⟨v, u, by rw [HST.out]; rfl, by simpa [stN, toldN, HST.out] using HD3.out.1, HC3.out, mov_refl _ _, mov_refl _ _⟩
set_option maxHeartbeats 4000000 in
set_option maxRecDepth 100000 in
theorem take_any (b : Nat) (p q : Int) (en : Bool) (s : St) (l : List Int) (v u : Value) (x : Int) (w : World) (h : DecV π w b p q en s l v u) (hx : 0 ≤ x ∧ x < 256) (hlen : l.length ≤ 1000000) :
    Calls Tryd.prog 43 #[.pointer (some ⟨b, 0, none⟩), .int .u8 x] w fun e w' => ∃ v' u', e = .returned (.bool (stepU π s x).isSome) ∧ DecV π w' b p q en (stN π s x) (l ++ toldN π s x) v' u' ∧ Chg (fun k _ => footD b v u k) w w' ∧ Mov w v v' ∧ Mov w u u' := by
  have H : Hid (DecV π w b p q en s l v u) := h
  have HX : Hid (0 ≤ x ∧ x < 256) := hx
  obtain ⟨ag, beg⟩ := s
  obtain ⟨a, c, hv, -, -, hcap, -, -⟩ := h.st.seg.form
  have hc5 := h.st.c
  rw [hv] at hc5
  have HV : Hid (u = .slice a beg.length c) := hv
  by_cases hs : beg = []
  · subst hs
    replace hc5 : w.cell? ⟨b, 5, none⟩ = some (.slice a 0 c) := hc5
    by_cases h1 : x = 255
    · subst h1
      have HST : Hid (stepU π ⟨ag, []⟩ 255 = some (⟨64, []⟩, [])) := Boc.step_ff (s := ⟨ag, []⟩) rfl
      have hc4 := h.ag
      have hf4 := h.f4
      clear h hv hx hcap
      go_enter Tryd.func43, Tryd.ntmps43
      go_wp2
      go_ret
      have hc := chg_setCell w b 4 (.int .u32 64)
      have D := H.out.anchor hc (World.cell?_setCell_same _ _ _ hc4) Boc.ga_64
      exact ⟨by rw [HST.out]; rfl, v, u, by simpa [stN, toldN, HST.out] using D, hc.mono (fun k j _ h => .inl h.1), mov_refl _ _, mov_refl _ _⟩
    · have h2 : (x == 255) = false := by rw [beq_eq_false_iff_ne]; exact h1
      by_cases h3 : x ≤ 32
      · have HST : Hid (stepU π ⟨ag, []⟩ x = some (⟨Boc.nxtB ag x, []⟩, [x])) := Boc.step_small (s := ⟨ag, []⟩) rfl h3
        clear h hv hcap
        obtain ⟨x0, x1⟩ := hx
        go_enter Tryd.func43, Tryd.ntmps43
        go_wp2_with fail
        have hS : Seg .u8 w (.slice a 0 c) [] := by have := H.out.st.seg; rw [HV.out] at this; exact this
        refine (found_any b p q en ⟨ag, []⟩ l [] v u a 0 c x w w H.out (Chg.refl _ _) (by have := H.out.st.c; rw [HV.out] at this; exact this) hS (fun g hg => .inl (by rw [HV.out]; exact hg)) x0 (isB_iff.2 (by omega)) hlen).mono ?_
        rintro e w5 ⟨v', rfl, D5, C5, M5⟩
        have HD5 : Hid (DecV π w5 b p q en ⟨Boc.nxtB ag x, []⟩ (l ++ [x]) v' (.slice a 0 c) ∧ Chg (fun k _ => footD b v u k) w w5 ∧ Mov w v v') := ⟨D5, C5, M5⟩
        clear D5 C5 M5
        go_wp2
        go_ret
        exact ⟨v', .slice a 0 c, by rw [HST.out]; rfl, by simpa [stN, toldN, HST.out] using HD5.out.1, HD5.out.2.1, HD5.out.2.2, fun g hg => .inl (by rw [HV.out]; exact hg)⟩
      · have HP : Hid (Boc.plain ⟨ag, []⟩ x) := .inr ⟨h1, by omega⟩
        clear h hv hcap
        go_enter Tryd.func43, Tryd.ntmps43
        go_wp2_with fail
        refine (grow_any b p q en ⟨ag, []⟩ l v u x w H.out HX.out HP.out hlen).mono ?_
        rintro e w5 ⟨v', u', rfl, D5, C5, M5, U5⟩
        have HD5 : Hid (DecV π w5 b p q en (stN π ⟨ag, []⟩ x) (l ++ toldN π ⟨ag, []⟩ x) v' u' ∧ Chg (fun k _ => footD b v u k) w w5 ∧ Mov w v v' ∧ Mov w u u') := ⟨D5, C5, M5, U5⟩
        clear D5 C5 M5 U5
        go_wp2
        go_ret
        exact ⟨v', u', rfl, HD5.out.1, HD5.out.2.1, HD5.out.2.2.1, HD5.out.2.2.2⟩
  · have HP : Hid (Boc.plain ⟨ag, beg⟩ x) := .inl hs
    have hlen1 : 0 < beg.length := List.length_pos_iff.2 hs
    obtain ⟨n, hn⟩ : ∃ n, beg.length = n := ⟨_, rfl⟩
    replace hc5 : w.cell? ⟨b, 5, none⟩ = some (.slice a n c) := by rw [← hn]; exact hc5
    rw [hn] at hlen1
    have hlen2 : (n : Int) > 0 := by omega
    clear h hv hcap hn hs hlen1
    go_enter Tryd.func43, Tryd.ntmps43
    go_wp2_with fail
    refine (grow_any b p q en ⟨ag, beg⟩ l v u x w H.out HX.out HP.out hlen).mono ?_
    rintro e w5 ⟨v', u', rfl, D5, C5, M5, U5⟩
    have HD5 : Hid (DecV π w5 b p q en (stN π ⟨ag, beg⟩ x) (l ++ toldN π ⟨ag, beg⟩ x) v' u' ∧ Chg (fun k _ => footD b v u k) w w5 ∧ Mov w v v' ∧ Mov w u u') := ⟨D5, C5, M5, U5⟩
    clear D5 C5 M5 U5
    go_wp2
    go_ret
    exact ⟨v', u', rfl, HD5.out.1, HD5.out.2.1, HD5.out.2.2.1, HD5.out.2.2.2⟩

set_option maxHeartbeats 4000000 in
theorem dEnd_any (b : Nat) (p q : Int) (en : Bool) (s : St) (l : List Int) (v u : Value) (w : World) (h : DecV π w b p q en s l v u) :
    Calls Tryd.prog 31 #[.pointer (some ⟨b, 0, none⟩)] w fun e w' => e = .returned (.tuple #[]) ∧ DecV π w' b p (if rest s = true then q else stopI q en 4) (endB (if rest s = true then q else stopI q en 4) en) s l v u ∧ Chg (footB b 0) w w' := by
  have hc4 := h.st.c
  have H : Hid (DecV π w b p q en s l v u) := h
  obtain ⟨a, c, hv, -⟩ := h.st.seg.form
  by_cases hs : s.beg = []
  · have hr : rest s = true := by unfold rest; rw [hs]; rfl
    rw [if_pos hr]
    clear h
    rw [hs] at hv
    rw [hv] at hc4
    have hl : ([] : List Int).length = 0 := rfl
    rw [hl] at hc4
    clear hl hv hs hr
    go_enter Tryd.func31, Tryd.ntmps31
    go_wp2_with fail
    refine (end_any b 0 p q en w H.out.base).mono ?_
    rintro e w2 ⟨rfl, hB, hC⟩
    go_wp2
    go_end0
    exact ⟨rfl, H.out.rebase hB hC, hC⟩
  · rw [if_neg (show ¬ rest s = true by simpa [rest] using hs)]
    have hlen : 0 < s.beg.length := List.length_pos_iff.2 hs
    obtain ⟨n, hn⟩ : ∃ n, s.beg.length = n := ⟨_, rfl⟩
    rw [hn] at hv hlen
    rw [hv] at hc4
    have hlen' : (n : Int) > 0 := by omega
    clear h hv hn hlen hs
    go_enter Tryd.func31, Tryd.ntmps31
    go_wp2_with fail
    refine (stop_any b 0 p q en 4 w H.out.base).mono ?_
    rintro e w2 ⟨rfl, hB, hC⟩
    have D2 := H.out.rebase hB hC
    go_wp2_with fail
    refine (end_any b 0 p _ en w2 D2.base).mono ?_
    rintro e w3 ⟨rfl, hB3, hC3⟩
    go_wp2
    go_end0
    exact ⟨rfl, D2.rebase hB3 hC3, hC.trans hC3⟩
end BO
end Go.Proofs.YtlifobdooophbaaDoor
