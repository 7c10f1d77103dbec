/-
  A window is visited, or laid: contracts of layer 15's calls, as walks over the translated text. The condition: its memory is there and may be written; the tables are as the program's text lays them.
-/
import Derived.Test.YtpglmfhlgaliaaaDoorCP2
namespace Go.Proofs.YtpglmfhlgaliaaaDoor
open Go.ChangeShapes Go.WideShapes Go.ChangeAt Go.RowKit
namespace CP
open Bas Sca Stp Scn Cod Win Exp Cmp Cps
set_option linter.unusedVariables false
set_option linter.unusedSimpArgs false

theorem both_is {o d : Int} (hok : offOK o) : bothC o (optI d) = hasI o d := by
  unfold optI
  split
  · rename_i hd
    unfold offOK at hok
    unfold bothC
    rw [hd]
    exact (has_no.2 (by omega)).symm
  · rfl
/-- What a visit comes to. -/
def visC (s : Cmp.ES) (n : Nat) (c : Int) (d : Option Int) : List Int × Cmp.ES :=
  if bothC (nth s.wins n) d = true
  then ([16 + (n : Int), 128 + (c - nth s.wins n)], ⟨s.wins, touchL s.used n, false, n⟩)
  else ([1 + (n : Int), 128 + (c - nth s.wins n)], ⟨s.wins, touchL s.used n, s.uni, s.act⟩)
set_option maxHeartbeats 4000000 in
set_option maxRecDepth 100000 in
theorem visit_any (D d : Nat) (s : Cmp.ES) (n : Nat) (c x : Int) (w : World) (h : SpW w D d s) (hn : n < 8) (c0 : 0 ≤ c) (hh : hasI (nth s.wins n) c = true) (x0 : 0 ≤ x) (x1 : x ≤ 1114112) :
    Calls Tryd.prog 65 #[.pointer (some ⟨D, 0, none⟩), .int .i64 (n : Int), .int .u32 c, .int .u32 x] w fun e w' => e = .returned (.string (Stp.strOf (visC s n c (optI x)).1)) ∧ SpW w' D d (visC s n c (optI x)).2 ∧ Chg (footP D d) w w' := by
  have hok := wins_ok h.good hn
  have HA : Hid (∀ w : World, WinV w d 0 s.wins s.used → Calls Tryd.prog 70 #[.pointer (some ⟨d, 0, none⟩), .int .i64 (n : Int)] w fun e w' => e = .returned (.int .u32 (nth s.wins n)) ∧ w' = w) := fun w hw => by
    have := at_any d 0 (n : Int) s.wins s.used w hw
    rwa [atW_yes _ n hn] at this
  have HH : Hid (∀ w, Calls Tryd.prog 69 #[.int .u32 (nth s.wins n), .int .u32 x] w fun e w' => e = .returned (.bool (hasI (nth s.wins n) x)) ∧ w' = w) := fun w => holds_any (nth s.wins n) x w (by unfold offOK at hok; omega) (by unfold offOK at hok; omega) x0 (by omega)
  have HV : Hid (visC s n c (optI x) = if hasI (nth s.wins n) x = true then ([16 + (n : Int), 128 + (c - nth s.wins n)], ⟨s.wins, touchL s.used n, false, n⟩) else ([1 + (n : Int), 128 + (c - nth s.wins n)], ⟨s.wins, touchL s.used n, s.uni, s.act⟩)) := by show _ = _; unfold visC; rw [both_is hok]
  obtain ⟨V, hV⟩ : ∃ V, visC s n c (optI x) = V := ⟨_, rfl⟩
  rw [hV] at HV ⊢
  clear hV
  have H : Hid (SpW w D d s ∧ hasI (nth s.wins n) c = true) := ⟨h, hh⟩
  have h5 := h.dy
  obtain ⟨o, ho⟩ : ∃ o, nth s.wins n = o := ⟨_, rfl⟩
  rw [ho] at HA HH
  have HO : Hid (nth s.wins n = o) := ho
  clear h hok hh ho
  go_enter Tryd.func65, Tryd.ntmps65
  go_wp2_with fail
  refine (HA.out _ H.out.1.win).mono ?_
  rintro e w1 ⟨rfl, hw⟩
  rw [hw]
  clear hw w1
  go_wp2_with fail
  refine (HH.out _).mono ?_
  rintro e w1 ⟨rfl, hw⟩
  rw [hw]
  clear hw w1
  cases hb : hasI o x with
  | true =>
    have HE : Hid (V = ([16 + (n : Int), 128 + (c - o)], ⟨s.wins, touchL s.used n, false, n⟩)) := by show _ = _; rw [HV.out, HO.out, if_pos hb]
    have g1 := no_more [16 + (n : Int)] [128 + (c - o)] (by simp)
    clear hb
    go_wp2_with fail
    refine (choose_any D d s n w H.out.1 hn).mono ?_
    rintro e w1 ⟨rfl, S1, C1⟩
    have HS : Hid (SpW w1 D d ⟨s.wins, touchL s.used n, false, n⟩ ∧ Chg (footP D d) w w1) := ⟨S1, C1⟩
    clear S1 C1 h5
    go_wp2_with fail
    refine (numbered_any 16 (n : Int) w1 (by omega) (by omega) (by omega) (by omega)).mono ?_
    rintro e w2 ⟨rfl, b2⟩
    have HB : Hid (Below w1.heap.size w1 w2) := b2
    clear b2
    go_wp2_with fail
    refine (show_any D d _ n c w2 (HS.out.1.below HB.out) hn c0 H.out.2).mono ?_
    rintro e w3 ⟨rfl, b3⟩
    simp only [HO.out]
    go_wp2
    rw [str_two]
    go_ret
    exact ⟨ret_str (by rw [HE.out]), by rw [HE.out]; exact HS.out.1.below (below_two HB.out b3), HS.out.2.trans (chg_of_below (below_two HB.out b3) (Nat.le_refl _) _)⟩
  | false =>
    have HE : Hid (V = ([1 + (n : Int), 128 + (c - o)], ⟨s.wins, touchL s.used n, s.uni, s.act⟩)) := by show _ = _; rw [HV.out, HO.out, if_neg (by rw [hb]; simp)]
    have g1 := no_more [1 + (n : Int)] [128 + (c - o)] (by simp)
    clear hb
    go_wp2_with fail
    refine (touch_any d 0 (n : Int) s.wins s.used w H.out.1.win H.out.1.good.used).mono ?_
    rintro e w1 ⟨rfl, hv, hc, -⟩
    have HS : Hid (SpW w1 D d ⟨s.wins, touchL s.used n, s.uni, s.act⟩ ∧ Chg (footP D d) w w1) := ⟨H.out.1.wset hc hv (good_use H.out.1.good (by omega) (by omega)), hc.mono (fun k j _ h => .inr h.1)⟩
    clear hv hc h5
    go_wp2_with fail
    refine (numbered_any 1 (n : Int) w1 (by omega) (by omega) (by omega) (by omega)).mono ?_
    rintro e w2 ⟨rfl, b2⟩
    have HB : Hid (Below w1.heap.size w1 w2) := b2
    clear b2
    go_wp2_with fail
    refine (show_any D d _ n c w2 (HS.out.1.below HB.out) hn c0 H.out.2).mono ?_
    rintro e w3 ⟨rfl, b3⟩
    simp only [HO.out]
    go_wp2
    rw [str_two]
    go_ret
    exact ⟨ret_str (by rw [HE.out]), by rw [HE.out]; exact HS.out.1.below (below_two HB.out b3), HS.out.2.trans (chg_of_below (below_two HB.out b3) (Nat.le_refl _) _)⟩
set_option maxHeartbeats 4000000 in
set_option maxRecDepth 100000 in
theorem lay_any (D d : Nat) (s : Cmp.ES) (c : Int) (w : World) (h : SpW w D d s) (c0 : 0 ≤ c) (hb : isB c = true) (hw : (∃ d, twinsC c (some d) = true) ∨ 65535 < c) :
    Calls Tryd.prog 64 #[.pointer (some ⟨D, 0, none⟩), .int .u32 c] w fun e w' => e = .returned (.string (Stp.strOf (layC s c (if s.uni = true then 232 else 24) (if s.uni = true then 241 else 11)).1)) ∧ SpW w' D d (layC s c (if s.uni = true then 232 else 24) (if s.uni = true then 241 else 11)).2 ∧ Chg (footP D d) w w' := by
  have hi := isB_iff.1 hb
  have hown : 0 ≤ ownO c ∧ offOK (ownO c) ∧ hasI (ownO c) c = true ∧ (65535 < c ∨ (c ≤ 65535 ∧ ¬ offI (idxI c) < 0 ∧ ownO c = offI (idxI c))) := by
    rcases hw with ⟨d, e⟩ | e
    · exact own_sc c0 hb (.inl e)
    · exact own_sc (d := 0) c0 hb (.inr e)
  have hgood := (good_layC h.good c0 hb hw (if s.uni = true then 232 else 24) (if s.uni = true then 241 else 11)).1
  obtain ⟨n0, n1⟩ := h.good.old
  obtain ⟨n, hn⟩ := Int.eq_ofNat_of_zero_le n0
  have hn8 : n < 8 := by omega
  obtain ⟨X, hX⟩ : ∃ X : Int, (if s.uni = true then 232 else 24) = X := ⟨_, rfl⟩
  obtain ⟨Y, hY⟩ : ∃ Y : Int, (if s.uni = true then 241 else 11) = Y := ⟨_, rfl⟩
  have HXY : Hid ((if s.uni = true then (232 : Int) else 24) = X ∧ (if s.uni = true then (241 : Int) else 11) = Y) := ⟨hX, hY⟩
  have hX2 : 0 ≤ X ∧ X ≤ 240 := by rw [← hX]; split <;> omega
  rw [hX, hY] at hgood ⊢
  obtain ⟨o, ho⟩ : ∃ o, ownO c = o := ⟨_, rfl⟩
  have HL : Hid (layC s c X Y = ((if 65535 < c then [Y, pairH n c, pairL c] else [X + n, idxI c]) ++ [128 + (c - o)], ⟨s.wins.set n o, touchL s.used n, false, n⟩)) := by
    show _ = _
    unfold layC
    rw [hn, ho, Int.toNat_natCast]
  obtain ⟨R, hR⟩ : ∃ R, (if 65535 < c then [Y, pairH n c, pairL c] else [X + n, idxI c]) ++ [128 + (c - o)] = R := ⟨_, rfl⟩
  have HR : Hid ((if 65535 < c then [Y, pairH n c, pairL c] else [X + n, idxI c]) ++ [128 + (c - o)] = R) := hR
  rw [HL.out] at hgood ⊢
  rw [hR]
  clear hR
  have hv := own_yes ho (by rw [← ho]; exact hown.1)
  have HO : Hid (∀ w, Win.Tabs w → Calls Tryd.prog 73 #[.int .u32 c] w fun e w' => e = .returned (.tuple #[.int .u32 o, .bool true]) ∧ w' = w) := fun w hT => by
    have := own_any c w hT c0 (by omega)
    rwa [hv.1, hv.2] at this
  rw [ho] at hown
  have HW : Hid (0 ≤ o ∧ offOK o ∧ hasI o c = true ∧ (65535 < c ∨ (c ≤ 65535 ∧ ¬ offI (idxI c) < 0 ∧ o = offI (idxI c)))) := hown
  have HG : Hid (GoodE ⟨s.wins.set n o, touchL s.used n, false, n⟩ ∧ s.wins.length = 8 ∧ nth s.used 0 = n) := ⟨hgood, h.good.len, hn⟩
  have H : Hid (SpW w D d s) := h
  have h5 := h.dy
  have h7 := h.un
  clear h hb hw hown hgood n0 n1 hX hY hv ho hn HL
  go_enter Tryd.func64, Tryd.ntmps64
  go_upto_if 18 with fail
  go_cut [5, 6] (fun p q wc => p = .int .u8 X ∧ q = .int .u8 Y ∧ wc = w)
  case first =>
    cases hu : s.uni with
    | true =>
      have HZ : Hid (X = 232 ∧ Y = 241) := by
        have := HXY.out
        rw [hu, if_pos rfl, if_pos rfl] at this
        exact ⟨this.1.symm, this.2.symm⟩
      clear hu HXY
      go_wp2_with fail
      go_meet
      case rel => exact ⟨by rw [HZ.out.1], by rw [HZ.out.2], rfl⟩
    | false =>
      have HZ : Hid (X = 24 ∧ Y = 11) := by
        have := HXY.out
        rw [hu, if_neg (by simp), if_neg (by simp)] at this
        exact ⟨this.1.symm, this.2.symm⟩
      clear hu HXY
      go_wp2_with fail
      go_meet
      case rel => exact ⟨by rw [HZ.out.1], by rw [HZ.out.2], rfl⟩
  case rest =>
    obtain ⟨rfl, rfl, rfl⟩ := hcut
    clear h7 HXY
    have hol := oldest_any d 0 s.wins s.used wc H.out.win
    rw [HG.out.2.2] at hol
    go_wp2_with fail
    refine hol.mono ?_
    rintro e w1 ⟨rfl, hw⟩
    rw [hw]
    clear hw w1 hol
    go_wp2_with fail
    refine (HO.out _ H.out.tabs.win).mono ?_
    rintro e w1 ⟨rfl, hw⟩
    rw [hw]
    clear hw w1
    go_wp2_with fail
    refine (set_any d 0 (n : Int) o s.wins s.used wc H.out.win HW.out.1 (by have := HW.out.2.1; unfold offOK at this; omega)).mono ?_
    rintro e w1 ⟨rfl, hv, hc, -⟩
    rw [setL_yes _ n o hn8] at hv
    have HS1 : Hid (SpW w1 D d ⟨s.wins.set n o, s.used, s.uni, s.act⟩ ∧ Chg (footP D d) wc w1) := ⟨H.out.wset hc hv ⟨by rw [List.length_set]; exact HG.out.2.1, H.out.good.act, H.out.good.used, set_ok H.out.good.wins HW.out.2.1⟩, hc.mono (fun k j _ h => .inr h.1)⟩
    clear hv hc h5
    go_wp2_with fail
    refine (choose_any D d _ n w1 HS1.out.1 hn8).mono ?_
    rintro e w2 ⟨rfl, S2, C2⟩
    have HS2 : Hid (SpW w2 D d ⟨s.wins.set n o, touchL s.used n, false, n⟩ ∧ Chg (footP D d) wc w2) := ⟨S2, HS1.out.2.trans C2⟩
    clear S2 C2 HS1
    have hwn : nth (s.wins.set n o) n = o := nth_set_is s.wins n o (by rw [HG.out.2.1]; exact hn8)
    have HSH : Hid (∀ w, Below w2.heap.size w2 w → Calls Tryd.prog 71 #[.pointer (some ⟨D, 0, none⟩), .int .i64 (n : Int), .int .u32 c] w fun e w' => e = .returned (.string (Stp.strOf [128 + (c - o)])) ∧ Below w.heap.size w w') := fun w hb => by
      have := show_any D d ⟨s.wins.set n o, touchL s.used n, false, n⟩ n c w (HS2.out.1.below hb) hn8 c0 (by rw [hwn]; exact HW.out.2.2.1)
      rwa [hwn] at this
    clear hwn
    have hix := index_any c w2 HS2.out.1.tabs.win c0 (by omega)
    by_cases h65 : 65535 < c
    · have hin : idxI c = -1 := by
        rcases idx_has c with e | ⟨e1, e2, e3, e4⟩
        · exact e
        · have := has_iff.1 e4
          have := offI_top e1
          omega
      have hi2 := idx_not hin
      rw [hi2.1, hi2.2] at hix
      have hpb : pairB (n : Int) c = true := pairB_iff.2 ⟨by omega, by omega, by omega, by omega⟩
      have hpr := pair_any (n : Int) c w2 c0 (by omega)
      unfold pairV at hpr
      rw [hpb, if_pos rfl, if_pos rfl] at hpr
      have HB : Hid (0 ≤ pairH n c ∧ pairH n c < 256 ∧ 0 ≤ pairL c ∧ pairL c < 256) := by show _ ∧ _; unfold pairH pairL; omega
      have g1 := no_more [Y, pairH n c, pairL c] [128 + (c - o)] (by simp)
      have HR2 : Hid ([Y, pairH n c, pairL c] ++ [128 + (c - o)] = R) := by show _ = _; rw [← HR.out, if_pos h65]
      clear HR
      generalize pairH n c = ph at *
      generalize pairL c = pl at *
      clear hin hi2 hpb
      go_wp2_with fail
      refine hix.mono ?_
      rintro e w3 ⟨rfl, hw⟩
      rw [hw]
      clear hw w3
      go_wp2_with fail
      refine hpr.mono ?_
      rintro e w3 ⟨rfl, hw⟩
      rw [hw]
      clear hw w3
      go_upto_region 12 with fail
      have hB0 : Below w2.heap.size w2 w2.drew := (Below.refl _ _).drew
      have HB1 : Hid (∀ O, Below w2.heap.size w2 (w2.alloc O).drew) := fun O => ((Below.refl _ _).alloc (Nat.le_refl _) O).drew
      have HRW : Hid (Row .u8 (w2.alloc (.cells #[.int .u8 Y, .int .u8 ph, .int .u8 pl] 5)).drew (some ⟨w2.heap.size, 0, none⟩) [Y, ph, pl]) := row_new .u8 w2.drew [Y, ph, pl] _ _ rfl
      have hcv := Stp.run_string (w2.alloc (.cells #[.int .u8 Y, .int .u8 ph, .int .u8 pl] 5)).drew (some ⟨w2.heap.size, 0, none⟩) 3 3 [Y, ph, pl] HRW.out rfl
      go_region_with (go_at_call 71; refine (HSH.out _ ?_).mono ?_; (first | exact hB0 | exact HB1.out _); rintro e w5 ⟨rfl, b5⟩; have hcv5 := Stp.run_string (w5.alloc (.cells #[.int .u8 Y, .int .u8 ph, .int .u8 pl] 5)) (some ⟨w5.heap.size, 0, none⟩) 3 3 [Y, ph, pl] (row_new .u8 w5 [Y, ph, pl] _ _ rfl) rfl; (try have hcv6 := Stp.run_string w5 (some ⟨w2.heap.size, 0, none⟩) 3 3 [Y, ph, pl] (HRW.out.mono b5) rfl))
      all_goals (go_wp2; go_ret)
      · have HB : Hid (Below w2.heap.size w2 _) := below_two (HB1.out _) b5
        exact ⟨ret_str (by rw [← HR2.out, strOf_append]), HS2.out.1.below HB.out, HS2.out.2.trans (chg_of_below HB.out (Nat.le_refl _) _)⟩
      · have HB : Hid (Below w2.heap.size w2 _) := below_two (HB1.out _) b5
        exact ⟨ret_str (by rw [← HR2.out, strOf_append]), HS2.out.1.below HB.out, HS2.out.2.trans (chg_of_below HB.out (Nat.le_refl _) _)⟩
      · have HB : ∀ O, Below w2.heap.size w2 _ := fun O => (below_two hB0 b5).alloc (below_two hB0 b5).size O
        exact ⟨ret_str (by rw [← HR2.out, strOf_append]), HS2.out.1.below (HB _), HS2.out.2.trans (chg_of_below (HB _) (Nat.le_refl _) _)⟩
    · have hin : 1 ≤ idxI c ∧ idxI c ≤ 255 := by
        rcases idx_has c with e | ⟨e1, e2, e3, e4⟩
        · exfalso
          rcases HW.out.2.2.2 with e5 | ⟨-, e5, -⟩
          · omega
          · exact absurd e5 (by rw [e]; decide)
        · exact ⟨e1, e2⟩
      have hi2 := idx_yes (x := idxI c) (by omega)
      rw [hi2.1, hi2.2] at hix
      have g1 := no_more [X + n] [idxI c] (by simp)
      have g2 := no_more ([X + (n : Int)] ++ [idxI c]) [128 + (c - o)] (by simp)
      rw [strOf_append] at g2
      have HR2 : Hid ([X + (n : Int), idxI c] ++ [128 + (c - o)] = R) := by show _ = _; rw [← HR.out, if_neg h65]
      clear HR
      generalize idxI c = ix at *
      clear hi2
      go_wp2_with fail
      refine hix.mono ?_
      rintro e w3 ⟨rfl, hw⟩
      rw [hw]
      clear hw w3
      go_wp2_with fail
      refine (numbered_any X (n : Int) w2 (by omega) (by omega) (by omega) (by omega)).mono ?_
      rintro e w3 ⟨rfl, b3⟩
      go_wp2_with fail
      refine (one_any ix w3).mono ?_
      rintro e w4 ⟨rfl, b4⟩
      have HB4 : Hid (Below w2.heap.size w2 w4) := below_two b3 b4
      clear b3 b4
      go_wp2_with fail
      refine (HSH.out w4 HB4.out).mono ?_
      rintro e w5 ⟨rfl, b5⟩
      have HB5 : Hid (Below w2.heap.size w2 w5) := below_two HB4.out b5
      clear b5
      go_wp2
      go_ret
      exact ⟨ret_str (by rw [← HR2.out, strOf_append, ← str_two]), HS2.out.1.below HB5.out, HS2.out.2.trans (chg_of_below HB5.out (Nat.le_refl _) _)⟩
end CP
end Go.Proofs.YtpglmfhlgaliaaaDoor
