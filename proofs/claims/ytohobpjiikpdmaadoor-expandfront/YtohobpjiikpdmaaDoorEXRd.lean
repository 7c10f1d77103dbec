/-
  The contract of the law's own 'read': a text in whatever parts, with whatever room, as a walk over the translated text. The condition: the decoder is a new one; text and lists are small.
-/
import Derived.Test.YtohobpjiikpdmaaDoorEXFeed
import Derived.Deep.CutBlock
import Derived.Deep.DeepCutAuto
namespace Go.Proofs.YtohobpjiikpdmaaDoor
open Go.ChangeShapes Go.WideShapes Go.ChangeAt Go.RowKit
namespace EX
open Bas Sca Stp Scn Cod
set_option linter.unusedVariables false
variable {π : Par}

/-- Behind a whole text and End: the error, has it ended? -/
def endQ (X : Res St) : Int := if X.bad = true then 3 else if rest X.st = true then 0 else 4
def endE (X : Res St) : Bool := !X.bad && rest X.st
/-- What 'read' leaves. -/
def ReadQ (π : Par) (b : Nat) (v u : Value) (X : Res St) (vo : Value) (w w' : World) : Prop :=
  ∃ v' u', Seg .u32 w' vo X.told ∧ (∀ g, vo.ownBlock = some g → w.heap.size ≤ g) ∧ DecV π w' b X.eaten (endQ X) (endE X) X.st [] v' u' ∧ Chg (fun k _ => footD b v u k) w w'

theorem fld (q a : Int) (w : World) : (Instr.field 35 (.agg #[.int .i64 q, .int .i64 a]) 0).run Tryd.prog w = .ok (.int .i64 q) w := by kernel_rfl
theorem endQ_eq (X : Res St) (q : Int) (hq : q = if X.bad = true then 3 else 0) : (if rest X.st = true then q else stopI q false 4) = endQ X ∧ endB (if rest X.st = true then q else stopI q false 4) false = endE X ∧ goB (endQ X) (endE X) = false := by
  obtain ⟨t, n, st, bad⟩ := X
  subst hq
  cases bad <;> cases h : rest st <;> simp [endQ, endE, h, stopI, endB, goB]
theorem read_fin {b : Nat} {p : Int} {v u v2 u2 vo : Value} {X : Res St} {q : Int} {en : Bool} {w w5 : World} (hX : p = X.eaten) (hq : q = endQ X) (hen : en = endE X) (hs : Seg .u32 w5 vo X.told) (hf : ∀ g, vo.ownBlock = some g → w.heap.size ≤ g)
    (D : DecV π w5 b p q en X.st [] v2 u2) (C : Chg (fun k _ => footD b v u k) w w5) : ReadQ π b v u X vo w w5 := by
  subst hX hq hen
  exact ⟨v2, u2, hs, hf, D, C⟩

set_option maxHeartbeats 8000000 in
set_option maxRecDepth 100000 in
theorem read_any (b : Nat) (v u : Value) (str : ByteArray) (a1 a2 : Option Addr) (n1 c1 n2 c2 : Nat) (parts rooms : List Int) (X : Res St) (w : World) (h : DecV π w b 0 0 false (st0 π) [] v u) (hX : X = scan (stepU π) (st0 π) (bytesL str))
    (P : Ints .i64 w a1 n1 c1 parts) (R : Ints .i64 w a2 n2 c2 rooms) (hP : ∀ b' o', 0 < n1 → a1 = some ⟨b', o', none⟩ → ¬ footD b v u b') (hR : ∀ b' o', 0 < n2 → a2 = some ⟨b', o', none⟩ → ¬ footD b v u b')
    (h1 : n1 ≤ 100000) (h2 : n2 ≤ 100000) (hs : str.size ≤ 100000) :
    Calls Tryd.prog 12 #[.pointer (some ⟨b + 1, 0, none⟩), .string str, .slice a1 n1 c1, .slice a2 n2 c2] w fun e w' => ∃ vo, e = .returned (.tuple #[vo, .bool true]) ∧ ReadQ π b v u X vo w w' := by
  have H : Hid (DecV π w b 0 0 false (st0 π) [] v u) := h
  have HX : Hid (X = scan (stepU π) (st0 π) (bytesL str)) := hX
  have HP : Hid (Ints .i64 w a1 n1 c1 parts ∧ ∀ b' o', 0 < n1 → a1 = some ⟨b', o', none⟩ → ¬ footD b v u b') := ⟨P, hP⟩
  have HR : Hid (Ints .i64 w a2 n2 c2 rooms ∧ ∀ b' o', 0 < n2 → a2 = some ⟨b', o', none⟩ → ¬ footD b v u b') := ⟨R, hR⟩
  have HL : Hid ((bytesL str).length = str.size) := bytesL_length str
  clear h hX P R hP hR
  go_enter Tryd.func12, Tryd.ntmps12
  go_wp2
  go_loopw [1, 10, 12] (fun s1 o1 k1 wr => ∃ (k E : Nat) (t : List Int) (st : St) (v' u' : Value), k1 = .int .i64 k ∧ s1 = .string (str.extract E str.size) ∧ E ≤ str.size ∧ k ≤ n1 + n2 + E ∧ DecV π wr b E 0 false st [] v' u' ∧
      Seg .u32 wr o1 t ∧ (∀ g, o1.ownBlock = some g → w.heap.size ≤ g ∧ ¬ footD b v' u' g) ∧ X = (scan (stepU π) st ((bytesL str).drop E)).pre t E ∧ Chg (fun k _ => footD b v u k) w wr ∧ Mov w v v' ∧ Mov w u u' ∧ t.length ≤ E) (fun _ _ k1 _ => n1 + n2 + str.size + 8 - (intOf k1).toNat)
  case atStart => exact ⟨0, 0, [], st0 π, v, u, rfl, by simp, Nat.zero_le _, Nat.zero_le _, H.out, seg_nil _ _, fun g hg => by simp [Value.ownBlock] at hg, by rw [HX.out]; simp [Res.pre], Chg.refl _ _, mov_refl _ _, mov_refl _ _, by simp⟩
  case round =>
    obtain ⟨k, E, t, st, v', u', rfl, rfl, hE, hk, hD, hsg, hown, hXe, hC, hM, hU, htE⟩ := hrel
    have HD : Hid (DecV π wr b E 0 false st [] v' u') := hD
    have HO : Hid (Seg .u32 wr u10 t ∧ (∀ g, u10.ownBlock = some g → w.heap.size ≤ g ∧ ¬ footD b v' u' g)) := ⟨hsg, hown⟩
    have HXE : Hid (X = (scan (stepU π) st ((bytesL str).drop E)).pre t E) := hXe
    have HC : Hid (Chg (fun k _ => footD b v u k) w wr ∧ Mov w v v' ∧ Mov w u u') := ⟨hC, hM, hU⟩
    clear hD hsg hown hXe hC hM hU
    have hlt : (k : Int) < (n1 : Int) + n2 + str.size + 8 := by omega
    go_upto_if 39 with fail
    go_cut [13] (fun n wc => ∃ nn : Nat, n = .int .i64 nn ∧ nn ≤ str.size - E ∧ (n1 ≤ k → nn = str.size - E) ∧ wc = wr)
    case first =>
      by_cases hk1 : k < n1
      · rw [show decide (k < n1) = true by simpa using hk1]
        obtain ⟨bp, op, hap, hcp⟩ := HP.out.1.row
        have hpl := HP.out.1.len
        obtain rfl := hap (ne_nil_of hpl hk1)
        have hcell : wr.cell? ⟨bp, op + k, none⟩ = some (.int .i64 (nth parts k)) := HC.out.1.cellAt (hcp k (by omega)) (HP.out.2 bp op (by omega) rfl)
        have hlt1 : (k : Int) < (n1 : Int) := by omega
        obtain ⟨pp, hpp⟩ : ∃ pp, nth parts k = pp := ⟨_, rfl⟩
        rw [hpp] at hcell
        clear hcp hap hpl hpp
        obtain ⟨sz, hsz⟩ : ∃ sz, str.size - E = sz := ⟨_, rfl⟩
        rw [hsz]
        have HSZ : Hid (str.size - E = sz) := hsz
        clear hsz
        have h0 : ¬ (sz : Int) < 0 := by omega
        by_cases hp0 : pp < 0
        · go_wp2_with fail
          go_meet
          case rel => exact ⟨0, (by first | rfl | exact congrArg (Value.int .i64) (by omega)), by omega, fun h => by omega, rfl⟩
        · obtain ⟨m, rfl⟩ := Int.eq_ofNat_of_zero_le (show 0 ≤ pp by omega)
          by_cases hp1 : (m : Int) ≤ (sz : Int)
          · go_wp2_with fail
            go_meet
            case rel => exact ⟨m, (by first | rfl | exact congrArg (Value.int .i64) (by omega)), by have := HSZ.out; omega, fun h => by omega, rfl⟩
          · have hp2 : (sz : Int) < (m : Int) := by omega
            go_wp2_with fail
            go_meet
            case rel => exact ⟨sz, (by first | rfl | exact congrArg (Value.int .i64) (by omega)), by have := HSZ.out; omega, fun h => by omega, rfl⟩
      · rw [show decide (k < n1) = false by simpa using hk1]
        go_wp2_with fail
        go_meet
        case rel => exact ⟨str.size - E, rfl, Nat.le_refl _, fun _ => rfl, rfl⟩
    case rest =>
      obtain ⟨nn, rfl, hnn, hnk, rfl⟩ := hcut
      have HNK : Hid (n1 ≤ k → nn = str.size - E) := hnk
      clear hnk
      go_upto_if 50 with fail
      go_cut [14] (fun r wc' => ∃ rr : Nat, r = .int .i64 rr ∧ rr ≤ 100 ∧ (n2 ≤ k → rr = 8) ∧ wc' = wc)
      case first =>
        by_cases hk1 : k < n2
        · rw [show decide (k < n2) = true by simpa using hk1]
          obtain ⟨bp, op, hap, hcp⟩ := HR.out.1.row
          have hpl := HR.out.1.len
          obtain rfl := hap (ne_nil_of hpl hk1)
          have hcell : wc.cell? ⟨bp, op + k, none⟩ = some (.int .i64 (nth rooms k)) := HC.out.1.cellAt (hcp k (by omega)) (HR.out.2 bp op (by omega) rfl)
          have hlt1 : (k : Int) < (n2 : Int) := by omega
          obtain ⟨pp, hpp⟩ : ∃ pp, nth rooms k = pp := ⟨_, rfl⟩
          rw [hpp] at hcell
          clear hcp hap hpl hpp
          by_cases hp0 : pp < 0
          · go_wp2_with fail
            go_meet
            case rel => exact ⟨0, (by first | rfl | exact congrArg (Value.int .i64) (by omega)), by omega, fun h => by omega, rfl⟩
          · obtain ⟨m, rfl⟩ := Int.eq_ofNat_of_zero_le (show 0 ≤ pp by omega)
            by_cases hp1 : (m : Int) ≤ 100
            · go_wp2_with fail
              go_meet
              case rel => exact ⟨m, (by first | rfl | exact congrArg (Value.int .i64) (by omega)), by omega, fun h => by omega, rfl⟩
            · have hp2 : 100 < (m : Int) := by omega
              go_wp2_with fail
              go_meet
              case rel => exact ⟨100, (by first | rfl | exact congrArg (Value.int .i64) (by omega)), by omega, fun h => by omega, rfl⟩
        · rw [show decide (k < n2) = false by simpa using hk1]
          go_wp2_with fail
          go_meet
          case rel => exact ⟨8, rfl, by omega, fun _ => rfl, rfl⟩
      case rest =>
        obtain ⟨rr, rfl, hrr, hrk, rfl⟩ := hcut
        have HRK : Hid (n2 ≤ k → rr = 8) := hrk
        clear hrk
        go_wp2_with fail
        obtain ⟨Y, hY⟩ : ∃ Y, Y = feed (stepU π) rr st 0 (((bytesL str).drop E).take nn) := ⟨_, rfl⟩
        have hYe : Y.eaten ≤ nn := by
          rw [hY]
          have := feed_le (stepU π) rr (((bytesL str).drop E).take nn) st 0
          simp only [List.length_take] at this
          omega
        have hYr : (Y.told.length : Int) ≤ rr := by
          rw [hY]
          have := feed_room (stepU π) (step_one π) rr (((bytesL str).drop E).take nn) st 0 (by omega)
          omega
        refine (feed_any b E st v' u' ((str.extract E str.size).extract 0 nn) rr Y wc HD.out (by rw [hY, bytesL_take, bytesL_drop]) (wf_small _ (by omega) (by omega)) (by simp; omega) (by omega) (by omega)).mono ?_
        rintro e w2 ⟨vr, rfl, Q2⟩
        have HY : Hid (Y = feed (stepU π) rr st 0 (((bytesL str).drop E).take nn)) := hY
        obtain ⟨v2, u2, hsr, hfr, hD2, hC2, hM2, hU2⟩ := Q2
        obtain ⟨ar, cr, hvr, hrowr, -, -, -, hnilr⟩ := hsr.form
        obtain ⟨yl, hyl⟩ : ∃ yl, Y.told.length = yl := ⟨_, rfl⟩
        rw [hyl] at hvr hYr
        subst hvr
        have HD2 : Hid (DecV π w2 b ((E : Int) + Y.eaten) (if Y.bad = true then 3 else 0) false Y.st [] v2 u2) := hD2
        have HS2 : Hid (Row .u32 w2 ar Y.told ∧ Y.told.length = yl ∧ (ar = none → cr = 0)) := ⟨hrowr, hyl, hnilr⟩
        have HO2 : Hid (Seg .u32 w2 u10 t ∧ (∀ g, u10.ownBlock = some g → w.heap.size ≤ g ∧ g < w2.heap.size ∧ ¬ footD b v2 u2 g)) := by
          obtain ⟨hsg, hown⟩ := HO.out
          refine ⟨hsg.chg hC2 (fun g o hg => (hown g hg).2), fun g hg => ⟨(hown g hg).1, ?_, fun hf => ?_⟩⟩
          · exact Nat.lt_of_lt_of_le (hsg.lt hg) hC2.size
          · have hlt := hsg.lt hg
            rcases hf with hf | hf | hf
            · exact (hown g hg).2 (.inl hf)
            · rcases hM2 g hf with e | e
              · exact (hown g hg).2 (.inr (.inl e))
              · omega
            · rcases hU2 g hf with e | e
              · exact (hown g hg).2 (.inr (.inr e))
              · omega
        have HC2 : Hid (Chg (fun k _ => footD b v u k) w w2 ∧ Mov w v v2 ∧ Mov w u u2) := by
          obtain ⟨hC, hM, hU⟩ := HC.out
          refine ⟨hC.trans2 hC2 (fun _ _ _ h => h) (fun k j hk h => ?_), mov_trans hM hM2 hC.size, mov_trans hU hU2 hC.size⟩
          rcases h with h | h | h
          · exact .inl h
          · rcases hM k h with e | e
            · exact .inr (.inl e)
            · omega
          · rcases hU k h with e | e
            · exact .inr (.inr e)
            · omega
        clear hY hyl hsr hfr hD2 hC2 hM2 hU2 hrowr hnilr HO HC HD
        have f1 : ¬ (Y.eaten : Int) < 0 := by omega
        have f2 : ¬ (Y.eaten : Int) > nn := by omega
        have f3 : ¬ (yl : Int) > rr := by omega
        have f4 : Y.eaten ≤ str.size - E := by omega
        go_wp2_with (at_builtin; go_must (refine wpList_append_seg rfl _ _ 27 27 rfl .u32 44 4 Tryd.underlying27 info_u32 u10 t Y.told rfl HO2.out.1 _ rfl (src_row Tryd.underlying27 HS2.out.1 HS2.out.2.1 HS2.out.2.2) (by have := HS2.out.2.1; unfold maxLen; omega) (by have := HS2.out.2.1; omega) ?_; intro vo w3 hs3 hc3 hm3))
        have D3 : DecV π w3 b ((E : Int) + Y.eaten) (if Y.bad = true then 3 else 0) false Y.st [] v2 u2 :=
          HD2.out.chg hc3 (fun k j hf hu => (HO2.out.2 k hu).2.2 hf) (fun k0 hk0 j hu => by have := (HO2.out.2 k0 hu).1; have := H.out.tabs.pos; omega)
        have HO3 : Hid (Seg .u32 w3 vo (t ++ Y.told) ∧ (∀ g, vo.ownBlock = some g → w.heap.size ≤ g ∧ ¬ footD b v2 u2 g)) := by
          refine ⟨hs3, fun g hg => ?_⟩
          rcases hm3 g hg with e | e
          · exact ⟨(HO2.out.2 g e).1, (HO2.out.2 g e).2.2⟩
          · have h2s := HC2.out.1.size
            exact ⟨by omega, fun hf => by have := HD2.out.foot_lt hf; omega⟩
        have HC3 : Hid (Chg (fun k _ => footD b v u k) w w3) := HC2.out.1.trans2 hc3 (fun _ _ _ h => h) (fun k j hk h => by have := (HO2.out.2 k h).1; omega)
        have HSC : Hid (scan (stepU π) st ((bytesL str).drop E) = if Y.bad = true then Y else (scan (stepU π) Y.st (((bytesL str).drop E).drop Y.eaten)).pre Y.told Y.eaten) := by
          have := scan_feed (stepU π) rr ((bytesL str).drop E) st 0 nn
          rw [← HY.out] at this
          exact this
        have hgo : Y.bad = true ∨ ¬ (n1 ≤ k ∧ n2 ≤ k ∧ E < str.size ∧ Y.eaten = 0) := by
          by_cases hc : n1 ≤ k ∧ n2 ≤ k ∧ E < str.size ∧ Y.eaten = 0
          · left
            have hr8 := HRK.out hc.2.1
            have hn8 := HNK.out hc.1
            have hne : ((bytesL str).drop E).take nn ≠ [] := by
              intro e
              have : (((bytesL str).drop E).take nn).length = 0 := by rw [e]; rfl
              rw [List.length_take, List.length_drop, HL.out] at this
              omega
            have := feed_goes (stepU π) rr (((bytesL str).drop E).take nn) st 0 (by omega) hne
            rw [← HY.out] at this
            rcases this with h | h
            · exact h
            · omega
          · right; exact hc
        have HM4 : Hid (Mov w v v2 ∧ Mov w u u2) := HC2.out.2
        have HT4 : Hid (Y.told.length ≤ Y.eaten) := by
          show Y.told.length ≤ Y.eaten
          rw [HY.out]; exact feed_short (stepU π) (step_one π) rr _ st 0
        clear hs3 hc3 hm3 HD2 HO2 HC2 HS2 HY HRK HNK f1 f2 f3
        rw [ext_ext str E Y.eaten (by omega)]
        have HD3 : Hid (DecV π w3 b ((E : Int) + Y.eaten) (if Y.bad = true then 3 else 0) false Y.st [] v2 u2) := D3
        clear D3
        refine (fail_any (b + 1) 0 _ _ false w3 HD3.out.base).mono ?_
        rintro e w4 ⟨rfl, hb4⟩
        have HD4 : Hid (DecV π w4 b ((E : Int) + Y.eaten) (if Y.bad = true then 3 else 0) false Y.st [] v2 u2) := HD3.out.below hb4
        have HO4 : Hid (Seg .u32 w4 vo (t ++ Y.told) ∧ (∀ g, vo.ownBlock = some g → w.heap.size ≤ g ∧ ¬ footD b v2 u2 g)) := ⟨HO3.out.1.chg (chg_of_below hb4 (Nat.le_refl _) (fun _ _ => False)) (fun _ _ _ h => h), HO3.out.2⟩
        have HC4 : Hid (Chg (fun k _ => footD b v u k) w w4) := HC3.out.trans (chg_of_below hb4 (Nat.le_refl _) _)
        clear hb4 HD3 HO3 HC3
        obtain ⟨vf, hvf⟩ : ∃ vf, failAt ((E : Int) + Y.eaten) (if Y.bad = true then 3 else 0) = vf := ⟨_, rfl⟩
        rw [hvf]
        clear hvf
        cases hbad : Y.bad with
        | true =>
          have HX5 : Hid (X = ⟨t ++ Y.told, E + Y.eaten, Y.st, true⟩) := by
            show _ = _
            rw [HXE.out, HSC.out, if_pos hbad]
            simp [Res.pre, hbad]
          rw [hbad] at HD4
          clear hbad hgo HSC HXE
          rw [if_pos rfl] at HD4
          rw [if_pos rfl]
          have hfl := fld 3 vf
          go_wp2_with fail
          refine (dEnd_any b _ _ _ Y.st [] v2 u2 w4 HD4.out).mono ?_
          rintro e w5 ⟨rfl, D5, C5⟩
          have hEQ := endQ_eq X 3 (by rw [HX5.out]; rfl)
          have HD5 : Hid (DecV π w5 b ((E : Int) + Y.eaten) (endQ X) (endE X) X.st [] v2 u2) := by
            have e1 : X.st = Y.st := by rw [HX5.out]
            rw [e1] at hEQ ⊢
            rw [hEQ.1] at D5
            have e2 := hEQ.2.1
            rw [hEQ.1] at e2
            rw [e2] at D5
            exact D5
          have HG : Hid (goB (endQ X) (endE X) = false) := hEQ.2.2
          have HO5 : Hid (Seg .u32 w5 vo (t ++ Y.told) ∧ Chg (fun k _ => footD b v u k) w w5) := ⟨HO4.out.1.chg C5 (fun g o hg hh => (HO4.out.2 g hg).2 (.inl (.inr hh.1))), HC4.out.trans2 C5 (fun _ _ _ h => h) (fun k j _ h => .inl (.inr h.1))⟩
          clear D5 C5 hEQ HD4 HC4 hfl
          go_wp2_with fail
          go_loopw [10, 17] (fun o i wr => o = vo ∧ i = .int .i64 0 ∧ wr = w5) (fun _ _ _ => 0)
          case atStart => exact ⟨rfl, rfl, rfl⟩
          case round =>
            obtain ⟨rfl, rfl, rfl⟩ := hrel
            go_wp2_with fail
            refine (inDone_any (b + 1) 0 _ _ _ v2 [] _ HD5.out.base HD5.out.row).mono ?_
            rintro e w6 ⟨rfl, rfl⟩
            rw [HG.out, show (!false && (([] : List Int).length == 0)) = true from rfl]
            go_wp2
            go_ret2
            exact ⟨_, rfl, read_fin (by rw [HX5.out]; simp) rfl rfl (by rw [HX5.out]; exact HO5.out.1) (fun g hg => (HO4.out.2 g hg).1) HD5.out HO5.out.2⟩
        | false =>
          have HX5 : Hid (X = (scan (stepU π) Y.st ((bytesL str).drop (E + Y.eaten))).pre (t ++ Y.told) (E + Y.eaten)) := by
            show _ = _
            rw [HXE.out, HSC.out, if_neg (by simp [hbad]), Res.pre_pre, List.drop_drop]
          rw [hbad] at HD4
          have hgo' : ¬ (n1 ≤ k ∧ n2 ≤ k ∧ E < str.size ∧ Y.eaten = 0) := by
            rcases hgo with h | h
            · rw [hbad] at h; cases h
            · exact h
          clear hbad hgo HSC HXE
          rw [if_neg (by simp)] at HD4
          rw [if_neg (by simp)]
          have hfl := fld 0 vf
          obtain ⟨s4, hs4⟩ : ∃ s4, str.extract (E + Y.eaten) str.size = s4 := ⟨_, rfl⟩
          rw [hs4]
          have hz4 : s4.size = str.size - (E + Y.eaten) := by rw [← hs4]; simp
          have HS4 : Hid (str.extract (E + Y.eaten) str.size = s4) := hs4
          clear hs4
          by_cases hend : E + Y.eaten = str.size
          · have h40 : s4 = ⟨#[]⟩ := by
              apply str_ext
              have : s4.data.toList.length = 0 := by rw [Array.length_toList]; show s4.size = 0; omega
              rw [List.length_eq_zero_iff.1 this]
            subst h40
            clear hz4
            by_cases hkn : (k : Int) ≥ (n1 : Int)
            · have HX6 : Hid (X = ⟨t ++ Y.told, E + Y.eaten, Y.st, false⟩) := by
                show _ = _
                rw [HX5.out, List.drop_of_length_le (by rw [HL.out]; omega)]
                simp [scan, Res.pre]
              go_wp2_with fail
              refine (dEnd_any b _ _ _ Y.st [] v2 u2 w4 HD4.out).mono ?_
              rintro e w5 ⟨rfl, D5, C5⟩
              have hEQ := endQ_eq X 0 (by rw [HX6.out]; rfl)
              have HD5 : Hid (DecV π w5 b ((E : Int) + Y.eaten) (endQ X) (endE X) X.st [] v2 u2) := by
                have e1 : X.st = Y.st := by rw [HX6.out]
                rw [e1] at hEQ ⊢
                rw [hEQ.1] at D5
                have e2 := hEQ.2.1
                rw [hEQ.1] at e2
                rw [e2] at D5
                exact D5
              have HG : Hid (goB (endQ X) (endE X) = false) := hEQ.2.2
              have HO5 : Hid (Seg .u32 w5 vo (t ++ Y.told) ∧ Chg (fun k _ => footD b v u k) w w5) := ⟨HO4.out.1.chg C5 (fun g o hg hh => (HO4.out.2 g hg).2 (.inl (.inr hh.1))), HC4.out.trans2 C5 (fun _ _ _ h => h) (fun k j _ h => .inl (.inr h.1))⟩
              clear D5 C5 hEQ HD4 HC4 hfl
              go_wp2_with fail
              go_loopw [10, 17] (fun o i wr => o = vo ∧ i = .int .i64 0 ∧ wr = w5) (fun _ _ _ => 0)
              case atStart => exact ⟨rfl, rfl, rfl⟩
              case round =>
                obtain ⟨rfl, rfl, rfl⟩ := hrel
                go_wp2_with fail
                refine (inDone_any (b + 1) 0 _ _ _ v2 [] _ HD5.out.base HD5.out.row).mono ?_
                rintro e w6 ⟨rfl, rfl⟩
                rw [HG.out, show (!false && (([] : List Int).length == 0)) = true from rfl]
                go_wp2
                go_ret2
                exact ⟨_, rfl, read_fin (by rw [HX6.out]; simp) rfl rfl (by rw [HX6.out]; exact HO5.out.1) (fun g hg => (HO4.out.2 g hg).1) HD5.out HO5.out.2⟩
            · have hkn' : (k : Int) < (n1 : Int) := by omega
              go_wp2
              go_roundw
              case rel => exact ⟨k + 1, E + Y.eaten, t ++ Y.told, Y.st, v2, u2, by go_num, by rw [HS4.out], by omega, by omega, by exact_mod_cast HD4.out, HO4.out.1, HO4.out.2, HX5.out, HC4.out, HM4.out.1, HM4.out.2, by rw [List.length_append]; have := HT4.out; omega⟩
              case measure => simp [intOf]; omega
          · have h40 : s4 ≠ ⟨#[]⟩ := by
              intro e
              have : s4.size = 0 := by rw [e]; rfl
              omega
            have h41 : ¬ s4.toList = [] := by
              intro e
              rw [ByteArray.toList_eq] at e
              have : s4.size = 0 := by show s4.data.size = 0; rw [← Array.length_toList, e]; rfl
              omega
            clear h40
            clear hz4
            by_cases hkn : (k : Int) ≥ (n1 : Int)
            · by_cases hkm : (k : Int) ≥ (n2 : Int)
              · have he1 : ((Y.eaten : Int) == 0) = false := by
                  have : Y.eaten ≠ 0 := fun e => hgo' ⟨by omega, by omega, by omega, e⟩
                  simp; omega
                have he2 : Y.eaten ≠ 0 := fun e => hgo' ⟨by omega, by omega, by omega, e⟩
                have HE2 : Hid (1 ≤ Y.eaten) := by show 1 ≤ Y.eaten; omega
                clear he2 hgo'
                go_wp2
                go_roundw
                case rel => exact ⟨k + 1, E + Y.eaten, t ++ Y.told, Y.st, v2, u2, by go_num, by rw [HS4.out], by omega, by have := HE2.out; omega, by exact_mod_cast HD4.out, HO4.out.1, HO4.out.2, HX5.out, HC4.out, HM4.out.1, HM4.out.2, by rw [List.length_append]; have := HT4.out; omega⟩
                case measure => simp [intOf]; omega
              · have hkm' : (k : Int) < (n2 : Int) := by omega
                clear hgo'
                go_wp2
                go_roundw
                case rel => exact ⟨k + 1, E + Y.eaten, t ++ Y.told, Y.st, v2, u2, by go_num, by rw [HS4.out], by omega, by omega, by exact_mod_cast HD4.out, HO4.out.1, HO4.out.2, HX5.out, HC4.out, HM4.out.1, HM4.out.2, by rw [List.length_append]; have := HT4.out; omega⟩
                case measure => simp [intOf]; omega
            · have hkn' : (k : Int) < (n1 : Int) := by omega
              clear hgo'
              go_wp2
              go_roundw
              case rel => exact ⟨k + 1, E + Y.eaten, t ++ Y.told, Y.st, v2, u2, by go_num, by rw [HS4.out], by omega, by omega, by exact_mod_cast HD4.out, HO4.out.1, HO4.out.2, HX5.out, HC4.out, HM4.out.1, HM4.out.2, by rw [List.length_append]; have := HT4.out; omega⟩
              case measure => simp [intOf]; omega
end EX
end Go.Proofs.YtohobpjiikpdmaaDoor
