/-
  The contract of the law's own 'read': a text in whatever parts, with whatever room, as a walk over the translated text. The condition: the decoder is a new one; text and lists are small; of math/bits.Len that it tells how many bits a number takes.
-/
import Derived.Test.YtemgbmacdpnepaaPunDec
import Derived.Deep.CutBlock
import Derived.Deep.DeepCutAuto
namespace Go.Proofs.Ytemgbmacdpnepaa
open Go.ChangeShapes Go.WideShapes Go.ChangeAt Go.RowKit
namespace Pun
open Bas Cod Bia Sca Fen Stp
set_option linter.unusedVariables false

/-- Behind a whole text and End: the error, has it ended, what was told. -/
def rdQ (t : List Int) : Int := if bahL t < t.length then 3 else endQ t
def rdE (t : List Int) : Bool := if bahL t < t.length then false else endE t
def rdL (t : List Int) : List Int := if bahL t < t.length then [] else endL t
/-- What 'read' leaves. -/
def ReadQ (b : Nat) (v u : Value) (t : List Int) (vo : Value) (w w' : World) : Prop :=
  ∃ v' u', Seg .u32 w' vo (rdL t) ∧ (∀ g, vo.ownBlock = some g → w.heap.size ≤ g) ∧ DecV w' b (bahL t) (rdQ t) (rdE t) [] [] v' u' ∧ Chg (fun k _ => footD b v u k) w w'
theorem fld (q a : Int) (w : World) : (Instr.field 35 (.agg #[.int .i64 q, .int .i64 a]) 0).run Try.prog w = .ok (.int .i64 q) w := by kernel_rfl
theorem bahL_take (l : List Int) (n : Nat) : bahL (l.take n) = min (bahL l) n := by
  induction l generalizing n with
  | nil => simp [bahL]
  | cons x r ih =>
    cases n with
    | zero => simp [bahL]
    | succ n =>
      rw [List.take_succ_cons, bahL, bahL, ih]
      split <;> omega
/-- Where reading stands: E bytes eaten, all of them basic. -/
theorem bah_split {t : List Int} {E : Nat} (hE : E ≤ t.length) (h : ∀ x ∈ t.take E, x < 128) : bahL t = E + bahL (t.drop E) := by
  conv => lhs; rw [← List.take_append_drop E t]
  rw [bahL_app h, List.length_take]; omega
theorem bah_more {t : List Int} {E nn : Nat} {room : Int} (hE : E ≤ t.length) (h : ∀ x ∈ t.take E, x < 128) : ∀ x ∈ t.take (E + feedN room ((t.drop E).take nn)), x < 128 := by
  intro x hx
  rw [List.take_add] at hx
  rcases List.mem_append.1 hx with hx | hx
  · exact h x hx
  · unfold feedN at hx
    split at hx
    · have h2 := bahL_plain ((t.drop E).take nn)
      rw [List.take_take] at h2
      refine h2 x ?_
      rw [Nat.min_eq_left (by rw [bahL_take]; omega)]
      exact hx
    · simp at hx
theorem take_more {t : List Int} {E nn : Nat} {room : Int} : t.take E ++ ((t.drop E).take nn).take (feedN room ((t.drop E).take nn)) = t.take (E + feedN room ((t.drop E).take nn)) := by
  rw [List.take_add]
  congr 1
  rw [List.take_take]
  congr 1
  unfold feedN
  split
  · rw [bahL_take]; omega
  · simp
theorem bah_bad {t : List Int} {E nn : Nat} {room : Int} (hE : E ≤ t.length) (h : ∀ x ∈ t.take E, x < 128) (hb : feedB room ((t.drop E).take nn) = true) : bahL t = E + feedN room ((t.drop E).take nn) ∧ bahL t < t.length := by
  unfold feedB at hb
  simp only [Bool.and_eq_true, decide_eq_true_eq] at hb
  have h1 := hb.2
  rw [bahL_take, List.length_take, List.length_drop] at h1
  have h2 := bah_split hE h
  have h3 := bahL_le (t.drop E)
  rw [List.length_drop] at h3
  unfold feedN
  rw [if_pos hb.1, bahL_take]
  omega
theorem feedN_le (room : Int) (t : List Int) : feedN room t ≤ t.length := by
  unfold feedN; split
  · exact bahL_le t
  · omega

set_option maxHeartbeats 8000000 in
set_option maxRecDepth 100000 in
theorem read_any (HLen : LenOK) (b : Nat) (v u : Value) (str : ByteArray) (a1 a2 : Option Addr) (n1 c1 n2 c2 : Nat) (parts rooms : List Int) (w : World) (h : DecV w b 0 0 false [] [] v u)
    (P : Ints .i64 w a1 n1 c1 parts) (R : Ints .i64 w a2 n2 c2 rooms) (hP : ∀ b' o', 0 < n1 → a1 = some ⟨b', o', none⟩ → ¬ footD b v u b') (hR : ∀ b' o', 0 < n2 → a2 = some ⟨b', o', none⟩ → ¬ footD b v u b')
    (h1 : n1 ≤ 100000) (h2 : n2 ≤ 100000) (hs : str.size ≤ 4000) :
    Calls Try.prog 13 #[.pointer (some ⟨b, 0, none⟩), .string str, .slice a1 n1 c1, .slice a2 n2 c2] w fun e w' => ∃ vo, e = .returned (.tuple #[vo, .bool true]) ∧ ReadQ b v u (bytesL str) vo w w' := by
  have H : Hid (DecV w b 0 0 false [] [] v u) := h
  have HP : Hid (Ints .i64 w a1 n1 c1 parts ∧ ∀ b' o', 0 < n1 → a1 = some ⟨b', o', none⟩ → ¬ footD b v u b') := ⟨P, hP⟩
  have HR : Hid (Ints .i64 w a2 n2 c2 rooms ∧ ∀ b' o', 0 < n2 → a2 = some ⟨b', o', none⟩ → ¬ footD b v u b') := ⟨R, hR⟩
  have HL : Hid ((bytesL str).length = str.size) := bytesL_length str
  clear h P R hP hR
  go_enter Try.func13, Try.ntmps13
  go_wp2
  go_loopw [1, 10, 12] (fun s1 o1 k1 wr => ∃ (k E : Nat) (v' u' : Value), k1 = .int .i64 k ∧ s1 = .string (str.extract E str.size) ∧ E ≤ str.size ∧ k ≤ n1 + n2 + E ∧ DecV wr b E 0 false ((bytesL str).take E) [] v' u' ∧
      Seg .u32 wr o1 [] ∧ (∀ g, o1.ownBlock = some g → w.heap.size ≤ g ∧ ¬ footD b v' u' g) ∧ (∀ x ∈ (bytesL str).take E, x < 128) ∧ Chg (fun k _ => footD b v u k) w wr ∧ Mov w v v' ∧ Mov w u u') (fun _ _ k1 _ => n1 + n2 + str.size + 8 - (intOf k1).toNat)
  case atStart => exact ⟨0, 0, v, u, rfl, by simp, Nat.zero_le _, Nat.zero_le _, by simpa using H.out, seg_nil _ _, fun g hg => by simp [Value.ownBlock] at hg, fun x hx => by simp at hx, Chg.refl _ _, mov_refl _ _, mov_refl _ _⟩
  case round =>
    obtain ⟨k, E, v', u', rfl, rfl, hE, hk, hD, hsg, hown, hXe, hC, hM, hU⟩ := hrel
    have HD : Hid (DecV wr b E 0 false ((bytesL str).take E) [] v' u') := hD
    have HO : Hid (Seg .u32 wr u10 [] ∧ (∀ g, u10.ownBlock = some g → w.heap.size ≤ g ∧ ¬ footD b v' u' g)) := ⟨hsg, hown⟩
    have HXE : Hid (∀ x ∈ (bytesL str).take E, x < 128) := hXe
    have HEL : Hid (E ≤ (bytesL str).length) := by show E ≤ (bytesL str).length; rw [HL.out]; exact hE
    have HC : Hid (Chg (fun k _ => footD b v u k) w wr ∧ Mov w v v' ∧ Mov w u u') := ⟨hC, hM, hU⟩
    clear hD hsg hown hXe hC hM hU
    have hlt : (k : Int) < (n1 : Int) + n2 + str.size + 8 := by omega
    go_upto_if 39 with fail
    go_cut [13] (fun n wc => ∃ nn : Nat, n = .int .i64 nn ∧ nn ≤ str.size - E ∧ (n1 ≤ k → nn = str.size - E) ∧ wc = wr)
    case first =>
      by_cases hk1 : k < n1
      · rw [show decide (k < n1) = true by simpa using hk1]
        obtain ⟨bp, op, hap, hcp⟩ := HP.out.1.row
        have hpl := HP.out.1.len
        obtain rfl := hap (ne_nil_of hpl hk1)
        have hcell : wr.cell? ⟨bp, op + k, none⟩ = some (.int .i64 (nth parts k)) := HC.out.1.cellAt (hcp k (by omega)) (HP.out.2 bp op (by omega) rfl)
        have hlt1 : (k : Int) < (n1 : Int) := by omega
        obtain ⟨pp, hpp⟩ : ∃ pp, nth parts k = pp := ⟨_, rfl⟩
        rw [hpp] at hcell
        clear hcp hap hpl hpp
        obtain ⟨sz, hsz⟩ : ∃ sz, str.size - E = sz := ⟨_, rfl⟩
        rw [hsz]
        have HSZ : Hid (str.size - E = sz) := hsz
        clear hsz
        have h0 : ¬ (sz : Int) < 0 := by omega
        by_cases hp0 : pp < 0
        · go_wp2_with fail
          go_meet
          case rel => exact ⟨0, congrArg (Value.int .i64) (by omega), by omega, fun h => by omega, rfl⟩
        · obtain ⟨m, rfl⟩ := Int.eq_ofNat_of_zero_le (show 0 ≤ pp by omega)
          by_cases hp1 : (m : Int) ≤ (sz : Int)
          · go_wp2_with fail
            go_meet
            case rel => exact ⟨m, congrArg (Value.int .i64) (by omega), by have := HSZ.out; omega, fun h => by omega, rfl⟩
          · have hp2 : (sz : Int) < (m : Int) := by omega
            go_wp2_with fail
            go_meet
            case rel => exact ⟨sz, congrArg (Value.int .i64) (by omega), by have := HSZ.out; omega, fun h => by omega, rfl⟩
      · rw [show decide (k < n1) = false by simpa using hk1]
        go_wp2_with fail
        go_meet
        case rel => exact ⟨str.size - E, rfl, Nat.le_refl _, fun _ => rfl, rfl⟩
    case rest =>
      obtain ⟨nn, rfl, hnn, hnk, rfl⟩ := hcut
      have HNK : Hid (n1 ≤ k → nn = str.size - E) := hnk
      clear hnk
      go_upto_if 50 with fail
      go_cut [14] (fun r wc' => ∃ rr : Nat, r = .int .i64 rr ∧ rr ≤ 100 ∧ (n2 ≤ k → rr = 8) ∧ wc' = wc)
      case first =>
        by_cases hk1 : k < n2
        · rw [show decide (k < n2) = true by simpa using hk1]
          obtain ⟨bp, op, hap, hcp⟩ := HR.out.1.row
          have hpl := HR.out.1.len
          obtain rfl := hap (ne_nil_of hpl hk1)
          have hcell : wc.cell? ⟨bp, op + k, none⟩ = some (.int .i64 (nth rooms k)) := HC.out.1.cellAt (hcp k (by omega)) (HR.out.2 bp op (by omega) rfl)
          have hlt1 : (k : Int) < (n2 : Int) := by omega
          obtain ⟨pp, hpp⟩ : ∃ pp, nth rooms k = pp := ⟨_, rfl⟩
          rw [hpp] at hcell
          clear hcp hap hpl hpp
          by_cases hp0 : pp < 0
          · go_wp2_with fail
            go_meet
            case rel => exact ⟨0, congrArg (Value.int .i64) (by omega), by omega, fun h => by omega, rfl⟩
          · obtain ⟨m, rfl⟩ := Int.eq_ofNat_of_zero_le (show 0 ≤ pp by omega)
            by_cases hp1 : (m : Int) ≤ 100
            · go_wp2_with fail
              go_meet
              case rel => exact ⟨m, congrArg (Value.int .i64) (by omega), by omega, fun h => by omega, rfl⟩
            · have hp2 : 100 < (m : Int) := by omega
              go_wp2_with fail
              go_meet
              case rel => exact ⟨100, congrArg (Value.int .i64) (by omega), by omega, fun h => by omega, rfl⟩
        · rw [show decide (k < n2) = false by simpa using hk1]
          go_wp2_with fail
          go_meet
          case rel => exact ⟨8, rfl, by omega, fun _ => rfl, rfl⟩
      case rest =>
        obtain ⟨rr, rfl, hrr, hrk, rfl⟩ := hcut
        have HRK : Hid (n2 ≤ k → rr = 8) := hrk
        clear hrk
        go_wp2_with fail
        obtain ⟨Y, hY⟩ : ∃ Y, feedN rr (((bytesL str).drop E).take nn) = Y := ⟨_, rfl⟩
        have hYe : Y ≤ nn := by
          rw [← hY]
          have := feedN_le rr (((bytesL str).drop E).take nn)
          rw [List.length_take] at this
          omega
        obtain ⟨B, hB⟩ : ∃ B, feedB rr (((bytesL str).drop E).take nn) = B := ⟨_, rfl⟩
        have hbl : bytesL ((str.extract E str.size).extract 0 nn) = ((bytesL str).drop E).take nn := by rw [bytesL_take, bytesL_drop]
        refine (feed_any b E ((bytesL str).take E) ((str.extract E str.size).extract 0 nn) rr v' u' wc HD.out (by simp; omega) (by rw [List.length_take]; omega) (by omega) (wf_small _ (by omega) (by omega))).mono ?_
        rintro e w2 ⟨vr, rfl, Q2⟩
        rw [hbl] at Q2 ⊢
        obtain ⟨v2, u2, hD2, hsr, hfr, hC2, hM2, hU2⟩ := Q2
        rw [take_more] at hD2
        rw [hY] at hD2 ⊢
        rw [hB] at hD2
        have HY : Hid (feedN rr (((bytesL str).drop E).take nn) = Y ∧ feedB rr (((bytesL str).drop E).take nn) = B) := ⟨hY, hB⟩
        have HMO : Hid (∀ x ∈ (bytesL str).take (E + Y), x < 128) := by
          have := bah_more (room := rr) (nn := nn) HEL.out HXE.out
          rw [hY] at this
          exact this
        have HBD : Hid (B = true → bahL (bytesL str) = E + Y ∧ bahL (bytesL str) < (bytesL str).length) := fun h => by
          have := bah_bad (room := rr) (nn := nn) HEL.out HXE.out (by rw [hB]; exact h)
          rw [hY] at this
          exact this
        obtain ⟨ar, cr, hvr, hrowr, -, -, -, hnilr⟩ := hsr.form
        rw [show ([] : List Int).length = 0 from rfl] at hvr
        subst hvr
        have HD2 : Hid (DecV w2 b ((E : Int) + Y) (if B = true then 3 else 0) false (if B = true then [] else (bytesL str).take (E + Y)) [] v2 u2) := hD2
        have HS2 : Hid (Row .u32 w2 ar [] ∧ (ar = none → cr = 0)) := ⟨hrowr, hnilr⟩
        have HO2 : Hid (Seg .u32 w2 u10 [] ∧ (∀ g, u10.ownBlock = some g → w.heap.size ≤ g ∧ g < w2.heap.size ∧ ¬ footD b v2 u2 g)) := by
          obtain ⟨hsg, hown⟩ := HO.out
          refine ⟨hsg.chg hC2 (fun g o hg => (hown g hg).2), fun g hg => ⟨(hown g hg).1, ?_, fun hf => ?_⟩⟩
          · exact Nat.lt_of_lt_of_le (hsg.lt hg) hC2.size
          · have hlt := hsg.lt hg
            rcases hf with hf | hf | hf
            · exact (hown g hg).2 (.inl hf)
            · rcases hM2 g hf with e | e
              · exact (hown g hg).2 (.inr (.inl e))
              · omega
            · rcases hU2 g hf with e | e
              · exact (hown g hg).2 (.inr (.inr e))
              · omega
        have HC2 : Hid (Chg (fun k _ => footD b v u k) w w2 ∧ Mov w v v2 ∧ Mov w u u2) := by
          obtain ⟨hC, hM, hU⟩ := HC.out
          refine ⟨hC.trans2 hC2 (fun _ _ _ h => h) (fun k j hk h => ?_), mov_trans hM hM2 hC.size, mov_trans hU hU2 hC.size⟩
          rcases h with h | h | h
          · exact .inl h
          · rcases hM k h with e | e
            · exact .inr (.inl e)
            · omega
          · rcases hU k h with e | e
            · exact .inr (.inr e)
            · omega
        clear hY hB hbl hsr hfr hD2 hC2 hM2 hU2 hrowr hnilr HO HC HD
        have f1 : ¬ (Y : Int) < 0 := by omega
        have f2 : ¬ (Y : Int) > nn := by omega
        have f3 : ¬ (0 : Int) > rr := by omega
        have f4 : Y ≤ str.size - E := by omega
        go_wp2_with (at_builtin; go_must (refine wpList_append_seg rfl _ _ 27 27 rfl .u32 64 4 Try.underlying27 info_u32 u10 [] [] rfl HO2.out.1 _ rfl (src_row Try.underlying27 HS2.out.1 rfl HS2.out.2) (by unfold maxLen; simp) (by simp) ?_; intro vo w3 hs3 hc3 hm3))
        rw [List.nil_append] at hs3
        have D3 : DecV w3 b ((E : Int) + Y) (if B = true then 3 else 0) false (if B = true then [] else (bytesL str).take (E + Y)) [] v2 u2 :=
          HD2.out.chg hc3 (fun k j hf hu => (HO2.out.2 k hu).2.2 hf)
        have HO3 : Hid (Seg .u32 w3 vo [] ∧ (∀ g, vo.ownBlock = some g → w.heap.size ≤ g ∧ ¬ footD b v2 u2 g)) := by
          refine ⟨hs3, fun g hg => ?_⟩
          rcases hm3 g hg with e | e
          · exact ⟨(HO2.out.2 g e).1, (HO2.out.2 g e).2.2⟩
          · have h2s := HC2.out.1.size
            exact ⟨by omega, fun hf => by have := HD2.out.foot_lt hf; omega⟩
        have HC3 : Hid (Chg (fun k _ => footD b v u k) w w3) := HC2.out.1.trans2 hc3 (fun _ _ _ h => h) (fun k j hk h => by have := (HO2.out.2 k h).1; omega)
        have hgo : B = true ∨ ¬ (n1 ≤ k ∧ n2 ≤ k ∧ E < str.size ∧ Y = 0) := by
          by_cases hc : n1 ≤ k ∧ n2 ≤ k ∧ E < str.size ∧ Y = 0
          · left
            have hr8 := HRK.out hc.2.1
            have hn8 := HNK.out hc.1
            rw [← HY.out.2]
            have hY1 := HY.out.1
            have hlen : (((bytesL str).drop E).take nn).length = nn := by rw [List.length_take, List.length_drop, HL.out]; omega
            unfold feedN at hY1
            rw [if_pos (by omega)] at hY1
            unfold feedB
            rw [hY1, hlen]
            simp
            omega
          · right; exact hc
        have HM4 : Hid (Mov w v v2 ∧ Mov w u u2) := HC2.out.2
        clear hs3 hc3 hm3 HD2 HO2 HC2 HS2 HY HRK HNK f1 f2 f3
        rw [ext_ext str E Y (by omega)]
        have HD3 : Hid (DecV w3 b ((E : Int) + Y) (if B = true then 3 else 0) false (if B = true then [] else (bytesL str).take (E + Y)) [] v2 u2) := D3
        clear D3
        refine (fail_any b 0 _ _ false w3 HD3.out.base).mono ?_
        rintro e w4 ⟨rfl, hb4⟩
        have HD4 : Hid (DecV w4 b ((E : Int) + Y) (if B = true then 3 else 0) false (if B = true then [] else (bytesL str).take (E + Y)) [] v2 u2) := HD3.out.below hb4
        have HO4 : Hid (Seg .u32 w4 vo [] ∧ (∀ g, vo.ownBlock = some g → w.heap.size ≤ g ∧ ¬ footD b v2 u2 g)) := ⟨HO3.out.1.chg (chg_of_below hb4 (Nat.le_refl _) (fun _ _ => False)) (fun _ _ _ h => h), HO3.out.2⟩
        have HC4 : Hid (Chg (fun k _ => footD b v u k) w w4) := HC3.out.trans (chg_of_below hb4 (Nat.le_refl _) _)
        clear hb4 HD3 HO3 HC3
        obtain ⟨vf, hvf⟩ : ∃ vf, failAt ((E : Int) + Y) (if B = true then 3 else 0) = vf := ⟨_, rfl⟩
        rw [hvf]
        clear hvf
        cases B with
        | true =>
          have HX5 : Hid (bahL (bytesL str) = E + Y ∧ rdQ (bytesL str) = 3 ∧ rdE (bytesL str) = false ∧ rdL (bytesL str) = []) := by
            have h5 := HBD.out rfl
            exact ⟨h5.1, by unfold rdQ; rw [if_pos h5.2], by unfold rdE; rw [if_pos h5.2], by unfold rdL; rw [if_pos h5.2]⟩
          clear hgo HXE HBD HMO
          rw [if_pos rfl, if_pos rfl] at HD4
          rw [if_pos rfl]
          have hfl := fld 3 vf
          go_wp2_with fail
          refine (dEndE_any b _ _ _ _ _ v2 u2 w4 HD4.out rfl).mono ?_
          rintro e w5 ⟨rfl, hw5⟩
          subst hw5
          clear hfl
          go_wp2_with fail
          go_loopw [10, 17] (fun o i wr => o = vo ∧ i = .int .i64 0 ∧ wr = w5) (fun _ _ _ => 0)
          case atStart => exact ⟨rfl, rfl, rfl⟩
          case round =>
            obtain ⟨rfl, rfl, rfl⟩ := hrel
            go_wp2_with fail
            refine (inDone_any b 0 _ _ _ v2 [] _ HD4.out.base HD4.out.row).mono ?_
            rintro e w6 ⟨rfl, rfl⟩
            rw [show (!goB 3 false && (([] : List Int).length == 0)) = true from rfl]
            go_wp2
            go_ret2
            refine ⟨_, rfl, v2, u2, ?_, fun g hg => (HO4.out.2 g hg).1, ?_, HC4.out⟩
            · rw [HX5.out.2.2.2]; exact HO4.out.1
            · rw [HX5.out.1, HX5.out.2.1, HX5.out.2.2.1]
              exact_mod_cast HD4.out
        | false =>
          have hgo' : ¬ (n1 ≤ k ∧ n2 ≤ k ∧ E < str.size ∧ Y = 0) := by
            rcases hgo with h | h
            · cases h
            · exact h
          clear hgo HXE HBD
          rw [if_neg (by simp), if_neg (by simp)] at HD4
          rw [if_neg (by simp)]
          have hfl := fld 0 vf
          obtain ⟨s4, hs4⟩ : ∃ s4, str.extract (E + Y) str.size = s4 := ⟨_, rfl⟩
          rw [hs4]
          have hz4 : s4.size = str.size - (E + Y) := by rw [← hs4]; simp
          have HS4 : Hid (str.extract (E + Y) str.size = s4) := hs4
          clear hs4
          by_cases hend : E + Y = str.size
          · have h40 : s4 = ⟨#[]⟩ := by
              apply str_ext
              have : s4.data.toList.length = 0 := by rw [Array.length_toList]; show s4.size = 0; omega
              rw [List.length_eq_zero_iff.1 this]
            subst h40
            clear hz4
            by_cases hkn : (k : Int) ≥ (n1 : Int)
            · have hta : (bytesL str).take (E + Y) = bytesL str := List.take_of_length_le (by rw [HL.out]; omega)
              rw [hta] at HMO HD4
              have HBA : Hid (bahL (bytesL str) = E + Y) := by
                show _ = _
                rw [bahL_of HMO.out, HL.out, hend]
              have HX6 : Hid (rdQ (bytesL str) = endQ (bytesL str) ∧ rdE (bytesL str) = endE (bytesL str) ∧ rdL (bytesL str) = endL (bytesL str)) := by
                have hn : ¬ bahL (bytesL str) < (bytesL str).length := by rw [HBA.out, HL.out]; omega
                exact ⟨by unfold rdQ; rw [if_neg hn], by unfold rdE; rw [if_neg hn], by unfold rdL; rw [if_neg hn]⟩
              clear hta HMO
              go_wp2_with fail
              refine (dEnd_any HLen b _ (bytesL str) v2 u2 w4 HD4.out (bytesL_byte str) (by rw [HL.out]; omega)).mono ?_
              rintro e w5 ⟨rfl, v5, u5, D5, C5, M5, U5⟩
              have HEN : Hid ((endL (bytesL str)).length ≤ 4000) := by
                show (endL (bytesL str)).length ≤ 4000
                unfold endL
                cases htx : textD (bytesL str) with
                | none => simp
                | some L => have := textD_len htx; rw [HL.out] at this; simp only; omega
              have HD5 : Hid (DecV w5 b ((E : Int) + Y) (endQ (bytesL str)) (endE (bytesL str)) [] (endL (bytesL str)) v5 u5) := D5
              have HO5 : Hid (Seg .u32 w5 vo [] ∧ (∀ g, vo.ownBlock = some g → w.heap.size ≤ g ∧ ¬ footD b v5 u5 g) ∧ Chg (fun k _ => footD b v u k) w w5) := by
                refine ⟨HO4.out.1.chg C5 (fun g o hg hh => (HO4.out.2 g hg).2 hh), fun g hg => ⟨(HO4.out.2 g hg).1, fun hf => ?_⟩, HC4.out.trans2 C5 (fun _ _ _ h => h) (fun k j hk h => ?_)⟩
                · have hlt := HO4.out.1.lt hg
                  rcases hf with hf | hf | hf
                  · exact (HO4.out.2 g hg).2 (.inl hf)
                  · rcases M5 g hf with e | e
                    · exact (HO4.out.2 g hg).2 (.inr (.inl e))
                    · omega
                  · rcases U5 g hf with e | e
                    · exact (HO4.out.2 g hg).2 (.inr (.inr e))
                    · omega
                · rcases h with h | h | h
                  · exact .inl h
                  · rcases HM4.out.1 k h with e | e
                    · exact .inr (.inl e)
                    · omega
                  · rcases HM4.out.2 k h with e | e
                    · exact .inr (.inr e)
                    · omega
              have HFT : Hid (∀ k, k < w.heap.size → footD b v5 u5 k → footD b v u k) := fun k hk h => by
                have hs4 := HC4.out.size
                rcases h with h | h | h
                · exact .inl h
                · rcases M5 k h with e | e
                  · rcases HM4.out.1 k e with e | e
                    · exact .inr (.inl e)
                    · omega
                  · omega
                · rcases U5 k h with e | e
                  · rcases HM4.out.2 k e with e | e
                    · exact .inr (.inr e)
                    · omega
                  · omega
              clear D5 C5 M5 U5 HD4 HC4 HO4 HM4 hfl hgo'
              go_wp2_with fail
              go_loopw [10, 17] (fun o i wr => ∃ (j : Nat) (O R : List Int) (v6 : Value), i = .int .i64 j ∧ j ≤ O.length ∧ O ++ R = endL (bytesL str) ∧ Seg .u32 wr o O ∧ (∀ g, o.ownBlock = some g → w.heap.size ≤ g ∧ ¬ footD b v6 u5 g) ∧ DecV wr b ((E : Int) + Y) (endQ (bytesL str)) (endE (bytesL str)) [] R v6 u5 ∧ Chg (fun k _ => footD b v u k) w wr ∧ (∀ k, k < w.heap.size → footD b v6 u5 k → footD b v u k)) (fun _ i _ => 4001 - (intOf i).toNat)
              case atStart => exact ⟨0, [], endL (bytesL str), v5, rfl, Nat.zero_le _, rfl, HO5.out.1, HO5.out.2.1, HD5.out, HO5.out.2.2, HFT.out⟩
              case round =>
                obtain ⟨j, O, R, v6, rfl, hj, hOR, hsO, hfO, hD6, hC6, hF6⟩ := hrel
                have HR : Hid (O ++ R = endL (bytesL str) ∧ Seg .u32 wr u10 O ∧ (∀ g, u10.ownBlock = some g → w.heap.size ≤ g ∧ ¬ footD b v6 u5 g) ∧ Chg (fun k _ => footD b v u k) w wr ∧ (∀ k, k < w.heap.size → footD b v6 u5 k → footD b v u k)) := ⟨hOR, hsO, hfO, hC6, hF6⟩
                have HD6 : Hid (DecV wr b ((E : Int) + Y) (endQ (bytesL str)) (endE (bytesL str)) [] R v6 u5) := hD6
                have hlen : O.length + R.length ≤ 4000 := by
                  have := HEN.out
                  rw [← hOR, List.length_append] at this
                  exact this
                clear hOR hsO hfO hD6 hC6 hF6 HD5 HO5
                go_wp2_with fail
                refine (inDone_any b 0 _ _ _ v6 R _ HD6.out.base HD6.out.row).mono ?_
                rintro e w6 ⟨rfl, hw6⟩
                subst hw6
                rw [end_go]
                by_cases hR0 : R = []
                · subst hR0
                  rw [show (!false && (([] : List Int).length == 0)) = true from rfl]
                  go_wp2
                  go_ret2
                  refine ⟨_, rfl, v6, u5, ?_, fun g hg => (HR.out.2.2.1 g hg).1, ?_, HR.out.2.2.2.1⟩
                  · rw [HX6.out.2.2, ← HR.out.1, List.append_nil]; exact HR.out.2.1
                  · rw [HBA.out, HX6.out.1, HX6.out.2.1]
                    exact_mod_cast HD6.out
                · have hR1 : 0 < R.length := List.length_pos_iff.2 hR0
                  rw [show (!false && (R.length == 0)) = false by simp; omega]
                  go_wp2_with fail
                  refine (feedE_any b _ _ _ [] R _ 8 v6 u5 w6 HD6.out (end_go _) (by omega) (wf_small _ (by omega) (by omega))).mono ?_
                  rintro e w7 ⟨vr, rfl, v7, D7, S7, F7, C7, M7⟩
                  obtain ⟨f, hf⟩ : ∃ f, frontN 8 R.length = f := ⟨_, rfl⟩
                  have hf1 : 1 ≤ f ∧ f ≤ 8 ∧ f ≤ R.length := by
                    rw [← hf]; unfold frontN
                    repeat' split
                    all_goals omega
                  rw [hf] at D7 S7
                  clear hf
                  obtain ⟨ar7, cr7, hvr7, hrow7, -, -, -, hnil7⟩ := S7.form
                  have hlt7 : (R.take f).length = f := by rw [List.length_take]; omega
                  rw [hlt7] at hvr7
                  subst hvr7
                  have HD7 : Hid (DecV w7 b ((E : Int) + Y) (endQ (bytesL str)) (endE (bytesL str)) [] (R.drop f) v7 u5) := D7
                  have HS7 : Hid (Row .u32 w7 ar7 (R.take f) ∧ (R.take f).length = f ∧ (ar7 = none → cr7 = 0)) := ⟨hrow7, hlt7, hnil7⟩
                  have hft : ∀ k, footD b v7 u5 k → footD b v6 u5 k := fun k h => by
                    rcases h with h | h | h
                    · exact .inl h
                    · exact .inr (.inl (M7 k h))
                    · exact .inr (.inr h)
                  have HO7 : Hid (Seg .u32 w7 u10 O ∧ (∀ g, u10.ownBlock = some g → w.heap.size ≤ g ∧ ¬ footD b v7 u5 g) ∧ Chg (fun k _ => footD b v u k) w w7 ∧ (∀ k, k < w.heap.size → footD b v7 u5 k → footD b v u k)) :=
                    ⟨HR.out.2.1.chg C7 (fun g o hg hh => (HR.out.2.2.1 g hg).2 (.inl hh)), fun g hg => ⟨(HR.out.2.2.1 g hg).1, fun h => (HR.out.2.2.1 g hg).2 (hft g h)⟩, HR.out.2.2.2.1.trans2 C7 (fun _ _ _ h => h) (fun k j hk h => HR.out.2.2.2.2 k hk (.inl h)), fun k hk h => HR.out.2.2.2.2 k hk (hft k h)⟩
                  have HOR : Hid ((O ++ R.take f) ++ R.drop f = endL (bytesL str)) := by
                    show _ = _
                    rw [List.append_assoc, List.take_append_drop]; exact HR.out.1
                  clear D7 S7 F7 C7 M7 hrow7 hlt7 hnil7 hft HD6 HR hR0
                  obtain ⟨q1, q2, q3⟩ := hf1
                  have g1 : ((f : Int) == 0) = false := by simp; omega
                  have g2 : ¬ (f : Int) > 8 := by omega
                  have g3 : ¬ (j : Int) > 100000 := by omega
                  go_wp2_with (at_builtin; go_must (refine wpList_append_seg rfl _ _ 27 27 rfl .u32 64 4 Try.underlying27 info_u32 u10 O (R.take f) rfl HO7.out.1 _ rfl (src_row Try.underlying27 HS7.out.1 HS7.out.2.1 HS7.out.2.2) (by have := HS7.out.2.1; unfold maxLen; omega) (by have := HS7.out.2.1; omega) ?_; intro vo8 w8 hs8 hc8 hm8))
                  have HQ8 : Hid (Seg .u32 w8 vo8 (O ++ R.take f) ∧ (∀ g, vo8.ownBlock = some g → w.heap.size ≤ g ∧ ¬ footD b v7 u5 g) ∧ DecV w8 b ((E : Int) + Y) (endQ (bytesL str)) (endE (bytesL str)) [] (R.drop f) v7 u5 ∧ Chg (fun k _ => footD b v u k) w w8) := by
                    refine ⟨hs8, fun g hg => ?_, HD7.out.chg hc8 (fun k j hf hu => (HO7.out.2.1 k hu).2 hf), HO7.out.2.2.1.trans2 hc8 (fun _ _ _ h => h) (fun k j hk h => by have := (HO7.out.2.1 k h).1; omega)⟩
                    rcases hm8 g hg with e | e
                    · exact HO7.out.2.1 g e
                    · have h2s := HO7.out.2.2.1.size
                      exact ⟨by omega, fun hf => by have := HD7.out.foot_lt hf; omega⟩
                  have hln : (O ++ R.take f).length = O.length + f := by rw [List.length_append, HS7.out.2.1]
                  have HLN : Hid ((O ++ R.take f).length = O.length + f) := hln
                  clear hs8 hc8 hm8 hln
                  go_wp2
                  go_roundw
                  case rel => exact ⟨j + 1, O ++ R.take f, R.drop f, v7, by go_num, by rw [HLN.out]; omega, HOR.out, HQ8.out.1, HQ8.out.2.1, HQ8.out.2.2.1, HQ8.out.2.2.2, HO7.out.2.2.2⟩
                  case measure => simp [intOf]; omega
            · have hkn' : (k : Int) < (n1 : Int) := by omega
              go_wp2
              go_roundw
              case rel => exact ⟨k + 1, E + Y, v2, u2, by go_num, by rw [HS4.out], by omega, by omega, by exact_mod_cast HD4.out, HO4.out.1, HO4.out.2, HMO.out, HC4.out, HM4.out.1, HM4.out.2⟩
              case measure => simp [intOf]; omega
          · have h41 : ¬ s4.toList = [] := by
              intro e
              rw [ByteArray.toList_eq] at e
              have : s4.size = 0 := by show s4.data.size = 0; rw [← Array.length_toList, e]; rfl
              omega
            clear hz4
            by_cases hkn : (k : Int) ≥ (n1 : Int)
            · by_cases hkm : (k : Int) ≥ (n2 : Int)
              · have he2 : Y ≠ 0 := fun e => hgo' ⟨by omega, by omega, by omega, e⟩
                have he1 : ((Y : Int) == 0) = false := by simp; omega
                have HE2 : Hid (1 ≤ Y) := by show 1 ≤ Y; omega
                clear he2 hgo'
                go_wp2
                go_roundw
                case rel => exact ⟨k + 1, E + Y, v2, u2, by go_num, by rw [HS4.out], by omega, by have := HE2.out; omega, by exact_mod_cast HD4.out, HO4.out.1, HO4.out.2, HMO.out, HC4.out, HM4.out.1, HM4.out.2⟩
                case measure => simp [intOf]; omega
              · have hkm' : (k : Int) < (n2 : Int) := by omega
                clear hgo'
                go_wp2
                go_roundw
                case rel => exact ⟨k + 1, E + Y, v2, u2, by go_num, by rw [HS4.out], by omega, by omega, by exact_mod_cast HD4.out, HO4.out.1, HO4.out.2, HMO.out, HC4.out, HM4.out.1, HM4.out.2⟩
                case measure => simp [intOf]; omega
            · have hkn' : (k : Int) < (n1 : Int) := by omega
              clear hgo'
              go_wp2
              go_roundw
              case rel => exact ⟨k + 1, E + Y, v2, u2, by go_num, by rw [HS4.out], by omega, by omega, by exact_mod_cast HD4.out, HO4.out.1, HO4.out.2, HMO.out, HC4.out, HM4.out.1, HM4.out.2⟩
              case measure => simp [intOf]; omega
end Pun
end Go.Proofs.Ytemgbmacdpnepaa
