/-
  The contract of the law's own 'write': numbers in whatever parts, with whatever room, as a walk over the translated text. The condition: the encoder is a new one; the lists are small.
-/
import Derived.Test.YtemgbmacdpnepaaPunEn2
import Derived.Deep.CutBlock
import Derived.Deep.DeepCutAuto
namespace Go.Proofs.Ytemgbmacdpnepaa
open Go.ChangeShapes Go.WideShapes Go.ChangeAt Go.RowKit
namespace Pun
open Bas Cod Bia Sca Fen Stp Scn
set_option linter.unusedVariables false

theorem fldE (q a : Int) (w : World) : (Instr.field 35 (.agg #[.int .i64 q, .int .i64 a]) 0).run Try.prog w = .ok (.int .i64 q) w := by kernel_rfl
theorem okLen_take (l : List Int) : ∀ n, okLen (l.take n) = min (okLen l) n := by
  induction l with
  | nil => intro n; simp [okLen]
  | cons x r ih =>
    intro n
    cases n with
    | zero => simp [okLen]
    | succ n =>
      rw [List.take_succ_cons, okLen, okLen, ih]
      split <;> omega
theorem okLen_split (l : List Int) : ∀ n, n ≤ okLen l → okLen l = n + okLen (l.drop n) := by
  induction l with
  | nil => intro n hn; simp [okLen] at hn; subst hn; simp [okLen]
  | cons x r ih =>
    intro n hn
    cases n with
    | zero => simp
    | succ n =>
      rw [okLen] at hn ⊢
      split
      · rename_i h
        rw [if_pos h] at hn
        have := ih n (by omega)
        rw [List.drop_succ_cons]; omega
      · rename_i h
        rw [if_neg h] at hn; omega
/-- The text that is written. -/
def WrT (L T : List Int) : Prop := if okLen L < L.length then T = [] else TextOf L T
/-- What 'write' leaves. -/
def WriteQ (b : Nat) (v u : Value) (L : List Int) (w w' : World) : Prop :=
  ∃ v' u', EncV w' b (okLen L) (if okLen L < L.length then 2 else 0) (decide (okLen L = L.length)) [] [] v' u' ∧ Chg (fun k _ => footE b v u k) w w'
/-- A list that came in, and its rests. -/
def Came (w : World) (l1 : Value) (L : List Int) (b : Nat) (v u : Value) : Prop :=
  (∃ aa, l1 = .slice aa 0 0 ∧ L = []) ∨ ∃ bl ol cl, l1 = .slice (some ⟨bl, ol, none⟩) L.length cl ∧ L.length ≤ cl ∧ cl ≤ maxLen ∧ Row .u32 w (some ⟨bl, ol, none⟩) L ∧ (L ≠ [] → ¬ footE b v u bl)
theorem came_of {w w' : World} {a : Option Addr} {n c : Nat} {L : List Int} {b : Nat} {v u : Value} (J : Cap a n c) (R : Row .u32 w a L) (hl : L.length = n) (hb : Below w.heap.size w w') (hf : ∀ k, k < w.heap.size → ¬ footE b v u k) : Came w' (.slice a n c) L b v u := by
  rcases J with ⟨rfl, rfl⟩ | ⟨bl, ol, rfl, h1, h2⟩
  · exact .inl ⟨a, rfl, List.length_eq_zero_iff.1 hl⟩
  · refine .inr ⟨bl, ol, c, by rw [hl], by omega, h2, R.mono hb, fun hne => ?_⟩
    obtain ⟨b'', o'', n', c'⟩ := R
    have e2 := n' hne
    simp only [Option.some.injEq, Addr.mk.injEq] at e2
    have c0' := c' 0 (List.length_pos_iff.2 hne)
    rw [← e2.1] at c0'
    exact hf bl (World.block_lt_of_cell? w _ c0')
theorem footE_old {w : World} {b : Nat} {v u v' u' : Value} (hv : Mov w v v') (hu : Mov w u u') {k : Nat} (hk : k < w.heap.size) (h : footE b v' u' k) : footE b v u k := by
  rcases h with h | h | h
  · exact .inl h
  · rcases hv k h with e | e
    · exact .inr (.inl e)
    · omega
  · rcases hu k h with e | e
    · exact .inr (.inr e)
    · omega
theorem empty2 : (⟨#[]⟩ : ByteArray) ++ ⟨#[]⟩ = ⟨#[]⟩ := rfl

set_option maxHeartbeats 8000000 in
set_option maxRecDepth 100000 in
theorem write_any (b : Nat) (v u : Value) (a0 : Option Addr) (n0 c0 : Nat) (L : List Int) (a1 a2 : Option Addr) (n1 c1 n2 c2 : Nat) (parts rooms : List Int) (w : World) (h : EncV w b 0 0 false [] [] v u)
    (hL : Came w (.slice a0 n0 c0) L b v u) (hfit : ∀ c ∈ L, 0 ≤ c ∧ c < 4294967296)
    (P : Ints .i64 w a1 n1 c1 parts) (R : Ints .i64 w a2 n2 c2 rooms) (hP : ∀ b' o', 0 < n1 → a1 = some ⟨b', o', none⟩ → ¬ footE b v u b') (hR : ∀ b' o', 0 < n2 → a2 = some ⟨b', o', none⟩ → ¬ footE b v u b')
    (h1 : n1 ≤ 100000) (h2 : n2 ≤ 100000) (hs : L.length ≤ 120) :
    Calls Try.prog 20 #[.pointer (some ⟨b, 0, none⟩), .slice a0 n0 c0, .slice a1 n1 c1, .slice a2 n2 c2] w fun e w' => ∃ T, WrT L T ∧ e = .returned (.tuple #[.string (Stp.strOf T), .bool true]) ∧ WriteQ b v u L w w' := by
  have H : Hid (EncV w b 0 0 false [] [] v u) := h
  have hn0 : n0 = L.length := by
    rcases hL with ⟨aa, e, rfl⟩ | ⟨bl, ol, cl, e, _⟩
    · simp at e; simp [e.2.1]
    · simp at e; exact e.2.1
  have HL : Hid (Came w (.slice a0 n0 c0) L b v u ∧ n0 = L.length ∧ ∀ c ∈ L, 0 ≤ c ∧ c < 4294967296) := ⟨hL, hn0, hfit⟩
  have HP : Hid (Ints .i64 w a1 n1 c1 parts ∧ ∀ b' o', 0 < n1 → a1 = some ⟨b', o', none⟩ → ¬ footE b v u b') := ⟨P, hP⟩
  have HR : Hid (Ints .i64 w a2 n2 c2 rooms ∧ ∀ b' o', 0 < n2 → a2 = some ⟨b', o', none⟩ → ¬ footE b v u b') := ⟨R, hR⟩
  have hs' : n0 ≤ 120 := by omega
  clear h hL hfit P R hP hR hn0
  go_enter Try.func20, Try.ntmps20
  go_wp2
  go_loopw [1, 10, 12] (fun l1 o1 k1 wr => ∃ (k E : Nat) (v' u' : Value), k1 = .int .i64 k ∧ o1 = .string ⟨#[]⟩ ∧ E ≤ n0 ∧ k ≤ n1 + n2 + E ∧ EncV wr b E 0 false (L.take E) [] v' u' ∧ Came wr l1 (L.drop E) b v' u' ∧
      okLen L = E + okLen (L.drop E) ∧ Chg (fun k _ => footE b v u k) w wr ∧ Mov w v v' ∧ Mov w u u') (fun _ _ k1 _ => n1 + n2 + 10 * n0 + 8 - (intOf k1).toNat)
  case atStart => exact ⟨0, 0, v, u, rfl, rfl, Nat.zero_le _, by simp, by simpa using H.out, by simpa using HL.out.1, by simp, Chg.refl _ _, mov_refl _ _, mov_refl _ _⟩
  case round =>
    obtain ⟨k, E, v', u', rfl, rfl, hE, hk, hD, hcm, hok, hC, hM, hU⟩ := hrel
    have HD : Hid (EncV wr b E 0 false (L.take E) [] v' u') := hD
    have HT : Hid (okLen L = E + okLen (L.drop E)) := hok
    have HC : Hid (Chg (fun k _ => footE b v u k) w wr ∧ Mov w v v' ∧ Mov w u u') := ⟨hC, hM, hU⟩
    obtain ⟨al, cl, hl1, hcap, hlrow, hlnil, hlap⟩ : ∃ al cl, u1 = .slice al (n0 - E) cl ∧ n0 - E ≤ cl ∧ Row .u32 wr al (L.drop E) ∧ (al = none → cl = 0) ∧ Came wr (.slice al (n0 - E) cl) (L.drop E) b v' u' := by
      have hn0 := HL.out.2.1
      rcases hcm with ⟨aa, e, hnil⟩ | ⟨bl, ol, cl, e, h1, h2, h3, h4⟩
      · have : (L.drop E).length = 0 := by rw [hnil]; rfl
        rw [List.length_drop] at this
        have e0 : n0 - E = 0 := by omega
        exact ⟨aa, 0, by rw [e, e0], by omega, by rw [hnil]; exact row_nil _ _ _, fun _ => rfl, .inl ⟨aa, by rw [e0], hnil⟩⟩
      · have e0 : (L.drop E).length = n0 - E := by rw [List.length_drop]; omega
        rw [e0] at e h1
        exact ⟨_, cl, e, h1, h3, (fun h => by cases h), .inr ⟨bl, ol, cl, by rw [e0], by rw [e0]; exact h1, h2, h3, h4⟩⟩
    subst hl1
    obtain ⟨m0, hm0⟩ : ∃ m0, n0 - E = m0 := ⟨_, rfl⟩
    rw [hm0] at hcap hlap
    rw [hm0]
    have HM0 : Hid (n0 - E = m0) := hm0
    have hm1 : m0 ≤ 120 := by omega
    clear hm0
    have HLR : Hid (Row .u32 wr al (L.drop E) ∧ (al = none → cl = 0) ∧ Came wr (.slice al m0 cl) (L.drop E) b v' u') := ⟨hlrow, hlnil, hlap⟩
    clear hD hcm hok hC hM hU hlrow hlnil hlap
    have hlt : (k : Int) < (n1 : Int) + n2 + 10 * n0 + 8 := by omega
    go_upto_if 40 with fail
    go_cut [13] (fun n wc => ∃ nn : Nat, n = .int .i64 nn ∧ nn ≤ m0 ∧ (n1 ≤ k → nn = m0) ∧ wc = wr)
    case first =>
      by_cases hk1 : k < n1
      · rw [show decide (k < n1) = true by simpa using hk1]
        obtain ⟨bp, op, hap, hcp⟩ := HP.out.1.row
        have hpl := HP.out.1.len
        obtain rfl := hap (ne_nil_of hpl hk1)
        have hcell : wr.cell? ⟨bp, op + k, none⟩ = some (.int .i64 (nth parts k)) := HC.out.1.cellAt (hcp k (by omega)) (HP.out.2 bp op (by omega) rfl)
        have hlt1 : (k : Int) < (n1 : Int) := by omega
        obtain ⟨pp, hpp⟩ : ∃ pp, nth parts k = pp := ⟨_, rfl⟩
        rw [hpp] at hcell
        clear hcp hap hpl hpp
        have h0 : ¬ (m0 : Int) < 0 := by omega
        by_cases hp0 : pp < 0
        · go_wp2_with fail
          go_meet
          case rel => exact ⟨0, congrArg (Value.int .i64) (by omega), by omega, fun h => by omega, rfl⟩
        · obtain ⟨m, rfl⟩ := Int.eq_ofNat_of_zero_le (show 0 ≤ pp by omega)
          by_cases hp1 : (m : Int) ≤ (m0 : Int)
          · go_wp2_with fail
            go_meet
            case rel => exact ⟨m, congrArg (Value.int .i64) (by omega), by omega, fun h => by omega, rfl⟩
          · have hp2 : (m0 : Int) < (m : Int) := by omega
            go_wp2_with fail
            go_meet
            case rel => exact ⟨m0, congrArg (Value.int .i64) (by omega), by omega, fun h => by omega, rfl⟩
      · rw [show decide (k < n1) = false by simpa using hk1]
        go_wp2_with fail
        go_meet
        case rel => exact ⟨m0, rfl, Nat.le_refl _, fun _ => rfl, rfl⟩
    case rest =>
      obtain ⟨nn, rfl, hnn, hnk, rfl⟩ := hcut
      have HNK : Hid (n1 ≤ k → nn = m0) := hnk
      clear hnk
      go_upto_if 51 with fail
      go_cut [14] (fun r wc' => ∃ rr : Nat, r = .int .i64 rr ∧ rr ≤ 100 ∧ (n2 ≤ k → rr = 8) ∧ wc' = wc)
      case first =>
        by_cases hk1 : k < n2
        · rw [show decide (k < n2) = true by simpa using hk1]
          obtain ⟨bp, op, hap, hcp⟩ := HR.out.1.row
          have hpl := HR.out.1.len
          obtain rfl := hap (ne_nil_of hpl hk1)
          have hcell : wc.cell? ⟨bp, op + k, none⟩ = some (.int .i64 (nth rooms k)) := HC.out.1.cellAt (hcp k (by omega)) (HR.out.2 bp op (by omega) rfl)
          have hlt1 : (k : Int) < (n2 : Int) := by omega
          obtain ⟨pp, hpp⟩ : ∃ pp, nth rooms k = pp := ⟨_, rfl⟩
          rw [hpp] at hcell
          clear hcp hap hpl hpp
          by_cases hp0 : pp < 0
          · go_wp2_with fail
            go_meet
            case rel => exact ⟨0, congrArg (Value.int .i64) (by omega), by omega, fun h => by omega, rfl⟩
          · obtain ⟨m, rfl⟩ := Int.eq_ofNat_of_zero_le (show 0 ≤ pp by omega)
            by_cases hp1 : (m : Int) ≤ 100
            · go_wp2_with fail
              go_meet
              case rel => exact ⟨m, congrArg (Value.int .i64) (by omega), by omega, fun h => by omega, rfl⟩
            · have hp2 : 100 < (m : Int) := by omega
              go_wp2_with fail
              go_meet
              case rel => exact ⟨100, congrArg (Value.int .i64) (by omega), by omega, fun h => by omega, rfl⟩
        · rw [show decide (k < n2) = false by simpa using hk1]
          go_wp2_with fail
          go_meet
          case rel => exact ⟨8, rfl, by omega, fun _ => rfl, rfl⟩
      case rest =>
        obtain ⟨rr, rfl, hrr, hrk, rfl⟩ := hcut
        have HRK : Hid (n2 ≤ k → rr = 8) := hrk
        clear hrk
        have hnc : (nn : Int) ≤ (cl : Int) := by omega
        have hlen : ((L.drop E).take nn).length = nn := by
          have := HL.out.2.1
          have := HM0.out
          rw [List.length_take, List.length_drop]; omega
        have HTK : Hid (((L.drop E).take nn).length = nn ∧ Row .u32 wc al ((L.drop E).take nn) ∧ ∀ o, Row .u32 (wc.alloc o) al ((L.drop E).take nn)) := by
          have hr : Row .u32 wc al ((L.drop E).take nn) := by
            obtain ⟨bb, oo, h1, h2⟩ := HLR.out.1
            refine ⟨bb, oo, fun hne => h1 (fun e => hne (by rw [e]; simp)), fun i hi => ?_⟩
            rw [List.length_take] at hi
            rw [nth_take (by omega)]; exact h2 i (by omega)
          exact ⟨hlen, hr, fun o => row_old hr o⟩
        clear hlen
        go_wp2_with (at_builtin; go_must (refine wpList_append_seg rfl _ _ 27 27 rfl .u32 64 4 Try.underlying27 info_u32 (.slice (some ⟨wc.heap.size, 0, none⟩) 0 0) [] ((L.drop E).take nn) rfl (seg_empty _ _ _) _ rfl (src_row Try.underlying27 (HTK.out.2.2 _) HTK.out.1 HLR.out.2.1) (by have := HTK.out.1; unfold maxLen; simp; omega) (by have := HTK.out.1; simp; omega) ?_; intro vc w1 hs1 hc1 hm1))
        rw [List.nil_append] at hs1
        obtain ⟨ac, cc, hvc, -, -, hcc, -, hcn⟩ := hs1.form
        rw [HTK.out.1] at hvc hcc
        subst hvc
        have hsr := seg_rowU hs1
        have hvb : ∀ g, (Value.slice ac nn cc).ownBlock = some g → wc.heap.size ≤ g := fun g hg => by
          rcases hm1 g hg with e | e
          · simp [Value.ownBlock] at e; omega
          · simp at e; omega
        have E1 : EncV w1 b E 0 false (L.take E) [] v' u' := (HD.out.below ((Below.refl _ _).alloc (Nat.le_refl _) _)).chg hc1 (fun k j hf hh => by
          have := HD.out.foot_lt hf; simp [Value.ownBlock] at hh; omega)
        have hW1 : Below wc.heap.size wc w1 := ((Below.refl _ _).alloc (Nat.le_refl _) _).trans (hc1.below (by simp) (fun k j hk hh => by simp [Value.ownBlock] at hh; omega))
        obtain ⟨Y, hY⟩ : ∃ Y, okLen ((L.drop E).take nn) = Y := ⟨_, rfl⟩
        have hYn : Y ≤ nn := by
          rw [← hY]; have := okLen_le ((L.drop E).take nn); rw [HTK.out.1] at this; exact this
        have hYm : Y = min (okLen (L.drop E)) nn := by rw [← hY, okLen_take]
        have HXT : Hid ((Y < nn → okLen L = E + Y ∧ okLen L < L.length) ∧ (¬ Y < nn → Y = nn ∧ okLen L = (E + nn) + okLen (L.drop (E + nn)) ∧ L.take E ++ (L.drop E).take nn = L.take (E + nn))) := by
          have hok := HT.out
          refine ⟨fun h => ⟨by omega, ?_⟩, fun h => ⟨by omega, ?_, ?_⟩⟩
          · have h1 := HL.out.2.1
            have h2 := HM0.out
            omega
          · have h3 := okLen_split (L.drop E) nn (by omega)
            rw [List.drop_drop] at h3
            omega
          · rw [List.take_add]
        have HXG : Hid (n1 ≤ k → n2 ≤ k → 0 < m0 → Y < nn ∨ 1 ≤ Y) := fun g1 g2 g3 => by
          have hn8 := HNK.out g1
          omega
        have hfl : ∀ g, (∃ o', ac = some ⟨g, o', none⟩) → wc.heap.size ≤ g := fun g ⟨o', e⟩ => hvb g (by rw [e]; rfl)
        refine (eFeed_any b E (L.take E) ((L.drop E).take nn) ac nn cc rr v' u' w1 E1 hsr HTK.out.1 hcc hcn (fun b' o' e hf => by have := hfl b' ⟨o', e⟩; have := HD.out.foot_lt hf; omega) (by omega) (by rw [List.length_take]; omega) (by omega) (wf_small _ (by omega) (by omega))).mono ?_
        rintro e w2 ⟨rfl, v2, u2, E2, C2, M2, U2⟩
        rw [hY] at E2 ⊢
        rw [HTK.out.1] at E2
        have HE2 : Hid (EncV w2 b ((E : Int) + Y) (if Y < nn then 2 else 0) false (if Y < nn then [] else L.take E ++ (L.drop E).take nn) [] v2 u2) := E2
        have HC2 : Hid (Chg (fun k _ => footE b v u k) w w2 ∧ Mov w v v2 ∧ Mov w u u2) := by
          obtain ⟨hC, hM, hU⟩ := HC.out
          have hC1 := hC.trans (chg_of_below hW1 (Nat.le_refl _) _)
          refine ⟨hC1.trans2 C2 (fun _ _ _ h => h) (fun k j hk h => footE_old hM hU hk h), mov_trans (mov_trans hM (mov_refl w1 v') hC1.size) M2 hC1.size, mov_trans (mov_trans hU (mov_refl w1 u') hC1.size) U2 hC1.size⟩
        have HCM : Hid (Came w2 (.slice al m0 cl) (L.drop E) b v2 u2 ∧ (L.drop E).length = m0) := by
          refine ⟨?_, by rw [List.length_drop]; have := HL.out.2.1; have := HM0.out; omega⟩
          rcases HLR.out.2.2 with h | ⟨bl, ol, cl', e, q1, q2, q3, q4⟩
          · exact .inl h
          · refine .inr ⟨bl, ol, cl', e, q1, q2, ?_, fun hne hf => ?_⟩
            · by_cases hne : L.drop E = []
              · rw [hne]; exact row_nil _ _ _
              · exact (q3.mono hW1).chg C2 (fun b' o' e' j hh => by simp at e'; rw [← e'.1] at hh; exact q4 hne hh)
            · have hb : bl < wc.heap.size := by
                obtain ⟨b'', o'', n', c'⟩ := q3
                have e2 := n' hne
                simp only [Option.some.injEq, Addr.mk.injEq] at e2
                have hl : 0 < (L.drop E).length := List.length_pos_iff.2 hne
                have c0' := c' 0 hl
                rw [← e2.1] at c0'
                exact World.block_lt_of_cell? wc _ c0'
              rcases hf with hf | hf | hf
              · exact q4 hne (.inl hf)
              · rcases M2 bl hf with e2 | e2
                · exact q4 hne (.inr (.inl e2))
                · have := hW1.size; omega
              · rcases U2 bl hf with e2 | e2
                · exact q4 hne (.inr (.inr e2))
                · have := hW1.size; omega
        clear hY hYm hfl E1 hW1 hsr hvb hs1 hc1 hm1 hcc hcn E2 C2 M2 U2 HTK HLR HD HC HNK HRK HT
        have f1 : ¬ (Y : Int) < 0 := by omega
        have f2 : ¬ (Y : Int) > nn := by omega
        have f3 : ¬ (0 : Int) > rr := by omega
        have f4 : (Y : Int) ≤ (m0 : Int) := by omega
        have f6 : ¬ nn < Y := by omega
        have f8 : 0 ≤ (Y : Int) := by omega
        go_upto_region 15 with fail
        go_cut [1] (fun l1 wc' => ∃ al2 cl2, l1 = .slice al2 (m0 - Y) cl2 ∧ Came w2 (.slice al2 (m0 - Y) cl2) (L.drop (E + Y)) b v2 u2 ∧ wc' = w2)
        case first =>
          rcases HCM.out.1 with ⟨aa, e, hnil⟩ | ⟨bl, ol, cl', e, q1, q2, q3, q4⟩
          · simp only [Value.slice.injEq] at e
            obtain ⟨rfl, rfl, rfl⟩ := e
            have hx0 : Y = 0 := by omega
            have HX0 : Hid (Y = 0 ∧ L.drop E = []) := ⟨hx0, hnil⟩
            have hx1 : (Y : Int) ≤ 0 := by omega
            clear hnil hx0
            cases al with
            | none =>
              go_wp2_with fail
              go_meet
              case rel => exact ⟨none, 0, by simp [HX0.out.1], .inl ⟨none, by simp [HX0.out.1], by rw [HX0.out.1, Nat.add_zero]; exact HX0.out.2⟩, rfl⟩
            | some xa =>
              go_wp2_with fail
              go_meet
              case rel => exact ⟨some xa, 0, by simp [HX0.out.1], .inl ⟨some xa, by simp [HX0.out.1], by rw [HX0.out.1, Nat.add_zero]; exact HX0.out.2⟩, rfl⟩
          · simp only [Value.slice.injEq] at e
            obtain ⟨rfl, hm2, rfl⟩ := e
            have hld : (L.drop (E + Y)).length = m0 - Y := by
              have hm3 := hm2
              rw [List.length_drop] at hm3 ⊢; omega
            have hrw : Row .u32 w2 (some ⟨bl, ol + Y, none⟩) (L.drop (E + Y)) := by
              obtain ⟨b'', o'', n', c'⟩ := q3
              refine ⟨bl, ol + Y, fun _ => rfl, fun i hi => ?_⟩
              have hne : L.drop E ≠ [] := by
                intro e
                rw [← List.drop_drop, e] at hi; simp at hi
              have e2 := n' hne
              simp only [Option.some.injEq, Addr.mk.injEq] at e2
              have hi2 : Y + i < (L.drop E).length := by rw [hld] at hi; omega
              have := c' (Y + i) hi2
              rw [← e2.1, ← e2.2.1] at this
              rw [show ol + Y + i = ol + (Y + i) by omega, this, ← List.drop_drop]
              simp [nth, Nat.add_assoc]
            have hne2 : L.drop (E + Y) ≠ [] → ¬ footE b v2 u2 bl := fun hne => q4 (fun e => hne (by rw [← List.drop_drop, e]; simp))
            have HRW : Hid ((L.drop (E + Y)).length = m0 - Y ∧ Row .u32 w2 (some ⟨bl, ol + Y, none⟩) (L.drop (E + Y)) ∧ (L.drop (E + Y) ≠ [] → ¬ footE b v2 u2 bl) ∧ m0 = (L.drop E).length ∧ cl ≤ maxLen) := ⟨hld, hrw, hne2, hm2, q2⟩
            have hml : m0 ≤ cl := by omega
            clear hld hrw hne2 hm2 q1 q2 q3 q4
            by_cases hce : Y = cl
            · have hme : m0 = Y := by omega
              have HME : Hid (m0 = Y ∧ cl = Y) := ⟨hme, hce.symm⟩
              subst hce
              clear hml hme
              have hq : (Y : Int) ≤ (Y : Int) := Int.le_refl _
              go_wp2_with fail
              go_meet
              case rel =>
                have hz0 : m0 - Y = 0 := by have := HME.out; omega
                refine ⟨some ⟨bl, ol, none⟩, 0, by rw [hz0], .inr ⟨bl, ol, 0, ?_, ?_, by unfold maxLen; omega, ?_, HRW.out.2.2.1⟩, rfl⟩
                · rw [HRW.out.1]
                · rw [HRW.out.1]; have := HME.out; omega
                · have h0 : L.drop (E + Y) = [] := List.length_eq_zero_iff.1 (by rw [HRW.out.1]; have := HME.out; omega)
                  rw [h0]; exact row_nil _ _ _
            · have hlt2 : Y < cl := by omega
              have hlt3 : (Y : Int) < (cl : Int) := by omega
              clear hce
              go_wp2_with fail
              go_meet
              case rel =>
                refine ⟨_, _, rfl, .inr ⟨bl, ol + Y, cl - Y, ?_, ?_, ?_, HRW.out.2.1, HRW.out.2.2.1⟩, rfl⟩
                · rw [HRW.out.1]
                · rw [HRW.out.1]; omega
                · have := HRW.out.2.2.2.2; omega
        case rest =>
          obtain ⟨al2, cl2, rfl, hcm2, rfl⟩ := hcut
          have HQ0 : Hid (Came wc (.slice al2 (m0 - Y) cl2) (L.drop (E + Y)) b v2 u2) := hcm2
          clear hcm2 HCM
          obtain ⟨m4, hm4⟩ : ∃ m4, m0 - Y = m4 := ⟨_, rfl⟩
          rw [hm4] at HQ0
          rw [hm4]
          have HM4 : Hid (m0 - Y = m4 ∧ n0 = L.length ∧ n0 - E = m0) := ⟨hm4, HL.out.2.1, HM0.out⟩
          clear hm4
          go_wp2_with fail
          refine (fail_any b 0 _ _ false wc HE2.out.base).mono ?_
          rintro e w4 ⟨rfl, hb4⟩
          have HE4 : Hid (EncV w4 b ((E : Int) + Y) (if Y < nn then 2 else 0) false (if Y < nn then [] else L.take E ++ (L.drop E).take nn) [] v2 u2) := HE2.out.below hb4
          have HC4 : Hid (Chg (fun k _ => footE b v u k) w w4 ∧ Mov w v v2 ∧ Mov w u u2) := ⟨HC2.out.1.trans (chg_of_below hb4 (Nat.le_refl _) _), HC2.out.2⟩
          have HQ : Hid (Came w4 (.slice al2 m4 cl2) (L.drop (E + Y)) b v2 u2) := by
            rcases HQ0.out with h | ⟨bl, ol, cl', e, q1, q2, q3, q4⟩
            · exact .inl h
            · exact .inr ⟨bl, ol, cl', e, q1, q2, q3.mono hb4, q4⟩
          clear hb4 HE2 HC2 HQ0
          obtain ⟨vf, hvf⟩ : ∃ vf, failAt ((E : Int) + Y) (if Y < nn then 2 else 0) = vf := ⟨_, rfl⟩
          rw [hvf]
          clear hvf
          by_cases hbad : Y < nn
          · rw [if_pos hbad, if_pos hbad] at HE4
            rw [if_pos hbad]
            have HZ0 : Hid (okLen L = E + Y ∧ okLen L < L.length) := HXT.out.1 hbad
            clear hbad HXT HXG
            have hfl := fldE 2 vf
            go_wp2_with fail
            refine (eEndE_any b _ _ _ _ _ v2 u2 w4 HE4.out rfl).mono ?_
            rintro e w5 ⟨rfl, hw5⟩
            subst hw5
            clear hfl
            go_wp2_with fail
            go_loopw [10, 17] (fun o i wr => o = .string ⟨#[]⟩ ∧ i = .int .i64 0 ∧ wr = w5) (fun _ _ _ => 0)
            case atStart => exact ⟨rfl, rfl, rfl⟩
            case round =>
              obtain ⟨rfl, rfl, rfl⟩ := hrel
              go_wp2_with fail
              refine (outDone_any b 0 _ _ _ v2 [] _ HE4.out.base HE4.out.row).mono ?_
              rintro e w6 ⟨rfl, rfl⟩
              rw [show (!goB 2 false && (([] : List Int).length == 0)) = true from rfl]
              go_wp2
              go_ret2
              refine ⟨[], by unfold WrT; rw [if_pos HZ0.out.2], rfl, v2, u2, ?_, HC4.out.1⟩
              rw [if_pos HZ0.out.2, decide_eq_false (by have := HZ0.out.2; omega), HZ0.out.1]
              exact_mod_cast HE4.out
          · rw [if_neg hbad, if_neg hbad] at HE4
            rw [if_neg hbad]
            obtain ⟨hYe, hok2, htk⟩ := HXT.out.2 hbad
            subst hYe
            rw [htk] at HE4
            have HOK : Hid (okLen L = (E + Y) + okLen (L.drop (E + Y))) := hok2
            clear hok2 htk HXT hbad
            have hfl := fldE 0 vf
            by_cases hend : m4 = 0
            · by_cases hkn : (k : Int) ≥ (n1 : Int)
              · have HZ0 : Hid (E + Y = L.length ∧ okLen L = L.length) := by
                  have h1 : E + Y = L.length := by have := HM4.out; omega
                  refine ⟨h1, ?_⟩
                  have h2 := HOK.out
                  rw [h1, List.drop_of_length_le (Nat.le_refl _)] at h2
                  simpa [okLen] using h2
                have HSC : Hid (∀ x ∈ L, isB x = true ∧ 0 ≤ x) := fun x hx => by
                  obtain ⟨i, hi, rfl⟩ := mem_nth hx
                  exact ⟨okLen_all L HZ0.out.2 i hi, (HL.out.2.2 _ hx).1⟩
                rw [HZ0.out.1, List.take_of_length_le (Nat.le_refl _)] at HE4
                clear HXG
                subst hend
                go_wp2_with fail
                refine (eEnd_any b _ L v2 u2 w4 HE4.out HSC.out hs).mono ?_
                rintro e w5 ⟨rfl, X, v5, u5, hX, D5, C5, M5, U5⟩
                have HX : Hid (TextOf L X ∧ X.length ≤ 1200) := ⟨hX, text_len hX hs⟩
                have HD5 : Hid (EncV w5 b (okLen L) (if okLen L < L.length then 2 else 0) (decide (okLen L = L.length)) [] X v5 u5 ∧ Chg (fun k _ => footE b v u k) w w5 ∧ (∀ k, k < w.heap.size → footE b v5 u5 k → footE b v u k)) := by
                  have hs4 := HC4.out.1.size
                  refine ⟨?_, HC4.out.1.trans2 C5 (fun _ _ _ h => h) (fun k j hk h => footE_old HC4.out.2.1 HC4.out.2.2 hk h), fun k hk h => footE_old HC4.out.2.1 HC4.out.2.2 hk (footE_old M5 U5 (by omega) h)⟩
                  have h1 := HZ0.out
                  rw [if_neg (by omega), decide_eq_true h1.2, h1.2, ← h1.1]
                  exact_mod_cast D5
                have HGO : Hid (goB (if okLen L < L.length then 2 else 0) (decide (okLen L = L.length)) = false) := off_go L
                clear hX D5 C5 M5 U5 HE4 HC4 HQ hfl
                go_wp2_with fail
                go_loopw [10, 17] (fun o i wr => ∃ (j : Nat) (tt K2 : List Int) (v6 : Value), i = .int .i64 j ∧ o = .string (Stp.strOf tt) ∧ j ≤ tt.length ∧ tt ++ K2 = X ∧ EncV wr b (okLen L) (if okLen L < L.length then 2 else 0) (decide (okLen L = L.length)) [] K2 v6 u5 ∧ Chg (fun k _ => footE b v u k) w wr ∧ (∀ k, k < w.heap.size → footE b v6 u5 k → footE b v u k)) (fun _ i _ => 1201 - (intOf i).toNat)
                case atStart => exact ⟨0, [], X, v5, rfl, rfl, Nat.zero_le _, rfl, HD5.out.1, HD5.out.2.1, HD5.out.2.2⟩
                case round =>
                  obtain ⟨j, tt, K2, v6, rfl, rfl, hj, hA, hE6, hC6, hF6⟩ := hrel
                  have HA : Hid (tt ++ K2 = X ∧ EncV wr b (okLen L) (if okLen L < L.length then 2 else 0) (decide (okLen L = L.length)) [] K2 v6 u5 ∧ Chg (fun k _ => footE b v u k) w wr ∧ (∀ k, k < w.heap.size → footE b v6 u5 k → footE b v u k)) := ⟨hA, hE6, hC6, hF6⟩
                  have htl : tt.length + K2.length ≤ 1200 := by
                    have h1 := congrArg List.length hA
                    rw [List.length_append] at h1
                    have := HX.out.2
                    omega
                  clear hA hE6 hC6 hF6 HD5
                  go_wp2_with fail
                  refine (outDone_any b 0 _ _ _ v6 K2 wr HA.out.2.1.base HA.out.2.1.row).mono ?_
                  rintro e w6 ⟨rfl, hw6⟩
                  subst hw6
                  rw [HGO.out]
                  by_cases hK0 : K2 = []
                  · subst hK0
                    rw [show (!false && (([] : List Int).length == 0)) = true from rfl]
                    go_wp2
                    go_ret2
                    refine ⟨tt, ?_, rfl, v6, u5, HA.out.2.1, HA.out.2.2.1⟩
                    unfold WrT
                    have h1 := HA.out.1
                    rw [List.append_nil] at h1
                    rw [if_neg (by have := HZ0.out; omega), h1]
                    exact HX.out.1
                  · have hK1 : K2.length ≠ 0 := fun e => hK0 (List.length_eq_zero_iff.1 e)
                    rw [show (!false && (K2.length == 0)) = false by simp [hK0]]
                    clear hK0
                    go_wp2_with fail
                    refine (eFeedE_any b _ _ _ [] K2 _ 8 v6 u5 w6 HA.out.2.1 HGO.out (wf_small _ (by omega) (by omega))).mono ?_
                    rintro e w7 ⟨rfl, v7, E7, C7, M7⟩
                    obtain ⟨f, hf⟩ : ∃ f, frontN 8 K2.length = f := ⟨_, rfl⟩
                    have hf1 : 1 ≤ f ∧ f ≤ 8 ∧ f ≤ K2.length := by
                      rw [← hf]; unfold frontN
                      repeat' split
                      all_goals omega
                    rw [hf] at E7 ⊢
                    clear hf
                    have hlt7 : (K2.take f).length = f := by rw [List.length_take]; omega
                    have hft : ∀ k, footE b v7 u5 k → footE b v6 u5 k := fun k h => by
                      rcases h with h | h | h
                      · exact .inl h
                      · exact .inr (.inl (M7 k h))
                      · exact .inr (.inr h)
                    have HE7 : Hid (EncV w7 b (okLen L) (if okLen L < L.length then 2 else 0) (decide (okLen L = L.length)) [] (K2.drop f) v7 u5 ∧ Chg (fun k _ => footE b v u k) w w7 ∧ (∀ k, k < w.heap.size → footE b v7 u5 k → footE b v u k) ∧ (tt ++ K2.take f) ++ K2.drop f = X ∧ (tt ++ K2.take f).length = tt.length + f) :=
                      ⟨E7, HA.out.2.2.1.trans2 C7 (fun _ _ _ h => h) (fun k j hk h => HA.out.2.2.2 k hk (.inl h)), fun k hk h => HA.out.2.2.2 k hk (hft k h), by rw [List.append_assoc, List.take_append_drop]; exact HA.out.1, by rw [List.length_append, hlt7]⟩
                    obtain ⟨q1, q2, q3⟩ := hf1
                    have g1 : (Stp.strOf (K2.take f)).toList.isEmpty = false := full_str (by omega)
                    have g2 : ¬ ((Stp.strOf (K2.take f)).size : Int) > 8 := by rw [strOf_size, hlt7]; omega
                    have g3 : ¬ 9223372036854775807 < (Stp.strOf tt).size + (Stp.strOf (K2.take f)).size := by rw [strOf_size, strOf_size, hlt7]; omega
                    have g4 : ¬ 8 < (Stp.strOf (K2.take f)).size := by rw [strOf_size, hlt7]; omega
                    have g5 : ¬ (j : Int) > 100000 := by omega
                    clear E7 C7 M7 hft HA hlt7
                    go_wp2
                    go_roundw
                    case rel => exact ⟨j + 1, tt ++ K2.take f, K2.drop f, v7, by go_num, by rw [strOf_append], by rw [HE7.out.2.2.2.2]; omega, HE7.out.2.2.2.1, HE7.out.1, HE7.out.2.1, HE7.out.2.2.1⟩
                    case measure => simp [intOf]; omega
              · have hkn' : (k : Int) < (n1 : Int) := by omega
                clear HXG
                subst hend
                go_wp2
                go_roundw
                case rel => exact ⟨k + 1, E + Y, v2, u2, by go_num, rfl, by have := HM4.out; omega, by omega, by exact_mod_cast HE4.out, HQ.out, HOK.out, HC4.out.1, HC4.out.2.1, HC4.out.2.2⟩
                case measure => simp [intOf]; omega
            · have hend' : ((m4 : Int) == 0) = false := by simp; omega
              by_cases hkn : (k : Int) ≥ (n1 : Int)
              · by_cases hkm : (k : Int) ≥ (n2 : Int)
                · have hgo : 1 ≤ Y := by
                    rcases HXG.out (by omega) (by omega) (by have := HM4.out; omega) with h | h
                    · omega
                    · exact h
                  have HGO : Hid (1 ≤ Y) := hgo
                  have he2 : ((Y : Int) == 0) = false := by simp; omega
                  clear HXG hgo
                  go_wp2
                  go_roundw
                  case rel => exact ⟨k + 1, E + Y, v2, u2, by go_num, rfl, by have := HM4.out; omega, by have := HGO.out; omega, by exact_mod_cast HE4.out, HQ.out, HOK.out, HC4.out.1, HC4.out.2.1, HC4.out.2.2⟩
                  case measure => simp [intOf]; omega
                · have hkm' : (k : Int) < (n2 : Int) := by omega
                  clear HXG
                  go_wp2
                  go_roundw
                  case rel => exact ⟨k + 1, E + Y, v2, u2, by go_num, rfl, by have := HM4.out; omega, by omega, by exact_mod_cast HE4.out, HQ.out, HOK.out, HC4.out.1, HC4.out.2.1, HC4.out.2.2⟩
                  case measure => simp [intOf]; omega
              · have hkn' : (k : Int) < (n1 : Int) := by omega
                clear HXG
                go_wp2
                go_roundw
                case rel => exact ⟨k + 1, E + Y, v2, u2, by go_num, rfl, by have := HM4.out; omega, by omega, by exact_mod_cast HE4.out, HQ.out, HOK.out, HC4.out.1, HC4.out.2.1, HC4.out.2.2⟩
                case measure => simp [intOf]; omega
end Pun
end Go.Proofs.Ytemgbmacdpnepaa
