/-
  The contract of the law's own 'write', of scalars, with no parts and no rooms named, as a walk over the translated text. The condition: the encoder is a new one; the list is small.
-/
import Derived.Test.YtpglmfhlgaliaaaDoorCPWr
import Derived.Deep.DeepCutAuto
namespace Go.Proofs.YtpglmfhlgaliaaaDoor
open Go.ChangeShapes Go.WideShapes Go.ChangeAt Go.RowKit
namespace CP
open Bas Sca Stp Scn Cod Cmp Cps
set_option linter.unusedVariables false
variable {π : Bool}

theorem fld (q a : Int) (w : World) : (Instr.field 53 (.agg #[.int .i64 q, .int .i64 a]) 0).run Tryd.prog w = .ok (.int .i64 q) w := by kernel_rfl
/-- A list that came in, and its rests. -/
def Came (w : World) (l1 : Value) (L : List Int) (b : Nat) (v : Value) : Prop :=
  (∃ aa, l1 = .slice aa 0 0 ∧ L = []) ∨ ∃ bl ol cl, l1 = .slice (some ⟨bl, ol, none⟩) L.length cl ∧ L.length ≤ cl ∧ cl ≤ maxLen ∧ Row .u32 w (some ⟨bl, ol, none⟩) L ∧ (L ≠ [] → ¬ footE b v bl)

theorem came_of {w w' : World} {a : Option Addr} {n c : Nat} {L : List Int} {b : Nat} {v : Value} (J : Cap a n c) (R : Row .u32 w a L) (hl : L.length = n) (hb : Below w.heap.size w w') (hf : ∀ k, k < w.heap.size → ¬ footE b v k) : Came w' (.slice a n c) L b v := by
  rcases J with ⟨rfl, rfl⟩ | ⟨bl, ol, rfl, h1, h2⟩
  · exact .inl ⟨a, rfl, List.length_eq_zero_iff.1 hl⟩
  · refine .inr ⟨bl, ol, c, by rw [hl], by omega, h2, R.mono hb, fun hne => ?_⟩
    obtain ⟨b'', o'', n', c'⟩ := R
    have e2 := n' hne
    simp only [Option.some.injEq, Addr.mk.injEq] at e2
    have c0' := c' 0 (List.length_pos_iff.2 hne)
    rw [← e2.1] at c0'
    exact hf bl (World.block_lt_of_cell? w _ c0')


set_option maxHeartbeats 8000000 in
set_option maxRecDepth 100000 in
theorem write_any (b : Nat) (v : Value) (a0 : Option Addr) (n0 c0 : Nat) (L : List Int) (w : World) (h : EncV π cs0 w b 0 0 false [] v)
    (hL : Came w (.slice a0 n0 c0) L b v) (hfit : ∀ c ∈ L, 0 ≤ c ∧ c < 4294967296) (hok : ∀ c ∈ L, isB c = true) (hs : L.length ≤ 100000) :
    Calls Tryd.prog 11 #[.pointer (some ⟨b + 1, 0, none⟩), .slice a0 n0 c0, .slice none 0 0, .slice none 0 0] w fun e w' => e = .returned (.tuple #[.string (Stp.strOf (textC π L)), .bool true]) ∧ Chg (fun k _ => footE b v k) w w' := by
  rw [← tail_text hok]
  have H : Hid (EncV π cs0 w b 0 0 false [] v) := h
  have hn0 : n0 = L.length := by
    rcases hL with ⟨aa, e, rfl⟩ | ⟨bl, ol, cl, e, _⟩
    · simp at e; simp [e.2.1]
    · simp at e; exact e.2.1
  have HL : Hid (Came w (.slice a0 n0 c0) L b v ∧ n0 = L.length ∧ (∀ c ∈ L, 0 ≤ c ∧ c < 4294967296) ∧ ∀ c ∈ L, isB c = true) := ⟨hL, hn0, hfit, hok⟩
  have hs' : n0 ≤ 100000 := by omega
  obtain ⟨TX, hTX⟩ : ∃ TX, tailC π cs0 L = TX := ⟨_, rfl⟩
  have HTX : Hid (tailC π cs0 L = TX ∧ TX.length ≤ 5 * n0 + 5) := ⟨hTX, by rw [← hTX, hn0]; exact tail_max π L cs0⟩
  rw [hTX]
  clear h hL hfit hn0 hok hTX
  go_enter Tryd.func11, Tryd.ntmps11
  go_wp2
  go_loopw [1, 10, 12] (fun l1 o1 k1 wr => ∃ (k E : Nat) (t K : List Int) (sg : CS) (v' : Value), k1 = .int .i64 k ∧ o1 = .string (Stp.strOf t) ∧ E ≤ n0 ∧ k ≤ E + t.length ∧ EncV π sg wr b E 0 false K v' ∧ Came wr l1 (L.drop E) b v' ∧
      t ++ K ++ tailC π sg (L.drop E) = TX ∧ Chg (fun k _ => footE b v k) w wr ∧ Mov w v v' ∧ t.length + K.length ≤ 5 * E ∧ K.length ≤ 5) (fun _ _ k1 _ => 10 * n0 + 8 - (intOf k1).toNat)
  case atStart => exact ⟨0, 0, [], [], cs0, v, rfl, rfl, Nat.zero_le _, by simp, H.out, by simpa using HL.out.1, by simpa using HTX.out.1, Chg.refl _ _, mov_refl _ _, by simp, by simp⟩
  case round =>
    obtain ⟨k, E, t, K, sg, v', rfl, rfl, hE, hk, hD, hcm, htot, hC, hM, htE, hK4⟩ := hrel
    have HD : Hid (EncV π sg wr b E 0 false K v') := hD
    have HT : Hid (t ++ K ++ tailC π sg (L.drop E) = TX) := htot
    have HC : Hid (Chg (fun k _ => footE b v k) w wr ∧ Mov w v v') := ⟨hC, hM⟩
    obtain ⟨al, cl, hl1, hcap, hlrow, hlnil, hlap⟩ : ∃ al cl, u1 = .slice al (n0 - E) cl ∧ n0 - E ≤ cl ∧ Row .u32 wr al (L.drop E) ∧ (al = none → cl = 0) ∧ Came wr (.slice al (n0 - E) cl) (L.drop E) b v' := by
      have hn0 := HL.out.2.1
      rcases hcm with ⟨aa, e, hnil⟩ | ⟨bl, ol, cl, e, h1, h2, h3, h4⟩
      · have : (L.drop E).length = 0 := by rw [hnil]; rfl
        rw [List.length_drop] at this
        have e0 : n0 - E = 0 := by omega
        exact ⟨aa, 0, by rw [e, e0], by omega, by rw [hnil]; exact row_nil _ _ _, fun _ => rfl, .inl ⟨aa, by rw [e0], hnil⟩⟩
      · have e0 : (L.drop E).length = n0 - E := by rw [List.length_drop]; omega
        rw [e0] at e h1
        exact ⟨_, cl, e, h1, h3, (fun h => by cases h), .inr ⟨bl, ol, cl, by rw [e0], by rw [e0]; exact h1, h2, h3, h4⟩⟩
    subst hl1
    obtain ⟨m0, hm0⟩ : ∃ m0, n0 - E = m0 := ⟨_, rfl⟩
    rw [hm0] at hcap hlap
    rw [hm0]
    have HM0 : Hid (n0 - E = m0) := hm0
    have hm1 : m0 ≤ 100000 := by omega
    clear hm0
    have HLR : Hid (Row .u32 wr al (L.drop E) ∧ (al = none → cl = 0) ∧ Came wr (.slice al m0 cl) (L.drop E) b v') := ⟨hlrow, hlnil, hlap⟩
    clear hD hcm htot hC hM hlrow hlnil hlap
    have hlt : (k : Int) < 10 * (n0 : Int) + 8 := by omega
    have hz : ¬ (k : Int) < 0 := by omega
    have hmc : (m0 : Int) ≤ (cl : Int) := by omega
    have HTK : Hid ((L.drop E).length = m0 ∧ Row .u32 wr al (L.drop E) ∧ ∀ o, Row .u32 (wr.alloc o) al (L.drop E)) := ⟨by have := HL.out.2.1; have := HM0.out; rw [List.length_drop]; omega, HLR.out.1, fun o => row_old HLR.out.1 o⟩
    go_wp2_with (at_builtin; go_must (refine wpList_append_seg rfl _ _ 22 22 rfl .u32 35 4 Tryd.underlying22 Stp.info_u32 (.slice (some ⟨wr.heap.size, 0, none⟩) 0 0) [] (L.drop E) rfl (seg_empty _ _ _) _ rfl (src_row Tryd.underlying22 (HTK.out.2.2 _) HTK.out.1 HLR.out.2.1) (by have := HTK.out.1; unfold maxLen; simp; omega) (by have := HTK.out.1; simp; omega) ?_; intro vc w1 hs1 hc1 hm1))
    rw [List.nil_append] at hs1
    obtain ⟨ac, cc, hvc, -⟩ := hs1.form
    rw [HTK.out.1] at hvc
    subst hvc
    have hsr := seg_rowU hs1
    have hvb : ∀ g, (Value.slice ac m0 cc).ownBlock = some g → wr.heap.size ≤ g := fun g hg => by
      rcases hm1 g hg with e | e
      · simp [Value.ownBlock] at e; omega
      · simp at e; omega
    have hW1 : Below wr.heap.size wr w1 := ((Below.refl _ _).alloc (Nat.le_refl _) _).trans (hc1.below (by simp) (fun k j hk hh => by simp [Value.ownBlock] at hh; omega))
    have E1 : EncV π sg w1 b E 0 false K v' := HD.out.below hW1
    obtain ⟨X, hX⟩ : ∃ X, X = encT (folB π) (folS π) 8 sg K (L.drop E) := ⟨_, rfl⟩
    have hoD : ∀ c ∈ L.drop E, isB c = true := fun c hc => HL.out.2.2.2 c (List.mem_of_mem_drop hc)
    have hXe : X.eaten ≤ m0 := by
      rw [hX]; have := encS_le (folB π) (folS π) 8 (L.drop E) sg (K.take (frontR 8 K.length)) (K.drop (frontR 8 K.length)); rw [HTK.out.1] at this; exact this
    have hfr := frontR_le (8 : Int) K.length
    have hXr : (X.told.length : Int) ≤ 8 := by
      rw [hX]; refine encS_room (folB π) (folS π) 8 _ _ _ _ ?_; rw [List.length_take]; omega
    have hXtot := enc_tail π 8 (L.drop E) hoD sg (K.take (frontR 8 K.length)) (K.drop (frontR 8 K.length))
    have hXb := encS_bytes (folB π) (folS π) 5 (fun s c => folB_max π s c) 8 (L.drop E) sg (K.take (frontR 8 K.length)) (K.drop (frontR 8 K.length))
    have hXk := encS_small (folB π) (folS π) 5 (fun s c => folB_max π s c) 8 (L.drop E) sg (K.take (frontR 8 K.length)) (K.drop (frontR 8 K.length)) (by rw [List.length_drop]; omega)
    have hXt := encS_told (folB π) (folS π) 8 (L.drop E) sg (K.take (frontR 8 K.length)) (K.drop (frontR 8 K.length))
    have hXX : encS (folB π) (folS π) 8 sg (K.take (frontR 8 K.length)) (K.drop (frontR 8 K.length)) (L.drop E) = X := by rw [hX]; rfl
    have hXg : L.drop E ≠ [] → 1 ≤ X.eaten ∨ 1 ≤ X.told.length := by
      intro g3
      by_cases hK0 : K = []
      · have := encS_goes (folB π) (folS π) 8 (L.drop E) sg [] g3
        left
        rw [hX, encT, hK0]
        rcases this with h | h
        · exfalso
          have h2 := (enc_tail π 8 (L.drop E) hoD sg [] []).2
          rw [h2] at h; cases h
        · simpa using h
      · right
        rw [hXX] at hXt
        refine Nat.le_trans ?_ hXt
        have : K.length ≠ 0 := fun e => hK0 (List.length_eq_zero_iff.1 e)
        rw [List.length_take]; omega
    rw [hXX] at hXtot hXb hXk
    rw [List.take_append_drop, List.drop_drop] at hXtot
    rw [List.length_take, List.length_drop] at hXb
    have HXT : Hid ((t ++ X.told) ++ X.kept ++ tailC π X.st (L.drop (E + X.eaten)) = TX) := by
      show _ = _
      rw [← HT.out, List.append_assoc, List.append_assoc, ← List.append_assoc X.told, hXtot.1]; simp
    have hXl : (t ++ X.told).length + X.kept.length ≤ 5 * (E + X.eaten) := by rw [List.length_append]; omega
    have hxe4 : X.kept.length ≤ 5 := hXk
    have HXG : Hid (L.drop E ≠ [] → 1 ≤ X.eaten ∨ 1 ≤ X.told.length) := hXg
    have hfit : ∀ c ∈ L.drop E, 0 ≤ c ∧ c < 4294967296 := fun c hc => HL.out.2.2.1 c (List.mem_of_mem_drop hc)
    refine (eFeed_any (b + 1) b E sg K v' ac m0 cc (L.drop E) 8 X w1 E1 hX hsr HTK.out.1 (fun b' o' e hf => by have := hvb b' (by rw [e]; rfl); have := HD.out.lt hf; omega) hfit hoD (by omega) (by omega) (by omega) (by omega) (by omega) (by omega)).mono ?_
    rintro e w2 ⟨rfl, v2, E2, C2, M2⟩
    have HE2 : Hid (EncV π X.st w2 b ((E : Int) + X.eaten) 0 false X.kept v2) := E2
    have HC2 : Hid (Chg (fun k _ => footE b v k) w w2 ∧ Mov w v v2) := by
      obtain ⟨hC, hM⟩ := HC.out
      have hC1 := hC.trans (chg_of_below hW1 (Nat.le_refl _) _)
      refine ⟨hC1.trans2 C2 (fun _ _ _ h => h) (fun k j hk h => foot_old hM hk h), mov_trans (mov_trans hM (mov_refl w1 v') hC1.size) M2 hC1.size⟩
    have HCM : Hid (Came w2 (.slice al m0 cl) (L.drop E) b v2 ∧ (L.drop E).length = m0) := by
      refine ⟨?_, HTK.out.1⟩
      rcases HLR.out.2.2 with h | ⟨bl, ol, cl', e, q1, q2, q3, q4⟩
      · exact .inl h
      · refine .inr ⟨bl, ol, cl', e, q1, q2, ?_, fun hne hf => ?_⟩
        · by_cases hne : L.drop E = []
          · rw [hne]; exact row_nil _ _ _
          · exact (q3.mono hW1).chg C2 (fun b' o' e' j hh => by simp at e'; rw [← e'.1] at hh; exact q4 hne hh)
        · have hb : bl < wr.heap.size := by
            obtain ⟨b'', o'', n', c'⟩ := q3
            have e2 := n' hne
            simp only [Option.some.injEq, Addr.mk.injEq] at e2
            have hl : 0 < (L.drop E).length := List.length_pos_iff.2 hne
            have c0' := c' 0 hl
            rw [← e2.1] at c0'
            exact World.block_lt_of_cell? wr _ c0'
          rcases hf with hf | hf
          · exact q4 hne (.inl hf)
          · rcases M2 bl hf with e2 | e2
            · exact q4 hne (.inr e2)
            · have := hW1.size; omega
    clear hX hXtot hXb hXk hXt hXX hXg hfr E1 hW1 hsr hvb hs1 hc1 hm1 E2 C2 M2 HTK HLR HD HC hfit HT hoD
    have f1 : ¬ (X.eaten : Int) < 0 := by omega
    have f2 : ¬ (X.eaten : Int) > m0 := by omega
    have f3 : ¬ ((Stp.strOf X.told).size : Int) > 8 := by rw [strOf_size]; omega
    have f4 : (X.eaten : Int) ≤ (m0 : Int) := by omega
    have f5 : ¬ 9223372036854775807 < (Stp.strOf t).size + (Stp.strOf X.told).size := by rw [strOf_size, strOf_size]; omega
    have f6 : ¬ m0 < X.eaten := by omega
    have f7 : ¬ 8 < (Stp.strOf X.told).size := by rw [strOf_size]; omega
    have f8 : 0 ≤ (X.eaten : Int) := by omega
    go_upto_region 15 with fail
    go_cut [1] (fun l1 wc' => ∃ al2 cl2, l1 = .slice al2 (m0 - X.eaten) cl2 ∧ Came w2 (.slice al2 (m0 - X.eaten) cl2) (L.drop (E + X.eaten)) b v2 ∧ wc' = w2)
    case first =>
      rcases HCM.out.1 with ⟨aa, e, hnil⟩ | ⟨bl, ol, cl', e, q1, q2, q3, q4⟩
      · simp only [Value.slice.injEq] at e
        obtain ⟨rfl, rfl, rfl⟩ := e
        have hx0 : X.eaten = 0 := by omega
        have HX0 : Hid (X.eaten = 0 ∧ L.drop E = []) := ⟨hx0, hnil⟩
        have hx1 : (X.eaten : Int) ≤ 0 := by omega
        clear hnil hx0
        cases al with
        | none =>
          go_wp2_with fail
          go_meet
          case rel => exact ⟨none, 0, by simp [HX0.out.1], .inl ⟨none, by simp [HX0.out.1], by rw [HX0.out.1, Nat.add_zero]; exact HX0.out.2⟩, rfl⟩
        | some xa =>
          go_wp2_with fail
          go_meet
          case rel => exact ⟨some xa, 0, by simp [HX0.out.1], .inl ⟨some xa, by simp [HX0.out.1], by rw [HX0.out.1, Nat.add_zero]; exact HX0.out.2⟩, rfl⟩
      · simp only [Value.slice.injEq] at e
        obtain ⟨rfl, hm2, rfl⟩ := e
        have hld : (L.drop (E + X.eaten)).length = m0 - X.eaten := by
          have hm3 := hm2
          rw [List.length_drop] at hm3 ⊢; omega
        have hrw : Row .u32 w2 (some ⟨bl, ol + X.eaten, none⟩) (L.drop (E + X.eaten)) := by
          obtain ⟨b'', o'', n', c'⟩ := q3
          refine ⟨bl, ol + X.eaten, fun _ => rfl, fun i hi => ?_⟩
          have hne : L.drop E ≠ [] := by
            intro e
            rw [← List.drop_drop, e] at hi; simp at hi
          have e2 := n' hne
          simp only [Option.some.injEq, Addr.mk.injEq] at e2
          have hi2 : X.eaten + i < (L.drop E).length := by rw [hld] at hi; omega
          have := c' (X.eaten + i) hi2
          rw [← e2.1, ← e2.2.1] at this
          rw [show ol + X.eaten + i = ol + (X.eaten + i) by omega, this, ← List.drop_drop]
          simp [nth, Nat.add_assoc]
        have hne2 : L.drop (E + X.eaten) ≠ [] → ¬ footE b v2 bl := fun hne => q4 (fun e => hne (by rw [← List.drop_drop, e]; simp))
        have HRW : Hid ((L.drop (E + X.eaten)).length = m0 - X.eaten ∧ Row .u32 w2 (some ⟨bl, ol + X.eaten, none⟩) (L.drop (E + X.eaten)) ∧ (L.drop (E + X.eaten) ≠ [] → ¬ footE b v2 bl) ∧ m0 = (L.drop E).length ∧ cl ≤ maxLen) := ⟨hld, hrw, hne2, hm2, q2⟩
        have hml : m0 ≤ cl := by omega
        clear hld hrw hne2 hm2 q1 q2 q3 q4
        by_cases hce : X.eaten = cl
        · have hme : m0 = X.eaten := by omega
          have HME : Hid (m0 = X.eaten ∧ cl = X.eaten) := ⟨hme, hce.symm⟩
          subst hce
          clear hml hme
          have hq : (X.eaten : Int) ≤ (X.eaten : Int) := Int.le_refl _
          go_wp2_with fail
          go_meet
          case rel =>
            have hz0 : m0 - X.eaten = 0 := by have := HME.out; omega
            refine ⟨some ⟨bl, ol, none⟩, 0, by rw [hz0], .inr ⟨bl, ol, 0, ?_, ?_, by unfold maxLen; omega, ?_, HRW.out.2.2.1⟩, rfl⟩
            · rw [HRW.out.1]
            · rw [HRW.out.1]; have := HME.out; omega
            · have h0 : L.drop (E + X.eaten) = [] := List.length_eq_zero_iff.1 (by rw [HRW.out.1]; have := HME.out; omega)
              rw [h0]; exact row_nil _ _ _
        · have hlt2 : X.eaten < cl := by omega
          have hlt3 : (X.eaten : Int) < (cl : Int) := by omega
          clear hce
          go_wp2_with fail
          go_meet
          case rel =>
            refine ⟨_, _, rfl, .inr ⟨bl, ol + X.eaten, cl - X.eaten, ?_, ?_, ?_, HRW.out.2.1, HRW.out.2.2.1⟩, rfl⟩
            · rw [HRW.out.1]
            · rw [HRW.out.1]; omega
            · have := HRW.out.2.2.2.2; omega
    case rest =>
      obtain ⟨al2, cl2, rfl, hcm2, rfl⟩ := hcut
      have HQ0 : Hid (Came wc (.slice al2 (m0 - X.eaten) cl2) (L.drop (E + X.eaten)) b v2) := hcm2
      clear hcm2 HCM
      obtain ⟨m4, hm4⟩ : ∃ m4, m0 - X.eaten = m4 := ⟨_, rfl⟩
      rw [hm4] at HQ0
      rw [hm4]
      have HM4 : Hid (m0 - X.eaten = m4 ∧ n0 = L.length ∧ n0 - E = m0) := ⟨hm4, HL.out.2.1, HM0.out⟩
      clear hm4
      go_wp2_with fail
      refine (fail_any (b + 1) 0 _ _ false wc HE2.out.base).mono ?_
      rintro e w4 ⟨rfl, hb4⟩
      have HE4 : Hid (EncV π X.st w4 b ((E : Int) + X.eaten) 0 false X.kept v2) := HE2.out.below hb4
      have HC4 : Hid (Chg (fun k _ => footE b v k) w w4 ∧ Mov w v v2) := ⟨HC2.out.1.trans (chg_of_below hb4 (Nat.le_refl _) _), HC2.out.2⟩
      have HQ : Hid (Came w4 (.slice al2 m4 cl2) (L.drop (E + X.eaten)) b v2) := by
        rcases HQ0.out with h | ⟨bl, ol, cl', e, q1, q2, q3, q4⟩
        · exact .inl h
        · exact .inr ⟨bl, ol, cl', e, q1, q2, q3.mono hb4, q4⟩
      clear hb4 HE2 HC2 HQ0
      rw [show failAt ((E : Int) + X.eaten) 0 = 0 from rfl]
      have hfl := fld 0 0
      by_cases hend : m4 = 0
      · have hzl : L.drop (E + X.eaten) = [] := List.length_eq_zero_iff.1 (by rw [List.length_drop]; have := HM4.out; omega)
        have hq1 := HXT.out
        rw [hzl, tail_nil] at hq1
        have HZ0 : Hid ((t ++ X.told) ++ (X.kept ++ folB π X.st 1114112) = TX ∧ (X.kept ++ folB π X.st 1114112).length ≤ 10) := ⟨by rw [← List.append_assoc]; exact hq1, by have := folB_max π X.st 1114112; rw [List.length_append]; omega⟩
        clear HXT HXG hzl hq1
        subst hend
        go_wp2_with fail
        refine (eEnd_any π X.st (b + 1) b _ X.kept v2 w4 HE4.out (by omega)).mono ?_
        rintro e w5 ⟨v5, rfl, E5, C5, M5⟩
        have HZ : Hid (EncV π (folS π X.st 1114112) w5 b ((E : Int) + X.eaten) 0 true (X.kept ++ folB π X.st 1114112) v5 ∧ Chg (fun k _ => footE b v k) w w5 ∧ Mov w v v5) := ⟨E5, HC4.out.1.trans2 C5 (fun _ _ _ h => h) (fun k j hk h => foot_old HC4.out.2 hk h), mov_trans HC4.out.2 M5 HC4.out.1.size⟩
        obtain ⟨K3, hK3⟩ : ∃ K3, X.kept ++ folB π X.st 1114112 = K3 := ⟨_, rfl⟩
        obtain ⟨S3, hS3⟩ : ∃ S3, folS π X.st 1114112 = S3 := ⟨_, rfl⟩
        obtain ⟨P3, hP3⟩ : ∃ P3 : Int, (E : Int) + X.eaten = P3 := ⟨_, rfl⟩
        rw [hK3, hS3, hP3] at HZ
        rw [hK3] at HZ0
        clear E5 C5 M5 HE4 HC4 HQ hK3 hS3 hP3
        have htx : TX.length ≤ 500005 := by have := HTX.out.2; omega
        go_wp2_with fail
        go_loopw [10, 17] (fun o i wr => ∃ (j : Nat) (tt K2 : List Int) (v5 : Value), i = .int .i64 j ∧ o = .string (Stp.strOf tt) ∧ tt ++ K2 = TX ∧ EncV π S3 wr b P3 0 true K2 v5 ∧ K2.length ≤ 10 ∧ j ≤ 2 ∧ (1 ≤ j → K2.length ≤ 2) ∧ (2 ≤ j → K2 = []) ∧ Chg (fun k _ => footE b v k) w wr ∧ Mov w v v5) (fun _ i _ => 2 - (intOf i).toNat)
        case atStart => exact ⟨0, t ++ X.told, K3, v5, rfl, by rw [strOf_append], HZ0.out.1, HZ.out.1, HZ0.out.2, by omega, fun h => by omega, fun h => by omega, HZ.out.2.1, HZ.out.2.2⟩
        case round =>
          obtain ⟨j, tt, K2, v5, rfl, rfl, hA, hE5, hK2, hj, hj1, hj2, hC5, hM5⟩ := hrel
          have HA : Hid (tt ++ K2 = TX ∧ EncV π S3 wr b P3 0 true K2 v5 ∧ Chg (fun k _ => footE b v k) w wr ∧ Mov w v v5 ∧ (1 ≤ j → K2.length ≤ 2) ∧ (2 ≤ j → K2 = [])) := ⟨hA, hE5, hC5, hM5, hj1, hj2⟩
          have htl : tt.length + K2.length ≤ 500005 := by
            have := congrArg List.length hA
            rw [List.length_append] at this
            omega
          clear hA hE5 hC5 hM5 hj1 hj2
          go_wp2_with fail
          refine (outDone_any (b + 1) 0 _ _ _ v5 K2 wr HA.out.2.1.base HA.out.2.1.row).mono ?_
          rintro e wr ⟨rfl, rfl⟩
          rw [show goB 0 true = false from rfl]
          by_cases hK0 : K2 = []
          · subst hK0
            rw [show (!false && (([] : List Int).length == 0)) = true from rfl]
            go_wp2
            go_ret2
            exact ⟨by have := HA.out.1; rw [List.append_nil] at this; rw [this]; rfl, HA.out.2.2.1⟩
          · have hK1 : K2.length ≠ 0 := fun e => hK0 (List.length_eq_zero_iff.1 e)
            have hj1 : j ≤ 1 := by
              rcases (show j ≤ 1 ∨ 2 ≤ j by omega) with h | h
              · exact h
              · exact absurd (HA.out.2.2.2.2.2 h) hK0
            rw [show (!false && (K2.length == 0)) = false by simp [hK0]]
            clear hK0
            go_wp2_with fail
            refine (eFeed_off (b + 1) b _ _ _ K2 v5 8 wr HA.out.2.1 (by omega) rfl (by omega)).mono ?_
            rintro e w6 ⟨rfl, v6, E6, C6, M6⟩
            have HE6 : Hid (EncV π S3 w6 b P3 0 true (K2.drop (frontR 8 K2.length)) v6 ∧ Chg (fun k _ => footE b v k) w w6 ∧ Mov w v v6) := ⟨E6, HA.out.2.2.1.trans2 C6 (fun _ _ _ h => h) (fun k j hk h => foot_old HA.out.2.2.2.1 hk h), mov_trans HA.out.2.2.2.1 M6 HA.out.2.2.1.size⟩
            have hfr := frontR_le (8 : Int) K2.length
            obtain ⟨f, hf⟩ : ∃ f, frontR 8 K2.length = f := ⟨_, rfl⟩
            rw [hf] at HE6 hfr ⊢
            obtain ⟨T2, hT2⟩ : ∃ T2, K2.take f = T2 := ⟨_, rfl⟩
            obtain ⟨R2, hR2⟩ : ∃ R2, K2.drop f = R2 := ⟨_, rfl⟩
            have hl1 : T2.length = f := by rw [← hT2, List.length_take]; omega
            have hl2 : R2.length = K2.length - f := by rw [← hR2, List.length_drop]
            have hsum : T2 ++ R2 = K2 := by rw [← hT2, ← hR2, List.take_append_drop]
            rw [hT2]
            rw [hR2] at HE6
            have HTR : Hid (T2 ++ R2 = K2 ∧ R2.length = K2.length - f ∧ (1 ≤ j → K2.length ≤ 2)) := ⟨hsum, hl2, HA.out.2.2.2.2.1⟩
            clear E6 C6 M6 hf hT2 hR2 hsum
            have g1 : (Stp.strOf T2).toList.isEmpty = false := full_str (by omega)
            have g2 : ¬ ((Stp.strOf T2).size : Int) > 8 := by rw [strOf_size]; omega
            have g3 : ¬ 9223372036854775807 < (Stp.strOf tt).size + (Stp.strOf T2).size := by rw [strOf_size, strOf_size]; omega
            have g4 : ¬ 8 < (Stp.strOf T2).size := by rw [strOf_size]; omega
            clear hl2
            go_wp2
            go_roundw
            case rel => exact ⟨j + 1, tt ++ T2, R2, v6, by go_num, by rw [strOf_append], by rw [List.append_assoc, HTR.out.1]; exact HA.out.1, HE6.out.1, by have := HTR.out.2.1; omega, by omega, fun _ => by have := HTR.out.2.1; omega, fun h => List.length_eq_zero_iff.1 (by have := HTR.out.2.1; have := HTR.out.2.2 (by omega); omega), HE6.out.2.1, HE6.out.2.2⟩
            case measure => simp [intOf]; omega
      · have hend' : ((m4 : Int) == 0) = false := by simp; omega
        have hzz : L.drop E ≠ [] := by
          intro e
          have : (L.drop E).length = 0 := by rw [e]; rfl
          rw [List.length_drop] at this; have := HM4.out; omega
        have hgo := HXG.out hzz
        have HGO : Hid (1 ≤ X.eaten + X.told.length) := by show 1 ≤ _; omega
        clear HXG hzz
        by_cases he0 : X.eaten = 0
        · have ht1 : (Stp.strOf X.told).toList.isEmpty = false := full_str (by omega)
          have he2 : ((X.eaten : Int) == 0) = true := by simp; omega
          clear he0 hgo
          go_wp2
          go_roundw
          case rel => exact ⟨k + 1, E + X.eaten, t ++ X.told, X.kept, X.st, v2, by go_num, by rw [strOf_append], by have := HM4.out; omega, by rw [List.length_append]; have := HGO.out; omega, by exact_mod_cast HE4.out, HQ.out, HXT.out, HC4.out.1, HC4.out.2, hXl, hxe4⟩
          case measure => simp [intOf]; omega
        · have he2 : ((X.eaten : Int) == 0) = false := by simp; omega
          clear he0 hgo
          go_wp2
          go_roundw
          case rel => exact ⟨k + 1, E + X.eaten, t ++ X.told, X.kept, X.st, v2, by go_num, by rw [strOf_append], by have := HM4.out; omega, by rw [List.length_append]; have := HGO.out; omega, by exact_mod_cast HE4.out, HQ.out, HXT.out, HC4.out.1, HC4.out.2, hXl, hxe4⟩
          case measure => simp [intOf]; omega
end CP
end Go.Proofs.YtpglmfhlgaliaaaDoor
