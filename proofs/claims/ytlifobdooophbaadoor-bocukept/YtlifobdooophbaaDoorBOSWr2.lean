/-
  The contract of the law's own 'write': numbers in whatever parts, with whatever room, as a walk over the translated text. The condition: the encoder is a new one; the lists are small.
-/
import Derived.Test.YtlifobdooophbaaDoorBOWr
import Derived.Test.YtlifobdooophbaaDoorEncS
namespace Go.Proofs.YtlifobdooophbaaDoor
open Go.ChangeShapes Go.WideShapes Go.ChangeAt Go.RowKit
namespace BO
open Bas Sca Stp Scn Cod
set_option linter.unusedVariables false
variable {π : Par}

/-- What 'write' leaves. -/
def WriteQ (π : Par) (b : Nat) (v : Value) (L : List Int) (w w' : World) : Prop :=
  ∃ sg v', EncV π sg w' b (okLen L) (if okLen L < L.length then 2 else 0) (decide (okLen L = L.length)) [] v' ∧ Chg (fun k _ => footE b v k) w w'
/-- A list that came in, and its rests. -/
def Came (w : World) (l1 : Value) (L : List Int) (b : Nat) (v : Value) : Prop :=
  (∃ aa, l1 = .slice aa 0 0 ∧ L = []) ∨ ∃ bl ol cl, l1 = .slice (some ⟨bl, ol, none⟩) L.length cl ∧ L.length ≤ cl ∧ cl ≤ maxLen ∧ Row .u32 w (some ⟨bl, ol, none⟩) L ∧ (L ≠ [] → ¬ footE b v bl)

theorem came_of {w w' : World} {a : Option Addr} {n c : Nat} {L : List Int} {b : Nat} {v : Value} (J : Cap a n c) (R : Row .u32 w a L) (hl : L.length = n) (hb : Below w.heap.size w w') (hf : ∀ k, k < w.heap.size → ¬ footE b v k) : Came w' (.slice a n c) L b v := by
  rcases J with ⟨rfl, rfl⟩ | ⟨bl, ol, rfl, h1, h2⟩
  · exact .inl ⟨a, rfl, List.length_eq_zero_iff.1 hl⟩
  · refine .inr ⟨bl, ol, c, by rw [hl], by omega, h2, R.mono hb, fun hne => ?_⟩
    obtain ⟨b'', o'', n', c'⟩ := R
    have e2 := n' hne
    simp only [Option.some.injEq, Addr.mk.injEq] at e2
    have c0' := c' 0 (List.length_pos_iff.2 hne)
    rw [← e2.1] at c0'
    exact hf bl (World.block_lt_of_cell? w _ c0')

set_option maxHeartbeats 8000000 in
set_option maxRecDepth 100000 in
theorem write_any (b : Nat) (v : Value) (a0 : Option Addr) (n0 c0 : Nat) (L : List Int) (a1 a2 : Option Addr) (n1 c1 n2 c2 : Nat) (parts rooms : List Int) (w : World) (h : EncV π (e0 π) w b 0 0 false [] v)
    (hL : Came w (.slice a0 n0 c0) L b v) (hfit : ∀ c ∈ L, 0 ≤ c ∧ c < 4294967296)
    (P : Ints .i64 w a1 n1 c1 parts) (R : Ints .i64 w a2 n2 c2 rooms) (hP : ∀ b' o', 0 < n1 → a1 = some ⟨b', o', none⟩ → ¬ footE b v b') (hR : ∀ b' o', 0 < n2 → a2 = some ⟨b', o', none⟩ → ¬ footE b v b')
    (h1 : n1 ≤ 100000) (h2 : n2 ≤ 100000) (hs : L.length ≤ 100000) :
    Calls Tryd.prog 21 #[.pointer (some ⟨b, 0, none⟩), .slice a0 n0 c0, .slice a1 n1 c1, .slice a2 n2 c2] w fun e w' => e = .returned (.tuple #[.string (Stp.strOf (allS (oneS π) (nxtS π) (e0 π) L)), .bool true]) ∧ WriteQ π b v L w w' := by
  have H : Hid (EncV π (e0 π) w b 0 0 false [] v) := h
  have hn0 : n0 = L.length := by
    rcases hL with ⟨aa, e, rfl⟩ | ⟨bl, ol, cl, e, _⟩
    · simp at e; simp [e.2.1]
    · simp at e; exact e.2.1
  have HL : Hid (Came w (.slice a0 n0 c0) L b v ∧ n0 = L.length ∧ ∀ c ∈ L, 0 ≤ c ∧ c < 4294967296) := ⟨hL, hn0, hfit⟩
  have HP : Hid (Ints .i64 w a1 n1 c1 parts ∧ ∀ b' o', 0 < n1 → a1 = some ⟨b', o', none⟩ → ¬ footE b v b') := ⟨P, hP⟩
  have HR : Hid (Ints .i64 w a2 n2 c2 rooms ∧ ∀ b' o', 0 < n2 → a2 = some ⟨b', o', none⟩ → ¬ footE b v b') := ⟨R, hR⟩
  have hs' : n0 ≤ 100000 := by omega
  clear h hL hfit P R hP hR hn0
  go_enter Tryd.func21, Tryd.ntmps21
  go_wp2
  go_loopw [1, 10, 12] (fun l1 o1 k1 wr => ∃ (k E : Nat) (t K : List Int) (sg : ES) (v' : Value), k1 = .int .i64 k ∧ o1 = .string (Stp.strOf t) ∧ E ≤ n0 ∧ k ≤ n1 + n2 + E + t.length ∧ EncV π sg wr b E 0 false K v' ∧ Came wr l1 (L.drop E) b v' ∧
      t ++ K ++ allS (oneS π) (nxtS π) sg (L.drop E) = allS (oneS π) (nxtS π) (e0 π) L ∧ okLen L = E + okLen (L.drop E) ∧ Chg (fun k _ => footE b v k) w wr ∧ Mov w v v' ∧ t.length + K.length ≤ 4 * E ∧ K.length ≤ 4) (fun _ _ k1 _ => n1 + n2 + 10 * n0 + 8 - (intOf k1).toNat)
  case atStart => exact ⟨0, 0, [], [], e0 π, v, rfl, rfl, Nat.zero_le _, by simp, H.out, by simpa using HL.out.1, by simp, by simp, Chg.refl _ _, mov_refl _ _, by simp, by simp⟩
  case round =>
    obtain ⟨k, E, t, K, sg, v', rfl, rfl, hE, hk, hD, hcm, htot, hok, hC, hM, htE, hK4⟩ := hrel
    have HD : Hid (EncV π sg wr b E 0 false K v') := hD
    have HT : Hid (t ++ K ++ allS (oneS π) (nxtS π) sg (L.drop E) = allS (oneS π) (nxtS π) (e0 π) L ∧ okLen L = E + okLen (L.drop E)) := ⟨htot, hok⟩
    have HC : Hid (Chg (fun k _ => footE b v k) w wr ∧ Mov w v v') := ⟨hC, hM⟩
    obtain ⟨al, cl, hl1, hcap, hlrow, hlnil, hlap⟩ : ∃ al cl, u1 = .slice al (n0 - E) cl ∧ n0 - E ≤ cl ∧ Row .u32 wr al (L.drop E) ∧ (al = none → cl = 0) ∧ Came wr (.slice al (n0 - E) cl) (L.drop E) b v' := by
      have hn0 := HL.out.2.1
      rcases hcm with ⟨aa, e, hnil⟩ | ⟨bl, ol, cl, e, h1, h2, h3, h4⟩
      · have : (L.drop E).length = 0 := by rw [hnil]; rfl
        rw [List.length_drop] at this
        have e0 : n0 - E = 0 := by omega
        exact ⟨aa, 0, by rw [e, e0], by omega, by rw [hnil]; exact row_nil _ _ _, fun _ => rfl, .inl ⟨aa, by rw [e0], hnil⟩⟩
      · have e0 : (L.drop E).length = n0 - E := by rw [List.length_drop]; omega
        rw [e0] at e h1
        exact ⟨_, cl, e, h1, h3, (fun h => by cases h), .inr ⟨bl, ol, cl, by rw [e0], by rw [e0]; exact h1, h2, h3, h4⟩⟩
    subst hl1
    obtain ⟨m0, hm0⟩ : ∃ m0, n0 - E = m0 := ⟨_, rfl⟩
    rw [hm0] at hcap hlap
    rw [hm0]
    have HM0 : Hid (n0 - E = m0) := hm0
    have hm1 : m0 ≤ 100000 := by omega
    clear hm0
    have HLR : Hid (Row .u32 wr al (L.drop E) ∧ (al = none → cl = 0) ∧ Came wr (.slice al m0 cl) (L.drop E) b v') := ⟨hlrow, hlnil, hlap⟩
    clear hD hcm htot hok hC hM hlrow hlnil hlap
    have hlt : (k : Int) < (n1 : Int) + n2 + 10 * n0 + 8 := by omega
    go_upto_if 40 with fail
    go_cut [13] (fun n wc => ∃ nn : Nat, n = .int .i64 nn ∧ nn ≤ m0 ∧ (n1 ≤ k → nn = m0) ∧ wc = wr)
    case first =>
      by_cases hk1 : k < n1
      · rw [show decide (k < n1) = true by simpa using hk1]
        obtain ⟨bp, op, hap, hcp⟩ := HP.out.1.row
        have hpl := HP.out.1.len
        obtain rfl := hap (ne_nil_of hpl hk1)
        have hcell : wr.cell? ⟨bp, op + k, none⟩ = some (.int .i64 (nth parts k)) := HC.out.1.cellAt (hcp k (by omega)) (HP.out.2 bp op (by omega) rfl)
        have hlt1 : (k : Int) < (n1 : Int) := by omega
        obtain ⟨pp, hpp⟩ : ∃ pp, nth parts k = pp := ⟨_, rfl⟩
        rw [hpp] at hcell
        clear hcp hap hpl hpp
        have h0 : ¬ (m0 : Int) < 0 := by omega
        by_cases hp0 : pp < 0
        · go_wp2_with fail
          go_meet
          case rel => exact ⟨0, (by first | rfl | exact congrArg (Value.int .i64) (by omega)), by omega, fun h => by omega, rfl⟩
        · obtain ⟨m, rfl⟩ := Int.eq_ofNat_of_zero_le (show 0 ≤ pp by omega)
          by_cases hp1 : (m : Int) ≤ (m0 : Int)
          · go_wp2_with fail
            go_meet
            case rel => exact ⟨m, (by first | rfl | exact congrArg (Value.int .i64) (by omega)), by omega, fun h => by omega, rfl⟩
          · have hp2 : (m0 : Int) < (m : Int) := by omega
            go_wp2_with fail
            go_meet
            case rel => exact ⟨m0, (by first | rfl | exact congrArg (Value.int .i64) (by omega)), by omega, fun h => by omega, rfl⟩
      · rw [show decide (k < n1) = false by simpa using hk1]
        go_wp2_with fail
        go_meet
        case rel => exact ⟨m0, (by first | rfl | exact congrArg (Value.int .i64) (by omega)), Nat.le_refl _, fun _ => rfl, rfl⟩
    case rest =>
      obtain ⟨nn, rfl, hnn, hnk, rfl⟩ := hcut
      have HNK : Hid (n1 ≤ k → nn = m0) := hnk
      clear hnk
      go_upto_if 51 with fail
      go_cut [14] (fun r wc' => ∃ rr : Nat, r = .int .i64 rr ∧ rr ≤ 100 ∧ (n2 ≤ k → rr = 8) ∧ wc' = wc)
      case first =>
        by_cases hk1 : k < n2
        · rw [show decide (k < n2) = true by simpa using hk1]
          obtain ⟨bp, op, hap, hcp⟩ := HR.out.1.row
          have hpl := HR.out.1.len
          obtain rfl := hap (ne_nil_of hpl hk1)
          have hcell : wc.cell? ⟨bp, op + k, none⟩ = some (.int .i64 (nth rooms k)) := HC.out.1.cellAt (hcp k (by omega)) (HR.out.2 bp op (by omega) rfl)
          have hlt1 : (k : Int) < (n2 : Int) := by omega
          obtain ⟨pp, hpp⟩ : ∃ pp, nth rooms k = pp := ⟨_, rfl⟩
          rw [hpp] at hcell
          clear hcp hap hpl hpp
          by_cases hp0 : pp < 0
          · go_wp2_with fail
            go_meet
            case rel => exact ⟨0, (by first | rfl | exact congrArg (Value.int .i64) (by omega)), by omega, fun h => by omega, rfl⟩
          · obtain ⟨m, rfl⟩ := Int.eq_ofNat_of_zero_le (show 0 ≤ pp by omega)
            by_cases hp1 : (m : Int) ≤ 100
            · go_wp2_with fail
              go_meet
              case rel => exact ⟨m, (by first | rfl | exact congrArg (Value.int .i64) (by omega)), by omega, fun h => by omega, rfl⟩
            · have hp2 : 100 < (m : Int) := by omega
              go_wp2_with fail
              go_meet
              case rel => exact ⟨100, (by first | rfl | exact congrArg (Value.int .i64) (by omega)), by omega, fun h => by omega, rfl⟩
        · rw [show decide (k < n2) = false by simpa using hk1]
          go_wp2_with fail
          go_meet
          case rel => exact ⟨8, rfl, by omega, fun _ => rfl, rfl⟩
      case rest =>
        obtain ⟨rr, rfl, hrr, hrk, rfl⟩ := hcut
        have HRK : Hid (n2 ≤ k → rr = 8) := hrk
        clear hrk
        have hnc : (nn : Int) ≤ (cl : Int) := by omega
        have hlen : ((L.drop E).take nn).length = nn := by
          have := HL.out.2.1
          have := HM0.out
          rw [List.length_take, List.length_drop]; omega
        have HTK : Hid (((L.drop E).take nn).length = nn ∧ Row .u32 wc al ((L.drop E).take nn) ∧ ∀ o, Row .u32 (wc.alloc o) al ((L.drop E).take nn)) := by
          have hr : Row .u32 wc al ((L.drop E).take nn) := by
            obtain ⟨bb, oo, h1, h2⟩ := HLR.out.1
            refine ⟨bb, oo, fun hne => h1 (fun e => hne (by rw [e]; simp)), fun i hi => ?_⟩
            rw [List.length_take] at hi
            rw [nth_take (by omega)]; exact h2 i (by omega)
          exact ⟨hlen, hr, fun o => row_old hr o⟩
        clear hlen
        go_wp2_with (at_builtin; go_must (refine wpList_append_seg rfl _ _ 27 27 rfl .u32 43 4 Tryd.underlying27 info_u32 (.slice (some ⟨wc.heap.size, 0, none⟩) 0 0) [] ((L.drop E).take nn) rfl (seg_empty _ _ _) _ rfl (src_row Tryd.underlying27 (HTK.out.2.2 _) HTK.out.1 HLR.out.2.1) (by have := HTK.out.1; unfold maxLen; simp; omega) (by have := HTK.out.1; simp; omega) ?_; intro vc w1 hs1 hc1 hm1))
        rw [List.nil_append] at hs1
        obtain ⟨ac, cc, hvc, -⟩ := hs1.form
        rw [HTK.out.1] at hvc
        subst hvc
        have hsr := seg_rowU hs1
        have hvb : ∀ g, (Value.slice ac nn cc).ownBlock = some g → wc.heap.size ≤ g := fun g hg => by
          rcases hm1 g hg with e | e
          · simp [Value.ownBlock] at e; omega
          · simp at e; omega
        have E1 : EncV π sg w1 b E 0 false K v' := (HD.out.below ((Below.refl _ _).alloc (Nat.le_refl _) _)).chg hc1 (fun k j hf hh => by
          have := HD.out.lt hf; simp [Value.ownBlock] at hh; omega) (fun j hh => by have := HD.out.tabs.pos; have e : wc.heap.size = 0 := (by simpa [Value.ownBlock] using hh); omega) (fun j hh => by have := HD.out.tabs.pos; have e : wc.heap.size = 1 := (by simpa [Value.ownBlock] using hh); omega)
        have hW1 : Below wc.heap.size wc w1 := ((Below.refl _ _).alloc (Nat.le_refl _) _).trans (hc1.below (by simp) (fun k j hk hh => by simp [Value.ownBlock] at hh; omega))
        obtain ⟨X, hX⟩ : ∃ X, X = encT (oneS π) (nxtS π) rr sg K ((L.drop E).take nn) := ⟨_, rfl⟩
        have hXe : X.eaten ≤ nn := by
          rw [hX]; have := encS_le (oneS π) (nxtS π) rr ((L.drop E).take nn) sg (K.take (frontR rr K.length)) (K.drop (frontR rr K.length)); rw [HTK.out.1] at this; exact this
        have hfr := frontR_le (rr : Int) K.length
        have hXr : (X.told.length : Int) ≤ rr := by
          rw [hX]; refine encS_room (oneS π) (nxtS π) rr _ _ _ _ ?_; rw [List.length_take]; omega
        have hXtot := encS_total (oneS π) (nxtS π) rr (L.drop E) sg (K.take (frontR rr K.length)) (K.drop (frontR rr K.length)) nn
        have hXb := encS_bytes (oneS π) (nxtS π) 4 (oneS_max π) rr ((L.drop E).take nn) sg (K.take (frontR rr K.length)) (K.drop (frontR rr K.length))
        have hXk := encS_small (oneS π) (nxtS π) 4 (oneS_max π) rr ((L.drop E).take nn) sg (K.take (frontR rr K.length)) (K.drop (frontR rr K.length)) (by rw [List.length_drop]; omega)
        have hXt := encS_told (oneS π) (nxtS π) rr ((L.drop E).take nn) sg (K.take (frontR rr K.length)) (K.drop (frontR rr K.length))
        have hXg : n1 ≤ k → n2 ≤ k → L.drop E ≠ [] ∨ K ≠ [] → X.bad = true ∨ 1 ≤ X.eaten ∨ 1 ≤ X.told.length := by
          intro g1 g2 g3
          have hr8 := HRK.out g2
          have hn8 := HNK.out g1
          by_cases hK0 : K = []
          · have hne : (L.drop E).take nn ≠ [] := by
              intro e
              have h0 : ((L.drop E).take nn).length = 0 := by rw [e]; rfl
              rw [HTK.out.1] at h0
              rcases g3 with g3 | g3
              · have : (L.drop E).length ≠ 0 := fun e => g3 (List.length_eq_zero_iff.1 e)
                rw [List.length_drop] at this; have := HL.out.2.1; have := HM0.out; omega
              · exact g3 hK0
            have := encS_goes (oneS π) (nxtS π) rr ((L.drop E).take nn) sg [] hne
            rw [hX, encT, hK0]
            rcases this with h | h
            · left; simpa using h
            · right; left; simpa using h
          · right; right
            rw [hX, encT]
            refine Nat.le_trans ?_ hXt
            have : K.length ≠ 0 := fun e => hK0 (List.length_eq_zero_iff.1 e)
            rw [List.length_take]; omega
        have hXX : encS (oneS π) (nxtS π) rr sg (K.take (frontR rr K.length)) (K.drop (frontR rr K.length)) ((L.drop E).take nn) = X := by rw [hX]; rfl
        rw [hXX] at hXtot hXb hXk
        rw [List.take_append_drop, List.drop_drop] at hXtot
        rw [List.length_take, List.length_drop] at hXb
        have HXT : Hid ((t ++ X.told) ++ X.kept ++ allS (oneS π) (nxtS π) X.st (L.drop (E + X.eaten)) = allS (oneS π) (nxtS π) (e0 π) L ∧ okLen L = (E + X.eaten) + okLen (L.drop (E + X.eaten)) ∧ (X.bad = true → X.kept = [] ∧ okLen (L.drop (E + X.eaten)) = 0 ∧ allS (oneS π) (nxtS π) X.st (L.drop (E + X.eaten)) = [] ∧ E + X.eaten < L.length)) := by
          obtain ⟨q1, q2, q3⟩ := hXtot
          refine ⟨?_, by have := HT.out.2; omega, fun hb => ?_⟩
          · rw [← HT.out.1, List.append_assoc, List.append_assoc, ← List.append_assoc X.told, q1]; simp
          · obtain ⟨a, b', c, d⟩ := q3 hb
            rw [List.length_drop] at d
            exact ⟨a, b', c, by omega⟩
        have hXl : (t ++ X.told).length + X.kept.length ≤ 4 * (E + X.eaten) := by rw [List.length_append]; omega
        have hxe4 : X.kept.length ≤ 4 := hXk
        have HXG : Hid (n1 ≤ k → n2 ≤ k → L.drop E ≠ [] ∨ K ≠ [] → X.bad = true ∨ 1 ≤ X.eaten ∨ 1 ≤ X.told.length) := hXg
        have hfit : ∀ c ∈ (L.drop E).take nn, 0 ≤ c ∧ c < 4294967296 := fun c hc => HL.out.2.2 c (List.mem_of_mem_drop (List.mem_of_mem_take hc))
        refine (eFeed_any b E sg K v' ac nn cc ((L.drop E).take nn) rr X w1 E1 hX hsr HTK.out.1 (fun b' o' e hf => by have := hvb b' (by rw [e]; rfl); have := HD.out.lt hf; omega) hfit (by omega) (by omega) (by omega) (by omega) (by omega) (by omega)).mono ?_
        rintro e w2 ⟨rfl, v2, E2, C2, M2⟩
        have HE2 : Hid (EncV π X.st w2 b ((E : Int) + X.eaten) (if X.bad = true then 2 else 0) false X.kept v2) := E2
        have HC2 : Hid (Chg (fun k _ => footE b v k) w w2 ∧ Mov w v v2) := by
          obtain ⟨hC, hM⟩ := HC.out
          have hC1 := hC.trans (chg_of_below hW1 (Nat.le_refl _) _)
          refine ⟨hC1.trans2 C2 (fun _ _ _ h => h) (fun k j hk h => foot_old hM hk h), mov_trans (mov_trans hM (mov_refl w1 v') hC1.size) M2 hC1.size⟩
        have HCM : Hid (Came w2 (.slice al m0 cl) (L.drop E) b v2 ∧ (L.drop E).length = m0) := by
          refine ⟨?_, by rw [List.length_drop]; have := HL.out.2.1; have := HM0.out; omega⟩
          rcases HLR.out.2.2 with h | ⟨bl, ol, cl', e, q1, q2, q3, q4⟩
          · exact .inl h
          · refine .inr ⟨bl, ol, cl', e, q1, q2, ?_, fun hne hf => ?_⟩
            · by_cases hne : L.drop E = []
              · rw [hne]; exact row_nil _ _ _
              · exact (q3.mono hW1).chg C2 (fun b' o' e' j hh => by simp at e'; rw [← e'.1] at hh; exact q4 hne hh)
            · have hb : bl < wc.heap.size := by
                obtain ⟨b'', o'', n', c'⟩ := q3
                have e2 := n' hne
                simp only [Option.some.injEq, Addr.mk.injEq] at e2
                have hl : 0 < (L.drop E).length := List.length_pos_iff.2 hne
                have c0' := c' 0 hl
                rw [← e2.1] at c0'
                exact World.block_lt_of_cell? wc _ c0'
              rcases hf with hf | hf
              · exact q4 hne (.inl hf)
              · rcases M2 bl hf with e2 | e2
                · exact q4 hne (.inr e2)
                · have := hW1.size; omega
        clear hX hXtot hXb hXk hXt hXX hXg hfr E1 hW1 hsr hvb hs1 hc1 hm1 E2 C2 M2 HTK HLR HD HC HNK HRK hfit HT
        have f1 : ¬ (X.eaten : Int) < 0 := by omega
        have f2 : ¬ (X.eaten : Int) > nn := by omega
        have f3 : ¬ ((Stp.strOf X.told).size : Int) > rr := by rw [strOf_size]; omega
        have f4 : (X.eaten : Int) ≤ (m0 : Int) := by omega
        have f5 : ¬ 9223372036854775807 < (Stp.strOf t).size + (Stp.strOf X.told).size := by rw [strOf_size, strOf_size]; omega
        have f6 : ¬ nn < X.eaten := by omega
        have f7 : ¬ rr < (Stp.strOf X.told).size := by rw [strOf_size]; omega
        have f8 : 0 ≤ (X.eaten : Int) := by omega
        go_upto_region 15 with fail
        go_cut [1] (fun l1 wc' => ∃ al2 cl2, l1 = .slice al2 (m0 - X.eaten) cl2 ∧ Came w2 (.slice al2 (m0 - X.eaten) cl2) (L.drop (E + X.eaten)) b v2 ∧ wc' = w2)
        case first =>
          rcases HCM.out.1 with ⟨aa, e, hnil⟩ | ⟨bl, ol, cl', e, q1, q2, q3, q4⟩
          · simp only [Value.slice.injEq] at e
            obtain ⟨rfl, rfl, rfl⟩ := e
            have hx0 : X.eaten = 0 := by omega
            have HX0 : Hid (X.eaten = 0 ∧ L.drop E = []) := ⟨hx0, hnil⟩
            have hx1 : (X.eaten : Int) ≤ 0 := by omega
            clear hnil hx0
            cases al with
            | none =>
              go_wp2_with fail
              go_meet
              case rel => exact ⟨none, 0, by simp [HX0.out.1], .inl ⟨none, by simp [HX0.out.1], by rw [HX0.out.1, Nat.add_zero]; exact HX0.out.2⟩, rfl⟩
            | some xa =>
              go_wp2_with fail
              go_meet
              case rel => exact ⟨some xa, 0, by simp [HX0.out.1], .inl ⟨some xa, by simp [HX0.out.1], by rw [HX0.out.1, Nat.add_zero]; exact HX0.out.2⟩, rfl⟩
          · simp only [Value.slice.injEq] at e
            obtain ⟨rfl, hm2, rfl⟩ := e
            have hld : (L.drop (E + X.eaten)).length = m0 - X.eaten := by
              have hm3 := hm2
              rw [List.length_drop] at hm3 ⊢; omega
            have hrw : Row .u32 w2 (some ⟨bl, ol + X.eaten, none⟩) (L.drop (E + X.eaten)) := by
              obtain ⟨b'', o'', n', c'⟩ := q3
              refine ⟨bl, ol + X.eaten, fun _ => rfl, fun i hi => ?_⟩
              have hne : L.drop E ≠ [] := by
                intro e
                rw [← List.drop_drop, e] at hi; simp at hi
              have e2 := n' hne
              simp only [Option.some.injEq, Addr.mk.injEq] at e2
              have hi2 : X.eaten + i < (L.drop E).length := by rw [hld] at hi; omega
              have := c' (X.eaten + i) hi2
              rw [← e2.1, ← e2.2.1] at this
              rw [show ol + X.eaten + i = ol + (X.eaten + i) by omega, this, ← List.drop_drop]
              simp [nth, Nat.add_assoc]
            have hne2 : L.drop (E + X.eaten) ≠ [] → ¬ footE b v2 bl := fun hne => q4 (fun e => hne (by rw [← List.drop_drop, e]; simp))
            have HRW : Hid ((L.drop (E + X.eaten)).length = m0 - X.eaten ∧ Row .u32 w2 (some ⟨bl, ol + X.eaten, none⟩) (L.drop (E + X.eaten)) ∧ (L.drop (E + X.eaten) ≠ [] → ¬ footE b v2 bl) ∧ m0 = (L.drop E).length ∧ cl ≤ maxLen) := ⟨hld, hrw, hne2, hm2, q2⟩
            have hml : m0 ≤ cl := by omega
            clear hld hrw hne2 hm2 q1 q2 q3 q4
            by_cases hce : X.eaten = cl
            · have hme : m0 = X.eaten := by omega
              have HME : Hid (m0 = X.eaten ∧ cl = X.eaten) := ⟨hme, hce.symm⟩
              subst hce
              clear hml hme
              have hq : (X.eaten : Int) ≤ (X.eaten : Int) := Int.le_refl _
              go_wp2_with fail
              go_meet
              case rel =>
                have hz0 : m0 - X.eaten = 0 := by have := HME.out; omega
                refine ⟨some ⟨bl, ol, none⟩, 0, by rw [hz0], .inr ⟨bl, ol, 0, ?_, ?_, by unfold maxLen; omega, ?_, HRW.out.2.2.1⟩, rfl⟩
                · rw [HRW.out.1]
                · rw [HRW.out.1]; have := HME.out; omega
                · have h0 : L.drop (E + X.eaten) = [] := List.length_eq_zero_iff.1 (by rw [HRW.out.1]; have := HME.out; omega)
                  rw [h0]; exact row_nil _ _ _
            · have hlt2 : X.eaten < cl := by omega
              have hlt3 : (X.eaten : Int) < (cl : Int) := by omega
              clear hce
              go_wp2_with fail
              go_meet
              case rel =>
                refine ⟨_, _, rfl, .inr ⟨bl, ol + X.eaten, cl - X.eaten, ?_, ?_, ?_, HRW.out.2.1, HRW.out.2.2.1⟩, rfl⟩
                · rw [HRW.out.1]
                · rw [HRW.out.1]; omega
                · have := HRW.out.2.2.2.2; omega
        case rest =>
          obtain ⟨al2, cl2, rfl, hcm2, rfl⟩ := hcut
          have HQ0 : Hid (Came wc (.slice al2 (m0 - X.eaten) cl2) (L.drop (E + X.eaten)) b v2) := hcm2
          clear hcm2 HCM
          obtain ⟨m4, hm4⟩ : ∃ m4, m0 - X.eaten = m4 := ⟨_, rfl⟩
          rw [hm4] at HQ0
          rw [hm4]
          have HM4 : Hid (m0 - X.eaten = m4 ∧ n0 = L.length ∧ n0 - E = m0) := ⟨hm4, HL.out.2.1, HM0.out⟩
          clear hm4
          go_wp2_with fail
          refine (fail_any b 0 _ _ false wc HE2.out.base).mono ?_
          rintro e w4 ⟨rfl, hb4⟩
          have HE4 : Hid (EncV π X.st w4 b ((E : Int) + X.eaten) (if X.bad = true then 2 else 0) false X.kept v2) := HE2.out.below hb4
          have HC4 : Hid (Chg (fun k _ => footE b v k) w w4 ∧ Mov w v v2) := ⟨HC2.out.1.trans (chg_of_below hb4 (Nat.le_refl _) _), HC2.out.2⟩
          have HQ : Hid (Came w4 (.slice al2 m4 cl2) (L.drop (E + X.eaten)) b v2) := by
            rcases HQ0.out with h | ⟨bl, ol, cl', e, q1, q2, q3, q4⟩
            · exact .inl h
            · exact .inr ⟨bl, ol, cl', e, q1, q2, q3.mono hb4, q4⟩
          clear hb4 HE2 HC2 HQ0
          obtain ⟨vf, hvf⟩ : ∃ vf, failAt ((E : Int) + X.eaten) (if X.bad = true then 2 else 0) = vf := ⟨_, rfl⟩
          rw [hvf]
          clear hvf
          cases hbad : X.bad with
          | true =>
            rw [hbad] at HE4
            rw [if_pos rfl] at HE4
            rw [if_pos rfl]
            obtain ⟨x1, x2, x3, x4⟩ := HXT.out.2.2 hbad
            have HZ0 : Hid (X.kept = [] ∧ (t ++ X.told) ++ X.kept = allS (oneS π) (nxtS π) (e0 π) L ∧ okLen L = E + X.eaten ∧ okLen L < L.length) := by
              have q1 := HXT.out.1
              have q2 := HXT.out.2.1
              rw [x3, List.append_nil] at q1
              exact ⟨x1, q1, by omega, by omega⟩
            clear hbad x1 x2 x3 x4 HXT HXG
            have hfl := fld 2 vf
            go_wp2_with fail
            refine (end_any b 0 _ _ _ w4 HE4.out.base).mono ?_
            rintro e w5 ⟨rfl, hB5, hC5⟩
            have E5 := HE4.out.rebase hB5 hC5
            have HZ : Hid ((t ++ X.told) ++ X.kept = allS (oneS π) (nxtS π) (e0 π) L ∧ EncV π X.st w5 b (okLen L) (if okLen L < L.length then 2 else 0) (decide (okLen L = L.length)) X.kept v2 ∧ X.kept.length ≤ 4 ∧ Chg (fun k _ => footE b v k) w w5 ∧ Mov w v v2) := by
              obtain ⟨y1, y2, y3, y4⟩ := HZ0.out
              refine ⟨y2, ?_, hxe4, HC4.out.1.trans2 hC5 (fun _ _ _ h => h) (fun k j _ h => .inl h.1), HC4.out.2⟩
              rw [if_pos y4, decide_eq_false (by omega), y3]
              exact_mod_cast E5
            clear hB5 hC5 E5 HE4 HC4 HZ0 HQ
            go_wp2_with fail
            go_loopw [10, 17] (fun o i wr => ∃ (j : Nat) (tt K2 : List Int) (v5 : Value), i = .int .i64 j ∧ o = .string (Stp.strOf tt) ∧ tt ++ K2 = allS (oneS π) (nxtS π) (e0 π) L ∧ EncV π X.st wr b (okLen L) (if okLen L < L.length then 2 else 0) (decide (okLen L = L.length)) K2 v5 ∧ K2.length ≤ 4 ∧ j ≤ 1 ∧ (j = 1 → K2 = []) ∧ Chg (fun k _ => footE b v k) w wr ∧ Mov w v v5) (fun _ i _ => 1 - (intOf i).toNat)
            case atStart => exact ⟨0, t ++ X.told, X.kept, v2, rfl, by rw [strOf_append], HZ.out.1, HZ.out.2.1, HZ.out.2.2.1, by omega, fun h => by omega, HZ.out.2.2.2.1, HZ.out.2.2.2.2⟩
            case round =>
              obtain ⟨j, tt, K2, v5, rfl, rfl, hA, hE5, hK2, hj, hj1, hC5, hM5⟩ := hrel
              have HA : Hid (tt ++ K2 = allS (oneS π) (nxtS π) (e0 π) L ∧ EncV π X.st wr b (okLen L) (if okLen L < L.length then 2 else 0) (decide (okLen L = L.length)) K2 v5 ∧ Chg (fun k _ => footE b v k) w wr ∧ Mov w v v5 ∧ (j = 1 → K2 = [])) := ⟨hA, hE5, hC5, hM5, hj1⟩
              have htl : tt.length + K2.length ≤ 400000 := by
                have := congrArg List.length hA
                rw [List.length_append] at this
                have h4 := allS_le (oneS π) (nxtS π) 4 (oneS_max π) L (e0 π)
                omega
              clear hA hE5 hC5 hM5 hj1
              go_wp2_with fail
              refine (outDone_any b 0 _ _ _ v5 K2 wr HA.out.2.1.base HA.out.2.1.row).mono ?_
              rintro e wr ⟨rfl, rfl⟩
              rw [off_go L]
              by_cases hK0 : K2 = []
              · subst hK0
                rw [show (!false && (([] : List Int).length == 0)) = true from rfl]
                go_wp2
                go_ret2
                exact ⟨by have := HA.out.1; rw [List.append_nil] at this; rw [this]; rfl, X.st, v5, HA.out.2.1, HA.out.2.2.1⟩
              · have hK1 : K2.length ≠ 0 := fun e => hK0 (List.length_eq_zero_iff.1 e)
                have hj0 : j = 0 := by
                  rcases (show j = 0 ∨ j = 1 by omega) with h | h
                  · exact h
                  · exact absurd (HA.out.2.2.2.2 h) hK0
                subst hj0
                rw [show (!false && (K2.length == 0)) = false by simp [hK0]]
                clear hK0
                go_wp2_with fail
                refine (eFeed_off b _ _ _ K2 v5 wr HA.out.2.1 (off_go L) (by omega)).mono ?_
                rintro e w6 ⟨rfl, v6, E6, C6, M6⟩
                have HE6 : Hid (EncV π X.st w6 b (okLen L) (if okLen L < L.length then 2 else 0) (decide (okLen L = L.length)) [] v6 ∧ Chg (fun k _ => footE b v k) w w6 ∧ Mov w v v6) := ⟨E6, HA.out.2.2.1.trans2 C6 (fun _ _ _ h => h) (fun k j hk h => foot_old HA.out.2.2.2.1 hk h), mov_trans HA.out.2.2.2.1 M6 HA.out.2.2.1.size⟩
                clear E6 C6 M6
                have g1 : (Stp.strOf K2).toList.isEmpty = false := full_str hK1
                have g2 : ¬ ((Stp.strOf K2).size : Int) > 8 := by rw [strOf_size]; omega
                have g3 : ¬ 9223372036854775807 < (Stp.strOf tt).size + (Stp.strOf K2).size := by rw [strOf_size, strOf_size]; omega
                have g4 : ¬ 8 < (Stp.strOf K2).size := by rw [strOf_size]; omega
                go_wp2
                go_roundw
                case rel => exact ⟨1, tt ++ K2, [], v6, by go_num, by rw [strOf_append], by rw [List.append_nil]; exact HA.out.1, HE6.out.1, by simp, Nat.le_refl _, fun _ => rfl, HE6.out.2.1, HE6.out.2.2⟩
                case measure => simp [intOf]
          | false =>
            rw [hbad] at HE4
            rw [if_neg (by simp)] at HE4
            rw [if_neg (by simp)]
            have hfl := fld 0 vf
            by_cases hend : m4 = 0
            · have hz : L.drop (E + X.eaten) = [] := List.length_eq_zero_iff.1 (by rw [List.length_drop]; have := HM4.out; omega)
              by_cases hkn : (k : Int) ≥ (n1 : Int)
              · have HZ0 : Hid ((t ++ X.told) ++ X.kept = allS (oneS π) (nxtS π) (e0 π) L ∧ okLen L = E + X.eaten ∧ okLen L = L.length) := by
                  have q1 := HXT.out.1
                  have q2 := HXT.out.2.1
                  rw [hz] at q1 q2
                  simp only [allS, okLen, List.append_nil, Nat.add_zero] at q1 q2
                  exact ⟨q1, q2, by have := HM4.out; omega⟩
                clear hbad HXT HXG hz
                subst hend
                go_wp2_with fail
                refine (end_any b 0 _ _ _ w4 HE4.out.base).mono ?_
                rintro e w5 ⟨rfl, hB5, hC5⟩
                have E5 := HE4.out.rebase hB5 hC5
                have HZ : Hid ((t ++ X.told) ++ X.kept = allS (oneS π) (nxtS π) (e0 π) L ∧ EncV π X.st w5 b (okLen L) (if okLen L < L.length then 2 else 0) (decide (okLen L = L.length)) X.kept v2 ∧ X.kept.length ≤ 4 ∧ Chg (fun k _ => footE b v k) w w5 ∧ Mov w v v2) := by
                  obtain ⟨y2, y3, y4⟩ := HZ0.out
                  refine ⟨y2, ?_, hxe4, HC4.out.1.trans2 hC5 (fun _ _ _ h => h) (fun k j _ h => .inl h.1), HC4.out.2⟩
                  rw [if_neg (by omega), decide_eq_true y4, y3]
                  exact_mod_cast E5
                clear hB5 hC5 E5 HE4 HC4 HZ0 HQ
                go_wp2_with fail
                go_loopw [10, 17] (fun o i wr => ∃ (j : Nat) (tt K2 : List Int) (v5 : Value), i = .int .i64 j ∧ o = .string (Stp.strOf tt) ∧ tt ++ K2 = allS (oneS π) (nxtS π) (e0 π) L ∧ EncV π X.st wr b (okLen L) (if okLen L < L.length then 2 else 0) (decide (okLen L = L.length)) K2 v5 ∧ K2.length ≤ 4 ∧ j ≤ 1 ∧ (j = 1 → K2 = []) ∧ Chg (fun k _ => footE b v k) w wr ∧ Mov w v v5) (fun _ i _ => 1 - (intOf i).toNat)
                case atStart => exact ⟨0, t ++ X.told, X.kept, v2, rfl, by rw [strOf_append], HZ.out.1, HZ.out.2.1, HZ.out.2.2.1, by omega, fun h => by omega, HZ.out.2.2.2.1, HZ.out.2.2.2.2⟩
                case round =>
                  obtain ⟨j, tt, K2, v5, rfl, rfl, hA, hE5, hK2, hj, hj1, hC5, hM5⟩ := hrel
                  have HA : Hid (tt ++ K2 = allS (oneS π) (nxtS π) (e0 π) L ∧ EncV π X.st wr b (okLen L) (if okLen L < L.length then 2 else 0) (decide (okLen L = L.length)) K2 v5 ∧ Chg (fun k _ => footE b v k) w wr ∧ Mov w v v5 ∧ (j = 1 → K2 = [])) := ⟨hA, hE5, hC5, hM5, hj1⟩
                  have htl : tt.length + K2.length ≤ 400000 := by
                    have := congrArg List.length hA
                    rw [List.length_append] at this
                    have h4 := allS_le (oneS π) (nxtS π) 4 (oneS_max π) L (e0 π)
                    omega
                  clear hA hE5 hC5 hM5 hj1
                  go_wp2_with fail
                  refine (outDone_any b 0 _ _ _ v5 K2 wr HA.out.2.1.base HA.out.2.1.row).mono ?_
                  rintro e wr ⟨rfl, rfl⟩
                  rw [off_go L]
                  by_cases hK0 : K2 = []
                  · subst hK0
                    rw [show (!false && (([] : List Int).length == 0)) = true from rfl]
                    go_wp2
                    go_ret2
                    exact ⟨by have := HA.out.1; rw [List.append_nil] at this; rw [this]; rfl, X.st, v5, HA.out.2.1, HA.out.2.2.1⟩
                  · have hK1 : K2.length ≠ 0 := fun e => hK0 (List.length_eq_zero_iff.1 e)
                    have hj0 : j = 0 := by
                      rcases (show j = 0 ∨ j = 1 by omega) with h | h
                      · exact h
                      · exact absurd (HA.out.2.2.2.2 h) hK0
                    subst hj0
                    rw [show (!false && (K2.length == 0)) = false by simp [hK0]]
                    clear hK0
                    go_wp2_with fail
                    refine (eFeed_off b _ _ _ K2 v5 wr HA.out.2.1 (off_go L) (by omega)).mono ?_
                    rintro e w6 ⟨rfl, v6, E6, C6, M6⟩
                    have HE6 : Hid (EncV π X.st w6 b (okLen L) (if okLen L < L.length then 2 else 0) (decide (okLen L = L.length)) [] v6 ∧ Chg (fun k _ => footE b v k) w w6 ∧ Mov w v v6) := ⟨E6, HA.out.2.2.1.trans2 C6 (fun _ _ _ h => h) (fun k j hk h => foot_old HA.out.2.2.2.1 hk h), mov_trans HA.out.2.2.2.1 M6 HA.out.2.2.1.size⟩
                    clear E6 C6 M6
                    have g1 : (Stp.strOf K2).toList.isEmpty = false := full_str hK1
                    have g2 : ¬ ((Stp.strOf K2).size : Int) > 8 := by rw [strOf_size]; omega
                    have g3 : ¬ 9223372036854775807 < (Stp.strOf tt).size + (Stp.strOf K2).size := by rw [strOf_size, strOf_size]; omega
                    have g4 : ¬ 8 < (Stp.strOf K2).size := by rw [strOf_size]; omega
                    go_wp2
                    go_roundw
                    case rel => exact ⟨1, tt ++ K2, [], v6, by go_num, by rw [strOf_append], by rw [List.append_nil]; exact HA.out.1, HE6.out.1, by simp, Nat.le_refl _, fun _ => rfl, HE6.out.2.1, HE6.out.2.2⟩
                    case measure => simp [intOf]
              · have hkn' : (k : Int) < (n1 : Int) := by omega
                have HEa : Hid (E + X.eaten ≤ n0 ∧ k + 1 ≤ n1) := ⟨by have := HM4.out; omega, by omega⟩
                clear hbad HXG hz
                subst hend
                go_wp2
                go_roundw
                case rel => exact ⟨k + 1, E + X.eaten, t ++ X.told, X.kept, X.st, v2, by go_num, by rw [strOf_append], by have := HM4.out; omega, by rw [List.length_append]; omega, by exact_mod_cast HE4.out, HQ.out, HXT.out.1, HXT.out.2.1, HC4.out.1, HC4.out.2, hXl, hxe4⟩
                case measure => simp [intOf]; omega
            · have hend' : ((m4 : Int) == 0) = false := by simp; omega
              have hzz : L.drop E ≠ [] := by
                intro e
                have : (L.drop E).length = 0 := by rw [e]; rfl
                rw [List.length_drop] at this; have := HM4.out; omega
              by_cases hkn : (k : Int) ≥ (n1 : Int)
              · by_cases hkm : (k : Int) ≥ (n2 : Int)
                · have hgo := HXG.out (by omega) (by omega) (.inl hzz)
                  rw [hbad] at hgo
                  have hgo2 : 1 ≤ X.eaten ∨ 1 ≤ X.told.length := by
                    rcases hgo with h | h
                    · cases h
                    · exact h
                  have HGO : Hid (1 ≤ X.eaten + X.told.length) := by show 1 ≤ _; omega
                  clear hbad HXG hgo hzz
                  by_cases he0 : X.eaten = 0
                  · have ht1 : (Stp.strOf X.told).toList.isEmpty = false := full_str (by omega)
                    have HE0 : Hid (X.eaten = 0) := he0
                    have he2 : ((X.eaten : Int) == 0) = true := by simp; omega
                    clear he0 hgo2
                    go_wp2
                    go_roundw
                    case rel => exact ⟨k + 1, E + X.eaten, t ++ X.told, X.kept, X.st, v2, by go_num, by rw [strOf_append], by have := HM4.out; omega, by rw [List.length_append]; have := HGO.out; omega, by exact_mod_cast HE4.out, HQ.out, HXT.out.1, HXT.out.2.1, HC4.out.1, HC4.out.2, hXl, hxe4⟩
                    case measure => simp [intOf]; omega
                  · have he2 : ((X.eaten : Int) == 0) = false := by simp; omega
                    clear he0 hgo2
                    go_wp2
                    go_roundw
                    case rel => exact ⟨k + 1, E + X.eaten, t ++ X.told, X.kept, X.st, v2, by go_num, by rw [strOf_append], by have := HM4.out; omega, by rw [List.length_append]; have := HGO.out; omega, by exact_mod_cast HE4.out, HQ.out, HXT.out.1, HXT.out.2.1, HC4.out.1, HC4.out.2, hXl, hxe4⟩
                    case measure => simp [intOf]; omega
                · have hkm' : (k : Int) < (n2 : Int) := by omega
                  clear hbad HXG hzz
                  go_wp2
                  go_roundw
                  case rel => exact ⟨k + 1, E + X.eaten, t ++ X.told, X.kept, X.st, v2, by go_num, by rw [strOf_append], by have := HM4.out; omega, by rw [List.length_append]; omega, by exact_mod_cast HE4.out, HQ.out, HXT.out.1, HXT.out.2.1, HC4.out.1, HC4.out.2, hXl, hxe4⟩
                  case measure => simp [intOf]; omega
              · have hkn' : (k : Int) < (n1 : Int) := by omega
                clear hbad HXG hzz
                go_wp2
                go_roundw
                case rel => exact ⟨k + 1, E + X.eaten, t ++ X.told, X.kept, X.st, v2, by go_num, by rw [strOf_append], by have := HM4.out; omega, by rw [List.length_append]; omega, by exact_mod_cast HE4.out, HQ.out, HXT.out.1, HXT.out.2.1, HC4.out.1, HC4.out.2, hXl, hxe4⟩
                case measure => simp [intOf]; omega
end BO
end Go.Proofs.YtlifobdooophbaaDoor
