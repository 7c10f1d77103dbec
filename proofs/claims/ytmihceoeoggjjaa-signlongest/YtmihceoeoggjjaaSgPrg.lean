/-
  Contracts of sign's Of, Sniff and Begins, as walks over the translated text. No condition.
-/
import Derived.Test.YtmihceoeoggjjaaSgRf4
namespace Go.Proofs.Ytmihceoeoggjjaa
open Go.ChangeShapes Go.WideShapes Go.ChangeAt Go.RowKit
namespace Sig
open Bas Txt
set_option linter.unusedVariables false

/-- What is sniffed, as the call tells it. -/
def sniffV (l : List Int) : Value := .tuple #[.int .i64 (sniffL l), .int .i64 ((sigL (sniffL l)).length : Nat), .bool (decide (0 < sniffL l))]
theorem sniff_pos (l : List Int) : 0 ≤ sniffL l ∧ sniffL l ≤ 9 := by
  rcases sniff_cases l with ⟨e, -⟩ | ⟨e, -⟩
  · omega
  · unfold hasS at e; omega
set_option maxHeartbeats 4000000 in
theorem of_any (c : Int) (w : World) : Calls Try.prog 9 #[.int .i64 c] w fun e w' => e = .returned (.string (sigS c)) ∧ Below w.heap.size w w' := by
  by_cases h : hasS c
  · rcases h with rfl | rfl | rfl | rfl | rfl | rfl | rfl | rfl
    all_goals
      go_enter Try.func9, Try.ntmps9
      go_wp2
      go_ret
      exact ⟨ret_str (by decide +kernel), Below.refl _ _⟩
  · have HE : Hid (sigS c = { data := #[] }) := by show _ = _; unfold sigS; rw [sig_nil h]; rfl
    rw [HE.out]
    unfold hasS at h
    have h1 : ¬ c = 1 := by omega
    have h2 : ¬ c = 2 := by omega
    have h3 : ¬ c = 3 := by omega
    have h4 : ¬ c = 4 := by omega
    have h5 : ¬ c = 5 := by omega
    have h6 : ¬ c = 6 := by omega
    have h8 : ¬ c = 8 := by omega
    have h9 : ¬ c = 9 := by omega
    clear h
    go_enter Try.func9, Try.ntmps9
    go_wp2
    go_ret
    exact ⟨rfl, Below.refl _ _⟩
/-- A text that begins with another one. -/
def preT (s T : ByteArray) : Bool := decide (T.size ≤ s.size ∧ s.extract 0 T.size = T)
theorem preT_sig {s : ByteArray} {c : Int} (h : ¬ sigL c = []) : preT s (sigS c) = preB (bytesL s) c := by
  unfold preT
  by_cases hs : s.size < (sigS c).size
  · rw [pre_short (by rw [bytesL_length, ← sigS_size]; exact hs)]
    exact decide_eq_false fun e => by omega
  · rw [pre_ext h]
    exact decide_eq_decide.2 ⟨fun e => e.2, fun e => ⟨by omega, e⟩⟩
set_option maxHeartbeats 2000000 in
theorem pfl_any (s T : ByteArray) (hT : T.size ≤ 4) (w : World) :
    Calls Try.prog 33 #[.string s, .string T] w fun e w' => e = .returned (.bool (preT s T)) ∧ Below w.heap.size w w' := by
  unfold preT
  by_cases hs : s.size < T.size
  · rw [decide_eq_false (fun e => by omega)]
    have i1 : ¬ (s.size : Int) ≥ (T.size : Int) := by omega
    go_enter Try.func33, Try.ntmps33
    go_wp2
    go_ret
    exact ⟨rfl, Below.refl _ _⟩
  · have HE : Hid (decide (T.size ≤ s.size ∧ s.extract 0 T.size = T) = decide (s.extract 0 T.size = T)) := decide_eq_decide.2 ⟨fun e => e.2, fun e => ⟨by omega, e⟩⟩
    have i1 : (s.size : Int) ≥ (T.size : Int) := by omega
    have i3 : T.size ≤ s.size := by omega
    rw [HE.out]
    clear HE
    go_enter Try.func33, Try.ntmps33
    go_wp2
    go_ret
    exact ⟨ret_bool (str_beq _ _), Below.refl _ _⟩
set_option maxHeartbeats 2000000 in
theorem pfx_any (s T : ByteArray) (hT : T.size ≤ 4) (w : World) :
    Calls Try.prog 21 #[.string s, .string T] w fun e w' => e = .returned (.bool (preT s T)) ∧ Below w.heap.size w w' := by
  go_enter Try.func21, Try.ntmps21
  go_wp2_with fail
  refine (pfl_any s T hT w).mono ?_
  rintro e w1 ⟨rfl, hb⟩
  go_wp2
  go_ret
  exact ⟨rfl, hb⟩
theorem best_step (l : List Int) (k : Nat) : bestL l (k + 1) = if preB l ((k + 1 : Nat) : Int) = true ∧ (sigL (bestL l k)).length < (sigL ((k + 1 : Nat) : Int)).length then (((k + 1 : Nat) : Int)) else bestL l k := by
  have e : bestL l (k + 1) = if preB l ((k + 1 : Nat) : Int) = true ∧ (bestL l k = 0 ∨ (sigL (bestL l k)).length < (sigL ((k + 1 : Nat) : Int)).length) then (((k + 1 : Nat) : Int)) else bestL l k := by simp only [bestL]; push_cast; rfl
  rw [e]
  by_cases hp : preB l ((k + 1 : Nat) : Int) = true
  · by_cases hb : bestL l k = 0
    · have hn : sigL ((k + 1 : Nat) : Int) ≠ [] := sig_ne.2 (pre_iff.1 hp).1
      have hl : (sigL (bestL l k)).length < (sigL ((k + 1 : Nat) : Int)).length := by rw [hb, sig_zero]; exact List.length_pos_iff.2 hn
      rw [if_pos ⟨hp, .inl hb⟩, if_pos ⟨hp, hl⟩]
    · by_cases hl : (sigL (bestL l k)).length < (sigL ((k + 1 : Nat) : Int)).length
      · rw [if_pos ⟨hp, .inr hl⟩, if_pos ⟨hp, hl⟩]
      · rw [if_neg (fun h => h.2.elim hb hl), if_neg (fun h => hl h.2)]
  · rw [if_neg (fun h => hp h.1), if_neg (fun h => hp h.1)]
theorem best_nat (l : List Int) (k : Nat) : 0 ≤ bestL l k := by
  rcases best_is l k with ⟨e, -⟩ | ⟨e, -⟩ <;> omega
set_option maxHeartbeats 8000000 in
theorem sniff_any (s : ByteArray) (w : World) : Calls Try.prog 11 #[.string s] w fun e w' => e = .returned (sniffV (bytesL s)) ∧ Below w.heap.size w w' := by
  have HO : Hid (∀ c w, Calls Try.prog 9 #[.int .i64 c] w fun e w' => e = .returned (.string (sigS c)) ∧ Below w.heap.size w w') := of_any
  have HP : Hid (∀ T : ByteArray, T.size ≤ 4 → ∀ w, Calls Try.prog 21 #[.string s, .string T] w fun e w' => e = .returned (.bool (preT s T)) ∧ Below w.heap.size w w') := fun T h w => pfx_any s T h w
  have HF : Hid (bestL (bytesL s) 10 = sniffL (bytesL s)) := best_sniff _ (by decide)
  have HQ : Hid (decide ((((sigL (sniffL (bytesL s))).length : Nat) : Int) > 0) = decide (0 < sniffL (bytesL s))) := by
    show _ = _
    refine decide_eq_decide.2 ?_
    rcases sniff_cases (bytesL s) with ⟨e, -⟩ | ⟨e, -⟩
    · rw [e, sig_zero]; simp
    · have hn := List.length_pos_iff.2 (sig_ne.2 e)
      unfold hasS at e
      constructor <;> intro <;> omega
  go_enter Try.func11, Try.ntmps11
  go_wp2
  go_loopw [5, 2, 3, 6] (fun i b n o wr => ∃ k : Nat, i = .int .i64 ((k + 1 : Nat) : Int) ∧ k ≤ 10 ∧ b = .int .i64 (bestL (bytesL s) k) ∧ n = .int .i64 ((sigL (bestL (bytesL s) k)).length : Nat) ∧ Below w.heap.size w wr) (fun i _ _ _ _ => 11 - (intOf i).toNat)
  case atStart => exact ⟨0, rfl, by decide, rfl, rfl, Below.refl _ _⟩
  case round =>
    obtain ⟨k, rfl, hk, rfl, rfl, hb⟩ := hrel
    have HB : Hid (Below w.heap.size w wr) := hb
    clear hb
    by_cases hlt : k < 10
    · have HN := best_step (bytesL s) k
      obtain ⟨b, hbb⟩ : ∃ b, bestL (bytesL s) k = b := ⟨_, rfl⟩
      rw [hbb] at HN ⊢
      obtain ⟨x, hx⟩ : ∃ x, k + 1 = x := ⟨_, rfl⟩
      rw [hx] at HN ⊢
      have hx10 : x ≤ 10 := by omega
      have i1 : (x : Int) ≤ 10 := by omega
      have hz : (sigS (x : Int)).size = (sigL (x : Int)).length := sigS_size _
      have hz4 := sigS_le (x : Int)
      clear hbb
      by_cases hlen : (sigL b).length < (sigL (x : Int)).length
      · have hne : ¬ sigL (x : Int) = [] := by intro e; rw [e] at hlen; simp at hlen
        have hq := preT_sig (s := s) hne
        obtain ⟨S, hS⟩ : ∃ S, sigS (x : Int) = S := ⟨_, rfl⟩
        have HOx : Hid (∀ w, Calls Try.prog 9 #[.int .i64 (x : Int)] w fun e w' => e = .returned (.string S) ∧ Below w.heap.size w w') := by rw [← hS]; exact HO.out _
        rw [hS] at hz hz4 hq
        obtain ⟨p, hp⟩ : ∃ p, preB (bytesL s) (x : Int) = p := ⟨_, rfl⟩
        have HPx : Hid (∀ w, Calls Try.prog 21 #[.string s, .string S] w fun e w' => e = .returned (.bool p) ∧ Below w.heap.size w w') := by rw [← hp, ← hq]; exact HP.out _ hz4
        rw [hp] at HN
        have HN1 : Hid (bestL (bytesL s) x = if p = true then (x : Int) else b) := by
          show _ = _
          rw [HN]
          cases p with
          | false => rw [if_neg (by simp), if_neg (by simp)]
          | true => rw [if_pos ⟨rfl, hlen⟩, if_pos rfl]
        obtain ⟨B, hB⟩ : ∃ B, (sigL b).length = B := ⟨_, rfl⟩
        have HBl : Hid ((sigL b).length = B) := hB
        have HZ : Hid (S.size = (sigL (x : Int)).length) := hz
        rw [hB] at hlen ⊢
        have i2 : (S.size : Int) > (B : Int) := by omega
        clear hS hB hz hz4 hlen hp hq HN hne
        cases p with
        | false =>
          have HN2 : Hid (bestL (bytesL s) x = b) := HN1.out.trans (if_neg (by simp))
          clear HN1
          go_wp2_with fail
          refine (HOx.out wr).mono ?_
          rintro e w1 ⟨rfl, h1⟩
          have HB1 : Hid (Below w.heap.size w w1) := below_two HB.out h1
          clear h1 HB
          go_wp2_with fail
          refine (HPx.out w1).mono ?_
          rintro e w2 ⟨rfl, h2⟩
          have HB2 : Hid (Below w.heap.size w w2) := below_two HB1.out h2
          clear h2 HB1
          go_wp2
          go_roundw
          case rel => exact ⟨x, by go_num, hx10, by rw [HN2.out], by rw [HN2.out, HBl.out], HB2.out⟩
          case measure => simp [intOf]; omega
        | true =>
          have HN2 : Hid (bestL (bytesL s) x = (x : Int)) := HN1.out.trans (if_pos rfl)
          clear HN1
          go_wp2_with fail
          refine (HOx.out wr).mono ?_
          rintro e w1 ⟨rfl, h1⟩
          have HB1 : Hid (Below w.heap.size w w1) := below_two HB.out h1
          clear h1 HB
          go_wp2_with fail
          refine (HPx.out w1).mono ?_
          rintro e w2 ⟨rfl, h2⟩
          have HB2 : Hid (Below w.heap.size w w2) := below_two HB1.out h2
          clear h2 HB1
          go_wp2
          go_roundw
          case rel => exact ⟨x, by go_num, hx10, by rw [HN2.out], by rw [HN2.out, HZ.out], HB2.out⟩
          case measure => simp [intOf]; omega
      · have HN2 : Hid (bestL (bytesL s) x = b) := HN.trans (if_neg (fun h => hlen h.2))
        clear HN
        obtain ⟨S, hS⟩ : ∃ S, sigS (x : Int) = S := ⟨_, rfl⟩
        have HOx : Hid (∀ w, Calls Try.prog 9 #[.int .i64 (x : Int)] w fun e w' => e = .returned (.string S) ∧ Below w.heap.size w w') := by rw [← hS]; exact HO.out _
        rw [hS] at hz hz4
        have HR : Hid ((sigL (bestL (bytesL s) x)).length = (sigL b).length) := by show _ = _; rw [HN2.out]
        obtain ⟨B, hB⟩ : ∃ B, (sigL b).length = B := ⟨_, rfl⟩
        rw [hB] at hlen HR ⊢
        have i2 : ¬ (S.size : Int) > (B : Int) := by omega
        have i3 : (S.size : Int) ≤ (B : Int) := by omega
        have i4 : S.size ≤ B := by omega
        clear hS hB hz hz4 hlen
        go_wp2_with fail
        refine (HOx.out wr).mono ?_
        rintro e w1 ⟨rfl, h1⟩
        have HB1 : Hid (Below w.heap.size w w1) := below_two HB.out h1
        clear h1 HB
        go_wp2
        go_roundw
        case rel => exact ⟨x, by go_num, hx10, by rw [HN2.out], by rw [HR.out], HB1.out⟩
        case measure => simp [intOf]; omega
    · obtain rfl : k = 10 := by omega
      rw [HF.out]
      go_wp2
      refine bodyPost_ret (v := sniffV (bytesL s)) ?_ rfl ⟨rfl, HB.out⟩
      simp only [sniffV]
      rw [← HQ.out]
      simp [results, Try.results11]
set_option maxHeartbeats 4000000 in
theorem begins_any (s : ByteArray) (a : Option Addr) (n c : Nat) (l : List Int) (w : World) (hr : Row .i64 w a l) (hl : l.length = n) (hm : n ≤ maxLen) :
    Calls Try.prog 14 #[.string s, .slice a n c] w fun e w' => e = .returned (.bool (l.any fun c => preB (bytesL s) c)) ∧ Below w.heap.size w w' := by
  have HO : Hid (∀ c w, Calls Try.prog 9 #[.int .i64 c] w fun e w' => e = .returned (.string (sigS c)) ∧ Below w.heap.size w w') := of_any
  have HP : Hid (∀ T : ByteArray, T.size ≤ 4 → ∀ w, Calls Try.prog 21 #[.string s, .string T] w fun e w' => e = .returned (.bool (preT s T)) ∧ Below w.heap.size w w') := fun T h w => pfx_any s T h w
  have HR : Hid (Row .i64 w a l) := hr
  have hm2 := hm
  unfold maxLen at hm2
  clear hr hm
  go_enter Try.func14, Try.ntmps14
  go_wp2
  go_loopw [10, 6, 7] (fun i _ _ wr => ∃ k : Nat, i = .int .i64 k ∧ k ≤ n ∧ (l.take k).any (fun c => preB (bytesL s) c) = false ∧ Below w.heap.size w wr) (fun i _ _ _ => n - (intOf i).toNat)
  case atStart => exact ⟨0, rfl, Nat.zero_le _, rfl, Below.refl _ _⟩
  case round =>
    obtain ⟨k, rfl, hk, hno, hb⟩ := hrel
    have HB : Hid (Below w.heap.size w wr ∧ (l.take k).any (fun c => preB (bytesL s) c) = false) := ⟨hb, hno⟩
    clear hb hno
    by_cases hlt : k < n
    · have hkL : k < l.length := by omega
      obtain ⟨b, off, ha, hc⟩ := HR.out
      obtain rfl := ha (by intro e; subst e; simp at hkL)
      have hc1 := cell_later HB.out.1 (hc k hkL)
      have HN : Hid (l.take (k + 1) = l.take k ++ [nth l k]) := take_snoc l k hkL
      have HM : Hid (nth l k ∈ l) := by unfold nth; rw [List.getElem?_eq_getElem hkL]; exact List.getElem_mem hkL
      obtain ⟨x, hx⟩ : ∃ x, nth l k = x := ⟨_, rfl⟩
      rw [hx] at hc1 HN HM
      have i1 : (k : Int) < (n : Int) := by omega
      have hz4 := sigS_le x
      by_cases h0 : sigL x = []
      · have HX : Hid (preB (bytesL s) x = false) := pre_nil h0
        have HE : sigS x = { data := #[] } := by unfold sigS; rw [h0]; rfl
        have HOx : Hid (∀ w, Calls Try.prog 9 #[.int .i64 x] w fun e w' => e = .returned (.string { data := #[] }) ∧ Below w.heap.size w w') := by rw [← HE]; exact HO.out _
        clear hc ha hx hkL HE h0 hz4
        go_wp2_with fail
        refine (HOx.out wr).mono ?_
        rintro e w1 ⟨rfl, h1⟩
        have HF : Hid ((l.take (k + 1)).any (fun c => preB (bytesL s) c) = false ∧ Below w.heap.size w w1) := ⟨by rw [HN.out, List.any_append, HB.out.2]; simp [HX.out], below_two HB.out.1 h1⟩
        clear h1
        go_wp2
        go_roundw
        case rel => exact ⟨k + 1, by go_num, by omega, HF.out⟩
        case measure => simp [intOf]; omega
      · have hq := preT_sig (s := s) h0
        have hne : (sigS x).toList.isEmpty = false := by rcases sig_ne.1 h0 with rfl | rfl | rfl | rfl | rfl | rfl | rfl | rfl <;> decide +kernel
        obtain ⟨p, hp⟩ : ∃ p, preB (bytesL s) x = p := ⟨_, rfl⟩
        obtain ⟨S, hS⟩ : ∃ S, sigS x = S := ⟨_, rfl⟩
        have HOx : Hid (∀ w, Calls Try.prog 9 #[.int .i64 x] w fun e w' => e = .returned (.string S) ∧ Below w.heap.size w w') := by rw [← hS]; exact HO.out _
        rw [hS] at hz4 hq hne
        have HPx : Hid (∀ w, Calls Try.prog 21 #[.string s, .string S] w fun e w' => e = .returned (.bool p) ∧ Below w.heap.size w w') := by rw [← hp, ← hq]; exact HP.out _ hz4
        have HX : Hid (preB (bytesL s) x = p) := hp
        clear hc ha hx hp hkL hq hS h0 hz4
        cases p with
        | true =>
          go_wp2_with fail
          refine (HOx.out wr).mono ?_
          rintro e w1 ⟨rfl, h1⟩
          have HB1 : Hid (Below w.heap.size w w1) := below_two HB.out.1 h1
          clear h1
          go_wp2_with fail
          refine (HPx.out w1).mono ?_
          rintro e w2 ⟨rfl, h2⟩
          have HE : Hid (true = l.any fun c => preB (bytesL s) c) := (List.any_eq_true.2 ⟨x, HM.out, HX.out⟩).symm
          go_wp2
          go_ret
          exact ⟨ret_bool HE.out, below_two HB1.out h2⟩
        | false =>
          go_wp2_with fail
          refine (HOx.out wr).mono ?_
          rintro e w1 ⟨rfl, h1⟩
          have HB1 : Hid (Below w.heap.size w w1) := below_two HB.out.1 h1
          clear h1
          go_wp2_with fail
          refine (HPx.out w1).mono ?_
          rintro e w2 ⟨rfl, h2⟩
          have HF : Hid ((l.take (k + 1)).any (fun c => preB (bytesL s) c) = false ∧ Below w.heap.size w w2) := ⟨by rw [HN.out, List.any_append, HB.out.2]; simp [HX.out], below_two HB1.out h2⟩
          clear h2
          go_wp2
          go_roundw
          case rel => exact ⟨k + 1, by go_num, by omega, HF.out⟩
          case measure => simp [intOf]; omega
    · have HE : Hid (false = l.any fun c => preB (bytesL s) c) := by
        have := HB.out.2
        rw [List.take_of_length_le (by omega)] at this
        exact this.symm
      go_wp2
      go_ret
      exact ⟨ret_bool HE.out, HB.out.1⟩
end Sig
end Go.Proofs.Ytmihceoeoggjjaa
