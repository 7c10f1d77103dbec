/-
  Proved: what a decoder of Punycode has eaten ahead of an error, or an end, is the beginning of a text that denotes something: with a hyphen behind it denotes its own bytes; with the byte that is wrong, whatever stands behind, the same is wrong at the same place. No condition.
-/
import Derived.Test.YtemgbmacdpnepaaPunLaw
namespace Go.Proofs.Ytemgbmacdpnepaa
open Go.ChangeShapes Go.WideShapes Go.ChangeAt Go.RowKit
open Go.ChangeMaps (open_string shut_string)
namespace punyExtends
open Bas Sca Stp Scn Cod Pun
set_option linter.unusedVariables false

theorem bytes_hyp : bytesL ⟨#[45]⟩ = [45] := rfl
/-- With a hyphen behind. -/
theorem with_hyp (t : List Int) : (bahL (t.take (bahL t) ++ [45]) = bahL t + 1) ∧ (0 < bahL t → rdQ (t.take (bahL t) ++ [45]) = 0 ∧ rdE (t.take (bahL t) ++ [45]) = true ∧ rdL (t.take (bahL t) ++ [45]) = t.take (bahL t)) := by
  have hp := bahL_plain t
  have hl : (t.take (bahL t)).length = bahL t := by have := bahL_le t; rw [List.length_take]; omega
  have hall : ∀ x ∈ t.take (bahL t) ++ [45], x < 128 := fun x hx => by
    rcases List.mem_append.1 hx with hx | hx
    · exact hp x hx
    · simp at hx; omega
  have hb : bahL (t.take (bahL t) ++ [45]) = (t.take (bahL t) ++ [45]).length := bahL_of hall
  refine ⟨by rw [hb, List.length_append, hl]; rfl, fun h0 => ?_⟩
  have hd := textD_basic (t := t.take (bahL t)) (fun e => by rw [e] at hl; simp at hl; omega)
  have hn : ¬ bahL (t.take (bahL t) ++ [45]) < (t.take (bahL t) ++ [45]).length := by omega
  refine ⟨?_, ?_, ?_⟩
  · unfold rdQ endQ; rw [if_neg hn, hd]
  · unfold rdE endE; rw [if_neg hn, hd]
  · unfold rdL endL; rw [if_neg hn, hd]
/-- With the byte that is wrong. -/
theorem with_bad (t more : List Int) (h : bahL t < t.length) : bahL (t.take (bahL t + 1) ++ more) = bahL t ∧ rdQ (t.take (bahL t + 1) ++ more) = 3 := by
  have hw : ¬ nth t (bahL t) < 128 := by
    have key : ∀ l : List Int, bahL l < l.length → ¬ nth l (bahL l) < 128 := by
      intro l
      induction l with
      | nil => intro h; simp [bahL] at h
      | cons x r ih =>
        intro h
        rw [bahL] at h ⊢
        by_cases hx : x < 128
        · rw [if_pos hx] at h ⊢
          rw [nth_cons_succ]
          exact ih (by simp at h; omega)
        · rw [if_neg hx, nth_cons_zero]; exact hx
    exact key t h
  have e1 : t.take (bahL t + 1) ++ more = t.take (bahL t) ++ (nth t (bahL t) :: more) := by
    rw [take_snoc t _ h, List.append_assoc]; rfl
  have hl : (t.take (bahL t)).length = bahL t := by rw [List.length_take]; omega
  have hb : bahL (t.take (bahL t + 1) ++ more) = bahL t := by
    rw [e1, bahL_app (bahL_plain t), hl, bahL, if_neg hw]; rfl
  refine ⟨hb, ?_⟩
  unfold rdQ
  rw [if_pos]
  rw [hb, List.length_append, List.length_take]; omega

theorem size_app (s t : ByteArray) : (s ++ t).size = s.size + t.size := by rw [← bytesL_length, bytesL_append, List.length_append, bytesL_length, bytesL_length]
theorem size_ext (s : ByteArray) (k : Nat) : (s.extract 0 k).size ≤ s.size := by rw [← bytesL_length, bytesL_take, List.length_take, bytesL_length]; omega
theorem failQ (N m : Nat) (q fa : Int) (en : Bool) (w : World) (h : BaseAt w N 0 m q en) (hf : failAt (m : Int) q = fa) :
    Calls Try.prog 16 #[.pointer (some ⟨N, 0, none⟩)] w fun e w' => e = .returned (.agg #[.int .i64 q, .int .i64 fa]) ∧ Below w.heap.size w w' := by
  subst hf
  exact fail_any N 0 m q en w h
theorem rdQ_end {t : List Int} (h : rdQ t ≠ 3) : bahL t = t.length := by
  have h1 := bahL_le t
  unfold rdQ at h
  by_cases hl : bahL t < t.length
  · rw [if_pos hl] at h; exact absurd rfl h
  · omega
theorem rdQ_bad {t : List Int} (h : rdQ t = 3) : bahL t < t.length := by
  unfold rdQ at h
  by_cases hl : bahL t < t.length
  · exact hl
  · rw [if_neg hl] at h
    unfold endQ at h
    split at h <;> simp at h

set_option maxHeartbeats 16000000 in
set_option maxRecDepth 100000 in
theorem walk (w : World) (s : ByteArray) (hwf : s.size ≤ maxLen) (more : ByteArray) (hwf2 : more.size ≤ maxLen) :
    Calls Try.prog 7 #[.string s, .string more] w fun e w' => e = .returned (.bool true) ∧ Below w.heap.size w w' := by
  clear hwf hwf2
  go_enter Try.func7, Try.ntmps7
  go_wp2_with fail
  refine (awake_any _).mono ?_
  rintro e w1 ⟨rfl, b1⟩
  have HB1 : Hid (Below w.heap.size w w1) := b1
  clear b1
  go_wp2_with fail
  refine (great_any _ none none 0 0 0 0 w1).mono ?_
  rintro e w1' ⟨rfl, rfl⟩
  obtain ⟨g, hg⟩ : ∃ g, (decide ((s.size : Int) > 120) || (decide (0 > 200) || decide (0 > 200))) = g := ⟨_, rfl⟩
  rw [hg]
  cases g with
  | true =>
    clear hg
    go_wp2_with fail
    refine (awake_any _).mono ?_
    rintro e w2 ⟨rfl, b2⟩
    go_wp2
    go_ret
    exact ⟨rfl, below_two HB1.out b2⟩
  | false =>
    have h400 : (s.size : Int) ≤ 120 := by simp at hg; omega
    clear hg
    by_cases hmo : (more.size : Int) > 100
    · go_wp2_with fail
      refine (awake_any _).mono ?_
      rintro e w2 ⟨rfl, b2⟩
      go_wp2
      go_ret
      exact ⟨rfl, below_two HB1.out b2⟩
    · have hmo2 : more.size ≤ 100 := by omega
      have HL : Hid ((bytesL s).length = s.size) := bytesL_length s
      have hple : bahL (bytesL s) ≤ s.size := by rw [← bytesL_length]; exact bahL_le _
      go_wp2_with fail
      refine (newD_any _ rfl).mono ?_
      rintro e w2 ⟨rfl, D2, z2, B2⟩
      obtain ⟨N, hN⟩ : ∃ N, N = w1'.heap.size := ⟨_, rfl⟩
      have HN : Hid (w.heap.size ≤ N) := by show w.heap.size ≤ N; rw [hN]; exact HB1.out.size
      rw [← hN] at D2 z2 B2 ⊢
      have HB2 : Hid (Below w.heap.size w w2) := HB1.out.trans (B2.mono HN.out)
      clear hN
      go_wp2_with fail
      refine (read_any lenOK N _ _ s none none 0 0 0 0 [] [] w2 D2 (ints_none _ _) (ints_none _ _) (fun b' o' h0 => by omega) (fun b' o' h0 => by omega) (by omega) (by omega) (by omega)).mono ?_
      rintro e w4 ⟨vo, rfl, v4, u4, s4, f4, D4, C4⟩
      obtain ⟨ao, co, hvo, -⟩ := s4.form
      obtain ⟨m, hm⟩ : ∃ m, (rdL (bytesL s)).length = m := ⟨_, rfl⟩
      rw [hm] at hvo
      subst hvo
      have HD4 : Hid (BaseAt w4 N 0 (bahL (bytesL s)) (rdQ (bytesL s)) (rdE (bytesL s)) ∧ N + 1 ≤ w4.heap.size ∧ Below w.heap.size w w4) :=
        ⟨D4.base, by have := C4.size; omega, HB2.out.trans (C4.below HB2.out.size (fun k j hk h => by have := footD_nil h; have := HN.out; omega))⟩
      clear s4 f4 D4 C4 hm D2 z2 B2 HB1 HB2
      go_wp2_with fail
      refine (at_any N 0 _ _ _ w4 HD4.out.1).mono ?_
      rintro e w5 ⟨rfl, hw5⟩
      subst hw5
      obtain ⟨p, hp⟩ : ∃ p, bahL (bytesL s) = p := ⟨_, rfl⟩
      have HP : Hid (bahL (bytesL s) = p) := hp
      rw [hp] at hple HD4 ⊢
      clear hp
      have i1 : ¬ (p : Int) < 0 := by omega
      have i2 : ¬ (p : Int) > (s.size : Int) := by omega
      have i3 : (p : Int) ≤ (s.size : Int) := by omega
      go_wp2_with fail
      refine (newD_any _ rfl).mono ?_
      rintro e w6 ⟨rfl, D6, z6, B6⟩
      obtain ⟨N2, hN2⟩ : ∃ N2, N2 = w5.heap.size := ⟨_, rfl⟩
      have HN2 : Hid (N + 1 ≤ N2) := by show N + 1 ≤ N2; rw [hN2]; exact HD4.out.2.1
      rw [← hN2] at D6 z6 B6 ⊢
      go_wp2_with fail
      refine (newD_any w6 z6.symm).mono ?_
      rintro e w7 ⟨rfl, G7, z7, B7⟩
      have HD7 : Hid (BaseAt w7 N 0 p (rdQ (bytesL s)) (rdE (bytesL s)) ∧ DecV w7 N2 0 0 false [] [] (.slice none 0 0) (.slice none 0 0) ∧ DecV w7 (N2 + 1) 0 0 false [] [] (.slice none 0 0) (.slice none 0 0) ∧ w7.heap.size = N2 + 1 + 1 ∧ Below w.heap.size w w7) :=
        ⟨(HD4.out.1.below (B6.mono (by omega))).below (B7.mono (by omega)), D6.below (B7.mono (by omega)), G7, z7, (HD4.out.2.2.trans (B6.mono (by rw [hN2]; exact HD4.out.2.2.size))).trans (B7.mono (by have := HD4.out.2.2.size; omega))⟩
      clear D6 G7 z6 z7 B6 B7 HD4
      have g4 : ¬ 9223372036854775807 < min p s.size + 1 := by omega
      have g5 : ¬ 9223372036854775807 < p + 1 := by omega
      go_wp2_with fail
      rw [← hN2]
      clear hN2
      obtain ⟨q, hq⟩ : ∃ q, s.extract 0 p ++ ⟨#[45]⟩ = q := ⟨_, rfl⟩
      have hbq : bytesL q = (bytesL s).take p ++ [45] := by rw [← hq, bytesL_append, bytesL_take, bytes_hyp]
      have hqs : q.size ≤ 121 := by
        rw [← bytesL_length, hbq, List.length_append, List.length_take]; simp; omega
      have HW : Hid (bytesL q = (bytesL s).take p ++ [45] ∧ (0 < p → rdQ (bytesL q) = 0 ∧ rdE (bytesL q) = true ∧ rdL (bytesL q) = (bytesL s).take p)) := by
        refine ⟨hbq, fun h0 => ?_⟩
        have := (with_hyp (bytesL s)).2 (by rw [HP.out]; exact h0)
        rw [HP.out, ← hbq] at this
        exact this
      rw [hq]
      clear hq hbq
      refine (read_any lenOK N2 _ _ q none none 0 0 0 0 [] [] w7 HD7.out.2.1 (ints_none _ _) (ints_none _ _) (fun b' o' h0 => by omega) (fun b' o' h0 => by omega) (by omega) (by omega) (by omega)).mono ?_
      rintro e w8 ⟨vo8, rfl, v8, u8, s8, f8, D8, C8⟩
      obtain ⟨a8, c8, hvo8, -⟩ := s8.form
      obtain ⟨m8, hm8⟩ : ∃ m8, (rdL (bytesL q)).length = m8 := ⟨_, rfl⟩
      rw [hm8] at hvo8
      subst hvo8
      have HD8 : Hid (BaseAt w8 N 0 p (rdQ (bytesL s)) (rdE (bytesL s)) ∧ BaseAt w8 N2 0 (bahL (bytesL q)) (rdQ (bytesL q)) (rdE (bytesL q)) ∧ DecV w8 (N2 + 1) 0 0 false [] [] (.slice none 0 0) (.slice none 0 0) ∧ N2 + 1 + 1 ≤ w8.heap.size ∧ Below w.heap.size w w8 ∧ Seg .u32 w8 (.slice a8 m8 c8) (rdL (bytesL q)) ∧ (rdL (bytesL q)).length = m8) :=
        ⟨HD7.out.1.chg C8 (fun k j h1 h2 => by have := h1.1; have := footD_nil h2; have := HN2.out; omega), D8.base, HD7.out.2.2.1.chg C8 (fun k j h1 h2 => by have := footD_nil h1; have := footD_nil h2; omega), by have := C8.size; have := HD7.out.2.2.2.1; omega, HD7.out.2.2.2.2.trans (C8.below HD7.out.2.2.2.2.size (fun k j hk h => by have := footD_nil h; have := HN2.out; have := HN.out; omega)), s8, hm8⟩
      clear s8 f8 D8 C8 hm8 HD7
      go_wp2
      go_loopw [13, 14] (fun o i wr => ∃ k : Nat, i = .int .i64 k ∧ k ≤ p ∧ Seg .u32 wr o ((bytesL s).take k) ∧ (∀ g, o.ownBlock = some g → w8.heap.size ≤ g) ∧ Below w8.heap.size w8 wr) (fun _ i _ => p - (intOf i).toNat)
      case atStart => exact ⟨0, rfl, Nat.zero_le _, seg_nil _ _, fun g hg => by simp [Value.ownBlock] at hg, Below.refl _ _⟩
      case round =>
        obtain ⟨k, rfl, hk, hsg, hown, hbl⟩ := hrel
        have HK : Hid (Seg .u32 wr u13 ((bytesL s).take k) ∧ (∀ g, u13.ownBlock = some g → w8.heap.size ≤ g) ∧ Below w8.heap.size w8 wr) := ⟨hsg, hown, hbl⟩
        clear hsg hown hbl
        by_cases hlt : k < p
        · have hks : k < s.size := by omega
          have hkL : k < (bytesL s).length := by rw [HL.out]; exact hks
          have e1 : ((s[k]'hks).toNat : Int) = nth (bytesL s) k := str_nth s _ hks
          have hby := bytesL_byte s _ (nth_mem hkL)
          have HTS : Hid ((bytesL s).take (k + 1) = (bytesL s).take k ++ [nth (bytesL s) k] ∧ ((bytesL s).take k).length ≤ 120) := ⟨take_snoc _ _ hkL, by rw [List.length_take]; omega⟩
          obtain ⟨x, hx⟩ : ∃ x, nth (bytesL s) k = x := ⟨_, rfl⟩
          rw [hx] at e1 hby HTS
          have j1 : (k : Int) < (p : Int) := by omega
          have j2 : (k : Int) < (s.size : Int) := by omega
          have HSA : Hid (∀ o, Seg .u32 (wr.alloc o) u13 ((bytesL s).take k)) := fun o => HK.out.1.chg ((Chg.refl (fun _ _ => False) wr).alloc o) (fun _ _ _ h => h)
          clear hx hkL
          go_wp2_with (at_builtin; go_must (refine wpList_append_seg rfl _ _ 27 27 rfl .u32 64 4 Try.underlying27 info_u32 u13 ((bytesL s).take k) [x] rfl (HSA.out _) _ rfl (src_row (l := [x]) Try.underlying27 (by exact row_new .u32 wr [x] _ _ rfl) rfl (fun h => by cases h)) (by have := HTS.out.2; unfold maxLen; simp; omega) (by have := HTS.out.2; simp; omega) ?_; intro vo4 w9 hs9 hc9 hm9))
          have HK9 : Hid (Seg .u32 w9 vo4 ((bytesL s).take (k + 1)) ∧ (∀ g, vo4.ownBlock = some g → w8.heap.size ≤ g) ∧ Below w8.heap.size w8 w9) := by
            rw [HTS.out.1]
            have hsz := HK.out.2.2.size
            refine ⟨hs9, fun g hg => ?_, (HK.out.2.2.alloc hsz _).trans (hc9.below (by simp; omega) (fun k' j hk' hh => by have := HK.out.2.1 k' hh; omega))⟩
            rcases hm9 g hg with e | e
            · exact HK.out.2.1 g e
            · simp at e; omega
          clear hs9 hc9 hm9 HSA HTS HK e1
          go_wp2
          go_roundw
          case rel => exact ⟨k + 1, by go_num, by omega, HK9.out.1, HK9.out.2.1, HK9.out.2.2⟩
          case measure => simp [intOf]; omega
        · obtain rfl : k = p := by omega
          have j1 : ¬ (k : Int) < (k : Int) := by omega
          have HD9 : Hid (BaseAt wr N 0 k (rdQ (bytesL s)) (rdE (bytesL s)) ∧ BaseAt wr N2 0 (bahL (bytesL q)) (rdQ (bytesL q)) (rdE (bytesL q)) ∧ DecV wr (N2 + 1) 0 0 false [] [] (.slice none 0 0) (.slice none 0 0) ∧ N2 + 1 + 1 ≤ wr.heap.size ∧ Below w.heap.size w wr ∧ Seg .u32 wr (.slice a8 m8 c8) (rdL (bytesL q)) ∧ (rdL (bytesL q)).length = m8 ∧ Seg .u32 wr u13 ((bytesL s).take k)) :=
            ⟨HD8.out.1.below HK.out.2.2, HD8.out.2.1.below HK.out.2.2, HD8.out.2.2.1.below HK.out.2.2, by have := HK.out.2.2.size; have := HD8.out.2.2.2.1; omega, below_two HD8.out.2.2.2.2.1 HK.out.2.2, HD8.out.2.2.2.2.2.1.chg (chg_of_below HK.out.2.2 (Nat.le_refl _) (fun _ _ => False)) (fun _ _ _ h => h), HD8.out.2.2.2.2.2.2, HK.out.1⟩
          clear HK HD8 hlt hk
          obtain ⟨a13, c13, h13, -⟩ := HD9.out.2.2.2.2.2.2.2.form
          have hkl : ((bytesL s).take k).length = k := by rw [List.length_take, HL.out]; omega
          rw [hkl] at h13
          subst h13
          obtain ⟨Q, hQ⟩ : ∃ Q, rdQ (bytesL s) = Q := ⟨_, rfl⟩
          obtain ⟨en, hen⟩ : ∃ en, rdE (bytesL s) = en := ⟨_, rfl⟩
          have HQ : Hid (rdQ (bytesL s) = Q) := hQ
          rw [hQ, hen] at HD9
          clear hQ hen
          by_cases hp0 : 0 < k
          have j2 : (k : Int) > 0 := by omega
          have HD9' : Hid (BaseAt wr N2 0 (bahL (bytesL q) : Nat) 0 true ∧ Row .u32 wr a8 ((bytesL s).take k) ∧ Row .u32 wr a13 ((bytesL s).take k) ∧ m8 = k) := by
            obtain ⟨q0, q1, q2⟩ := HW.out.2 hp0
            have h1 := HD9.out.2.1
            have h2 := HD9.out.2.2.2.2.2.1
            have h3 := HD9.out.2.2.2.2.2.2.1
            rw [q0, q1] at h1
            rw [q2] at h2 h3
            exact ⟨h1, (seg_row h2).1, (seg_row HD9.out.2.2.2.2.2.2.2).1, by rw [← h3, hkl]⟩
          go_wp2_with fail
          refine (failQ N2 _ 0 0 true wr HD9'.out.1 rfl).mono ?_
          rintro e w9 ⟨rfl, b9⟩
          have HD10 : Hid (BaseAt w9 N 0 k Q en ∧ DecV w9 (N2 + 1) 0 0 false [] [] (.slice none 0 0) (.slice none 0 0) ∧ N2 + 1 + 1 ≤ w9.heap.size ∧ Below w.heap.size w w9) :=
            ⟨HD9.out.1.below b9, HD9.out.2.2.1.below b9, by have := b9.size; have := HD9.out.2.2.2.1; omega, below_two HD9.out.2.2.2.2.1 b9⟩
          have HR9 : Hid (Row .u32 w9 a8 ((bytesL s).take k) ∧ Row .u32 w9 a13 ((bytesL s).take k) ∧ m8 = k) := ⟨HD9'.out.2.1.mono b9, HD9'.out.2.2.1.mono b9, HD9'.out.2.2.2⟩
          clear b9 HD9 HD9'
          go_wp2_with fail
          rw [HR9.out.2.2]
          refine (rSame_any a8 a13 k k c8 c13 ((bytesL s).take k) ((bytesL s).take k) w9 HR9.out.1 HR9.out.2.1 hkl hkl (by unfold maxLen; omega) (by unfold maxLen; omega)).mono ?_
          rintro e w10 ⟨rfl, nd, hw10⟩
          rw [cmpL_self, show ((0 : Int) == 0) = true from rfl]
          have b10 : Below w9.heap.size w9 w10 := by rw [hw10]; exact below_dn _ _
          have HD11 : Hid (BaseAt w10 N 0 k Q en ∧ DecV w10 (N2 + 1) 0 0 false [] [] (.slice none 0 0) (.slice none 0 0) ∧ N2 + 1 + 1 ≤ w10.heap.size ∧ Below w.heap.size w w10) :=
            ⟨HD10.out.1.below b10, HD10.out.2.1.below b10, by have := b10.size; have := HD10.out.2.2.1; omega, below_two HD10.out.2.2.2 b10⟩
          clear b10 hw10 HD10 HR9 HW hkl
          rotate_left
          have j2 : ¬ (k : Int) > 0 := by omega
          obtain ⟨w10, hw10⟩ : ∃ w10, wr = w10 := ⟨_, rfl⟩
          have HD11 : Hid (BaseAt wr N 0 k Q en ∧ DecV wr (N2 + 1) 0 0 false [] [] (.slice none 0 0) (.slice none 0 0) ∧ N2 + 1 + 1 ≤ wr.heap.size ∧ Below w.heap.size w wr) :=
            ⟨HD9.out.1, HD9.out.2.2.1, HD9.out.2.2.2.1, HD9.out.2.2.2.2.1⟩
          rw [hw10] at HD11 ⊢
          clear HD9 hw10 HW hkl
          all_goals
            by_cases hQ3 : Q = 3
            · subst hQ3
              have hlt := rdQ_bad HQ.out
              rw [HP.out, HL.out] at hlt
              have HZ := with_bad (bytesL s) (bytesL more) (by rw [HP.out, HL.out]; exact hlt)
              rw [HP.out] at HZ
              have HZ' : Hid (bytesL (s.extract 0 (k + 1) ++ more) = (bytesL s).take (k + 1) ++ bytesL more ∧ bahL ((bytesL s).take (k + 1) ++ bytesL more) = k ∧ rdQ ((bytesL s).take (k + 1) ++ bytesL more) = 3) := ⟨by rw [bytesL_append, bytesL_take], HZ.1, HZ.2⟩
              clear HZ HQ
              go_wp2_with fail
              refine (failQ N k 3 k en w10 HD11.out.1 rfl).mono ?_
              rintro e w11 ⟨rfl, b11⟩
              have HD12 : Hid (BaseAt w11 N 0 k 3 en ∧ DecV w11 (N2 + 1) 0 0 false [] [] (.slice none 0 0) (.slice none 0 0) ∧ N2 + 1 + 1 ≤ w11.heap.size ∧ Below w.heap.size w w11) :=
                ⟨HD11.out.1.below b11, HD11.out.2.1.below b11, by have := b11.size; have := HD11.out.2.2.1; omega, below_two HD11.out.2.2.2 b11⟩
              have hfl := fld 3 (k : Int)
              clear b11 HD11
              have hw1 : IntKind.i64.wrap ((k : Int) + 1) = ((k + 1 : Nat) : Int) := by rw [wrap_i64s _ (by omega) (by omega)]; omega
              have hmin : min ((k + 1 : Nat) : Int) (s.size : Int) = ((k + 1 : Nat) : Int) := by omega
              have hle1 : ((k + 1 : Nat) : Int) ≤ (s.size : Int) := by omega
              have hz1 := size_ext s (k + 1)
              have hsum : ¬ 9223372036854775807 < (s.extract 0 (k + 1)).size + more.size := by omega
              have hsum2 : ¬ 9223372036854775807 < min (k + 1) s.size + more.size := by omega
              have hsum3 : ¬ 9223372036854775807 < k + 1 + more.size := by omega
              go_wp2_with fail
              have hmt : (min ((k : Int) + 1) (s.size : Int)).toNat = k + 1 := by omega
              try rw [hmt]
              refine (read_any lenOK (N2 + 1) _ _ (s.extract 0 (k + 1) ++ more) none none 0 0 0 0 [] [] w11 HD12.out.2.1 (ints_none _ _) (ints_none _ _) (fun b' o' h0 => by omega) (fun b' o' h0 => by omega) (by omega) (by omega) (by rw [size_app]; omega)).mono ?_
              rintro e w12 ⟨vo12, rfl, v12, u12, s12, f12, D12, C12⟩
              have D12b := D12.base
              rw [HZ'.out.1, HZ'.out.2.1, HZ'.out.2.2] at D12b
              obtain ⟨en2, hen2⟩ : ∃ en2, rdE ((bytesL s).take (k + 1) ++ bytesL more) = en2 := ⟨_, rfl⟩
              rw [hen2] at D12b
              obtain ⟨M, hM⟩ : ∃ M, N2 + 1 = M := ⟨_, rfl⟩
              have HD13 : Hid (BaseAt w12 M 0 k 3 en2 ∧ BaseAt w12 N 0 k 3 en ∧ Below w.heap.size w w12) := by
                rw [← hM]
                exact ⟨D12b, HD12.out.1.chg C12 (fun k j hk h => by have := hk.1; have := footD_nil h; have := HN2.out; omega), HD12.out.2.2.2.trans (C12.below HD12.out.2.2.2.size (fun k j hk h => by have := footD_nil h; have := HN2.out; have := HN.out; omega))⟩
              have hNM : N ≠ M := by have := HN2.out; omega
              rw [hM]
              clear D12b s12 f12 D12 C12 HD12 hmt hw1 hmin hle1 hz1 hsum hsum2 hsum3 hM hen2 HZ' hfl
              go_wp2
              have hbd : Below w12.heap.size w12 w12.drew := (Below.refl _ _).drew
              have A13 : BaseAt w12.drew M 0 k 3 en2 := HD13.out.1.below hbd
              have G13 : BaseAt w12.drew N 0 k 3 en := HD13.out.2.1.below hbd
              have B13 : Below w.heap.size w w12.drew := below_two HD13.out.2.2 hbd
              clear hbd
              go_region_held3 (fun w' => True) (exact trivial) (first
                | (go_at_call_of 16 (Value.pointer (some (Addr.mk M 0 none))); refine (failQ M k 3 k en2 _ ?_ rfl).mono ?_; exact A13; rintro e w13 ⟨rfl, b13⟩; have A13 := A13.below b13; have G13 := G13.below b13; have B13 := below_two B13 b13; clear b13)
                | (go_at_call_of 16 (Value.pointer (some (Addr.mk N 0 none))); refine (failQ N k 3 k en _ ?_ rfl).mono ?_; exact G13; rintro e w13 ⟨rfl, b13⟩; have A13 := A13.below b13; have G13 := G13.below b13; have B13 := below_two B13 b13; clear b13))
              all_goals
                go_wp2
                go_ret
                exact ⟨by first | rfl | exact ret_bool (by simp), B13⟩
            · have hes := rdQ_end (t := bytesL s) (by rw [HQ.out]; exact hQ3)
              rw [HP.out, HL.out] at hes
              have hq3 : (Q == 3) = false := by simp [hQ3]
              obtain ⟨fa, hfa⟩ : ∃ fa, failAt (k : Int) Q = fa := ⟨_, rfl⟩
              clear HQ hQ3
              go_wp2_with fail
              refine (failQ N k Q fa en w10 HD11.out.1 hfa).mono ?_
              rintro e w11 ⟨rfl, b11⟩
              have HB11 : Hid (Below w.heap.size w w11) := below_two HD11.out.2.2.2 b11
              have hfl := fld Q fa
              clear b11 HD11 hfa
              go_wp2
              go_ret
              exact ⟨rfl, HB11.out⟩
set_option maxRecDepth 100000 in
theorem lifted (os : Os) (started : os.Started) (H : Type) (enc : TypeId × Value → H) :
    ReturnsInHanded {} Try.checked os 7 .any (Rows.punyExtendsSpec.pre6 enc Try.prog Try.f7 Rows.punyExtendsRow.domain false) (Rows.punyExtendsSpec.post enc Try.prog Try.f7 false true false false) := by
  refine returnsInHanded_of_change (C := Try.checked) Bas.own started (by kernel_rfl) Try.func7
    (ChangeSpec.witness6 (enc := enc) (C := Try.checked) false ⟨#[], #[.string ByteArray.empty, .string ByteArray.empty], []⟩ 8 (by kernel_rfl) (by kernel_rfl) (by kernel_rfl) (by kernel_rfl)) ?_
  intro W base args ds gs before hval0 hW hcnd _
  have hval : ∀ (j : Nat) t v, Try.f7.params[j]? = some t → args[j]? = some v → Value.okWide Try.prog W .any base t v := hval0
  have hW' := hW
  obtain ⟨p, q, hA0, hV, rfl, hfz, hnd⟩ := hW
  have hA : DataW.TrodAll enc Try.prog W 0 (fun _ => true) true Try.f7.params.toList args.toList ds p := hA0
  rw [Try.params7] at hA hval
  obtain ⟨v0, vs0, d0, ds0, p0, q0, hargs, rfl, rfl, h0, r0⟩ := trodAll_cons hA
  obtain ⟨v1, vs1, d1, ds1, p1, q1, rfl, rfl, rfl, h1, r1⟩ := trodAll_cons r0
  obtain ⟨rfl, rfl, rfl⟩ := trodAll_nil r1
  obtain rfl : args = #[v0, v1] := by cases args; simp_all
  obtain ⟨rfl, rfl⟩ := trodVars_none hV
  have k0 := h0
  have lt0 : ∀ x ∈ p0, x.block < W.heap.size := by obtain ⟨m, hm⟩ := k0; exact DataW.trod_lt m _ _ _ hm
  have k1 := h1
  have lt1 : ∀ x ∈ p1, x.block < W.heap.size := by obtain ⟨m, hm⟩ := k1; exact DataW.trod_lt m _ _ _ hm
  obtain ⟨a0, rfl, rfl, rfl, w0⟩ := open_string Try.underlying9 (hval 0 9 v0 rfl rfl) h0
  obtain ⟨a1, rfl, rfl, rfl, w1⟩ := open_string Try.underlying9 (hval 1 9 v1 rfl rfl) h1
  refine (walk W a0 w0 a1 w1).mono fun e W' ⟨he, bel⟩ => ?_
  subst he
  exact ⟨_, rfl, _, _, _, [], _, [], hW', trodAll_mk1 (shut_bool Try.underlying4 _), (trodAll_cons_mk (Below.trod Bas.laidOut (by kernel_rfl) (of_decide_eq_true (by kernel_rfl)) k0 bel lt0) (trodAll_cons_mk (Below.trod Bas.laidOut (by kernel_rfl) (of_decide_eq_true (by kernel_rfl)) k1 bel lt1) trodAll_mk0)), rfl, bel.frame _, fun h => by cases h⟩

theorem over : Rows.punyExtendsRow.holds Try.pinned (OpenSpec.ofChange Rows.punyExtendsSpec) :=
  OpenClaim.holds_of_wide 7 Try.f7 rfl rfl rfl rfl rfl rfl rfl ⟨rfl, rfl, rfl, rfl, rfl⟩ rfl rfl rfl rfl rfl (by kernel_rfl) Try.func7 (by kernel_rfl)
    (of_decide_eq_true (by kernel_rfl)) (by unfold Func.isWrapper; first | (rw [if_pos (by decide +kernel)]; kernel_rfl) | (rw [if_neg (by decide +kernel)]; exact ⟨rfl, rfl⟩))
    (fun os started H enc _ => lifted os started H enc)
end Go.Proofs.Ytemgbmacdpnepaa.punyExtends
namespace Go.Proofs.Ytemgbmacdpnepaa
/-- The statement. -/
theorem punyExtends_proved : Rows.PunyExtendsSaid := punyExtends.over
end Go.Proofs.Ytemgbmacdpnepaa
