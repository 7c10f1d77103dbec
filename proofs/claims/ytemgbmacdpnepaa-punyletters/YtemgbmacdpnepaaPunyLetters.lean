/-
  Proved: great and small letters among a text's digits are the same in Punycode: a text denotes what it denotes with small ones. No condition.
-/
import Derived.Test.YtemgbmacdpnepaaPunLaw
import Derived.Test.YtemgbmacdpnepaaPunRf1
namespace Go.Proofs.Ytemgbmacdpnepaa
open Go.ChangeShapes Go.WideShapes Go.ChangeAt Go.RowKit
open Go.ChangeMaps (open_string shut_string)
namespace punyLetters
open Bas Sca Stp Scn Cod Pun
set_option linter.unusedVariables false

theorem small_byte' {t : List Int} (h : ∀ x ∈ t, 0 ≤ x ∧ x < 256) : ∀ x ∈ smallT t, 0 ≤ x ∧ x < 256 := by
  intro x hx
  unfold smallT at hx
  rcases List.mem_append.1 hx with hx | hx
  · exact h x (List.mem_of_mem_take hx)
  · obtain ⟨y, hy, rfl⟩ := List.mem_map.1 hx
    have := h y (List.mem_of_mem_drop hy)
    exact Bia.small_byte this.1 this.2
theorem smallI_lt {c : Int} (h : 0 ≤ c) : Bia.smallI c < 128 ↔ c < 128 := by unfold Bia.smallI; split <;> omega
theorem bah_map (l : List Int) (h : ∀ x ∈ l, 0 ≤ x) : bahL (l.map Bia.smallI) = bahL l := by
  induction l with
  | nil => rfl
  | cons x r ih =>
    have h1 := smallI_lt (h x (by simp))
    have h2 := ih (fun y hy => h y (by simp [hy]))
    rw [List.map_cons, bahL, bahL, h2]
    by_cases hx : x < 128
    · rw [if_pos (h1.2 hx), if_pos hx]
    · rw [if_neg (fun hh => hx (h1.1 hh)), if_neg hx]
theorem bah_two (l m k : List Int) (h : bahL m = bahL k) : bahL (l ++ m) = bahL (l ++ k) := by
  induction l with
  | nil => exact h
  | cons x r ih => rw [List.cons_append, List.cons_append, bahL, bahL, ih]
/-- With small letters a text is read alike. -/
theorem alike (t : List Int) (h : ∀ x ∈ t, 0 ≤ x ∧ x < 256) : bahL (smallT t) = bahL t ∧ rdQ (smallT t) = rdQ t ∧ rdE (smallT t) = rdE t ∧ rdL (smallT t) = rdL t := by
  have hb : bahL (smallT t) = bahL t := by
    unfold smallT
    rw [bah_two _ _ (t.drop (hyp t)) (bah_map _ (fun x hx => (h x (List.mem_of_mem_drop hx)).1)), List.take_append_drop]
  have hl := smallT_len t
  have hd := textD_letters t
  refine ⟨hb, ?_, ?_, ?_⟩
  · unfold rdQ endQ; rw [hb, hl, hd]
  · unfold rdE endE; rw [hb, hl, hd]
  · unfold rdL endL; rw [hb, hl, hd]

set_option maxHeartbeats 8000000 in
set_option maxRecDepth 100000 in
theorem walk (w : World) (s : ByteArray) (hwf : s.size ≤ maxLen) :
    Calls Try.prog 8 #[.string s] w fun e w' => e = .returned (.bool true) ∧ Below w.heap.size w w' := by
  clear hwf
  go_enter Try.func8, Try.ntmps8
  go_wp2_with fail
  refine (awake_any _).mono ?_
  rintro e w1 ⟨rfl, b1⟩
  have HB1 : Hid (Below w.heap.size w w1) := b1
  clear b1
  go_wp2_with fail
  refine (great_any _ none none 0 0 0 0 w1).mono ?_
  rintro e w1' ⟨rfl, rfl⟩
  obtain ⟨g, hg⟩ : ∃ g, (decide ((s.size : Int) > 120) || (decide (0 > 200) || decide (0 > 200))) = g := ⟨_, rfl⟩
  rw [hg]
  cases g with
  | true =>
    clear hg
    go_wp2_with fail
    refine (awake_any _).mono ?_
    rintro e w2 ⟨rfl, b2⟩
    go_wp2
    go_ret
    exact ⟨rfl, below_two HB1.out b2⟩
  | false =>
    have h400 : (s.size : Int) ≤ 120 := by simp at hg; omega
    clear hg
    go_wp2_with fail
    refine (newD_any _ rfl).mono ?_
    rintro e w2 ⟨rfl, D2, z2, B2⟩
    obtain ⟨N, hN⟩ : ∃ N, N = w1'.heap.size := ⟨_, rfl⟩
    have HN : Hid (w.heap.size ≤ N) := by show w.heap.size ≤ N; rw [hN]; exact HB1.out.size
    rw [← hN] at D2 z2 B2 ⊢
    clear hN
    go_wp2_with fail
    refine (newD_any w2 z2.symm).mono ?_
    rintro e w3 ⟨rfl, F3, z3, B3⟩
    have HD3 : Hid (DecV w3 N 0 0 false [] [] (.slice none 0 0) (.slice none 0 0) ∧ DecV w3 (N + 1) 0 0 false [] [] (.slice none 0 0) (.slice none 0 0) ∧ w3.heap.size = N + 1 + 1 ∧ Below w.heap.size w w3) := ⟨D2.below (B3.mono (by omega)), F3, z3, (HB1.out.trans (B2.mono HN.out)).trans (B3.mono (by have := HN.out; omega))⟩
    clear D2 F3 z2 z3 B2 B3 HB1
    go_wp2_with fail
    refine (read_any lenOK N _ _ s none none 0 0 0 0 [] [] w3 HD3.out.1 (ints_none _ _) (ints_none _ _) (fun b' o' h0 => by omega) (fun b' o' h0 => by omega) (by omega) (by omega) (by omega)).mono ?_
    rintro e w4 ⟨vo, rfl, v4, u4, s4, f4, D4, C4⟩
    have F4 := HD3.out.2.1.chg C4 (fun k j h1 h2 => by have := footD_nil h1; have := footD_nil h2; omega)
    obtain ⟨ao, co, hvo, -⟩ := s4.form
    obtain ⟨m, hm⟩ : ∃ m, (rdL (bytesL s)).length = m := ⟨_, rfl⟩
    rw [hm] at hvo
    subst hvo
    have HD4 : Hid (BaseAt w4 N 0 (bahL (bytesL s)) (rdQ (bytesL s)) (rdE (bytesL s)) ∧ DecV w4 (N + 1) 0 0 false [] [] (.slice none 0 0) (.slice none 0 0) ∧ N + 1 + 1 ≤ w4.heap.size ∧ Below w.heap.size w w4 ∧ Seg .u32 w4 (.slice ao m co) (rdL (bytesL s)) ∧ (∀ g, (Value.slice ao m co).ownBlock = some g → N + 1 + 1 ≤ g) ∧ (rdL (bytesL s)).length = m) :=
      ⟨D4.base, F4, by have := C4.size; have := HD3.out.2.2.1; omega, HD3.out.2.2.2.trans (C4.below HD3.out.2.2.2.size (fun k j hk h => by have := footD_nil h; have := HN.out; omega)), s4, fun g hg => by have := f4 g hg; have := HD3.out.2.2.1; omega, hm⟩
    clear s4 f4 D4 C4 F4 hm HD3
    go_wp2_with fail
    refine (rSmallT_any s w4 (by omega)).mono ?_
    rintro e w5 ⟨rfl, b5⟩
    obtain ⟨q, hq⟩ : ∃ q, Stp.strOf (smallT (bytesL s)) = q := ⟨_, rfl⟩
    have hbq : bytesL q = smallT (bytesL s) := by rw [← hq]; exact bytesL_strOf _ (small_byte' (bytesL_byte s))
    have hqs : q.size ≤ 120 := by rw [← bytesL_length, hbq, smallT_len, bytesL_length]; omega
    have HAL : Hid (bahL (bytesL q) = bahL (bytesL s) ∧ rdQ (bytesL q) = rdQ (bytesL s) ∧ rdE (bytesL q) = rdE (bytesL s) ∧ rdL (bytesL q) = rdL (bytesL s)) := by rw [hbq]; exact alike _ (bytesL_byte s)
    rw [hq]
    have HD5 : Hid (BaseAt w5 N 0 (bahL (bytesL s)) (rdQ (bytesL s)) (rdE (bytesL s)) ∧ DecV w5 (N + 1) 0 0 false [] [] (.slice none 0 0) (.slice none 0 0) ∧ N + 1 + 1 ≤ w5.heap.size ∧ Below w.heap.size w w5 ∧ Seg .u32 w5 (.slice ao m co) (rdL (bytesL s)) ∧ (∀ g, (Value.slice ao m co).ownBlock = some g → N + 1 + 1 ≤ g) ∧ (rdL (bytesL s)).length = m) :=
      ⟨HD4.out.1.below b5, HD4.out.2.1.below b5, by have := b5.size; have := HD4.out.2.2.1; omega, below_two HD4.out.2.2.2.1 b5, HD4.out.2.2.2.2.1.chg (chg_of_below b5 (Nat.le_refl _) (fun _ _ => False)) (fun _ _ _ h => h), HD4.out.2.2.2.2.2⟩
    clear hq hbq b5 HD4
    go_wp2_with fail
    refine (read_any lenOK (N + 1) _ _ q none none 0 0 0 0 [] [] w5 HD5.out.2.1 (ints_none _ _) (ints_none _ _) (fun b' o' h0 => by omega) (fun b' o' h0 => by omega) (by omega) (by omega) (by omega)).mono ?_
    rintro e w6 ⟨vo6, rfl, v6, u6, s6, f6, D6, C6⟩
    rw [HAL.out.2.2.2] at s6
    rw [HAL.out.1, HAL.out.2.1, HAL.out.2.2.1] at D6
    obtain ⟨ao6, co6, hvo6, -⟩ := s6.form
    rw [HD5.out.2.2.2.2.2.2] at hvo6
    subst hvo6
    have HD6 : Hid (BaseAt w6 N 0 (bahL (bytesL s)) (rdQ (bytesL s)) (rdE (bytesL s)) ∧ BaseAt w6 (N + 1) 0 (bahL (bytesL s)) (rdQ (bytesL s)) (rdE (bytesL s)) ∧ Below w.heap.size w w6 ∧ Seg .u32 w6 (.slice ao m co) (rdL (bytesL s)) ∧ Seg .u32 w6 (.slice ao6 m co6) (rdL (bytesL s)) ∧ (rdL (bytesL s)).length = m) :=
      ⟨HD5.out.1.chg C6 (fun k j h1 h2 => by have := h1.1; have := footD_nil h2; omega), D6.base, HD5.out.2.2.2.1.trans (C6.below HD5.out.2.2.2.1.size (fun k j hk h => by have := footD_nil h; have := HN.out; omega)), HD5.out.2.2.2.2.1.chg C6 (fun g o hg h2 => by have := HD5.out.2.2.2.2.2.1 g hg; have := footD_nil h2; omega), s6, HD5.out.2.2.2.2.2.2⟩
    have hmx : m ≤ maxLen := by have := (seg_row HD6.out.2.2.2.1).2.2; rw [HD6.out.2.2.2.2.2] at this; exact this
    clear s6 f6 D6 C6 HD5 HAL
    obtain ⟨p, hp⟩ : ∃ p : Nat, bahL (bytesL s) = p := ⟨_, rfl⟩
    obtain ⟨Q, hQ⟩ : ∃ Q, rdQ (bytesL s) = Q := ⟨_, rfl⟩
    obtain ⟨R, hR⟩ : ∃ R, rdL (bytesL s) = R := ⟨_, rfl⟩
    obtain ⟨en, hen⟩ : ∃ en, rdE (bytesL s) = en := ⟨_, rfl⟩
    rw [hp, hQ, hR, hen] at HD6
    clear hp hQ hR hen
    obtain ⟨F, hF0⟩ : ∃ F, failAt (p : Int) Q = F := ⟨_, rfl⟩
    have HS : Hid (∀ w', Below w6.heap.size w6 w' → Calls Try.prog 15 #[.slice ao m co, .slice ao6 m co6] w' fun e w'' => e = .returned (.bool true) ∧ ∃ n, w'' = w'.drewN n) := fun w' b' => by
      have := rSame_any ao ao6 m m co co6 R R w' ((seg_row HD6.out.2.2.2.1).1.mono b') ((seg_row HD6.out.2.2.2.2.1).1.mono b') HD6.out.2.2.2.2.2 HD6.out.2.2.2.2.2 hmx hmx
      rw [cmpL_self] at this
      exact this
    have HF1 : Hid (∀ w', Below w6.heap.size w6 w' → Calls Try.prog 16 #[.pointer (some ⟨N, 0, none⟩)] w' fun e w'' => e = .returned (.agg #[.int .i64 Q, .int .i64 F]) ∧ Below w'.heap.size w' w'') := fun w' b' => by
      have := fail_any N 0 p Q en w' (HD6.out.1.below b')
      rw [hF0] at this
      exact this
    have HF2 : Hid (∀ w', Below w6.heap.size w6 w' → Calls Try.prog 16 #[.pointer (some ⟨N + 1, 0, none⟩)] w' fun e w'' => e = .returned (.agg #[.int .i64 Q, .int .i64 F]) ∧ Below w'.heap.size w' w'') := fun w' b' => by
      have := fail_any (N + 1) 0 p Q en w' (HD6.out.2.1.below b')
      rw [hF0] at this
      exact this
    obtain ⟨M, hM⟩ : ∃ M, N + 1 = M := ⟨_, rfl⟩
    rw [hM] at HF2 ⊢
    have hNM : N ≠ M := by omega
    clear hM hF0
    have B5 := (Below.refl w6.heap.size w6).drew
    go_wp2
    go_region_held3 (fun _ => True) (exact trivial) (first
      | (go_at_call 15; refine (HS.out _ B5).mono ?_; rintro e w7 ⟨rfl, nd, hw7⟩; (have b7 : Below w6.heap.size w6 w7 := (by rw [hw7]; exact below_drewN B5 nd)); clear B5 hw7; have B5 := b7; clear b7; have hF := trivial)
      | (go_at_call_of 16 (Value.pointer (some ⟨N, 0, none⟩)); refine (HF1.out _ B5).mono ?_; rintro e w8 ⟨rfl, b8⟩; have B5 := below_two B5 b8; have hF := trivial)
      | (go_at_call_of 16 (Value.pointer (some ⟨M, 0, none⟩)); refine (HF2.out _ B5).mono ?_; rintro e w9 ⟨rfl, b9⟩; have B5 := below_two B5 b9; have hF := trivial))
    have HB9 : Hid (Below w.heap.size w w9) := below_two HD6.out.2.2.1 B5
    clear B5
    go_wp2
    go_ret
    exact ⟨rfl, HB9.out⟩
set_option maxRecDepth 100000 in
theorem lifted (os : Os) (started : os.Started) (H : Type) (enc : TypeId × Value → H) :
    ReturnsInHanded {} Try.checked os 8 .any (Rows.punyLettersSpec.pre6 enc Try.prog Try.f8 Rows.punyLettersRow.domain false) (Rows.punyLettersSpec.post enc Try.prog Try.f8 false true false false) := by
  refine returnsInHanded_of_change (C := Try.checked) Bas.own started (by kernel_rfl) Try.func8
    (ChangeSpec.witness6 (enc := enc) (C := Try.checked) false ⟨#[], #[.string ByteArray.empty], []⟩ 8 (by kernel_rfl) (by kernel_rfl) (by kernel_rfl) (by kernel_rfl)) ?_
  intro W base args ds gs before hval0 hW hcnd _
  have hval : ∀ (j : Nat) t v, Try.f8.params[j]? = some t → args[j]? = some v → Value.okWide Try.prog W .any base t v := hval0
  have hW' := hW
  obtain ⟨p, q, hA0, hV, rfl, hfz, hnd⟩ := hW
  have hA : DataW.TrodAll enc Try.prog W 0 (fun _ => true) true Try.f8.params.toList args.toList ds p := hA0
  rw [Try.params8] at hA hval
  obtain ⟨v0, vs0, d0, ds0, p0, q0, hargs, rfl, rfl, h0, r0⟩ := trodAll_cons hA
  obtain ⟨rfl, rfl, rfl⟩ := trodAll_nil r0
  obtain rfl : args = #[v0] := by cases args; simp_all
  obtain ⟨rfl, rfl⟩ := trodVars_none hV
  have k0 := h0
  have lt0 : ∀ x ∈ p0, x.block < W.heap.size := by obtain ⟨m, hm⟩ := k0; exact DataW.trod_lt m _ _ _ hm
  obtain ⟨a0, rfl, rfl, rfl, w0⟩ := open_string Try.underlying9 (hval 0 9 v0 rfl rfl) h0
  refine (walk W a0 w0).mono fun e W' ⟨he, bel⟩ => ?_
  subst he
  exact ⟨_, rfl, _, _, _, [], _, [], hW', trodAll_mk1 (shut_bool Try.underlying4 _), (trodAll_cons_mk (Below.trod Bas.laidOut (by kernel_rfl) (of_decide_eq_true (by kernel_rfl)) k0 bel lt0) trodAll_mk0), rfl, bel.frame _, fun h => by cases h⟩

theorem over : Rows.punyLettersRow.holds Try.pinned (OpenSpec.ofChange Rows.punyLettersSpec) :=
  OpenClaim.holds_of_wide 8 Try.f8 rfl rfl rfl rfl rfl rfl rfl ⟨rfl, rfl, rfl, rfl, rfl⟩ rfl rfl rfl rfl rfl (by kernel_rfl) Try.func8 (by kernel_rfl)
    (of_decide_eq_true (by kernel_rfl)) (by unfold Func.isWrapper; first | (rw [if_pos (by decide +kernel)]; kernel_rfl) | (rw [if_neg (by decide +kernel)]; exact ⟨rfl, rfl⟩))
    (fun os started H enc _ => lifted os started H enc)
end Go.Proofs.Ytemgbmacdpnepaa.punyLetters
namespace Go.Proofs.Ytemgbmacdpnepaa
/-- The statement. -/
theorem punyLetters_proved : Rows.PunyLettersSaid := punyLetters.over
end Go.Proofs.Ytemgbmacdpnepaa
