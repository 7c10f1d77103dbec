/-
  Whose signature is sniffed it is the longest of all with which the text begins; what stands behind it plays no part, but where it makes a longer one: the statement SignLongest is proved, for every input. No condition.
-/
import Derived.Test.YtmihceoeoggjjaaSgAwk
namespace Go.Proofs.Ytmihceoeoggjjaa
open Go.ChangeShapes Go.WideShapes Go.ChangeAt Go.RowKit
open Go.ChangeMaps (open_string shut_string)
namespace signLongest
open Bas Txt Sig
set_option linter.unusedVariables false

set_option maxHeartbeats 4000000 in
set_option maxRecDepth 100000 in
theorem walk (w : World) (s : ByteArray) (hs0 : s.size ≤ maxLen) (t : ByteArray) (ht0 : t.size ≤ maxLen) :
    Calls Try.prog 6 #[.string s, .string t] w fun e w' => e = .returned (.bool true) ∧ Below w.heap.size w w' := by
  clear hs0 ht0
  go_enter Try.func6, Try.ntmps6
  go_wp2_with fail
  refine (awake_any w).mono ?_
  rintro e w1 ⟨rfl, b1⟩
  have H1 : Hid (Below w.heap.size w w1) := b1
  clear b1
  by_cases h100 : s.size > 100
  · have i1 : (s.size : Int) > 100 := by omega
    go_wp2_with fail
    refine (awake_any w1).mono ?_
    rintro e w2 ⟨rfl, b2⟩
    go_wp2
    go_ret
    exact ⟨rfl, below_two H1.out b2⟩
  · have i1 : ¬ (s.size : Int) > 100 := by omega
    by_cases g100 : t.size > 100
    · have i2 : (t.size : Int) > 100 := by omega
      go_wp2_with fail
      refine (awake_any w1).mono ?_
      rintro e w2 ⟨rfl, b2⟩
      go_wp2
      go_ret
      exact ⟨rfl, below_two H1.out b2⟩
    · have i2 : ¬ (t.size : Int) > 100 := by omega
      have HL : Hid (∀ c, preB (bytesL s) c = true → (sigL c).length ≤ (sigL (sniffL (bytesL s))).length) := fun c hc => sniff_longest hc
      have hmore := sniff_more (bytesL s) (bytesL t)
      have hp1 := sniff_pos (bytesL s)
      have hp2 := sniff_pos (bytesL s ++ bytesL t)
      have HP1 : Hid (∀ w, Calls Try.prog 11 #[.string s] w fun e w' => e = .returned (sniffV (bytesL s)) ∧ Below w.heap.size w w') := sniff_any s
      have HP2 : Hid (∀ w, Calls Try.prog 11 #[.string (s ++ t)] w fun e w' => e = .returned (sniffV (bytesL s ++ bytesL t)) ∧ Below w.heap.size w w') := by rw [← bytesL_append]; exact sniff_any (s ++ t)
      unfold sniffV at HP1 HP2
      obtain ⟨c, hc⟩ : ∃ c, sniffL (bytesL s) = c := ⟨_, rfl⟩
      obtain ⟨d, hd⟩ : ∃ d, sniffL (bytesL s ++ bytesL t) = d := ⟨_, rfl⟩
      rw [hc] at HP1 hmore hp1 HL
      rw [hd] at HP2 hmore hp2
      obtain ⟨n, hn⟩ : ∃ n, (sigL c).length = n := ⟨_, rfl⟩
      obtain ⟨m, hm⟩ : ∃ m, (sigL d).length = m := ⟨_, rfl⟩
      rw [hn] at HP1 hmore HL
      rw [hm] at HP2 hmore
      have HB : Hid (∀ (x : Int) w', Calls Try.prog 14 #[.string s, .slice (some ⟨w'.heap.size, 0, none⟩) 1 1] (w'.alloc (.cells #[.int .i64 x] 3)) fun e w2 => e = .returned (.bool (preB (bytesL s) x)) ∧ Below w'.heap.size w' w2) := fun x w' => by
        refine (begins_any s _ 1 1 [x] _ (row_new .i64 w' [x] 3 _ rfl) rfl (by decide)).mono ?_
        rintro e w2 ⟨rfl, hb⟩
        exact ⟨by simp, below_two ((Below.refl _ _).alloc (Nat.le_refl _) _) hb⟩
      have HO : Hid (∀ c w, Calls Try.prog 9 #[.int .i64 c] w fun e w' => e = .returned (.string (sigS c)) ∧ Below w.heap.size w w') := of_any
      have HZ : Hid (((!(decide (0 < c)) || decide (0 < d)) = true) ∧ n ≤ m ∧ (n < m ∨ c = d)) := ⟨by
        rcases hmore.1 with h | h
        · rw [decide_eq_false (by omega)]; rfl
        · rw [decide_eq_true (show 0 < d by omega)]; simp, hmore.2.1, hmore.2.2⟩
      clear hc hd hn hm hmore hp1 hp2
      go_wp2_with fail
      refine (HP1.out w1).mono ?_
      rintro e w2 ⟨rfl, b2⟩
      have H2 : Hid (Below w.heap.size w w2) := below_two H1.out b2
      clear b2 H1
      go_wp2_with fail
      refine (HP2.out w2).mono ?_
      rintro e w3 ⟨rfl, b3⟩
      have H3 : Hid (Below w.heap.size w w3) := below_two H2.out b3
      clear b3 H2
      go_wp2
      go_loopw [39] (fun i wr => ∃ k : Nat, i = .int .i64 k ∧ k ≤ 10 ∧ Below w.heap.size w wr) (fun i _ => 10 - (intOf i).toNat)
      case atStart => exact ⟨0, rfl, by decide, H3.out⟩
      case round =>
        obtain ⟨k, rfl, hk, hb⟩ := hrel
        have HBW : Hid (Below w.heap.size w wr) := hb
        clear hb H3
        by_cases hlt : k < 10
        · have i3 : (k : Int) < 10 := by omega
          obtain ⟨p, hp⟩ : ∃ p, preB (bytesL s) ((k : Int) + 1) = p := ⟨_, rfl⟩
          have HBx : Hid (∀ w', Calls Try.prog 14 #[.string s, .slice (some ⟨w'.heap.size, 0, none⟩) 1 1] (w'.alloc (.cells #[.int .i64 ((k : Int) + 1)] 3)) fun e w2 => e = .returned (.bool p) ∧ Below w'.heap.size w' w2) := fun w' => by have := HB.out ((k : Int) + 1) w'; rwa [hp] at this
          have HQ : Hid (p = true → (sigS ((k : Int) + 1)).size ≤ n) := fun h => by rw [sigS_size]; exact HL.out _ (by rw [hp]; exact h)
          clear hp
          cases p with
          | false =>
            go_wp2_with fail
            refine (HBx.out wr).mono ?_
            rintro e w4 ⟨rfl, b4⟩
            go_wp2
            go_roundw
            case rel => exact ⟨k + 1, by go_num, by omega, below_two HBW.out b4⟩
            case measure => simp [intOf]; omega
          | true =>
            have hq := HQ.out rfl
            have HOx : Hid (∀ w, Calls Try.prog 9 #[.int .i64 ((k : Int) + 1)] w fun e w' => e = .returned (.string (sigS ((k : Int) + 1))) ∧ Below w.heap.size w w') := HO.out _
            obtain ⟨S, hS⟩ : ∃ S, sigS ((k : Int) + 1) = S := ⟨_, rfl⟩
            rw [hS] at HOx hq
            have i4 : ¬ (S.size : Int) > (n : Int) := by omega
            have i5 : (S.size : Int) ≤ (n : Int) := by omega
            clear hS HQ
            go_wp2_with fail
            refine (HBx.out wr).mono ?_
            rintro e w4 ⟨rfl, b4⟩
            have HB4 : Hid (Below w.heap.size w w4) := below_two HBW.out b4
            clear b4 HBW
            go_wp2_with fail
            refine (HOx.out w4).mono ?_
            rintro e w5 ⟨rfl, b5⟩
            go_wp2
            go_roundw
            case rel => exact ⟨k + 1, by go_num, by omega, below_two HB4.out b5⟩
            case measure => simp [intOf]; omega
        · obtain rfl : k = 10 := by omega
          obtain ⟨z1, z2, z3⟩ := HZ.out
          obtain ⟨p, hp⟩ : ∃ p, decide (0 < c) = p := ⟨_, rfl⟩
          obtain ⟨q, hq⟩ : ∃ q, decide (0 < d) = q := ⟨_, rfl⟩
          rw [hp, hq] at z1 ⊢
          have i4 : (m : Int) ≥ (n : Int) := by omega
          clear hp hq
          rcases z3 with h | h
          · have i5 : (m : Int) > (n : Int) := by omega
            cases p <;> cases q <;> first | (cases z1; done) | (go_wp2; go_ret; exact ⟨rfl, HBW.out⟩)
          · subst h
            by_cases hmn : n < m
            · have i5 : (m : Int) > (n : Int) := by omega
              cases p <;> cases q <;> first | (cases z1; done) | (go_wp2; go_ret; exact ⟨rfl, HBW.out⟩)
            · have i5 : ¬ (m : Int) > (n : Int) := by omega
              cases p <;> cases q <;> first | (cases z1; done) | (go_wp2; go_ret; exact ⟨rfl, HBW.out⟩)
set_option maxRecDepth 100000 in
theorem lifted (os : Os) (started : os.Started) (H : Type) (enc : TypeId × Value → H) :
    ReturnsInHanded {} Try.checked os 6 .any (Rows.signLongestSpec.pre6 enc Try.prog Try.f6 Rows.signLongestRow.domain false) (Rows.signLongestSpec.post enc Try.prog Try.f6 false true false false) := by
  refine returnsInHanded_of_change (C := Try.checked) Bas.own started (by kernel_rfl) Try.func6
    (ChangeSpec.witness6 (enc := enc) (C := Try.checked) false ⟨#[], #[.string ByteArray.empty, .string ByteArray.empty], []⟩ 8 (by kernel_rfl) (by kernel_rfl) (by kernel_rfl) (by kernel_rfl)) ?_
  intro W base args ds gs before hval0 hW hcnd _
  have hval : ∀ (j : Nat) t v, Try.f6.params[j]? = some t → args[j]? = some v → Value.okWide Try.prog W .any base t v := hval0
  have hW' := hW
  obtain ⟨p, q, hA0, hV, rfl, hfz, hnd⟩ := hW
  have hA : DataW.TrodAll enc Try.prog W 0 (fun _ => true) true Try.f6.params.toList args.toList ds p := hA0
  rw [Try.params6] at hA hval
  obtain ⟨v0, vs0, d0, ds0, p0, q0, hargs, rfl, rfl, h0, r0⟩ := trodAll_cons hA
  obtain ⟨v1, vs1, d1, ds1, p1, q1, rfl, rfl, rfl, h1, r1⟩ := trodAll_cons r0
  obtain ⟨rfl, rfl, rfl⟩ := trodAll_nil r1
  obtain rfl : args = #[v0, v1] := by cases args; simp_all
  obtain ⟨rfl, rfl⟩ := trodVars_none hV
  have k0 := h0
  have lt0 : ∀ x ∈ p0, x.block < W.heap.size := by obtain ⟨m, hm⟩ := k0; exact DataW.trod_lt m _ _ _ hm
  have k1 := h1
  have lt1 : ∀ x ∈ p1, x.block < W.heap.size := by obtain ⟨m, hm⟩ := k1; exact DataW.trod_lt m _ _ _ hm
  obtain ⟨a0, rfl, rfl, rfl, w0⟩ := open_string Try.underlying9 (hval 0 9 v0 rfl rfl) h0
  obtain ⟨a1, rfl, rfl, rfl, w1⟩ := open_string Try.underlying9 (hval 1 9 v1 rfl rfl) h1
  refine (walk W a0 w0 a1 w1).mono fun e W' ⟨he, bel⟩ => ?_
  subst he
  exact ⟨_, rfl, _, _, _, [], _, [], hW', trodAll_mk1 (shut_bool Try.underlying4 _), (trodAll_cons_mk (Below.trod Bas.laidOut (by kernel_rfl) (of_decide_eq_true (by kernel_rfl)) k0 bel lt0) (trodAll_cons_mk (Below.trod Bas.laidOut (by kernel_rfl) (of_decide_eq_true (by kernel_rfl)) k1 bel lt1) trodAll_mk0)), rfl, bel.frame _, fun h => by cases h⟩

theorem over : Rows.signLongestRow.holds Try.pinned (OpenSpec.ofChange Rows.signLongestSpec) :=
  OpenClaim.holds_of_wide 6 Try.f6 rfl rfl rfl rfl rfl rfl rfl ⟨rfl, rfl, rfl, rfl, rfl⟩ rfl rfl rfl rfl rfl (by kernel_rfl) Try.func6 (by kernel_rfl)
    (of_decide_eq_true (by kernel_rfl)) (by unfold Func.isWrapper; first | (rw [if_pos (by decide +kernel)]; kernel_rfl) | (rw [if_neg (by decide +kernel)]; exact ⟨rfl, rfl⟩))
    (fun os started H enc _ => lifted os started H enc)
end Go.Proofs.Ytmihceoeoggjjaa.signLongest
namespace Go.Proofs.Ytmihceoeoggjjaa
/-- The statement. -/
theorem signLongest_proved : Rows.SignLongestSaid := signLongest.over
end Go.Proofs.Ytmihceoeoggjjaa
