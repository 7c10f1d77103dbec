/-
  With a codec's signature ahead any text is sniffed as that codec's, but one of Utf16LE that goes on with 00 00: the statement SignMarks is proved, for every input. No condition.
-/
import Derived.Test.YtmihceoeoggjjaaSgAwk
namespace Go.Proofs.Ytmihceoeoggjjaa
open Go.ChangeShapes Go.WideShapes Go.ChangeAt Go.RowKit
open Go.ChangeMaps (open_string shut_string)
namespace signMarks
open Bas Txt Sig
set_option linter.unusedVariables false

theorem two_noughts (s : ByteArray) : (((s.extract 0 2).toList == [0, 0]) = true) ↔ (bytesL s).take 2 = [0, 0] := by
  have e0 : ByteArray.toList { data := #[0, 0] } = [0, 0] := by rw [ByteArray.toList_eq]
  rw [← e0, str_beq, decide_eq_true_eq]
  constructor
  · intro e
    have := congrArg bytesL e
    rwa [ext_low] at this
  · intro e
    apply bytesL_inj
    rw [ext_low, e]; rfl
set_option maxHeartbeats 4000000 in
set_option maxRecDepth 100000 in
theorem walk (w : World) (c : Int) (hc : (Lit.int .i64 c).wf = true) (s : ByteArray) (hs0 : s.size ≤ maxLen) :
    Calls Try.prog 7 #[.int .i64 c, .string s] w fun e w' => e = .returned (.bool true) ∧ Below w.heap.size w w' := by
  clear hc hs0
  by_cases h0 : hasS c
  · have hne : (sigS c).toList.isEmpty = false := by rcases h0 with rfl | rfl | rfl | rfl | rfl | rfl | rfl | rfl <;> decide +kernel
    have hmk := sniff_mark h0 (bytesL s)
    have hlen : (sigS c).size = (sigL c).length := sigS_size c
    have HO : Hid (∀ w, Calls Try.prog 9 #[.int .i64 c] w fun e w' => e = .returned (.string (sigS c)) ∧ Below w.heap.size w w') := of_any c
    have HP : Hid (∀ w, Calls Try.prog 11 #[.string (sigS c ++ s)] w fun e w' => e = .returned (sniffV (sigL c ++ bytesL s)) ∧ Below w.heap.size w w') := by rw [← sigS_bytes c, ← bytesL_append]; exact sniff_any _
    unfold sniffV at HP
    rw [hmk] at HP
    have hle := sigS_le c
    have hpos : 0 < c := by unfold hasS at h0; omega
    obtain ⟨S, hS⟩ : ∃ S, sigS c = S := ⟨_, rfl⟩
    rw [hS] at HO HP hne hlen hle
    have HL : Hid (S.size = (sigL c).length) := hlen
    clear hS hmk h0 hlen
    go_enter Try.func7, Try.ntmps7
    go_wp2_with fail
    refine (HO.out w).mono ?_
    rintro e w1 ⟨rfl, b1⟩
    have H1 : Hid (Below w.heap.size w w1) := b1
    clear b1
    go_wp2_with fail
    refine (awake_any w1).mono ?_
    rintro e w2 ⟨rfl, b2⟩
    have H2 : Hid (Below w.heap.size w w2) := below_two H1.out b2
    clear b2 H1
    by_cases h100 : s.size > 100
    · have i1 : (s.size : Int) > 100 := by omega
      go_wp2_with fail
      refine (awake_any w2).mono ?_
      rintro e w3 ⟨rfl, b3⟩
      go_wp2
      go_ret
      exact ⟨rfl, below_two H2.out b3⟩
    · have i1 : ¬ (s.size : Int) > 100 := by omega
      by_cases h3 : c = 3
      · subst h3
        by_cases h2 : s.size ≥ 2
        · have i2 : (s.size : Int) ≥ 2 := by omega
          by_cases hz : (bytesL s).take 2 = [0, 0]
          · have hq := (two_noughts s).2 hz
            rw [if_pos ⟨rfl, hz⟩] at HP
            have HP5 : Hid (∀ w, Calls Try.prog 11 #[.string (S ++ s)] w fun e w' => e = .returned (.tuple #[.int .i64 5, .int .i64 4, .bool true]) ∧ Below w.heap.size w w') := HP.out
            clear HP hz
            go_wp2_with fail
            refine (HP5.out w2).mono ?_
            rintro e w3 ⟨rfl, b3⟩
            go_wp2
            go_ret
            exact ⟨rfl, below_two H2.out b3⟩
          · have hq : ((s.extract 0 2).toList == [0, 0]) = false := by
              cases e : ((s.extract 0 2).toList == [0, 0]) with
              | false => rfl
              | true => exact absurd ((two_noughts s).1 e) hz
            rw [if_neg (fun h => hz h.2)] at HP
            have HP3 : Hid (∀ w, Calls Try.prog 11 #[.string (S ++ s)] w fun e w' => e = .returned (.tuple #[.int .i64 3, .int .i64 2, .bool true]) ∧ Below w.heap.size w w') := HP.out
            have i3 : (S.size : Int) = 2 := by rw [HL.out]; rfl
            clear HP hz
            go_wp2_with fail
            refine (HP3.out w2).mono ?_
            rintro e w3 ⟨rfl, b3⟩
            go_wp2
            go_ret
            exact ⟨rfl, below_two H2.out b3⟩
        · have i2 : ¬ (s.size : Int) ≥ 2 := by omega
          have hz : ¬ (bytesL s).take 2 = [0, 0] := fun e => by
            have := congrArg List.length e
            rw [List.length_take, bytesL_length] at this
            simp at this; omega
          rw [if_neg (fun h => hz h.2)] at HP
          have HP3 : Hid (∀ w, Calls Try.prog 11 #[.string (S ++ s)] w fun e w' => e = .returned (.tuple #[.int .i64 3, .int .i64 2, .bool true]) ∧ Below w.heap.size w w') := HP.out
          have i3 : (S.size : Int) = 2 := by rw [HL.out]; rfl
          clear HP hz
          go_wp2_with fail
          refine (HP3.out w2).mono ?_
          rintro e w3 ⟨rfl, b3⟩
          go_wp2
          go_ret
          exact ⟨rfl, below_two H2.out b3⟩
      · rw [if_neg (fun h => h3 h.1), decide_eq_true hpos] at HP
        have i3 : (((sigL c).length : Nat) : Int) = (S.size : Int) := by rw [HL.out]
        obtain ⟨n, hn⟩ : ∃ n, (sigL c).length = n := ⟨_, rfl⟩
        rw [hn] at HP i3
        clear hn
        go_wp2_with fail
        refine (HP.out w2).mono ?_
        rintro e w3 ⟨rfl, b3⟩
        go_wp2
        go_ret
        exact ⟨ret_bool (by simp), below_two H2.out b3⟩
  · have HE : Hid (sigS c = { data := #[] }) := by show _ = _; unfold sigS; rw [sig_nil h0]; rfl
    have HO : Hid (∀ w, Calls Try.prog 9 #[.int .i64 c] w fun e w' => e = .returned (.string { data := #[] }) ∧ Below w.heap.size w w') := by rw [← HE.out]; exact of_any c
    clear h0 HE
    go_enter Try.func7, Try.ntmps7
    go_wp2_with fail
    refine (HO.out w).mono ?_
    rintro e w1 ⟨rfl, b1⟩
    have H1 : Hid (Below w.heap.size w w1) := b1
    clear b1
    go_wp2_with fail
    refine (awake_any w1).mono ?_
    rintro e w2 ⟨rfl, b2⟩
    have H2 : Hid (Below w.heap.size w w2) := below_two H1.out b2
    clear b2 H1
    go_wp2_with fail
    refine (awake_any w2).mono ?_
    rintro e w3 ⟨rfl, b3⟩
    go_wp2
    go_ret
    exact ⟨rfl, below_two H2.out b3⟩
set_option maxRecDepth 100000 in
theorem lifted (os : Os) (started : os.Started) (H : Type) (enc : TypeId × Value → H) :
    ReturnsInHanded {} Try.checked os 7 .any (Rows.signMarksSpec.pre6 enc Try.prog Try.f7 Rows.signMarksRow.domain false) (Rows.signMarksSpec.post enc Try.prog Try.f7 false true false false) := by
  refine returnsInHanded_of_change (C := Try.checked) Bas.own started (by kernel_rfl) Try.func7
    (ChangeSpec.witness6 (enc := enc) (C := Try.checked) false ⟨#[], #[.int .i64 0, .string ByteArray.empty], []⟩ 8 (by kernel_rfl) (by kernel_rfl) (by kernel_rfl) (by kernel_rfl)) ?_
  intro W base args ds gs before hval0 hW hcnd _
  have hval : ∀ (j : Nat) t v, Try.f7.params[j]? = some t → args[j]? = some v → Value.okWide Try.prog W .any base t v := hval0
  have hW' := hW
  obtain ⟨p, q, hA0, hV, rfl, hfz, hnd⟩ := hW
  have hA : DataW.TrodAll enc Try.prog W 0 (fun _ => true) true Try.f7.params.toList args.toList ds p := hA0
  rw [Try.params7] at hA hval
  obtain ⟨v0, vs0, d0, ds0, p0, q0, hargs, rfl, rfl, h0, r0⟩ := trodAll_cons hA
  obtain ⟨v1, vs1, d1, ds1, p1, q1, rfl, rfl, rfl, h1, r1⟩ := trodAll_cons r0
  obtain ⟨rfl, rfl, rfl⟩ := trodAll_nil r1
  obtain rfl : args = #[v0, v1] := by cases args; simp_all
  obtain ⟨rfl, rfl⟩ := trodVars_none hV
  have k0 := h0
  have lt0 : ∀ x ∈ p0, x.block < W.heap.size := by obtain ⟨m, hm⟩ := k0; exact DataW.trod_lt m _ _ _ hm
  have k1 := h1
  have lt1 : ∀ x ∈ p1, x.block < W.heap.size := by obtain ⟨m, hm⟩ := k1; exact DataW.trod_lt m _ _ _ hm
  obtain ⟨a0, rfl, rfl, rfl, w0⟩ := open_int Try.underlying3 (hval 0 3 v0 rfl rfl) h0
  obtain ⟨a1, rfl, rfl, rfl, w1⟩ := open_string Try.underlying9 (hval 1 9 v1 rfl rfl) h1
  refine (walk W a0 w0 a1 w1).mono fun e W' ⟨he, bel⟩ => ?_
  subst he
  exact ⟨_, rfl, _, _, _, [], _, [], hW', trodAll_mk1 (shut_bool Try.underlying4 _), (trodAll_cons_mk (Below.trod Bas.laidOut (by kernel_rfl) (of_decide_eq_true (by kernel_rfl)) k0 bel lt0) (trodAll_cons_mk (Below.trod Bas.laidOut (by kernel_rfl) (of_decide_eq_true (by kernel_rfl)) k1 bel lt1) trodAll_mk0)), rfl, bel.frame _, fun h => by cases h⟩

theorem over : Rows.signMarksRow.holds Try.pinned (OpenSpec.ofChange Rows.signMarksSpec) :=
  OpenClaim.holds_of_wide 7 Try.f7 rfl rfl rfl rfl rfl rfl rfl ⟨rfl, rfl, rfl, rfl, rfl⟩ rfl rfl rfl rfl rfl (by kernel_rfl) Try.func7 (by kernel_rfl)
    (of_decide_eq_true (by kernel_rfl)) (by unfold Func.isWrapper; first | (rw [if_pos (by decide +kernel)]; kernel_rfl) | (rw [if_neg (by decide +kernel)]; exact ⟨rfl, rfl⟩))
    (fun os started H enc _ => lifted os started H enc)
end Go.Proofs.Ytmihceoeoggjjaa.signMarks
namespace Go.Proofs.Ytmihceoeoggjjaa
/-- The statement. -/
theorem signMarks_proved : Rows.SignMarksSaid := signMarks.over
end Go.Proofs.Ytmihceoeoggjjaa
