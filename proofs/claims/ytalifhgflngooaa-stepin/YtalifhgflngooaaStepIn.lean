/-
  In every order of calls a machine that eats bytes is a Base and a Row, which know nothing of each other; it is done once it goes on no more, and all is told: the statement StepIn is proved, for every input. Conditions: none.
-/
import Derived.Test.YtalifhgflngooaaTwo
import Derived.Test.YtalifhgflngooaaStrs
import Derived.Test.YtalifhgflngooaaRefO
import Derived.Deep.DeepCutAuto
import Derived.Deep.CutBlock
import Derived.Deep.RegionWith
namespace Go.Proofs.Ytalifhgflngooaa.stepIn
open Go.ChangeShapes Go.WideShapes Go.ChangeAt Go.RowKit
open Go.ChangeMaps (open_string shut_string)
open Bas Stp Sca
set_option linter.unusedVariables false

theorem rSame_seg (va vb : Value) (l m : List Int) (w : World) (h : Seg .u32 w va l) (g : Seg .u32 w vb m) :
    Calls Try.prog 24 #[va, vb] w fun e w' => e = .returned (.bool (cmpL l m == 0)) ∧ ∃ n, w' = w.drewN n := by
  obtain ⟨a, c, rfl, hr, hm, -, -, -⟩ := h.form
  obtain ⟨a2, c2, rfl, hr2, hm2, -, -, -⟩ := g.form
  exact rSame_any _ _ _ _ _ _ _ _ _ hr hr2 rfl rfl hm hm2

set_option maxRecDepth 100000 in
set_option maxHeartbeats 4000000 in
theorem walk (w : World) (a0 : Option Addr) (n0 c0 : Nat) (D0 : Nat → OpD) (I0 : Script w a0 n0 c0 D0) :
    Calls Try.prog 6 #[.slice a0 n0 c0] w fun e w' => e = .returned (.bool true) ∧ Below w.heap.size w w' := by
  go_enter Try.func6, Try.ntmps6
  go_wp2_with fail
  refine (awake_any _).mono ?_
  rintro e w1 ⟨rfl, b1⟩
  have J0 := I0.mono b1
  clear I0
  go_wp2_with fail
  refine (great_any _ _ _ _ _ J0).mono ?_
  rintro e w2 ⟨hgr, b2⟩
  have B2 := below_two b1 b2
  have K0 := J0.mono b2
  clear J0 b1 b2
  rcases hgr with rfl | ⟨rfl, hn, hsm⟩
  · clear K0
    go_wp2_with fail
    refine (awake_any _).mono ?_
    rintro e w3 ⟨rfl, b3⟩
    go_wp2
    go_ret
    exact ⟨rfl, below_two B2 b3⟩
  · have HSM : Hid (∀ i, i < n0 → bigOp (D0 i) = false) := hsm
    obtain ⟨⟨b, off, ha, hc⟩, hm⟩ := K0
    have HN : Hid (0 < n0 → a0 = some ⟨b, off, none⟩) := ha
    have HC : Hid (∀ i, i < n0 → ∃ ai ci, OpAt w2 b (off + i * 4) (D0 i) ai ci) := hc
    clear hsm ha hc hm
    obtain ⟨N, hN⟩ : ∃ N, N = w2.heap.size := ⟨_, rfl⟩
    have HZ : Hid (N = w2.heap.size) := hN
    clear hN
    go_wp2
    rw [← HZ.out]
    go_loopw [17] (fun i wr => ∃ k : Nat, k ≤ n0 ∧ i = .int .i64 k ∧ ∃ p q en l v v2, Two .u32 w2 wr N p q en l v p q en l v2 ∧ 0 ≤ p ∧ p ≤ (k : Int) * 1099511627776 ∧ l.length ≤ k * 300) (fun i _ => n0 - (intOf i).toNat)
    case atStart => exact ⟨0, Nat.zero_le _, rfl, 0, 0, false, [], _, _, Two.start .u32 w2 _ _ _ HZ.out, by omega, by omega, Nat.le_refl _⟩
    case round =>
      obtain ⟨k, hk, rfl, p, q, en, l, v, v2, hT0, hp0, hp1, hl⟩ := hrel
      by_cases hlt : k < n0
      · obtain rfl := HN.out (by omega)
        obtain ⟨ai, ci, hop⟩ := HC.out k hlt
        have hlt' : (k : Int) < (n0 : Int) := by omega
        have crow2 := hop.row
        have hop' := hop.mono (hT0.bel.mono (Nat.le_of_eq HZ.out.symm))
        have hsm := HSM.out k hlt
        clear hop
        generalize D0 k = d at hop' hsm crow2
        obtain ⟨kd, nm, tx, ls⟩ := d
        obtain ⟨c0, c1, c2, c3, crow, cnil, -, -, -, -, wn⟩ := hop'
        have hbig : tx.size ≤ 300 ∧ ls.length ≤ 300 ∧ nm ≤ 1099511627776 := by
          unfold bigOp at hsm
          simp only [Bool.or_eq_false_iff, decide_eq_false_iff_not] at hsm
          omega
        obtain ⟨htx, hls, hnm⟩ := hbig
        clear hsm
        dsimp only at c0 c1 c2 c3 crow wn crow2
        have al : Below wr.heap.size wr (wr.alloc (.cells #[.int .i64 kd, .int .i64 nm, .string tx, .slice ai ls.length ci] 35)) := (Below.refl _ _).alloc (Nat.le_refl _) _
        have hT := hT0.below al
        have hTz : N + 1 + 1 < wr.heap.size := hT0.lt
        have hvT : ∀ g, v.ownBlock = some g → g < wr.heap.size := fun g hg => hT0.r1.seg.lt hg
        have e1 : (wr.alloc (.cells #[.int .i64 kd, .int .i64 nm, .string tx, .slice ai ls.length ci] 35)).cell? ⟨wr.heap.size, 1, none⟩ = some (.int .i64 nm) := by simp
        have e2 : (wr.alloc (.cells #[.int .i64 kd, .int .i64 nm, .string tx, .slice ai ls.length ci] 35)).cell? ⟨wr.heap.size, 2, none⟩ = some (.string tx) := by simp
        have e3 : (wr.alloc (.cells #[.int .i64 kd, .int .i64 nm, .string tx, .slice ai ls.length ci] 35)).cell? ⟨wr.heap.size, 3, none⟩ = some (.slice ai ls.length ci) := by simp
        have hrow := crow.mono al
        have hrowN : ∀ b' o', ai = some ⟨b', o', none⟩ → ls ≠ [] → b' < N := fun b' o' e hne => by
          obtain ⟨bb, oo, hba, hbc⟩ := crow2
          have := hba hne
          rw [e] at this
          simp at this
          have hlt := World.block_lt_of_cell? w2 _ (hbc 0 (List.length_pos_iff.2 hne))
          have := HZ.out
          simp at hlt
          omega
        have hp2 : p ≤ 4611686018427387904 := by omega
        have HLN : Hid (l.length ≤ (k + 1) * 300) := Nat.le_trans hl (Nat.mul_le_mul_right _ (Nat.le_succ k))
        clear hT0 al crow
        go_upto_block 2 with fail
        go_cut [] (fun wc => ∃ l' v' v2', Two .u32 w2 wc N (stP kd nm p q en) (stQ kd nm q en) (stE kd q en) l' v' (stP kd nm p q en) (stQ kd nm q en) (stE kd q en) l' v2' ∧ l'.length ≤ (k + 1) * 300)
        case first =>
          by_cases h1 : kd = 1
          · subst h1
            go_wp2_with fail
            refine (eat_any _ _ _ _ _ _ _ hT.b1 hp0 hp2 hnm).mono ?_
            rintro e w4 ⟨rfl, hb4, k4⟩
            have hT4 := hT.setB1 hb4 k4
            have f1 := k4.cellAt e1 (fun h => by have := h.1; omega)
            clear hb4 k4 e1 e2 e3 hT hrow c0 c1 c2 c3
            go_wp2_with fail
            refine (eat_any _ _ _ _ _ _ _ hT4.b2 hp0 hp2 hnm).mono ?_
            rintro e w5 ⟨rfl, hb5, k5⟩
            have hT5 := hT4.setB2 hb5 k5
            clear hb5 k5 hT4 f1
            go_wp2_with fail
            go_meet
            case rel => exact ⟨l, v, v2, hT5, HLN.out⟩
          · by_cases h2 : kd = 2
            · subst h2
              go_wp2_with fail
              refine (stop_any _ _ _ _ _ _ _ hT.b1).mono ?_
              rintro e w4 ⟨rfl, hb4, k4⟩
              have hT4 := hT.setB1 hb4 k4
              have f1 := k4.cellAt e1 (fun h => by have := h.1; omega)
              clear hb4 k4 e1 e2 e3 hT hrow c0 c1 c2 c3
              go_wp2_with fail
              refine (stop_any _ _ _ _ _ _ _ hT4.b2).mono ?_
              rintro e w5 ⟨rfl, hb5, k5⟩
              have hT5 := hT4.setB2 hb5 k5
              clear hb5 k5 hT4 f1
              go_wp2_with fail
              go_meet
              case rel => exact ⟨l, v, v2, hT5, HLN.out⟩
            · by_cases h3 : kd = 3
              · subst h3
                go_wp2_with fail
                refine (end_any _ _ _ _ _ _ hT.b1).mono ?_
                rintro e w4 ⟨rfl, hb4, k4⟩
                have hT4 := hT.setB1 hb4 k4
                clear hb4 k4 e1 e2 e3 hT hrow c0 c1 c2 c3
                go_wp2_with fail
                refine (end_any _ _ _ _ _ _ hT4.b2).mono ?_
                rintro e w5 ⟨rfl, hb5, k5⟩
                have hT5 := hT4.setB2 hb5 k5
                clear hb5 k5 hT4
                go_wp2_with fail
                go_meet
                case rel => exact ⟨l, v, v2, hT5, HLN.out⟩
              · by_cases h4 : kd = 4
                · subst h4
                  have HT4 := hT
                  go_wp2_with fail
                  refine (hold_any _ _ _ _ _ _ _ _ _ hT.r1 hrow rfl cnil (by omega)).mono ?_
                  rintro e w4 ⟨v4, rfl, hr4, k4, m4⟩
                  have hrow4 : Row .u32 w4 ai ls := by
                    by_cases hne : ls = []
                    · rw [hne]; exact row_nil _ _ _
                    · refine Row.chg hrow k4 (fun b' o' e j h => ?_)
                      have := hrowN b' o' e hne
                      rcases h with h | h
                      · omega
                      · have := HT4.o1 _ h; omega
                  have hT4 := hT.setR1 hr4 k4 m4
                  have f3 := k4.cellAt e3 (fun h => by
                    rcases h with h | h
                    · omega
                    · have := hvT _ h; omega)
                  clear hr4 k4 m4 e1 e2 e3 hT hrow c0 c1 c2 c3 HT4
                  go_wp2_with fail
                  refine (hold_any _ _ _ _ _ _ _ _ _ hT4.r2 hrow4 rfl cnil (by omega)).mono ?_
                  rintro e w5 ⟨v5, rfl, hr5, k5, m5⟩
                  have hT5 := hT4.setR2 hr5 k5 m5
                  clear hr5 k5 m5 hT4 f3
                  go_wp2_with fail
                  go_meet
                  case rel => exact ⟨_, v4, v5, hT5, by rw [List.length_append]; omega⟩
                · by_cases h5 : kd = 5
                  · subst h5
                    go_upto_region 23 with fail
                    have hD := hT.drew
                    have d1 : (wr.alloc (.cells #[.int .i64 5, .int .i64 nm, .string tx, .slice ai ls.length ci] 35)).drew.cell? ⟨wr.heap.size, 1, none⟩ = some (.int .i64 nm) := e1
                    have hlm : l.length ≤ 1000000000 := by omega
                    clear e1 e2 e3 hT hrow c0 c1 c2 c3
                    go_region_with (first
                      | (go_at_call_of 23 (Value.pointer (some ⟨N, 3, none⟩)); refine (tell_any N 3 v l nm _ ?_ wn hlm).mono ?_; exact hD.r1; rintro e w6 ⟨vr6, v6, rfl, hr6, s6, n6, k6, m6⟩; have f1 := k6.cellAt d1 (fun h => by omega); have hT6 := hD.setR1 hr6 (k6.mono (fun k j _ h => .inl h)) (fun g hg => .inl (m6 g hg)); have q6 := s6.form; clear hr6 k6 m6)
                      | (go_at_call 23; refine (tell_any (N + 1 + 1) 0 v2 l nm _ ?_ wn hlm).mono ?_; exact hT6.r2; rintro e w7 ⟨vr7, v7, rfl, hr7, s7, n7, k7, m7⟩; have hT7 := hT6.setR2 hr7 (k7.mono (fun k j _ h => .inl h)) (fun g hg => .inl (m7 g hg)); have s67 := s6.chg k7 (fun g j hg h => by have := n6 g hg; have := h.1; simp at *; omega); clear hr7 k7 m7)
                      | (go_at_call 24; refine (rSame_seg vr6 vr7 (l.take (frontN nm l.length)) (l.take (frontN nm l.length)) _ ?_ ?_).mono ?_; exact s67; exact s7; rintro e w8 ⟨rfl, nd, hw⟩; subst hw; rw [cmpL_self]; have hT8 := hT7.below (below_dn _ nd)))
                    all_goals
                      go_wp2_with fail
                      go_meet
                      case rel => exact ⟨_, v6, v7, hT8, by rw [List.length_drop]; have := HLN.out; omega⟩
                  · have g1 : (kd == 1) = false := by simp [h1]
                    have g2 : (kd == 2) = false := by simp [h2]
                    have g3 : (kd == 3) = false := by simp [h3]
                    have g4 : (kd == 4) = false := by simp [h4]
                    have g5 : (kd == 5) = false := by simp [h5]
                    have HK : Hid (stP kd nm p q en = p ∧ stQ kd nm q en = q ∧ stE kd q en = en) := by
                      refine ⟨?_, ?_, ?_⟩
                      · rw [stP, if_neg h1]
                      · rw [stQ, if_neg h2]
                      · rw [stE, if_neg h3]
                    clear h1 h2 h3 h4 h5 c0 c1 c2 c3
                    go_wp2_with fail
                    go_meet
                    case rel => exact ⟨l, v, v2, by rw [HK.out.1, HK.out.2.1, HK.out.2.2]; exact hT, HLN.out⟩
        case rest =>
          obtain ⟨l', v', v2', hT', hl'⟩ := hcut
          have HST : Hid (0 ≤ stP kd nm p q en ∧ stP kd nm p q en ≤ ((k + 1 : Nat) : Int) * 1099511627776) := by
            show 0 ≤ stP kd nm p q en ∧ stP kd nm p q en ≤ ((k + 1 : Nat) : Int) * 1099511627776
            unfold stP eatI; repeat' split
            all_goals omega
          clear hT e1 e2 e3 hrow c0 c1 c2 c3 hvT hp0 hp1 hp2 hl
          generalize stP kd nm p q en = p' at *
          generalize stQ kd nm q en = q' at *
          generalize stE kd q en = en' at *
          have HL : Hid (((l'.length : Int) == 0) = (l'.length == 0)) := (by show ((l'.length : Int) == 0) = (l'.length == 0); rw [Bool.eq_iff_iff]; simp)
          have HLM : Hid (l'.length ≤ (k + 1) * 300) := hl'
          clear hl'
          go_wp2_with fail
          refine (at_any _ _ _ _ _ _ hT'.b1).mono ?_
          rintro e wx ⟨rfl, hw⟩
          subst hw
          go_wp2_with fail
          refine (at_any _ _ _ _ _ _ hT'.b2).mono ?_
          rintro e wx ⟨rfl, hw⟩
          subst hw
          go_wp2_with fail
          refine (fail_any _ _ _ _ _ _ hT'.b1).mono ?_
          rintro e w6 ⟨rfl, b6⟩
          have hT6 := hT'.below b6
          clear hT' b6
          go_wp2_with fail
          refine (fail_any _ _ _ _ _ _ hT6.b2).mono ?_
          rintro e w7 ⟨rfl, b7⟩
          have hT7 := hT6.below b7
          clear hT6 b7
          go_wp2_with fail
          refine (going_any _ _ _ _ _ _ hT7.b1).mono ?_
          rintro e wx ⟨rfl, hw⟩
          subst hw
          go_wp2_with fail
          refine (going_any _ _ _ _ _ _ hT7.b2).mono ?_
          rintro e wx ⟨rfl, hw⟩
          subst hw
          go_wp2_with fail
          refine (held_any _ _ _ _ _ hT7.r1).mono ?_
          rintro e wx ⟨rfl, hw⟩
          subst hw
          go_wp2_with fail
          refine (held_any _ _ _ _ _ hT7.r2).mono ?_
          rintro e wx ⟨rfl, hw⟩
          subst hw
          by_cases hg : goB q' en' = true
          · have HD : Hid ((!goB q' en' && (l'.length == 0)) = false) := (by show (!goB q' en' && (l'.length == 0)) = false; rw [hg]; rfl)
            go_wp2_with fail
            refine (inDone_any _ _ _ _ _ _ _ _ hT7.b1 hT7.r1).mono ?_
            rintro e wx ⟨rfl, hw⟩
            subst hw
            rw [HD.out]
            go_wp2_with fail
            refine (going_any _ _ _ _ _ _ hT7.b2).mono ?_
            rintro e wx ⟨rfl, hw⟩
            subst hw
            go_wp2
            exact ⟨⟨k + 1, by omega, by go_num, p', q', en', l', v', v2', hT7, HST.out.1, HST.out.2, HLM.out⟩, by simp [intOf]; omega⟩
          · have hg' : goB q' en' = false := by simpa using hg
            have HD : Hid ((!goB q' en' && (l'.length == 0)) = ((l'.length : Int) == 0)) := (by show (!goB q' en' && (l'.length == 0)) = ((l'.length : Int) == 0); rw [hg', HL.out]; rfl)
            clear hg
            go_wp2_with fail
            refine (inDone_any _ _ _ _ _ _ _ _ hT7.b1 hT7.r1).mono ?_
            rintro e wx ⟨rfl, hw⟩
            subst hw
            rw [HD.out]
            generalize hln : (l'.length : Int) = ln at *
            have HLN2 : Hid ((l'.length : Int) = ln) := hln
            clear hln
            go_wp2_with fail
            refine (going_any _ _ _ _ _ _ hT7.b2).mono ?_
            rintro e wx ⟨rfl, hw⟩
            subst hw
            go_wp2_with fail
            refine (held_any _ _ _ _ _ hT7.r2).mono ?_
            rintro e wx ⟨rfl, hw⟩
            subst hw
            rw [HLN2.out]
            go_wp2
            exact ⟨⟨k + 1, by omega, by go_num, p', q', en', l', v', v2', hT7, HST.out.1, HST.out.2, HLM.out⟩, by simp [intOf]; omega⟩
      · have hlt' : (n0 : Int) ≤ (k : Int) := by omega
        go_wp2
        go_ret
        exact ⟨rfl, below_two B2 (hT0.bel.mono (Nat.le_of_eq HZ.out.symm))⟩

set_option maxRecDepth 100000 in
theorem lifted (os : Os) (started : os.Started) (H : Type) (enc : TypeId × Value → H) :
    ReturnsInHanded {} Try.checked os 6 .any (Rows.stepInSpec.pre6 enc Try.prog Try.f6 Rows.stepInRow.domain false) (Rows.stepInSpec.post enc Try.prog Try.f6 false true false false) := by
  refine returnsInHanded_of_change (C := Try.checked) Bas.own started (by kernel_rfl) Try.func6
    (ChangeSpec.witness6 (enc := enc) (C := Try.checked) false ⟨#[], #[.slice none 0 0], []⟩ 8 (by kernel_rfl) (by kernel_rfl) (by kernel_rfl) (by kernel_rfl)) ?_
  intro W base args ds gs before hval0 hW hcnd _
  have hval : ∀ (j : Nat) t v, Try.f6.params[j]? = some t → args[j]? = some v → Value.okWide Try.prog W .any base t v := hval0
  have hW' := hW
  obtain ⟨p, q, hA0, hV, rfl, hfz, hnd⟩ := hW
  have hA : DataW.TrodAll enc Try.prog W 0 (fun _ => true) true Try.f6.params.toList args.toList ds p := hA0
  rw [Try.params6] at hA hval
  obtain ⟨v0, vs0, d0, ds0, p0, q0, hargs, rfl, rfl, h0, r0⟩ := trodAll_cons hA
  obtain ⟨rfl, rfl, rfl⟩ := trodAll_nil r0
  obtain rfl : args = #[v0] := by cases args; simp_all
  obtain ⟨rfl, rfl⟩ := trodVars_none hV
  have k0 := h0
  have lt0 : ∀ x ∈ p0, x.block < W.heap.size := by obtain ⟨m, hm⟩ := k0; exact DataW.trod_lt m _ _ _ hm
  obtain ⟨a0, n0, c0, rfl⟩ := okWide_slice Try.underlying22 (hval 0 22 v0 rfl rfl)
  obtain ⟨D0, I0⟩ : ∃ D, Stp.Script W a0 n0 c0 D := by
    obtain ⟨fuel, hf⟩ := h0
    exact Stp.script_of (by simpa [Value.cells] using hf)
  refine (walk W a0 n0 c0 D0 I0).mono fun e W' ⟨he, bel⟩ => ?_
  subst he
  exact ⟨_, rfl, _, _, _, [], _, [], hW', trodAll_mk1 (shut_bool Try.underlying4 _), (trodAll_cons_mk (Below.trod Bas.laidOut (by kernel_rfl) (of_decide_eq_true (by kernel_rfl)) k0 bel lt0) trodAll_mk0), rfl, bel.frame _, fun h => by cases h⟩

theorem over : Rows.stepInRow.holds Try.pinned (OpenSpec.ofChange Rows.stepInSpec) :=
  OpenClaim.holds_of_wide 6 Try.f6 rfl rfl rfl rfl rfl rfl rfl ⟨rfl, rfl, rfl, rfl, rfl⟩ rfl rfl rfl rfl rfl (by kernel_rfl) Try.func6 (by kernel_rfl)
    (of_decide_eq_true (by kernel_rfl)) (by unfold Func.isWrapper; first | (rw [if_pos (by decide +kernel)]; kernel_rfl) | (rw [if_neg (by decide +kernel)]; exact ⟨rfl, rfl⟩))
    (fun os started H enc _ => lifted os started H enc)
end Go.Proofs.Ytalifhgflngooaa.stepIn
namespace Go.Proofs.Ytalifhgflngooaa
/-- The statement. -/
theorem stepIn_proved : Rows.StepInSaid := stepIn.over
end Go.Proofs.Ytalifhgflngooaa
