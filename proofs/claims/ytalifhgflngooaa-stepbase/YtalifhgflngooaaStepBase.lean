/-
  In every order of calls a Base stands where the document says, goes on as it says, and has failed as it says: the statement StepBase is proved, for every input. Conditions: none.
-/
import Derived.Test.YtalifhgflngooaaAwk2
import Derived.Deep.DeepCutAuto
import Derived.Deep.CutBlock
import Derived.Deep.RegionWith
namespace Go.Proofs.Ytalifhgflngooaa.stepBase
open Go.ChangeShapes Go.WideShapes Go.ChangeAt Go.RowKit
open Go.ChangeMaps (open_string shut_string)
open Bas Stp
set_option linter.unusedVariables false

theorem rbase_new (w : World) (t : TypeId) {b : Nat} (hb : b = w.heap.size) : RBaseAt (w.alloc (.cells #[.int .i64 0, .int .i64 0, .int .i64 0, .bool false] t)) b 0 0 0 false := by
  subst hb
  exact ⟨by simp, by simp, by simp, by simp, fun j => by simp⟩

/-- What a call makes of a Base. -/
def stP (kd nm p q : Int) (en : Bool) : Int := if kd = 1 then eatI p q en nm else p
def stQ (kd nm q : Int) (en : Bool) : Int := if kd = 2 then stopI q en nm else q
def stE (kd q : Int) (en : Bool) : Bool := if kd = 3 then endB q en else en

/-- Is it a call of a Base? -/
def inR (kd : Int) : Bool := decide (1 ≤ kd) && decide (kd ≤ 3)
theorem inR_true {kd : Int} (h : 1 ≤ kd ∧ kd ≤ 3) : inR kd = true := by unfold inR; simp; omega
theorem inR_false {kd : Int} (h : ¬ (1 ≤ kd ∧ kd ≤ 3)) : inR kd = false := by unfold inR; simp; omega
theorem failAt_eat (p q nm : Int) (en : Bool) : failAt (eatI p q en nm) q = failAt p q := by
  unfold failAt eatI
  by_cases hq : q = 0
  · simp [hq]
  · have : goB q en = false := by simp [goB, hq]
    simp [this]
theorem failAt_stop (p q nm : Int) (en : Bool) : failAt p (stopI q en nm) = stopAt p q (failAt p q) en nm := by
  unfold failAt stopI stopAt
  by_cases hg : goB q en = true
  · have hq := (goB_true hg).1
    subst hq
    by_cases hn : nm = 0
    · simp [hg, hn]
    · simp [hg, hn]
  · simp [hg]

set_option maxHeartbeats 4000000 in
theorem walk (w : World) (a0 : Option Addr) (n0 c0 : Nat) (D0 : Nat → OpD) (I0 : Script w a0 n0 c0 D0) :
    Calls Try.prog 3 #[.slice a0 n0 c0] w fun e w' => e = .returned (.bool true) ∧ Below w.heap.size w w' := by
  go_enter Try.func3, Try.ntmps3
  go_wp2_with fail
  refine (awake_any _).mono ?_
  rintro e w1 ⟨rfl, b1⟩
  have J0 := I0.mono b1
  clear I0
  go_wp2_with fail
  refine (great_any _ _ _ _ _ J0).mono ?_
  rintro e w2 ⟨hgr, b2⟩
  have B2 := below_two b1 b2
  have K0 := J0.mono b2
  clear J0 b1 b2
  rcases hgr with rfl | ⟨rfl, hn, hsm⟩
  · clear K0
    go_wp2_with fail
    refine (awake_any _).mono ?_
    rintro e w3 ⟨rfl, b3⟩
    go_wp2
    go_ret
    exact ⟨rfl, below_two B2 b3⟩
  · have HSM : Hid (∀ i, i < n0 → bigOp (D0 i) = false) := hsm
    obtain ⟨⟨b, off, ha, hc⟩, hm⟩ := K0
    have HN : Hid (0 < n0 → a0 = some ⟨b, off, none⟩) := ha
    have HC : Hid (∀ i, i < n0 → ∃ ai ci, OpAt w2 b (off + i * 4) (D0 i) ai ci) := hc
    clear hsm ha hc hm
    obtain ⟨N, hN⟩ : ∃ N, N = w2.heap.size := ⟨_, rfl⟩
    have HZ : Hid (N = w2.heap.size) := hN
    clear hN
    go_wp2
    rw [← HZ.out]
    go_loopw [18] (fun i wr => ∃ k : Nat, k ≤ n0 ∧ i = .int .i64 k ∧ Below w2.heap.size w2 wr ∧ ∃ p q en, BaseAt wr N 0 p q en ∧ RBaseAt wr (N + 1) p q (failAt p q) en ∧ 0 ≤ p ∧ p ≤ (k : Int) * 1099511627776) (fun i _ => n0 - (intOf i).toNat)
    case atStart =>
      have h1 := base_new w2 27 [] HZ.out
      refine ⟨0, Nat.zero_le _, rfl, ((Below.refl _ _).alloc (Nat.le_refl _) _).alloc (by simp) _, 0, 0, false, ?_, ?_, by omega, by omega⟩
      · exact h1.below ((Below.refl _ _).alloc (Nat.le_refl _) _)
      · exact rbase_new _ _ (by have := HZ.out; simp; omega)
    case round =>
      obtain ⟨k, hk, rfl, hbel, p, q, en, hB, hR, hp0, hp1⟩ := hrel
      by_cases hlt : k < n0
      · obtain rfl := HN.out (by omega)
        obtain ⟨ai, ci, hop⟩ := HC.out k hlt
        have hlt' : (k : Int) < (n0 : Int) := by omega
        have hop' := hop.mono hbel
        have hsm := HSM.out k hlt
        clear hop
        generalize D0 k = d at hop' hsm
        obtain ⟨kd, nm, tx, ls⟩ := d
        obtain ⟨c0, c1, c2, c3, -, -, -, -, -, -, -⟩ := hop'
        have hnm : nm ≤ 1099511627776 := by
          unfold bigOp at hsm
          simp only [Bool.or_eq_false_iff, decide_eq_false_iff_not] at hsm
          omega
        clear hsm
        dsimp only at c0 c1 c2 c3
        have al : Below wr.heap.size wr (wr.alloc (.cells #[.int .i64 kd, .int .i64 nm, .string tx, .slice ai ls.length ci] 35)) := (Below.refl _ _).alloc (Nat.le_refl _) _
        have hB1 := hB.below al
        have hR1 := hR.chg (chg_of_below al (Nat.le_refl _) (fun _ _ => False)) (fun _ h => h)
        have hT : N + 1 < wr.heap.size := hR.lt
        have hbel1 := hbel.trans (al.mono hbel.size)
        have e0 : (wr.alloc (.cells #[.int .i64 kd, .int .i64 nm, .string tx, .slice ai ls.length ci] 35)).cell? ⟨wr.heap.size, 0, none⟩ = some (.int .i64 kd) := by simp
        have e1 : (wr.alloc (.cells #[.int .i64 kd, .int .i64 nm, .string tx, .slice ai ls.length ci] 35)).cell? ⟨wr.heap.size, 1, none⟩ = some (.int .i64 nm) := by simp
        have NW : Hid (N = w2.heap.size) := HZ.out
        clear hB hR al hbel
        have hp2 : p ≤ 4611686018427387904 := by omega
        go_upto_block 2 with fail
        go_cut [] (fun wc => Below w2.heap.size w2 wc ∧ BaseAt wc N 0 (stP kd nm p q en) (stQ kd nm q en) (stE kd q en) ∧ RBaseAt wc (N + 1) p q (failAt p q) en ∧ wc.cell? ⟨wr.heap.size, 0, none⟩ = some (.int .i64 kd) ∧ wc.cell? ⟨wr.heap.size, 1, none⟩ = some (.int .i64 nm))
        case first =>
          by_cases h1 : kd = 1
          · subst h1
            go_wp2_with fail
            refine (eat_any _ _ _ _ _ _ _ hB1 hp0 hp2 hnm).mono ?_
            rintro e w4 ⟨rfl, hB2, k4⟩
            have hR2 := hR1.chg k4 (fun j h => by have := h.1; omega)
            have f0 := k4.cellAt e0 (fun h => by have := h.1; omega)
            have f1 := k4.cellAt e1 (fun h => by have := h.1; omega)
            have hbel2 := below_step hbel1 k4 (by simp; have := NW.out; omega) (fun k j hk h => by have := h.1; have := NW.out; omega)
            clear hB1 hR1 k4 e0 e1 hbel1 c0 c1 c2 c3
            go_wp2_with fail
            go_meet
            case rel => exact ⟨hbel2, hB2, hR2, f0, f1⟩
          · by_cases h2 : kd = 2
            · subst h2
              go_wp2_with fail
              refine (stop_any _ _ _ _ _ _ _ hB1).mono ?_
              rintro e w4 ⟨rfl, hB2, k4⟩
              have hR2 := hR1.chg k4 (fun j h => by have := h.1; omega)
              have f0 := k4.cellAt e0 (fun h => by have := h.1; omega)
              have f1 := k4.cellAt e1 (fun h => by have := h.1; omega)
              have hbel2 := below_step hbel1 k4 (by simp; have := NW.out; omega) (fun k j hk h => by have := h.1; have := NW.out; omega)
              clear hB1 hR1 k4 e0 e1 hbel1 c0 c1 c2 c3
              go_wp2_with fail
              go_meet
              case rel => exact ⟨hbel2, hB2, hR2, f0, f1⟩
            · by_cases h3 : kd = 3
              · subst h3
                go_wp2_with fail
                refine (end_any _ _ _ _ _ _ hB1).mono ?_
                rintro e w4 ⟨rfl, hB2, k4⟩
                have hR2 := hR1.chg k4 (fun j h => by have := h.1; omega)
                have f0 := k4.cellAt e0 (fun h => by have := h.1; omega)
                have f1 := k4.cellAt e1 (fun h => by have := h.1; omega)
                have hbel2 := below_step hbel1 k4 (by simp; have := NW.out; omega) (fun k j hk h => by have := h.1; have := NW.out; omega)
                clear hB1 hR1 k4 e0 e1 hbel1 c0 c1 c2 c3
                go_wp2_with fail
                go_meet
                case rel => exact ⟨hbel2, hB2, hR2, f0, f1⟩
              · have g1 : (kd == 1) = false := by simp [h1]
                have g2 : (kd == 2) = false := by simp [h2]
                have g3 : (kd == 3) = false := by simp [h3]
                have HK : Hid (¬ kd = 1 ∧ ¬ kd = 2 ∧ ¬ kd = 3) := ⟨h1, h2, h3⟩
                clear h1 h2 h3 c0 c1 c2 c3
                go_wp2_with fail
                go_meet
                case rel =>
                  refine ⟨hbel1, ?_, hR1, e0, e1⟩
                  rw [stP, stQ, stE, if_neg HK.out.1, if_neg HK.out.2.1, if_neg HK.out.2.2]
                  exact hB1
        case rest =>
          obtain ⟨hbelc, hBc, hRc, f0, f1⟩ := hcut
          clear hB1 hR1 e0 e1 hbel1 c0 c1 c2 c3
          have HST : Hid (0 ≤ stP kd nm p q en ∧ stP kd nm p q en ≤ ((k + 1 : Nat) : Int) * 1099511627776) := by
            show 0 ≤ stP kd nm p q en ∧ stP kd nm p q en ≤ ((k + 1 : Nat) : Int) * 1099511627776
            unfold stP eatI; repeat' split
            all_goals omega
          have HBC : Hid (BaseAt wc N 0 (stP kd nm p q en) (stQ kd nm q en) (stE kd q en)) := hBc
          clear hBc
          go_upto_region 15 with fail
          go_cut [44] (fun s wx => s = .bool (inR kd) ∧ wx = wc)
          case first =>
            by_cases g1 : 1 ≤ kd
            · by_cases g2 : kd ≤ 3
              · have HD : Hid (inR kd = true) := inR_true ⟨g1, g2⟩
                go_wp2_with fail
                go_meet
                case rel => exact ⟨by rw [HD.out], rfl⟩
              · have g2' : decide (kd ≤ 3) = false := by simpa using g2
                have HD : Hid (inR kd = false) := inR_false (fun h => g2 h.2)
                go_wp2_with fail
                go_meet
                case rel => exact ⟨by rw [HD.out], rfl⟩
            · have g1' : decide (1 ≤ kd) = false := by simpa using g1
              have HD : Hid (inR kd = false) := inR_false (fun h => g1 h.1)
              go_wp2_with fail
              go_meet
              case rel => exact ⟨by rw [HD.out], rfl⟩
          case rest =>
            obtain ⟨rfl, rfl⟩ := hcut
            go_upto_if 44 with fail
            go_cut [] (fun wc => Below w2.heap.size w2 wc ∧ BaseAt wc N 0 (stP kd nm p q en) (stQ kd nm q en) (stE kd q en) ∧ RBaseAt wc (N + 1) (stP kd nm p q en) (stQ kd nm q en) (failAt (stP kd nm p q en) (stQ kd nm q en)) (stE kd q en))
            case first =>
              by_cases h1 : kd = 1
              · subst h1
                have g : inR 1 = true := inR_true (by omega)
                go_wp2_with fail
                refine (rEat_any _ _ _ _ _ _ _ hRc hp0 hp2 hnm).mono ?_
                rintro e w5 ⟨rfl, hR3, k5⟩
                have hB3 := HBC.out.far k5 (fun j h => by omega)
                have hbel3 := below_step hbelc k5 (by have := NW.out; have := hRc.lt; omega) (fun k j hk h => by have := NW.out; omega)
                go_wp2_with fail
                go_meet
                case rel => exact ⟨hbel3, hB3, by rw [← failAt_eat p q nm en] at hR3; exact hR3⟩
              · by_cases h2 : kd = 2
                · subst h2
                  have g : inR 2 = true := inR_true (by omega)
                  go_wp2_with fail
                  refine (rStop_any _ _ _ _ _ _ _ hRc).mono ?_
                  rintro e w5 ⟨rfl, hR3, k5⟩
                  have hB3 := HBC.out.far k5 (fun j h => by omega)
                  have hbel3 := below_step hbelc k5 (by have := NW.out; have := hRc.lt; omega) (fun k j hk h => by have := NW.out; omega)
                  go_wp2_with fail
                  go_meet
                  case rel => exact ⟨hbel3, hB3, by rw [← failAt_stop p q nm en] at hR3; exact hR3⟩
                · by_cases h3 : kd = 3
                  · subst h3
                    have g : inR 3 = true := inR_true (by omega)
                    go_wp2_with fail
                    refine (rEnd_any _ _ _ _ _ _ _ hRc).mono ?_
                    rintro e w5 ⟨rfl, hR3, k5⟩
                    have hB3 := HBC.out.far k5 (fun j h => by omega)
                    have hbel3 := below_step hbelc k5 (by have := NW.out; have := hRc.lt; omega) (fun k j hk h => by have := NW.out; omega)
                    go_wp2_with fail
                    go_meet
                    case rel => exact ⟨hbel3, hB3, hR3⟩
                  · have g1 : inR kd = false := inR_false (by omega)
                    have HK : Hid (stP kd nm p q en = p ∧ stQ kd nm q en = q ∧ stE kd q en = en) := by
                      refine ⟨?_, ?_, ?_⟩
                      · rw [stP, if_neg h1]
                      · rw [stQ, if_neg h2]
                      · rw [stE, if_neg h3]
                    clear h1 h2 h3
                    rw [g1]
                    go_wp2_with fail
                    go_meet
                    case rel => exact ⟨hbelc, HBC.out, by rw [HK.out.1, HK.out.2.1, HK.out.2.2]; exact hRc⟩
            case rest =>
              obtain ⟨hbel3, hB3, hR3⟩ := hcut
              clear hbelc HBC hRc f0 f1
              generalize stP kd nm p q en = p' at *
              generalize stQ kd nm q en = q' at *
              generalize stE kd q en = en' at *
              clear hp0 hp1 hp2
              have HB := hB3.drew
              have HR := hR3.drew
              have hlt5 := hR3.lt
              obtain ⟨r0, r1, r2, r3, -⟩ := hR3
              go_upto_region 17 with fail
              go_cut [70] (fun s wx => s = .bool false ∧ Below wc.heap.size wc wx)
              case first =>
                go_region_with (first
                  | (go_at_call 14; refine (at_any N 0 p' q' en' _ ?_).mono ?_; exact HB; rintro e w6 ⟨rfl, hw⟩; subst hw)
                  | (go_at_call 15; refine (fail_any N 0 p' q' en' _ ?_).mono ?_; exact HB; rintro e w6 ⟨rfl, b6⟩; have s1 := cell_later b6 r1; have s2 := cell_later b6 r2)
                  | (go_at_call 16; refine (going_any N 0 p' q' en' _ ?_).mono ?_; exact HB.below b6; rintro e w7 ⟨rfl, hw⟩; subst hw)
                  | (go_at_call 17; refine (rGoing_any (N + 1) p' q' (failAt p' q') en' _ ?_).mono ?_; exact HR.below b6; rintro e w7 ⟨rfl, hw⟩; subst hw))
                all_goals
                  go_wp2_with fail
                  go_meet
                  case rel => exact ⟨rfl, (Below.refl _ _).drew.trans b6⟩
              case rest =>
                obtain ⟨rfl, b6⟩ := hcut
                go_wp2
                refine ⟨⟨k + 1, by omega, by go_num, hbel3.trans (b6.mono hbel3.size), p', q', en', hB3.below b6, ?_, HST.out.1, HST.out.2⟩, by simp [intOf]; omega⟩
                exact RBaseAt.below ⟨r0, r1, r2, r3, HR.f⟩ b6
      · have hlt' : (n0 : Int) ≤ (k : Int) := by omega
        go_wp2
        go_ret
        exact ⟨rfl, below_two B2 hbel⟩

set_option maxRecDepth 100000 in
theorem lifted (os : Os) (started : os.Started) (H : Type) (enc : TypeId × Value → H) :
    ReturnsInHanded {} Try.checked os 3 .any (Rows.stepBaseSpec.pre6 enc Try.prog Try.f3 Rows.stepBaseRow.domain false) (Rows.stepBaseSpec.post enc Try.prog Try.f3 false true false false) := by
  refine returnsInHanded_of_change (C := Try.checked) Bas.own started (by kernel_rfl) Try.func3
    (ChangeSpec.witness6 (enc := enc) (C := Try.checked) false ⟨#[], #[.slice none 0 0], []⟩ 8 (by kernel_rfl) (by kernel_rfl) (by kernel_rfl) (by kernel_rfl)) ?_
  intro W base args ds gs before hval0 hW hcnd _
  have hval : ∀ (j : Nat) t v, Try.f3.params[j]? = some t → args[j]? = some v → Value.okWide Try.prog W .any base t v := hval0
  have hW' := hW
  obtain ⟨p, q, hA0, hV, rfl, hfz, hnd⟩ := hW
  have hA : DataW.TrodAll enc Try.prog W 0 (fun _ => true) true Try.f3.params.toList args.toList ds p := hA0
  rw [Try.params3] at hA hval
  obtain ⟨v0, vs0, d0, ds0, p0, q0, hargs, rfl, rfl, h0, r0⟩ := trodAll_cons hA
  obtain ⟨rfl, rfl, rfl⟩ := trodAll_nil r0
  obtain rfl : args = #[v0] := by cases args; simp_all
  obtain ⟨rfl, rfl⟩ := trodVars_none hV
  have k0 := h0
  have lt0 : ∀ x ∈ p0, x.block < W.heap.size := by obtain ⟨m, hm⟩ := k0; exact DataW.trod_lt m _ _ _ hm
  obtain ⟨a0, n0, c0, rfl⟩ := okWide_slice Try.underlying22 (hval 0 22 v0 rfl rfl)
  obtain ⟨D0, I0⟩ : ∃ D, Stp.Script W a0 n0 c0 D := by
    obtain ⟨fuel, hf⟩ := h0
    exact Stp.script_of (by simpa [Value.cells] using hf)
  refine (walk W a0 n0 c0 D0 I0).mono fun e W' ⟨he, bel⟩ => ?_
  subst he
  exact ⟨_, rfl, _, _, _, [], _, [], hW', trodAll_mk1 (shut_bool Try.underlying4 _), (trodAll_cons_mk (Below.trod Bas.laidOut (by kernel_rfl) (of_decide_eq_true (by kernel_rfl)) k0 bel lt0) trodAll_mk0), rfl, bel.frame _, fun h => by cases h⟩

theorem over : Rows.stepBaseRow.holds Try.pinned (OpenSpec.ofChange Rows.stepBaseSpec) :=
  OpenClaim.holds_of_wide 3 Try.f3 rfl rfl rfl rfl rfl rfl rfl ⟨rfl, rfl, rfl, rfl, rfl⟩ rfl rfl rfl rfl rfl (by kernel_rfl) Try.func3 (by kernel_rfl)
    (of_decide_eq_true (by kernel_rfl)) (by unfold Func.isWrapper; first | (rw [if_pos (by decide +kernel)]; kernel_rfl) | (rw [if_neg (by decide +kernel)]; exact ⟨rfl, rfl⟩))
    (fun os started H enc _ => lifted os started H enc)
end Go.Proofs.Ytalifhgflngooaa.stepBase
namespace Go.Proofs.Ytalifhgflngooaa
/-- The statement. -/
theorem stepBase_proved : Rows.StepBaseSaid := stepBase.over
end Go.Proofs.Ytalifhgflngooaa
