/-
  Bytes that wait come out in their order, as many at a time as there is room for, none twice, none lost: the statement StepBytes is proved, for every input. Conditions: none.
-/
import Derived.Test.YtalifhgflngooaaAwk2
import Derived.Test.YtalifhgflngooaaStrs
import Derived.Deep.DeepCutAuto
import Derived.Deep.CutBlock
import Derived.Deep.RegionWith
namespace Go.Proofs.Ytalifhgflngooaa.stepBytes
open Go.ChangeShapes Go.WideShapes Go.ChangeAt Go.RowKit
open Go.ChangeMaps (open_string shut_string)
open Bas Stp
set_option linter.unusedVariables false

set_option maxHeartbeats 4000000 in
theorem walk (w : World) (a0 : Option Addr) (n0 c0 : Nat) (D0 : Nat → OpD) (I0 : Script w a0 n0 c0 D0) :
    Calls Try.prog 4 #[.slice a0 n0 c0] w fun e w' => e = .returned (.bool true) ∧ Below w.heap.size w w' := by
  go_enter Try.func4, Try.ntmps4
  go_wp2_with fail
  refine (awake_any _).mono ?_
  rintro e w1 ⟨rfl, b1⟩
  have J0 := I0.mono b1
  clear I0
  go_wp2_with fail
  refine (great_any _ _ _ _ _ J0).mono ?_
  rintro e w2 ⟨hgr, b2⟩
  have B2 := below_two b1 b2
  have K0 := J0.mono b2
  clear J0 b1 b2
  rcases hgr with rfl | ⟨rfl, hn, hsm⟩
  · clear K0
    go_wp2_with fail
    refine (awake_any _).mono ?_
    rintro e w3 ⟨rfl, b3⟩
    go_wp2
    go_ret
    exact ⟨rfl, below_two B2 b3⟩
  · have HSM : Hid (∀ i, i < n0 → bigOp (D0 i) = false) := hsm
    obtain ⟨⟨b, off, ha, hc⟩, hm⟩ := K0
    have HN : Hid (0 < n0 → a0 = some ⟨b, off, none⟩) := ha
    have HC : Hid (∀ i, i < n0 → ∃ ai ci, OpAt w2 b (off + i * 4) (D0 i) ai ci) := hc
    clear hsm ha hc hm
    obtain ⟨N, hN⟩ : ∃ N, N = w2.heap.size := ⟨_, rfl⟩
    have HZ : Hid (N = w2.heap.size) := hN
    clear hN
    go_wp2
    rw [← HZ.out]
    go_loopw [4, 17] (fun wt i wr => ∃ k : Nat, k ≤ n0 ∧ i = .int .i64 k ∧ Below w2.heap.size w2 wr ∧ ∃ s v, wt = .string s ∧ RowAt .u8 wr N 0 v (bytesL s) ∧ (∀ g, v.ownBlock = some g → N < g) ∧ s.size ≤ k * 300) (fun _ i _ => n0 - (intOf i).toNat)
    case atStart =>
      exact ⟨0, Nat.zero_le _, rfl, (Below.refl _ _).alloc (Nat.le_refl _) _, _, .slice none 0 0, rfl, row0_new .u8 w2 _ HZ.out, fun g hg => by simp [Value.ownBlock] at hg, Nat.le_refl _⟩
    case round =>
      obtain ⟨k, hk, rfl, hbel, s, v, rfl, hB, hv, hs⟩ := hrel
      by_cases hlt : k < n0
      · obtain rfl := HN.out (by omega)
        obtain ⟨ai, ci, hop⟩ := HC.out k hlt
        have hlt' : (k : Int) < (n0 : Int) := by omega
        have hop' := hop.mono hbel
        have hsm := HSM.out k hlt
        clear hop
        generalize D0 k = d at hop' hsm
        obtain ⟨kd, nm, tx, ls⟩ := d
        obtain ⟨c0, c1, c2, c3, -, -, -, -, -, -, wn⟩ := hop'
        have htx : tx.size ≤ 300 := by
          unfold bigOp at hsm
          simp only [Bool.or_eq_false_iff, decide_eq_false_iff_not] at hsm
          omega
        clear hsm
        dsimp only at c0 c1 c2 c3 wn
        have al : Below wr.heap.size wr (wr.alloc (.cells #[.int .i64 kd, .int .i64 nm, .string tx, .slice ai ls.length ci] 35)) := (Below.refl _ _).alloc (Nat.le_refl _) _
        have hB1 := hB.below al
        have hT : N < wr.heap.size := hB.lt
        have hvT : ∀ g, v.ownBlock = some g → g < wr.heap.size := fun g hg => hB.seg.lt hg
        have hbel1 := hbel.trans (al.mono hbel.size)
        have e1 : (wr.alloc (.cells #[.int .i64 kd, .int .i64 nm, .string tx, .slice ai ls.length ci] 35)).cell? ⟨wr.heap.size, 1, none⟩ = some (.int .i64 nm) := by simp
        have e2 : (wr.alloc (.cells #[.int .i64 kd, .int .i64 nm, .string tx, .slice ai ls.length ci] 35)).cell? ⟨wr.heap.size, 2, none⟩ = some (.string tx) := by simp
        have NW : Hid (N = w2.heap.size) := HZ.out
        clear hB al hbel
        go_upto_block 2 with fail
        go_cut [4] (fun wt wc => Below w2.heap.size w2 wc ∧ ∃ s v, wt = .string s ∧ RowAt .u8 wc N 0 v (bytesL s) ∧ (∀ g, v.ownBlock = some g → N < g) ∧ s.size ≤ (k + 1) * 300)
        case first =>
          by_cases h4 : kd = 4
          · subst h4
            go_wp2_with fail
            refine (keep_any _ _ _ _ _ _ hB1 (by rw [bytesL_length]; omega)).mono ?_
            rintro e w4 ⟨v4, rfl, hB2, k4, m4⟩
            have f2 := k4.cellAt e2 (fun h => by
              rcases h with h | h
              · omega
              · have := hvT _ h; omega)
            have hbel2 := below_step hbel1 k4 (by simp; have := NW.out; omega) (fun k j hk h => by
              have := NW.out
              rcases h with h | h
              · omega
              · have := hv _ h; omega)
            clear hB1 e1 e2 hbel1 c0 c1 c2 c3
            go_wp2_with fail
            go_meet
            case rel =>
              refine ⟨hbel2, _, v4, rfl, by rw [bytesL_append]; exact hB2, fun g hg => ?_, by rw [ByteArray.size_append]; omega⟩
              rcases m4 g hg with h | h
              · exact hv g h
              · simp at h; omega
          · by_cases h5 : kd = 5
            · subst h5
              go_wp2_with fail
              refine (rFront_any _ _ _).mono ?_
              rintro e w4 ⟨rfl, hw⟩
              subst hw
              go_upto_region 14 with fail
              have hfl := frontN_le nm s.size
              have HF : Hid (frontN nm (bytesL s).length = frontN nm s.size) := (by show frontN nm (bytesL s).length = frontN nm s.size; rw [bytesL_length])
              generalize frontN nm s.size = f at *
              have hfl' : (f : Int) ≤ (s.size : Int) := by omega
              have hBd : RowAt .u8 (wr.alloc (.cells #[.int .i64 5, .int .i64 nm, .string tx, .slice ai ls.length ci] 35)).drew N 0 v (bytesL s) := ⟨hB1.c, hB1.f, hB1.seg, hB1.ne⟩
              go_region_with (first
                | (go_at_call 20; refine (give_any N 0 v (bytesL s) nm _ ?_ wn).mono ?_; exact hBd; rintro e w6 ⟨v6, rfl, hB6, k6, m6⟩; rw [HF.out] at hB6; rw [HF.out, strOf_take]))
              have hbel2 := below_step (hbel1.drew) k6 (by simp; have := NW.out; omega) (fun k j hk h => by have := NW.out; omega)
              go_wp2_with fail
              go_meet
              case rel =>
                refine ⟨hbel2, _, v6, rfl, by rw [bytesL_drop]; exact hB6, fun g hg => hv g (m6 g hg), ?_⟩
                rw [ByteArray.size_extract]; omega
            · have g4 : (kd == 4) = false := by simp [h4]
              have g5 : (kd == 5) = false := by simp [h5]
              clear h4 h5 c0 c1 c2 c3
              go_wp2_with fail
              go_meet
              case rel => exact ⟨hbel1, s, v, rfl, hB1, hv, Nat.le_trans hs (Nat.mul_le_mul_right _ (Nat.le_succ k))⟩
        case rest =>
          obtain ⟨hbel3, s', v', rfl, hB3, hv3, hs3⟩ := hcut
          have HL : Hid ((bytesL s').length = s'.size) := bytesL_length s'
          go_wp2_with fail
          refine (kept_any _ _ _ _ _ hB3).mono ?_
          rintro e w7 ⟨rfl, hw⟩
          subst hw
          rw [HL.out]
          go_wp2
          refine ⟨⟨k + 1, by omega, by go_num, hbel3, s', v', rfl, hB3, hv3, hs3⟩, by simp [intOf]; omega⟩
      · have hlt' : (n0 : Int) ≤ (k : Int) := by omega
        go_wp2
        go_ret
        exact ⟨rfl, below_two B2 hbel⟩

set_option maxRecDepth 100000 in
theorem lifted (os : Os) (started : os.Started) (H : Type) (enc : TypeId × Value → H) :
    ReturnsInHanded {} Try.checked os 4 .any (Rows.stepBytesSpec.pre6 enc Try.prog Try.f4 Rows.stepBytesRow.domain false) (Rows.stepBytesSpec.post enc Try.prog Try.f4 false true false false) := by
  refine returnsInHanded_of_change (C := Try.checked) Bas.own started (by kernel_rfl) Try.func4
    (ChangeSpec.witness6 (enc := enc) (C := Try.checked) false ⟨#[], #[.slice none 0 0], []⟩ 8 (by kernel_rfl) (by kernel_rfl) (by kernel_rfl) (by kernel_rfl)) ?_
  intro W base args ds gs before hval0 hW hcnd _
  have hval : ∀ (j : Nat) t v, Try.f4.params[j]? = some t → args[j]? = some v → Value.okWide Try.prog W .any base t v := hval0
  have hW' := hW
  obtain ⟨p, q, hA0, hV, rfl, hfz, hnd⟩ := hW
  have hA : DataW.TrodAll enc Try.prog W 0 (fun _ => true) true Try.f4.params.toList args.toList ds p := hA0
  rw [Try.params4] at hA hval
  obtain ⟨v0, vs0, d0, ds0, p0, q0, hargs, rfl, rfl, h0, r0⟩ := trodAll_cons hA
  obtain ⟨rfl, rfl, rfl⟩ := trodAll_nil r0
  obtain rfl : args = #[v0] := by cases args; simp_all
  obtain ⟨rfl, rfl⟩ := trodVars_none hV
  have k0 := h0
  have lt0 : ∀ x ∈ p0, x.block < W.heap.size := by obtain ⟨m, hm⟩ := k0; exact DataW.trod_lt m _ _ _ hm
  obtain ⟨a0, n0, c0, rfl⟩ := okWide_slice Try.underlying22 (hval 0 22 v0 rfl rfl)
  obtain ⟨D0, I0⟩ : ∃ D, Stp.Script W a0 n0 c0 D := by
    obtain ⟨fuel, hf⟩ := h0
    exact Stp.script_of (by simpa [Value.cells] using hf)
  refine (walk W a0 n0 c0 D0 I0).mono fun e W' ⟨he, bel⟩ => ?_
  subst he
  exact ⟨_, rfl, _, _, _, [], _, [], hW', trodAll_mk1 (shut_bool Try.underlying4 _), (trodAll_cons_mk (Below.trod Bas.laidOut (by kernel_rfl) (of_decide_eq_true (by kernel_rfl)) k0 bel lt0) trodAll_mk0), rfl, bel.frame _, fun h => by cases h⟩

theorem over : Rows.stepBytesRow.holds Try.pinned (OpenSpec.ofChange Rows.stepBytesSpec) :=
  OpenClaim.holds_of_wide 4 Try.f4 rfl rfl rfl rfl rfl rfl rfl ⟨rfl, rfl, rfl, rfl, rfl⟩ rfl rfl rfl rfl rfl (by kernel_rfl) Try.func4 (by kernel_rfl)
    (of_decide_eq_true (by kernel_rfl)) (by unfold Func.isWrapper; first | (rw [if_pos (by decide +kernel)]; kernel_rfl) | (rw [if_neg (by decide +kernel)]; exact ⟨rfl, rfl⟩))
    (fun os started H enc _ => lifted os started H enc)
end Go.Proofs.Ytalifhgflngooaa.stepBytes
namespace Go.Proofs.Ytalifhgflngooaa
/-- The statement. -/
theorem stepBytes_proved : Rows.StepBytesSaid := stepBytes.over
end Go.Proofs.Ytalifhgflngooaa
