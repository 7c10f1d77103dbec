/-
  Proved: a list's text in Punycode has a byte for each basic scalar, one for the hyphen, if there is any, and at least one for each other one, at most nine. No condition.
-/
import Derived.Test.YtemgbmacdpnepaaPunLaw
namespace Go.Proofs.Ytemgbmacdpnepaa
open Go.ChangeShapes Go.WideShapes Go.ChangeAt Go.RowKit
open Go.ChangeMaps (open_string shut_string)
namespace punyShort
open Bas Sca Stp Scn Cod Pun
set_option linter.unusedVariables false

set_option maxHeartbeats 8000000 in
set_option maxRecDepth 100000 in
theorem walk (w : World) (a0 : Option Addr) (n0 c0 : Nat) (l0 : List Int) (I0 : Ints .u32 w a0 n0 c0 l0) (J0 : Cap a0 n0 c0) :
    Calls Try.prog 9 #[.slice a0 n0 c0] w fun e w' => e = .returned (.bool true) ∧ Below w.heap.size w w' := by
  have HI : Hid (Ints .u32 w a0 n0 c0 l0 ∧ Cap a0 n0 c0) := ⟨I0, J0⟩
  have hn0 := I0.max
  have hcap := J0.le
  clear I0 J0
  go_enter Try.func9, Try.ntmps9
  go_wp2_with fail
  refine (awake_any _).mono ?_
  rintro e w1 ⟨rfl, b1⟩
  have HB1 : Hid (Below w.heap.size w w1) := b1
  clear b1
  go_wp2_with fail
  refine (great_any _ none none 0 0 0 0 w1).mono ?_
  rintro e w1' ⟨rfl, rfl⟩
  obtain ⟨g, hg⟩ : ∃ g, (decide ((n0 : Int) > 120) || (decide (0 > 200) || decide (0 > 200))) = g := ⟨_, rfl⟩
  rw [hg]
  cases g with
  | true =>
    clear hg
    go_wp2_with fail
    refine (awake_any _).mono ?_
    rintro e w2 ⟨rfl, b2⟩
    go_wp2
    go_ret
    exact ⟨rfl, below_two HB1.out b2⟩
  | false =>
    have h400 : (n0 : Int) ≤ 120 := by simp at hg; omega
    clear hg
    go_wp2_with fail
    refine (rFirst_any a0 n0 c0 l0 w1' (HI.out.1.row.mono HB1.out) HI.out.1.len HI.out.1.max).mono ?_
    rintro e w1 ⟨rfl, rfl⟩
    by_cases hok : okLen l0 < l0.length
    · rw [firstL_ok, if_pos hok]
      have hge : (okLen l0 : Int) ≥ 0 := by omega
      clear hok
      go_wp2_with fail
      refine (awake_any _).mono ?_
      rintro e w2 ⟨rfl, b2⟩
      go_wp2
      go_ret
      exact ⟨rfl, below_two HB1.out b2⟩
    · rw [firstL_ok, if_neg hok]
      have HOK : Hid (¬ okLen l0 < l0.length) := hok
      clear hok
      go_wp2_with fail
      refine (newEn_any _ rfl).mono ?_
      rintro e w2 ⟨rfl, E2, z2, B2⟩
      obtain ⟨N, hN⟩ : ∃ N, N = w1.heap.size := ⟨_, rfl⟩
      have HN : Hid (w.heap.size ≤ N) := by show w.heap.size ≤ N; rw [hN]; exact HB1.out.size
      rw [← hN] at E2 z2 B2 ⊢
      have HB2 : Hid (Below w.heap.size w w2) := HB1.out.trans (B2.mono HN.out)
      clear hN
      go_wp2_with fail
      refine (write_any N _ _ a0 n0 c0 l0 none none 0 0 0 0 [] [] w2 E2 (came_of HI.out.2 HI.out.1.row HI.out.1.len HB2.out (fun k hk hf => by have := footE_nil hf; have := HN.out; omega)) (fun c hc => fits_u32' (HI.out.1.fits c hc)) (ints_none _ _) (ints_none _ _) (fun b' o' h0 => by omega) (fun b' o' h0 => by omega) (by omega) (by omega) (by have := HI.out.1.len; omega)).mono ?_
      rintro e w3 ⟨T, hT, rfl, v3, u3, E3, C3⟩
      have hTX : TextOf l0 T := by
        unfold WrT at hT
        rw [if_neg HOK.out] at hT
        exact hT
      have HB3 : Hid (Below w.heap.size w w3) := HB2.out.trans (C3.below HB2.out.size (fun k j hk h => by have := footE_nil h; have := HN.out; omega))
      have hln := HI.out.1.len
      have hsh := hTX.short (by omega) (basic := (basL l0 l0.length).length) (by rw [basL_all])
      obtain ⟨s, hs⟩ : ∃ s, Stp.strOf T = s := ⟨_, rfl⟩
      rw [hs]
      have hsz : s.size = T.length := by rw [← hs, strOf_size]
      rw [← hsz, hln] at hsh
      have HSH : Hid ((basL l0 n0).length ≤ n0 ∧ (basL l0 n0).length + min (basL l0 n0).length 1 + (n0 - (basL l0 n0).length) ≤ s.size ∧ s.size ≤ (basL l0 n0).length + min (basL l0 n0).length 1 + (n0 - (basL l0 n0).length) + 8 * (n0 - (basL l0 n0).length)) := hsh
      clear hs hsz E2 z2 B2 E3 C3 HB2 hT hTX hsh hln
      go_wp2
      go_loopw [5, 6, 31] (fun x y i wr => ∃ k : Nat, i = .int .i64 k ∧ k ≤ n0 ∧ x = .int .i64 (basL l0 k).length ∧ y = .int .i64 ((k - (basL l0 k).length : Nat) : Int) ∧ wr = w3) (fun _ _ i _ => n0 - (intOf i).toNat)
      case atStart => exact ⟨0, rfl, Nat.zero_le _, rfl, rfl, rfl⟩
      case round =>
        obtain ⟨k, rfl, hk, rfl, rfl, rfl⟩ := hrel
        have hbl := basL_len l0 k
        by_cases hlt : k < n0
        · have hkL : k < l0.length := by rw [HI.out.1.len]; exact hlt
          obtain ⟨bl, of, hal, hcl⟩ := HI.out.1.row.mono HB3.out
          obtain rfl := hal (by intro e; rw [e] at hkL; simp at hkL)
          have hcell := hcl k hkL
          have i1 : (k : Int) < (n0 : Int) := by omega
          by_cases hb : nth l0 k < 128
          · have hb1 := basL_yes hkL hb
            have HN1 : Hid ((basL l0 (k + 1)).length = (basL l0 k).length + 1) := by show _ = _; rw [hb1, List.length_append]; rfl
            obtain ⟨x, hx⟩ : ∃ x, nth l0 k = x := ⟨_, rfl⟩
            obtain ⟨y, hy⟩ : ∃ y, (basL l0 k).length = y := ⟨_, rfl⟩
            rw [hx] at hcell hb
            rw [hy] at HN1 hbl ⊢
            clear hcl hal hb1 hx hy hkL
            go_wp2
            go_roundw
            case rel => exact ⟨k + 1, by go_num, by omega, by rw [HN1.out]; go_num, by rw [HN1.out]; exact congrArg (Value.int .i64) (by omega), trivial⟩
            case measure => simp [intOf]; omega
          · have hb1 := basL_no hkL hb
            have HN1 : Hid ((basL l0 (k + 1)).length = (basL l0 k).length) := by show _ = _; rw [hb1]
            obtain ⟨x, hx⟩ : ∃ x, nth l0 k = x := ⟨_, rfl⟩
            obtain ⟨y, hy⟩ : ∃ y, (basL l0 k).length = y := ⟨_, rfl⟩
            rw [hx] at hcell hb
            rw [hy] at HN1 hbl ⊢
            obtain ⟨z, hz⟩ : ∃ z, k - y = z := ⟨_, rfl⟩
            rw [hz]
            have HZ : Hid (k - y = z) := hz
            have hz2 : z ≤ 120 := by omega
            clear hcl hal hb1 hx hy hkL hz
            go_wp2
            go_roundw
            case rel => exact ⟨k + 1, by go_num, by omega, by rw [HN1.out], by rw [HN1.out]; exact congrArg (Value.int .i64) (by have := HZ.out; omega), trivial⟩
            case measure => simp [intOf]; omega
        · obtain rfl : k = n0 := by omega
          have hsh := HSH.out
          obtain ⟨y, hy⟩ : ∃ y, (basL l0 k).length = y := ⟨_, rfl⟩
          rw [hy] at hbl hsh ⊢
          obtain ⟨z, hz⟩ : ∃ z, k - y = z := ⟨_, rfl⟩
          rw [hz] at hsh ⊢
          have hz2 : z ≤ 120 := by omega
          have hmn : min (y : Int) 1 = ((min y 1 : Nat) : Int) := by omega
          obtain ⟨q, hq⟩ : ∃ q, min y 1 = q := ⟨_, rfl⟩
          rw [hq] at hsh hmn
          have hq1 : q ≤ 1 := by omega
          have g1 : (s.size : Int) ≥ (y : Int) + (q : Int) + (z : Int) := by omega
          have g2 : (s.size : Int) ≤ (y : Int) + (q : Int) + (z : Int) + 8 * (z : Int) := by omega
          have i1 : ¬ (k : Int) < (k : Int) := by omega
          clear hy hz hq hsh hlt
          go_wp2
          go_ret
          exact ⟨rfl, HB3.out⟩
set_option maxRecDepth 100000 in
theorem lifted (os : Os) (started : os.Started) (H : Type) (enc : TypeId × Value → H) :
    ReturnsInHanded {} Try.checked os 9 .any (Rows.punyShortSpec.pre6 enc Try.prog Try.f9 Rows.punyShortRow.domain false) (Rows.punyShortSpec.post enc Try.prog Try.f9 false true false false) := by
  refine returnsInHanded_of_change (C := Try.checked) Bas.own started (by kernel_rfl) Try.func9
    (ChangeSpec.witness6 (enc := enc) (C := Try.checked) false ⟨#[], #[.slice none 0 0], []⟩ 8 (by kernel_rfl) (by kernel_rfl) (by kernel_rfl) (by kernel_rfl)) ?_
  intro W base args ds gs before hval0 hW hcnd _
  have hval : ∀ (j : Nat) t v, Try.f9.params[j]? = some t → args[j]? = some v → Value.okWide Try.prog W .any base t v := hval0
  have hW' := hW
  obtain ⟨p, q, hA0, hV, rfl, hfz, hnd⟩ := hW
  have hA : DataW.TrodAll enc Try.prog W 0 (fun _ => true) true Try.f9.params.toList args.toList ds p := hA0
  rw [Try.params9] at hA hval
  obtain ⟨v0, vs0, d0, ds0, p0, q0, hargs, rfl, rfl, h0, r0⟩ := trodAll_cons hA
  obtain ⟨rfl, rfl, rfl⟩ := trodAll_nil r0
  obtain rfl : args = #[v0] := by cases args; simp_all
  obtain ⟨rfl, rfl⟩ := trodVars_none hV
  have k0 := h0
  have lt0 : ∀ x ∈ p0, x.block < W.heap.size := by obtain ⟨m, hm⟩ := k0; exact DataW.trod_lt m _ _ _ hm
  obtain ⟨a0, n0, c0, l0, rfl, I0, J0⟩ : ∃ a n c l, v0 = .slice a n c ∧ Bas.Ints .u32 W a n c l ∧ Cod.Cap a n c := by
    obtain ⟨a, n, c, rfl⟩ := okWide_slice Try.underlying27 (hval 0 27 v0 rfl rfl)
    obtain ⟨fuel, hf⟩ := h0
    obtain ⟨a', n', c', l, hv, I, J⟩ := Cod.ints_of Try.underlying27 Try.underlying64 (by kernel_rfl) (fun _ => rfl) (by simpa [Value.cells] using hf)
    exact ⟨a', n', c', l, hv, I, J⟩
  refine (walk W a0 n0 c0 l0 I0 J0).mono fun e W' ⟨he, bel⟩ => ?_
  subst he
  exact ⟨_, rfl, _, _, _, [], _, [], hW', trodAll_mk1 (shut_bool Try.underlying4 _), (trodAll_cons_mk (Below.trod Bas.laidOut (by kernel_rfl) (of_decide_eq_true (by kernel_rfl)) k0 bel lt0) trodAll_mk0), rfl, bel.frame _, fun h => by cases h⟩

theorem over : Rows.punyShortRow.holds Try.pinned (OpenSpec.ofChange Rows.punyShortSpec) :=
  OpenClaim.holds_of_wide 9 Try.f9 rfl rfl rfl rfl rfl rfl rfl ⟨rfl, rfl, rfl, rfl, rfl⟩ rfl rfl rfl rfl rfl (by kernel_rfl) Try.func9 (by kernel_rfl)
    (of_decide_eq_true (by kernel_rfl)) (by unfold Func.isWrapper; first | (rw [if_pos (by decide +kernel)]; kernel_rfl) | (rw [if_neg (by decide +kernel)]; exact ⟨rfl, rfl⟩))
    (fun os started H enc _ => lifted os started H enc)
end Go.Proofs.Ytemgbmacdpnepaa.punyShort
namespace Go.Proofs.Ytemgbmacdpnepaa
/-- The statement. -/
theorem punyShort_proved : Rows.PunyShortSaid := punyShort.over
end Go.Proofs.Ytemgbmacdpnepaa
