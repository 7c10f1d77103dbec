/-
  Proved: the bytes of a scalar above 9F are none of those that the scalars 0 to 9F become; of those each has one. No condition.
-/
import Derived.Test.YtjbgcclbomimiaaDoorEBAwk
import Derived.Test.YtjbgcclbomimiaaDoorM8Tab
import Derived.Test.YtjbgcclbomimiaaDoorPerRf3
namespace Go.Proofs.YtjbgcclbomimiaaDoor
open Go.ChangeShapes Go.WideShapes Go.ChangeAt Go.RowKit
open Go.ChangeMaps (open_string shut_string)
namespace ebcdicControls
open Bas Sca Stp Scn Cod EB
set_option linter.unusedVariables false

theorem one_ctl (c : Int) (h0 : 0 ≤ c) (hc : isB c = true) : ∀ y ∈ M8.oneN () c, (y < 160 ↔ c < 160) := by
  have hi := M8.isB_le hc
  intro y hy
  unfold M8.oneN at hy
  (repeat' split at hy) <;> simp at hy <;> omega
theorem one_len (c : Int) : (oneN () c).length ≤ 5 ∧ 1 ≤ (oneN () c).length ∧ ((oneN () c).length = 1 ↔ c < 160) := by
  unfold oneN
  rw [Per.turnL_len, M8.oneN_length]
  have h1 := M8.rowC_le c
  have h2 := (M8.rowC_iff c).1
  omega
theorem enc_whole (c : Int) (hc : isB c = true) : encF (oneN ()) 9 [] [c] = ⟨oneN () c, 1, [], false⟩ := by
  have hl := (one_len c).1
  have hf : frontR (9 - (([] : List Int).length : Int)) (oneN () c).length = (oneN () c).length := by
    unfold frontR
    rw [if_neg (by simp), if_pos (by simp; omega)]
  show enc (oneN ()) 9 (([] : List Int).take _) (([] : List Int).drop _) [c] = _
  rw [List.take_nil, List.drop_nil, enc_one _ hc, hf]
  simp [enc, ERes.plus]
/-- A byte of a scalar's. -/
theorem ctl_at (c : Int) (h0 : 0 ≤ c) (hc : isB c = true) (k : Nat) (hk : k < (oneN () c).length) : 0 ≤ nth (oneN () c) k ∧ nth (oneN () c) k < 256 ∧ (Per.at_ Per.frL (nth (oneN () c) k) < 160 ↔ c < 160) := by
  unfold oneN at hk ⊢
  rw [Per.turnL_len] at hk
  rw [Per.nth_turnL _ _ _ hk]
  have hm : nth (M8.oneN () c) k ∈ M8.oneN () c := nth_mem hk
  have hb := M8.oneN_byte () c hc h0 _ hm
  have ht := Per.tab_byte hb.1 hb.2
  rw [Per.fr_tab hb.1 hb.2]
  exact ⟨ht.1, ht.2, one_ctl c h0 hc _ hm⟩
set_option maxHeartbeats 1000000 in
theorem ctl_any (x : Int) (d : Bool) (w : World) (h0 : 0 ≤ x) (h1 : x < 256) (hd : decide (Per.at_ Per.frL x < 160) = d) :
    Calls Tryd.prog 49 #[.int .u8 x] w fun e w' => e = .returned (.bool d) ∧ Below w.heap.size w w' := by
  subst hd
  go_enter Tryd.func49, Tryd.ntmps49
  go_wp2_with fail
  refine (Per.rFrom_any x w h0 h1).mono ?_
  rintro e w1 ⟨rfl, b1⟩
  have HB : Hid (Below w.heap.size w w1) := b1
  clear b1
  go_wp2
  go_ret
  exact ⟨by first | rfl | exact ret_bool (by simp), HB.out⟩
set_option maxHeartbeats 8000000 in
set_option maxRecDepth 100000 in
theorem walk (w : World) (hT : M8.Tabs w) (c : Int) (hwf : (Lit.int .u32 c).wf = true) :
    Calls Tryd.prog 15 #[.int .u32 c] w fun e w' => e = .returned (.bool true) ∧ Below w.heap.size w w' := by
  have HT : Hid (M8.Tabs w) := hT
  have hfit := fits_u32' hwf
  clear hwf hT
  have HB0 : Hid (Below w.heap.size w w) := Below.refl _ _
  go_enter Tryd.func15, Tryd.ntmps15
  go_wp2_with fail
  refine (awake_any _ (HT.out.below HB0.out)).mono ?_
  rintro e w1 ⟨rfl, b1⟩
  have HB1 : Hid (Below w.heap.size w w1) := below_two HB0.out b1
  clear b1 HB0
  go_wp2_with fail
  refine (rIs_any c w1).mono ?_
  rintro e w1' ⟨rfl, rfl⟩
  cases hi : isB c with
  | false =>
    clear hi
    go_wp2_with fail
    refine (awake_any _ (HT.out.below HB1.out)).mono ?_
    rintro e w2 ⟨rfl, b2⟩
    go_wp2
    go_ret
    exact ⟨rfl, below_two HB1.out b2⟩
  | true =>
    have HC : Hid (isB c = true ∧ 0 ≤ c ∧ c < 4294967296) := ⟨hi, hfit⟩
    clear hi hfit
    go_wp2_with fail
    refine (newEn_any () _ rfl (HT.out.below HB1.out)).mono ?_
    rintro e w2 ⟨rfl, E2, z2, B2⟩
    obtain ⟨N, hN⟩ : ∃ N, N = w1'.heap.size := ⟨_, rfl⟩
    have HN : Hid (w.heap.size ≤ N) := by show w.heap.size ≤ N; rw [hN]; exact HB1.out.size
    rw [← hN] at E2 z2 B2 ⊢
    have HE2 : Hid (EncV () w2 N 0 0 false [] (.slice none 0 0) ∧ w2.heap.size = N + 6 ∧ Below w.heap.size w w2) := ⟨E2, z2, HB1.out.trans (B2.mono HN.out)⟩
    clear hN E2 z2 B2 HB1
    go_wp2_with fail
    have hB3 : Below w2.heap.size w2 (w2.alloc (.cells #[.int .u32 c] 43)) := (Below.refl _ _).alloc (Nat.le_refl _) _
    have E3 := HE2.out.1.below hB3
    refine (eFeed_any N 0 [] _ (some ⟨w2.heap.size, 0, none⟩) 1 1 [c] 9 ⟨oneN () c, 1, [], false⟩ _ E3 (enc_whole c HC.out.1).symm (by exact row_new .u32 w2 [c] _ _ rfl) rfl (fun b' o' e h => by simp at e; have := footE_nil h; have := HE2.out.2.1; omega) (by intro d hd; simp at hd; subst hd; exact HC.out.2) (by omega) (by omega) (by omega) (by simp) (by omega) (by omega)).mono ?_
    rintro e w4 ⟨rfl, v4, E4, C4, M4⟩
    have HB4 : Hid (Below w.heap.size w w4) := (below_two HE2.out.2.2 hB3).trans (C4.below (below_two HE2.out.2.2 hB3).size (fun k j hk h => by have := footE_nil h; have := HN.out; omega))
    clear E3 E4 C4 M4 hB3 HE2
    obtain ⟨S, hS⟩ : ∃ S, Stp.strOf (oneN () c) = S := ⟨_, rfl⟩
    have hn : S.size = (oneN () c).length := by rw [← hS, strOf_size]
    have hbs : bytesL S = oneN () c := by rw [← hS]; exact bytesL_strOf _ (oneN_byte () c HC.out.1 HC.out.2.1)
    have hol := one_len c
    rw [← hn] at hol
    have hct : ∀ k, (hk : k < S.size) → ((S[k]'hk).toNat : Int) < 256 ∧ (Per.at_ Per.frL ((S[k]'hk).toNat : Int) < 160 ↔ c < 160) := fun k hk => by
      have h1 := Txt.str_nth S k hk
      rw [hbs] at h1
      rw [h1]
      have := ctl_at c HC.out.2.1 HC.out.1 k (by omega)
      exact ⟨this.2.1, this.2.2⟩
    have HK : Hid (∀ k, (hk : k < S.size) → ((S[k]'hk).toNat : Int) < 256 ∧ (Per.at_ Per.frL ((S[k]'hk).toNat : Int) < 160 ↔ c < 160)) := hct
    rw [hS]
    obtain ⟨d, hd⟩ : ∃ d, decide (c < 160) = d := ⟨_, rfl⟩
    have HD : Hid (decide (c < 160) = d) := hd
    have hd1 : decide ((S.size : Int) = 1) = d := by
      rw [← hd]
      by_cases h : c < 160
      · rw [decide_eq_true h, decide_eq_true (by have := hol.2.2.2 h; omega)]
      · rw [decide_eq_false h, decide_eq_false (by intro e; exact h (hol.2.2.1 (by omega)))]
    clear hS hn hbs hct
    go_wp2_with fail
    go_loopw [6] (fun i wr => ∃ k : Nat, i = .int .i64 k ∧ k ≤ S.size ∧ Below w.heap.size w wr) (fun i _ => S.size - (intOf i).toNat)
    case atStart => exact ⟨0, rfl, Nat.zero_le _, HB4.out⟩
    case round =>
      obtain ⟨k, rfl, hk, hB⟩ := hrel
      have HB : Hid (Below w.heap.size w wr) := hB
      clear hB
      by_cases hlt : k < S.size
      · have i1 : (k : Int) < (S.size : Int) := by omega
        go_wp2_with fail
        obtain ⟨x, hx⟩ : ∃ x : Nat, (S[k]'hlt).toNat = x := ⟨_, rfl⟩
        refine (ctl_any _ d wr ?_ ?_ ?_).mono ?_
        · omega
        · exact (HK.out k hlt).1
        · rw [← HD.out]; exact decide_eq_decide.2 (HK.out k hlt).2
        rintro e w5 ⟨rfl, b5⟩
        have HB5 : Hid (Below w.heap.size w w5) := below_two HB.out b5
        clear b5 HB
        go_wp2
        go_roundw
        case rel => exact ⟨k + 1, by go_num, by omega, HB5.out⟩
        case measure => simp [intOf]; omega
      · have hk2 : ¬ (k : Int) < (S.size : Int) := by omega
        clear HK HD hd hd1
        by_cases hc : c < 160
        · have h1 : S.size = 1 := hol.2.2.2 hc
          clear hol
          go_wp2
          go_ret
          exact ⟨by first | rfl | exact ret_bool (by simp [h1]), HB.out⟩
        · have h1 : ¬ S.size = 1 := fun e => hc (hol.2.2.1 e)
          have h2 : ((S.size : Int) == 1) = false := by simp; omega
          have h3 : (S.size : Int) ≥ 1 := by omega
          have h4 : (S.size : Int) ≤ 5 := by omega
          clear hol
          go_wp2
          go_ret
          exact ⟨by first | rfl | exact ret_bool (by simp [h1]), HB.out⟩
theorem reads (os : Os) {H : Type} (enc : TypeId × Value → H) : ∃ places, DataW.whole enc Tryd.prog ((({ World.holding Tryd.prog os ⟨#[], #[], []⟩ with heap := ((World.holding Tryd.prog os ⟨#[], #[], []⟩).heap.modify 0 M8.lay0) } : World)).forCall (fun _ _ => 0) ⟨#[], #[.int .u32 0], []⟩).memory Tryd.f15.params.toList Rows.ebcdicControlsSpec.vars false #[.int .u32 0].toList 8 = some ([.lit (.int .u32 0)], [], places) :=
  ⟨[], by kernel_rfl⟩
set_option maxRecDepth 100000 in
theorem lifted (os : Os) (started : os.Started) (H : Type) (enc : TypeId × Value → H) (Fi : Stop.Interp) :
    ReturnsInHanded {} Tryd.checked os 15 .any ((OpenSpec.ofChange Rows.ebcdicControlsSpec).preRow enc Tryd.prog Tryd.f15 Rows.ebcdicControlsRow.domain false Rows.ebcdicControlsRow.laid) (((OpenSpec.ofChange Rows.ebcdicControlsSpec).at Fi).post enc Tryd.prog Tryd.f15 false true false false) := by
  obtain ⟨places, hx⟩ := reads os enc
  refine returnsInHanded_of_row (C := Tryd.checked) (s := OpenSpec.ofChange Rows.ebcdicControlsSpec) Bas.own started (by kernel_rfl) Tryd.func15
    (witness_row_at (enc := enc) (C := Tryd.checked) false (({ World.holding Tryd.prog os ⟨#[], #[], []⟩ with heap := ((World.holding Tryd.prog os ⟨#[], #[], []⟩).heap.modify 0 M8.lay0) } : World)) #[.int .u32 0] rfl (by kernel_rfl) (by kernel_rfl) (by kernel_rfl)
      (OpenSpec.preRow_of_cond 8 hx (by kernel_rfl) (fun k hk => by cases hk) (by kernel_rfl) (M8.laid_met os _))) ?_
  intro W base args ds gs before hval0 hW _ _ _ hL _ _
  have hval : ∀ (j : Nat) t v, Tryd.f15.params[j]? = some t → args[j]? = some v → Value.okWide Tryd.prog W .any base t v := hval0
  have hW' := hW
  obtain ⟨p, q, hA0, hV, rfl, hfz, hnd⟩ := hW
  have hA : DataW.TrodAll enc Tryd.prog W 0 (fun _ => true) true Tryd.f15.params.toList args.toList ds p := hA0
  rw [Tryd.params15] at hA hval
  obtain ⟨v0, vs0, d0, ds0, p0, q0, hargs, rfl, rfl, h0, r0⟩ := trodAll_cons hA
  obtain ⟨rfl, rfl, rfl⟩ := trodAll_nil r0
  obtain rfl : args = #[v0] := by cases args; simp_all
  obtain ⟨rfl, rfl⟩ := trodVars_none hV
  have k0 := h0
  have lt0 : ∀ x ∈ p0, x.block < W.heap.size := by obtain ⟨m, hm⟩ := k0; exact DataW.trod_lt m _ _ _ hm
  obtain ⟨a0, rfl, rfl, rfl, w0⟩ := open_int Tryd.underlying43 (hval 0 43 v0 rfl rfl) h0
  refine (walk W (M8.tabs_of hL) a0 w0).mono fun e W' ⟨he, bel⟩ => ?_
  subst he
  exact ⟨_, rfl, _, _, _, [], _, [], hW', trodAll_mk1 (shut_bool Tryd.underlying4 _), (trodAll_cons_mk (Below.trod Bas.laidOut (by kernel_rfl) (of_decide_eq_true (by kernel_rfl)) k0 bel lt0) trodAll_mk0), rfl, bel.frame _, fun h => by cases h⟩


theorem over : Rows.ebcdicControlsRow.holds Tryd.pinned (OpenSpec.ofChange Rows.ebcdicControlsSpec) :=
  OpenClaim.holds_of_cond 15 Tryd.f15 rfl rfl rfl rfl rfl rfl rfl ⟨rfl, rfl, rfl, rfl, rfl⟩ rfl rfl rfl rfl rfl (by kernel_rfl) Tryd.func15 (by kernel_rfl)
    (of_decide_eq_true (by kernel_rfl)) (by unfold Func.isWrapper; first | (rw [if_pos (by decide +kernel)]; kernel_rfl) | (rw [if_neg (by decide +kernel)]; exact ⟨rfl, rfl⟩))
    (fun os started H enc _ Fi => by rw [OpenClaim.pre_eq_preRow]; exact lifted os started H enc Fi)
theorem plain (f : FuncId) (fn : Func) (hf : Tryd.pinned.checked.prog.funcNamed Rows.ebcdicControlsRow.func = some f) (hfn : Tryd.pinned.checked.prog.funcs[f]? = some fn) :
    false = Tryd.pinned.checked.prog.looks [] ∧ ∀ (j : Nat) t, fn.params[j]? = some t → Tryd.pinned.checked.prog.wantsStandIn t = false := by
  obtain rfl : f = 15 := Option.some.inj ((show Tryd.prog.funcNamed Rows.ebcdicControlsRow.func = some 15 by kernel_rfl).symm.trans hf) |>.symm
  obtain rfl : fn = Tryd.f15 := (Option.some.inj (Tryd.func15.symm.trans hfn)).symm
  refine ⟨by kernel_rfl, fun j t ht => ?_⟩
  rw [Tryd.params15] at ht
  have hm : t ∈ [43] := by simpa using Array.mem_of_getElem? ht
  have hall : ([43].all fun u => !Tryd.prog.wantsStandIn u) = true := by kernel_rfl
  exact (show Tryd.prog.wantsStandIn t = false by simpa using List.all_eq_true.1 hall t hm)
end Go.Proofs.YtjbgcclbomimiaaDoor.ebcdicControls
namespace Go.Proofs.YtjbgcclbomimiaaDoor
/-- The statement: the tied card. -/
theorem ebcdicControls_proved : Rows.EbcdicControlsCardSaid :=
  Claim7.holds_tied_plain_at .later [] _ _ _ _ ebcdicControls.over (fun _ h => by cases h) (by kernel_rfl) (fun _ h => by cases h) ebcdicControls_row_tie rfl ⟨rfl, rfl⟩ (by kernel_rfl) rfl ebcdicControls.plain (by kernel_rfl)
end Go.Proofs.YtjbgcclbomimiaaDoor
