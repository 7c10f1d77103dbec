/-
  Two bytes stand for a window and an offset, a number beyond has two bytes for each window, which stand for that one, and hold it, and these are the only ones that do: the statement WindowPairs is proved, for every input. The condition is the card's own: the listed tables are as the program's text lays them.
-/
import Derived.Test.YtgjmnghgpjfjmaaDoorWinAwk
import Derived.Test.YtgjmnghgpjfjmaaDoorWinTab
import Derived.Test.YtgjmnghgpjfjmaaDoorOps3
namespace Go.Proofs.YtgjmnghgpjfjmaaDoor.windowPairs
open Go.ChangeShapes Go.WideShapes Go.ChangeAt Go.RowKit
open Go.ChangeMaps (open_string shut_string)
open Bas Win
set_option linter.unusedVariables false

theorem info_u8 : (Tryd.prog.info? 5).map (fun i => (i.zero, i.size, i.bytes)) = some (some (.int .u8 0), 1, 1) := by kernel_rfl
/-- Two arrays of two bytes are the same, if both bytes are. -/
theorem eq_two (a b c d : Int) (w : World) : (Op.equalIn 10000 39 (.agg #[.int .u8 a, .int .u8 b]) (.agg #[.int .u8 c, .int .u8 d])).run Tryd.prog w = .ok (a == c && b == d) w := by
  obtain ⟨i, hi, -, hsz, -⟩ := info_parts info_u8
  rw [show (10000 : Nat) = 9998 + 1 + 1 from rfl, Op.equalIn]
  simp only [Sem.run_bind, run_underlying Tryd.underlying39, Result.andThen_ok]
  have hs : (sizeOf 5).run Tryd.prog w = .ok 1 w := by simp [sizeOf, typeInfo, hi, hsz]
  simp only [hs, Result.andThen_ok]
  have hp0 : ∀ x y : Int, (part 5 #[.int .u8 x, .int .u8 y] 0).run Tryd.prog w = .ok (.int .u8 x) w := fun x y => by simp [part, isAgg, run_underlying Tryd.underlying5, sizeOf, typeInfo, hi, hsz]
  have hp1 : ∀ x y : Int, (part 5 #[.int .u8 x, .int .u8 y] 1).run Tryd.prog w = .ok (.int .u8 y) w := fun x y => by simp [part, isAgg, run_underlying Tryd.underlying5, sizeOf, typeInfo, hi, hsz]
  have he : ∀ x y : Int, (Op.equalIn (9998 + 1) 5 (.int .u8 x) (.int .u8 y)).run Tryd.prog w = .ok (x == y) w := fun x y => run_equalIn_int w 9998 5 .u8 .u8 x y Tryd.underlying5
  cases h1 : (a == c) <;> cases h2 : (b == d) <;> simp [Std.Legacy.Range.forIn_eq_forIn_range', List.range', hp0, hp1, he, h1, h2]
theorem eq_yes (a b : Int) (w : World) : (Op.equalIn 10000 39 (.agg #[.int .u8 a, .int .u8 b]) (.agg #[.int .u8 a, .int .u8 b])).run Tryd.prog w = .ok true w := by
  rw [eq_two]; simp
theorem eq_no {a b c d : Int} (h : ¬ (a = c ∧ b = d)) (w : World) : (Op.equalIn 10000 39 (.agg #[.int .u8 a, .int .u8 b]) (.agg #[.int .u8 c, .int .u8 d])).run Tryd.prog w = .ok false w := by
  rw [eq_two]
  have : (a == c && b == d) = false := Bool.eq_false_iff.2 (fun e => h (by simpa using e))
  rw [this]
set_option maxHeartbeats 4000000 in
set_option maxRecDepth 100000 in
theorem walk (w : World) (hT : Tabs w) (n : Int) (wn : (Lit.int .i64 n).wf = true) (c : Int) (wc : (Lit.int .u32 c).wf = true) (x y : Int) (wx : (Lit.int .u8 x).wf = true) (wy : (Lit.int .u8 y).wf = true) :
    Calls Tryd.prog 5 #[.int .i64 n, .int .u32 c, .agg #[.int .u8 x, .int .u8 y]] w fun e w' => e = .returned (.bool true) ∧ Below w.heap.size w w' := by
  obtain ⟨x0, x1⟩ := byte_of wx
  obtain ⟨y0, y1⟩ := byte_of wy
  obtain ⟨c0, c1⟩ := u32_of wc
  have HT : Hid (Tabs w) := hT
  clear wx wn wy wc hT
  have HB0 : Hid (Below w.heap.size w (w.alloc (.cells #[.int .u8 x, .int .u8 y] 39)) ∧ Tabs (w.alloc (.cells #[.int .u8 x, .int .u8 y] 39))) := ⟨(Below.refl _ _).alloc (Nat.le_refl _) _, HT.out.below ((Below.refl _ _).alloc (Nat.le_refl _) _)⟩
  have c0' : (w.alloc (.cells #[.int .u8 x, .int .u8 y] 39)).cell? ⟨w.heap.size, 0, none⟩ = some (.int .u8 x) := by simp
  have c1' : (w.alloc (.cells #[.int .u8 x, .int .u8 y] 39)).cell? ⟨w.heap.size, 1, none⟩ = some (.int .u8 y) := by simp
  go_enter Tryd.func5, Tryd.ntmps5
  go_wp2_with fail
  refine (pair_any n c _ c0 c1).mono ?_
  rintro e w1 ⟨rfl, hw⟩
  rw [hw]
  clear hw w1
  go_wp2_with fail
  refine (awake_any _ HB0.out.2).mono ?_
  rintro e w1 ⟨rfl, hB⟩
  have d0 := cell_later hB c0'
  have d1 := cell_later hB c1'
  have HB1 : Hid (Below w.heap.size w w1) := below_two HB0.out.1 hB
  obtain ⟨b, hb⟩ : ∃ b, w.heap.size = b := ⟨_, rfl⟩
  rw [hb] at d0 d1 ⊢
  clear hB HB0 c0' c1' HT
  have HX : Hid (extN x = x / 32 ∧ extO x y = 65536 + 128 * (x % 32 * 256 + y)) := ⟨rfl, rfl⟩
  have e1 : x % 32 * 256 % 4294967296 = x % 32 * 256 := by omega
  by_cases hp : 0 ≤ n ∧ n ≤ 7 ∧ 65536 ≤ c ∧ c ≤ 1114111
  · have HE : Hid (pairB n c = true) := pairB_iff.2 hp
    unfold pairV
    rw [HE.out, if_pos rfl, if_pos rfl]
    have hg := pair_rng hp.1 hp.2.1 hp.2.2.1 hp.2.2.2
    have HPE : Hid (extN (pairH n c) = n ∧ hasI (extO (pairH n c) (pairL c)) c = true) := pair_ext hp.1 hp.2.1 hp.2.2.1 hp.2.2.2
    have hxr := ext_rng hg.1 hg.2.1 hg.2.2.1 hg.2.2.2
    have hyr := ext_rng x0 x1 y0 y1
    have HO : Hid ((x = pairH n c ∧ y = pairL c) ↔ (extN x = n ∧ hasI (extO x y) c = true)) := pair_only hp.1 hp.2.1 hp.2.2.1 hp.2.2.2 x0 x1 y0 y1
    have HEH : Hid (∀ w, Calls Tryd.prog 21 #[.int .u8 (pairH n c), .int .u8 (pairL c)] w fun e w' => e = .returned (.tuple #[.int .i64 n, .int .u32 (extO (pairH n c) (pairL c))]) ∧ w' = w) := fun w => by
      have := ext_any (pairH n c) (pairL c) w hg.1 hg.2.1 hg.2.2.1 hg.2.2.2
      rwa [HPE.out.1] at this
    have HHH : Hid (∀ w, Calls Tryd.prog 13 #[.int .u32 (extO (pairH n c) (pairL c)), .int .u32 c] w fun e w' => e = .returned (.bool true) ∧ w' = w) := fun w => by
      have := holds_any (extO (pairH n c) (pairL c)) c w (by omega) (by omega) c0 c1
      rwa [HPE.out.2] at this
    have HHX : Hid (∀ w, Calls Tryd.prog 13 #[.int .u32 (extO x y), .int .u32 c] w fun e w' => e = .returned (.bool (hasI (extO x y) c)) ∧ w' = w) := fun w => holds_any (extO x y) c w (by omega) (by omega) c0 c1
    obtain ⟨h, hh⟩ : ∃ h, pairH n c = h := ⟨_, rfl⟩
    obtain ⟨l, hl⟩ : ∃ l, pairL c = l := ⟨_, rfl⟩
    rw [hh, hl] at HO HEH HHH ⊢
    obtain ⟨O, hO⟩ : ∃ O, extO h l = O := ⟨_, rfl⟩
    rw [hO] at HEH HHH
    obtain ⟨p0, p1, p2, p3⟩ := hp
    clear hh hl hO hg hxr hyr HPE HE
    go_wp2_with fail
    refine (ext_any x y w1 x0 x1 y0 y1).mono ?_
    rintro e w2 ⟨rfl, hw⟩
    rw [hw]
    clear hw w2
    rw [HX.out.1]
    have HXO : Hid (extO x y = 65536 + 128 * (x % 32 * 256 + y)) := HX.out.2
    rw [HX.out.2] at HHX HO ⊢
    rw [HX.out.1] at HO
    go_wp2_with fail
    refine (HEH.out w1).mono ?_
    rintro e w2 ⟨rfl, hw⟩
    rw [hw]
    clear hw w2
    go_upto_region 10 with fail
    obtain ⟨X, hX⟩ : ∃ X, 65536 + 128 * (x % 32 * 256 + y) = X := ⟨_, rfl⟩
    obtain ⟨q, hq⟩ : ∃ q, x / 32 = q := ⟨_, rfl⟩
    rw [hX] at HHX HO ⊢
    rw [hq] at HO ⊢
    clear hX hq HXO HX e1
    by_cases hxy : x = h ∧ y = l
    · obtain ⟨rfl, rfl⟩ := hxy
      obtain ⟨hqn, hxc⟩ := HO.out.1 ⟨rfl, rfl⟩
      rw [hxc] at HHX
      subst hqn
      have heq := fun w => eq_yes x y w
      clear hxc HO
      go_quiet (first | (go_at_call_of 13 (Value.int IntKind.u32 O); exact Calls.quiet_of_same (HHH.out _)) | (go_at_call_of 13 (Value.int IntKind.u32 X); exact Calls.quiet_of_same (HHX.out _)))
      go_wp2
      go_ret
      exact ⟨rfl, below_two HB1.out (below_dn _ _)⟩
    · have hno : ¬ (q = n ∧ hasI X c = true) := fun h => hxy (HO.out.2 h)
      have heq := fun w => eq_no hxy w
      clear hxy HO
      by_cases hqn : q = n
      · have hxc : hasI X c = false := Bool.eq_false_iff.2 (fun h => hno ⟨hqn, h⟩)
        rw [hxc] at HHX
        subst hqn
        clear hxc hno
        go_quiet (first | (go_at_call_of 13 (Value.int IntKind.u32 O); exact Calls.quiet_of_same (HHH.out _)) | (go_at_call_of 13 (Value.int IntKind.u32 X); exact Calls.quiet_of_same (HHX.out _)))
        go_wp2
        go_ret
        exact ⟨rfl, below_two HB1.out (below_dn _ _)⟩
      · clear hno HHX
        go_quiet (first | (go_at_call_of 13 (Value.int IntKind.u32 O); exact Calls.quiet_of_same (HHH.out _)))
        go_wp2
        go_ret
        exact ⟨rfl, below_two HB1.out (below_dn _ _)⟩
  · have HE : Hid (pairB n c = false) := pairB_not.2 hp
    unfold pairV
    rw [HE.out, if_neg (by decide), if_neg (by decide)]
    clear HE
    by_cases h1 : 0 ≤ n
    · by_cases h2 : n ≤ 7
      · by_cases h3 : 65536 ≤ c
        · have h4 : ¬ c ≤ 1114111 := fun h => hp ⟨h1, h2, h3, h⟩
          clear hp
          go_wp2_with fail
          refine (ext_any x y w1 x0 x1 y0 y1).mono ?_
          rintro e w2 ⟨rfl, hw⟩
          rw [hw, HX.out.1, HX.out.2]
          clear hw w2
          go_wp2
          go_ret
          exact ⟨rfl, HB1.out⟩
        · clear hp
          go_wp2_with fail
          refine (ext_any x y w1 x0 x1 y0 y1).mono ?_
          rintro e w2 ⟨rfl, hw⟩
          rw [hw, HX.out.1, HX.out.2]
          clear hw w2
          go_wp2
          go_ret
          exact ⟨rfl, HB1.out⟩
      · clear hp
        go_wp2_with fail
        refine (ext_any x y w1 x0 x1 y0 y1).mono ?_
        rintro e w2 ⟨rfl, hw⟩
        rw [hw, HX.out.1, HX.out.2]
        clear hw w2
        go_wp2
        go_ret
        exact ⟨rfl, HB1.out⟩
    · clear hp
      go_wp2_with fail
      refine (ext_any x y w1 x0 x1 y0 y1).mono ?_
      rintro e w2 ⟨rfl, hw⟩
      rw [hw, HX.out.1, HX.out.2]
      clear hw w2
      go_wp2
      go_ret
      exact ⟨rfl, HB1.out⟩
theorem reads (os : Os) {H : Type} (enc : TypeId × Value → H) : ∃ places, DataW.whole enc Tryd.prog ((({ World.holding Tryd.prog os ⟨#[], #[], []⟩ with heap := (((World.holding Tryd.prog os ⟨#[], #[], []⟩).heap.modify 0 Win.lay0).modify 1 Win.lay1) } : World)).forCall (fun _ _ => 0) ⟨#[], #[.int .i64 0, .int .u32 0, .agg #[.int .u8 0, .int .u8 0]], []⟩).memory Tryd.f5.params.toList Rows.windowPairsSpec.vars false #[.int .i64 0, .int .u32 0, .agg #[.int .u8 0, .int .u8 0]].toList 8 = some ([.lit (.int .i64 0), .lit (.int .u32 0), .agg [.lit (.int .u8 0), .lit (.int .u8 0)]], [], places) :=
  ⟨[], by kernel_rfl⟩
set_option maxRecDepth 100000 in
theorem lifted (os : Os) (started : os.Started) (H : Type) (enc : TypeId × Value → H) (Fi : Stop.Interp) :
    ReturnsInHanded {} Tryd.checked os 5 .any ((OpenSpec.ofChange Rows.windowPairsSpec).preRow enc Tryd.prog Tryd.f5 Rows.windowPairsRow.domain false Rows.windowPairsRow.laid) (((OpenSpec.ofChange Rows.windowPairsSpec).at Fi).post enc Tryd.prog Tryd.f5 false true false false) := by
  obtain ⟨places, hx⟩ := reads os enc
  refine returnsInHanded_of_row (C := Tryd.checked) (s := OpenSpec.ofChange Rows.windowPairsSpec) Bas.own started (by kernel_rfl) Tryd.func5
    (witness_row_at (enc := enc) (C := Tryd.checked) false (({ World.holding Tryd.prog os ⟨#[], #[], []⟩ with heap := (((World.holding Tryd.prog os ⟨#[], #[], []⟩).heap.modify 0 Win.lay0).modify 1 Win.lay1) } : World)) #[.int .i64 0, .int .u32 0, .agg #[.int .u8 0, .int .u8 0]] rfl (by kernel_rfl) (by kernel_rfl) (by kernel_rfl)
      (OpenSpec.preRow_of_cond 8 hx (by kernel_rfl) (fun k hk => by cases hk) (by kernel_rfl) (Win.laid_met os _))) ?_
  intro W base args ds gs before hval0 hW _ _ _ hL _ _
  have hval : ∀ (j : Nat) t v, Tryd.f5.params[j]? = some t → args[j]? = some v → Value.okWide Tryd.prog W .any base t v := hval0
  have hW' := hW
  obtain ⟨p, q, hA0, hV, rfl, hfz, hnd⟩ := hW
  have hA : DataW.TrodAll enc Tryd.prog W 0 (fun _ => true) true Tryd.f5.params.toList args.toList ds p := hA0
  rw [Tryd.params5] at hA hval
  obtain ⟨v0, vs0, d0, ds0, p0, q0, hargs, rfl, rfl, h0, r0⟩ := trodAll_cons hA
  obtain ⟨v1, vs1, d1, ds1, p1, q1, rfl, rfl, rfl, h1, r1⟩ := trodAll_cons r0
  obtain ⟨v2, vs2, d2, ds2, p2, q2, rfl, rfl, rfl, h2, r2⟩ := trodAll_cons r1
  obtain ⟨rfl, rfl, rfl⟩ := trodAll_nil r2
  obtain rfl : args = #[v0, v1, v2] := by cases args; simp_all
  obtain ⟨rfl, rfl⟩ := trodVars_none hV
  have k0 := h0
  have lt0 : ∀ x ∈ p0, x.block < W.heap.size := by obtain ⟨m, hm⟩ := k0; exact DataW.trod_lt m _ _ _ hm
  have k1 := h1
  have lt1 : ∀ x ∈ p1, x.block < W.heap.size := by obtain ⟨m, hm⟩ := k1; exact DataW.trod_lt m _ _ _ hm
  have k2 := h2
  have lt2 : ∀ x ∈ p2, x.block < W.heap.size := by obtain ⟨m, hm⟩ := k2; exact DataW.trod_lt m _ _ _ hm
  obtain ⟨a0, rfl, rfl, rfl, w0⟩ := open_int Tryd.underlying3 (hval 0 3 v0 rfl rfl) h0
  obtain ⟨a1, rfl, rfl, rfl, w1⟩ := open_int Tryd.underlying22 (hval 1 22 v1 rfl rfl) h1
  obtain ⟨a2, b2, rfl, w2, x2⟩ := Op3.two_of Tryd.underlying39 Tryd.underlying5 (by kernel_rfl) (by kernel_rfl) (hval 2 39 v2 rfl rfl) h2
  refine (walk W (Win.tabs_of hL) a0 w0 a1 w1 a2 b2 w2 x2).mono fun e W' ⟨he, bel⟩ => ?_
  subst he
  exact ⟨_, rfl, _, _, _, [], _, [], hW', trodAll_mk1 (shut_bool Tryd.underlying4 _), (trodAll_cons_mk (Below.trod Bas.laidOut (by kernel_rfl) (of_decide_eq_true (by kernel_rfl)) k0 bel lt0) (trodAll_cons_mk (Below.trod Bas.laidOut (by kernel_rfl) (of_decide_eq_true (by kernel_rfl)) k1 bel lt1) (trodAll_cons_mk (Below.trod Bas.laidOut (by kernel_rfl) (of_decide_eq_true (by kernel_rfl)) k2 bel lt2) trodAll_mk0))), rfl, bel.frame _, fun h => by cases h⟩


theorem over : Rows.windowPairsRow.holds Tryd.pinned (OpenSpec.ofChange Rows.windowPairsSpec) :=
  OpenClaim.holds_of_cond 5 Tryd.f5 rfl rfl rfl rfl rfl rfl rfl ⟨rfl, rfl, rfl, rfl, rfl⟩ rfl rfl rfl rfl rfl (by kernel_rfl) Tryd.func5 (by kernel_rfl)
    (of_decide_eq_true (by kernel_rfl)) (by unfold Func.isWrapper; first | (rw [if_pos (by decide +kernel)]; kernel_rfl) | (rw [if_neg (by decide +kernel)]; exact ⟨rfl, rfl⟩))
    (fun os started H enc _ Fi => by rw [OpenClaim.pre_eq_preRow]; exact lifted os started H enc Fi)
theorem plain (f : FuncId) (fn : Func) (hf : Tryd.pinned.checked.prog.funcNamed Rows.windowPairsRow.func = some f) (hfn : Tryd.pinned.checked.prog.funcs[f]? = some fn) :
    false = Tryd.pinned.checked.prog.looks [] ∧ ∀ (j : Nat) t, fn.params[j]? = some t → Tryd.pinned.checked.prog.wantsStandIn t = false := by
  obtain rfl : f = 5 := Option.some.inj ((show Tryd.prog.funcNamed Rows.windowPairsRow.func = some 5 by kernel_rfl).symm.trans hf) |>.symm
  obtain rfl : fn = Tryd.f5 := (Option.some.inj (Tryd.func5.symm.trans hfn)).symm
  refine ⟨by kernel_rfl, fun j t ht => ?_⟩
  rw [Tryd.params5] at ht
  have hm : t ∈ [3, 22, 39] := by simpa using Array.mem_of_getElem? ht
  have hall : ([3, 22, 39].all fun u => !Tryd.prog.wantsStandIn u) = true := by kernel_rfl
  exact (show Tryd.prog.wantsStandIn t = false by simpa using List.all_eq_true.1 hall t hm)
end Go.Proofs.YtgjmnghgpjfjmaaDoor.windowPairs
namespace Go.Proofs.YtgjmnghgpjfjmaaDoor
/-- The statement: the tied card. -/
theorem windowPairs_proved : Rows.WindowPairsCardSaid :=
  Claim7.holds_tied_plain_at .later [] _ _ _ _ windowPairs.over (fun _ h => by cases h) (by kernel_rfl) (fun _ h => by cases h) windowPairs_row_tie rfl ⟨rfl, rfl⟩ (by kernel_rfl) rfl windowPairs.plain (by kernel_rfl)
end Go.Proofs.YtgjmnghgpjfjmaaDoor
