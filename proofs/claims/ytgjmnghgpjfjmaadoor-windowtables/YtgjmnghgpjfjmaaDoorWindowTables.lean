/-
  Any index, and any window's number, stands for the offset that the document says, or for none, and a window holds just its 128 numbers: the statement WindowTables is proved, for every input. The condition is the card's own: the listed tables are as the program's text lays them.
-/
import Derived.Test.YtgjmnghgpjfjmaaDoorWinAwk
import Derived.Test.YtgjmnghgpjfjmaaDoorWinTab
import Derived.Test.YtgjmnghgpjfjmaaDoorWinRf1
import Derived.Test.YtgjmnghgpjfjmaaDoorOps3
namespace Go.Proofs.YtgjmnghgpjfjmaaDoor.windowTables
open Go.ChangeShapes Go.WideShapes Go.ChangeAt Go.RowKit
open Go.ChangeMaps (open_string shut_string)
open Bas Win
set_option linter.unusedVariables false

theorem statL_rng {k : Nat} (h : k < 8) : 0 ≤ nth statL k := by
  have hcs : k = 0 ∨ k = 1 ∨ k = 2 ∨ k = 3 ∨ k = 4 ∨ k = 5 ∨ k = 6 ∨ k = 7 := by omega
  rcases hcs with rfl | rfl | rfl | rfl | rfl | rfl | rfl | rfl <;> decide
set_option maxHeartbeats 4000000 in
set_option maxRecDepth 100000 in
theorem walk (w : World) (hT : Tabs w) (x : Int) (wx : (Lit.int .u8 x).wf = true) (n : Int) (wn : (Lit.int .i64 n).wf = true) (o c : Int) (wo : (Lit.int .u32 o).wf = true) (wc : (Lit.int .u32 c).wf = true) :
    Calls Tryd.prog 3 #[.int .u8 x, .int .i64 n, .agg #[.int .u32 o, .int .u32 c]] w fun e w' => e = .returned (.bool true) ∧ Below w.heap.size w w' := by
  obtain ⟨x0, x1⟩ := byte_of wx
  obtain ⟨c0, c1⟩ := u32_of wc
  obtain ⟨o0, o1⟩ := u32_of wo
  have ex : IntKind.i64.wrap x = x := by rw [wrap_i64w _ (by omega) (by omega)]
  have HT : Hid (Tabs w) := hT
  clear wx wn wo wc hT
  have HB0 : Hid (Below w.heap.size w (w.alloc (.cells #[.int .u32 o, .int .u32 c] 23)) ∧ Tabs (w.alloc (.cells #[.int .u32 o, .int .u32 c] 23))) := ⟨(Below.refl _ _).alloc (Nat.le_refl _) _, HT.out.below ((Below.refl _ _).alloc (Nat.le_refl _) _)⟩
  go_enter Tryd.func3, Tryd.ntmps3
  go_upto_region 1 with fail
  go_quiet (fail)
  go_wp2_with fail
  refine (offset_any x _ (HB0.out.2.drewN _) x0 x1).mono ?_
  rintro e w1 ⟨rfl, hw⟩
  have HB1 : Hid (Below w.heap.size w w1 ∧ Tabs w1) := by rw [hw]; exact ⟨below_two HB0.out.1 (below_dn _ _), HB0.out.2.drewN _⟩
  clear hw HB0 HT
  go_wp2_with fail
  refine (rOffset_any x w1).mono ?_
  rintro e w2 ⟨rfl, hB⟩
  have HB2 : Hid (Below w.heap.size w w2 ∧ Tabs w2) := ⟨below_two HB1.out.1 hB, HB1.out.2.below hB⟩
  clear hB HB1
  go_wp2_with fail
  refine (static_any n w2 HB2.out.2).mono ?_
  rintro e w3 ⟨rfl, hw⟩
  rw [hw]
  clear hw w3
  go_wp2_with fail
  refine (awake_any w2 HB2.out.2).mono ?_
  rintro e w3 ⟨rfl, hB⟩
  have HB3 : Hid (Below w.heap.size w w3 ∧ Tabs w3) := ⟨below_two HB2.out.1 hB, HB2.out.2.below hB⟩
  clear hB HB2
  go_wp2_with fail
  refine (new_at w3).mono ?_
  rintro e w4 ⟨rfl, hv, hB, hz⟩
  obtain ⟨b, hb⟩ : ∃ b, w3.heap.size = b := ⟨_, rfl⟩
  rw [hb] at hv
  have HB4 : Hid (Below w.heap.size w w4 ∧ WinV w4 b 0 firstL8 used0) := ⟨below_two HB3.out.1 hB, hv⟩
  rw [hb]
  clear hB hb hv hz HB3
  go_wp2_with fail
  refine (holds_any o c w4 o0 o1 c0 c1).mono ?_
  rintro e w5 ⟨rfl, hw⟩
  rw [hw]
  clear hw w5
  go_wp2_with fail
  refine (rHolds_any o c w4 o0 o1 c0 c1).mono ?_
  rintro e w5 ⟨rfl, hw⟩
  rw [hw]
  clear hw w5
  by_cases hn : 0 ≤ n ∧ n ≤ 7
  · obtain ⟨k, rfl⟩ := Int.eq_ofNat_of_zero_le hn.1
    have hk : k < 8 := by omega
    have i1 : ¬ (7 : Int) < (k : Int) := by omega
    have i2 : (k : Int) < 8 := by omega
    rw [atW_yes _ k hk, isW_yes hn.1 hn.2]
    have HA : Hid (∀ w, WinV w b 0 firstL8 used0 → Calls Tryd.prog 15 #[.pointer (some ⟨b, 0, none⟩), .int .i64 (k : Int)] w fun e w' => e = .returned (.int .u32 (nth firstL8 k)) ∧ w' = w) := fun w h => by
      have := at_any b 0 (k : Int) firstL8 used0 w h
      rwa [atW_yes _ k hk] at this
    clear hn
    go_wp2_with fail
    refine (rStatics_any w4).mono ?_
    rintro e w5 ⟨rfl, hs, hB, hz⟩
    obtain ⟨g, hg⟩ : ∃ g, w4.heap.size = g := ⟨_, rfl⟩
    rw [hg] at hs ⊢
    have HB5 : Hid (Below w.heap.size w w5 ∧ WinV w5 b 0 firstL8 used0) := ⟨below_two HB4.out.1 hB, HB4.out.2.below hB⟩
    obtain ⟨g', of', ha, hc, -⟩ := hs.at (j := k) hk
    simp only [Option.some.injEq, Addr.mk.injEq] at ha
    obtain ⟨rfl, rfl, -⟩ := ha
    rw [Nat.zero_add] at hc
    obtain ⟨S, hS⟩ : ∃ S, nth statL k = S := ⟨_, rfl⟩
    rw [hS] at hc ⊢
    clear hs hB hz hg hS HB4
    go_wp2_with fail
    refine (HA.out w5 HB5.out.2).mono ?_
    rintro e w6 ⟨rfl, hw⟩
    rw [hw]
    clear hw w6 hc HA
    go_wp2_with fail
    refine (rFirsts_any w5).mono ?_
    rintro e w6 ⟨rfl, hs, hB, hz⟩
    obtain ⟨g, hg⟩ : ∃ g, w5.heap.size = g := ⟨_, rfl⟩
    rw [hg] at hs ⊢
    have HB6 : Hid (Below w.heap.size w w6) := below_two HB5.out.1 hB
    obtain ⟨g', of', ha, hc, -⟩ := hs.at (j := k) hk
    simp only [Option.some.injEq, Addr.mk.injEq] at ha
    obtain ⟨rfl, rfl, -⟩ := ha
    rw [Nat.zero_add] at hc
    obtain ⟨T, hT⟩ : ∃ T, nth firstL8 k = T := ⟨_, rfl⟩
    rw [hT] at hc ⊢
    clear hs hB hz hg hT HB5
    go_wp2
    go_ret
    exact ⟨rfl, HB6.out⟩
  · rw [atW_no _ (by omega), isW_no (by omega)]
    have HA : Hid (∀ w, WinV w b 0 firstL8 used0 → Calls Tryd.prog 15 #[.pointer (some ⟨b, 0, none⟩), .int .i64 n] w fun e w' => e = .returned (.int .u32 0) ∧ w' = w) := fun w h => by
      have := at_any b 0 n firstL8 used0 w h
      rwa [atW_no _ (by omega)] at this
    by_cases h0 : n < 0
    · clear hn
      go_wp2_with fail
      refine (HA.out w4 HB4.out.2).mono ?_
      rintro e w5 ⟨rfl, hw⟩
      rw [hw]
      clear hw w5
      go_wp2
      go_ret
      exact ⟨rfl, HB4.out.1⟩
    · have h7 : 7 < n := by omega
      clear hn
      go_wp2_with fail
      refine (HA.out w4 HB4.out.2).mono ?_
      rintro e w5 ⟨rfl, hw⟩
      rw [hw]
      clear hw w5
      go_wp2
      go_ret
      exact ⟨rfl, HB4.out.1⟩
theorem reads (os : Os) {H : Type} (enc : TypeId × Value → H) : ∃ places, DataW.whole enc Tryd.prog ((({ World.holding Tryd.prog os ⟨#[], #[], []⟩ with heap := (((World.holding Tryd.prog os ⟨#[], #[], []⟩).heap.modify 0 Win.lay0).modify 1 Win.lay1) } : World)).forCall (fun _ _ => 0) ⟨#[], #[.int .u8 0, .int .i64 0, .agg #[.int .u32 0, .int .u32 0]], []⟩).memory Tryd.f3.params.toList Rows.windowTablesSpec.vars false #[.int .u8 0, .int .i64 0, .agg #[.int .u32 0, .int .u32 0]].toList 8 = some ([.lit (.int .u8 0), .lit (.int .i64 0), .agg [.lit (.int .u32 0), .lit (.int .u32 0)]], [], places) :=
  ⟨[], by kernel_rfl⟩
set_option maxRecDepth 100000 in
theorem lifted (os : Os) (started : os.Started) (H : Type) (enc : TypeId × Value → H) (Fi : Stop.Interp) :
    ReturnsInHanded {} Tryd.checked os 3 .any ((OpenSpec.ofChange Rows.windowTablesSpec).preRow enc Tryd.prog Tryd.f3 Rows.windowTablesRow.domain false Rows.windowTablesRow.laid) (((OpenSpec.ofChange Rows.windowTablesSpec).at Fi).post enc Tryd.prog Tryd.f3 false true false false) := by
  obtain ⟨places, hx⟩ := reads os enc
  refine returnsInHanded_of_row (C := Tryd.checked) (s := OpenSpec.ofChange Rows.windowTablesSpec) Bas.own started (by kernel_rfl) Tryd.func3
    (witness_row_at (enc := enc) (C := Tryd.checked) false (({ World.holding Tryd.prog os ⟨#[], #[], []⟩ with heap := (((World.holding Tryd.prog os ⟨#[], #[], []⟩).heap.modify 0 Win.lay0).modify 1 Win.lay1) } : World)) #[.int .u8 0, .int .i64 0, .agg #[.int .u32 0, .int .u32 0]] rfl (by kernel_rfl) (by kernel_rfl) (by kernel_rfl)
      (OpenSpec.preRow_of_cond 8 hx (by kernel_rfl) (fun k hk => by cases hk) (by kernel_rfl) (Win.laid_met os _))) ?_
  intro W base args ds gs before hval0 hW _ _ _ hL _ _
  have hval : ∀ (j : Nat) t v, Tryd.f3.params[j]? = some t → args[j]? = some v → Value.okWide Tryd.prog W .any base t v := hval0
  have hW' := hW
  obtain ⟨p, q, hA0, hV, rfl, hfz, hnd⟩ := hW
  have hA : DataW.TrodAll enc Tryd.prog W 0 (fun _ => true) true Tryd.f3.params.toList args.toList ds p := hA0
  rw [Tryd.params3] at hA hval
  obtain ⟨v0, vs0, d0, ds0, p0, q0, hargs, rfl, rfl, h0, r0⟩ := trodAll_cons hA
  obtain ⟨v1, vs1, d1, ds1, p1, q1, rfl, rfl, rfl, h1, r1⟩ := trodAll_cons r0
  obtain ⟨v2, vs2, d2, ds2, p2, q2, rfl, rfl, rfl, h2, r2⟩ := trodAll_cons r1
  obtain ⟨rfl, rfl, rfl⟩ := trodAll_nil r2
  obtain rfl : args = #[v0, v1, v2] := by cases args; simp_all
  obtain ⟨rfl, rfl⟩ := trodVars_none hV
  have k0 := h0
  have lt0 : ∀ x ∈ p0, x.block < W.heap.size := by obtain ⟨m, hm⟩ := k0; exact DataW.trod_lt m _ _ _ hm
  have k1 := h1
  have lt1 : ∀ x ∈ p1, x.block < W.heap.size := by obtain ⟨m, hm⟩ := k1; exact DataW.trod_lt m _ _ _ hm
  have k2 := h2
  have lt2 : ∀ x ∈ p2, x.block < W.heap.size := by obtain ⟨m, hm⟩ := k2; exact DataW.trod_lt m _ _ _ hm
  obtain ⟨a0, rfl, rfl, rfl, w0⟩ := open_int Tryd.underlying5 (hval 0 5 v0 rfl rfl) h0
  obtain ⟨a1, rfl, rfl, rfl, w1⟩ := open_int Tryd.underlying3 (hval 1 3 v1 rfl rfl) h1
  obtain ⟨a2, b2, rfl, w2, x2⟩ := Op3.two_of Tryd.underlying23 Tryd.underlying22 (by kernel_rfl) (by kernel_rfl) (hval 2 23 v2 rfl rfl) h2
  refine (walk W (Win.tabs_of hL) a0 w0 a1 w1 a2 b2 w2 x2).mono fun e W' ⟨he, bel⟩ => ?_
  subst he
  exact ⟨_, rfl, _, _, _, [], _, [], hW', trodAll_mk1 (shut_bool Tryd.underlying4 _), (trodAll_cons_mk (Below.trod Bas.laidOut (by kernel_rfl) (of_decide_eq_true (by kernel_rfl)) k0 bel lt0) (trodAll_cons_mk (Below.trod Bas.laidOut (by kernel_rfl) (of_decide_eq_true (by kernel_rfl)) k1 bel lt1) (trodAll_cons_mk (Below.trod Bas.laidOut (by kernel_rfl) (of_decide_eq_true (by kernel_rfl)) k2 bel lt2) trodAll_mk0))), rfl, bel.frame _, fun h => by cases h⟩


theorem over : Rows.windowTablesRow.holds Tryd.pinned (OpenSpec.ofChange Rows.windowTablesSpec) :=
  OpenClaim.holds_of_cond 3 Tryd.f3 rfl rfl rfl rfl rfl rfl rfl ⟨rfl, rfl, rfl, rfl, rfl⟩ rfl rfl rfl rfl rfl (by kernel_rfl) Tryd.func3 (by kernel_rfl)
    (of_decide_eq_true (by kernel_rfl)) (by unfold Func.isWrapper; first | (rw [if_pos (by decide +kernel)]; kernel_rfl) | (rw [if_neg (by decide +kernel)]; exact ⟨rfl, rfl⟩))
    (fun os started H enc _ Fi => by rw [OpenClaim.pre_eq_preRow]; exact lifted os started H enc Fi)
theorem plain (f : FuncId) (fn : Func) (hf : Tryd.pinned.checked.prog.funcNamed Rows.windowTablesRow.func = some f) (hfn : Tryd.pinned.checked.prog.funcs[f]? = some fn) :
    false = Tryd.pinned.checked.prog.looks [] ∧ ∀ (j : Nat) t, fn.params[j]? = some t → Tryd.pinned.checked.prog.wantsStandIn t = false := by
  obtain rfl : f = 3 := Option.some.inj ((show Tryd.prog.funcNamed Rows.windowTablesRow.func = some 3 by kernel_rfl).symm.trans hf) |>.symm
  obtain rfl : fn = Tryd.f3 := (Option.some.inj (Tryd.func3.symm.trans hfn)).symm
  refine ⟨by kernel_rfl, fun j t ht => ?_⟩
  rw [Tryd.params3] at ht
  have hm : t ∈ [5, 3, 23] := by simpa using Array.mem_of_getElem? ht
  have hall : ([5, 3, 23].all fun u => !Tryd.prog.wantsStandIn u) = true := by kernel_rfl
  exact (show Tryd.prog.wantsStandIn t = false by simpa using List.all_eq_true.1 hall t hm)
end Go.Proofs.YtgjmnghgpjfjmaaDoor.windowTables
namespace Go.Proofs.YtgjmnghgpjfjmaaDoor
/-- The statement: the tied card. -/
theorem windowTables_proved : Rows.WindowTablesCardSaid :=
  Claim7.holds_tied_plain_at .later [] _ _ _ _ windowTables.over (fun _ h => by cases h) (by kernel_rfl) (fun _ h => by cases h) windowTables_row_tie rfl ⟨rfl, rfl⟩ (by kernel_rfl) rfl windowTables.plain (by kernel_rfl)
end Go.Proofs.YtgjmnghgpjfjmaaDoor
