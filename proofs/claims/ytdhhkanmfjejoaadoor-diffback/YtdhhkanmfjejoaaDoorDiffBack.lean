/-
  A difference's bytes begin that difference alone, and each beginning of them a span in which it lies: the statement DiffBack is proved, for every input. The condition is the card's own: the listed tables are as the program's text lays them.
-/
import Derived.Test.YtdhhkanmfjejoaaDoorDifAwk
import Derived.Test.YtdhhkanmfjejoaaDoorDifTab
import Derived.Test.YtdhhkanmfjejoaaDoorDifWf
namespace Go.Proofs.YtdhhkanmfjejoaaDoor.diffBack
open Go.ChangeShapes Go.WideShapes Go.ChangeAt Go.RowKit
open Go.ChangeMaps (open_string shut_string)
open Bas Txt Dif
set_option linter.unusedVariables false

theorem ext_take (s : ByteArray) (k : Nat) : bytesL (s.extract 0 k) = (bytesL s).take k := by
  unfold bytesL
  rw [ByteArray.data_extract, Array.toList_extract, List.extract_eq_take_drop, List.map_take, List.map_drop, List.drop_zero, Nat.sub_zero]
theorem pack_str {d : Int} (h : inR d) : bytesL (strOf (packL d)) = packL d := bytesL_strOf _ (fun x hx => by have := pack_byte h x hx; omega)
set_option maxHeartbeats 8000000 in
set_option maxRecDepth 100000 in
theorem walk (w : World) (hT : Tabs w) (d : Int) (wd : (Lit.int .i64 d).wf = true) (k : Int) (wk : (Lit.int .i64 k).wf = true) :
    Calls Tryd.prog 7 #[.int .i64 d, .int .i64 k] w fun e w' => e = .returned (.bool true) ∧ Below w.heap.size w w' := by
  have HT : Hid (Tabs w) := hT
  clear wd wk hT
  by_cases h : inR d
  · have hlen := pack_len d
    have htl := trN_le (rowD d)
    obtain ⟨x0, y0, hr0, -, -, hxy⟩ := rng_pack h (packL d).length (by omega) (Nat.le_refl _)
    obtain ⟨rfl, rfl⟩ := hxy rfl
    rw [List.take_length] at hr0
    have HRK : Hid (∀ j : Nat, 1 ≤ j → j ≤ (packL y0).length → ∃ x y, rngL ((packL y0).take j) = some (x, y, (packL y0).length) ∧ x ≤ y0 ∧ y0 ≤ y) := fun j h1 h2 => by
      obtain ⟨x, y, e, a, b, -⟩ := rng_pack h j h1 h2
      exact ⟨x, y, e, a, b⟩
    have HPK : Hid (∀ w, Tabs w → Calls Tryd.prog 9 #[.int .i64 y0] w fun e w' => e = .returned (.tuple #[.string (strOf (packL y0)), .bool true]) ∧ Below w.heap.size w w') := fun w hT => pack_yes y0 w hT h
    have hB := pack_str h
    have hsz := strOf_size (packL y0)
    obtain ⟨L, hL⟩ : ∃ L, packL y0 = L := ⟨_, rfl⟩
    rw [hL] at hr0 HRK HPK hB hsz hlen
    obtain ⟨S, hS⟩ : ∃ S, strOf L = S := ⟨_, rfl⟩
    rw [hS] at HPK hB hsz
    clear hS hL h
    obtain ⟨n, hn⟩ : ∃ n, L.length = n := ⟨_, rfl⟩
    rw [hn] at hsz hr0 HRK hlen
    have HBL : Hid (bytesL S = L) := hB
    have HR0 : Hid (rngL (bytesL S) = some (y0, y0, n)) := by show _ = _; rw [hB]; exact hr0
    have h1 : 0 < S.size := by omega
    have h4 : S.size ≤ 4 := by omega
    have hz : (S.size : Int) = (n : Int) := by omega
    have HZ : Hid (S.size = n) := hsz
    clear hB hr0 hn hlen htl hxy hsz
    go_enter Tryd.func7, Tryd.ntmps7
    go_wp2_with fail
    refine (HPK.out w HT.out).mono ?_
    rintro e w1 ⟨rfl, b1⟩
    have H1 : Hid (Below w.heap.size w w1 ∧ Tabs w1) := ⟨b1, HT.out.below b1⟩
    clear b1
    go_wp2_with fail
    refine (awake_any w1 H1.out.2).mono ?_
    rintro e w2 ⟨rfl, b1⟩
    have H2 : Hid (Below w.heap.size w w2 ∧ Tabs w2) := ⟨below_two H1.out.1 b1, H1.out.2.below b1⟩
    clear b1 H1
    go_wp2_with fail
    refine (range_any S w2 H2.out.2 h1 (by omega)).mono ?_
    rintro e w3 ⟨rfl, b1⟩
    rw [HR0.out]
    unfold rngV
    have H3 : Hid (Below w.heap.size w w3 ∧ Tabs w3) := ⟨below_two H2.out.1 b1, H2.out.2.below b1⟩
    clear b1 H2
    by_cases hk1 : k < 1
    · go_wp2
      go_ret
      exact ⟨rfl, H3.out.1⟩
    · by_cases hk2 : (n : Int) < k
      · go_wp2
        go_ret
        exact ⟨rfl, H3.out.1⟩
      · obtain ⟨j, rfl⟩ : ∃ j : Nat, k = (j : Int) := ⟨k.toNat, by omega⟩
        obtain ⟨x, y, hr, hx, hy⟩ := HRK.out j (by omega) (by omega)
        have HRJ : Hid (rngL (bytesL (S.extract 0 j)) = some (x, y, n)) := by show _ = _; rw [ext_take, HBL.out]; exact hr
        have hj : j ≤ S.size := by have := HZ.out; omega
        have hjs : (S.extract 0 j).size = j := by
          have := congrArg List.length (ext_take S j)
          rw [bytesL_length, List.length_take, bytesL_length] at this
          omega
        have HRG : Hid (∀ w, Tabs w → Calls Tryd.prog 12 #[.string (S.extract 0 j)] w fun e w' => e = .returned (rngV (some (x, y, n))) ∧ Below w.heap.size w w') := fun w hT => by
          have := range_any (S.extract 0 j) w hT (by omega) (by omega)
          rwa [HRJ.out] at this
        clear hr hjs HRJ
        have i1 : (j : Int) ≤ (S.size : Int) := by omega
        go_wp2_with fail
        refine (HRG.out w3 H3.out.2).mono ?_
        rintro e w4 ⟨rfl, b1⟩
        unfold rngV
        have H4 : Hid (Below w.heap.size w w4) := below_two H3.out.1 b1
        clear b1 H3
        go_wp2
        go_ret
        exact ⟨rfl, H4.out⟩
  · go_enter Tryd.func7, Tryd.ntmps7
    go_wp2_with fail
    refine (pack_no d w h).mono ?_
    rintro e w1 ⟨rfl, hw⟩
    rw [hw]
    clear hw w1 h
    go_wp2_with fail
    refine (awake_any w HT.out).mono ?_
    rintro e w2 ⟨rfl, b1⟩
    have H2 : Hid (Below w.heap.size w w2 ∧ Tabs w2) := ⟨b1, HT.out.below b1⟩
    clear b1
    go_wp2_with fail
    refine (awake_any w2 H2.out.2).mono ?_
    rintro e w3 ⟨rfl, b1⟩
    have H3 : Hid (Below w.heap.size w w3) := below_two H2.out.1 b1
    clear b1 H2
    go_wp2
    go_ret
    exact ⟨rfl, H3.out⟩
theorem reads (os : Os) {H : Type} (enc : TypeId × Value → H) : ∃ places, DataW.whole enc Tryd.prog ((({ World.holding Tryd.prog os ⟨#[], #[], []⟩ with heap := (((World.holding Tryd.prog os ⟨#[], #[], []⟩).heap.modify 0 Dif.lay0).modify 1 Dif.lay1) } : World)).forCall (fun _ _ => 0) ⟨#[], #[.int .i64 0, .int .i64 0], []⟩).memory Tryd.f7.params.toList Rows.diffBackSpec.vars false #[.int .i64 0, .int .i64 0].toList 8 = some ([.lit (.int .i64 0), .lit (.int .i64 0)], [], places) :=
  ⟨[], by kernel_rfl⟩
set_option maxRecDepth 100000 in
theorem lifted (os : Os) (started : os.Started) (H : Type) (enc : TypeId × Value → H) (Fi : Stop.Interp) :
    ReturnsInHanded {} Tryd.checked os 7 .any ((OpenSpec.ofChange Rows.diffBackSpec).preRow enc Tryd.prog Tryd.f7 Rows.diffBackRow.domain false Rows.diffBackRow.laid) (((OpenSpec.ofChange Rows.diffBackSpec).at Fi).post enc Tryd.prog Tryd.f7 false true false false) := by
  obtain ⟨places, hx⟩ := reads os enc
  refine returnsInHanded_of_row (C := Tryd.checked) (s := OpenSpec.ofChange Rows.diffBackSpec) Bas.own started (by kernel_rfl) Tryd.func7
    (witness_row_at (enc := enc) (C := Tryd.checked) false (({ World.holding Tryd.prog os ⟨#[], #[], []⟩ with heap := (((World.holding Tryd.prog os ⟨#[], #[], []⟩).heap.modify 0 Dif.lay0).modify 1 Dif.lay1) } : World)) #[.int .i64 0, .int .i64 0] rfl (by kernel_rfl) (by kernel_rfl) (by kernel_rfl)
      (OpenSpec.preRow_of_cond 8 hx (by kernel_rfl) (fun k hk => by cases hk) (by kernel_rfl) (Dif.laid_met os _))) ?_
  intro W base args ds gs before hval0 hW _ _ _ hL _ _
  have hval : ∀ (j : Nat) t v, Tryd.f7.params[j]? = some t → args[j]? = some v → Value.okWide Tryd.prog W .any base t v := hval0
  have hW' := hW
  obtain ⟨p, q, hA0, hV, rfl, hfz, hnd⟩ := hW
  have hA : DataW.TrodAll enc Tryd.prog W 0 (fun _ => true) true Tryd.f7.params.toList args.toList ds p := hA0
  rw [Tryd.params7] at hA hval
  obtain ⟨v0, vs0, d0, ds0, p0, q0, hargs, rfl, rfl, h0, r0⟩ := trodAll_cons hA
  obtain ⟨v1, vs1, d1, ds1, p1, q1, rfl, rfl, rfl, h1, r1⟩ := trodAll_cons r0
  obtain ⟨rfl, rfl, rfl⟩ := trodAll_nil r1
  obtain rfl : args = #[v0, v1] := by cases args; simp_all
  obtain ⟨rfl, rfl⟩ := trodVars_none hV
  have k0 := h0
  have lt0 : ∀ x ∈ p0, x.block < W.heap.size := by obtain ⟨m, hm⟩ := k0; exact DataW.trod_lt m _ _ _ hm
  have k1 := h1
  have lt1 : ∀ x ∈ p1, x.block < W.heap.size := by obtain ⟨m, hm⟩ := k1; exact DataW.trod_lt m _ _ _ hm
  obtain ⟨a0, rfl, rfl, rfl, w0⟩ := open_int Tryd.underlying3 (hval 0 3 v0 rfl rfl) h0
  obtain ⟨a1, rfl, rfl, rfl, w1⟩ := open_int Tryd.underlying3 (hval 1 3 v1 rfl rfl) h1
  refine (walk W (Dif.tabs_of hL) a0 w0 a1 w1).mono fun e W' ⟨he, bel⟩ => ?_
  subst he
  exact ⟨_, rfl, _, _, _, [], _, [], hW', trodAll_mk1 (shut_bool Tryd.underlying4 _), (trodAll_cons_mk (Below.trod Bas.laidOut (by kernel_rfl) (of_decide_eq_true (by kernel_rfl)) k0 bel lt0) (trodAll_cons_mk (Below.trod Bas.laidOut (by kernel_rfl) (of_decide_eq_true (by kernel_rfl)) k1 bel lt1) trodAll_mk0)), rfl, bel.frame _, fun h => by cases h⟩


theorem over : Rows.diffBackRow.holds Tryd.pinned (OpenSpec.ofChange Rows.diffBackSpec) :=
  OpenClaim.holds_of_cond 7 Tryd.f7 rfl rfl rfl rfl rfl rfl rfl ⟨rfl, rfl, rfl, rfl, rfl⟩ rfl rfl rfl rfl rfl (by kernel_rfl) Tryd.func7 (by kernel_rfl)
    (of_decide_eq_true (by kernel_rfl)) (by unfold Func.isWrapper; first | (rw [if_pos (by decide +kernel)]; kernel_rfl) | (rw [if_neg (by decide +kernel)]; exact ⟨rfl, rfl⟩))
    (fun os started H enc _ Fi => by rw [OpenClaim.pre_eq_preRow]; exact lifted os started H enc Fi)
theorem plain (f : FuncId) (fn : Func) (hf : Tryd.pinned.checked.prog.funcNamed Rows.diffBackRow.func = some f) (hfn : Tryd.pinned.checked.prog.funcs[f]? = some fn) :
    false = Tryd.pinned.checked.prog.looks [] ∧ ∀ (j : Nat) t, fn.params[j]? = some t → Tryd.pinned.checked.prog.wantsStandIn t = false := by
  obtain rfl : f = 7 := Option.some.inj ((show Tryd.prog.funcNamed Rows.diffBackRow.func = some 7 by kernel_rfl).symm.trans hf) |>.symm
  obtain rfl : fn = Tryd.f7 := (Option.some.inj (Tryd.func7.symm.trans hfn)).symm
  refine ⟨by kernel_rfl, fun j t ht => ?_⟩
  rw [Tryd.params7] at ht
  have hm : t ∈ [3, 3] := by simpa using Array.mem_of_getElem? ht
  have hall : ([3, 3].all fun u => !Tryd.prog.wantsStandIn u) = true := by kernel_rfl
  exact (show Tryd.prog.wantsStandIn t = false by simpa using List.all_eq_true.1 hall t hm)
end Go.Proofs.YtdhhkanmfjejoaaDoor.diffBack
namespace Go.Proofs.YtdhhkanmfjejoaaDoor
/-- The statement: the tied card. -/
theorem diffBack_proved : Rows.DiffBackCardSaid :=
  Claim7.holds_tied_plain_at .later [] _ _ _ _ diffBack.over (fun _ h => by cases h) (by kernel_rfl) (fun _ h => by cases h) diffBack_row_tie rfl ⟨rfl, rfl⟩ (by kernel_rfl) rfl diffBack.plain (by kernel_rfl)
end Go.Proofs.YtdhhkanmfjejoaaDoor
