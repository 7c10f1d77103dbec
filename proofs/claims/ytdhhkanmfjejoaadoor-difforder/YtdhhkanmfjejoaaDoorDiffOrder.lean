/-
  Bytes of two differences compare as the differences do, and none are the beginning of other ones; no byte of them is kept for itself: the statement DiffOrder is proved, for every input. The condition is the card's own: the listed tables are as the program's text lays them.
-/
import Derived.Test.YtdhhkanmfjejoaaDoorDifAwk
import Derived.Test.YtdhhkanmfjejoaaDoorDifTab
import Derived.Test.YtdhhkanmfjejoaaDoorDifRf1
import Derived.Test.YtdhhkanmfjejoaaDoorDifWf
namespace Go.Proofs.YtdhhkanmfjejoaaDoor.diffOrder
open Go.ChangeShapes Go.WideShapes Go.ChangeAt Go.RowKit
open Go.ChangeMaps (open_string shut_string)
open Bas Txt Dif
set_option linter.unusedVariables false

theorem ext_take (s : ByteArray) (k : Nat) : bytesL (s.extract 0 k) = (bytesL s).take k := by
  unfold bytesL
  rw [ByteArray.data_extract, Array.toList_extract, List.extract_eq_take_drop, List.map_take, List.map_drop, List.drop_zero, Nat.sub_zero]
theorem pack_str {d : Int} (h : inR d) : bytesL (strOf (packL d)) = packL d := bytesL_strOf _ (fun x hx => by have := pack_byte h x hx; omega)
theorem less_of (p : List Int) : ∀ (xs ys : List UInt8) (a b : Int) (r s : List Int), (xs.map fun c => (c.toNat : Int)) = p ++ a :: r → (ys.map fun c => (c.toNat : Int)) = p ++ b :: s → a < b → Op.bytesLess xs ys = true ∧ Op.bytesLess ys xs = false := by
  induction p with
  | nil =>
    intro xs ys a b r s hx hy hab
    cases xs with
    | nil => simp at hx
    | cons x xs =>
      cases ys with
      | nil => simp at hy
      | cons y ys =>
        simp only [List.map_cons, List.nil_append, List.cons.injEq] at hx hy
        have h1 : x < y := UInt8.lt_iff_toNat_lt.2 (by omega)
        have h2 : ¬ y < x := by intro e; have := UInt8.lt_iff_toNat_lt.1 e; omega
        have h3 : ¬ y = x := by intro e; subst e; omega
        simp [Op.bytesLess, h1, h2, h3]
  | cons c p ih =>
    intro xs ys a b r s hx hy hab
    cases xs with
    | nil => simp at hx
    | cons x xs =>
      cases ys with
      | nil => simp at hy
      | cons y ys =>
        simp only [List.map_cons, List.cons_append, List.cons.injEq] at hx hy
        have h1 : x = y := UInt8.toNat_inj.1 (by omega)
        subst h1
        have h2 : ¬ x < x := by intro e; have := UInt8.lt_iff_toNat_lt.1 e; omega
        have := ih xs ys a b r s hx.2 hy.2 hab
        simp [Op.bytesLess, h2, this]
theorem less_parts {S T : ByteArray} (h : Parts (bytesL S) (bytesL T)) : Op.bytesLess S.toList T.toList = true ∧ Op.bytesLess T.toList S.toList = false := by
  obtain ⟨p, x, y, r, s, h1, h2, hxy⟩ := h
  rw [ByteArray.toList_eq, ByteArray.toList_eq]
  exact less_of p _ _ x y r s h1 h2 hxy
theorem less_self (l : List UInt8) : Op.bytesLess l l = false := by
  induction l with
  | nil => simp [Op.bytesLess]
  | cons x r ih =>
    have h2 : ¬ x < x := by intro e; have := UInt8.lt_iff_toNat_lt.1 e; omega
    simp [Op.bytesLess, h2, ih]
theorem take_parts {l m : List Int} (h : Parts l m) {n : Nat} (hn : n = min l.length m.length) : l.take n ≠ m.take n := by
  obtain ⟨p, x, y, r, s, rfl, rfl, hxy⟩ := h
  intro e
  have h1 := congrArg (·[p.length]?) e
  have hlt : p.length < n := by subst hn; simp
  simp [hlt] at h1
  omega
theorem str_take {S T : ByteArray} {n : Nat} (h : (bytesL S).take n ≠ (bytesL T).take n) : ((S.extract 0 n).toList == (T.extract 0 n).toList) = false := by
  rw [beq_eq_false_iff_ne]
  intro e
  apply h
  rw [← ext_take, ← ext_take]
  unfold bytesL
  rw [← ByteArray.toList_eq, ← ByteArray.toList_eq, e]
/-- All that is asked of two texts. -/
theorem two_of {a b : Int} (ha : inR a) (hb : inR b) {n : Nat} (hn : n = min (packL a).length (packL b).length) :
    Op.bytesLess (strOf (packL a)).toList (strOf (packL b)).toList = decide (a < b) ∧ (((strOf (packL a)).extract 0 n).toList == ((strOf (packL b)).extract 0 n).toList) = decide (a = b) := by
  rcases Int.lt_trichotomy a b with h | h | h
  · have hp : Parts (bytesL (strOf (packL a))) (bytesL (strOf (packL b))) := by rw [pack_str ha, pack_str hb]; exact pack_parts ha hb h
    have h1 := less_parts hp
    have h2 : ¬ a = b := by omega
    refine ⟨by rw [h1.1]; simp [h], ?_⟩
    rw [str_take (take_parts hp (by rw [pack_str ha, pack_str hb]; exact hn))]
    simp [h2]
  · subst h
    rw [less_self]
    simp
  · have hp : Parts (bytesL (strOf (packL b))) (bytesL (strOf (packL a))) := by rw [pack_str ha, pack_str hb]; exact pack_parts hb ha h
    have h1 := less_parts hp
    have h2 : ¬ a = b := by omega
    have h3 : ¬ a < b := by omega
    refine ⟨by rw [h1.2]; simp [h3], ?_⟩
    rw [str_take (fun e => take_parts hp (n := n) (by rw [pack_str ha, pack_str hb]; omega) e.symm)]
    simp [h2]
theorem beq_dec (a b : Int) : (decide (a = b) == (a == b)) = true := by by_cases h : a = b <;> simp [h]
theorem kept_not {d : Int} (h : inR d) : ∀ x ∈ packL d, keptB x = false := by
  intro x hx
  have := pack_byte h x hx
  unfold keptB
  rcases this.2.2 with h1 | h1
  · have : ¬ x ≤ 32 := by omega
    simp [this]
  · have : ¬ wor x < 0 := by omega
    simp [this]
theorem first_ge {d : Int} (h : inR d) : 33 ≤ nth (packL d) 0 := by
  have := first_rng h
  unfold packL
  rw [nth_cons_zero]; exact this.1
set_option maxHeartbeats 8000000 in
set_option maxRecDepth 100000 in
theorem walk (w : World) (hT : Tabs w) (a : Int) (wa : (Lit.int .i64 a).wf = true) (b : Int) (wb : (Lit.int .i64 b).wf = true) :
    Calls Tryd.prog 8 #[.int .i64 a, .int .i64 b] w fun e w' => e = .returned (.bool true) ∧ Below w.heap.size w w' := by
  have HT : Hid (Tabs w) := hT
  clear wa wb hT
  by_cases ha : inR a
  · by_cases hb : inR b
    · have hla := pack_len a
      have hlb := pack_len b
      have hta := trN_le (rowD a)
      have htb := trN_le (rowD b)
      obtain ⟨n, hn⟩ : ∃ n, min (packL a).length (packL b).length = n := ⟨_, rfl⟩
      have HTW : Hid _ := two_of ha hb hn.symm
      have HKP : Hid (∀ x ∈ packL a, keptB x = false) := kept_not ha
      have HFG : Hid (33 ≤ nth (packL a) 0) := first_ge ha
      have HPA : Hid (∀ w, Tabs w → Calls Tryd.prog 9 #[.int .i64 a] w fun e w' => e = .returned (.tuple #[.string (strOf (packL a)), .bool true]) ∧ Below w.heap.size w w') := fun w hT => pack_yes a w hT ha
      have HPB : Hid (∀ w, Tabs w → Calls Tryd.prog 9 #[.int .i64 b] w fun e w' => e = .returned (.tuple #[.string (strOf (packL b)), .bool true]) ∧ Below w.heap.size w w') := fun w hT => pack_yes b w hT hb
      have HSA : Hid (bytesL (strOf (packL a)) = packL a) := pack_str ha
      have hsa := strOf_size (packL a)
      have hsb := strOf_size (packL b)
      obtain ⟨L, hL⟩ : ∃ L, packL a = L := ⟨_, rfl⟩
      obtain ⟨M, hM⟩ : ∃ M, packL b = M := ⟨_, rfl⟩
      rw [hL] at hla hn HTW HKP HFG HPA HSA hsa
      rw [hM] at hlb hn HTW HPB hsb
      obtain ⟨S, hS⟩ : ∃ S, strOf L = S := ⟨_, rfl⟩
      obtain ⟨T, hTT⟩ : ∃ T, strOf M = T := ⟨_, rfl⟩
      rw [hS] at HTW HPA HSA hsa
      rw [hTT] at HTW HPB hsb
      have hmin : min (S.size : Int) (T.size : Int) = (n : Int) := by omega
      have hS4 : S.size ≤ 4 := by omega
      have hT4 : T.size ≤ 4 := by omega
      have hnS : n ≤ S.size := by omega
      have hnT : n ≤ T.size := by omega
      have HLS : Hid (L.length = S.size) := hsa.symm
      clear hL hM hS hTT hn hla hlb hta htb hsa hsb ha hb
      go_enter Tryd.func8, Tryd.ntmps8
      go_wp2_with fail
      refine (HPA.out w HT.out).mono ?_
      rintro e w1 ⟨rfl, b1⟩
      have H1 : Hid (Below w.heap.size w w1 ∧ Tabs w1) := ⟨b1, HT.out.below b1⟩
      clear b1
      go_wp2_with fail
      refine (HPB.out w1 H1.out.2).mono ?_
      rintro e w2 ⟨rfl, b1⟩
      have H2 : Hid (Below w.heap.size w w2 ∧ Tabs w2) := ⟨below_two H1.out.1 b1, H1.out.2.below b1⟩
      clear b1 H1
      go_wp2_with fail
      refine (awake_any w2 H2.out.2).mono ?_
      rintro e w3 ⟨rfl, b1⟩
      have H3 : Hid (Below w.heap.size w w3) := below_two H2.out.1 b1
      clear b1 H2 HPA HPB HT
      go_wp2
      go_loopw [9] (fun i wr => ∃ j : Nat, i = .int .i64 j ∧ j ≤ S.size ∧ Below w.heap.size w wr) (fun i _ => S.size - (intOf i).toNat)
      case atStart => exact ⟨0, rfl, Nat.zero_le _, H3.out⟩
      case round =>
        obtain ⟨j, rfl, hj, hB⟩ := hrel
        have HB : Hid (Below w.heap.size w wr) := hB
        clear hB H3
        by_cases hlt : j < S.size
        · have e1 : ((S[j]'hlt).toNat : Int) = nth L j := by rw [← HSA.out]; exact str_nth S j hlt
          have hmem : nth L j ∈ L := nth_mem (by rw [HLS.out]; exact hlt)
          have hx := bytesL_byte S (nth L j) (by rw [HSA.out]; exact hmem)
          have HK : Hid (∀ w, Calls Tryd.prog 20 #[.int .u8 (nth L j)] w fun e w' => e = .returned (.bool false) ∧ Below w.heap.size w w') := fun w => by
            have := rKept_any (nth L j) w hx.1 hx.2
            rwa [HKP.out _ hmem] at this
          have h33 : j = 0 → 33 ≤ nth L j := fun e => by rw [e]; exact HFG.out
          obtain ⟨x, hxe⟩ : ∃ x, nth L j = x := ⟨_, rfl⟩
          rw [hxe] at e1 hx HK h33
          clear hxe hmem
          have i1 : (j : Int) < (S.size : Int) := by omega
          go_wp2_with fail
          refine (HK.out wr).mono ?_
          rintro e w4 ⟨rfl, b1⟩
          have H4 : Hid (Below w.heap.size w w4) := below_two HB.out b1
          clear b1
          by_cases hj0 : j = 0
          · have hx33 := h33 hj0
            have hx34 : ¬ x < 33 := by omega
            clear h33
            subst hj0
            go_wp2
            go_roundw
            case rel => exact ⟨1, rfl, by omega, H4.out⟩
            case measure => simp [intOf]; omega
          · have hj1 : ¬ (j : Int) = 0 := by omega
            have hj2 : ((j : Int) == 0) = false := by rw [beq_eq_false_iff_ne]; exact hj1
            clear h33
            go_wp2
            go_roundw
            case rel => exact ⟨j + 1, by go_num, by omega, H4.out⟩
            case measure => simp [intOf]; omega
        · have i1 : (S.size : Int) ≤ (j : Int) := by omega
          obtain ⟨hless, heq⟩ := HTW.out
          have h1 : (n : Int) ≤ (S.size : Int) := by omega
          have h2 : (n : Int) ≤ (T.size : Int) := by omega
          go_upto_region 11 with fail
          go_quiet (fail)
          go_wp2
          go_ret
          exact ⟨ret_bool (beq_dec a b), below_two HB.out (below_dn _ _)⟩
    · go_enter Tryd.func8, Tryd.ntmps8
      go_wp2_with fail
      refine (pack_yes a w HT.out ha).mono ?_
      rintro e w1 ⟨rfl, b1⟩
      have H1 : Hid (Below w.heap.size w w1 ∧ Tabs w1) := ⟨b1, HT.out.below b1⟩
      obtain ⟨S, hS⟩ : ∃ S, strOf (packL a) = S := ⟨_, rfl⟩
      rw [hS]
      clear b1 hS
      go_wp2_with fail
      refine (pack_no b w1 hb).mono ?_
      rintro e w2 ⟨rfl, hw⟩
      rw [hw]
      clear hw w2 ha hb
      go_wp2_with fail
      refine (awake_any w1 H1.out.2).mono ?_
      rintro e w3 ⟨rfl, b1⟩
      have H3 : Hid (Below w.heap.size w w3 ∧ Tabs w3) := ⟨below_two H1.out.1 b1, H1.out.2.below b1⟩
      clear b1 H1
      go_wp2_with fail
      refine (awake_any w3 H3.out.2).mono ?_
      rintro e w4 ⟨rfl, b1⟩
      have H4 : Hid (Below w.heap.size w w4) := below_two H3.out.1 b1
      clear b1 H3
      go_wp2
      go_ret
      exact ⟨rfl, H4.out⟩
  · by_cases hb : inR b
    · go_enter Tryd.func8, Tryd.ntmps8
      go_wp2_with fail
      refine (pack_no a w ha).mono ?_
      rintro e w1 ⟨rfl, hw⟩
      rw [hw]
      clear hw w1
      go_wp2_with fail
      refine (pack_yes b w HT.out hb).mono ?_
      rintro e w1 ⟨rfl, b1⟩
      have H1 : Hid (Below w.heap.size w w1 ∧ Tabs w1) := ⟨b1, HT.out.below b1⟩
      obtain ⟨S, hS⟩ : ∃ S, strOf (packL b) = S := ⟨_, rfl⟩
      rw [hS]
      clear b1 hS ha hb
      go_wp2_with fail
      refine (awake_any w1 H1.out.2).mono ?_
      rintro e w3 ⟨rfl, b1⟩
      have H3 : Hid (Below w.heap.size w w3 ∧ Tabs w3) := ⟨below_two H1.out.1 b1, H1.out.2.below b1⟩
      clear b1 H1
      go_wp2_with fail
      refine (awake_any w3 H3.out.2).mono ?_
      rintro e w4 ⟨rfl, b1⟩
      have H4 : Hid (Below w.heap.size w w4) := below_two H3.out.1 b1
      clear b1 H3
      go_wp2
      go_ret
      exact ⟨rfl, H4.out⟩
    · go_enter Tryd.func8, Tryd.ntmps8
      go_wp2_with fail
      refine (pack_no a w ha).mono ?_
      rintro e w1 ⟨rfl, hw⟩
      rw [hw]
      clear hw w1
      go_wp2_with fail
      refine (pack_no b w hb).mono ?_
      rintro e w1 ⟨rfl, hw⟩
      rw [hw]
      clear hw w1 ha hb
      have H1 : Hid (Below w.heap.size w w ∧ Tabs w) := ⟨Below.refl _ _, HT.out⟩
      go_wp2_with fail
      refine (awake_any w H1.out.2).mono ?_
      rintro e w3 ⟨rfl, b1⟩
      have H3 : Hid (Below w.heap.size w w3 ∧ Tabs w3) := ⟨below_two H1.out.1 b1, H1.out.2.below b1⟩
      clear b1 H1
      go_wp2_with fail
      refine (awake_any w3 H3.out.2).mono ?_
      rintro e w4 ⟨rfl, b1⟩
      have H4 : Hid (Below w.heap.size w w4) := below_two H3.out.1 b1
      clear b1 H3
      go_wp2
      go_ret
      exact ⟨rfl, H4.out⟩
theorem reads (os : Os) {H : Type} (enc : TypeId × Value → H) : ∃ places, DataW.whole enc Tryd.prog ((({ World.holding Tryd.prog os ⟨#[], #[], []⟩ with heap := (((World.holding Tryd.prog os ⟨#[], #[], []⟩).heap.modify 0 Dif.lay0).modify 1 Dif.lay1) } : World)).forCall (fun _ _ => 0) ⟨#[], #[.int .i64 0, .int .i64 0], []⟩).memory Tryd.f8.params.toList Rows.diffOrderSpec.vars false #[.int .i64 0, .int .i64 0].toList 8 = some ([.lit (.int .i64 0), .lit (.int .i64 0)], [], places) :=
  ⟨[], by kernel_rfl⟩
set_option maxRecDepth 100000 in
theorem lifted (os : Os) (started : os.Started) (H : Type) (enc : TypeId × Value → H) (Fi : Stop.Interp) :
    ReturnsInHanded {} Tryd.checked os 8 .any ((OpenSpec.ofChange Rows.diffOrderSpec).preRow enc Tryd.prog Tryd.f8 Rows.diffOrderRow.domain false Rows.diffOrderRow.laid) (((OpenSpec.ofChange Rows.diffOrderSpec).at Fi).post enc Tryd.prog Tryd.f8 false true false false) := by
  obtain ⟨places, hx⟩ := reads os enc
  refine returnsInHanded_of_row (C := Tryd.checked) (s := OpenSpec.ofChange Rows.diffOrderSpec) Bas.own started (by kernel_rfl) Tryd.func8
    (witness_row_at (enc := enc) (C := Tryd.checked) false (({ World.holding Tryd.prog os ⟨#[], #[], []⟩ with heap := (((World.holding Tryd.prog os ⟨#[], #[], []⟩).heap.modify 0 Dif.lay0).modify 1 Dif.lay1) } : World)) #[.int .i64 0, .int .i64 0] rfl (by kernel_rfl) (by kernel_rfl) (by kernel_rfl)
      (OpenSpec.preRow_of_cond 8 hx (by kernel_rfl) (fun k hk => by cases hk) (by kernel_rfl) (Dif.laid_met os _))) ?_
  intro W base args ds gs before hval0 hW _ _ _ hL _ _
  have hval : ∀ (j : Nat) t v, Tryd.f8.params[j]? = some t → args[j]? = some v → Value.okWide Tryd.prog W .any base t v := hval0
  have hW' := hW
  obtain ⟨p, q, hA0, hV, rfl, hfz, hnd⟩ := hW
  have hA : DataW.TrodAll enc Tryd.prog W 0 (fun _ => true) true Tryd.f8.params.toList args.toList ds p := hA0
  rw [Tryd.params8] at hA hval
  obtain ⟨v0, vs0, d0, ds0, p0, q0, hargs, rfl, rfl, h0, r0⟩ := trodAll_cons hA
  obtain ⟨v1, vs1, d1, ds1, p1, q1, rfl, rfl, rfl, h1, r1⟩ := trodAll_cons r0
  obtain ⟨rfl, rfl, rfl⟩ := trodAll_nil r1
  obtain rfl : args = #[v0, v1] := by cases args; simp_all
  obtain ⟨rfl, rfl⟩ := trodVars_none hV
  have k0 := h0
  have lt0 : ∀ x ∈ p0, x.block < W.heap.size := by obtain ⟨m, hm⟩ := k0; exact DataW.trod_lt m _ _ _ hm
  have k1 := h1
  have lt1 : ∀ x ∈ p1, x.block < W.heap.size := by obtain ⟨m, hm⟩ := k1; exact DataW.trod_lt m _ _ _ hm
  obtain ⟨a0, rfl, rfl, rfl, w0⟩ := open_int Tryd.underlying3 (hval 0 3 v0 rfl rfl) h0
  obtain ⟨a1, rfl, rfl, rfl, w1⟩ := open_int Tryd.underlying3 (hval 1 3 v1 rfl rfl) h1
  refine (walk W (Dif.tabs_of hL) a0 w0 a1 w1).mono fun e W' ⟨he, bel⟩ => ?_
  subst he
  exact ⟨_, rfl, _, _, _, [], _, [], hW', trodAll_mk1 (shut_bool Tryd.underlying4 _), (trodAll_cons_mk (Below.trod Bas.laidOut (by kernel_rfl) (of_decide_eq_true (by kernel_rfl)) k0 bel lt0) (trodAll_cons_mk (Below.trod Bas.laidOut (by kernel_rfl) (of_decide_eq_true (by kernel_rfl)) k1 bel lt1) trodAll_mk0)), rfl, bel.frame _, fun h => by cases h⟩


theorem over : Rows.diffOrderRow.holds Tryd.pinned (OpenSpec.ofChange Rows.diffOrderSpec) :=
  OpenClaim.holds_of_cond 8 Tryd.f8 rfl rfl rfl rfl rfl rfl rfl ⟨rfl, rfl, rfl, rfl, rfl⟩ rfl rfl rfl rfl rfl (by kernel_rfl) Tryd.func8 (by kernel_rfl)
    (of_decide_eq_true (by kernel_rfl)) (by unfold Func.isWrapper; first | (rw [if_pos (by decide +kernel)]; kernel_rfl) | (rw [if_neg (by decide +kernel)]; exact ⟨rfl, rfl⟩))
    (fun os started H enc _ Fi => by rw [OpenClaim.pre_eq_preRow]; exact lifted os started H enc Fi)
theorem plain (f : FuncId) (fn : Func) (hf : Tryd.pinned.checked.prog.funcNamed Rows.diffOrderRow.func = some f) (hfn : Tryd.pinned.checked.prog.funcs[f]? = some fn) :
    false = Tryd.pinned.checked.prog.looks [] ∧ ∀ (j : Nat) t, fn.params[j]? = some t → Tryd.pinned.checked.prog.wantsStandIn t = false := by
  obtain rfl : f = 8 := Option.some.inj ((show Tryd.prog.funcNamed Rows.diffOrderRow.func = some 8 by kernel_rfl).symm.trans hf) |>.symm
  obtain rfl : fn = Tryd.f8 := (Option.some.inj (Tryd.func8.symm.trans hfn)).symm
  refine ⟨by kernel_rfl, fun j t ht => ?_⟩
  rw [Tryd.params8] at ht
  have hm : t ∈ [3, 3] := by simpa using Array.mem_of_getElem? ht
  have hall : ([3, 3].all fun u => !Tryd.prog.wantsStandIn u) = true := by kernel_rfl
  exact (show Tryd.prog.wantsStandIn t = false by simpa using List.all_eq_true.1 hall t hm)
end Go.Proofs.YtdhhkanmfjejoaaDoor.diffOrder
namespace Go.Proofs.YtdhhkanmfjejoaaDoor
/-- The statement: the tied card. -/
theorem diffOrder_proved : Rows.DiffOrderCardSaid :=
  Claim7.holds_tied_plain_at .later [] _ _ _ _ diffOrder.over (fun _ h => by cases h) (by kernel_rfl) (fun _ h => by cases h) diffOrder_row_tie rfl ⟨rfl, rfl⟩ (by kernel_rfl) rfl diffOrder.plain (by kernel_rfl)
end Go.Proofs.YtdhhkanmfjejoaaDoor
