/-
  Behind a burst of at most 32 bits in bytes and their sum's four bytes the bytes have not that sum, wherever the burst lies: the statement CrcBurst is proved, for every input. The condition is the card's own: the listed table is as the program's text lays it.
-/
import Derived.Test.YtlgblkhkohhhkaaDoorCrcSp
import Derived.Test.YtlgblkhkohhhkaaDoorCrcTab
import Derived.Test.YtlgblkhkohhhkaaDoorCrcAwk
import Derived.Deep.CutBlock
import Derived.Deep.DeepCutAuto
import Derived.Deep.RegionHeld3
namespace Go.Proofs.YtlgblkhkohhhkaaDoor
open Go.ChangeShapes Go.WideShapes Go.ChangeAt Go.RowKit
open Go.ChangeMaps (open_string shut_string)
namespace crcBurst
open Bas Txt Crc
set_option linter.unusedVariables false

theorem four_byte (x : Nat) (hx : x < 4294967296) : ∀ y ∈ fourI x, 0 ≤ y ∧ y < 256 := by
  intro y hy
  simp only [fourI, List.mem_cons, List.not_mem_nil, or_false] at hy
  rcases hy with rfl | rfl | rfl | rfl <;> omega
theorem ext_low (U : ByteArray) (n : Nat) : bytesL (U.extract 0 n) = (bytesL U).take n := by
  unfold bytesL
  rw [ByteArray.data_extract, Array.toList_extract, List.extract_eq_take_drop, List.map_take, List.map_drop]
  simp
theorem ext_high (U : ByteArray) (n m : Nat) (hm : U.size ≤ m) : bytesL (U.extract n m) = (bytesL U).drop n := by
  unfold bytesL
  rw [ByteArray.data_extract, Array.toList_extract, List.extract_eq_take_drop, List.map_take, List.map_drop]
  rw [List.take_of_length_le]
  rw [List.length_drop, List.length_map, Array.length_toList]
  have : U.data.size = U.size := rfl
  omega
theorem pat (x : Int) (hx : (Lit.int .u32 x).wf = true) : ∃ m : Nat, x = (m : Int) ∧ m < 4294967296 := by
  have e1 : IntKind.u32.min = 0 := rfl
  have e2 : IntKind.u32.max = 4294967295 := rfl
  simp only [Lit.wf, e1, e2, Bool.and_eq_true, decide_eq_true_eq] at hx
  exact ⟨x.toNat, by omega, by omega⟩
theorem i64_of {x : Int} (h : (Lit.int .i64 x).wf = true) : -9223372036854775808 ≤ x ∧ x < 9223372036854775808 := by
  have e1 : IntKind.i64.min = -9223372036854775808 := rfl
  have e2 : IntKind.i64.max = 9223372036854775807 := rfl
  simp only [Lit.wf, e1, e2, Bool.and_eq_true, decide_eq_true_eq] at h
  omega
/-- The burst's end, in the walk's words. -/
theorem burst_end (s : ByteArray) (l : List Int) (a p j : Nat) (hj : j ≤ 32) (hn : a + j ≤ 8 * (s ++ strOf (fourI (sumI (bytesL s)))).size) (hl : l.length = (s ++ strOf (fourI (sumI (bytesL s)))).size)
    (hb : ∀ x ∈ l, 0 ≤ x ∧ x < 256)
    (h : bitsB l = xorL (bitsB (bytesL (s ++ strOf (fourI (sumI (bytesL s)))))) (maskL (8 * (s ++ strOf (fourI (sumI (bytesL s)))).size) a p j)) :
    (strOf l).size = s.size + 4 ∧ (decide (sumI (bytesL ((strOf l).extract 0 s.size)) = numI (bytesL ((strOf l).extract s.size (strOf l).size))) == !(anyL p j)) = true ∧ numI (bytesL ((strOf l).extract s.size (strOf l).size)) < 4294967296 := by
  have hF := four_byte _ (sumI_lt (bytesL s))
  have h4 : (strOf (fourI (sumI (bytesL s)))).size = 4 := strOf_size _
  have hV : (s ++ strOf (fourI (sumI (bytesL s)))).size = s.size + 4 := by rw [ByteArray.size_append, h4]
  rw [hV] at hl hn h
  rw [bytesL_append, bytesL_strOf _ hF] at h
  have hsL := bytesL_length s
  have hz : (strOf l).size = s.size + 4 := by rw [strOf_size, hl]
  have hB := bytesL_strOf l hb
  have e1 : bytesL ((strOf l).extract 0 s.size) = l.take s.size := by rw [ext_low, hB]
  have e2 : bytesL ((strOf l).extract s.size (strOf l).size) = l.drop s.size := by rw [ext_high _ _ _ (Nat.le_refl _), hB]
  have hd : (l.drop s.size).length = 4 := by rw [List.length_drop, hl]; omega
  have e3 : numI (l.drop s.size) = T (bitsB (l.drop s.size)) := by
    unfold numI
    rw [if_neg (by omega), List.take_of_length_le (by omega)]
  have key := spoil_end (s := bytesL s) (l := l) (at_ := a) (p := p) (j := j) hj (by rw [hsL]; exact hn) (by rw [hsL]; exact hl) (by rw [hsL]; exact h)
  rw [hsL] at key
  have ht := T_lt (bitsB (l.drop s.size))
  rw [bitsB_len, hd] at ht
  refine ⟨hz, ?_, by rw [e2, e3]; exact ht⟩
  rw [e1, e2, e3]
  cases ha : anyL p j with
  | false => rw [decide_eq_true (key.2 ha)]; rfl
  | true =>
    have : ¬ sumI (l.take s.size) = T (bitsB (l.drop s.size)) := fun e => by
      have := key.1 e
      rw [ha] at this; cases this
    rw [decide_eq_false this]; rfl
set_option maxHeartbeats 8000000 in
set_option maxRecDepth 100000 in
theorem walk (w : World) (hT : Crc.Tabs w) (s : ByteArray) (hs0 : s.size ≤ maxLen) (a : Int) (ha : (Lit.int .i64 a).wf = true) (x : Int) (hx : (Lit.int .u32 x).wf = true) :
    Calls Tryd.prog 6 #[.string s, .int .i64 a, .int .u32 x] w fun e w' => e = .returned (.bool true) ∧ Below w.heap.size w w' := by
  have HT : Hid (Crc.Tabs w) := hT
  obtain ⟨m, rfl, hm⟩ := pat x hx
  obtain ⟨a0, a1⟩ := i64_of ha
  clear hx hT ha
  go_enter Tryd.func6, Tryd.ntmps6
  go_wp2_with fail
  refine (awake_any w HT.out).mono ?_
  rintro e w1 ⟨rfl, b1⟩
  have H1 : Hid (Below w.heap.size w w1 ∧ Crc.Tabs w1) := ⟨b1, HT.out.below b1⟩
  clear b1
  by_cases hbig : s.size > 400
  · have i1 : (s.size : Int) > 400 := by omega
    go_wp2_with fail
    refine (awake_any w1 H1.out.2).mono ?_
    rintro e w2 ⟨rfl, b2⟩
    go_wp2
    go_ret
    exact ⟨rfl, below_two H1.out.1 b2⟩
  · have i1 : ¬ (s.size : Int) > 400 := by omega
    by_cases hneg : a < 0
    · go_wp2_with fail
      refine (awake_any w1 H1.out.2).mono ?_
      rintro e w2 ⟨rfl, b2⟩
      go_wp2
      go_ret
      exact ⟨rfl, below_two H1.out.1 b2⟩
    · by_cases hfar : a > 8 * (s.size : Int) + 32
      · go_wp2_with fail
        refine (awake_any w1 H1.out.2).mono ?_
        rintro e w2 ⟨rfl, b2⟩
        go_wp2
        go_ret
        exact ⟨rfl, below_two H1.out.1 b2⟩
      · obtain ⟨A, rfl⟩ := Int.eq_ofNat_of_zero_le (show 0 ≤ a by omega)
        have hs : s.size ≤ 1000000 := by omega
        have hS := sumI_lt (bytesL s)
        have HSP : Hid (∀ w, Calls Tryd.prog 17 #[.string (s ++ strOf (fourI (sumI (bytesL s)))), .int .i64 (A : Int), .int .u32 (m : Int)] w fun e w' => ∃ (U : ByteArray) (y : Bool), e = .returned (.tuple #[.string U, .bool y]) ∧ U.size = s.size + 4 ∧
            (decide (sumI (bytesL (U.extract 0 s.size)) = numI (bytesL (U.extract s.size U.size))) == !y) = true ∧ numI (bytesL (U.extract s.size U.size)) < 4294967296 ∧ Below w.heap.size w w') := fun w => by
          have h4 : (strOf (fourI (sumI (bytesL s)))).size = 4 := strOf_size _
          have hV : (s ++ strOf (fourI (sumI (bytesL s)))).size = s.size + 4 := by rw [ByteArray.size_append, h4]
          refine (rSpoil_any _ A m w (by omega) (by omega) hm).mono ?_
          rintro e w' ⟨l, j, rfl, g1, g2, g3, g4, g5, g6⟩
          obtain ⟨k1, k2, k3⟩ := burst_end s l A m j g3 g4 g1 g2 g5
          exact ⟨strOf l, anyL m j, rfl, k1, k2, k3, g6⟩
        have HFO : Hid (∀ w, Calls Tryd.prog 14 #[.int .u32 ((sumI (bytesL s) : Nat) : Int)] w fun e w' => e = .returned (.string (strOf (fourI (sumI (bytesL s))))) ∧ Below w.heap.size w w') := fun w => four_any _ w hS
        have HOF : Hid (∀ w w0, Crc.Tabs w0 → w = w0.alloc (.cells #[.string s] 9) → Calls Tryd.prog 10 #[.slice (some ⟨w0.heap.size, 0, none⟩) 1 1] w fun e w' => e = .returned (.int .u32 ((sumI (bytesL s) : Nat) : Int)) ∧ Below w0.heap.size w0 w') := fun w w0 h1 h2 => of_one s w w0 h1 h2 hs _ rfl
        have h4 : (strOf (fourI (sumI (bytesL s)))).size = 4 := strOf_size _
        obtain ⟨F, hF⟩ : ∃ F, strOf (fourI (sumI (bytesL s))) = F := ⟨_, rfl⟩
        rw [hF] at HSP HFO h4
        obtain ⟨S, hSS⟩ : ∃ S, sumI (bytesL s) = S := ⟨_, rfl⟩
        rw [hSS] at HFO HOF
        have i2 : ¬ (A : Int) < 0 := by omega
        have i3 : ¬ (A : Int) > 8 * (s.size : Int) + 32 := by omega
        clear hF hSS hS hneg hfar a0 a1 hm hs0
        go_wp2_with fail
        refine (HOF.out _ w1 H1.out.2 rfl).mono ?_
        rintro e w2 ⟨rfl, b2⟩
        have H2 : Hid (Below w.heap.size w w2 ∧ Crc.Tabs w2) := ⟨below_two H1.out.1 b2, H1.out.2.below b2⟩
        clear b2 H1
        go_wp2_with fail
        refine (HFO.out w2).mono ?_
        rintro e w3 ⟨rfl, b3⟩
        have H3 : Hid (Below w.heap.size w w3 ∧ Crc.Tabs w3) := ⟨below_two H2.out.1 b3, H2.out.2.below b3⟩
        clear b3 H2
        go_wp2_with fail
        refine (HSP.out w3).mono ?_
        rintro e w4 ⟨U, y, rfl, hU, hE, hN, b4⟩
        have H4 : Hid (Below w.heap.size w w4 ∧ Crc.Tabs w4) := ⟨below_two H3.out.1 b4, H3.out.2.below b4⟩
        have HE : Hid ((decide (sumI (bytesL (U.extract 0 s.size)) = numI (bytesL (U.extract s.size U.size))) == !y) = true) := hE
        clear b4 H3 HSP HFO HOF hE
        have HNU : Hid (∀ w, Calls Tryd.prog 16 #[.string (U.extract s.size U.size)] w fun e w' => e = .returned (.int .u32 ((numI (bytesL (U.extract s.size U.size)) : Nat) : Int)) ∧ Below w.heap.size w w') := fun w => by
          refine (num_any _ w (by rw [ByteArray.size_extract]; omega)).mono ?_
          rintro e w' ⟨rfl, n, rfl⟩
          exact ⟨rfl, below_dn w n⟩
        have HIS : Hid (∀ w, Crc.Tabs w → Calls Tryd.prog 11 #[.string (U.extract 0 s.size), .int .u32 ((numI (bytesL (U.extract s.size U.size)) : Nat) : Int)] w fun e w' => e = .returned (.bool (decide (sumI (bytesL (U.extract 0 s.size)) = numI (bytesL (U.extract s.size U.size))))) ∧ Below w.heap.size w w') := fun w hw => is_any _ _ w hw (by rw [ByteArray.size_extract]; omega) hN
        obtain ⟨D, hD⟩ : ∃ D, numI (bytesL (U.extract s.size U.size)) = D := ⟨_, rfl⟩
        rw [hD] at HNU HIS HE
        obtain ⟨z, hz⟩ : ∃ z, decide (sumI (bytesL (U.extract 0 s.size)) = D) = z := ⟨_, rfl⟩
        rw [hz] at HIS HE
        clear hD hz hN
        go_upto_region 4 with fail
        have hbd : Below w4.heap.size w4 w4.drew := (Below.refl _ _).drew
        have T4 : Crc.Tabs w4.drew := H4.out.2.below hbd
        have B4 : Below w.heap.size w w4.drew := below_two H4.out.1 hbd
        clear hbd H4
        have hw : IntKind.i64.wrap ((s.size : Int) + 4) = (s.size : Int) + 4 := by rw [IntKind.wrap_i64]; omega
        have hd : ((U.size : Int) == (s.size : Int) + 4) = true := by rw [hU]; simp
        have j2 : (0 : Int) ≤ (s.size : Int) := by omega
        have j3 : (s.size : Int) ≤ (U.size : Int) := by omega
        clear hU h4 i1 i2 i3
        go_region_held3 (fun w' => True) (exact trivial) (first
          | (go_at_call 16; refine (HNU.out _).mono ?_; rintro e w5 ⟨rfl, b5⟩; have T5 := T4.below b5; have B5 := below_two B4 b5; clear b5)
          | (go_at_call 11; refine (HIS.out _ ?_).mono ?_; exact T5; rintro e w6 ⟨rfl, b6⟩; have B6 := below_two B5 b6; clear b6))
        all_goals
          go_wp2
          go_ret
          exact ⟨ret_bool HE.out, B6⟩
theorem reads (os : Os) {H : Type} (enc : TypeId × Value → H) : ∃ places, DataW.whole enc Tryd.prog ((({ World.holding Tryd.prog os ⟨#[], #[], []⟩ with heap := (World.holding Tryd.prog os ⟨#[], #[], []⟩).heap.modify 0 Crc.lay0 } : World)).forCall (fun _ _ => 0) ⟨#[], #[.string ByteArray.empty, .int .i64 0, .int .u32 0], []⟩).memory Tryd.f6.params.toList Rows.crcBurstSpec.vars false #[.string ByteArray.empty, .int .i64 0, .int .u32 0].toList 8 = some ([.lit (.string []), .lit (.int .i64 0), .lit (.int .u32 0)], [], places) :=
  ⟨[], by kernel_rfl⟩
set_option maxRecDepth 100000 in
theorem lifted (os : Os) (started : os.Started) (H : Type) (enc : TypeId × Value → H) (Fi : Stop.Interp) :
    ReturnsInHanded {} Tryd.checked os 6 .any ((OpenSpec.ofChange Rows.crcBurstSpec).preRow enc Tryd.prog Tryd.f6 Rows.crcBurstRow.domain false Rows.crcBurstRow.laid) (((OpenSpec.ofChange Rows.crcBurstSpec).at Fi).post enc Tryd.prog Tryd.f6 false true false false) := by
  obtain ⟨places, hx⟩ := reads os enc
  refine returnsInHanded_of_row (C := Tryd.checked) (s := OpenSpec.ofChange Rows.crcBurstSpec) Bas.own started (by kernel_rfl) Tryd.func6
    (witness_row_at (enc := enc) (C := Tryd.checked) false (({ World.holding Tryd.prog os ⟨#[], #[], []⟩ with heap := (World.holding Tryd.prog os ⟨#[], #[], []⟩).heap.modify 0 Crc.lay0 } : World)) #[.string ByteArray.empty, .int .i64 0, .int .u32 0] rfl (by kernel_rfl) (by kernel_rfl) (by kernel_rfl)
      (OpenSpec.preRow_of_cond 8 hx (by kernel_rfl) (fun k hk => by cases hk) (by kernel_rfl) (Crc.laid_met os _))) ?_
  intro W base args ds gs before hval0 hW _ _ _ hL hSh _
  have hval : ∀ (j : Nat) t v, Tryd.f6.params[j]? = some t → args[j]? = some v → Value.okWide Tryd.prog W .any base t v := hval0
  have hW' := hW
  obtain ⟨p, q, hA0, hV, rfl, hfz, hnd⟩ := hW
  have hA : DataW.TrodAll enc Tryd.prog W 0 (fun _ => true) true Tryd.f6.params.toList args.toList ds p := hA0
  rw [Tryd.params6] at hA hval
  obtain ⟨v0, vs0, d0, ds0, p0, q0, hargs, rfl, rfl, h0, r0⟩ := trodAll_cons hA
  obtain ⟨v1, vs1, d1, ds1, p1, q1, rfl, rfl, rfl, h1, r1⟩ := trodAll_cons r0
  obtain ⟨v2, vs2, d2, ds2, p2, q2, rfl, rfl, rfl, h2, r2⟩ := trodAll_cons r1
  obtain ⟨rfl, rfl, rfl⟩ := trodAll_nil r2
  obtain rfl : args = #[v0, v1, v2] := by cases args; simp_all
  obtain ⟨rfl, rfl⟩ := trodVars_none hV
  have k0 := h0
  have lt0 : ∀ x ∈ p0, x.block < W.heap.size := by obtain ⟨m, hm⟩ := k0; exact DataW.trod_lt m _ _ _ hm
  have k1 := h1
  have lt1 : ∀ x ∈ p1, x.block < W.heap.size := by obtain ⟨m, hm⟩ := k1; exact DataW.trod_lt m _ _ _ hm
  have k2 := h2
  have lt2 : ∀ x ∈ p2, x.block < W.heap.size := by obtain ⟨m, hm⟩ := k2; exact DataW.trod_lt m _ _ _ hm
  obtain ⟨a0, rfl, rfl, rfl, w0⟩ := open_string Tryd.underlying9 (hval 0 9 v0 rfl rfl) h0
  obtain ⟨a1, rfl, rfl, rfl, w1⟩ := open_int Tryd.underlying3 (hval 1 3 v1 rfl rfl) h1
  obtain ⟨a2, rfl, rfl, rfl, w2⟩ := open_int Tryd.underlying22 (hval 2 22 v2 rfl rfl) h2
  refine (walk W (Crc.tabs_of hL hSh) a0 w0 a1 w1 a2 w2).mono fun e W' ⟨he, bel⟩ => ?_
  subst he
  exact ⟨_, rfl, _, _, _, [], _, [], hW', trodAll_mk1 (shut_bool Tryd.underlying4 _), (trodAll_cons_mk (Below.trod Bas.laidOut (by kernel_rfl) (of_decide_eq_true (by kernel_rfl)) k0 bel lt0) (trodAll_cons_mk (Below.trod Bas.laidOut (by kernel_rfl) (of_decide_eq_true (by kernel_rfl)) k1 bel lt1) (trodAll_cons_mk (Below.trod Bas.laidOut (by kernel_rfl) (of_decide_eq_true (by kernel_rfl)) k2 bel lt2) trodAll_mk0))), rfl, bel.frame _, fun h => by cases h⟩


theorem over : Rows.crcBurstRow.holds Tryd.pinned (OpenSpec.ofChange Rows.crcBurstSpec) :=
  OpenClaim.holds_of_cond 6 Tryd.f6 rfl rfl rfl rfl rfl rfl rfl ⟨rfl, rfl, rfl, rfl, rfl⟩ rfl rfl rfl rfl rfl (by kernel_rfl) Tryd.func6 (by kernel_rfl)
    (of_decide_eq_true (by kernel_rfl)) (by unfold Func.isWrapper; first | (rw [if_pos (by decide +kernel)]; kernel_rfl) | (rw [if_neg (by decide +kernel)]; exact ⟨rfl, rfl⟩))
    (fun os started H enc _ Fi => by rw [OpenClaim.pre_eq_preRow]; exact lifted os started H enc Fi)
theorem plain (f : FuncId) (fn : Func) (hf : Tryd.pinned.checked.prog.funcNamed Rows.crcBurstRow.func = some f) (hfn : Tryd.pinned.checked.prog.funcs[f]? = some fn) :
    false = Tryd.pinned.checked.prog.looks [] ∧ ∀ (j : Nat) t, fn.params[j]? = some t → Tryd.pinned.checked.prog.wantsStandIn t = false := by
  obtain rfl : f = 6 := Option.some.inj ((show Tryd.prog.funcNamed Rows.crcBurstRow.func = some 6 by kernel_rfl).symm.trans hf) |>.symm
  obtain rfl : fn = Tryd.f6 := (Option.some.inj (Tryd.func6.symm.trans hfn)).symm
  refine ⟨by kernel_rfl, fun j t ht => ?_⟩
  rw [Tryd.params6] at ht
  have hm : t ∈ [9, 3, 22] := by simpa using Array.mem_of_getElem? ht
  have hall : ([9, 3, 22].all fun u => !Tryd.prog.wantsStandIn u) = true := by kernel_rfl
  exact (show Tryd.prog.wantsStandIn t = false by simpa using List.all_eq_true.1 hall t hm)
end Go.Proofs.YtlgblkhkohhhkaaDoor.crcBurst
namespace Go.Proofs.YtlgblkhkohhhkaaDoor
/-- The statement: the tied card. -/
theorem crcBurst_proved : Rows.CrcBurstCardSaid :=
  Claim7.holds_tied_plain_at .later [] _ _ _ _ crcBurst.over (fun _ h => by cases h) (by kernel_rfl) (fun _ h => by cases h) crcBurst_row_tie rfl ⟨rfl, rfl⟩ (by kernel_rfl) rfl crcBurst.plain (by kernel_rfl)
end Go.Proofs.YtlgblkhkohhhkaaDoor
