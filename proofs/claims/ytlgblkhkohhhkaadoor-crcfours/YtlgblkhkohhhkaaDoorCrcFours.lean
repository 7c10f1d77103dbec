/-
  Any number stands by four bytes, the lowest one first, and is told by them, whatever stands behind: the statement CrcFours is proved, for every input. The condition is the card's own: the listed table is as the program's text lays it.
-/
import Derived.Test.YtlgblkhkohhhkaaDoorCrcTab
import Derived.Test.YtlgblkhkohhhkaaDoorCrcAwk
namespace Go.Proofs.YtlgblkhkohhhkaaDoor
open Go.ChangeShapes Go.WideShapes Go.ChangeAt Go.RowKit
open Go.ChangeMaps (open_string shut_string)
namespace crcFours
open Bas Txt Crc
set_option linter.unusedVariables false

theorem four_byte (x : Nat) (hx : x < 4294967296) : ∀ y ∈ fourI x, 0 ≤ y ∧ y < 256 := by
  intro y hy
  simp only [fourI, List.mem_cons, List.not_mem_nil, or_false] at hy
  rcases hy with rfl | rfl | rfl | rfl <;> omega
theorem num_more (x : Nat) (hx : x < 4294967296) (l : List Int) : numI (fourI x ++ l) = x := by
  unfold numI
  rw [if_neg (by rw [List.length_append, show (fourI x).length = 4 from rfl]; omega), List.take_append_of_le_length (by exact Nat.le_refl 4), List.take_of_length_le (by exact Nat.le_refl 4), T_four hx]
set_option maxHeartbeats 8000000 in
set_option maxRecDepth 100000 in
theorem walk (w : World) (hT : Crc.Tabs w) (x : Int) (hx : (Lit.int .u32 x).wf = true) (s : ByteArray) (hs0 : s.size ≤ maxLen) :
    Calls Tryd.prog 5 #[.int .u32 x, .string s] w fun e w' => e = .returned (.bool true) ∧ Below w.heap.size w w' := by
  have HT : Hid (Crc.Tabs w) := hT
  obtain ⟨m, rfl, hm⟩ : ∃ m : Nat, x = (m : Int) ∧ m < 4294967296 := by
    have e1 : IntKind.u32.min = 0 := rfl
    have e2 : IntKind.u32.max = 4294967295 := rfl
    simp only [Lit.wf, e1, e2, Bool.and_eq_true, decide_eq_true_eq] at hx
    exact ⟨x.toNat, by omega, by omega⟩
  clear hx hT
  go_enter Tryd.func5, Tryd.ntmps5
  go_wp2_with fail
  refine (awake_any w HT.out).mono ?_
  rintro e w1 ⟨rfl, b1⟩
  have H1 : Hid (Below w.heap.size w w1 ∧ Crc.Tabs w1) := ⟨b1, HT.out.below b1⟩
  clear b1
  by_cases hbig : s.size > 100
  · have i1 : (s.size : Int) > 100 := by omega
    go_wp2_with fail
    refine (awake_any w1 H1.out.2).mono ?_
    rintro e w2 ⟨rfl, b2⟩
    go_wp2
    go_ret
    exact ⟨rfl, below_two H1.out.1 b2⟩
  · have i1 : ¬ (s.size : Int) > 100 := by omega
    have hs : s.size ≤ 1000000 := by omega
    have HF : Hid (∀ w, Calls Tryd.prog 14 #[.int .u32 (m : Int)] w fun e w' => e = .returned (.string (strOf (fourI m))) ∧ Below w.heap.size w w') := fun w => four_any m w hm
    have HR : Hid (∀ w, Calls Tryd.prog 15 #[.int .u32 (m : Int)] w fun e w' => e = .returned (.string (strOf (fourI m))) ∧ Below w.heap.size w w') := fun w => rFour_any m w hm
    have h4 : (strOf (fourI m)).size = 4 := strOf_size _
    have HN : Hid (numI (bytesL (strOf (fourI m) ++ s)) = m) := by show _ = _; rw [bytesL_append, bytesL_strOf _ (four_byte m hm), num_more m hm]
    obtain ⟨F, hF⟩ : ∃ F, strOf (fourI m) = F := ⟨_, rfl⟩
    rw [hF] at HF HR HN h4
    clear hF
    have hz : (F ++ s).size ≤ 1000000 := by rw [ByteArray.size_append]; omega
    go_wp2_with fail
    refine (HF.out w1).mono ?_
    rintro e w2 ⟨rfl, b2⟩
    have H2 : Hid (Below w.heap.size w w2) := below_two H1.out.1 b2
    clear b2 H1
    go_wp2_with fail
    refine (HR.out w2).mono ?_
    rintro e w3 ⟨rfl, b3⟩
    have H3 : Hid (Below w.heap.size w w3) := below_two H2.out b3
    clear b3 H2
    go_wp2_with fail
    refine (num_any (F ++ s) w3 hz).mono ?_
    rw [HN.out]
    rintro e w4 ⟨rfl, n, rfl⟩
    have H4 : Hid (Below w.heap.size w (w3.drewN n)) := below_two H3.out (below_dn w3 n)
    clear H3
    obtain ⟨w4, hw4⟩ : ∃ w4, w3.drewN n = w4 := ⟨_, rfl⟩
    rw [hw4] at H4 ⊢
    clear hw4
    by_cases h3 : s.size > 3
    · have i3 : (s.size : Int) > 3 := by omega
      go_wp2
      go_ret
      exact ⟨rfl, H4.out⟩
    · have i3 : ¬ (s.size : Int) > 3 := by omega
      have HE : Hid (numI (bytesL s) = 0) := by show _ = _; unfold numI; rw [if_pos (by rw [bytesL_length]; omega)]
      go_wp2_with fail
      refine (num_any s w4 hs).mono ?_
      rw [HE.out]
      rintro e w5 ⟨rfl, n5, rfl⟩
      go_wp2
      go_ret
      exact ⟨rfl, below_two H4.out (below_dn w4 n5)⟩
theorem reads (os : Os) {H : Type} (enc : TypeId × Value → H) : ∃ places, DataW.whole enc Tryd.prog ((({ World.holding Tryd.prog os ⟨#[], #[], []⟩ with heap := (World.holding Tryd.prog os ⟨#[], #[], []⟩).heap.modify 0 Crc.lay0 } : World)).forCall (fun _ _ => 0) ⟨#[], #[.int .u32 0, .string ByteArray.empty], []⟩).memory Tryd.f5.params.toList Rows.crcFoursSpec.vars false #[.int .u32 0, .string ByteArray.empty].toList 8 = some ([.lit (.int .u32 0), .lit (.string [])], [], places) :=
  ⟨[], by kernel_rfl⟩
set_option maxRecDepth 100000 in
theorem lifted (os : Os) (started : os.Started) (H : Type) (enc : TypeId × Value → H) (Fi : Stop.Interp) :
    ReturnsInHanded {} Tryd.checked os 5 .any ((OpenSpec.ofChange Rows.crcFoursSpec).preRow enc Tryd.prog Tryd.f5 Rows.crcFoursRow.domain false Rows.crcFoursRow.laid) (((OpenSpec.ofChange Rows.crcFoursSpec).at Fi).post enc Tryd.prog Tryd.f5 false true false false) := by
  obtain ⟨places, hx⟩ := reads os enc
  refine returnsInHanded_of_row (C := Tryd.checked) (s := OpenSpec.ofChange Rows.crcFoursSpec) Bas.own started (by kernel_rfl) Tryd.func5
    (witness_row_at (enc := enc) (C := Tryd.checked) false (({ World.holding Tryd.prog os ⟨#[], #[], []⟩ with heap := (World.holding Tryd.prog os ⟨#[], #[], []⟩).heap.modify 0 Crc.lay0 } : World)) #[.int .u32 0, .string ByteArray.empty] rfl (by kernel_rfl) (by kernel_rfl) (by kernel_rfl)
      (OpenSpec.preRow_of_cond 8 hx (by kernel_rfl) (fun k hk => by cases hk) (by kernel_rfl) (Crc.laid_met os _))) ?_
  intro W base args ds gs before hval0 hW _ _ _ hL hSh _
  have hval : ∀ (j : Nat) t v, Tryd.f5.params[j]? = some t → args[j]? = some v → Value.okWide Tryd.prog W .any base t v := hval0
  have hW' := hW
  obtain ⟨p, q, hA0, hV, rfl, hfz, hnd⟩ := hW
  have hA : DataW.TrodAll enc Tryd.prog W 0 (fun _ => true) true Tryd.f5.params.toList args.toList ds p := hA0
  rw [Tryd.params5] at hA hval
  obtain ⟨v0, vs0, d0, ds0, p0, q0, hargs, rfl, rfl, h0, r0⟩ := trodAll_cons hA
  obtain ⟨v1, vs1, d1, ds1, p1, q1, rfl, rfl, rfl, h1, r1⟩ := trodAll_cons r0
  obtain ⟨rfl, rfl, rfl⟩ := trodAll_nil r1
  obtain rfl : args = #[v0, v1] := by cases args; simp_all
  obtain ⟨rfl, rfl⟩ := trodVars_none hV
  have k0 := h0
  have lt0 : ∀ x ∈ p0, x.block < W.heap.size := by obtain ⟨m, hm⟩ := k0; exact DataW.trod_lt m _ _ _ hm
  have k1 := h1
  have lt1 : ∀ x ∈ p1, x.block < W.heap.size := by obtain ⟨m, hm⟩ := k1; exact DataW.trod_lt m _ _ _ hm
  obtain ⟨a0, rfl, rfl, rfl, w0⟩ := open_int Tryd.underlying22 (hval 0 22 v0 rfl rfl) h0
  obtain ⟨a1, rfl, rfl, rfl, w1⟩ := open_string Tryd.underlying9 (hval 1 9 v1 rfl rfl) h1
  refine (walk W (Crc.tabs_of hL hSh) a0 w0 a1 w1).mono fun e W' ⟨he, bel⟩ => ?_
  subst he
  exact ⟨_, rfl, _, _, _, [], _, [], hW', trodAll_mk1 (shut_bool Tryd.underlying4 _), (trodAll_cons_mk (Below.trod Bas.laidOut (by kernel_rfl) (of_decide_eq_true (by kernel_rfl)) k0 bel lt0) (trodAll_cons_mk (Below.trod Bas.laidOut (by kernel_rfl) (of_decide_eq_true (by kernel_rfl)) k1 bel lt1) trodAll_mk0)), rfl, bel.frame _, fun h => by cases h⟩


theorem over : Rows.crcFoursRow.holds Tryd.pinned (OpenSpec.ofChange Rows.crcFoursSpec) :=
  OpenClaim.holds_of_cond 5 Tryd.f5 rfl rfl rfl rfl rfl rfl rfl ⟨rfl, rfl, rfl, rfl, rfl⟩ rfl rfl rfl rfl rfl (by kernel_rfl) Tryd.func5 (by kernel_rfl)
    (of_decide_eq_true (by kernel_rfl)) (by unfold Func.isWrapper; first | (rw [if_pos (by decide +kernel)]; kernel_rfl) | (rw [if_neg (by decide +kernel)]; exact ⟨rfl, rfl⟩))
    (fun os started H enc _ Fi => by rw [OpenClaim.pre_eq_preRow]; exact lifted os started H enc Fi)
theorem plain (f : FuncId) (fn : Func) (hf : Tryd.pinned.checked.prog.funcNamed Rows.crcFoursRow.func = some f) (hfn : Tryd.pinned.checked.prog.funcs[f]? = some fn) :
    false = Tryd.pinned.checked.prog.looks [] ∧ ∀ (j : Nat) t, fn.params[j]? = some t → Tryd.pinned.checked.prog.wantsStandIn t = false := by
  obtain rfl : f = 5 := Option.some.inj ((show Tryd.prog.funcNamed Rows.crcFoursRow.func = some 5 by kernel_rfl).symm.trans hf) |>.symm
  obtain rfl : fn = Tryd.f5 := (Option.some.inj (Tryd.func5.symm.trans hfn)).symm
  refine ⟨by kernel_rfl, fun j t ht => ?_⟩
  rw [Tryd.params5] at ht
  have hm : t ∈ [22, 9] := by simpa using Array.mem_of_getElem? ht
  have hall : ([22, 9].all fun u => !Tryd.prog.wantsStandIn u) = true := by kernel_rfl
  exact (show Tryd.prog.wantsStandIn t = false by simpa using List.all_eq_true.1 hall t hm)
end Go.Proofs.YtlgblkhkohhhkaaDoor.crcFours
namespace Go.Proofs.YtlgblkhkohhhkaaDoor
/-- The statement: the tied card. -/
theorem crcFours_proved : Rows.CrcFoursCardSaid :=
  Claim7.holds_tied_plain_at .later [] _ _ _ _ crcFours.over (fun _ h => by cases h) (by kernel_rfl) (fun _ h => by cases h) crcFours_row_tie rfl ⟨rfl, rfl⟩ (by kernel_rfl) rfl crcFours.plain (by kernel_rfl)
end Go.Proofs.YtlgblkhkohhhkaaDoor
