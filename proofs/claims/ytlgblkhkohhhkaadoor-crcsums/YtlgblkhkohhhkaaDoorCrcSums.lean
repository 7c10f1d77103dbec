/-
  Any bytes have the sum that the document says, and no other one: the statement CrcSums is proved, for every input. The condition is the card's own: the listed table is as the program's text lays it.
-/
import Derived.Test.YtlgblkhkohhhkaaDoorCrcRf
import Derived.Test.YtlgblkhkohhhkaaDoorCrcTab
import Derived.Test.YtlgblkhkohhhkaaDoorCrcAwk
namespace Go.Proofs.YtlgblkhkohhhkaaDoor
open Go.ChangeShapes Go.WideShapes Go.ChangeAt Go.RowKit
open Go.ChangeMaps (open_string shut_string)
namespace crcSums
open Bas Txt Crc
set_option linter.unusedVariables false

set_option maxHeartbeats 8000000 in
set_option maxRecDepth 100000 in
theorem walk (w : World) (hT : Crc.Tabs w) (s : ByteArray) (hs0 : s.size ≤ maxLen) (x : Int) (hx : (Lit.int .u32 x).wf = true) :
    Calls Tryd.prog 3 #[.string s, .int .u32 x] w fun e w' => e = .returned (.bool true) ∧ Below w.heap.size w w' := by
  have HT : Hid (Crc.Tabs w) := hT
  obtain ⟨m, rfl, hm⟩ : ∃ m : Nat, x = (m : Int) ∧ m < 4294967296 := by
    have e1 : IntKind.u32.min = 0 := rfl
    have e2 : IntKind.u32.max = 4294967295 := rfl
    simp only [Lit.wf, e1, e2, Bool.and_eq_true, decide_eq_true_eq] at hx
    exact ⟨x.toNat, by omega, by omega⟩
  clear hx hT
  go_enter Tryd.func3, Tryd.ntmps3
  go_wp2_with fail
  refine (awake_any w HT.out).mono ?_
  rintro e w1 ⟨rfl, b1⟩
  have H1 : Hid (Below w.heap.size w w1 ∧ Crc.Tabs w1) := ⟨b1, HT.out.below b1⟩
  clear b1
  by_cases hbig : s.size > 2000
  · have i1 : (s.size : Int) > 2000 := by omega
    go_wp2_with fail
    refine (awake_any w1 H1.out.2).mono ?_
    rintro e w2 ⟨rfl, b2⟩
    go_wp2
    go_ret
    exact ⟨rfl, below_two H1.out.1 b2⟩
  · have i1 : ¬ (s.size : Int) > 2000 := by omega
    have hs : s.size ≤ 1000000 := by omega
    have hS := sumI_lt (bytesL s)
    have HR : Hid (∀ w, Calls Tryd.prog 9 #[.string s] w fun e w' => e = .returned (.int .u32 ((sumI (bytesL s) : Nat) : Int)) ∧ w' = w) := fun w => rOf_any s w hs
    have HO : Hid (∀ w w0, Crc.Tabs w0 → w = w0.alloc (.cells #[.string s] 9) → Calls Tryd.prog 10 #[.slice (some ⟨w0.heap.size, 0, none⟩) 1 1] w fun e w' => e = .returned (.int .u32 ((sumI (bytesL s) : Nat) : Int)) ∧ Below w0.heap.size w0 w') := fun w w0 h1 h2 => of_one s w w0 h1 h2 hs _ rfl
    have HI : Hid (∀ w (x : Nat), Crc.Tabs w → x < 4294967296 → Calls Tryd.prog 11 #[.string s, .int .u32 (x : Int)] w fun e w' => e = .returned (.bool (decide (sumI (bytesL s) = x))) ∧ Below w.heap.size w w') := fun w x h1 h2 => is_any s x w h1 hs h2
    obtain ⟨S, hSS⟩ : ∃ S, sumI (bytesL s) = S := ⟨_, rfl⟩
    rw [hSS] at HR HO HI hS
    clear hSS
    go_wp2_with fail
    refine (HR.out w1).mono ?_
    rintro e w2 ⟨rfl, hw⟩
    subst hw
    go_wp2_with fail
    refine (HO.out _ w2 H1.out.2 rfl).mono ?_
    rintro e w3 ⟨rfl, b3⟩
    have H3 : Hid (Below w.heap.size w w3 ∧ Crc.Tabs w3) := ⟨below_two H1.out.1 b3, H1.out.2.below b3⟩
    clear b3 H1
    go_wp2_with fail
    refine (HI.out w3 S H3.out.2 hS).mono ?_
    rintro e w4 ⟨rfl, b4⟩
    rw [decide_eq_true (rfl : S = S)]
    have H4 : Hid (Below w.heap.size w w4 ∧ Crc.Tabs w4) := ⟨below_two H3.out.1 b4, H3.out.2.below b4⟩
    clear b4 H3
    go_wp2_with fail
    refine (HI.out w4 m H4.out.2 hm).mono ?_
    rintro e w5 ⟨rfl, b5⟩
    have HE : Hid ((decide (S = m) == ((m : Int) == (S : Int))) = true) := by
      show _ = _
      by_cases h : S = m
      · rw [decide_eq_true h, h]; simp
      · rw [decide_eq_false h]; simp; omega
    go_wp2
    go_ret
    exact ⟨ret_bool HE.out, below_two H4.out.1 b5⟩
theorem reads (os : Os) {H : Type} (enc : TypeId × Value → H) : ∃ places, DataW.whole enc Tryd.prog ((({ World.holding Tryd.prog os ⟨#[], #[], []⟩ with heap := (World.holding Tryd.prog os ⟨#[], #[], []⟩).heap.modify 0 Crc.lay0 } : World)).forCall (fun _ _ => 0) ⟨#[], #[.string ByteArray.empty, .int .u32 0], []⟩).memory Tryd.f3.params.toList Rows.crcSumsSpec.vars false #[.string ByteArray.empty, .int .u32 0].toList 8 = some ([.lit (.string []), .lit (.int .u32 0)], [], places) :=
  ⟨[], by kernel_rfl⟩
set_option maxRecDepth 100000 in
theorem lifted (os : Os) (started : os.Started) (H : Type) (enc : TypeId × Value → H) (Fi : Stop.Interp) :
    ReturnsInHanded {} Tryd.checked os 3 .any ((OpenSpec.ofChange Rows.crcSumsSpec).preRow enc Tryd.prog Tryd.f3 Rows.crcSumsRow.domain false Rows.crcSumsRow.laid) (((OpenSpec.ofChange Rows.crcSumsSpec).at Fi).post enc Tryd.prog Tryd.f3 false true false false) := by
  obtain ⟨places, hx⟩ := reads os enc
  refine returnsInHanded_of_row (C := Tryd.checked) (s := OpenSpec.ofChange Rows.crcSumsSpec) Bas.own started (by kernel_rfl) Tryd.func3
    (witness_row_at (enc := enc) (C := Tryd.checked) false (({ World.holding Tryd.prog os ⟨#[], #[], []⟩ with heap := (World.holding Tryd.prog os ⟨#[], #[], []⟩).heap.modify 0 Crc.lay0 } : World)) #[.string ByteArray.empty, .int .u32 0] rfl (by kernel_rfl) (by kernel_rfl) (by kernel_rfl)
      (OpenSpec.preRow_of_cond 8 hx (by kernel_rfl) (fun k hk => by cases hk) (by kernel_rfl) (Crc.laid_met os _))) ?_
  intro W base args ds gs before hval0 hW _ _ _ hL hSh _
  have hval : ∀ (j : Nat) t v, Tryd.f3.params[j]? = some t → args[j]? = some v → Value.okWide Tryd.prog W .any base t v := hval0
  have hW' := hW
  obtain ⟨p, q, hA0, hV, rfl, hfz, hnd⟩ := hW
  have hA : DataW.TrodAll enc Tryd.prog W 0 (fun _ => true) true Tryd.f3.params.toList args.toList ds p := hA0
  rw [Tryd.params3] at hA hval
  obtain ⟨v0, vs0, d0, ds0, p0, q0, hargs, rfl, rfl, h0, r0⟩ := trodAll_cons hA
  obtain ⟨v1, vs1, d1, ds1, p1, q1, rfl, rfl, rfl, h1, r1⟩ := trodAll_cons r0
  obtain ⟨rfl, rfl, rfl⟩ := trodAll_nil r1
  obtain rfl : args = #[v0, v1] := by cases args; simp_all
  obtain ⟨rfl, rfl⟩ := trodVars_none hV
  have k0 := h0
  have lt0 : ∀ x ∈ p0, x.block < W.heap.size := by obtain ⟨m, hm⟩ := k0; exact DataW.trod_lt m _ _ _ hm
  have k1 := h1
  have lt1 : ∀ x ∈ p1, x.block < W.heap.size := by obtain ⟨m, hm⟩ := k1; exact DataW.trod_lt m _ _ _ hm
  obtain ⟨a0, rfl, rfl, rfl, w0⟩ := open_string Tryd.underlying9 (hval 0 9 v0 rfl rfl) h0
  obtain ⟨a1, rfl, rfl, rfl, w1⟩ := open_int Tryd.underlying22 (hval 1 22 v1 rfl rfl) h1
  refine (walk W (Crc.tabs_of hL hSh) a0 w0 a1 w1).mono fun e W' ⟨he, bel⟩ => ?_
  subst he
  exact ⟨_, rfl, _, _, _, [], _, [], hW', trodAll_mk1 (shut_bool Tryd.underlying4 _), (trodAll_cons_mk (Below.trod Bas.laidOut (by kernel_rfl) (of_decide_eq_true (by kernel_rfl)) k0 bel lt0) (trodAll_cons_mk (Below.trod Bas.laidOut (by kernel_rfl) (of_decide_eq_true (by kernel_rfl)) k1 bel lt1) trodAll_mk0)), rfl, bel.frame _, fun h => by cases h⟩


theorem over : Rows.crcSumsRow.holds Tryd.pinned (OpenSpec.ofChange Rows.crcSumsSpec) :=
  OpenClaim.holds_of_cond 3 Tryd.f3 rfl rfl rfl rfl rfl rfl rfl ⟨rfl, rfl, rfl, rfl, rfl⟩ rfl rfl rfl rfl rfl (by kernel_rfl) Tryd.func3 (by kernel_rfl)
    (of_decide_eq_true (by kernel_rfl)) (by unfold Func.isWrapper; first | (rw [if_pos (by decide +kernel)]; kernel_rfl) | (rw [if_neg (by decide +kernel)]; exact ⟨rfl, rfl⟩))
    (fun os started H enc _ Fi => by rw [OpenClaim.pre_eq_preRow]; exact lifted os started H enc Fi)
theorem plain (f : FuncId) (fn : Func) (hf : Tryd.pinned.checked.prog.funcNamed Rows.crcSumsRow.func = some f) (hfn : Tryd.pinned.checked.prog.funcs[f]? = some fn) :
    false = Tryd.pinned.checked.prog.looks [] ∧ ∀ (j : Nat) t, fn.params[j]? = some t → Tryd.pinned.checked.prog.wantsStandIn t = false := by
  obtain rfl : f = 3 := Option.some.inj ((show Tryd.prog.funcNamed Rows.crcSumsRow.func = some 3 by kernel_rfl).symm.trans hf) |>.symm
  obtain rfl : fn = Tryd.f3 := (Option.some.inj (Tryd.func3.symm.trans hfn)).symm
  refine ⟨by kernel_rfl, fun j t ht => ?_⟩
  rw [Tryd.params3] at ht
  have hm : t ∈ [9, 22] := by simpa using Array.mem_of_getElem? ht
  have hall : ([9, 22].all fun u => !Tryd.prog.wantsStandIn u) = true := by kernel_rfl
  exact (show Tryd.prog.wantsStandIn t = false by simpa using List.all_eq_true.1 hall t hm)
end Go.Proofs.YtlgblkhkohhhkaaDoor.crcSums
namespace Go.Proofs.YtlgblkhkohhhkaaDoor
/-- The statement: the tied card. -/
theorem crcSums_proved : Rows.CrcSumsCardSaid :=
  Claim7.holds_tied_plain_at .later [] _ _ _ _ crcSums.over (fun _ h => by cases h) (by kernel_rfl) (fun _ h => by cases h) crcSums_row_tie rfl ⟨rfl, rfl⟩ (by kernel_rfl) rfl crcSums.plain (by kernel_rfl)
end Go.Proofs.YtlgblkhkohhhkaaDoor
