/-
  Proved: bytes of two lists of scalars compare as the lists do. No condition.
-/
import Derived.Test.YtlifobdooophbaaDoorBOLaw2
import Derived.Test.YtlifobdooophbaaDoorDifTab
namespace Go.Proofs.YtlifobdooophbaaDoor
open Go.ChangeShapes Go.WideShapes Go.ChangeAt Go.RowKit
open Go.ChangeMaps (open_string shut_string)
namespace bocuOrder
open Bas Sca Stp Scn Cod BO
set_option linter.unusedVariables false

theorem less_cmp (x y : List UInt8) : Op.bytesLess x y = decide (cmpL (x.map fun b => (b.toNat : Int)) (y.map fun b => (b.toNat : Int)) < 0) := by
  induction x generalizing y with
  | nil => cases y <;> simp [Op.bytesLess, cmpL]
  | cons a r ih =>
    cases y with
    | nil => simp [Op.bytesLess, cmpL]
    | cons b s =>
      simp only [Op.bytesLess, List.map_cons, cmpL, ih s]
      by_cases h : a < b
      · have h' : (a.toNat : Int) < b.toNat := by have := UInt8.lt_iff_toNat_lt.1 h; omega
        simp [h, h']
      · have h' : ¬ (a.toNat : Int) < b.toNat := by intro e; exact h (UInt8.lt_iff_toNat_lt.2 (by omega))
        by_cases e : a = b
        · subst e; simp [h]
        · have e' : (b.toNat : Int) < a.toNat := by
            have : a.toNat ≠ b.toNat := fun q => e (UInt8.toNat_inj.1 q)
            omega
          simp [h, h', e, e']
theorem eq_cmp (x y : List UInt8) : (x == y) = decide (cmpL (x.map fun b => (b.toNat : Int)) (y.map fun b => (b.toNat : Int)) = 0) := by
  rw [Bool.eq_iff_iff]
  simp only [beq_iff_eq, decide_eq_true_eq]
  constructor
  · rintro rfl; exact cmpL_self _
  · intro h
    have := cmpL_zero h
    exact (List.map_inj_right (fun a b q => UInt8.toNat_inj.1 (by have q' : (a.toNat : Int) = (b.toNat : Int) := q; omega))).1 this
theorem str_cmp (s t : ByteArray) (z : Int) (hz : cmpL (bytesL s) (bytesL t) = z) : Op.bytesLess s.toList t.toList = decide (z < 0) ∧ (s.toList == t.toList) = decide (z = 0) := by
  subst hz
  rw [ByteArray.toList_eq, ByteArray.toList_eq, less_cmp, eq_cmp]
  exact ⟨rfl, rfl⟩
theorem not_two (z : Int) : (!(decide (z < 0)) && !(decide (z = 0))) = decide (0 < z) := by
  rw [Bool.eq_iff_iff]; simp; omega
set_option maxHeartbeats 8000000 in
set_option maxRecDepth 100000 in
theorem walk (w : World) (hT : Dif.Tabs w) (a0 : Option Addr) (n0 c0 : Nat) (l0 : List Int) (I0 : Ints .u32 w a0 n0 c0 l0) (J0 : Cap a0 n0 c0) (a1 : Option Addr) (n1 c1 : Nat) (l1 : List Int) (I1 : Ints .u32 w a1 n1 c1 l1) (J1 : Cap a1 n1 c1) :
    Calls Tryd.prog 8 #[.slice a0 n0 c0, .slice a1 n1 c1] w fun e w' => e = .returned (.bool true) ∧ Below w.heap.size w w' := by
  have HT : Hid (Dif.Tabs w) := hT
  obtain ⟨π, -⟩ : ∃ π : Par, π = π := ⟨(), rfl⟩
  have HI : Hid (Ints .u32 w a0 n0 c0 l0 ∧ Cap a0 n0 c0 ∧ Ints .u32 w a1 n1 c1 l1 ∧ Cap a1 n1 c1) := ⟨I0, J0, I1, J1⟩
  have hn0 := I0.max
  have hn1 := I1.max
  clear hT I0 J0 I1 J1
  go_enter Tryd.func8, Tryd.ntmps8
  go_wp2_with fail
  refine (awake_any w HT.out).mono ?_
  rintro e w1 ⟨rfl, b1⟩
  have HB1 : Hid (Below w.heap.size w w1) := b1
  have HAW : Hid (Dif.Tabs w1) := HT.out.below b1
  clear b1
  go_wp2_with fail
  refine (great_any _ none none 0 0 0 0 w1).mono ?_
  rintro e w1 ⟨rfl, rfl⟩
  obtain ⟨g, hg⟩ : ∃ g, (decide ((n0 : Int) > 400) || (decide (0 > 200) || decide (0 > 200))) = g := ⟨_, rfl⟩
  rw [hg]
  cases g with
  | true =>
    clear hg
    go_wp2_with fail
    refine (awake_any _ HAW.out).mono ?_
    rintro e w2 ⟨rfl, b2⟩
    go_wp2
    go_ret
    exact ⟨rfl, below_two HB1.out b2⟩
  | false =>
    obtain ⟨h400, -, -⟩ := great_no hg
    clear hg
    go_wp2_with fail
    refine (great_any _ none none 0 0 0 0 w1).mono ?_
    rintro e w1 ⟨rfl, rfl⟩
    obtain ⟨g, hg⟩ : ∃ g, (decide ((n1 : Int) > 400) || (decide (0 > 200) || decide (0 > 200))) = g := ⟨_, rfl⟩
    rw [hg]
    cases g with
    | true =>
      clear hg
      go_wp2_with fail
      refine (awake_any _ HAW.out).mono ?_
      rintro e w2 ⟨rfl, b2⟩
      go_wp2
      go_ret
      exact ⟨rfl, below_two HB1.out b2⟩
    | false =>
      obtain ⟨h401, -, -⟩ := great_no hg
      clear hg
      go_wp2_with fail
      refine (rFirst_any a0 n0 c0 l0 w1 (HI.out.1.row.mono HB1.out) HI.out.1.len HI.out.1.max).mono ?_
      rintro e w1 ⟨rfl, rfl⟩
      by_cases hok : okLen l0 < l0.length
      · rw [firstL_ok, if_pos hok]
        have hge : (okLen l0 : Int) ≥ 0 := by omega
        clear hok
        go_wp2_with fail
        refine (awake_any _ HAW.out).mono ?_
        rintro e w2 ⟨rfl, b2⟩
        go_wp2
        go_ret
        exact ⟨rfl, below_two HB1.out b2⟩
      · rw [firstL_ok, if_neg hok]
        have HS0 : Hid (∀ c ∈ l0, isB c = true ∧ 0 ≤ c) := scalars_of hok HI.out.1.fits
        clear hok
        go_wp2_with fail
        refine (rFirst_any a1 n1 c1 l1 w1 (HI.out.2.2.1.row.mono HB1.out) HI.out.2.2.1.len HI.out.2.2.1.max).mono ?_
        rintro e w1 ⟨rfl, rfl⟩
        by_cases hok : okLen l1 < l1.length
        · rw [firstL_ok, if_pos hok]
          have hge : (okLen l1 : Int) ≥ 0 := by omega
          clear hok
          go_wp2_with fail
          refine (awake_any _ HAW.out).mono ?_
          rintro e w2 ⟨rfl, b2⟩
          go_wp2
          go_ret
          exact ⟨rfl, below_two HB1.out b2⟩
        · rw [firstL_ok, if_neg hok]
          have HS1 : Hid (∀ c ∈ l1, isB c = true ∧ 0 ≤ c) := scalars_of hok HI.out.2.2.1.fits
          clear hok
          go_wp2_with fail
          refine (newEn_any π _ rfl HAW.out).mono ?_
          rintro e w2 ⟨rfl, E2, z2, B2⟩
          obtain ⟨N, hN⟩ : ∃ N, N = w1.heap.size := ⟨_, rfl⟩
          have HN : Hid (w.heap.size ≤ N) := by show w.heap.size ≤ N; rw [hN]; exact HB1.out.size
          rw [← hN] at E2 z2 B2 ⊢
          have HB2 : Hid (Below w.heap.size w w2) := HB1.out.trans (B2.mono HN.out)
          clear hN
          go_wp2_with fail
          refine (write_any N _ a0 n0 c0 l0 none none 0 0 0 0 [] [] w2 E2 (came_of HI.out.2.1 HI.out.1.row HI.out.1.len HB2.out (fun k hk hf => by have := footE_nil hf; have := HN.out; omega)) (fun c hc => fits_u32' (HI.out.1.fits c hc)) (ints_none _ _) (ints_none _ _) (fun b' o' h0 e h => by omega) (fun b' o' h0 e h => by omega) (by omega) (by omega) (by have := HI.out.1.len; omega)).mono ?_
          rintro e w3 ⟨rfl, sg3, v3, E3, C3⟩
          have HB3 : Hid (Below w.heap.size w w3) := HB2.out.trans (C3.below HB2.out.size (fun k j hk h => by have := footE_nil h; have := HN.out; omega))
          obtain ⟨s, hs⟩ : ∃ s, Stp.strOf (txtS π l0) = s := ⟨_, rfl⟩
          rw [hs]
          have HBS : Hid (bytesL s = txtS π l0) := by show bytesL s = _; rw [← hs]; exact bytesL_strOf _ (txt_byte π l0 HS0.out)
          clear hs E2 z2 B2 E3 C3 HB2
          go_wp2_with fail
          refine (newEn_any π _ rfl (HT.out.below HB3.out)).mono ?_
          rintro e w4 ⟨rfl, E4, z4, B4⟩
          obtain ⟨M, hM⟩ : ∃ M, M = w3.heap.size := ⟨_, rfl⟩
          have HM : Hid (w.heap.size ≤ M) := by show w.heap.size ≤ M; rw [hM]; exact HB3.out.size
          rw [← hM] at E4 z4 B4 ⊢
          have HB4 : Hid (Below w.heap.size w w4) := HB3.out.trans (B4.mono HM.out)
          clear hM
          go_wp2_with fail
          refine (write_any M _ a1 n1 c1 l1 none none 0 0 0 0 [] [] w4 E4 (came_of HI.out.2.2.2 HI.out.2.2.1.row HI.out.2.2.1.len HB4.out (fun k hk hf => by have := footE_nil hf; have := HM.out; omega)) (fun c hc => fits_u32' (HI.out.2.2.1.fits c hc)) (ints_none _ _) (ints_none _ _) (fun b' o' h0 e h => by omega) (fun b' o' h0 e h => by omega) (by omega) (by omega) (by have := HI.out.2.2.1.len; omega)).mono ?_
          rintro e w5 ⟨rfl, sg5, v5, E5, C5⟩
          have HB5 : Hid (Below w.heap.size w w5) := HB4.out.trans (C5.below HB4.out.size (fun k j hk h => by have := footE_nil h; have := HM.out; omega))
          obtain ⟨t, ht⟩ : ∃ t, Stp.strOf (txtS π l1) = t := ⟨_, rfl⟩
          rw [ht]
          have HBT : Hid (bytesL t = txtS π l1) := by show bytesL t = _; rw [← ht]; exact bytesL_strOf _ (txt_byte π l1 HS1.out)
          clear ht E4 z4 B4 E5 C5 HB4
          go_wp2_with fail
          refine (rOrder_any a0 a1 n0 n1 c0 c1 l0 l1 w5 (HI.out.1.row.mono HB5.out) (HI.out.2.2.1.row.mono HB5.out) HI.out.1.len HI.out.2.2.1.len (by unfold maxLen; omega) (by unfold maxLen; omega)).mono ?_
          rintro e w6 ⟨rfl, nd, rfl⟩
          obtain ⟨z, hz⟩ : ∃ z, cmpL l0 l1 = z := ⟨_, rfl⟩
          have hst : cmpL (bytesL s) (bytesL t) = z := by rw [HBS.out, HBT.out, show cmpL (txtS π l0) (txtS π l1) = cmpL l0 l1 from Boc.cmp_texts l0 l1 64 Boc.ga_64 HS0.out HS1.out, hz]
          rw [hz]
          obtain ⟨k1, k2⟩ := str_cmp s t z hst
          have k3 := not_two z
          clear hz hst
          go_wp2
          go_ret
          exact ⟨ret_bool (by simp), below_two HB5.out (below_dn _ _)⟩
theorem reads (os : Os) {H : Type} (enc : TypeId × Value → H) : ∃ places, DataW.whole enc Tryd.prog ((({ World.holding Tryd.prog os ⟨#[], #[], []⟩ with heap := (((World.holding Tryd.prog os ⟨#[], #[], []⟩).heap.modify 0 Dif.lay0).modify 1 Dif.lay1) } : World)).forCall (fun _ _ => 0) ⟨#[], #[.slice none 0 0, .slice none 0 0], []⟩).memory Tryd.f8.params.toList Rows.bocuOrderSpec.vars false #[.slice none 0 0, .slice none 0 0].toList 8 = some ([.nil, .nil], [], places) :=
  ⟨[], by kernel_rfl⟩
set_option maxRecDepth 100000 in
theorem lifted (os : Os) (started : os.Started) (H : Type) (enc : TypeId × Value → H) (Fi : Stop.Interp) :
    ReturnsInHanded {} Tryd.checked os 8 .any ((OpenSpec.ofChange Rows.bocuOrderSpec).preRow enc Tryd.prog Tryd.f8 Rows.bocuOrderRow.domain false Rows.bocuOrderRow.laid) (((OpenSpec.ofChange Rows.bocuOrderSpec).at Fi).post enc Tryd.prog Tryd.f8 false true false false) := by
  obtain ⟨places, hx⟩ := reads os enc
  refine returnsInHanded_of_row (C := Tryd.checked) (s := OpenSpec.ofChange Rows.bocuOrderSpec) Bas.own started (by kernel_rfl) Tryd.func8
    (witness_row_at (enc := enc) (C := Tryd.checked) false (({ World.holding Tryd.prog os ⟨#[], #[], []⟩ with heap := (((World.holding Tryd.prog os ⟨#[], #[], []⟩).heap.modify 0 Dif.lay0).modify 1 Dif.lay1) } : World)) #[.slice none 0 0, .slice none 0 0] rfl (by kernel_rfl) (by kernel_rfl) (by kernel_rfl)
      (OpenSpec.preRow_of_cond 8 hx (by kernel_rfl) (fun k hk => by cases hk) (by kernel_rfl) (Dif.laid_met os _))) ?_
  intro W base args ds gs before hval0 hW _ _ _ hL _ _
  have hval : ∀ (j : Nat) t v, Tryd.f8.params[j]? = some t → args[j]? = some v → Value.okWide Tryd.prog W .any base t v := hval0
  have hW' := hW
  obtain ⟨p, q, hA0, hV, rfl, hfz, hnd⟩ := hW
  have hA : DataW.TrodAll enc Tryd.prog W 0 (fun _ => true) true Tryd.f8.params.toList args.toList ds p := hA0
  rw [Tryd.params8] at hA hval
  obtain ⟨v0, vs0, d0, ds0, p0, q0, hargs, rfl, rfl, h0, r0⟩ := trodAll_cons hA
  obtain ⟨v1, vs1, d1, ds1, p1, q1, rfl, rfl, rfl, h1, r1⟩ := trodAll_cons r0
  obtain ⟨rfl, rfl, rfl⟩ := trodAll_nil r1
  obtain rfl : args = #[v0, v1] := by cases args; simp_all
  obtain ⟨rfl, rfl⟩ := trodVars_none hV
  have k0 := h0
  have lt0 : ∀ x ∈ p0, x.block < W.heap.size := by obtain ⟨m, hm⟩ := k0; exact DataW.trod_lt m _ _ _ hm
  have k1 := h1
  have lt1 : ∀ x ∈ p1, x.block < W.heap.size := by obtain ⟨m, hm⟩ := k1; exact DataW.trod_lt m _ _ _ hm
  obtain ⟨a0, n0, c0, rfl⟩ := okWide_slice Tryd.underlying27 (hval 0 27 v0 rfl rfl)
  obtain ⟨l0, I0, J0⟩ : ∃ l : List Int, Bas.Ints .u32 W a0 n0 c0 l ∧ Cod.Cap a0 n0 c0 := by
    obtain ⟨fuel, hf⟩ := h0
    rcases open_ints Tryd.underlying27 Tryd.underlying43 (by kernel_rfl) hf with ⟨hcs, _⟩ | ⟨x, l, c, zs, hcs, _, hl, hm, hz, _, hcell, hwz⟩
    · simp [Value.cells] at hcs
      obtain ⟨rfl, rfl, rfl⟩ := hcs
      exact ⟨[], ⟨Bas.row_nil _ _ _, rfl, by unfold maxLen; omega, by simp, fun _ => rfl⟩, .inl ⟨rfl, rfl⟩⟩
    · simp [Value.cells] at hcs
      obtain ⟨rfl, rfl, rfl⟩ := hcs
      have hz' : zs.length = c0 := by simpa using hz
      exact ⟨zs.take n0, ⟨Bas.row_of _ _ _ _ _ (by omega) hcell, by simp; omega, by omega, fun n hn => hwz n (List.mem_of_mem_take hn), fun h => by cases h⟩, Cod.cap_of (by omega) (by omega) hz' hcell⟩
  obtain ⟨a1, n1, c1, rfl⟩ := okWide_slice Tryd.underlying27 (hval 1 27 v1 rfl rfl)
  obtain ⟨l1, I1, J1⟩ : ∃ l : List Int, Bas.Ints .u32 W a1 n1 c1 l ∧ Cod.Cap a1 n1 c1 := by
    obtain ⟨fuel, hf⟩ := h1
    rcases open_ints Tryd.underlying27 Tryd.underlying43 (by kernel_rfl) hf with ⟨hcs, _⟩ | ⟨x, l, c, zs, hcs, _, hl, hm, hz, _, hcell, hwz⟩
    · simp [Value.cells] at hcs
      obtain ⟨rfl, rfl, rfl⟩ := hcs
      exact ⟨[], ⟨Bas.row_nil _ _ _, rfl, by unfold maxLen; omega, by simp, fun _ => rfl⟩, .inl ⟨rfl, rfl⟩⟩
    · simp [Value.cells] at hcs
      obtain ⟨rfl, rfl, rfl⟩ := hcs
      have hz' : zs.length = c1 := by simpa using hz
      exact ⟨zs.take n1, ⟨Bas.row_of _ _ _ _ _ (by omega) hcell, by simp; omega, by omega, fun n hn => hwz n (List.mem_of_mem_take hn), fun h => by cases h⟩, Cod.cap_of (by omega) (by omega) hz' hcell⟩
  refine (walk W (Dif.tabs_of hL) a0 n0 c0 l0 I0 J0 a1 n1 c1 l1 I1 J1).mono fun e W' ⟨he, bel⟩ => ?_
  subst he
  exact ⟨_, rfl, _, _, _, [], _, [], hW', trodAll_mk1 (shut_bool Tryd.underlying4 _), (trodAll_cons_mk (Below.trod Bas.laidOut (by kernel_rfl) (of_decide_eq_true (by kernel_rfl)) k0 bel lt0) (trodAll_cons_mk (Below.trod Bas.laidOut (by kernel_rfl) (of_decide_eq_true (by kernel_rfl)) k1 bel lt1) trodAll_mk0)), rfl, bel.frame _, fun h => by cases h⟩


theorem over : Rows.bocuOrderRow.holds Tryd.pinned (OpenSpec.ofChange Rows.bocuOrderSpec) :=
  OpenClaim.holds_of_cond 8 Tryd.f8 rfl rfl rfl rfl rfl rfl rfl ⟨rfl, rfl, rfl, rfl, rfl⟩ rfl rfl rfl rfl rfl (by kernel_rfl) Tryd.func8 (by kernel_rfl)
    (of_decide_eq_true (by kernel_rfl)) (by unfold Func.isWrapper; first | (rw [if_pos (by decide +kernel)]; kernel_rfl) | (rw [if_neg (by decide +kernel)]; exact ⟨rfl, rfl⟩))
    (fun os started H enc _ Fi => by rw [OpenClaim.pre_eq_preRow]; exact lifted os started H enc Fi)
theorem plain (f : FuncId) (fn : Func) (hf : Tryd.pinned.checked.prog.funcNamed Rows.bocuOrderRow.func = some f) (hfn : Tryd.pinned.checked.prog.funcs[f]? = some fn) :
    false = Tryd.pinned.checked.prog.looks [] ∧ ∀ (j : Nat) t, fn.params[j]? = some t → Tryd.pinned.checked.prog.wantsStandIn t = false := by
  obtain rfl : f = 8 := Option.some.inj ((show Tryd.prog.funcNamed Rows.bocuOrderRow.func = some 8 by kernel_rfl).symm.trans hf) |>.symm
  obtain rfl : fn = Tryd.f8 := (Option.some.inj (Tryd.func8.symm.trans hfn)).symm
  refine ⟨by kernel_rfl, fun j t ht => ?_⟩
  rw [Tryd.params8] at ht
  have hm : t ∈ [27, 27] := by simpa using Array.mem_of_getElem? ht
  have hall : ([27, 27].all fun u => !Tryd.prog.wantsStandIn u) = true := by kernel_rfl
  exact (show Tryd.prog.wantsStandIn t = false by simpa using List.all_eq_true.1 hall t hm)
end Go.Proofs.YtlifobdooophbaaDoor.bocuOrder
namespace Go.Proofs.YtlifobdooophbaaDoor
/-- The statement: the tied card. -/
theorem bocuOrder_proved : Rows.BocuOrderCardSaid :=
  Claim7.holds_tied_plain_at .later [] _ _ _ _ bocuOrder.over (fun _ h => by cases h) (by kernel_rfl) (fun _ h => by cases h) bocuOrder_row_tie rfl ⟨rfl, rfl⟩ (by kernel_rfl) rfl bocuOrder.plain (by kernel_rfl)
end Go.Proofs.YtlifobdooophbaaDoor
