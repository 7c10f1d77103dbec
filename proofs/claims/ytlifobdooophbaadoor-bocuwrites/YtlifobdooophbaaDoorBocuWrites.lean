/-
  Proved: any numbers, in whatever parts they come, with whatever room, are told by the encoder of layer 12 as the bytes that the document says, up to the first that is no scalar, whose place is told. No condition.
-/
import Derived.Test.YtlifobdooophbaaDoorBOLaw2
import Derived.Test.YtlifobdooophbaaDoorDifTab
import Derived.Test.YtlifobdooophbaaDoorBOByt
import Derived.Deep.RegionHeld3
namespace Go.Proofs.YtlifobdooophbaaDoor
open Go.ChangeShapes Go.WideShapes Go.ChangeAt Go.RowKit
open Go.ChangeMaps (open_string shut_string)
namespace bocuWrites
open Bas Sca Stp Scn Cod BO
set_option linter.unusedVariables false

theorem failQ (N m : Nat) (q fa : Int) (en : Bool) (w : World) (h : BaseAt w N 0 m q en) (hf : failAt (m : Int) q = fa) :
    Calls Tryd.prog 17 #[.pointer (some ⟨N, 0, none⟩)] w fun e w' => e = .returned (.agg #[.int .i64 q, .int .i64 fa]) ∧ Below w.heap.size w w' := by
  subst hf
  exact fail_any N 0 m q en w h
set_option maxHeartbeats 8000000 in
set_option maxRecDepth 100000 in
theorem walk (w : World) (hT : Dif.Tabs w) (a0 : Option Addr) (n0 c0 : Nat) (l0 : List Int) (I0 : Ints .u32 w a0 n0 c0 l0) (J0 : Cap a0 n0 c0) (a1 : Option Addr) (n1 c1 : Nat) (l1 : List Int) (I1 : Ints .i64 w a1 n1 c1 l1) (a2 : Option Addr) (n2 c2 : Nat) (l2 : List Int) (I2 : Ints .i64 w a2 n2 c2 l2) :
    Calls Tryd.prog 4 #[.slice a0 n0 c0, .slice a1 n1 c1, .slice a2 n2 c2] w fun e w' => e = .returned (.bool true) ∧ Below w.heap.size w w' := by
  have HT : Hid (Dif.Tabs w) := hT
  obtain ⟨π, -⟩ : ∃ π : Par, π = π := ⟨(), rfl⟩
  have HI : Hid (Ints .u32 w a0 n0 c0 l0 ∧ Cap a0 n0 c0 ∧ Ints .i64 w a1 n1 c1 l1 ∧ Ints .i64 w a2 n2 c2 l2) := ⟨I0, J0, I1, I2⟩
  have hn0 := I0.max
  have hcap := J0.le
  clear I0 J0 I1 I2 hT
  have HB0 : Hid (Below w.heap.size w w) := Below.refl _ _
  go_enter Tryd.func4, Tryd.ntmps4
  go_wp2_with fail
  refine (awake_any _ (HT.out.below HB0.out)).mono ?_
  rintro e w1 ⟨rfl, b1⟩
  have HB1 : Hid (Below w.heap.size w w1) := below_two HB0.out b1
  clear b1 HB0
  go_wp2_with fail
  refine (great_any _ a1 a2 n1 c1 n2 c2 w1).mono ?_
  rintro e w1' ⟨rfl, rfl⟩
  obtain ⟨g, hg⟩ : ∃ g, (decide ((n0 : Int) > 400) || (decide (n1 > 200) || decide (n2 > 200))) = g := ⟨_, rfl⟩
  rw [hg]
  cases g with
  | true =>
    clear hg
    go_wp2_with fail
    refine (awake_any _ (HT.out.below HB1.out)).mono ?_
    rintro e w2 ⟨rfl, b2⟩
    go_wp2
    go_ret
    exact ⟨rfl, below_two HB1.out b2⟩
  | false =>
    obtain ⟨h400, h1, h2⟩ := great_no hg
    clear hg
    go_wp2_with fail
    refine (newEn_any π _ rfl (HT.out.below HB1.out)).mono ?_
    rintro e w2 ⟨rfl, E2, z2, B2⟩
    obtain ⟨N, hN⟩ : ∃ N, N = w1'.heap.size := ⟨_, rfl⟩
    have HN : Hid (w.heap.size ≤ N) := by show w.heap.size ≤ N; rw [hN]; exact HB1.out.size
    rw [← hN] at E2 z2 B2 ⊢
    have HB2 : Hid (Below w.heap.size w w2) := HB1.out.trans (B2.mono HN.out)
    clear hN
    go_wp2_with fail
    refine (write_any N _ a0 n0 c0 l0 a1 a2 n1 c1 n2 c2 l1 l2 w2 E2 (came_of HI.out.2.1 HI.out.1.row HI.out.1.len HB2.out (fun k hk hf => by have := footE_nil hf; have := HN.out; omega)) (fun c hc => fits_u32' (HI.out.1.fits c hc)) (HI.out.2.2.1.mono HB2.out) (HI.out.2.2.2.mono HB2.out) (fun b' o' h0 e h => by have := row_lt (HI.out.2.2.1.row) (by rw [HI.out.2.2.1.len]; exact h0) e; have := footE_nil h; have := HN.out; omega) (fun b' o' h0 e h => by have := row_lt (HI.out.2.2.2.row) (by rw [HI.out.2.2.2.len]; exact h0) e; have := footE_nil h; have := HN.out; omega) (by omega) (by omega) (by have := HI.out.1.len; omega)).mono ?_
    rintro e w3 ⟨rfl, sg3, v3, E3, C3⟩
    have HB3 : Hid (Below w.heap.size w w3) := HB2.out.trans (C3.below HB2.out.size (fun k j hk h => by have := footE_nil h; have := HN.out; omega))
    have HE3 : Hid (EncV π sg3 w3 N (okLen l0) (if okLen l0 < l0.length then 2 else 0) (decide (okLen l0 = l0.length)) [] v3) := E3
    rw [show allS (oneS π) (nxtS π) (e0 π) l0 = txtS π (l0.take (okLen l0)) from allS_take π l0 _]
    clear E2 z2 B2 E3 C3 HB2
    go_wp2_with fail
    refine (rFirst_any a0 n0 c0 l0 w3 (HI.out.1.row.mono HB3.out) HI.out.1.len HI.out.1.max).mono ?_
    rintro e w3 ⟨rfl, rfl⟩
    rw [firstL_ok]
    have hle := okLen_le l0
    have hl := HI.out.1.len
    obtain ⟨m, hm⟩ : ∃ m, okLen l0 = m := ⟨_, rfl⟩
    have hbs := take_scalars l0 HI.out.1.fits
    rw [hm] at hle HE3 hbs ⊢
    rw [hl] at hle HE3 ⊢
    have hrow : Row .u32 w3 a0 (l0.take m) := by
      obtain ⟨bb, oo, q1, q2⟩ := HI.out.1.row.mono HB3.out
      refine ⟨bb, oo, fun hne => q1 (fun e => hne (by rw [e]; simp)), fun i hi => ?_⟩
      rw [List.length_take] at hi
      rw [nth_take (by omega)]; exact q2 i (by omega)
    have HRW : Hid (Row .u32 w3 a0 (l0.take m) ∧ (l0.take m).length = m ∧ ∀ c ∈ l0.take m, isB c = true ∧ 0 ≤ c) := ⟨hrow, by rw [List.length_take]; omega, hbs⟩
    have hmn : (m : Int) ≤ (c0 : Int) := by omega
    clear hl hm hbs hrow
    by_cases hok : m < n0
    · rw [if_pos hok] at HE3
      rw [if_pos hok]
      have hlt : ¬ (m : Int) < 0 := by omega
      rw [decide_eq_false (show ¬ m = n0 by omega)] at HE3
      clear hok
      go_wp2_with fail
      refine (failed_any 2 m w3).mono ?_
      rintro e w4 ⟨rfl, b4⟩
      have HE4 : Hid (EncV π sg3 w4 N m 2 false [] v3 ∧ Below w.heap.size w w4) := ⟨HE3.out.below b4, below_two HB3.out b4⟩
      have HR4 : Hid (Row .u32 w4 a0 (l0.take m)) := HRW.out.1.mono b4
      rw [show (if (2 : Int) = 0 then (0 : Int) else (m : Int)) = m from rfl]
      clear b4 HE3 HB3
      go_upto_region 10 with fail
      have hB5 : Below w4.heap.size w4 (w4.alloc (.cells #[.int .i64 2, .int .i64 m] 35)).drew := ((Below.refl _ _).alloc (Nat.le_refl _) _).drew
      obtain ⟨F, hFF⟩ : ∃ F, F = w4.heap.size := ⟨_, rfl⟩
      have hF : (w4.alloc (.cells #[.int .i64 2, .int .i64 m] 35)).drew.cell? ⟨F, 0, none⟩ = some (.int .i64 2) ∧ (w4.alloc (.cells #[.int .i64 2, .int .i64 m] 35)).drew.cell? ⟨F, 1, none⟩ = some (.int .i64 m) := by
        subst hFF
        simp only [World.cell?_drew]
        exact ⟨by rw [World.cell?_alloc_new]; rfl, by rw [World.cell?_alloc_new]; rfl⟩
      have E5 := HE4.out.1.below hB5
      have R5 := HR4.out.mono hB5
      have B5 := below_two HE4.out.2 hB5
      rw [← hFF]
      clear hFF hB5 HE4 HR4
      go_region_held3 (fun w' => w'.cell? ⟨F, 0, none⟩ = some (.int .i64 2) ∧ w'.cell? ⟨F, 1, none⟩ = some (.int .i64 m)) (exact hF) (first
        | (go_at_call 23; refine (rBytes_any (π := π) a0 m c0 (l0.take m) _ ?_ HRW.out.2.1 ?_ HRW.out.2.2).mono ?_; exact R5; omega; rintro e w5 ⟨rfl, b5⟩; have hF := And.intro (cell_later b5 hF.1) (cell_later b5 hF.2); have E5 := E5.below b5; have B5 := below_two B5 b5; clear b5)
        | (go_at_call 17; refine (failQ N m 2 m false _ ?_ rfl).mono ?_; exact E5.base; rintro e w6 ⟨rfl, b6⟩; have hF := And.intro (cell_later b6 hF.1) (cell_later b6 hF.2); have E5 := E5.below b6; have B5 := below_two B5 b6; clear b6)
        | (go_at_call 19; refine (at_any N 0 m 2 false _ ?_).mono ?_; exact E5.base; rintro e w7 ⟨rfl, rfl⟩)
        | (go_at_call 24; refine (kept_any N 3 v3 [] _ ?_).mono ?_; exact E5.row; rintro e w8 ⟨rfl, rfl⟩; rw [show ((([] : List Int).length : Nat) : Int) = 0 from rfl]))
      all_goals
        go_wp2
        go_ret
        exact ⟨by first | rfl | exact ret_bool (by simp), B5⟩
    · rw [if_neg hok] at HE3
      rw [if_neg hok]
      have hmm : m = n0 := by omega
      rw [decide_eq_true hmm] at HE3
      subst hmm
      clear hok
      go_wp2_with fail
      refine (failed_any 2 (-1) w3).mono ?_
      rintro e w4 ⟨rfl, b4⟩
      have HE4 : Hid (EncV π sg3 w4 N m 0 true [] v3 ∧ Below w.heap.size w w4) := ⟨HE3.out.below b4, below_two HB3.out b4⟩
      have HR4 : Hid (Row .u32 w4 a0 (l0.take m)) := HRW.out.1.mono b4
      clear b4 HE3 HB3
      go_upto_region 10 with fail
      have hB5 : Below w4.heap.size w4 (w4.alloc (.cells #[.int .i64 0, .int .i64 0] 35)).drew := ((Below.refl _ _).alloc (Nat.le_refl _) _).drew
      obtain ⟨F, hFF⟩ : ∃ F, F = w4.heap.size := ⟨_, rfl⟩
      have hF : (w4.alloc (.cells #[.int .i64 0, .int .i64 0] 35)).drew.cell? ⟨F, 0, none⟩ = some (.int .i64 0) ∧ (w4.alloc (.cells #[.int .i64 0, .int .i64 0] 35)).drew.cell? ⟨F, 1, none⟩ = some (.int .i64 0) := by
        subst hFF
        simp only [World.cell?_drew]
        exact ⟨by rw [World.cell?_alloc_new]; rfl, by rw [World.cell?_alloc_new]; rfl⟩
      have E5 := HE4.out.1.below hB5
      have R5 := HR4.out.mono hB5
      have B5 := below_two HE4.out.2 hB5
      rw [← hFF]
      clear hFF hB5 HE4 HR4
      go_region_held3 (fun w' => w'.cell? ⟨F, 0, none⟩ = some (.int .i64 0) ∧ w'.cell? ⟨F, 1, none⟩ = some (.int .i64 0)) (exact hF) (first
        | (go_at_call 23; refine (rBytes_any (π := π) a0 m c0 (l0.take m) _ ?_ HRW.out.2.1 ?_ HRW.out.2.2).mono ?_; exact R5; omega; rintro e w5 ⟨rfl, b5⟩; have hF := And.intro (cell_later b5 hF.1) (cell_later b5 hF.2); have E5 := E5.below b5; have B5 := below_two B5 b5; clear b5)
        | (go_at_call 17; refine (failQ N m 0 0 true _ ?_ rfl).mono ?_; exact E5.base; rintro e w6 ⟨rfl, b6⟩; have hF := And.intro (cell_later b6 hF.1) (cell_later b6 hF.2); have E5 := E5.below b6; have B5 := below_two B5 b6; clear b6)
        | (go_at_call 19; refine (at_any N 0 m 0 true _ ?_).mono ?_; exact E5.base; rintro e w7 ⟨rfl, rfl⟩)
        | (go_at_call 24; refine (kept_any N 3 v3 [] _ ?_).mono ?_; exact E5.row; rintro e w8 ⟨rfl, rfl⟩; rw [show ((([] : List Int).length : Nat) : Int) = 0 from rfl]))
      all_goals
        go_wp2
        go_ret
        exact ⟨by first | rfl | exact ret_bool (by simp), B5⟩
theorem reads (os : Os) {H : Type} (enc : TypeId × Value → H) : ∃ places, DataW.whole enc Tryd.prog ((({ World.holding Tryd.prog os ⟨#[], #[], []⟩ with heap := (((World.holding Tryd.prog os ⟨#[], #[], []⟩).heap.modify 0 Dif.lay0).modify 1 Dif.lay1) } : World)).forCall (fun _ _ => 0) ⟨#[], #[.slice none 0 0, .slice none 0 0, .slice none 0 0], []⟩).memory Tryd.f4.params.toList Rows.bocuWritesSpec.vars false #[.slice none 0 0, .slice none 0 0, .slice none 0 0].toList 8 = some ([.nil, .nil, .nil], [], places) :=
  ⟨[], by kernel_rfl⟩
set_option maxRecDepth 100000 in
theorem lifted (os : Os) (started : os.Started) (H : Type) (enc : TypeId × Value → H) (Fi : Stop.Interp) :
    ReturnsInHanded {} Tryd.checked os 4 .any ((OpenSpec.ofChange Rows.bocuWritesSpec).preRow enc Tryd.prog Tryd.f4 Rows.bocuWritesRow.domain false Rows.bocuWritesRow.laid) (((OpenSpec.ofChange Rows.bocuWritesSpec).at Fi).post enc Tryd.prog Tryd.f4 false true false false) := by
  obtain ⟨places, hx⟩ := reads os enc
  refine returnsInHanded_of_row (C := Tryd.checked) (s := OpenSpec.ofChange Rows.bocuWritesSpec) Bas.own started (by kernel_rfl) Tryd.func4
    (witness_row_at (enc := enc) (C := Tryd.checked) false (({ World.holding Tryd.prog os ⟨#[], #[], []⟩ with heap := (((World.holding Tryd.prog os ⟨#[], #[], []⟩).heap.modify 0 Dif.lay0).modify 1 Dif.lay1) } : World)) #[.slice none 0 0, .slice none 0 0, .slice none 0 0] rfl (by kernel_rfl) (by kernel_rfl) (by kernel_rfl)
      (OpenSpec.preRow_of_cond 8 hx (by kernel_rfl) (fun k hk => by cases hk) (by kernel_rfl) (Dif.laid_met os _))) ?_
  intro W base args ds gs before hval0 hW _ _ _ hL _ _
  have hval : ∀ (j : Nat) t v, Tryd.f4.params[j]? = some t → args[j]? = some v → Value.okWide Tryd.prog W .any base t v := hval0
  have hW' := hW
  obtain ⟨p, q, hA0, hV, rfl, hfz, hnd⟩ := hW
  have hA : DataW.TrodAll enc Tryd.prog W 0 (fun _ => true) true Tryd.f4.params.toList args.toList ds p := hA0
  rw [Tryd.params4] at hA hval
  obtain ⟨v0, vs0, d0, ds0, p0, q0, hargs, rfl, rfl, h0, r0⟩ := trodAll_cons hA
  obtain ⟨v1, vs1, d1, ds1, p1, q1, rfl, rfl, rfl, h1, r1⟩ := trodAll_cons r0
  obtain ⟨v2, vs2, d2, ds2, p2, q2, rfl, rfl, rfl, h2, r2⟩ := trodAll_cons r1
  obtain ⟨rfl, rfl, rfl⟩ := trodAll_nil r2
  obtain rfl : args = #[v0, v1, v2] := by cases args; simp_all
  obtain ⟨rfl, rfl⟩ := trodVars_none hV
  have k0 := h0
  have lt0 : ∀ x ∈ p0, x.block < W.heap.size := by obtain ⟨m, hm⟩ := k0; exact DataW.trod_lt m _ _ _ hm
  have k1 := h1
  have lt1 : ∀ x ∈ p1, x.block < W.heap.size := by obtain ⟨m, hm⟩ := k1; exact DataW.trod_lt m _ _ _ hm
  have k2 := h2
  have lt2 : ∀ x ∈ p2, x.block < W.heap.size := by obtain ⟨m, hm⟩ := k2; exact DataW.trod_lt m _ _ _ hm
  obtain ⟨a0, n0, c0, rfl⟩ := okWide_slice Tryd.underlying27 (hval 0 27 v0 rfl rfl)
  obtain ⟨l0, I0, J0⟩ : ∃ l : List Int, Bas.Ints .u32 W a0 n0 c0 l ∧ Cod.Cap a0 n0 c0 := by
    obtain ⟨fuel, hf⟩ := h0
    rcases open_ints Tryd.underlying27 Tryd.underlying43 (by kernel_rfl) hf with ⟨hcs, _⟩ | ⟨x, l, c, zs, hcs, _, hl, hm, hz, _, hcell, hwz⟩
    · simp [Value.cells] at hcs
      obtain ⟨rfl, rfl, rfl⟩ := hcs
      exact ⟨[], ⟨Bas.row_nil _ _ _, rfl, by unfold maxLen; omega, by simp, fun _ => rfl⟩, .inl ⟨rfl, rfl⟩⟩
    · simp [Value.cells] at hcs
      obtain ⟨rfl, rfl, rfl⟩ := hcs
      have hz' : zs.length = c0 := by simpa using hz
      exact ⟨zs.take n0, ⟨Bas.row_of _ _ _ _ _ (by omega) hcell, by simp; omega, by omega, fun n hn => hwz n (List.mem_of_mem_take hn), fun h => by cases h⟩, Cod.cap_of (by omega) (by omega) hz' hcell⟩
  obtain ⟨a1, n1, c1, rfl⟩ := okWide_slice Tryd.underlying22 (hval 1 22 v1 rfl rfl)
  obtain ⟨l1, I1⟩ : ∃ l : List Int, Bas.Ints .i64 W a1 n1 c1 l := by
    obtain ⟨fuel, hf⟩ := h1
    rcases open_ints Tryd.underlying22 Tryd.underlying3 (by kernel_rfl) hf with ⟨hcs, _⟩ | ⟨x, l, c, zs, hcs, _, hl, hm, hz, _, hcell, hwz⟩
    · simp [Value.cells] at hcs
      obtain ⟨rfl, rfl, rfl⟩ := hcs
      exact ⟨[], Bas.row_nil _ _ _, rfl, by unfold maxLen; omega, by simp, fun _ => rfl⟩
    · simp [Value.cells] at hcs
      obtain ⟨rfl, rfl, rfl⟩ := hcs
      have hz' : zs.length = c1 := by simpa using hz
      exact ⟨zs.take n1, Bas.row_of _ _ _ _ _ (by omega) hcell, by simp; omega, by omega, fun n hn => hwz n (List.mem_of_mem_take hn), fun h => by cases h⟩
  obtain ⟨a2, n2, c2, rfl⟩ := okWide_slice Tryd.underlying22 (hval 2 22 v2 rfl rfl)
  obtain ⟨l2, I2⟩ : ∃ l : List Int, Bas.Ints .i64 W a2 n2 c2 l := by
    obtain ⟨fuel, hf⟩ := h2
    rcases open_ints Tryd.underlying22 Tryd.underlying3 (by kernel_rfl) hf with ⟨hcs, _⟩ | ⟨x, l, c, zs, hcs, _, hl, hm, hz, _, hcell, hwz⟩
    · simp [Value.cells] at hcs
      obtain ⟨rfl, rfl, rfl⟩ := hcs
      exact ⟨[], Bas.row_nil _ _ _, rfl, by unfold maxLen; omega, by simp, fun _ => rfl⟩
    · simp [Value.cells] at hcs
      obtain ⟨rfl, rfl, rfl⟩ := hcs
      have hz' : zs.length = c2 := by simpa using hz
      exact ⟨zs.take n2, Bas.row_of _ _ _ _ _ (by omega) hcell, by simp; omega, by omega, fun n hn => hwz n (List.mem_of_mem_take hn), fun h => by cases h⟩
  refine (walk W (Dif.tabs_of hL) a0 n0 c0 l0 I0 J0 a1 n1 c1 l1 I1 a2 n2 c2 l2 I2).mono fun e W' ⟨he, bel⟩ => ?_
  subst he
  exact ⟨_, rfl, _, _, _, [], _, [], hW', trodAll_mk1 (shut_bool Tryd.underlying4 _), (trodAll_cons_mk (Below.trod Bas.laidOut (by kernel_rfl) (of_decide_eq_true (by kernel_rfl)) k0 bel lt0) (trodAll_cons_mk (Below.trod Bas.laidOut (by kernel_rfl) (of_decide_eq_true (by kernel_rfl)) k1 bel lt1) (trodAll_cons_mk (Below.trod Bas.laidOut (by kernel_rfl) (of_decide_eq_true (by kernel_rfl)) k2 bel lt2) trodAll_mk0))), rfl, bel.frame _, fun h => by cases h⟩


theorem over : Rows.bocuWritesRow.holds Tryd.pinned (OpenSpec.ofChange Rows.bocuWritesSpec) :=
  OpenClaim.holds_of_cond 4 Tryd.f4 rfl rfl rfl rfl rfl rfl rfl ⟨rfl, rfl, rfl, rfl, rfl⟩ rfl rfl rfl rfl rfl (by kernel_rfl) Tryd.func4 (by kernel_rfl)
    (of_decide_eq_true (by kernel_rfl)) (by unfold Func.isWrapper; first | (rw [if_pos (by decide +kernel)]; kernel_rfl) | (rw [if_neg (by decide +kernel)]; exact ⟨rfl, rfl⟩))
    (fun os started H enc _ Fi => by rw [OpenClaim.pre_eq_preRow]; exact lifted os started H enc Fi)
theorem plain (f : FuncId) (fn : Func) (hf : Tryd.pinned.checked.prog.funcNamed Rows.bocuWritesRow.func = some f) (hfn : Tryd.pinned.checked.prog.funcs[f]? = some fn) :
    false = Tryd.pinned.checked.prog.looks [] ∧ ∀ (j : Nat) t, fn.params[j]? = some t → Tryd.pinned.checked.prog.wantsStandIn t = false := by
  obtain rfl : f = 4 := Option.some.inj ((show Tryd.prog.funcNamed Rows.bocuWritesRow.func = some 4 by kernel_rfl).symm.trans hf) |>.symm
  obtain rfl : fn = Tryd.f4 := (Option.some.inj (Tryd.func4.symm.trans hfn)).symm
  refine ⟨by kernel_rfl, fun j t ht => ?_⟩
  rw [Tryd.params4] at ht
  have hm : t ∈ [27, 22, 22] := by simpa using Array.mem_of_getElem? ht
  have hall : ([27, 22, 22].all fun u => !Tryd.prog.wantsStandIn u) = true := by kernel_rfl
  exact (show Tryd.prog.wantsStandIn t = false by simpa using List.all_eq_true.1 hall t hm)
end Go.Proofs.YtlifobdooophbaaDoor.bocuWrites
namespace Go.Proofs.YtlifobdooophbaaDoor
/-- The statement: the tied card. -/
theorem bocuWrites_proved : Rows.BocuWritesCardSaid :=
  Claim7.holds_tied_plain_at .later [] _ _ _ _ bocuWrites.over (fun _ h => by cases h) (by kernel_rfl) (fun _ h => by cases h) bocuWrites_row_tie rfl ⟨rfl, rfl⟩ (by kernel_rfl) rfl bocuWrites.plain (by kernel_rfl)
end Go.Proofs.YtlifobdooophbaaDoor
