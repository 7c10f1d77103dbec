/-
  Proved: any numbers, in whatever parts they come, with whatever room, have in Punycode the text that the document says; or the place of the first that is no scalar is told, and no bytes. No condition.
-/
import Derived.Test.YtemgbmacdpnepaaPunRf5
import Derived.Deep.RegionHeld3
namespace Go.Proofs.Ytemgbmacdpnepaa
open Go.ChangeShapes Go.WideShapes Go.ChangeAt Go.RowKit
open Go.ChangeMaps (open_string shut_string)
namespace punyWrites
open Bas Sca Stp Scn Cod Pun
set_option linter.unusedVariables false

theorem failQ (N m : Nat) (q fa : Int) (en : Bool) (w : World) (h : BaseAt w N 0 m q en) (hf : failAt (m : Int) q = fa) :
    Calls Try.prog 16 #[.pointer (some ⟨N, 0, none⟩)] w fun e w' => e = .returned (.agg #[.int .i64 q, .int .i64 fa]) ∧ Below w.heap.size w w' := by
  subst hf
  exact fail_any N 0 m q en w h
/-- There is one text. -/
theorem one_text {L T U : List Int} (h : WrT L T) (h' : WrT L U) : T = U := by
  unfold WrT at h h'
  by_cases hl : okLen L < L.length
  · rw [if_pos hl] at h h'; rw [h, h']
  · rw [if_neg hl] at h h'; exact h.one h'

set_option maxHeartbeats 8000000 in
set_option maxRecDepth 100000 in
theorem walk (w : World) (a0 : Option Addr) (n0 c0 : Nat) (l0 : List Int) (I0 : Ints .u32 w a0 n0 c0 l0) (J0 : Cap a0 n0 c0) (a1 : Option Addr) (n1 c1 : Nat) (l1 : List Int) (I1 : Ints .i64 w a1 n1 c1 l1) (J1 : Cap a1 n1 c1) (a2 : Option Addr) (n2 c2 : Nat) (l2 : List Int) (I2 : Ints .i64 w a2 n2 c2 l2) (J2 : Cap a2 n2 c2) :
    Calls Try.prog 4 #[.slice a0 n0 c0, .slice a1 n1 c1, .slice a2 n2 c2] w fun e w' => e = .returned (.bool true) ∧ Below w.heap.size w w' := by
  have HI : Hid (Ints .u32 w a0 n0 c0 l0 ∧ Cap a0 n0 c0 ∧ Ints .i64 w a1 n1 c1 l1 ∧ Ints .i64 w a2 n2 c2 l2) := ⟨I0, J0, I1, I2⟩
  have hn0 := I0.max
  have hcap := J0.le
  clear I0 J0 I1 I2 J1 J2
  go_enter Try.func4, Try.ntmps4
  go_wp2_with fail
  refine (awake_any _).mono ?_
  rintro e w1 ⟨rfl, b1⟩
  have HB1 : Hid (Below w.heap.size w w1) := b1
  clear b1
  go_wp2_with fail
  refine (great_any _ a1 a2 n1 c1 n2 c2 w1).mono ?_
  rintro e w1' ⟨rfl, rfl⟩
  obtain ⟨g, hg⟩ : ∃ g, (decide ((n0 : Int) > 120) || (decide (n1 > 200) || decide (n2 > 200))) = g := ⟨_, rfl⟩
  rw [hg]
  cases g with
  | true =>
    clear hg
    go_wp2_with fail
    refine (awake_any _).mono ?_
    rintro e w2 ⟨rfl, b2⟩
    go_wp2
    go_ret
    exact ⟨rfl, below_two HB1.out b2⟩
  | false =>
    obtain ⟨h400, h1, h2⟩ := great_no' hg
    clear hg
    go_wp2_with fail
    refine (newEn_any _ rfl).mono ?_
    rintro e w2 ⟨rfl, E2, z2, B2⟩
    obtain ⟨N, hN⟩ : ∃ N, N = w1'.heap.size := ⟨_, rfl⟩
    have HN : Hid (w.heap.size ≤ N) := by show w.heap.size ≤ N; rw [hN]; exact HB1.out.size
    rw [← hN] at E2 z2 B2 ⊢
    have HB2 : Hid (Below w.heap.size w w2) := HB1.out.trans (B2.mono HN.out)
    clear hN
    go_wp2_with fail
    refine (write_any N _ _ a0 n0 c0 l0 a1 a2 n1 c1 n2 c2 l1 l2 w2 E2 (came_of HI.out.2.1 HI.out.1.row HI.out.1.len HB2.out (fun k hk hf => by have := footE_nil hf; have := HN.out; omega)) (fun c hc => fits_u32' (HI.out.1.fits c hc)) (HI.out.2.2.1.mono HB2.out) (HI.out.2.2.2.mono HB2.out) (fun b' o' h0 e h => by have := row_lt (HI.out.2.2.1.row) (by rw [HI.out.2.2.1.len]; exact h0) e; have := footE_nil h; have := HN.out; omega) (fun b' o' h0 e h => by have := row_lt (HI.out.2.2.2.row) (by rw [HI.out.2.2.2.len]; exact h0) e; have := footE_nil h; have := HN.out; omega) (by omega) (by omega) (by have := HI.out.1.len; omega)).mono ?_
    rintro e w3 ⟨T, hT, rfl, v3, u3, E3, C3⟩
    have HB3 : Hid (Below w.heap.size w w3) := HB2.out.trans (C3.below HB2.out.size (fun k j hk h => by have := footE_nil h; have := HN.out; omega))
    have HE3 : Hid (EncV w3 N (okLen l0) (if okLen l0 < l0.length then 2 else 0) (decide (okLen l0 = l0.length)) [] [] v3 u3) := E3
    obtain ⟨s, hs⟩ : ∃ s, Stp.strOf T = s := ⟨_, rfl⟩
    rw [hs]
    have HBY : Hid (∀ w', Row .u32 w' a0 l0 → Calls Try.prog 22 #[.slice a0 n0 c0] w' fun e w'' => e = .returned (.string s) ∧ Below w'.heap.size w' w'') := fun w' hr => by
      refine (rBytes_any a0 n0 c0 l0 w' hr HI.out.1.len HI.out.1.fits (by omega)).mono ?_
      rintro e w'' ⟨U, hU, rfl, b⟩
      exact ⟨by rw [one_text hU hT, hs], b⟩
    clear E2 z2 B2 E3 C3 HB2 hs hT
    go_wp2_with fail
    refine (rFirst_any a0 n0 c0 l0 w3 (HI.out.1.row.mono HB3.out) HI.out.1.len HI.out.1.max).mono ?_
    rintro e w3 ⟨rfl, rfl⟩
    rw [firstL_ok]
    have hle := okLen_le l0
    have hl := HI.out.1.len
    have HRW : Hid (Row .u32 w3 a0 l0) := HI.out.1.row.mono HB3.out
    obtain ⟨m, hm⟩ : ∃ m, okLen l0 = m := ⟨_, rfl⟩
    rw [hm] at hle HE3 ⊢
    rw [hl] at hle HE3 ⊢
    clear hl hm
    by_cases hok : m < n0
    · rw [if_pos hok] at HE3
      rw [if_pos hok]
      have hlt : ¬ (m : Int) < 0 := by omega
      rw [decide_eq_false (show ¬ m = n0 by omega)] at HE3
      clear hok
      go_wp2_with fail
      refine (failed_any 2 m w3).mono ?_
      rintro e w4 ⟨rfl, b4⟩
      have HE4 : Hid (EncV w4 N m 2 false [] [] v3 u3 ∧ Below w.heap.size w w4) := ⟨HE3.out.below b4, below_two HB3.out b4⟩
      have HR4 : Hid (Row .u32 w4 a0 l0) := HRW.out.mono b4
      rw [show (if (2 : Int) = 0 then (0 : Int) else (m : Int)) = m from rfl]
      clear b4 HE3 HB3 HRW
      go_wp2
      have hB5 : Below w4.heap.size w4 (w4.alloc (.cells #[.int .i64 2, .int .i64 m] 35)).drew := ((Below.refl _ _).alloc (Nat.le_refl _) _).drew
      obtain ⟨F, hFF⟩ : ∃ F, F = w4.heap.size := ⟨_, rfl⟩
      have hF : (w4.alloc (.cells #[.int .i64 2, .int .i64 m] 35)).drew.cell? ⟨F, 0, none⟩ = some (.int .i64 2) ∧ (w4.alloc (.cells #[.int .i64 2, .int .i64 m] 35)).drew.cell? ⟨F, 1, none⟩ = some (.int .i64 m) := by
        subst hFF
        simp only [World.cell?_drew]
        exact ⟨by rw [World.cell?_alloc_new]; rfl, by rw [World.cell?_alloc_new]; rfl⟩
      have E5 := HE4.out.1.below hB5
      have R5 := HR4.out.mono hB5
      have B5 := below_two HE4.out.2 hB5
      rw [← hFF]
      clear hFF hB5 HE4 HR4
      go_region_held3 (fun w' => w'.cell? ⟨F, 0, none⟩ = some (.int .i64 2) ∧ w'.cell? ⟨F, 1, none⟩ = some (.int .i64 m)) (exact hF) (first
        | (go_at_call 22; refine (HBY.out _ ?_).mono ?_; exact R5; rintro e w5 ⟨rfl, b5⟩; have hF := And.intro (cell_later b5 hF.1) (cell_later b5 hF.2); have E5 := E5.below b5; have R5 := R5.mono b5; have B5 := below_two B5 b5; clear b5)
        | (go_at_call 16; refine (failQ N m 2 m false _ ?_ rfl).mono ?_; exact E5.base; rintro e w6 ⟨rfl, b6⟩; have hF := And.intro (cell_later b6 hF.1) (cell_later b6 hF.2); have E5 := E5.below b6; have R5 := R5.mono b6; have B5 := below_two B5 b6; clear b6)
        | (go_at_call 18; refine (at_any N 0 m 2 false _ ?_).mono ?_; exact E5.base; rintro e w7 ⟨rfl, rfl⟩)
        | (go_at_call 23; refine (kept_any N 3 v3 [] _ ?_).mono ?_; exact E5.row; rintro e w8 ⟨rfl, rfl⟩; rw [show ((([] : List Int).length : Nat) : Int) = 0 from rfl]))
      all_goals
        go_wp2
        go_ret
        exact ⟨by first | rfl | exact ret_bool (by simp), B5⟩
    · rw [if_neg hok] at HE3
      rw [if_neg hok]
      have hmm : m = n0 := by omega
      rw [decide_eq_true hmm] at HE3
      subst hmm
      clear hok
      go_wp2_with fail
      refine (failed_any 2 (-1) w3).mono ?_
      rintro e w4 ⟨rfl, b4⟩
      have HE4 : Hid (EncV w4 N m 0 true [] [] v3 u3 ∧ Below w.heap.size w w4) := ⟨HE3.out.below b4, below_two HB3.out b4⟩
      have HR4 : Hid (Row .u32 w4 a0 l0) := HRW.out.mono b4
      clear b4 HE3 HB3 HRW
      go_wp2
      have hB5 : Below w4.heap.size w4 (w4.alloc (.cells #[.int .i64 0, .int .i64 0] 35)).drew := ((Below.refl _ _).alloc (Nat.le_refl _) _).drew
      obtain ⟨F, hFF⟩ : ∃ F, F = w4.heap.size := ⟨_, rfl⟩
      have hF : (w4.alloc (.cells #[.int .i64 0, .int .i64 0] 35)).drew.cell? ⟨F, 0, none⟩ = some (.int .i64 0) ∧ (w4.alloc (.cells #[.int .i64 0, .int .i64 0] 35)).drew.cell? ⟨F, 1, none⟩ = some (.int .i64 0) := by
        subst hFF
        simp only [World.cell?_drew]
        exact ⟨by rw [World.cell?_alloc_new]; rfl, by rw [World.cell?_alloc_new]; rfl⟩
      have E5 := HE4.out.1.below hB5
      have R5 := HR4.out.mono hB5
      have B5 := below_two HE4.out.2 hB5
      rw [← hFF]
      clear hFF hB5 HE4 HR4
      go_region_held3 (fun w' => w'.cell? ⟨F, 0, none⟩ = some (.int .i64 0) ∧ w'.cell? ⟨F, 1, none⟩ = some (.int .i64 0)) (exact hF) (first
        | (go_at_call 22; refine (HBY.out _ ?_).mono ?_; exact R5; rintro e w5 ⟨rfl, b5⟩; have hF := And.intro (cell_later b5 hF.1) (cell_later b5 hF.2); have E5 := E5.below b5; have R5 := R5.mono b5; have B5 := below_two B5 b5; clear b5)
        | (go_at_call 16; refine (failQ N m 0 0 true _ ?_ rfl).mono ?_; exact E5.base; rintro e w6 ⟨rfl, b6⟩; have hF := And.intro (cell_later b6 hF.1) (cell_later b6 hF.2); have E5 := E5.below b6; have R5 := R5.mono b6; have B5 := below_two B5 b6; clear b6)
        | (go_at_call 18; refine (at_any N 0 m 0 true _ ?_).mono ?_; exact E5.base; rintro e w7 ⟨rfl, rfl⟩)
        | (go_at_call 23; refine (kept_any N 3 v3 [] _ ?_).mono ?_; exact E5.row; rintro e w8 ⟨rfl, rfl⟩; rw [show ((([] : List Int).length : Nat) : Int) = 0 from rfl]))
      all_goals
        go_wp2
        go_ret
        exact ⟨by first | rfl | exact ret_bool (by simp), B5⟩
set_option maxRecDepth 100000 in
theorem lifted (os : Os) (started : os.Started) (H : Type) (enc : TypeId × Value → H) :
    ReturnsInHanded {} Try.checked os 4 .any (Rows.punyWritesSpec.pre6 enc Try.prog Try.f4 Rows.punyWritesRow.domain false) (Rows.punyWritesSpec.post enc Try.prog Try.f4 false true false false) := by
  refine returnsInHanded_of_change (C := Try.checked) Bas.own started (by kernel_rfl) Try.func4
    (ChangeSpec.witness6 (enc := enc) (C := Try.checked) false ⟨#[], #[.slice none 0 0, .slice none 0 0, .slice none 0 0], []⟩ 8 (by kernel_rfl) (by kernel_rfl) (by kernel_rfl) (by kernel_rfl)) ?_
  intro W base args ds gs before hval0 hW hcnd _
  have hval : ∀ (j : Nat) t v, Try.f4.params[j]? = some t → args[j]? = some v → Value.okWide Try.prog W .any base t v := hval0
  have hW' := hW
  obtain ⟨p, q, hA0, hV, rfl, hfz, hnd⟩ := hW
  have hA : DataW.TrodAll enc Try.prog W 0 (fun _ => true) true Try.f4.params.toList args.toList ds p := hA0
  rw [Try.params4] at hA hval
  obtain ⟨v0, vs0, d0, ds0, p0, q0, hargs, rfl, rfl, h0, r0⟩ := trodAll_cons hA
  obtain ⟨v1, vs1, d1, ds1, p1, q1, rfl, rfl, rfl, h1, r1⟩ := trodAll_cons r0
  obtain ⟨v2, vs2, d2, ds2, p2, q2, rfl, rfl, rfl, h2, r2⟩ := trodAll_cons r1
  obtain ⟨rfl, rfl, rfl⟩ := trodAll_nil r2
  obtain rfl : args = #[v0, v1, v2] := by cases args; simp_all
  obtain ⟨rfl, rfl⟩ := trodVars_none hV
  have k0 := h0
  have lt0 : ∀ x ∈ p0, x.block < W.heap.size := by obtain ⟨m, hm⟩ := k0; exact DataW.trod_lt m _ _ _ hm
  have k1 := h1
  have lt1 : ∀ x ∈ p1, x.block < W.heap.size := by obtain ⟨m, hm⟩ := k1; exact DataW.trod_lt m _ _ _ hm
  have k2 := h2
  have lt2 : ∀ x ∈ p2, x.block < W.heap.size := by obtain ⟨m, hm⟩ := k2; exact DataW.trod_lt m _ _ _ hm
  obtain ⟨a0, n0, c0, l0, rfl, I0, J0⟩ : ∃ a n c l, v0 = .slice a n c ∧ Bas.Ints .u32 W a n c l ∧ Cod.Cap a n c := by
    obtain ⟨a, n, c, rfl⟩ := okWide_slice Try.underlying27 (hval 0 27 v0 rfl rfl)
    obtain ⟨fuel, hf⟩ := h0
    obtain ⟨a', n', c', l, hv, I, J⟩ := Cod.ints_of Try.underlying27 Try.underlying64 (by kernel_rfl) (fun _ => rfl) (by simpa [Value.cells] using hf)
    exact ⟨a', n', c', l, hv, I, J⟩
  obtain ⟨a1, n1, c1, l1, rfl, I1, J1⟩ : ∃ a n c l, v1 = .slice a n c ∧ Bas.Ints .i64 W a n c l ∧ Cod.Cap a n c := by
    obtain ⟨a, n, c, rfl⟩ := okWide_slice Try.underlying22 (hval 1 22 v1 rfl rfl)
    obtain ⟨fuel, hf⟩ := h1
    obtain ⟨a', n', c', l, hv, I, J⟩ := Cod.ints_of Try.underlying22 Try.underlying3 (by kernel_rfl) (fun _ => rfl) (by simpa [Value.cells] using hf)
    exact ⟨a', n', c', l, hv, I, J⟩
  obtain ⟨a2, n2, c2, l2, rfl, I2, J2⟩ : ∃ a n c l, v2 = .slice a n c ∧ Bas.Ints .i64 W a n c l ∧ Cod.Cap a n c := by
    obtain ⟨a, n, c, rfl⟩ := okWide_slice Try.underlying22 (hval 2 22 v2 rfl rfl)
    obtain ⟨fuel, hf⟩ := h2
    obtain ⟨a', n', c', l, hv, I, J⟩ := Cod.ints_of Try.underlying22 Try.underlying3 (by kernel_rfl) (fun _ => rfl) (by simpa [Value.cells] using hf)
    exact ⟨a', n', c', l, hv, I, J⟩
  refine (walk W a0 n0 c0 l0 I0 J0 a1 n1 c1 l1 I1 J1 a2 n2 c2 l2 I2 J2).mono fun e W' ⟨he, bel⟩ => ?_
  subst he
  exact ⟨_, rfl, _, _, _, [], _, [], hW', trodAll_mk1 (shut_bool Try.underlying4 _), (trodAll_cons_mk (Below.trod Bas.laidOut (by kernel_rfl) (of_decide_eq_true (by kernel_rfl)) k0 bel lt0) (trodAll_cons_mk (Below.trod Bas.laidOut (by kernel_rfl) (of_decide_eq_true (by kernel_rfl)) k1 bel lt1) (trodAll_cons_mk (Below.trod Bas.laidOut (by kernel_rfl) (of_decide_eq_true (by kernel_rfl)) k2 bel lt2) trodAll_mk0))), rfl, bel.frame _, fun h => by cases h⟩

theorem over : Rows.punyWritesRow.holds Try.pinned (OpenSpec.ofChange Rows.punyWritesSpec) :=
  OpenClaim.holds_of_wide 4 Try.f4 rfl rfl rfl rfl rfl rfl rfl ⟨rfl, rfl, rfl, rfl, rfl⟩ rfl rfl rfl rfl rfl (by kernel_rfl) Try.func4 (by kernel_rfl)
    (of_decide_eq_true (by kernel_rfl)) (by unfold Func.isWrapper; first | (rw [if_pos (by decide +kernel)]; kernel_rfl) | (rw [if_neg (by decide +kernel)]; exact ⟨rfl, rfl⟩))
    (fun os started H enc _ => lifted os started H enc)
end Go.Proofs.Ytemgbmacdpnepaa.punyWrites
namespace Go.Proofs.Ytemgbmacdpnepaa
/-- The statement. -/
theorem punyWrites_proved : Rows.PunyWritesSaid := punyWrites.over
end Go.Proofs.Ytemgbmacdpnepaa
