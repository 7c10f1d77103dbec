/-
  Proved: behind FEFF, the first scalar, the text is what it is without it, unless FEFF comes again. No condition.
-/
import Derived.Test.YtpglmfhlgaliaaaDoorCPLaw
namespace Go.Proofs.YtpglmfhlgaliaaaDoor
open Go.ChangeShapes Go.WideShapes Go.ChangeAt Go.RowKit
open Go.ChangeMaps (open_string shut_string)
namespace compressMark
open Bas Sca Stp Scn Cod Cmp Cps CP
set_option linter.unusedVariables false

theorem seg_lit (w : World) (x : Int) : Seg .u32 (w.alloc (.cells #[.int .u32 x] 35)) (.slice (some ⟨w.heap.size, 0, none⟩) 1 1) [x] := by
  refine .inr ⟨w.heap.size, 0, 1, rfl, by simp, by simp, by unfold maxLen; omega, fun i hi => ?_, fun i hi => ?_, fun o => by simp⟩
  · obtain rfl : i = 0 := by simpa using hi
    rw [World.cell?_alloc_new]; rfl
  · obtain rfl : i = 0 := by omega
    rw [World.cell?_alloc_new]; rfl
theorem cap_nil {a : Option Addr} {n c : Nat} (h : Cap a n c) : a = none → c = 0 := by
  intro e
  rcases h with ⟨h1, h2⟩ | ⟨bl, ol, h1, h2, h3⟩
  · first | exact h2 | omega
  · rw [e] at h1; cases h1
set_option maxHeartbeats 8000000 in
set_option maxRecDepth 100000 in
theorem walk (w : World) (hT : CP.Tabs w) (π : Bool) (a0 : Option Addr) (n0 c0 : Nat) (l0 : List Int) (I0 : Ints .u32 w a0 n0 c0 l0) (J0 : Cap a0 n0 c0) :
    Calls Tryd.prog 6 #[.bool π, .slice a0 n0 c0] w fun e w' => e = .returned (.bool true) ∧ Below w.heap.size w w' := by
  have HT : Hid (CP.Tabs w) := hT
  have HI : Hid (Ints .u32 w a0 n0 c0 l0 ∧ Cap a0 n0 c0) := ⟨I0, J0⟩
  have hn0 := I0.max
  clear I0 J0 hT
  go_enter Tryd.func6, Tryd.ntmps6
  go_wp2_with fail
  refine (awake_any w HT.out).mono ?_
  rintro e w1 ⟨rfl, b1⟩
  have HB1 : Hid (Below w.heap.size w w1) := b1
  clear b1
  go_wp2_with fail
  refine (great_any _ none none 0 0 0 0 w1).mono ?_
  rintro e w1 ⟨rfl, rfl⟩
  obtain ⟨g, hg⟩ : ∃ g, (decide ((n0 : Int) > 400) || (decide (0 > 200) || decide (0 > 200))) = g := ⟨_, rfl⟩
  rw [hg]
  cases g with
  | true =>
    clear hg
    go_wp2_with fail
    refine (awake_any _ (HT.out.below HB1.out)).mono ?_
    rintro e w2 ⟨rfl, b2⟩
    go_wp2
    go_ret
    exact ⟨rfl, below_two HB1.out b2⟩
  | false =>
    obtain ⟨h400, -, -⟩ := great_no hg
    clear hg
    go_wp2_with fail
    refine (rFirst_any a0 n0 c0 l0 w1 (HI.out.1.row.mono HB1.out) HI.out.1.len HI.out.1.max).mono ?_
    rintro e w1 ⟨rfl, rfl⟩
    by_cases hok : okLen l0 < l0.length
    · rw [firstL_ok, if_pos hok]
      have hge : (okLen l0 : Int) ≥ 0 := by omega
      clear hok
      go_wp2_with fail
      refine (awake_any _ (HT.out.below HB1.out)).mono ?_
      rintro e w2 ⟨rfl, b2⟩
      go_wp2
      go_ret
      exact ⟨rfl, below_two HB1.out b2⟩
    · have HSC : Hid (∀ c ∈ l0, isB c = true ∧ 0 ≤ c) := scalars_of hok HI.out.1.fits
      rw [firstL_ok, if_neg hok]
      clear hok
      by_cases hz : n0 = 0
      · have hz0 : (n0 : Int) = 0 := by omega
        have HHD : Hid (l0.head? ≠ some 65279) := by
          show l0.head? ≠ some 65279
          have : l0 = [] := List.length_eq_zero_iff.1 (by rw [HI.out.1.len]; exact hz)
          rw [this]; simp
        clear hz
        go_wp2_with fail
        refine (newW_any π _ rfl (HT.out.below HB1.out)).mono ?_
        rintro e w2 ⟨rfl, E2, z2, B2⟩
        obtain ⟨N, hN⟩ : ∃ N, N = w1.heap.size := ⟨_, rfl⟩
        have HN : Hid (w.heap.size ≤ N) := by show w.heap.size ≤ N; rw [hN]; exact HB1.out.size
        rw [← hN] at E2 z2 B2 ⊢
        have HB2 : Hid (Below w.heap.size w w2) := HB1.out.trans (B2.mono HN.out)
        clear hN
        go_wp2_with fail
        refine (write_any N _ _ n0 c0 l0 w2 E2 (came_of HI.out.2 HI.out.1.row HI.out.1.len HB2.out (fun k hk hf => by have := footE_nil hf; have := HN.out; omega)) (fun c hc => fits_u32' (HI.out.1.fits c hc)) (fun c hc => (HSC.out c hc).1) (by have := HI.out.1.len; omega)).mono ?_
        rintro e w3 ⟨rfl, C3⟩
        have HB3 : Hid (Below w.heap.size w w3) := HB2.out.trans (C3.below HB2.out.size (fun k j hk h => by have := footE_nil h; have := HN.out; omega))
        clear E2 z2 B2 C3 HB2 HN HB1
        go_wp2_with fail
        refine (newW_any π w3 rfl (HT.out.below HB3.out)).mono ?_
        rintro e w4 ⟨rfl, E4, z4, B4⟩
        obtain ⟨M, hM⟩ : ∃ M, M = w3.heap.size := ⟨_, rfl⟩
        have HM : Hid (w.heap.size ≤ M) := by show w.heap.size ≤ M; rw [hM]; exact HB3.out.size
        rw [← hM] at E4 z4 B4 ⊢
        have HE4 : Hid (EncV π cs0 w4 M 0 0 false [] (.slice none 0 0) ∧ w4.heap.size = M + 2 ∧ Below w.heap.size w w4) := ⟨E4, z4, HB3.out.trans (B4.mono HM.out)⟩
        clear hM E4 z4 B4 HB3
        have HSG : Hid (Seg .u32 (w4.alloc (.cells #[.int .u32 65279] 35)) (.slice (some ⟨w4.heap.size, 0, none⟩) 1 1) [65279]) := seg_lit w4 65279
        have HRW : Hid (∀ o, Row .u32 (w4.alloc o) a0 l0) := fun o => (HI.out.1.row.mono HE4.out.2.2).mono ((Below.refl _ _).alloc (Nat.le_refl _) _)
        have HCN : Hid (a0 = none → c0 = 0) := cap_nil HI.out.2
        go_wp2_with (at_builtin; go_must (refine wpList_append_seg rfl _ _ 22 22 rfl .u32 35 4 Tryd.underlying22 Stp.info_u32 (.slice (some ⟨w4.heap.size, 0, none⟩) 1 1) [65279] l0 rfl HSG.out _ rfl (src_row Tryd.underlying22 (HRW.out _) HI.out.1.len HCN.out) (by have := HI.out.1.len; unfold maxLen; simp; omega) (by have := HI.out.1.len; simp; omega) ?_; intro vo w5 hs5 hc5 hm5; obtain ⟨av, cv, hv1, -⟩ := hs5.form; obtain ⟨ln, hln⟩ : ∃ ln, ([65279] ++ l0).length = ln := ⟨_, rfl⟩; rw [hln] at hv1; subst hv1))
        have hW : Below w4.heap.size w4 w5 := ((Below.refl _ _).alloc (Nat.le_refl _) _).trans (hc5.below (by simp) (fun k j hk hh => by simp [Value.ownBlock] at hh; omega))
        have hvb : ∀ g, (Value.slice av ln cv).ownBlock = some g → w4.heap.size ≤ g := fun g hg => by
          rcases hm5 g hg with e | e
          · simp [Value.ownBlock] at e; omega
          · simp at e; omega
        have hsc : ∀ c ∈ [65279] ++ l0, isB c = true ∧ 0 ≤ c := fun c hc => by
          rcases List.mem_append.1 hc with hc | hc
          · simp only [List.mem_cons, List.not_mem_nil, or_false] at hc; subst hc; exact ⟨by decide, by decide⟩
          · exact HSC.out c hc
        have hft : ∀ c ∈ [65279] ++ l0, 0 ≤ c ∧ c < 4294967296 := fun c hc => by
          have h1 := hsc c hc
          have := isB_iff.1 h1.1
          omega
        have hW5 := write_any M _ av ln cv ([65279] ++ l0) w5 (HE4.out.1.below hW) (came_seg hs5 (fun g hg hf => by have := hvb g hg; have := HE4.out.1.lt hf; omega)) hft (fun c hc => (hsc c hc).1) (by have := HI.out.1.len; simp; omega)
        rw [show textC π ([65279] ++ l0) = [14, 254, 255] ++ textC π l0 from text_mark l0 HHD.out, strOf_append] at hW5
        have hB5 : Below w.heap.size w w5 := below_two HE4.out.2.2 hW
        have hS0 : (Stp.strOf (textC π l0)).size ≤ 2005 := by rw [strOf_size]; have := text_max (plain := π) l0 (fun c hc => (HSC.out c hc).1); have := HI.out.1.len; omega
        obtain ⟨S, hS⟩ : ∃ S, Stp.strOf (textC π l0) = S := ⟨_, rfl⟩
        rw [hS] at hW5 hS0 ⊢
        have hlt5 : w.heap.size ≤ w5.heap.size := hB5.size
        have HB5 : Hid (Below w.heap.size w w5 ∧ ∀ w6, Chg (fun k _ => footE M (.slice none 0 0) k) w5 w6 → Below w.heap.size w w6) := ⟨hB5, fun w6 hC => hB5.trans (hC.below hlt5 (fun k j hk h => by have := footE_nil h; have := HM.out; omega))⟩
        have HW5 : Hid (Calls Tryd.prog 11 #[.pointer (some ⟨M + 1, 0, none⟩), .slice av ln cv, .slice none 0 0, .slice none 0 0] w5 fun e w' => e = .returned (.tuple #[.string (Stp.strOf [14, 254, 255] ++ S), .bool true]) ∧ Chg (fun k _ => footE M (.slice none 0 0) k) w5 w') := hW5
        clear hW hvb hsc hft hW5 hB5 hS hlt5 hs5 hc5 hm5 hln HE4 HSG HRW HCN
        refine HW5.out.mono ?_
        rintro e w6 ⟨rfl, C6⟩
        have HB6 : Hid (Below w.heap.size w w6) := HB5.out.2 w6 C6
        clear C6 HW5 HB5
        obtain ⟨P3, hP3⟩ : ∃ P3 : ByteArray, Stp.strOf [14, 254, 255] = P3 := ⟨_, rfl⟩
        have HP3 : Hid ((⟨#[14, 254, 255]⟩ : ByteArray) = P3 ∧ P3.size = 3) := ⟨by rw [← hP3]; rfl, by rw [← hP3]; rfl⟩
        rw [hP3]
        have g1 : ¬ 9223372036854775807 < (⟨#[14, 254, 255]⟩ : ByteArray).size + S.size := by rw [HP3.out.1, HP3.out.2]; omega
        clear hP3
        go_wp2
        go_ret
        exact ⟨ret_bool (by rw [HP3.out.1]; simp), HB6.out⟩
      · have hz0 : 0 < (n0 : Int) := by omega
        obtain ⟨bl, ol, hal, hcl⟩ := HI.out.1.row
        have hlen := HI.out.1.len
        have hne : l0 ≠ [] := by intro e; rw [e] at hlen; simp at hlen; omega
        obtain rfl := hal hne
        have hcell : w1.cell? ⟨bl, ol, none⟩ = some (.int .u32 (nth l0 0)) := cell_later HB1.out (by have := hcl 0 (List.length_pos_iff.2 hne); simpa using this)
        obtain ⟨x, hx⟩ : ∃ x, nth l0 0 = x := ⟨_, rfl⟩
        have hhd : l0.head? = some x := by
          cases l0 with
          | nil => exact absurd rfl hne
          | cons c r => rw [← hx]; rfl
        rw [hx] at hcell
        clear hal hcl hlen hne hx hz
        by_cases hxm : x = 65279
        · subst hxm
          clear hhd
          go_wp2_with fail
          refine (awake_any _ (HT.out.below HB1.out)).mono ?_
          rintro e w2 ⟨rfl, b2⟩
          go_wp2
          go_ret
          exact ⟨rfl, below_two HB1.out b2⟩
        · have HHD : Hid (l0.head? ≠ some 65279) := by rw [hhd]; intro e; exact hxm (Option.some.inj e)
          have hxb : (x == 65279) = false := by rw [beq_eq_false_iff_ne]; exact hxm
          clear hhd hxm
          go_wp2_with fail
          refine (newW_any π _ rfl (HT.out.below HB1.out)).mono ?_
          rintro e w2 ⟨rfl, E2, z2, B2⟩
          obtain ⟨N, hN⟩ : ∃ N, N = w1.heap.size := ⟨_, rfl⟩
          have HN : Hid (w.heap.size ≤ N) := by show w.heap.size ≤ N; rw [hN]; exact HB1.out.size
          rw [← hN] at E2 z2 B2 ⊢
          have HB2 : Hid (Below w.heap.size w w2) := HB1.out.trans (B2.mono HN.out)
          clear hN
          go_wp2_with fail
          refine (write_any N _ _ n0 c0 l0 w2 E2 (came_of HI.out.2 HI.out.1.row HI.out.1.len HB2.out (fun k hk hf => by have := footE_nil hf; have := HN.out; omega)) (fun c hc => fits_u32' (HI.out.1.fits c hc)) (fun c hc => (HSC.out c hc).1) (by have := HI.out.1.len; omega)).mono ?_
          rintro e w3 ⟨rfl, C3⟩
          have HB3 : Hid (Below w.heap.size w w3) := HB2.out.trans (C3.below HB2.out.size (fun k j hk h => by have := footE_nil h; have := HN.out; omega))
          clear E2 z2 B2 C3 HB2 HN HB1
          go_wp2_with fail
          refine (newW_any π w3 rfl (HT.out.below HB3.out)).mono ?_
          rintro e w4 ⟨rfl, E4, z4, B4⟩
          obtain ⟨M, hM⟩ : ∃ M, M = w3.heap.size := ⟨_, rfl⟩
          have HM : Hid (w.heap.size ≤ M) := by show w.heap.size ≤ M; rw [hM]; exact HB3.out.size
          rw [← hM] at E4 z4 B4 ⊢
          have HE4 : Hid (EncV π cs0 w4 M 0 0 false [] (.slice none 0 0) ∧ w4.heap.size = M + 2 ∧ Below w.heap.size w w4) := ⟨E4, z4, HB3.out.trans (B4.mono HM.out)⟩
          clear hM E4 z4 B4 HB3
          have HSG : Hid (Seg .u32 (w4.alloc (.cells #[.int .u32 65279] 35)) (.slice (some ⟨w4.heap.size, 0, none⟩) 1 1) [65279]) := seg_lit w4 65279
          have HRW : Hid (∀ o, Row .u32 (w4.alloc o) (some ⟨bl, ol, none⟩) l0) := fun o => (HI.out.1.row.mono HE4.out.2.2).mono ((Below.refl _ _).alloc (Nat.le_refl _) _)
          have HCN : Hid ((some ⟨bl, ol, none⟩ : Option Addr) = none → c0 = 0) := cap_nil HI.out.2
          go_wp2_with (at_builtin; go_must (refine wpList_append_seg rfl _ _ 22 22 rfl .u32 35 4 Tryd.underlying22 Stp.info_u32 (.slice (some ⟨w4.heap.size, 0, none⟩) 1 1) [65279] l0 rfl HSG.out _ rfl (src_row Tryd.underlying22 (HRW.out _) HI.out.1.len HCN.out) (by have := HI.out.1.len; unfold maxLen; simp; omega) (by have := HI.out.1.len; simp; omega) ?_; intro vo w5 hs5 hc5 hm5; obtain ⟨av, cv, hv1, -⟩ := hs5.form; obtain ⟨ln, hln⟩ : ∃ ln, ([65279] ++ l0).length = ln := ⟨_, rfl⟩; rw [hln] at hv1; subst hv1))
          have hW : Below w4.heap.size w4 w5 := ((Below.refl _ _).alloc (Nat.le_refl _) _).trans (hc5.below (by simp) (fun k j hk hh => by simp [Value.ownBlock] at hh; omega))
          have hvb : ∀ g, (Value.slice av ln cv).ownBlock = some g → w4.heap.size ≤ g := fun g hg => by
            rcases hm5 g hg with e | e
            · simp [Value.ownBlock] at e; omega
            · simp at e; omega
          have hsc : ∀ c ∈ [65279] ++ l0, isB c = true ∧ 0 ≤ c := fun c hc => by
            rcases List.mem_append.1 hc with hc | hc
            · simp only [List.mem_cons, List.not_mem_nil, or_false] at hc; subst hc; exact ⟨by decide, by decide⟩
            · exact HSC.out c hc
          have hft : ∀ c ∈ [65279] ++ l0, 0 ≤ c ∧ c < 4294967296 := fun c hc => by
            have h1 := hsc c hc
            have := isB_iff.1 h1.1
            omega
          have hW5 := write_any M _ av ln cv ([65279] ++ l0) w5 (HE4.out.1.below hW) (came_seg hs5 (fun g hg hf => by have := hvb g hg; have := HE4.out.1.lt hf; omega)) hft (fun c hc => (hsc c hc).1) (by have := HI.out.1.len; simp; omega)
          rw [show textC π ([65279] ++ l0) = [14, 254, 255] ++ textC π l0 from text_mark l0 HHD.out, strOf_append] at hW5
          have hB5 : Below w.heap.size w w5 := below_two HE4.out.2.2 hW
          have hS0 : (Stp.strOf (textC π l0)).size ≤ 2005 := by rw [strOf_size]; have := text_max (plain := π) l0 (fun c hc => (HSC.out c hc).1); have := HI.out.1.len; omega
          obtain ⟨S, hS⟩ : ∃ S, Stp.strOf (textC π l0) = S := ⟨_, rfl⟩
          rw [hS] at hW5 hS0 ⊢
          have hlt5 : w.heap.size ≤ w5.heap.size := hB5.size
          have HB5 : Hid (Below w.heap.size w w5 ∧ ∀ w6, Chg (fun k _ => footE M (.slice none 0 0) k) w5 w6 → Below w.heap.size w w6) := ⟨hB5, fun w6 hC => hB5.trans (hC.below hlt5 (fun k j hk h => by have := footE_nil h; have := HM.out; omega))⟩
          have HW5 : Hid (Calls Tryd.prog 11 #[.pointer (some ⟨M + 1, 0, none⟩), .slice av ln cv, .slice none 0 0, .slice none 0 0] w5 fun e w' => e = .returned (.tuple #[.string (Stp.strOf [14, 254, 255] ++ S), .bool true]) ∧ Chg (fun k _ => footE M (.slice none 0 0) k) w5 w') := hW5
          clear hW hvb hsc hft hW5 hB5 hS hlt5 hs5 hc5 hm5 hln HE4 HSG HRW HCN
          refine HW5.out.mono ?_
          rintro e w6 ⟨rfl, C6⟩
          have HB6 : Hid (Below w.heap.size w w6) := HB5.out.2 w6 C6
          clear C6 HW5 HB5
          obtain ⟨P3, hP3⟩ : ∃ P3 : ByteArray, Stp.strOf [14, 254, 255] = P3 := ⟨_, rfl⟩
          have HP3 : Hid ((⟨#[14, 254, 255]⟩ : ByteArray) = P3 ∧ P3.size = 3) := ⟨by rw [← hP3]; rfl, by rw [← hP3]; rfl⟩
          rw [hP3]
          have g1 : ¬ 9223372036854775807 < (⟨#[14, 254, 255]⟩ : ByteArray).size + S.size := by rw [HP3.out.1, HP3.out.2]; omega
          clear hP3
          go_wp2
          go_ret
          exact ⟨ret_bool (by rw [HP3.out.1]; simp), HB6.out⟩
theorem reads (os : Os) {H : Type} (enc : TypeId × Value → H) : ∃ places, DataW.whole enc Tryd.prog ((({ World.holding Tryd.prog os ⟨#[], #[], []⟩ with heap := (((World.holding Tryd.prog os ⟨#[], #[], []⟩).heap.modify 0 CP.layN).modify 1 CP.layS) } : World)).forCall (fun _ _ => 0) ⟨#[], #[.bool false, .slice none 0 0], []⟩).memory Tryd.f6.params.toList Rows.compressMarkSpec.vars false #[.bool false, .slice none 0 0].toList 8 = some ([.lit (.bool false), .nil], [], places) :=
  ⟨[], by kernel_rfl⟩
set_option maxRecDepth 100000 in
theorem lifted (os : Os) (started : os.Started) (H : Type) (enc : TypeId × Value → H) (Fi : Stop.Interp) :
    ReturnsInHanded {} Tryd.checked os 6 .any ((OpenSpec.ofChange Rows.compressMarkSpec).preRow enc Tryd.prog Tryd.f6 Rows.compressMarkRow.domain false Rows.compressMarkRow.laid) (((OpenSpec.ofChange Rows.compressMarkSpec).at Fi).post enc Tryd.prog Tryd.f6 false true false false) := by
  obtain ⟨places, hx⟩ := reads os enc
  refine returnsInHanded_of_row (C := Tryd.checked) (s := OpenSpec.ofChange Rows.compressMarkSpec) Bas.own started (by kernel_rfl) Tryd.func6
    (witness_row_at (enc := enc) (C := Tryd.checked) false (({ World.holding Tryd.prog os ⟨#[], #[], []⟩ with heap := (((World.holding Tryd.prog os ⟨#[], #[], []⟩).heap.modify 0 CP.layN).modify 1 CP.layS) } : World)) #[.bool false, .slice none 0 0] rfl (by kernel_rfl) (by kernel_rfl) (by kernel_rfl)
      (OpenSpec.preRow_of_cond 8 hx (by kernel_rfl) (fun k hk => by cases hk) (by kernel_rfl) (CP.laid_met os _))) ?_
  intro W base args ds gs before hval0 hW _ _ _ hL _ _
  have hval : ∀ (j : Nat) t v, Tryd.f6.params[j]? = some t → args[j]? = some v → Value.okWide Tryd.prog W .any base t v := hval0
  have hW' := hW
  obtain ⟨p, q, hA0, hV, rfl, hfz, hnd⟩ := hW
  have hA : DataW.TrodAll enc Tryd.prog W 0 (fun _ => true) true Tryd.f6.params.toList args.toList ds p := hA0
  rw [Tryd.params6] at hA hval
  obtain ⟨v0, vs0, d0, ds0, p0, q0, hargs, rfl, rfl, h0, r0⟩ := trodAll_cons hA
  obtain ⟨v1, vs1, d1, ds1, p1, q1, rfl, rfl, rfl, h1, r1⟩ := trodAll_cons r0
  obtain ⟨rfl, rfl, rfl⟩ := trodAll_nil r1
  obtain rfl : args = #[v0, v1] := by cases args; simp_all
  obtain ⟨rfl, rfl⟩ := trodVars_none hV
  have k0 := h0
  have lt0 : ∀ x ∈ p0, x.block < W.heap.size := by obtain ⟨m, hm⟩ := k0; exact DataW.trod_lt m _ _ _ hm
  have k1 := h1
  have lt1 : ∀ x ∈ p1, x.block < W.heap.size := by obtain ⟨m, hm⟩ := k1; exact DataW.trod_lt m _ _ _ hm
  obtain ⟨a0, rfl, rfl, rfl⟩ := open_bool Tryd.underlying4 (hval 0 4 v0 rfl rfl) h0
  obtain ⟨a1, n1, c1, rfl⟩ := okWide_slice Tryd.underlying22 (hval 1 22 v1 rfl rfl)
  obtain ⟨l1, I1, J1⟩ : ∃ l : List Int, Bas.Ints .u32 W a1 n1 c1 l ∧ Cod.Cap a1 n1 c1 := by
    obtain ⟨fuel, hf⟩ := h1
    rcases open_ints Tryd.underlying22 Tryd.underlying35 (by kernel_rfl) hf with ⟨hcs, _⟩ | ⟨x, l, c, zs, hcs, _, hl, hm, hz, _, hcell, hwz⟩
    · simp [Value.cells] at hcs
      obtain ⟨rfl, rfl, rfl⟩ := hcs
      exact ⟨[], ⟨Bas.row_nil _ _ _, rfl, by unfold maxLen; omega, by simp, fun _ => rfl⟩, .inl ⟨rfl, rfl⟩⟩
    · simp [Value.cells] at hcs
      obtain ⟨rfl, rfl, rfl⟩ := hcs
      have hz' : zs.length = c1 := by simpa using hz
      exact ⟨zs.take n1, ⟨Bas.row_of _ _ _ _ _ (by omega) hcell, by simp; omega, by omega, fun n hn => hwz n (List.mem_of_mem_take hn), fun h => by cases h⟩, Cod.cap_of (by omega) (by omega) hz' hcell⟩
  refine (walk W (CP.tabs_of hL) a0 a1 n1 c1 l1 I1 J1).mono fun e W' ⟨he, bel⟩ => ?_
  subst he
  exact ⟨_, rfl, _, _, _, [], _, [], hW', trodAll_mk1 (shut_bool Tryd.underlying4 _), (trodAll_cons_mk (Below.trod Bas.laidOut (by kernel_rfl) (of_decide_eq_true (by kernel_rfl)) k0 bel lt0) (trodAll_cons_mk (Below.trod Bas.laidOut (by kernel_rfl) (of_decide_eq_true (by kernel_rfl)) k1 bel lt1) trodAll_mk0)), rfl, bel.frame _, fun h => by cases h⟩


theorem over : Rows.compressMarkRow.holds Tryd.pinned (OpenSpec.ofChange Rows.compressMarkSpec) :=
  OpenClaim.holds_of_cond 6 Tryd.f6 rfl rfl rfl rfl rfl rfl rfl ⟨rfl, rfl, rfl, rfl, rfl⟩ rfl rfl rfl rfl rfl (by kernel_rfl) Tryd.func6 (by kernel_rfl)
    (of_decide_eq_true (by kernel_rfl)) (by unfold Func.isWrapper; first | (rw [if_pos (by decide +kernel)]; kernel_rfl) | (rw [if_neg (by decide +kernel)]; exact ⟨rfl, rfl⟩))
    (fun os started H enc _ Fi => by rw [OpenClaim.pre_eq_preRow]; exact lifted os started H enc Fi)
theorem plain (f : FuncId) (fn : Func) (hf : Tryd.pinned.checked.prog.funcNamed Rows.compressMarkRow.func = some f) (hfn : Tryd.pinned.checked.prog.funcs[f]? = some fn) :
    false = Tryd.pinned.checked.prog.looks [] ∧ ∀ (j : Nat) t, fn.params[j]? = some t → Tryd.pinned.checked.prog.wantsStandIn t = false := by
  obtain rfl : f = 6 := Option.some.inj ((show Tryd.prog.funcNamed Rows.compressMarkRow.func = some 6 by kernel_rfl).symm.trans hf) |>.symm
  obtain rfl : fn = Tryd.f6 := (Option.some.inj (Tryd.func6.symm.trans hfn)).symm
  refine ⟨by kernel_rfl, fun j t ht => ?_⟩
  rw [Tryd.params6] at ht
  have hm : t ∈ [4, 22] := by simpa using Array.mem_of_getElem? ht
  have hall : ([4, 22].all fun u => !Tryd.prog.wantsStandIn u) = true := by kernel_rfl
  exact (show Tryd.prog.wantsStandIn t = false by simpa using List.all_eq_true.1 hall t hm)
end Go.Proofs.YtpglmfhlgaliaaaDoor.compressMark
namespace Go.Proofs.YtpglmfhlgaliaaaDoor
/-- The statement: the tied card. -/
theorem compressMark_proved : Rows.CompressMarkCardSaid :=
  Claim7.holds_tied_plain_at .later [] _ _ _ _ compressMark.over (fun _ h => by cases h) (by kernel_rfl) (fun _ h => by cases h) compressMark_row_tie rfl ⟨rfl, rfl⟩ (by kernel_rfl) rfl compressMark.plain (by kernel_rfl)
end Go.Proofs.YtpglmfhlgaliaaaDoor
