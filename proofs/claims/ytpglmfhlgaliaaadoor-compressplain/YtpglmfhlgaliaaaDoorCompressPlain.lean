/-
  Proved: by the plain profile a text is, up to the first scalar above FF, a byte for each, two for a control; from there on big UTF-16 behind 0F, with F0 where it must. No condition.
-/
import Derived.Test.YtpglmfhlgaliaaaDoorCPLaw
import Derived.Test.YtpglmfhlgaliaaaDoorEXRRd
import Derived.Test.YtpglmfhlgaliaaaDoorRefO
namespace Go.Proofs.YtpglmfhlgaliaaaDoor
open Go.ChangeShapes Go.WideShapes Go.ChangeAt Go.RowKit
open Go.ChangeMaps (open_string shut_string)
namespace compressPlain
open Bas Sca Stp Scn Cod Cmp Cps CP
set_option linter.unusedVariables false

theorem text_rest {l : List Int} (h : l.head? ≠ some 65279) : textC true l = restC true es0 l := by
  cases l with
  | nil => rfl
  | cons c r =>
    simp only [List.head?_cons, ne_eq, Option.some.injEq] at h
    simp only [textC]
    rw [if_neg h]
/-- Up to the first scalar above FF, and from there on. -/
theorem plain_parts {l : List Int} {k : Nat} (hk : k < l.length) (hlow : ∀ j, j < k → nth l j ≤ 255) (hnn : ∀ c ∈ l, 0 ≤ c) (hc : 255 < nth l k) (hh : l.head? ≠ some 65279) :
    textC true l = textC true (l.take k) ++ restC true es0 (l.drop k) ∧ ∃ m, restC true es0 (l.drop k) = 15 :: m ∧ m.length = 2 * unL (l.drop k) + tgL (l.drop k) := by
  have hd := drop_at l k hk
  have ht : (l.take k).head? ≠ some 65279 := by
    cases l with
    | nil => simp
    | cons c r =>
      cases k with
      | zero => simp
      | succ k => simpa using hh
  refine ⟨?_, ?_⟩
  · rw [text_rest hh, text_rest ht, ← rest_cut, List.take_append_drop]
    intro c hc2
    obtain ⟨i, hi, rfl⟩ := List.mem_iff_getElem.1 hc2
    rw [List.length_take] at hi
    have h1 := hlow i (by omega)
    have e : nth l i = (l.take k)[i] := by simp [nth, show i < l.length by omega]
    rw [e] at h1
    exact ⟨hnn _ (List.mem_of_mem_take hc2), h1⟩
  · rw [hd]
    exact rest_from hc (l.drop (k + 1))
theorem cell_of {w : World} {bl ol : Nat} {l : List Int} (h : Row .u32 w (some ⟨bl, ol, none⟩) l) {i : Nat} (hi : i < l.length) : w.cell? ⟨bl, ol + i, none⟩ = some (.int .u32 (nth l i)) := by
  obtain ⟨b', o', n', c'⟩ := h
  have e2 := n' (List.ne_nil_of_length_pos (by omega))
  simp only [Option.some.injEq, Addr.mk.injEq] at e2
  have := c' i hi
  rw [← e2.1, ← e2.2.1] at this
  exact this
theorem cap_len {a : Option Addr} {n c : Nat} (h : Cap a n c) : n ≤ c := h.le
theorem cap_max {a : Option Addr} {n c : Nat} (h : Cap a n c) : c ≤ maxLen := by
  rcases h with ⟨h1, h2⟩ | ⟨bl, ol, h1, h2, h3⟩
  · rw [h2]; exact Nat.zero_le _
  · exact h3
theorem row_take {kd : IntKind} {w : World} {a : Option Addr} {l : List Int} {k : Nat} (h : Row kd w a l) : Row kd w a (l.take k) := by
  obtain ⟨bb, oo, h1, h2⟩ := h
  refine ⟨bb, oo, fun hne => h1 (fun e => hne (by rw [e]; simp)), fun i hi => ?_⟩
  rw [List.length_take] at hi
  rw [nth_take (by omega)]; exact h2 i (by omega)
theorem cap_nil {a : Option Addr} {n c : Nat} (h : Cap a n c) : a = none → c = 0 := by
  intro e
  rcases h with ⟨h1, h2⟩ | ⟨bl, ol, h1, h2, h3⟩
  · first | exact h2 | omega
  · rw [e] at h1; cases h1
set_option maxHeartbeats 8000000 in
set_option maxRecDepth 100000 in
theorem walk (w : World) (hT : CP.Tabs w) (a0 : Option Addr) (n0 c0 : Nat) (l0 : List Int) (I0 : Ints .u32 w a0 n0 c0 l0) (J0 : Cap a0 n0 c0) :
    Calls Tryd.prog 7 #[.slice a0 n0 c0] w fun e w' => e = .returned (.bool true) ∧ Below w.heap.size w w' := by
  have HT : Hid (CP.Tabs w) := hT
  have HI : Hid (Ints .u32 w a0 n0 c0 l0 ∧ Cap a0 n0 c0) := ⟨I0, J0⟩
  have hn0 := I0.max
  clear I0 J0 hT
  go_enter Tryd.func7, Tryd.ntmps7
  go_wp2_with fail
  refine (awake_any w HT.out).mono ?_
  rintro e w1 ⟨rfl, b1⟩
  have HB1 : Hid (Below w.heap.size w w1) := b1
  clear b1
  go_wp2_with fail
  refine (great_any _ none none 0 0 0 0 w1).mono ?_
  rintro e w1 ⟨rfl, rfl⟩
  obtain ⟨g, hg⟩ : ∃ g, (decide ((n0 : Int) > 400) || (decide (0 > 200) || decide (0 > 200))) = g := ⟨_, rfl⟩
  rw [hg]
  cases g with
  | true =>
    clear hg
    go_wp2_with fail
    refine (awake_any _ (HT.out.below HB1.out)).mono ?_
    rintro e w2 ⟨rfl, b2⟩
    go_wp2
    go_ret
    exact ⟨rfl, below_two HB1.out b2⟩
  | false =>
    obtain ⟨h400, -, -⟩ := great_no hg
    clear hg
    go_wp2_with fail
    refine (rFirst_any a0 n0 c0 l0 w1 (HI.out.1.row.mono HB1.out) HI.out.1.len HI.out.1.max).mono ?_
    rintro e w1 ⟨rfl, rfl⟩
    by_cases hok : okLen l0 < l0.length
    · rw [firstL_ok, if_pos hok]
      have hge : (okLen l0 : Int) ≥ 0 := by omega
      clear hok
      go_wp2_with fail
      refine (awake_any _ (HT.out.below HB1.out)).mono ?_
      rintro e w2 ⟨rfl, b2⟩
      go_wp2
      go_ret
      exact ⟨rfl, below_two HB1.out b2⟩
    · have HSC : Hid (∀ c ∈ l0, isB c = true ∧ 0 ≤ c) := scalars_of hok HI.out.1.fits
      rw [firstL_ok, if_neg hok]
      clear hok
      by_cases hz : n0 = 0
      · obtain rfl : n0 = 0 := hz
        have HHD : Hid (l0 = []) := List.length_eq_zero_iff.1 HI.out.1.len
        cases a0 with
        | none =>
          obtain rfl : c0 = 0 := cap_nil HI.out.2 rfl
          go_wp2_with fail
          go_loopw [3] (fun i wr => i = .int .i64 0 ∧ wr = w1) (fun i _ => 0)
          case atStart => exact ⟨rfl, rfl⟩
          case round =>
            obtain ⟨rfl, hw⟩ := hrel
            rw [hw]
            clear hw wr
            go_wp2_with fail
            refine (newW_any true _ rfl (HT.out.below HB1.out)).mono ?_
            rintro e w2 ⟨rfl, E2, z2, B2⟩
            obtain ⟨N, hN⟩ : ∃ N, N = w1.heap.size := ⟨_, rfl⟩
            have HN : Hid (w.heap.size ≤ N) := by show w.heap.size ≤ N; rw [hN]; exact HB1.out.size
            rw [← hN] at E2 z2 B2 ⊢
            have HB2 : Hid (Below w.heap.size w w2) := HB1.out.trans (B2.mono HN.out)
            clear hN
            go_wp2_with fail
            refine (write_any N _ _ _ 0 l0 w2 E2 (came_of HI.out.2 HI.out.1.row HI.out.1.len HB2.out (fun k hk hf => by have := footE_nil hf; have := HN.out; omega)) (fun c hc => fits_u32' (HI.out.1.fits c hc)) (fun c hc => (HSC.out c hc).1) (by have := HI.out.1.len; omega)).mono ?_
            rintro e w3 ⟨rfl, C3⟩
            have HB3 : Hid (Below w.heap.size w w3) := HB2.out.trans (C3.below HB2.out.size (fun k j hk h => by have := footE_nil h; have := HN.out; omega))
            clear E2 z2 B2 C3 HB2 HN HB1
            have hM0 := HB3.out.size
            obtain ⟨M, hM⟩ : ∃ M, M = w3.heap.size := ⟨_, rfl⟩
            rw [← hM] at hM0
            have HNW : Hid (Calls Tryd.prog 12 #[.bool true] w3.drew fun e w' => e = .returned (.pointer (some ⟨M + 1, 0, none⟩)) ∧ EncW true cs0 w' (M + 1) M 0 0 false [] (.slice none 0 0) ∧ w'.heap.size = M + 2 ∧ Below M w3.drew w') := newW_any true w3.drew (by rw [hM]; rfl) ((HT.out.below HB3.out).below (Below.refl _ _).drew)
            have HWR : Hid (∀ w4, EncV true cs0 w4 M 0 0 false [] (.slice none 0 0) → Below M w3.drew w4 → Calls Tryd.prog 11 #[.pointer (some ⟨M + 1, 0, none⟩), .slice none 0 0, .slice none 0 0, .slice none 0 0] w4 fun e w' => e = .returned (.tuple #[.string (Stp.strOf (textC true l0)), .bool true]) ∧ Below w.heap.size w w') := fun w4 E4 B4 => by
              have hb4 : Below w.heap.size w w4 := (HB3.out.drew).trans (B4.mono hM0)
              refine (write_any M _ none 0 0 l0 w4 E4 (came_of HI.out.2 HI.out.1.row HI.out.1.len hb4 (fun k hk hf => by have := footE_nil hf; omega)) (fun c hc => fits_u32' (HI.out.1.fits c hc)) (fun c hc => (HSC.out c hc).1) (by have := HI.out.1.len; omega)).mono ?_
              rintro e w5 ⟨rfl, C5⟩
              exact ⟨rfl, hb4.trans (C5.below hb4.size (fun k j hk h => by have := footE_nil h; omega))⟩
            clear hM
            go_upto_region 7 with fail
            go_region_held3 (fun w' => True) (exact trivial) (first
              | (go_at_call 12; refine HNW.out.mono ?_; rintro e w4 ⟨rfl, E4, -, B4⟩)
              | (go_at_call 11; refine (HWR.out _ E4 B4).mono ?_; rintro e w5 ⟨rfl, b5⟩))
            have HB5 : Hid (Below w.heap.size w w5) := b5
            clear E4 B4 b5 HNW HWR hM0 HB3
            go_wp2_with fail
            go_ret
            exact ⟨by first | rfl | exact ret_bool (by simp), HB5.out⟩
        | some xa =>
          have hkc : (0 : Int) ≤ (c0 : Int) := by omega
          go_wp2_with fail
          go_loopw [3] (fun i wr => i = .int .i64 0 ∧ wr = w1) (fun i _ => 0)
          case atStart => exact ⟨rfl, rfl⟩
          case round =>
            obtain ⟨rfl, hw⟩ := hrel
            rw [hw]
            clear hw wr
            go_wp2_with fail
            refine (newW_any true _ rfl (HT.out.below HB1.out)).mono ?_
            rintro e w2 ⟨rfl, E2, z2, B2⟩
            obtain ⟨N, hN⟩ : ∃ N, N = w1.heap.size := ⟨_, rfl⟩
            have HN : Hid (w.heap.size ≤ N) := by show w.heap.size ≤ N; rw [hN]; exact HB1.out.size
            rw [← hN] at E2 z2 B2 ⊢
            have HB2 : Hid (Below w.heap.size w w2) := HB1.out.trans (B2.mono HN.out)
            clear hN
            go_wp2_with fail
            refine (write_any N _ _ _ c0 l0 w2 E2 (came_of HI.out.2 HI.out.1.row HI.out.1.len HB2.out (fun k hk hf => by have := footE_nil hf; have := HN.out; omega)) (fun c hc => fits_u32' (HI.out.1.fits c hc)) (fun c hc => (HSC.out c hc).1) (by have := HI.out.1.len; omega)).mono ?_
            rintro e w3 ⟨rfl, C3⟩
            have HB3 : Hid (Below w.heap.size w w3) := HB2.out.trans (C3.below HB2.out.size (fun k j hk h => by have := footE_nil h; have := HN.out; omega))
            clear E2 z2 B2 C3 HB2 HN HB1
            have hM0 := HB3.out.size
            obtain ⟨M, hM⟩ : ∃ M, M = w3.heap.size := ⟨_, rfl⟩
            rw [← hM] at hM0
            have HNW : Hid (Calls Tryd.prog 12 #[.bool true] w3.drew fun e w' => e = .returned (.pointer (some ⟨M + 1, 0, none⟩)) ∧ EncW true cs0 w' (M + 1) M 0 0 false [] (.slice none 0 0) ∧ w'.heap.size = M + 2 ∧ Below M w3.drew w') := newW_any true w3.drew (by rw [hM]; rfl) ((HT.out.below HB3.out).below (Below.refl _ _).drew)
            have HWR : Hid (∀ w4, EncV true cs0 w4 M 0 0 false [] (.slice none 0 0) → Below M w3.drew w4 → Calls Tryd.prog 11 #[.pointer (some ⟨M + 1, 0, none⟩), .slice (some xa) 0 c0, .slice none 0 0, .slice none 0 0] w4 fun e w' => e = .returned (.tuple #[.string (Stp.strOf (textC true l0)), .bool true]) ∧ Below w.heap.size w w') := fun w4 E4 B4 => by
              have hb4 : Below w.heap.size w w4 := (HB3.out.drew).trans (B4.mono hM0)
              refine (write_any M _ (some xa) 0 c0 l0 w4 E4 (came_of HI.out.2 HI.out.1.row HI.out.1.len hb4 (fun k hk hf => by have := footE_nil hf; omega)) (fun c hc => fits_u32' (HI.out.1.fits c hc)) (fun c hc => (HSC.out c hc).1) (by have := HI.out.1.len; omega)).mono ?_
              rintro e w5 ⟨rfl, C5⟩
              exact ⟨rfl, hb4.trans (C5.below hb4.size (fun k j hk h => by have := footE_nil h; omega))⟩
            clear hM
            go_upto_region 7 with fail
            go_region_held3 (fun w' => True) (exact trivial) (first
              | (go_at_call 12; refine HNW.out.mono ?_; rintro e w4 ⟨rfl, E4, -, B4⟩)
              | (go_at_call 11; refine (HWR.out _ E4 B4).mono ?_; rintro e w5 ⟨rfl, b5⟩))
            have HB5 : Hid (Below w.heap.size w w5) := b5
            clear E4 B4 b5 HNW HWR hM0 HB3
            go_wp2_with fail
            go_ret
            exact ⟨by first | rfl | exact ret_bool (by simp), HB5.out⟩
      · have hz0 : 0 < (n0 : Int) := by omega
        obtain ⟨bl, ol, hal, hcl⟩ := HI.out.1.row
        have hlen := HI.out.1.len
        have hne : l0 ≠ [] := by intro e; rw [e] at hlen; simp at hlen; omega
        obtain rfl := hal hne
        have hcell : w1.cell? ⟨bl, ol, none⟩ = some (.int .u32 (nth l0 0)) := cell_later HB1.out (by have := hcl 0 (List.length_pos_iff.2 hne); simpa using this)
        have HCL : Hid (∀ i, i < l0.length → w1.cell? ⟨bl, ol + i, none⟩ = some (.int .u32 (nth l0 i))) := fun i hi => cell_later HB1.out (hcl i hi)
        obtain ⟨x, hx⟩ : ∃ x, nth l0 0 = x := ⟨_, rfl⟩
        have hhd : l0.head? = some x := by
          cases l0 with
          | nil => exact absurd rfl hne
          | cons c r => rw [← hx]; rfl
        rw [hx] at hcell
        clear hal hcl hlen hne hx hz
        by_cases hxm : x = 65279
        · subst hxm
          clear hhd
          go_wp2_with fail
          refine (awake_any _ (HT.out.below HB1.out)).mono ?_
          rintro e w2 ⟨rfl, b2⟩
          go_wp2
          go_ret
          exact ⟨rfl, below_two HB1.out b2⟩
        · have HHD : Hid (l0.head? ≠ some 65279) := by rw [hhd]; intro e; exact hxm (Option.some.inj e)
          have hxb : (x == 65279) = false := by rw [beq_eq_false_iff_ne]; exact hxm
          clear hhd hxm
          go_wp2_with fail
          go_loopw [3] (fun i wr => ∃ k : Nat, i = .int .i64 k ∧ k ≤ n0 ∧ (∀ j, j < k → nth l0 j ≤ 255) ∧ wr = w1) (fun i _ => n0 - (intOf i).toNat)
          case atStart => exact ⟨0, rfl, Nat.zero_le _, fun j hj => by omega, rfl⟩
          case round =>
            obtain ⟨k, rfl, hk, hlow, hw⟩ := hrel
            rw [hw]
            clear hw wr
            have HLW : Hid (∀ j, j < k → nth l0 j ≤ 255) := hlow
            clear hlow
            by_cases hkn : k < n0
            · have hkn' : (k : Int) < (n0 : Int) := by omega
              have hkl : k < l0.length := by rw [HI.out.1.len]; exact hkn
              have hck := HCL.out k hkl
              have hy0 := (HSC.out (nth l0 k) (nth_mem hkl)).2
              obtain ⟨y, hy⟩ : ∃ y, nth l0 k = y := ⟨_, rfl⟩
              have HY : Hid (nth l0 k = y ∧ k < l0.length) := ⟨hy, hkl⟩
              rw [hy] at hck hy0
              clear hy hkl
              by_cases hle : y ≤ 255
              · have HLW2 : Hid (∀ j, j < k + 1 → nth l0 j ≤ 255) := fun j hj => by
                  by_cases e : j = k
                  · rw [e, HY.out.1]; exact hle
                  · exact HLW.out j (by omega)
                go_wp2
                go_roundw
                case rel => exact ⟨k + 1, by go_num, by omega, HLW2.out, trivial⟩
                case measure => simp [intOf]; omega
              · have HP : Hid (textC true l0 = textC true (l0.take k) ++ restC true es0 (l0.drop k) ∧ ∃ m, restC true es0 (l0.drop k) = 15 :: m ∧ m.length = 2 * unL (l0.drop k) + tgL (l0.drop k)) := plain_parts HY.out.2 HLW.out (fun c hc => (HSC.out c hc).2) (by rw [HY.out.1]; omega) HHD.out
                go_wp2_with fail
                refine (newW_any true _ rfl (HT.out.below HB1.out)).mono ?_
                rintro e w2 ⟨rfl, E2, z2, B2⟩
                obtain ⟨N, hN⟩ : ∃ N, N = w1.heap.size := ⟨_, rfl⟩
                have HN : Hid (w.heap.size ≤ N) := by show w.heap.size ≤ N; rw [hN]; exact HB1.out.size
                rw [← hN] at E2 z2 B2 ⊢
                have HB2 : Hid (Below w.heap.size w w2) := HB1.out.trans (B2.mono HN.out)
                clear hN
                go_wp2_with fail
                refine (write_any N _ _ _ c0 l0 w2 E2 (came_of HI.out.2 HI.out.1.row HI.out.1.len HB2.out (fun k hk hf => by have := footE_nil hf; have := HN.out; omega)) (fun c hc => fits_u32' (HI.out.1.fits c hc)) (fun c hc => (HSC.out c hc).1) (by have := HI.out.1.len; omega)).mono ?_
                rintro e w3 ⟨rfl, C3⟩
                have HB3 : Hid (Below w.heap.size w w3) := HB2.out.trans (C3.below HB2.out.size (fun k j hk h => by have := footE_nil h; have := HN.out; omega))
                clear E2 z2 B2 C3 HB2 HN HB1
                have hM0 := HB3.out.size
                obtain ⟨M, hM⟩ : ∃ M, M = w3.heap.size := ⟨_, rfl⟩
                rw [← hM] at hM0
                have HNW : Hid (Calls Tryd.prog 12 #[.bool true] w3.drew fun e w' => e = .returned (.pointer (some ⟨M + 1, 0, none⟩)) ∧ EncW true cs0 w' (M + 1) M 0 0 false [] (.slice none 0 0) ∧ w'.heap.size = M + 2 ∧ Below M w3.drew w') := newW_any true w3.drew (by rw [hM]; rfl) ((HT.out.below HB3.out).below (Below.refl _ _).drew)
                have HWR : Hid (∀ w4, EncV true cs0 w4 M 0 0 false [] (.slice none 0 0) → Below M w3.drew w4 → Calls Tryd.prog 11 #[.pointer (some ⟨M + 1, 0, none⟩), .slice (some ⟨bl, ol, none⟩) k c0, .slice none 0 0, .slice none 0 0] w4 fun e w' => e = .returned (.tuple #[.string (Stp.strOf (textC true (l0.take k))), .bool true]) ∧ Below w.heap.size w w') := fun w4 E4 B4 => by
                  have hb4 : Below w.heap.size w w4 := (HB3.out.drew).trans (B4.mono hM0)
                  refine (write_any M _ (some ⟨bl, ol, none⟩) k c0 (l0.take k) w4 E4 (.inr ⟨bl, ol, c0, by rw [List.length_take]; congr 1; have := HY.out.2; omega, by rw [List.length_take]; have := cap_len HI.out.2; omega, cap_max HI.out.2, (row_take (HI.out.1.row.mono hb4)), fun _ hf => by have := footE_nil hf; have := row_lt HI.out.1.row (by have := HY.out.2; omega) rfl; omega⟩) (fun c hc => fits_u32' (HI.out.1.fits c (List.mem_of_mem_take hc))) (fun c hc => (HSC.out c (List.mem_of_mem_take hc)).1) (by have := HI.out.1.len; rw [List.length_take]; omega)).mono ?_
                  rintro e w5 ⟨rfl, C5⟩
                  exact ⟨rfl, hb4.trans (C5.below hb4.size (fun k j hk h => by have := footE_nil h; omega))⟩
                clear hM
                have hkc2 : k ≤ c0 := by have := cap_len HI.out.2; omega
                have hkc : (k : Int) ≤ (c0 : Int) := by omega
                go_upto_region 7 with fail
                go_region_held3 (fun w' => True) (exact trivial) (first
                  | (go_at_call 12; refine HNW.out.mono ?_; rintro e w4 ⟨rfl, E4, -, B4⟩)
                  | (go_at_call 11; refine (HWR.out _ E4 B4).mono ?_; rintro e w5 ⟨rfl, b5⟩))
                have HB5 : Hid (Below w.heap.size w w5) := b5
                clear E4 B4 b5 HNW HWR hM0 HB3
                obtain ⟨m, hm, hml⟩ := HP.out.2
                have hta : ∀ c ∈ l0.take k, isB c = true ∧ 0 ≤ c := fun c hc => HSC.out c (List.mem_of_mem_take hc)
                have htd : ∀ c ∈ l0.drop k, isB c = true ∧ 0 ≤ c := fun c hc => HSC.out c (List.mem_of_mem_drop hc)
                have hle0 := HY.out.2
                have hll := HI.out.1.len
                have hsa := text_max (plain := true) (l0.take k) (fun c hc => (hta c hc).1)
                rw [List.length_take] at hsa
                have hu1 := un_le (l0.drop k)
                have hg1 := tg_le (l0.drop k)
                rw [List.length_drop] at hu1 hg1
                have hrb : (restC true es0 (l0.drop k)).length = 1 + 2 * unL (l0.drop k) + tgL (l0.drop k) := by rw [hm, List.length_cons, hml]; omega
                have hpb : ∀ x ∈ restC true es0 (l0.drop k), 0 ≤ x ∧ x < 256 := rest_byte _ htd es0 (inv_0 true)
                have hb : bytesL (Stp.strOf (textC true l0)) = textC true (l0.take k) ++ restC true es0 (l0.drop k) := by rw [bytesL_strOf _ (text_byte l0 HSC.out)]; exact HP.out.1
                have hT0 : (Stp.strOf (textC true (l0.take k))).size = (textC true (l0.take k)).length := strOf_size _
                have hX1 : (Stp.strOf (textC true l0)).extract 0 (Stp.strOf (textC true (l0.take k))).size = Stp.strOf (textC true (l0.take k)) := by
                  rw [← strOf_bytesL ((Stp.strOf (textC true l0)).extract 0 _), bytesL_take, hb, hT0, List.take_left]
                have hX2 : (Stp.strOf (textC true l0)).extract (Stp.strOf (textC true (l0.take k))).size (Stp.strOf (textC true l0)).size = Stp.strOf (restC true es0 (l0.drop k)) := by
                  rw [← strOf_bytesL ((Stp.strOf (textC true l0)).extract _ _), bytesL_drop, hb, hT0, List.drop_left]
                have hS0 : (Stp.strOf (textC true l0)).size = (textC true (l0.take k)).length + (restC true es0 (l0.drop k)).length := by rw [strOf_size, HP.out.1, List.length_append]
                have hR0 : (Stp.strOf (restC true es0 (l0.drop k))).size = (restC true es0 (l0.drop k)).length := strOf_size _
                have hRb : bytesL (Stp.strOf (restC true es0 (l0.drop k))) = restC true es0 (l0.drop k) := bytesL_strOf _ hpb
                obtain ⟨z, -, z2⟩ := rest_rd (plain := true) (l0.drop k) htd es0 (inv_0 true)
                have h15 : nth (bytesL (Stp.strOf (restC true es0 (l0.drop k)))) 0 = 15 := by rw [hRb, hm]; rfl
                obtain ⟨S, hS⟩ : ∃ S, Stp.strOf (textC true l0) = S := ⟨_, rfl⟩
                obtain ⟨T, hT⟩ : ∃ T, Stp.strOf (textC true (l0.take k)) = T := ⟨_, rfl⟩
                obtain ⟨R, hR⟩ : ∃ R, Stp.strOf (restC true es0 (l0.drop k)) = R := ⟨_, rfl⟩
                rw [hS, hT] at hX1
                rw [hS, hT, hR] at hX2
                rw [hS] at hS0
                rw [hT] at hT0
                rw [hR] at hR0 hRb h15
                rw [hS, hT]
                have HX : Hid ((⟨l0.drop k, R.size, decE z, false⟩ : Res Exp.St) = scan (EX.stepU ()) (EX.st0 ()) (bytesL R)) := by
                  show _ = _
                  rw [← bytesL_length, hRb]; exact z2.symm
                have HQ : Hid (EX.endQ ⟨l0.drop k, R.size, decE z, false⟩ = 0) := rfl
                have HUG : Hid ((R.size : Int) = 1 + 2 * (unL (l0.drop k) : Int) + (tgL (l0.drop k) : Int) ∧ unL (l0.drop k) ≤ 800 ∧ tgL (l0.drop k) ≤ 400) := ⟨by omega, by omega, by omega⟩
                have hRpos : 0 < R.size := by omega
                have hsn := str_nth R 0 hRpos
                rw [h15] at hsn
                have hRp : (0 : Int) < (R.size : Int) := by omega
                have hTS : T.size ≤ S.size := by omega
                have hTS2 : ¬ (S.size : Int) < (T.size : Int) := by omega
                have hRs : R.size ≤ 100000 := by omega
                have hkn2 : ((k : Int) == (n0 : Int)) = false := by rw [beq_eq_false_iff_ne]; omega
                clear hm hml hta htd hsa hu1 hg1 hrb hpb hb hT0 hS0 hR0 hRb z2 h15 hS hT hR hle0 hll
                go_wp2_with fail
                refine (EX.rRead_any (π := ()) R ⟨l0.drop k, R.size, decE z, false⟩ w5 HX.out hRs).mono ?_
                rintro e w6 ⟨vo, rfl, q1, -, q3⟩
                rw [HQ.out]
                obtain ⟨ao, co, hvo, -⟩ := q1.form
                change vo = .slice ao (l0.drop k).length co at hvo
                rw [List.length_drop, HI.out.1.len] at hvo
                subst hvo
                have HSG : Hid (Seg .u32 w6 (.slice ao (n0 - k) co) (l0.drop k)) := q1
                have HB6 : Hid (Below w.heap.size w w6) := below_two HB5.out q3
                clear q1 q3 HX HQ HB5
                have hkc3 : k < c0 := by have := cap_len HI.out.2; omega
                have hkc4 : (k : Int) < (c0 : Int) := by omega
                have hck0 : ¬ c0 = k := by omega
                have hkn3 : (k : Int) ≤ (n0 : Int) := by omega
                have HRD : Hid (Row .u32 w6 (some ⟨bl, ol + k, none⟩) (l0.drop k) ∧ (l0.drop k).length = n0 - k ∧ ∀ c ∈ l0.drop k, isB c = true) := by
                  refine ⟨?_, by rw [List.length_drop, HI.out.1.len], fun c hc => (HSC.out c (List.mem_of_mem_drop hc)).1⟩
                  refine ⟨bl, ol + k, fun _ => rfl, fun i hi => ?_⟩
                  rw [List.length_drop] at hi
                  have := cell_later HB6.out (cell_of HI.out.1.row (show k + i < l0.length by omega))
                  rw [show ol + k + i = ol + (k + i) by omega, this]
                  simp [nth]
                have hu := tUnits_any (some ⟨bl, ol + k, none⟩) (n0 - k) (c0 - k) (l0.drop k) w6.drew (HRD.out.1.mono (Below.refl _ _).drew) HRD.out.2.1 (by omega) HRD.out.2.2
                have hg := tTagged_any (some ⟨bl, ol + k, none⟩) (n0 - k) (c0 - k) (l0.drop k) w6.drew (HRD.out.1.mono (Below.refl _ _).drew) HRD.out.2.1 (by omega)
                have hug := HUG.out
                generalize unL (l0.drop k) = u at *
                generalize tgL (l0.drop k) = g at *
                obtain ⟨hug1, hug2, hug3⟩ := hug
                have hq : ((R.size : Int) == 1 + 2 * (u : Int) + (g : Int)) = true := by rw [beq_iff_eq]; exact hug1
                have hw1 : IntKind.i64.wrap (2 * (u : Int)) = 2 * (u : Int) := wrap_i64s _ (by omega) (by omega)
                have hw2 : IntKind.i64.wrap (1 + 2 * (u : Int)) = 1 + 2 * (u : Int) := wrap_i64s _ (by omega) (by omega)
                have hw3 : IntKind.i64.wrap (1 + 2 * (u : Int) + (g : Int)) = 1 + 2 * (u : Int) + (g : Int) := wrap_i64s _ (by omega) (by omega)
                clear hug1
                have HBD : Hid (Below w6.heap.size w6 w6.drew) := (Below.refl _ _).drew
                have HGR : Hid (Row .u32 w6.drew ao (l0.drop k) ∧ Row .u32 w6.drew (some ⟨bl, ol + k, none⟩) (l0.drop k)) := ⟨(seg_row HSG.out).1.mono HBD.out, HRD.out.1.mono HBD.out⟩
                have HUU : Hid (Calls Tryd.prog 15 #[.slice (some ⟨bl, ol + k, none⟩) (n0 - k) (c0 - k)] w6.drew fun e w' => e = .returned (.int .i64 (u : Int)) ∧ w' = w6.drew) := hu
                have HGG : Hid (Calls Tryd.prog 16 #[.slice (some ⟨bl, ol + k, none⟩) (n0 - k) (c0 - k)] w6.drew fun e w' => e = .returned (.int .i64 (g : Int)) ∧ w' = w6.drew) := hg
                clear hu hg
                go_upto_region 14 with fail
                go_region_held3 (fun w' => True) (exact trivial) (first
                  | (go_at_call 15; refine HUU.out.mono ?_; rintro e w7 ⟨rfl, rfl⟩)
                  | (go_at_call 16; refine HGG.out.mono ?_; rintro e w8 ⟨rfl, rfl⟩)
                  | (go_at_call 14; refine (rSame_any ao _ (n0 - k) (n0 - k) co (c0 - k) (l0.drop k) (l0.drop k) _ HGR.out.1 HGR.out.2 HRD.out.2.1 HRD.out.2.1 ?_ ?_).mono ?_; (unfold maxLen; omega); (unfold maxLen; omega); rintro e w9 ⟨rfl, nd, rfl⟩; rw [cmpL_self, show ((0 : Int) == 0) = true from rfl]))
                go_wp2
                go_ret
                exact ⟨by first | rfl | exact ret_bool (by simp), below_two HB6.out (below_dn _ _)⟩
            · have hkn' : k = n0 := by omega
              subst hkn'
              go_wp2_with fail
              refine (newW_any true _ rfl (HT.out.below HB1.out)).mono ?_
              rintro e w2 ⟨rfl, E2, z2, B2⟩
              obtain ⟨N, hN⟩ : ∃ N, N = w1.heap.size := ⟨_, rfl⟩
              have HN : Hid (w.heap.size ≤ N) := by show w.heap.size ≤ N; rw [hN]; exact HB1.out.size
              rw [← hN] at E2 z2 B2 ⊢
              have HB2 : Hid (Below w.heap.size w w2) := HB1.out.trans (B2.mono HN.out)
              clear hN
              go_wp2_with fail
              refine (write_any N _ _ _ c0 l0 w2 E2 (came_of HI.out.2 HI.out.1.row HI.out.1.len HB2.out (fun k hk hf => by have := footE_nil hf; have := HN.out; omega)) (fun c hc => fits_u32' (HI.out.1.fits c hc)) (fun c hc => (HSC.out c hc).1) (by have := HI.out.1.len; omega)).mono ?_
              rintro e w3 ⟨rfl, C3⟩
              have HB3 : Hid (Below w.heap.size w w3) := HB2.out.trans (C3.below HB2.out.size (fun k j hk h => by have := footE_nil h; have := HN.out; omega))
              clear E2 z2 B2 C3 HB2 HN HB1
              have hM0 := HB3.out.size
              obtain ⟨M, hM⟩ : ∃ M, M = w3.heap.size := ⟨_, rfl⟩
              rw [← hM] at hM0
              have HNW : Hid (Calls Tryd.prog 12 #[.bool true] w3.drew fun e w' => e = .returned (.pointer (some ⟨M + 1, 0, none⟩)) ∧ EncW true cs0 w' (M + 1) M 0 0 false [] (.slice none 0 0) ∧ w'.heap.size = M + 2 ∧ Below M w3.drew w') := newW_any true w3.drew (by rw [hM]; rfl) ((HT.out.below HB3.out).below (Below.refl _ _).drew)
              have HWR : Hid (∀ w4, EncV true cs0 w4 M 0 0 false [] (.slice none 0 0) → Below M w3.drew w4 → Calls Tryd.prog 11 #[.pointer (some ⟨M + 1, 0, none⟩), .slice (some ⟨bl, ol, none⟩) k c0, .slice none 0 0, .slice none 0 0] w4 fun e w' => e = .returned (.tuple #[.string (Stp.strOf (textC true l0)), .bool true]) ∧ Below w.heap.size w w') := fun w4 E4 B4 => by
                have hb4 : Below w.heap.size w w4 := (HB3.out.drew).trans (B4.mono hM0)
                refine (write_any M _ (some ⟨bl, ol, none⟩) k c0 l0 w4 E4 (came_of HI.out.2 HI.out.1.row HI.out.1.len hb4 (fun k hk hf => by have := footE_nil hf; omega)) (fun c hc => fits_u32' (HI.out.1.fits c hc)) (fun c hc => (HSC.out c hc).1) (by have := HI.out.1.len; omega)).mono ?_
                rintro e w5 ⟨rfl, C5⟩
                exact ⟨rfl, hb4.trans (C5.below hb4.size (fun k j hk h => by have := footE_nil h; omega))⟩
              clear hM
              have hkc2 : k ≤ c0 := cap_len HI.out.2
              have hkc : (k : Int) ≤ (c0 : Int) := by omega
              go_upto_region 7 with fail
              go_region_held3 (fun w' => True) (exact trivial) (first
                | (go_at_call 12; refine HNW.out.mono ?_; rintro e w4 ⟨rfl, E4, -, B4⟩)
                | (go_at_call 11; refine (HWR.out _ E4 B4).mono ?_; rintro e w5 ⟨rfl, b5⟩))
              have HB5 : Hid (Below w.heap.size w w5) := b5
              clear E4 B4 b5 HNW HWR hM0 HB3
              go_wp2_with fail
              go_ret
              exact ⟨by first | rfl | exact ret_bool (by simp), HB5.out⟩
theorem reads (os : Os) {H : Type} (enc : TypeId × Value → H) : ∃ places, DataW.whole enc Tryd.prog ((({ World.holding Tryd.prog os ⟨#[], #[], []⟩ with heap := (((World.holding Tryd.prog os ⟨#[], #[], []⟩).heap.modify 0 CP.layN).modify 1 CP.layS) } : World)).forCall (fun _ _ => 0) ⟨#[], #[.slice none 0 0], []⟩).memory Tryd.f7.params.toList Rows.compressPlainSpec.vars false #[.slice none 0 0].toList 8 = some ([.nil], [], places) :=
  ⟨[], by kernel_rfl⟩
set_option maxRecDepth 100000 in
theorem lifted (os : Os) (started : os.Started) (H : Type) (enc : TypeId × Value → H) (Fi : Stop.Interp) :
    ReturnsInHanded {} Tryd.checked os 7 .any ((OpenSpec.ofChange Rows.compressPlainSpec).preRow enc Tryd.prog Tryd.f7 Rows.compressPlainRow.domain false Rows.compressPlainRow.laid) (((OpenSpec.ofChange Rows.compressPlainSpec).at Fi).post enc Tryd.prog Tryd.f7 false true false false) := by
  obtain ⟨places, hx⟩ := reads os enc
  refine returnsInHanded_of_row (C := Tryd.checked) (s := OpenSpec.ofChange Rows.compressPlainSpec) Bas.own started (by kernel_rfl) Tryd.func7
    (witness_row_at (enc := enc) (C := Tryd.checked) false (({ World.holding Tryd.prog os ⟨#[], #[], []⟩ with heap := (((World.holding Tryd.prog os ⟨#[], #[], []⟩).heap.modify 0 CP.layN).modify 1 CP.layS) } : World)) #[.slice none 0 0] rfl (by kernel_rfl) (by kernel_rfl) (by kernel_rfl)
      (OpenSpec.preRow_of_cond 8 hx (by kernel_rfl) (fun k hk => by cases hk) (by kernel_rfl) (CP.laid_met os _))) ?_
  intro W base args ds gs before hval0 hW _ _ _ hL _ _
  have hval : ∀ (j : Nat) t v, Tryd.f7.params[j]? = some t → args[j]? = some v → Value.okWide Tryd.prog W .any base t v := hval0
  have hW' := hW
  obtain ⟨p, q, hA0, hV, rfl, hfz, hnd⟩ := hW
  have hA : DataW.TrodAll enc Tryd.prog W 0 (fun _ => true) true Tryd.f7.params.toList args.toList ds p := hA0
  rw [Tryd.params7] at hA hval
  obtain ⟨v0, vs0, d0, ds0, p0, q0, hargs, rfl, rfl, h0, r0⟩ := trodAll_cons hA
  obtain ⟨rfl, rfl, rfl⟩ := trodAll_nil r0
  obtain rfl : args = #[v0] := by cases args; simp_all
  obtain ⟨rfl, rfl⟩ := trodVars_none hV
  have k0 := h0
  have lt0 : ∀ x ∈ p0, x.block < W.heap.size := by obtain ⟨m, hm⟩ := k0; exact DataW.trod_lt m _ _ _ hm
  obtain ⟨a0, n0, c0, rfl⟩ := okWide_slice Tryd.underlying22 (hval 0 22 v0 rfl rfl)
  obtain ⟨l0, I0, J0⟩ : ∃ l : List Int, Bas.Ints .u32 W a0 n0 c0 l ∧ Cod.Cap a0 n0 c0 := by
    obtain ⟨fuel, hf⟩ := h0
    rcases open_ints Tryd.underlying22 Tryd.underlying35 (by kernel_rfl) hf with ⟨hcs, _⟩ | ⟨x, l, c, zs, hcs, _, hl, hm, hz, _, hcell, hwz⟩
    · simp [Value.cells] at hcs
      obtain ⟨rfl, rfl, rfl⟩ := hcs
      exact ⟨[], ⟨Bas.row_nil _ _ _, rfl, by unfold maxLen; omega, by simp, fun _ => rfl⟩, .inl ⟨rfl, rfl⟩⟩
    · simp [Value.cells] at hcs
      obtain ⟨rfl, rfl, rfl⟩ := hcs
      have hz' : zs.length = c0 := by simpa using hz
      exact ⟨zs.take n0, ⟨Bas.row_of _ _ _ _ _ (by omega) hcell, by simp; omega, by omega, fun n hn => hwz n (List.mem_of_mem_take hn), fun h => by cases h⟩, Cod.cap_of (by omega) (by omega) hz' hcell⟩
  refine (walk W (CP.tabs_of hL) a0 n0 c0 l0 I0 J0).mono fun e W' ⟨he, bel⟩ => ?_
  subst he
  exact ⟨_, rfl, _, _, _, [], _, [], hW', trodAll_mk1 (shut_bool Tryd.underlying4 _), (trodAll_cons_mk (Below.trod Bas.laidOut (by kernel_rfl) (of_decide_eq_true (by kernel_rfl)) k0 bel lt0) trodAll_mk0), rfl, bel.frame _, fun h => by cases h⟩


theorem over : Rows.compressPlainRow.holds Tryd.pinned (OpenSpec.ofChange Rows.compressPlainSpec) :=
  OpenClaim.holds_of_cond 7 Tryd.f7 rfl rfl rfl rfl rfl rfl rfl ⟨rfl, rfl, rfl, rfl, rfl⟩ rfl rfl rfl rfl rfl (by kernel_rfl) Tryd.func7 (by kernel_rfl)
    (of_decide_eq_true (by kernel_rfl)) (by unfold Func.isWrapper; first | (rw [if_pos (by decide +kernel)]; kernel_rfl) | (rw [if_neg (by decide +kernel)]; exact ⟨rfl, rfl⟩))
    (fun os started H enc _ Fi => by rw [OpenClaim.pre_eq_preRow]; exact lifted os started H enc Fi)
theorem plain (f : FuncId) (fn : Func) (hf : Tryd.pinned.checked.prog.funcNamed Rows.compressPlainRow.func = some f) (hfn : Tryd.pinned.checked.prog.funcs[f]? = some fn) :
    false = Tryd.pinned.checked.prog.looks [] ∧ ∀ (j : Nat) t, fn.params[j]? = some t → Tryd.pinned.checked.prog.wantsStandIn t = false := by
  obtain rfl : f = 7 := Option.some.inj ((show Tryd.prog.funcNamed Rows.compressPlainRow.func = some 7 by kernel_rfl).symm.trans hf) |>.symm
  obtain rfl : fn = Tryd.f7 := (Option.some.inj (Tryd.func7.symm.trans hfn)).symm
  refine ⟨by kernel_rfl, fun j t ht => ?_⟩
  rw [Tryd.params7] at ht
  have hm : t ∈ [22] := by simpa using Array.mem_of_getElem? ht
  have hall : ([22].all fun u => !Tryd.prog.wantsStandIn u) = true := by kernel_rfl
  exact (show Tryd.prog.wantsStandIn t = false by simpa using List.all_eq_true.1 hall t hm)
end Go.Proofs.YtpglmfhlgaliaaaDoor.compressPlain
namespace Go.Proofs.YtpglmfhlgaliaaaDoor
/-- The statement: the tied card. -/
theorem compressPlain_proved : Rows.CompressPlainCardSaid :=
  Claim7.holds_tied_plain_at .later [] _ _ _ _ compressPlain.over (fun _ h => by cases h) (by kernel_rfl) (fun _ h => by cases h) compressPlain_row_tie rfl ⟨rfl, rfl⟩ (by kernel_rfl) rfl compressPlain.plain (by kernel_rfl)
end Go.Proofs.YtpglmfhlgaliaaaDoor
