/-
  Contracts of the decoder's step and of its End, as walks over the translated text. The condition: its memory is there and may be written.
-/
import Derived.Test.YtafigcmiibemeaaU32Dec
import Derived.Test.YtafigcmiibemeaaMemS
namespace Go.Proofs.Ytafigcmiibemeaa
open Go.ChangeShapes Go.WideShapes Go.ChangeAt Go.RowKit
namespace U32
open Bas Sca Stp Scn Cod
set_option linter.unusedVariables false
variable {π : Par}

set_option maxHeartbeats 4000000 in
set_option maxRecDepth 100000 in
theorem take_any (b : Nat) (p q : Int) (en : Bool) (s l : List Int) (v u : Value) (x : Int) (w : World) (h : DecV π w b p q en s l v u) (hx : 0 ≤ x ∧ x < 256) (hlen : l.length ≤ 1000000) :
    Calls Try.prog 35 #[.pointer (some ⟨b, 0, none⟩), .int .u8 x] w fun e w' => ∃ v' u', e = .returned (.bool (stepU π s x).isSome) ∧ DecV π w' b p q en (stN π s x) (l ++ toldN π s x) v' u' ∧ Chg (fun k _ => footD b v u k) w w' ∧ Mov w v v' ∧ Mov w u u' := by
  have HB : Hid (∀ y ∈ s ++ [x], 0 ≤ y ∧ y < 256) := byte_snoc h.byte hx
  have H : Hid (DecV π w b p q en s l v u) := h
  have hl3 := h.good.len
  have hob := or_byte (π := π) hl3 h.byte hx
  have hF : w.drew.cell? ⟨b, 4, none⟩ = some (.bool π) ∧ w.drew.cell? ⟨b, 5, none⟩ = some (.int .u32 (numN π s)) ∧ w.drew.cell? ⟨b, 6, none⟩ = some (.int .i64 s.length) := by
    simp only [World.cell?_drew]; exact ⟨h.par, h.num, h.cnt⟩
  obtain ⟨n, hn⟩ : ∃ n, s.length = n := ⟨_, rfl⟩
  obtain ⟨m, hm⟩ : ∃ m, numN π s = m := ⟨_, rfl⟩
  rw [hn] at hl3
  have hsw := sh_wt π hl3
  have hsb := shN_bd π hl3
  obtain ⟨sh, hsh⟩ : ∃ sh, shN π n = sh := ⟨_, rfl⟩
  rw [hsh] at hsw hsb
  rw [hn, hm, ← hsw] at hob
  rw [hn, hm] at hF
  have HN : Hid (s.length = n ∧ numN π s = m ∧ shN π n = sh) := ⟨hn, hm, hsh⟩
  have hwr : IntKind.u32.wrap (IntKind.u32.wrap x * 2 ^ sh.toNat) = x * 2 ^ sh.toNat := by
    have hw : wt π n = 1 ∨ wt π n = 256 ∨ wt π n = 65536 ∨ wt π n = 16777216 := by
      unfold wt; (repeat' split) <;> simp
    rw [hsw, IntKind.wrap_u32, IntKind.wrap_u32]
    rcases hw with e | e | e | e <;> rw [e] <;> omega
  obtain ⟨M, hM⟩ : ∃ M, numN π (s ++ [x]) = M := ⟨_, rfl⟩
  have HE : Hid (bits .or .u32 m (IntKind.u32.wrap (IntKind.u32.wrap x * 2 ^ sh.toNat)) = M ∧ IntKind.i64.wrap ((n : Int) + 1) = ((n + 1 : Nat) : Int)) := ⟨by rw [hwr, hob, hM], by rw [wrap_i64s _ (by omega) (by omega)]; push_cast; rfl⟩
  have HM : Hid (numN π (s ++ [x]) = M ∧ (s ++ [x]).length = n + 1) := ⟨hM, by rw [List.length_append, hn]; rfl⟩
  clear h hn hm hsh hob hsw hwr hM
  obtain ⟨s0, s1⟩ := hsb
  obtain ⟨x0, x1⟩ := hx
  go_enter Try.func35, Try.ntmps35
  go_upto_region 1 with fail
  have B5 := (Below.refl w.heap.size w).drew
  go_region_held3 (fun w' => w'.cell? ⟨b, 4, none⟩ = some (.bool π) ∧ w'.cell? ⟨b, 5, none⟩ = some (.int .u32 m) ∧ w'.cell? ⟨b, 6, none⟩ = some (.int .i64 n)) (exact hF) (first
    | (go_at_call 46; refine (shift_any n _ hl3).mono ?_; rintro e w5 ⟨rfl, b5⟩; rw [HN.out.2.2]; have hF := And.intro (cell_later b5 hF.1) (And.intro (cell_later b5 hF.2.1) (cell_later b5 hF.2.2)); have B5 := below_two B5 b5; clear b5))
  rw [HE.out.1, HE.out.2]
  have HD5 : Hid (DecV π w5 b p q en s l v u ∧ Below w.heap.size w w5) := ⟨H.out.below B5, B5⟩
  have hc4 := hF.1
  clear B5 hF HE s0 s1 x0 x1
  go_wp2_with fail
  refine (begins_any (s ++ [x]) M (n + 1) _ HM.out.1.symm HM.out.2.symm (by rw [HM.out.2]; omega) HB.out).mono ?_
  rintro e w6 ⟨rfl, b6⟩
  have HD6 : Hid (DecV π w6 b p q en s l v u ∧ Below w.heap.size w w6) := ⟨HD5.out.1.below b6, below_two HD5.out.2 b6⟩
  clear b6 HD5 hc4
  obtain ⟨t, ht⟩ : ∃ t, begN π (s ++ [x]) = t := ⟨_, rfl⟩
  rw [ht]
  have HT : Hid (begN π (s ++ [x]) = t) := ht
  clear ht
  cases t with
  | false =>
    have HST : Hid (stepU π s x = none) := step_no HT.out
    go_wp2
    go_ret
    exact ⟨v, u, by rw [HST.out]; rfl, by simpa [stN, toldN, HST.out] using HD6.out.1, chg_of_below HD6.out.2 (Nat.le_refl _) _, mov_refl _ _, mov_refl _ _⟩
  | true =>
    by_cases h3 : n = 3
    · subst h3
      have HST : Hid (stepU π s x = some ([], [M])) := by show _ = _; rw [step_last HT.out HN.out.1, HM.out.1]
      go_wp2_with fail
      have hB7 := (Below.refl w6.heap.size w6).alloc (Nat.le_refl _) (.cells #[.int .u32 M] 46)
      refine (hold_any b 3 v l [M] _ 1 1 _ (HD6.out.1.below hB7).row (by exact row_new .u32 _ [M] _ _ (by simp)) rfl (fun h => by cases h) (by simp; omega)).mono ?_
      rintro e w8 ⟨v', rfl, hr8, hc8, hm8⟩
      have D8 := (HD6.out.1.below hB7).hold hr8 hc8 hm8
      have HD8 : Hid (DecV π w8 b p q en s (l ++ [M]) v' u ∧ Chg (fun k _ => footD b v u k) w w8 ∧ Mov w v v') :=
        ⟨D8, (chg_of_below (below_two HD6.out.2 hB7) (Nat.le_refl _) _).trans2 hc8 (fun _ _ _ h => h) (fun k j _ h => by
          rcases h with h | h
          · exact .inl h.1
          · exact .inr (.inl h)), mov_trans (mov_refl w v) hm8 (below_two HD6.out.2 hB7).size⟩
      have hc5 := D8.num
      have hc6 := D8.cnt
      have hf5 := D8.f5
      have hf6 := D8.f6
      rw [HN.out.1] at hc6
      clear hB7 hr8 hc8 hm8 D8
      go_wp2
      go_ret
      refine ⟨v', u, by rw [HST.out]; rfl, by simpa [stN, toldN, HST.out] using HD8.out.1.put (s' := []) (m := 0) (n := 0) rfl rfl (good_nil π) (by simp), HD8.out.2.1.trans2 (put_chg w8 b _ _) (fun _ _ _ h => h) (fun k j _ h => .inl h), HD8.out.2.2, mov_refl _ _⟩
    · have HST : Hid (stepU π s x = some (s ++ [x], [])) := by show _ = _; rw [step_mid HT.out (by rw [HN.out.1]; exact h3)]
      have hc5 := HD6.out.1.num
      have hc6 := HD6.out.1.cnt
      have hf5 := HD6.out.1.f5
      have hf6 := HD6.out.1.f6
      rw [HN.out.1] at hc6
      have h34 : (((n : Int) + 1) == 4) = false := by simp; omega
      go_wp2
      go_ret
      have hg : Good π (s ++ [x]) := ⟨by rw [HM.out.2]; omega, fun _ => HT.out⟩
      have D := HD6.out.1.put (s' := s ++ [x]) HM.out.1.symm HM.out.2.symm hg HB.out
      refine ⟨v, u, by rw [HST.out]; rfl, by simpa [stN, toldN, HST.out] using D, (chg_of_below HD6.out.2 (Nat.le_refl _) _).trans2 (put_chg w6 b _ _) (fun _ _ _ h => h) (fun k j _ h => .inl h), mov_refl _ _, mov_refl _ _⟩

set_option maxHeartbeats 4000000 in
theorem dEnd_any (b : Nat) (p q : Int) (en : Bool) (s : St) (l : List Int) (v u : Value) (w : World) (h : DecV π w b p q en s l v u) :
    Calls Try.prog 26 #[.pointer (some ⟨b, 0, none⟩)] w fun e w' => e = .returned (.tuple #[]) ∧ DecV π w' b p (if rest s = true then q else stopI q en 4) (endB (if rest s = true then q else stopI q en 4) en) s l v u ∧ Chg (footB b 0) w w' := by
  have hc4 := h.cnt
  have H : Hid (DecV π w b p q en s l v u) := h
  by_cases hs : s = []
  · subst hs
    rw [if_pos (show rest [] = true from rfl)]
    clear h
    have hl : (([] : List Int).length : Int) = 0 := rfl
    rw [hl] at hc4
    clear hl
    go_enter Try.func26, Try.ntmps26
    go_wp2_with fail
    refine (end_any b 0 p q en w H.out.base).mono ?_
    rintro e w2 ⟨rfl, hB, hC⟩
    go_wp2
    go_end0
    exact ⟨rfl, H.out.rebase hB hC, hC⟩
  · rw [if_neg (show ¬ rest s = true by simpa [rest] using hs)]
    have hlen : 0 < s.length := List.length_pos_iff.2 hs
    obtain ⟨n, hn⟩ : ∃ n, s.length = n := ⟨_, rfl⟩
    rw [hn] at hc4 hlen
    have hlen' : (n : Int) > 0 := by omega
    clear h hn hlen hs
    go_enter Try.func26, Try.ntmps26
    go_wp2_with fail
    refine (stop_any b 0 p q en 4 w H.out.base).mono ?_
    rintro e w2 ⟨rfl, hB, hC⟩
    have D2 := H.out.rebase hB hC
    go_wp2_with fail
    refine (end_any b 0 p _ en w2 D2.base).mono ?_
    rintro e w3 ⟨rfl, hB3, hC3⟩
    go_wp2
    go_end0
    exact ⟨rfl, D2.rebase hB3 hC3, hC.trans hC3⟩
end U32
end Go.Proofs.Ytafigcmiibemeaa
