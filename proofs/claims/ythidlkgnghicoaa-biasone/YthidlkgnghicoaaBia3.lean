/-
  The contract of bias.Put, as a walk over the translated text. The condition: whole numbers of 64 bits.
-/
import Derived.Test.YthidlkgnghicoaaBia1
namespace Go.Proofs.Ythidlkgnghicoaa
open Go.ChangeShapes Go.WideShapes Go.ChangeAt Go.RowKit
namespace Bia
open Bas Txt
set_option linter.unusedVariables false

/-- The bytes so far: the program's own, in new memory. -/
def OutOf (w wr : World) (o : Value) (t : List Int) : Prop := Seg .u8 wr o t ∧ (∀ g, o.ownBlock = some g → w.heap.size ≤ g) ∧ Below w.heap.size w wr
theorem OutOf.below {w wr w2 : World} {o : Value} {t : List Int} (h : OutOf w wr o t) (b : Below wr.heap.size wr w2) : OutOf w w2 o t :=
  ⟨h.1.chg (chg_of_below b (Nat.le_refl _) (fun _ _ => False)) (fun _ _ _ h => h), h.2.1, below_two h.2.2 b⟩
theorem OutOf.app {w wr w2 w3 : World} {o o' : Value} {t t' : List Int} (h : OutOf w wr o t) (b : Below wr.heap.size wr w2) (hs : Seg .u8 w3 o' t') (hc : Chg (fun b _ => o.ownBlock = some b) w2 w3) (hm : Mov w2 o o') : OutOf w w3 o' t' := by
  have hz := h.2.2.size
  have hb := below_two h.2.2 b
  refine ⟨hs, fun g hg => ?_, hb.trans (hc.below (by have := b.size; omega) (fun k j hk hh => by have := h.2.1 k hh; omega))⟩
  rcases hm g hg with e | e
  · exact h.2.1 g e
  · have := b.size; omega
/-- What is known of digits put and of what is left. -/
def PutRel (L : List Int) (b : Int) (t : List Int) (k n : Nat) : Prop := L = t ++ putL b k n ∧ t.length = k ∧ n < 18446744073709551616
theorem PutRel.le {L : List Int} {b : Int} {t : List Int} {k n : Nat} (h : PutRel L b t k n) (hL : L.length ≤ 21) : k ≤ 21 := by
  have := congrArg List.length h.1
  rw [List.length_append, h.2.1] at this
  omega
theorem PutRel.last {L : List Int} {b : Int} {t : List Int} {k n : Nat} (h : PutRel L b t k n) (hn : n < thr b k) : t ++ [nth letL n] = L := by
  rw [h.1, putL_last hn]
theorem PutRel.next {L : List Int} {b : Int} {t : List Int} {k n : Nat} (h : PutRel L b t k n) (hn : ¬ n < thr b k) :
    PutRel L b (t ++ [nth letL (thr b k + (n - thr b k) % (36 - thr b k))]) (k + 1) ((n - thr b k) / (36 - thr b k)) := by
  refine ⟨?_, by simp [h.2.1], ?_⟩
  · rw [h.1, putL_more hn, List.append_assoc, List.singleton_append]
  · have := dig_step (thr_rng b k).1 (thr_rng b k).2 (show thr b k ≤ n by omega)
    have := h.2.2
    omega
theorem seg_nil0 (w : World) : Seg .u8 w (.slice none 0 0) [] := .inl ⟨rfl, rfl⟩

set_option maxHeartbeats 4000000 in
theorem put_any (n : Nat) (b : Int) (w : World) (hn : n < 18446744073709551616) :
    Calls Try.prog 19 #[.int .u64 n, .int .i64 b] w fun e w' => e = .returned (.string (strOf (putL b 0 n))) ∧ Below w.heap.size w w' := by
  have HL : Hid ((putL b 0 n).length ≤ 21) := put_len20 b n hn
  have HS : Hid (PutRel (putL b 0 n) b [] 0 n) := ⟨rfl, rfl, hn⟩
  obtain ⟨L, hLe⟩ : ∃ L, putL b 0 n = L := ⟨_, rfl⟩
  rw [hLe] at HL HS ⊢
  clear hLe
  go_enter Try.func19, Try.ntmps19
  go_wp2
  go_loopw [0, 5, 6] (fun x o i wr => ∃ (n k : Nat) (t : List Int), x = .int .u64 n ∧ i = .int .i64 k ∧ PutRel L b t k n ∧ OutOf w wr o t) (fun x _ _ _ => (intOf x).toNat)
  case atStart => exact ⟨n, 0, [], rfl, rfl, HS.out, seg_nil0 _, fun g hg => by simp [Value.ownBlock] at hg, Below.refl _ _⟩
  case round =>
    clear HS hn
    obtain ⟨m, k, t, rfl, rfl, hr, hO⟩ := hrel
    have HR : Hid (PutRel L b t k m) := hr
    have HO : Hid (OutOf w wr u5 t) := hO
    have hk : k ≤ 21 := hr.le HL.out
    have hm := hr.2.2
    have HT : Hid (t.length ≤ 21) := by rw [hr.2.1]; exact hk
    clear hr hO
    go_wp2_with fail
    refine (span_any k b wr).mono ?_
    rintro e w1 ⟨rfl, hw⟩
    subst hw
    have hth := thr_rng b k
    by_cases hlt : m < thr b k
    · have HF : Hid (t ++ [nth letL m] = L) := HR.out.last hlt
      have hm36 : m < 36 := by omega
      obtain ⟨c, hc⟩ : ∃ c, thr b k = c := ⟨_, rfl⟩
      rw [hc] at hlt hth ⊢
      have e1 : ((({ data := #[97, 98, 99, 100, 101, 102, 103, 104, 105, 106, 107, 108, 109, 110, 111, 112, 113, 114, 115, 116, 117, 118, 119, 120, 121, 122, 48, 49, 50, 51, 52, 53, 54, 55, 56, 57] } : ByteArray)[m]'hm36).toNat : Int) = nth letL m := let_at m hm36
      obtain ⟨r, hr2⟩ : ∃ r, nth letL m = r := ⟨_, rfl⟩
      rw [hr2] at e1 HF
      clear hr2 hc
      have i1 : (m : Int) < 36 := by omega
      have HSA : Hid (∀ o, OutOf w (w1.alloc o) u5 t) := fun o => HO.out.below ((Below.refl _ _).alloc (Nat.le_refl _) o)
      go_wp2_with (at_builtin; go_must (refine wpList_append_seg rfl _ _ 48 48 rfl .u8 5 1 Try.underlying48 info_u8 u5 t [r] rfl (HSA.out _).1 _ rfl (src_row (l := [r]) Try.underlying48 (by exact row_new .u8 w1 [r] _ _ rfl) rfl (fun h => by cases h)) (by have := HT.out; unfold maxLen; simp; omega) (by have := HT.out; simp; omega) ?_; intro vo w4 hs4 hc4 hm4; have HF4 : Hid (OutOf w w4 vo (t ++ [r])) := HO.out.app ((Below.refl _ _).alloc (Nat.le_refl _) _) hs4 hc4 hm4; obtain ⟨ao, co, hvo, hro, -⟩ := hs4.form; obtain ⟨ln, hln⟩ : ∃ ln, (t ++ [r]).length = ln := ⟨_, rfl⟩; rw [hln] at hvo; subst hvo; have hcv := run_string w4 ao ln co (t ++ [r]) hro hln; rw [HF.out] at hcv; clear hs4 hc4 hm4 HSA hro hln))
      go_ret
      exact ⟨rfl, HF4.out.2.2⟩
    · have HN := HR.out.next hlt
      have hHN : Hid (PutRel L b (t ++ [nth letL (thr b k + (m - thr b k) % (36 - thr b k))]) (k + 1) ((m - thr b k) / (36 - thr b k))) := HN
      clear HN
      obtain ⟨c, hc⟩ : ∃ c, thr b k = c := ⟨_, rfl⟩
      rw [hc] at hlt hth hHN ⊢
      clear hc
      obtain ⟨s, hs, hs0, hs1⟩ : ∃ s : Nat, 36 - c = s ∧ 10 ≤ s ∧ s ≤ 35 := ⟨_, rfl, by omega, by omega⟩
      have e0 : (36 - (c : Int)) = (s : Int) := by omega
      rw [e0]
      have hd : 36 - s = c := by omega
      rw [hs] at hHN
      have hdl := Nat.mod_lt (m - c) (y := s) (by omega)
      have hu := Nat.div_le_self (m - c) s
      obtain ⟨q, hq⟩ : ∃ q, (m - c) % s = q := ⟨_, rfl⟩
      obtain ⟨u, hue⟩ : ∃ u, (m - c) / s = u := ⟨_, rfl⟩
      have h1 : ((m : Int) - (c : Int)) % (s : Int) = (q : Int) := by rw [← hq, Int.natCast_emod, Int.natCast_sub (by omega)]
      have h2 : ((m : Int) - (c : Int)) / (s : Int) = (u : Int) := by rw [← hue, Int.natCast_ediv, Int.natCast_sub (by omega)]
      rw [hq] at hHN hdl
      rw [hue] at hHN hu
      clear hq hue e0
      have hd36 : c + q < 36 := by omega
      have e1 : ((({ data := #[97, 98, 99, 100, 101, 102, 103, 104, 105, 106, 107, 108, 109, 110, 111, 112, 113, 114, 115, 116, 117, 118, 119, 120, 121, 122, 48, 49, 50, 51, 52, 53, 54, 55, 56, 57] } : ByteArray)[c + q]'hd36).toNat : Int) = nth letL (c + q) := let_at (c + q) hd36
      obtain ⟨r, hr2⟩ : ∃ r, nth letL (c + q) = r := ⟨_, rfl⟩
      rw [hr2] at e1 hHN
      clear hr2
      have i1 : (c : Int) ≤ (m : Int) := by omega
      have i2 : (c : Int) + (q : Int) < 36 := by omega
      have HSA : Hid (∀ o, OutOf w (w1.alloc o) u5 t) := fun o => HO.out.below ((Below.refl _ _).alloc (Nat.le_refl _) o)
      have HU : Hid (u < m) := (show u < m by omega)
      go_wp2_with (at_builtin; go_must (refine wpList_append_seg rfl _ _ 48 48 rfl .u8 5 1 Try.underlying48 info_u8 u5 t [r] rfl (HSA.out _).1 _ rfl (src_row (l := [r]) Try.underlying48 (by exact row_new .u8 w1 [r] _ _ rfl) rfl (fun h => by cases h)) (by have := HT.out; unfold maxLen; simp; omega) (by have := HT.out; simp; omega) ?_; intro vo w4 hs4 hc4 hm4))
      have HF4 : Hid (OutOf w w4 vo (t ++ [r])) := HO.out.app ((Below.refl _ _).alloc (Nat.le_refl _) _) hs4 hc4 hm4
      clear hs4 hc4 hm4 HSA
      exact ⟨⟨u, k + 1, t ++ [r], by rw [h2], by go_num, hHN.out, HF4.out⟩, by rw [h2]; simp [intOf]; exact HU.out⟩
end Bia
end Go.Proofs.Ythidlkgnghicoaa
