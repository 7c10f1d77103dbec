/-
  The contract of the document's Put of layer 9, as a walk over the translated text. The condition: whole numbers of 64 bits.
-/
import Derived.Test.YthidlkgnghicoaaBia3
import Derived.Test.YthidlkgnghicoaaBiaRf1
namespace Go.Proofs.Ythidlkgnghicoaa
open Go.ChangeShapes Go.WideShapes Go.ChangeAt Go.RowKit
namespace Bia
open Bas Txt
set_option linter.unusedVariables false

theorem bytesL_ext (s : ByteArray) (a b : Nat) : bytesL (s.extract a b) = ((bytesL s).take b).drop a := by
  unfold bytesL
  rw [ByteArray.data_extract, Array.toList_extract, List.extract_eq_take_drop, List.map_take, List.map_drop, List.drop_take]
theorem ext_one {S : ByteArray} {l : List Int} (h : bytesL S = l) (m : Nat) (hm : m < S.size) : S.extract m (m + 1) = strOf [nth l m] := by
  have hl : m < l.length := by rw [← h, bytesL_length]; exact hm
  rw [← strOf_bytesL (S.extract m (m + 1)), bytesL_ext, h, take_snoc _ _ hl, List.drop_append_of_le_length (by rw [List.length_take]; omega), List.drop_of_length_le (by rw [List.length_take]; omega), List.nil_append]
theorem ext_join {S T : ByteArray} {l t : List Int} (h : bytesL S = l) (hT : T = strOf t) (m : Nat) (hm : m < S.size) : T ++ S.extract m (m + 1) = strOf (t ++ [nth l m]) := by
  rw [ext_one h m hm, hT, strOf_append]
set_option maxHeartbeats 4000000 in
set_option maxRecDepth 100000 in
theorem rPut_any (n : Nat) (b : Int) (w : World) (hn : n < 18446744073709551616) :
    Calls Try.prog 20 #[.int .u64 n, .int .i64 b] w fun e w' => e = .returned (.string (strOf (putL b 0 n))) ∧ w' = w := by
  have HL : Hid ((putL b 0 n).length ≤ 21) := put_len20 b n hn
  have HS : Hid (PutRel (putL b 0 n) b [] 0 n) := ⟨rfl, rfl, hn⟩
  obtain ⟨L, hLe⟩ : ∃ L, putL b 0 n = L := ⟨_, rfl⟩
  rw [hLe] at HL HS ⊢
  clear hLe
  obtain ⟨S, hS, hz, hX⟩ := letS_ex
  have HD : Hid (∀ w, Calls Try.prog 18 #[] w fun e w' => e = .returned (.string S) ∧ w' = w) := by rw [← hS]; exact rDigits_any
  have HX : Hid (bytesL S = letL) := hX
  clear hS hX
  go_enter Try.func20, Try.ntmps20
  go_wp2
  go_loopw [0, 5, 6] (fun x o i wr => ∃ (n k : Nat) (t : List Int) (T : ByteArray), x = .int .u64 n ∧ i = .int .i64 k ∧ o = .string T ∧ T = strOf t ∧ PutRel L b t k n ∧ wr = w) (fun x _ _ _ => (intOf x).toNat)
  case atStart => exact ⟨n, 0, [], _, rfl, rfl, rfl, rfl, HS.out, rfl⟩
  case round =>
    clear HS hn
    obtain ⟨m, k, t, T, rfl, rfl, rfl, hT, hr, hw⟩ := hrel
    subst hw
    have HR : Hid (PutRel L b t k m ∧ T = strOf t) := ⟨hr, hT⟩
    have hk : k ≤ 21 := hr.le HL.out
    have hm := hr.2.2
    have hTs : T.size = k := by rw [hT, strOf_size, hr.2.1]
    clear hr hT
    have i0 : (k : Int) < 200 := by omega
    go_wp2_with fail
    refine (rThr_any k b wr).mono ?_
    rintro e w1 ⟨rfl, hw⟩
    subst hw
    have hth := thr_rng b k
    rw [thr_eq]
    by_cases hlt : m < thr b k
    · have HF : Hid (t ++ [nth letL m] = L) := HR.out.1.last hlt
      have hm36 : m < 36 := by omega
      obtain ⟨c, hc⟩ : ∃ c, thr b k = c := ⟨_, rfl⟩
      rw [hc] at hlt hth ⊢
      clear hc
      have i1 : (m : Int) < 36 := by omega
      go_wp2_with fail
      refine (HD.out w1).mono ?_
      rintro e w2 ⟨rfl, hw⟩
      subst hw
      go_wp2
      go_ret
      exact ⟨congrArg (fun x => Ending.returned (.string x)) (by rw [ext_join HX.out HR.out.2 m (by omega), HF.out]), rfl⟩
    · have HN := HR.out.1.next hlt
      have hHN : Hid (PutRel L b (t ++ [nth letL (thr b k + (m - thr b k) % (36 - thr b k))]) (k + 1) ((m - thr b k) / (36 - thr b k))) := HN
      clear HN
      obtain ⟨c, hc⟩ : ∃ c, thr b k = c := ⟨_, rfl⟩
      rw [hc] at hlt hth hHN ⊢
      clear hc
      obtain ⟨s, hs, hs0, hs1⟩ : ∃ s : Nat, 36 - c = s ∧ 10 ≤ s ∧ s ≤ 35 := ⟨_, rfl, by omega, by omega⟩
      have e0 : (36 - (c : Int)) = (s : Int) := by omega
      rw [hs] at hHN
      have hdl := Nat.mod_lt (m - c) (y := s) (by omega)
      have hu := Nat.div_le_self (m - c) s
      obtain ⟨q, hq⟩ : ∃ q, (m - c) % s = q := ⟨_, rfl⟩
      obtain ⟨u, hue⟩ : ∃ u, (m - c) / s = u := ⟨_, rfl⟩
      have h1 : ((m : Int) - (c : Int)) % (s : Int) = (q : Int) := by rw [← hq, Int.natCast_emod, Int.natCast_sub (by omega)]
      have h2 : ((m : Int) - (c : Int)) / (s : Int) = (u : Int) := by rw [← hue, Int.natCast_ediv, Int.natCast_sub (by omega)]
      rw [hq] at hHN hdl
      rw [hue] at hHN hu
      clear hq hue
      have hd36 : c + q < 36 := by omega
      have i1 : (c : Int) ≤ (m : Int) := by omega
      have i2 : (c : Int) + (q : Int) < 36 := by omega
      have HU : Hid (u < m) := (show u < m by omega)
      go_wp2_with fail
      refine (HD.out w1).mono ?_
      rintro e w2 ⟨rfl, hw⟩
      subst hw
      go_wp2
      exact ⟨⟨u, k + 1, t ++ [nth letL (c + q)], _, by rw [h2], by go_num, rfl, ext_join HX.out HR.out.2 (c + q) (by omega), hHN.out, trivial⟩, by rw [h2]; simp [intOf]; exact HU.out⟩
end Bia
end Go.Proofs.Ythidlkgnghicoaa
