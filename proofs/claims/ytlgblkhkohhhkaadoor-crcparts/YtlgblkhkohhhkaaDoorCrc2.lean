/-
  Contracts of crc's Of, Is, Four and Number, and of the document's Four, as walks over the translated text. The condition: the table of the program's own is as its text lays it; texts are of at most a million bytes.
-/
import Derived.Test.YtlgblkhkohhhkaaDoorCrc1
namespace Go.Proofs.YtlgblkhkohhhkaaDoor
open Go.ChangeShapes Go.WideShapes Go.ChangeAt Go.RowKit
namespace Crc
open Bas Txt
set_option linter.unusedVariables false

/-- The text at a place of a list of texts. -/
def nthS (L : List ByteArray) (i : Nat) : ByteArray := L[i]?.getD ByteArray.empty
/-- A slice's address leads to the texts of a list. -/
def StrRow (w : World) (a : Option Addr) (L : List ByteArray) : Prop :=
  ∃ b off, (L ≠ [] → a = some ⟨b, off, none⟩) ∧ ∀ i, i < L.length → w.cell? ⟨b, off + i, none⟩ = some (.string (nthS L i))
theorem StrRow.below {w w' : World} {a : Option Addr} {L : List ByteArray} (h : StrRow w a L) (hb : Below w.heap.size w w') : StrRow w' a L := by
  obtain ⟨b, off, ha, hc⟩ := h
  exact ⟨b, off, ha, fun i hi => cell_later hb (hc i hi)⟩
theorem strRow_nil (w : World) (a : Option Addr) : StrRow w a [] := ⟨0, 0, fun h => absurd rfl h, fun i hi => by simp at hi⟩
theorem strRow_one (w : World) (s : ByteArray) (t : TypeId) {n : Nat} (hn : n = w.heap.size) : StrRow (w.alloc (.cells #[.string s] t)) (some ⟨n, 0, none⟩) [s] := by
  refine ⟨n, 0, fun _ => rfl, fun i hi => ?_⟩
  have hi : i < 1 := hi
  obtain rfl : i = 0 := by omega
  rw [World.cell?_alloc_at _ _ _ _ hn]
  rfl
/-- The bytes of texts, one behind the other. -/
def catL (L : List ByteArray) : List Int := (L.map bytesL).flatten
theorem catL_one (s : ByteArray) : catL [s] = bytesL s := by simp [catL]
theorem catL_succ (L : List ByteArray) (k : Nat) (h : k < L.length) : catL (L.take (k + 1)) = catL (L.take k) ++ bytesL (nthS L k) := by
  have e : nthS L k = L[k] := by simp [nthS, h]
  rw [List.take_succ_eq_append_getElem h, e]
  unfold catL
  rw [List.map_append, List.flatten_append]
  congr 1
  exact List.append_nil _
theorem nthS_mem {L : List ByteArray} {k : Nat} (h : k < L.length) : nthS L k ∈ L := by simp [nthS, h]

theorem sumAt_new (w : World) (t : TypeId) {n : Nat} (hn : n = w.heap.size) : SumAt (w.alloc (.cells #[.int .u32 0] t)) n [] := by
  subst hn
  refine ⟨?_, by simp⟩
  rw [World.cell?_alloc_new]; rfl
/-- The sum under way: what is known of it in a loop. -/
def Going (w wr : World) (l : List Int) : Prop := SumAt wr w.heap.size l ∧ Below w.heap.size w wr
set_option maxHeartbeats 4000000 in
theorem of_any (a : Option Addr) (n c : Nat) (L : List ByteArray) (w : World) (hT : Tabs w) (hR : StrRow w a L) (hl : L.length = n) (hm : n ≤ maxLen) (hs : ∀ s ∈ L, s.size ≤ 1000000) :
    Calls Tryd.prog 10 #[.slice a n c] w fun e w' => e = .returned (.int .u32 ((sumI (catL L) : Nat) : Int)) ∧ Below w.heap.size w w' := by
  have HT : Hid (Tabs w) := hT
  have HR : Hid (StrRow w a L) := hR
  have HS : Hid (∀ s ∈ L, s.size ≤ 1000000) := hs
  have HG : Hid (Going w (w.alloc (.cells #[.int .u32 0] 29)) []) := ⟨sumAt_new w _ rfl, (Below.refl _ _).alloc (Nat.le_refl _) _⟩
  have hm2 := hm
  unfold maxLen at hm2
  clear hT hR hs hm
  go_enter Tryd.func10, Tryd.ntmps10
  go_wp2
  go_loopw [8] (fun i wr => ∃ k : Nat, i = .int .i64 k ∧ k ≤ n ∧ Going w wr (catL (L.take k))) (fun i _ => n - (intOf i).toNat)
  case atStart => exact ⟨0, rfl, Nat.zero_le _, HG.out⟩
  case round =>
    obtain ⟨k, rfl, hk, hG⟩ := hrel
    have HK : Hid (Going w wr (catL (L.take k))) := hG
    clear hG HG
    by_cases hlt : k < n
    · have hkL : k < L.length := by omega
      obtain ⟨b, off, ha, hc⟩ := HR.out
      obtain rfl := ha (by intro e; subst e; simp at hkL)
      have hc1 := cell_later HK.out.2 (hc k hkL)
      have HN : Hid (catL (L.take (k + 1)) = catL (L.take k) ++ bytesL (nthS L k)) := catL_succ L k hkL
      have HM : Hid ((nthS L k).size ≤ 1000000) := HS.out _ (nthS_mem hkL)
      obtain ⟨S, hS⟩ : ∃ S, nthS L k = S := ⟨_, rfl⟩
      rw [hS] at hc1 HN HM
      have i1 : (k : Int) < (n : Int) := by omega
      clear hc ha hS hkL
      go_wp2_with fail
      refine (add_any w.heap.size S (catL (L.take k)) wr (HT.out.below HK.out.2) HK.out.1 HM.out).mono ?_
      rintro e w1 ⟨rfl, h1, h2, h3⟩
      have HF : Hid (Going w w1 (catL (L.take (k + 1)))) := by
        refine ⟨by rw [HN.out]; exact h1, HK.out.2.trans (h2.below HK.out.2.size (fun k' j hk' hh => ?_))⟩
        have := hh.1; omega
      clear h1 h2 h3 HK HN
      go_wp2
      go_roundw
      case rel => exact ⟨k + 1, by go_num, by omega, HF.out⟩
      case measure => simp [intOf]; omega
    · have HF : Hid (L.take k = L) := List.take_of_length_le (by omega)
      rw [HF.out] at HK
      go_wp2_with fail
      refine (now_any w.heap.size (catL L) wr HK.out.1).mono ?_
      rintro e w1 ⟨rfl, hw⟩
      subst hw
      go_wp2
      go_ret
      exact ⟨rfl, HK.out.2⟩
theorem of_one (s : ByteArray) (w w0 : World) (hT : Tabs w0) (hw : w = w0.alloc (.cells #[.string s] 9)) (hs : s.size ≤ 1000000) (n : Nat) (hn : n = w0.heap.size) :
    Calls Tryd.prog 10 #[.slice (some ⟨n, 0, none⟩) 1 1] w fun e w' => e = .returned (.int .u32 ((sumI (bytesL s) : Nat) : Int)) ∧ Below w0.heap.size w0 w' := by
  subst hw
  have hb : Below w0.heap.size w0 (w0.alloc (.cells #[.string s] 9)) := (Below.refl _ _).alloc (Nat.le_refl _) _
  refine (of_any _ 1 1 [s] _ (hT.below hb) (strRow_one w0 s _ hn) rfl (by decide) (fun x hx => by simp at hx; subst hx; exact hs)).mono ?_
  rintro e w1 ⟨rfl, h1⟩
  exact ⟨by rw [catL_one], below_two hb h1⟩
set_option maxHeartbeats 1000000 in
theorem is_any (s : ByteArray) (x : Nat) (w : World) (hT : Tabs w) (hs : s.size ≤ 1000000) (hx : x < 4294967296) :
    Calls Tryd.prog 11 #[.string s, .int .u32 (x : Int)] w fun e w' => e = .returned (.bool (decide (sumI (bytesL s) = x))) ∧ Below w.heap.size w w' := by
  have HT : Hid (Tabs w) := hT
  clear hT
  have HE : Hid ((((sumI (bytesL s) : Nat) : Int) == (x : Int)) = decide (sumI (bytesL s) = x)) := by
    show _ = _
    by_cases h : sumI (bytesL s) = x
    · rw [decide_eq_true h, h]; simp
    · rw [decide_eq_false h]; simp; omega
  go_enter Tryd.func11, Tryd.ntmps11
  go_wp2_with fail
  refine (of_one s _ w HT.out rfl hs _ rfl).mono ?_
  rintro e w1 ⟨rfl, h1⟩
  go_wp2
  go_ret
  exact ⟨ret_bool HE.out, h1⟩
/-! ### A number's four bytes -/
/-- The four bytes, as a walk leaves them. -/
def fourV (x : Nat) : List Int := [(x : Int) % 256, (x : Int) / 256 % 256, (x : Int) / 65536 % 256, (x : Int) / 16777216]
theorem fourV_eq (x : Nat) : fourV x = fourI x := rfl
theorem four_run (x : Nat) (w : World) : (convert 38 9 (.slice (some ⟨w.heap.size, 0, none⟩) 4 4)).run Tryd.prog (w.alloc (.cells #[.int .u8 ((x : Int) % 256), .int .u8 ((x : Int) / 256 % 256), .int .u8 ((x : Int) / 65536 % 256), .int .u8 ((x : Int) / 16777216)] 5)) =
    .ok (.string (strOf (fourI x))) (w.alloc (.cells #[.int .u8 ((x : Int) % 256), .int .u8 ((x : Int) / 256 % 256), .int .u8 ((x : Int) / 65536 % 256), .int .u8 ((x : Int) / 16777216)] 5)) := by
  rw [← fourV_eq]
  exact run_string _ _ 4 4 (fourV x) (row_new .u8 w (fourV x) 5 _ rfl) rfl
set_option maxHeartbeats 1000000 in
theorem four_any (x : Nat) (w : World) (hx : x < 4294967296) :
    Calls Tryd.prog 14 #[.int .u32 (x : Int)] w fun e w' => e = .returned (.string (strOf (fourI x))) ∧ Below w.heap.size w w' := by
  have hcv := four_run x w
  go_enter Tryd.func14, Tryd.ntmps14
  go_wp2
  go_ret
  exact ⟨rfl, (Below.refl _ _).alloc (Nat.le_refl _) _⟩
set_option maxHeartbeats 1000000 in
theorem rFour_any (x : Nat) (w : World) (hx : x < 4294967296) :
    Calls Tryd.prog 15 #[.int .u32 (x : Int)] w fun e w' => e = .returned (.string (strOf (fourI x))) ∧ Below w.heap.size w w' := by
  have hcv := four_run x w
  go_enter Tryd.func15, Tryd.ntmps15
  go_wp2
  go_ret
  exact ⟨rfl, (Below.refl _ _).alloc (Nat.le_refl _) _⟩
/-- The number that the first four bytes are; 0, if there are fewer. -/
def numI (l : List Int) : Nat := if l.length < 4 then 0 else T (bitsB (l.take 4))
theorem or_low (i x y : Nat) (hx : x < 2 ^ i) (hy : y % 2 ^ i = 0) (hx2 : x < 4294967296) (hy2 : y < 4294967296) : bits .or .u32 (x : Int) (y : Int) = ((y + x : Nat) : Int) := by
  rw [u32_or_nat x y hx2 hy2, Nat.or_comm, nat_join i y x hy hx]
theorem join4 (a b c d : Nat) (ha : a < 256) (hb : b < 256) (hc : c < 256) (hd : d < 256) :
    bits .or .u32 (bits .or .u32 (bits .or .u32 ((a : Int) % 4294967296) ((b : Int) % 4294967296 * 256 % 4294967296)) ((c : Int) % 4294967296 * 65536 % 4294967296)) ((d : Int) % 4294967296 * 16777216 % 4294967296) = ((16777216 * d + (65536 * c + (256 * b + a)) : Nat) : Int) := by
  rw [show (a : Int) % 4294967296 = (a : Int) by omega, show (b : Int) % 4294967296 * 256 % 4294967296 = ((256 * b : Nat) : Int) by omega, show (c : Int) % 4294967296 * 65536 % 4294967296 = ((65536 * c : Nat) : Int) by omega, show (d : Int) % 4294967296 * 16777216 % 4294967296 = ((16777216 * d : Nat) : Int) by omega]
  rw [or_low 8 a (256 * b) (by omega) (by omega) (by omega) (by omega), or_low 16 (256 * b + a) (65536 * c) (by omega) (by omega) (by omega) (by omega), or_low 24 (65536 * c + (256 * b + a)) (16777216 * d) (by omega) (by omega) (by omega) (by omega)]
theorem take_four {l : List Int} (h : 4 ≤ l.length) : l.take 4 = [nth l 0, nth l 1, nth l 2, nth l 3] := by
  match l, h with
  | a :: b :: c :: d :: r, _ => rfl
theorem num_four {s : ByteArray} (i0 : 0 < s.size) (i1 : 1 < s.size) (i2 : 2 < s.size) (i3 : 3 < s.size) : 16777216 * s[3].toNat + (65536 * s[2].toNat + (256 * s[1].toNat + s[0].toNat)) = numI (bytesL s) := by
  have hl := bytesL_length s
  unfold numI
  rw [if_neg (by omega), take_four (by omega), ← str_nth s 0 i0, ← str_nth s 1 i1, ← str_nth s 2 i2, ← str_nth s 3 i3]
  have h0 := s[0].toNat_lt
  have h1 := s[1].toNat_lt
  have h2 := s[2].toNat_lt
  have h3 := s[3].toNat_lt
  have := four_T (a := (s[0].toNat : Int)) (b := (s[1].toNat : Int)) (c := (s[2].toNat : Int)) (d := (s[3].toNat : Int)) (by omega) (by omega) (by omega) (by omega)
  omega
theorem ret_u32 {a b : Int} (h : a = b) : Ending.returned (.int .u32 a) = .returned (.int .u32 b) := by rw [h]
set_option maxHeartbeats 1000000 in
theorem num_any (s : ByteArray) (w : World) (hs : s.size ≤ 1000000) :
    Calls Tryd.prog 16 #[.string s] w fun e w' => e = .returned (.int .u32 ((numI (bytesL s) : Nat) : Int)) ∧ ∃ n, w' = w.drewN n := by
  by_cases h : s.size < 4
  · have i1 : (s.size : Int) < 4 := by omega
    have HE : Hid (numI (bytesL s) = 0) := by show _ = _; unfold numI; rw [if_pos (by rw [bytesL_length]; exact h)]
    rw [HE.out]
    go_enter Tryd.func16, Tryd.ntmps16
    go_wp2
    go_ret
    exact ⟨rfl, 0, rfl⟩
  · have i0 : 0 < s.size := by omega
    have i1 : 1 < s.size := by omega
    have i2 : 2 < s.size := by omega
    have i3 : 3 < s.size := by omega
    have j1 : (1 : Int) < (s.size : Int) := by omega
    have j2 : (2 : Int) < (s.size : Int) := by omega
    have j3 : (3 : Int) < (s.size : Int) := by omega
    have HE : Hid (bits .or .u32 (bits .or .u32 (bits .or .u32 ((s[0].toNat : Int) % 4294967296) ((s[1].toNat : Int) % 4294967296 * 256 % 4294967296)) ((s[2].toNat : Int) % 4294967296 * 65536 % 4294967296)) ((s[3].toNat : Int) % 4294967296 * 16777216 % 4294967296) = ((numI (bytesL s) : Nat) : Int)) := by
      show _ = _
      rw [join4 _ _ _ _ s[0].toNat_lt s[1].toNat_lt s[2].toNat_lt s[3].toNat_lt, num_four i0 i1 i2 i3]
    go_enter Tryd.func16, Tryd.ntmps16
    go_wp2
    go_region
    go_wp2
    go_ret
    exact ⟨ret_u32 HE.out, 1, rfl⟩
end Crc
end Go.Proofs.YtlgblkhkohhhkaaDoor
