/-
  The sum of three texts of one length, xored byte by byte, is their three sums, xored: the statement CrcLinear is proved, for every input. The condition is the card's own: the listed table is as the program's text lays it.
-/
import Derived.Test.YtlgblkhkohhhkaaDoorCrcTab
import Derived.Test.YtlgblkhkohhhkaaDoorCrcAwk
import Derived.Test.YtlgblkhkohhhkaaDoorMemStep
import Derived.Test.YtlgblkhkohhhkaaDoorRegI
import Derived.Deep.CutBlock
import Derived.Deep.DeepCutAuto
namespace Go.Proofs.YtlgblkhkohhhkaaDoor
open Go.ChangeShapes Go.WideShapes Go.ChangeAt Go.RowKit
open Go.ChangeMaps (open_string shut_string)
namespace crcLinear
open Bas Txt Crc
set_option linter.unusedVariables false

theorem run_min3 {P : Program} (w : World) (ts : Array TypeId) (t : TypeId) (x y z n : Nat) (h : n = min (min x y) z) :
    (Builtin.min_ ts t #[.int .i64 x, .int .i64 y, .int .i64 z]).run P w = .ok (.int .i64 (n : Int)) w := by
  simp [Builtin.min_, Builtin.min2]
  split <;> split <;> omega
/-- The bytes so far: the program's own, in new memory. -/
def OutV (w wr : World) (o : Value) (t : List Int) : Prop := Seg .u8 wr o t ∧ (∀ g, o.ownBlock = some g → w.heap.size ≤ g) ∧ Below w.heap.size w wr
theorem OutV.below {w wr w2 : World} {o : Value} {t : List Int} (h : OutV w wr o t) (b : Below wr.heap.size wr w2) : OutV w w2 o t :=
  ⟨h.1.chg (chg_of_below b (Nat.le_refl _) (fun _ _ => False)) (fun _ _ _ h => h), h.2.1, below_two h.2.2 b⟩
theorem OutV.app {w wr w2 w3 : World} {o o' : Value} {t t' : List Int} (h : OutV w wr o t) (b : Below wr.heap.size wr w2) (hs : Seg .u8 w3 o' t') (hc : Chg (fun b _ => o.ownBlock = some b) w2 w3) (hm : Mov w2 o o') : OutV w w3 o' t' := by
  have hz := h.2.2.size
  have hb := below_two h.2.2 b
  refine ⟨hs, fun g hg => ?_, hb.trans (hc.below (by have := b.size; omega) (fun k j hk hh => by have := h.2.1 k hh; omega))⟩
  rcases hm g hg with e | e
  · exact h.2.1 g e
  · have := b.size; omega
/-- The bytes, xored. -/
def mixL (a b c : ByteArray) (n : Nat) : List Int := List.zipWith xorI (List.zipWith xorI ((bytesL a).take n) ((bytesL b).take n)) ((bytesL c).take n)
theorem mix_len {a b c : ByteArray} {n : Nat} (ha : n ≤ a.size) (hb : n ≤ b.size) (hc : n ≤ c.size) : (mixL a b c n).length = n := by
  have h1 := bytesL_length a
  have h2 := bytesL_length b
  have h3 := bytesL_length c
  unfold mixL; simp [h1, h2, h3]; omega
theorem mix_nth {a b c : ByteArray} {n k : Nat} (ha : n ≤ a.size) (hb : n ≤ b.size) (hc : n ≤ c.size) (hk : k < n) : nth (mixL a b c n) k = xorI (xorI (nth (bytesL a) k) (nth (bytesL b) k)) (nth (bytesL c) k) := by
  have h1 := bytesL_length a
  have h2 := bytesL_length b
  have h3 := bytesL_length c
  have e1 : (bytesL a)[k]? = some (nth (bytesL a) k) := by unfold nth; rw [List.getElem?_eq_getElem (by omega)]; rfl
  have e2 : (bytesL b)[k]? = some (nth (bytesL b) k) := by unfold nth; rw [List.getElem?_eq_getElem (by omega)]; rfl
  have e3 : (bytesL c)[k]? = some (nth (bytesL c) k) := by unfold nth; rw [List.getElem?_eq_getElem (by omega)]; rfl
  have : (mixL a b c n)[k]? = some (xorI (xorI (nth (bytesL a) k) (nth (bytesL b) k)) (nth (bytesL c) k)) := by
    unfold mixL
    rw [List.getElem?_zipWith, List.getElem?_zipWith, List.getElem?_take_of_lt hk, List.getElem?_take_of_lt hk, List.getElem?_take_of_lt hk, e1, e2, e3]
  unfold nth at this ⊢
  rw [this]; rfl
theorem ext_low (U : ByteArray) (n : Nat) : bytesL (U.extract 0 n) = (bytesL U).take n := by
  unfold bytesL
  rw [ByteArray.data_extract, Array.toList_extract, List.extract_eq_take_drop, List.map_take, List.map_drop]
  simp
theorem mix_byte (a b c : ByteArray) (n : Nat) : ∀ x ∈ mixL a b c n, 0 ≤ x ∧ x < 256 := by
  intro x hx
  unfold mixL at hx
  obtain ⟨i, hi, rfl⟩ := List.getElem_of_mem hx
  rw [List.getElem_zipWith, List.getElem_zipWith]
  have h1 := bytesL_byte a
  have h2 := bytesL_byte b
  have h3 := bytesL_byte c
  exact xorI_byte (xorI_byte (h1 _ (List.mem_of_mem_take (List.getElem_mem _))) (h2 _ (List.mem_of_mem_take (List.getElem_mem _)))) (h3 _ (List.mem_of_mem_take (List.getElem_mem _)))
/-- What the law says, of the lists. -/
theorem mix_sum {a b c : ByteArray} {n : Nat} (ha : n ≤ a.size) (hb : n ≤ b.size) (hc : n ≤ c.size) :
    sumI (bytesL (strOf (mixL a b c n))) = sumI (bytesL (a.extract 0 n)) ^^^ sumI (bytesL (b.extract 0 n)) ^^^ sumI (bytesL (c.extract 0 n)) := by
  have h1 := bytesL_length a
  have h2 := bytesL_length b
  have h3 := bytesL_length c
  rw [bytesL_strOf _ (mix_byte a b c n), ext_low, ext_low, ext_low]
  exact sum_three (by simp; omega) (by simp; omega) (fun x hx => (bytesL_byte a x (List.mem_of_mem_take hx)).1) (fun x hx => (bytesL_byte b x (List.mem_of_mem_take hx)).1) (fun x hx => (bytesL_byte c x (List.mem_of_mem_take hx)).1)
def sm (a b c : ByteArray) (n : Nat) : Nat := sumI (bytesL (strOf (mixL a b c n)))
def sx (s : ByteArray) (n : Nat) : Nat := sumI (bytesL (s.extract 0 n))
/-- What the slots of the last region come to. -/
def cst (a b c : ByteArray) (n : Nat) (o : Value) : Nat → Option Value
  | 0 => some (.string a) | 1 => some (.string b) | 2 => some (.string c) | 7 => some (.int .i64 n) | 8 => some o
  | 44 => some o | 45 => some (.string (strOf (mixL a b c n))) | 47 => some (.int .u32 (sm a b c n : Nat))
  | 48 => some (.string a) | 49 => some (.int .i64 n) | 50 => some (.string (a.extract 0 n)) | 52 => some (.int .u32 (sx a n : Nat))
  | 53 => some (.string b) | 54 => some (.int .i64 n) | 55 => some (.string (b.extract 0 n)) | 57 => some (.int .u32 (sx b n : Nat))
  | 58 => some (.int .u32 ((sx a n ^^^ sx b n : Nat) : Int))
  | 59 => some (.string c) | 60 => some (.int .i64 n) | 61 => some (.string (c.extract 0 n)) | 63 => some (.int .u32 (sx c n : Nat))
  | 64 => some (.int .u32 (sm a b c n : Nat)) | 65 => some (.bool true) | 6 => some (.bool true)
  | _ => none
def sls (a b c : ByteArray) (n : Nat) : Nat → Option ByteArray
  | 46 => some (strOf (mixL a b c n)) | 51 => some (a.extract 0 n) | 56 => some (b.extract 0 n) | 62 => some (c.extract 0 n)
  | _ => none
set_option maxHeartbeats 8000000 in
set_option maxRecDepth 100000 in
theorem walk (w : World) (hT : Crc.Tabs w) (a : ByteArray) (ha0 : a.size ≤ maxLen) (b : ByteArray) (hb0 : b.size ≤ maxLen) (c : ByteArray) (hc0 : c.size ≤ maxLen) :
    Calls Tryd.prog 7 #[.string a, .string b, .string c] w fun e w' => e = .returned (.bool true) ∧ Below w.heap.size w w' := by
  have HT : Hid (Crc.Tabs w) := hT
  obtain ⟨n, hn⟩ : ∃ n, n = min (min a.size b.size) c.size := ⟨_, rfl⟩
  have hna : n ≤ a.size := by omega
  have hnb : n ≤ b.size := by omega
  have hnc : n ≤ c.size := by omega
  have hmin := fun (w : World) ts t => run_min3 (P := Tryd.prog) w ts t a.size b.size c.size n hn
  clear hT ha0 hb0 hc0 hn
  go_enter Tryd.func7, Tryd.ntmps7
  go_wp2_with fail
  refine (awake_any w HT.out).mono ?_
  rintro e w1 ⟨rfl, b1⟩
  have H1 : Hid (Below w.heap.size w w1 ∧ Crc.Tabs w1) := ⟨b1, HT.out.below b1⟩
  clear b1 hmin
  by_cases hbig : n > 400
  · have i1 : (n : Int) > 400 := by omega
    go_wp2_with fail
    refine (awake_any w1 H1.out.2).mono ?_
    rintro e w2 ⟨rfl, b2⟩
    go_wp2
    go_ret
    exact ⟨rfl, below_two H1.out.1 b2⟩
  · have i1 : ¬ (n : Int) > 400 := by omega
    have HM : Hid ((mixL a b c n).length = n) := mix_len hna hnb hnc
    go_wp2
    go_loopw [8, 9] (fun o i wr => ∃ k : Nat, i = .int .i64 k ∧ k ≤ n ∧ OutV w1 wr o ((mixL a b c n).take k)) (fun _ i _ => n - (intOf i).toNat)
    case atStart => exact ⟨0, rfl, Nat.zero_le _, seg_empty _ _ _, fun g hg => by simp [Value.ownBlock] at hg; omega, (Below.refl _ _).alloc (Nat.le_refl _) _⟩
    case round =>
      obtain ⟨k, rfl, hk, hO⟩ := hrel
      have HO : Hid (OutV w1 wr u8 ((mixL a b c n).take k)) := hO
      clear hO
      by_cases hlt : k < n
      · have ka : k < a.size := by omega
        have kb : k < b.size := by omega
        have kc : k < c.size := by omega
        have hxa := (a[k]'ka).toNat_lt
        have hxb := (b[k]'kb).toNat_lt
        have hxc := (c[k]'kc).toNat_lt
        have hX1 := xorI_byte (a := ((a[k]'ka).toNat : Int)) (b := ((b[k]'kb).toNat : Int)) (by omega) (by omega)
        have e1 : bits .xor .u8 ((a[k]'ka).toNat : Int) ((b[k]'kb).toNat : Int) = xorI ((a[k]'ka).toNat : Int) ((b[k]'kb).toNat : Int) := u8_xor _ _ (by omega) (by omega) (by omega) (by omega)
        have e2 : bits .xor .u8 (xorI ((a[k]'ka).toNat : Int) ((b[k]'kb).toNat : Int)) ((c[k]'kc).toNat : Int) = xorI (xorI ((a[k]'ka).toNat : Int) ((b[k]'kb).toNat : Int)) ((c[k]'kc).toNat : Int) := u8_xor _ _ hX1.1 hX1.2 (by omega) (by omega)
        have HT2 : Hid ((mixL a b c n).take (k + 1) = (mixL a b c n).take k ++ [xorI (xorI ((a[k]'ka).toNat : Int) ((b[k]'kb).toNat : Int)) ((c[k]'kc).toNat : Int)] ∧ ((mixL a b c n).take k).length ≤ 400) := by
          refine ⟨?_, by rw [List.length_take]; omega⟩
          rw [take_snoc _ _ (by rw [HM.out]; exact hlt), mix_nth hna hnb hnc hlt, str_nth a k ka, str_nth b k kb, str_nth c k kc]
        obtain ⟨X1, hX1e⟩ : ∃ X1, xorI ((a[k]'ka).toNat : Int) ((b[k]'kb).toNat : Int) = X1 := ⟨_, rfl⟩
        rw [hX1e] at e1 e2 HT2
        obtain ⟨X, hXe⟩ : ∃ X, xorI X1 ((c[k]'kc).toNat : Int) = X := ⟨_, rfl⟩
        rw [hXe] at e2 HT2
        obtain ⟨t, ht⟩ : ∃ t, (mixL a b c n).take k = t := ⟨_, rfl⟩
        rw [ht] at HT2 HO
        have i3 : (k : Int) < (n : Int) := by omega
        have ja : (k : Int) < (a.size : Int) := by omega
        have jb : (k : Int) < (b.size : Int) := by omega
        have jc : (k : Int) < (c.size : Int) := by omega
        have j0 : (0 : Int) ≤ (k : Int) := by omega
        clear hX1 hX1e hXe ht hxa hxb hxc
        go_upto_region 8 with fail
        have hBd : Below wr.heap.size wr (wr.alloc (.cells #[.int .u8 X] 5)).drew := ((Below.refl _ _).alloc (Nat.le_refl _) _).drew
        have hsg := HO.out.below hBd
        have hrw : Row .u8 (wr.alloc (.cells #[.int .u8 X] 5)).drew (some ⟨wr.heap.size, 0, none⟩) [X] := (row_new .u8 wr [X] 5 _ rfl).mono ((Below.refl _ _).drew)
        go_region_held3 (fun w' => True) (exact trivial)
          ((refine step_append_seg (by rfl) _ _ 38 38 (by rfl) .u8 5 1 Tryd.underlying38 info_u8 u8 t [X] (by rfl) hsg.1 _ (by rfl) (src_row (l := [X]) Tryd.underlying38 hrw rfl (fun h => by cases h)) (by have := HT2.out.2; unfold maxLen; simp; omega) (by have := HT2.out.2; simp; omega) ?_; intro vo w4 hs4 hc4 hm4))
        all_goals
          have HF4 : Hid (OutV w1 w4 vo (t ++ [X])) := HO.out.app hBd hs4 hc4 hm4
          clear hBd hsg hrw hs4 hc4 hm4
          go_wp2
          go_roundw
          case rel => exact ⟨k + 1, by go_num, by omega, by rw [HT2.out.1]; exact HF4.out⟩
          case measure => simp [intOf]; omega
      · have HF : Hid ((mixL a b c n).take k = mixL a b c n) := List.take_of_length_le (by rw [HM.out]; omega)
        rw [HF.out] at HO
        obtain ⟨ao, co, hvo, hro, -⟩ := HO.out.1.form
        rw [HM.out] at hvo
        subst hvo
        have HB : Hid (Below w.heap.size w wr ∧ Crc.Tabs wr ∧ Row .u8 wr ao (mixL a b c n)) := ⟨below_two H1.out.1 HO.out.2.2, H1.out.2.below HO.out.2.2, hro⟩
        clear hro HO
        have hsum := mix_sum hna hnb hnc
        have HX : Hid (∀ g w' s, Below wr.heap.size wr w' → s.size ≤ 1000000 → w'.cell? ⟨g, 0, none⟩ = some (.string s) → Calls Tryd.prog 10 #[.slice (some ⟨g, 0, none⟩) 1 1] w' fun e w2 => e = .returned (.int .u32 ((sumI (bytesL s) : Nat) : Int)) ∧ Below w'.heap.size w' w2) := by
          intro g w' s hb hs hc
          refine (of_any _ 1 1 [s] w' (HB.out.2.1.below hb) ⟨g, 0, fun _ => rfl, fun i hi => ?_⟩ rfl (by decide) (fun x hx => by simp at hx; subst hx; exact hs)).mono ?_
          · have hi : i < 1 := hi
            obtain rfl : i = 0 := by omega
            exact hc
          · rintro e w2 ⟨rfl, h2⟩
            exact ⟨by rw [catL_one], h2⟩
        have HC : Hid (∀ w', Below wr.heap.size wr w' → (convert 38 9 (.slice ao n co)).run Tryd.prog w' = .ok (.string (strOf (mixL a b c n))) w') := fun w' hb => run_string w' ao n co _ (HB.out.2.2.mono hb) HM.out
        have HZ : Hid ((strOf (mixL a b c n)).size ≤ 1000000 ∧ (a.extract 0 n).size ≤ 1000000 ∧ (b.extract 0 n).size ≤ 1000000 ∧ (c.extract 0 n).size ≤ 1000000) := by
          refine ⟨by rw [strOf_size, HM.out]; omega, ?_, ?_, ?_⟩ <;> (rw [ByteArray.size_extract]; omega)
        go_upto_region 9 with fail
        refine region_inv 66 [] (RC (cst a b c n (.slice ao n co)) (sls a b c n)) (fun w' => Below wr.heap.size wr w') rfl rfl (by kernel_rfl) (by kernel_rfl) rc_mono (fun w1 w2 h1 h2 => below_two h1 h2) ((Below.refl _ _).drew) ?h0 ?hl ?hend
        case h0 =>
          intro d hd
          refine ⟨fun u hu => ?_, fun s hs => ?_⟩
          · unfold cst at hu
            split at hu
            all_goals first | (cases hu; done) | (cases hu; rfl) | exact absurd (Eq.trans hd.symm (by kernel_rfl) : true = false) (by decide)
          · unfold sls at hs
            split at hs
            all_goals first | (cases hs; done) | exact absurd (Eq.trans hd.symm (by kernel_rfl) : true = false) (by decide)
        case hl =>
          have j0 : (0 : Int) ≤ (n : Int) := by omega
          have ja : (n : Int) ≤ (a.size : Int) := by omega
          have jb : (n : Int) ≤ (b.size : Int) := by omega
          have jc : (n : Int) ≤ (c.size : Int) := by omega
          have x1 : bits .xor .u32 ((sx a n : Nat) : Int) ((sx b n : Nat) : Int) = ((sx a n ^^^ sx b n : Nat) : Int) := u32_xor_nat _ _ (sumI_lt _) (sumI_lt _)
          have x2 : bits .xor .u32 ((sx a n ^^^ sx b n : Nat) : Int) ((sx c n : Nat) : Int) = ((sm a b c n : Nat) : Int) := by
            rw [u32_xor_nat (sx a n ^^^ sx b n) (sx c n) (Nat.xor_lt_two_pow (n := 32) (sumI_lt _) (sumI_lt _)) (sumI_lt _)]
            exact congrArg Int.ofNat hsum.symm
          refine And.intro (reg_cst 44 _ rfl (by decide) rfl rfl rfl (fun f w' hG hf => by have e1 := hf 8 _ (by kernel_rfl) (by decide) rfl; go_simp)) ?_
          refine And.intro (reg_cst 45 _ rfl (by decide) rfl rfl rfl (fun f w' hG hf => by have e44 := hf 44 _ (by kernel_rfl) (by decide) rfl; have e0 := HC.out w' hG; go_simp)) ?_
          refine And.intro (reg_one 46 _ 9 rfl (by decide) rfl rfl rfl (fun f w' hG hf => by have e1 := hf 45 _ (by kernel_rfl) (by decide) rfl; go_simp)) ?_
          refine And.intro (reg_call 47 46 10 _ _ rfl (by decide) rfl rfl rfl (by kernel_rfl) (by decide) rfl (fun f w' => by go_simp) (fun g w' hG hc => HX.out g w' _ hG HZ.out.1 hc)) ?_
          refine And.intro (reg_cst 48 _ rfl (by decide) rfl rfl rfl (fun f w' hG hf => by have e1 := hf 0 _ (by kernel_rfl) (by decide) rfl; go_simp)) ?_
          refine And.intro (reg_cst 49 _ rfl (by decide) rfl rfl rfl (fun f w' hG hf => by have e1 := hf 7 _ (by kernel_rfl) (by decide) rfl; go_simp)) ?_
          refine And.intro (reg_cst 50 _ rfl (by decide) rfl rfl rfl (fun f w' hG hf => by have e48 := hf 48 _ (by kernel_rfl) (by decide) rfl; have e49 := hf 49 _ (by kernel_rfl) (by decide) rfl; go_simp)) ?_
          refine And.intro (reg_one 51 _ 9 rfl (by decide) rfl rfl rfl (fun f w' hG hf => by have e1 := hf 50 _ (by kernel_rfl) (by decide) rfl; go_simp)) ?_
          refine And.intro (reg_call 52 51 10 _ _ rfl (by decide) rfl rfl rfl (by kernel_rfl) (by decide) rfl (fun f w' => by go_simp) (fun g w' hG hc => HX.out g w' _ hG HZ.out.2.1 hc)) ?_
          refine And.intro (reg_cst 53 _ rfl (by decide) rfl rfl rfl (fun f w' hG hf => by have e1 := hf 1 _ (by kernel_rfl) (by decide) rfl; go_simp)) ?_
          refine And.intro (reg_cst 54 _ rfl (by decide) rfl rfl rfl (fun f w' hG hf => by have e1 := hf 7 _ (by kernel_rfl) (by decide) rfl; go_simp)) ?_
          refine And.intro (reg_cst 55 _ rfl (by decide) rfl rfl rfl (fun f w' hG hf => by have e53 := hf 53 _ (by kernel_rfl) (by decide) rfl; have e54 := hf 54 _ (by kernel_rfl) (by decide) rfl; go_simp)) ?_
          refine And.intro (reg_one 56 _ 9 rfl (by decide) rfl rfl rfl (fun f w' hG hf => by have e1 := hf 55 _ (by kernel_rfl) (by decide) rfl; go_simp)) ?_
          refine And.intro (reg_call 57 56 10 _ _ rfl (by decide) rfl rfl rfl (by kernel_rfl) (by decide) rfl (fun f w' => by go_simp) (fun g w' hG hc => HX.out g w' _ hG HZ.out.2.2.1 hc)) ?_
          refine And.intro (reg_cst 58 _ rfl (by decide) rfl rfl rfl (fun f w' hG hf => by have e52 := hf 52 _ (by kernel_rfl) (by decide) rfl; have e57 := hf 57 _ (by kernel_rfl) (by decide) rfl; go_simp)) ?_
          refine And.intro (reg_cst 59 _ rfl (by decide) rfl rfl rfl (fun f w' hG hf => by have e1 := hf 2 _ (by kernel_rfl) (by decide) rfl; go_simp)) ?_
          refine And.intro (reg_cst 60 _ rfl (by decide) rfl rfl rfl (fun f w' hG hf => by have e1 := hf 7 _ (by kernel_rfl) (by decide) rfl; go_simp)) ?_
          refine And.intro (reg_cst 61 _ rfl (by decide) rfl rfl rfl (fun f w' hG hf => by have e59 := hf 59 _ (by kernel_rfl) (by decide) rfl; have e60 := hf 60 _ (by kernel_rfl) (by decide) rfl; go_simp)) ?_
          refine And.intro (reg_one 62 _ 9 rfl (by decide) rfl rfl rfl (fun f w' hG hf => by have e1 := hf 61 _ (by kernel_rfl) (by decide) rfl; go_simp)) ?_
          refine And.intro (reg_call 63 62 10 _ _ rfl (by decide) rfl rfl rfl (by kernel_rfl) (by decide) rfl (fun f w' => by go_simp) (fun g w' hG hc => HX.out g w' _ hG HZ.out.2.2.2 hc)) ?_
          refine And.intro (reg_cst 64 _ rfl (by decide) rfl rfl rfl (fun f w' hG hf => by have e58 := hf 58 _ (by kernel_rfl) (by decide) rfl; have e63 := hf 63 _ (by kernel_rfl) (by decide) rfl; go_simp)) ?_
          refine And.intro (reg_cst 65 _ rfl (by decide) rfl rfl rfl (fun f w' hG hf => by have e47 := hf 47 _ (by kernel_rfl) (by decide) rfl; have e64 := hf 64 _ (by kernel_rfl) (by decide) rfl; go_simp)) ?_
          refine And.intro (reg_cst 6 _ rfl (by decide) rfl rfl rfl (fun f w' hG hf => by have e1 := hf 65 _ (by kernel_rfl) (by decide) rfl; go_simp)) ?_
          exact trivial
        case hend =>
          intro f w' hG hf
          have e6 : f 6 = .bool true := (hf 6).1 _ rfl
          show Exit.then _ _ .normal { tmps := #[f 0, f 1, f 2, f 3, f 4, f 5, f 6, f 7, f 8, f 9, f 10, f 11, f 12, f 13, f 14, f 15, f 16, f 17, f 18, f 19, f 20, f 21, f 22, f 23, f 24, f 25, f 26, f 27, f 28, f 29, f 30, f 31, f 32, f 33, f 34, f 35, f 36, f 37, f 38, f 39, f 40, f 41, f 42, f 43, f 44, f 45, f 46, f 47, f 48, f 49, f 50, f 51, f 52, f 53, f 54, f 55, f 56, f 57, f 58, f 59, f 60, f 61, f 62, f 63, f 64, f 65], defers := [] } w'
          rw [e6]
          clear hf e6
          go_wp2
          go_ret
          exact ⟨rfl, below_two HB.out.1 hG⟩
theorem reads (os : Os) {H : Type} (enc : TypeId × Value → H) : ∃ places, DataW.whole enc Tryd.prog ((({ World.holding Tryd.prog os ⟨#[], #[], []⟩ with heap := (World.holding Tryd.prog os ⟨#[], #[], []⟩).heap.modify 0 Crc.lay0 } : World)).forCall (fun _ _ => 0) ⟨#[], #[.string ByteArray.empty, .string ByteArray.empty, .string ByteArray.empty], []⟩).memory Tryd.f7.params.toList Rows.crcLinearSpec.vars false #[.string ByteArray.empty, .string ByteArray.empty, .string ByteArray.empty].toList 8 = some ([.lit (.string []), .lit (.string []), .lit (.string [])], [], places) :=
  ⟨[], by kernel_rfl⟩
set_option maxRecDepth 100000 in
theorem lifted (os : Os) (started : os.Started) (H : Type) (enc : TypeId × Value → H) (Fi : Stop.Interp) :
    ReturnsInHanded {} Tryd.checked os 7 .any ((OpenSpec.ofChange Rows.crcLinearSpec).preRow enc Tryd.prog Tryd.f7 Rows.crcLinearRow.domain false Rows.crcLinearRow.laid) (((OpenSpec.ofChange Rows.crcLinearSpec).at Fi).post enc Tryd.prog Tryd.f7 false true false false) := by
  obtain ⟨places, hx⟩ := reads os enc
  refine returnsInHanded_of_row (C := Tryd.checked) (s := OpenSpec.ofChange Rows.crcLinearSpec) Bas.own started (by kernel_rfl) Tryd.func7
    (witness_row_at (enc := enc) (C := Tryd.checked) false (({ World.holding Tryd.prog os ⟨#[], #[], []⟩ with heap := (World.holding Tryd.prog os ⟨#[], #[], []⟩).heap.modify 0 Crc.lay0 } : World)) #[.string ByteArray.empty, .string ByteArray.empty, .string ByteArray.empty] rfl (by kernel_rfl) (by kernel_rfl) (by kernel_rfl)
      (OpenSpec.preRow_of_cond 8 hx (by kernel_rfl) (fun k hk => by cases hk) (by kernel_rfl) (Crc.laid_met os _))) ?_
  intro W base args ds gs before hval0 hW _ _ _ hL hSh _
  have hval : ∀ (j : Nat) t v, Tryd.f7.params[j]? = some t → args[j]? = some v → Value.okWide Tryd.prog W .any base t v := hval0
  have hW' := hW
  obtain ⟨p, q, hA0, hV, rfl, hfz, hnd⟩ := hW
  have hA : DataW.TrodAll enc Tryd.prog W 0 (fun _ => true) true Tryd.f7.params.toList args.toList ds p := hA0
  rw [Tryd.params7] at hA hval
  obtain ⟨v0, vs0, d0, ds0, p0, q0, hargs, rfl, rfl, h0, r0⟩ := trodAll_cons hA
  obtain ⟨v1, vs1, d1, ds1, p1, q1, rfl, rfl, rfl, h1, r1⟩ := trodAll_cons r0
  obtain ⟨v2, vs2, d2, ds2, p2, q2, rfl, rfl, rfl, h2, r2⟩ := trodAll_cons r1
  obtain ⟨rfl, rfl, rfl⟩ := trodAll_nil r2
  obtain rfl : args = #[v0, v1, v2] := by cases args; simp_all
  obtain ⟨rfl, rfl⟩ := trodVars_none hV
  have k0 := h0
  have lt0 : ∀ x ∈ p0, x.block < W.heap.size := by obtain ⟨m, hm⟩ := k0; exact DataW.trod_lt m _ _ _ hm
  have k1 := h1
  have lt1 : ∀ x ∈ p1, x.block < W.heap.size := by obtain ⟨m, hm⟩ := k1; exact DataW.trod_lt m _ _ _ hm
  have k2 := h2
  have lt2 : ∀ x ∈ p2, x.block < W.heap.size := by obtain ⟨m, hm⟩ := k2; exact DataW.trod_lt m _ _ _ hm
  obtain ⟨a0, rfl, rfl, rfl, w0⟩ := open_string Tryd.underlying9 (hval 0 9 v0 rfl rfl) h0
  obtain ⟨a1, rfl, rfl, rfl, w1⟩ := open_string Tryd.underlying9 (hval 1 9 v1 rfl rfl) h1
  obtain ⟨a2, rfl, rfl, rfl, w2⟩ := open_string Tryd.underlying9 (hval 2 9 v2 rfl rfl) h2
  refine (walk W (Crc.tabs_of hL hSh) a0 w0 a1 w1 a2 w2).mono fun e W' ⟨he, bel⟩ => ?_
  subst he
  exact ⟨_, rfl, _, _, _, [], _, [], hW', trodAll_mk1 (shut_bool Tryd.underlying4 _), (trodAll_cons_mk (Below.trod Bas.laidOut (by kernel_rfl) (of_decide_eq_true (by kernel_rfl)) k0 bel lt0) (trodAll_cons_mk (Below.trod Bas.laidOut (by kernel_rfl) (of_decide_eq_true (by kernel_rfl)) k1 bel lt1) (trodAll_cons_mk (Below.trod Bas.laidOut (by kernel_rfl) (of_decide_eq_true (by kernel_rfl)) k2 bel lt2) trodAll_mk0))), rfl, bel.frame _, fun h => by cases h⟩


theorem over : Rows.crcLinearRow.holds Tryd.pinned (OpenSpec.ofChange Rows.crcLinearSpec) :=
  OpenClaim.holds_of_cond 7 Tryd.f7 rfl rfl rfl rfl rfl rfl rfl ⟨rfl, rfl, rfl, rfl, rfl⟩ rfl rfl rfl rfl rfl (by kernel_rfl) Tryd.func7 (by kernel_rfl)
    (of_decide_eq_true (by kernel_rfl)) (by unfold Func.isWrapper; first | (rw [if_pos (by decide +kernel)]; kernel_rfl) | (rw [if_neg (by decide +kernel)]; exact ⟨rfl, rfl⟩))
    (fun os started H enc _ Fi => by rw [OpenClaim.pre_eq_preRow]; exact lifted os started H enc Fi)
theorem plain (f : FuncId) (fn : Func) (hf : Tryd.pinned.checked.prog.funcNamed Rows.crcLinearRow.func = some f) (hfn : Tryd.pinned.checked.prog.funcs[f]? = some fn) :
    false = Tryd.pinned.checked.prog.looks [] ∧ ∀ (j : Nat) t, fn.params[j]? = some t → Tryd.pinned.checked.prog.wantsStandIn t = false := by
  obtain rfl : f = 7 := Option.some.inj ((show Tryd.prog.funcNamed Rows.crcLinearRow.func = some 7 by kernel_rfl).symm.trans hf) |>.symm
  obtain rfl : fn = Tryd.f7 := (Option.some.inj (Tryd.func7.symm.trans hfn)).symm
  refine ⟨by kernel_rfl, fun j t ht => ?_⟩
  rw [Tryd.params7] at ht
  have hm : t ∈ [9, 9, 9] := by simpa using Array.mem_of_getElem? ht
  have hall : ([9, 9, 9].all fun u => !Tryd.prog.wantsStandIn u) = true := by kernel_rfl
  exact (show Tryd.prog.wantsStandIn t = false by simpa using List.all_eq_true.1 hall t hm)
end Go.Proofs.YtlgblkhkohhhkaaDoor.crcLinear
namespace Go.Proofs.YtlgblkhkohhhkaaDoor
/-- The statement: the tied card. -/
theorem crcLinear_proved : Rows.CrcLinearCardSaid :=
  Claim7.holds_tied_plain_at .later [] _ _ _ _ crcLinear.over (fun _ h => by cases h) (by kernel_rfl) (fun _ h => by cases h) crcLinear_row_tie rfl ⟨rfl, rfl⟩ (by kernel_rfl) rfl crcLinear.plain (by kernel_rfl)
end Go.Proofs.YtlgblkhkohhhkaaDoor
