/-
  The contract of the document's Begins of layer 6, as a walk over the translated text. The condition: one byte at least.
-/
import Derived.Test.YtjbgcclbomimiaaDoorM8Rd
import Derived.Test.YtjbgcclbomimiaaDoorM8Lst
import Derived.OwnWalk
namespace Go.Proofs.YtjbgcclbomimiaaDoor
open Go.ChangeShapes Go.WideShapes Go.ChangeAt Go.RowKit
namespace M8
open Bas Sca Stp Scn Cod
set_option linter.unusedVariables false

/-- The byte at a place of a text. -/
theorem byte_at {str : ByteArray} {q : List Int} (hq : bytesL str = q) {j : Nat} (hj : j < q.length) : ∃ h : j < str.size, ∃ m : Nat, (str[j]'h).toNat = m ∧ nth q j = m ∧ m < 256 := by
  subst hq
  have h : j < str.size := by rw [← bytesL_length]; exact hj
  refine ⟨h, (str[j]'h).toNat, rfl, (str_nth str j h).symm, ?_⟩
  have := bytesL_byte str _ (nth_mem hj)
  rw [← str_nth str j h] at this
  omega
theorem rowN_nth {q : List Int} (h : 1 ≤ q.length) : rowN q = rowB (nth q 0) := by
  match q, h with
  | a :: r, _ => rfl
theorem lackN_nth {q : List Int} (h : 1 ≤ q.length) : lackN q = rowB (nth q 0) + 1 - q.length := by
  match q, h with
  | a :: r, _ => show rowB a - r.length = rowB a + 1 - (r.length + 1); omega
/-- What is reckoned is between these. -/
theorem lohi_bd {q : List Int} {j : Nat} (hj : j ≤ 4) (hc : ∀ i, 1 ≤ i → i ≤ j → i < q.length → 160 ≤ nth q i ∧ nth q i ≤ 191) {m0 : Int} (hm : nth q 0 - leadN (rowN q) = m0) (h0 : 0 ≤ m0) :
    m0 * p32 j ≤ loR q j ∧ loR q j < (m0 + 1) * p32 j ∧ m0 * p32 j ≤ hiR q j ∧ hiR q j < (m0 + 1) * p32 j := by
  have d : ∀ i, 1 ≤ i → i ≤ j → (0 ≤ (if i < q.length then nth q i - 160 else 0) ∧ (if i < q.length then nth q i - 160 else 0) ≤ 31) ∧ (0 ≤ (if i < q.length then nth q i - 160 else 31) ∧ (if i < q.length then nth q i - 160 else 31) ≤ 31) := by
    intro i h1 h2
    by_cases h : i < q.length
    · have := hc i h1 h2 h
      rw [if_pos h, if_pos h]; omega
    · rw [if_neg h, if_neg h]; omega
  have l0 : loR q 0 = m0 := hm
  have u0 : hiR q 0 = m0 := hm
  have l1 : loR q 1 = loR q 0 * 32 + (if 1 < q.length then nth q 1 - 160 else 0) := rfl
  have l2 : loR q 2 = loR q 1 * 32 + (if 2 < q.length then nth q 2 - 160 else 0) := rfl
  have l3 : loR q 3 = loR q 2 * 32 + (if 3 < q.length then nth q 3 - 160 else 0) := rfl
  have l4 : loR q 4 = loR q 3 * 32 + (if 4 < q.length then nth q 4 - 160 else 0) := rfl
  have u1 : hiR q 1 = hiR q 0 * 32 + (if 1 < q.length then nth q 1 - 160 else 31) := rfl
  have u2 : hiR q 2 = hiR q 1 * 32 + (if 2 < q.length then nth q 2 - 160 else 31) := rfl
  have u3 : hiR q 3 = hiR q 2 * 32 + (if 3 < q.length then nth q 3 - 160 else 31) := rfl
  have u4 : hiR q 4 = hiR q 3 * 32 + (if 4 < q.length then nth q 4 - 160 else 31) := rfl
  have e0 : p32 0 = 1 := rfl
  have e1 : p32 1 = 32 := rfl
  have e2 : p32 2 = 1024 := rfl
  have e3 : p32 3 = 32768 := rfl
  have e4 : p32 4 = 1048576 := rfl
  have hcs : j = 0 ∨ j = 1 ∨ j = 2 ∨ j = 3 ∨ j = 4 := by omega
  rcases hcs with rfl | rfl | rfl | rfl | rfl
  · rw [e0]; omega
  · have d1 := d 1 (by omega) (by omega)
    rw [← Int.sub_eq_iff_eq_add'.2 l1, ← Int.sub_eq_iff_eq_add'.2 u1] at d1
    rw [e1]; omega
  · have d1 := d 1 (by omega) (by omega)
    have d2 := d 2 (by omega) (by omega)
    rw [← Int.sub_eq_iff_eq_add'.2 l1, ← Int.sub_eq_iff_eq_add'.2 u1] at d1
    rw [← Int.sub_eq_iff_eq_add'.2 l2, ← Int.sub_eq_iff_eq_add'.2 u2] at d2
    rw [e2]; omega
  · have d1 := d 1 (by omega) (by omega)
    have d2 := d 2 (by omega) (by omega)
    have d3 := d 3 (by omega) (by omega)
    rw [← Int.sub_eq_iff_eq_add'.2 l1, ← Int.sub_eq_iff_eq_add'.2 u1] at d1
    rw [← Int.sub_eq_iff_eq_add'.2 l2, ← Int.sub_eq_iff_eq_add'.2 u2] at d2
    rw [← Int.sub_eq_iff_eq_add'.2 l3, ← Int.sub_eq_iff_eq_add'.2 u3] at d3
    rw [e3]; omega
  · have d1 := d 1 (by omega) (by omega)
    have d2 := d 2 (by omega) (by omega)
    have d3 := d 3 (by omega) (by omega)
    have d4 := d 4 (by omega) (by omega)
    rw [← Int.sub_eq_iff_eq_add'.2 l1, ← Int.sub_eq_iff_eq_add'.2 u1] at d1
    rw [← Int.sub_eq_iff_eq_add'.2 l2, ← Int.sub_eq_iff_eq_add'.2 u2] at d2
    rw [← Int.sub_eq_iff_eq_add'.2 l3, ← Int.sub_eq_iff_eq_add'.2 u3] at d3
    rw [← Int.sub_eq_iff_eq_add'.2 l4, ← Int.sub_eq_iff_eq_add'.2 u4] at d4
    rw [e4]; omega
theorem tail_nth {q : List Int} : (∀ x ∈ q.tail, 160 ≤ x ∧ x ≤ 191) ↔ ∀ i, 1 ≤ i → i < q.length → 160 ≤ nth q i ∧ nth q i ≤ 191 := by
  match q with
  | [] => simp
  | a :: r =>
    constructor
    · intro h i h1 h2
      obtain ⟨j, rfl⟩ : ∃ j, i = j + 1 := ⟨i - 1, by omega⟩
      rw [nth_cons_succ]
      exact h _ (nth_mem (by simpa using h2))
    · intro h x hx
      have hx' : x ∈ r := hx
      obtain ⟨i, hi, rfl⟩ := List.mem_iff_getElem.1 hx'
      have := h (i + 1) (by omega) (by simp; omega)
      rw [nth_cons_succ] at this
      simpa [nth, hi] using this
theorem beg_not {q : List Int} (h : begN q = true → False) : begN q = false := by
  cases hb : begN q with
  | false => rfl
  | true => exact (h hb).elim
theorem beg_len {q : List Int} (h : ¬ q.length ≤ rowN q + 1) : begN q = false := beg_not fun hb => h (beg_iff.1 hb).2.1
theorem beg_tail {q : List Int} {i : Nat} (h1 : 1 ≤ i) (h2 : i < q.length) (h : ¬ (160 ≤ nth q i ∧ nth q i ≤ 191)) : begN q = false := beg_not fun hb => h (tail_nth.1 (beg_iff.1 hb).1 i h1 h2)
theorem beg_160 {q : List Int} (h1 : 1 ≤ q.length) (hlo : 160 ≤ nth q 0) (hhi : nth q 0 < 192) : begN q = false := beg_not fun hb => by
  obtain ⟨-, h2, h3⟩ := beg_iff.1 hb
  have hr : rowN q = 0 := by rw [rowN_nth h1]; exact (rowB_iff _).1.2 hhi
  match q, h1 with
  | [a], _ =>
    have hr' : rowB a = 0 := hr
    have hk : lackN [a] = 0 := by show rowB a - 0 = 0; omega
    rw [hr, hk, open_iff, bits_as hr'] at h3
    have e0 : p32 0 = 1 := rfl
    have el : leadN 0 = 0 := rfl
    rw [e0, el] at h3
    simp only [goN] at h3
    have := (rowC_iff ((a - 0) * 1 + (1 - 1))).1.1 h3.2
    have ha : nth [a] 0 = a := rfl
    omega
  | a :: b :: r, _ => rw [hr] at h2; simp at h2
theorem beg_252 {q : List Int} (h1 : 1 ≤ q.length) (hlo : 252 ≤ nth q 0) : begN q = false := beg_not fun hb => by
  obtain ⟨h, h2, h3⟩ := beg_iff.1 hb
  have hr : rowN q = 4 := by rw [rowN_nth h1]; exact (rowB_iff _).2.2.2.2.2 (by omega)
  have hne : q ≠ [] := by intro e; rw [e] at h1; simp at h1
  have hL := (lo_all hne h2).1
  have hb := lohi_bd (q := q) (j := 4) (Nat.le_refl _) (fun i i1 i2 i3 => tail_nth.1 h i i1 i3) rfl (by rw [hr]; show 0 ≤ nth q 0 - 248; omega)
  rw [hr] at hL hb
  have e4 : p32 4 = 1048576 := rfl
  have el : leadN 4 = 248 := rfl
  rw [e4, el] at hb
  have := (open_iff.1 h3).1.1
  omega
theorem goN_nn (r : List Int) (h : ∀ x ∈ r, 160 ≤ x ∧ x ≤ 191) (a : Int) (ha : 0 ≤ a) : 0 ≤ goN a r := by
  induction r generalizing a with
  | nil => exact ha
  | cons y r ih => exact ih (fun x hx => h x (by simp [hx])) _ (by have := h y (by simp); omega)
theorem goN_first {q : List Int} (hne : q ≠ []) (h : ∀ x ∈ q.tail, 160 ≤ x ∧ x ≤ 191) (h0 : 0 ≤ nth q 0 - leadN (rowN q)) : 0 ≤ bitsN q := by
  match q, hne with
  | a :: r, _ => exact goN_nn r h _ h0
theorem beg_open {q : List Int} (h : ∀ x ∈ q.tail, 160 ≤ x ∧ x ≤ 191) (hl : q.length ≤ rowN q + 1) : begN q = openP (bitsN q) (rowN q) (lackN q) := by
  unfold begN
  rw [List.all_eq_true.2 (fun x hx => cont_iff.2 (h x hx)), decide_eq_true hl]; simp
theorem p32_small {j : Nat} (h : j ≤ 3) : p32 j = 1 ∨ p32 j = 32 ∨ p32 j = 1024 ∨ p32 j = 32768 := by
  have : j = 0 ∨ j = 1 ∨ j = 2 ∨ j = 3 := by omega
  rcases this with rfl | rfl | rfl | rfl <;> decide
theorem bd_small {m0 A B p : Int} (h : m0 * p ≤ A ∧ A < (m0 + 1) * p ∧ m0 * p ≤ B ∧ B < (m0 + 1) * p) (hp : p = 1 ∨ p = 32 ∨ p = 1024 ∨ p = 32768) (hm : 0 ≤ m0 ∧ m0 < 32) : 0 ≤ A ∧ A < 1048576 ∧ 0 ≤ B ∧ B < 1048576 := by
  rcases hp with rfl | rfl | rfl | rfl <;> omega
/-- What Begins answers. -/
def BgnQ (q : List Int) (e : Ending) : Prop := ∃ c, e = .returned (.tuple #[.int .u32 c, .bool (begN q)]) ∧ (begN q = true → c = someLo (bitsN q * p32 (lackN q)) (rowN q + 1))
theorem bgn_no {q : List Int} (h : begN q = false) : BgnQ q (.returned (.tuple #[.int .u32 0, .bool false])) := ⟨0, by rw [h], fun e => by rw [h] at e; cases e⟩
set_option maxHeartbeats 4000000 in
set_option maxRecDepth 100000 in
theorem bgn0 (str : ByteArray) (q : List Int) (w : World) (hq : bytesL str = q) (h1 : 1 ≤ q.length) (hlo : 0 ≤ nth q 0) (hhi : nth q 0 < 160) :
    Calls Tryd.prog 51 #[.string str] w fun e w' => BgnQ q e ∧ Below w.heap.size w w' := by
  have hz : str.size = q.length := by rw [← hq, bytesL_length]
  have hrow : rowN q = 0 := by rw [rowN_nth h1]; have := rowB_iff (nth q 0); omega
  have hne : q ≠ [] := by intro e; rw [e] at h1; simp at h1
  obtain ⟨i0, m, e0, n0, l0⟩ := byte_at hq (j := 0) (by omega)
  have z0 : (0 : Int) < (str.size : Int) := by omega
  rw [n0] at hlo hhi
  have HM0 : Hid (nth q 0 - leadN (rowN q) = (m : Int) - 0) := by show _ = _; rw [hrow, n0]; rfl
  have HQ : Hid (bytesL str = q ∧ str.size = q.length ∧ rowN q = 0 ∧ q ≠ []) := ⟨hq, hz, hrow, hne⟩
  clear hq hrow hne n0 h1
  by_cases hlen : q.length ≤ 1
  · have hgt : ¬ (str.size : Int) > 1 := by omega
    go_enter Tryd.func51, Tryd.ntmps51
    go_wp2
    go_loopw [6, 7, 8] (fun lo hi i wr => ∃ j : Nat, i = .int .i64 ((j + 1 : Nat) : Int) ∧ j ≤ 0 ∧ lo = .int .u32 (loR q j) ∧ hi = .int .u32 (hiR q j) ∧ (∀ i, 1 ≤ i → i ≤ j → i < q.length → 160 ≤ nth q i ∧ nth q i ≤ 191) ∧ wr = w) (fun _ _ i _ => 1 - (intOf i).toNat)
    case atStart => exact ⟨0, by go_num, by omega, by rw [show loR q 0 = (m : Int) - 0 from HM0.out] <;> first | rfl | simp, by rw [show hiR q 0 = (m : Int) - 0 from HM0.out] <;> first | rfl | simp, fun i i1 i2 => by omega, rfl⟩
    case round =>
      obtain ⟨j, rfl, hj, rfl, rfl, hc, rfl⟩ := hrel
      have hbd := lohi_bd (q := q) (j := j) (by omega) hc HM0.out (by omega)
      by_cases hjr : j < 0
      · exfalso; omega
      · obtain rfl : j = 0 := by omega
        have htl : ∀ x ∈ q.tail, 160 ≤ x ∧ x ≤ 191 := tail_nth.2 (fun i i1 i2 => hc i i1 (by have := HQ.out.2.1; omega) i2)
        have hL := lo_all HQ.out.2.2.2 (by rw [HQ.out.2.2.1]; exact hlen)
        rw [HQ.out.2.2.1] at hL
        have e4 : p32 0 = 1 := rfl
        rw [e4] at hbd
        have hlk : lackN q ≤ 0 := by
          have h1 : 1 ≤ q.length := by have := HQ.out.2.2.2; exact List.length_pos_iff.2 this
          have := lackN_nth h1; have h3 := rowN_nth h1; have := HQ.out.2.2.1; omega
        have hb0 : 0 ≤ bitsN q := goN_first HQ.out.2.2.2 htl (by rw [HM0.out]; omega)
        have hod := open_doc (r := 0) (k := lackN q) (m := bitsN q) hlk (by omega) hb0 (by rw [← hL.2, show capN 0 = 160 from rfl]; omega)
        have hbg : begN q = decide (someLo (loR q 0) 1 ≤ someHi (hiR q 0) 1) := by
          rw [beg_open htl (by rw [HQ.out.2.2.1]; exact hlen), HQ.out.2.2.1, hod, hL.1, hL.2]
        have HBG : Hid (begN q = decide (someLo (loR q 0) 1 ≤ someHi (hiR q 0) 1) ∧ loR q 0 = bitsN q * p32 (lackN q)) := ⟨hbg, hL.1⟩
        obtain ⟨A, hA⟩ : ∃ A, loR q 0 = A := ⟨_, rfl⟩
        obtain ⟨B, hB⟩ : ∃ B, hiR q 0 = B := ⟨_, rfl⟩
        rw [hA, hB] at HBG hbd ⊢
        have hA0 : 0 ≤ A := by omega
        clear hbg hod hL htl hc hA hB hb0 hlk hbd hjr
        go_wp2_with fail
        refine (some1 A B _ hA0).mono ?_
        rintro e w2 ⟨rfl, b2⟩
        go_wp2
        go_ret2
        exact ⟨⟨someLo A 1, by rw [HBG.out.1]; rfl, fun _ => by rw [← HBG.out.2, HQ.out.2.2.1]⟩, b2⟩
  · have hgt : (str.size : Int) > 1 := by omega
    have HNO : Hid (begN q = false) := beg_len (by rw [HQ.out.2.2.1]; exact hlen)
    clear hlen
    go_enter Tryd.func51, Tryd.ntmps51
    go_wp2
    go_ret2
    exact ⟨bgn_no HNO.out, Below.refl _ _⟩
set_option maxHeartbeats 4000000 in
set_option maxRecDepth 100000 in
theorem bgn1 (str : ByteArray) (q : List Int) (w : World) (hq : bytesL str = q) (h1 : 1 ≤ q.length) (hlo : 192 ≤ nth q 0) (hhi : nth q 0 < 224) :
    Calls Tryd.prog 51 #[.string str] w fun e w' => BgnQ q e ∧ Below w.heap.size w w' := by
  have hz : str.size = q.length := by rw [← hq, bytesL_length]
  have hrow : rowN q = 1 := by rw [rowN_nth h1]; have := rowB_iff (nth q 0); omega
  have hne : q ≠ [] := by intro e; rw [e] at h1; simp at h1
  obtain ⟨i0, m, e0, n0, l0⟩ := byte_at hq (j := 0) (by omega)
  have z0 : (0 : Int) < (str.size : Int) := by omega
  rw [n0] at hlo hhi
  have HM0 : Hid (nth q 0 - leadN (rowN q) = (m : Int) - 192) := by show _ = _; rw [hrow, n0]; rfl
  have HQ : Hid (bytesL str = q ∧ str.size = q.length ∧ rowN q = 1 ∧ q ≠ []) := ⟨hq, hz, hrow, hne⟩
  clear hq hrow hne n0 h1
  by_cases hlen : q.length ≤ 2
  · have hgt : ¬ (str.size : Int) > 2 := by omega
    go_enter Tryd.func51, Tryd.ntmps51
    go_wp2
    go_loopw [6, 7, 8] (fun lo hi i wr => ∃ j : Nat, i = .int .i64 ((j + 1 : Nat) : Int) ∧ j ≤ 1 ∧ lo = .int .u32 (loR q j) ∧ hi = .int .u32 (hiR q j) ∧ (∀ i, 1 ≤ i → i ≤ j → i < q.length → 160 ≤ nth q i ∧ nth q i ≤ 191) ∧ wr = w) (fun _ _ i _ => 2 - (intOf i).toNat)
    case atStart => exact ⟨0, by go_num, by omega, by rw [show loR q 0 = (m : Int) - 192 from HM0.out] <;> first | rfl | simp, by rw [show hiR q 0 = (m : Int) - 192 from HM0.out] <;> first | rfl | simp, fun i i1 i2 => by omega, rfl⟩
    case round =>
      obtain ⟨j, rfl, hj, rfl, rfl, hc, rfl⟩ := hrel
      have hbd := lohi_bd (q := q) (j := j) (by omega) hc HM0.out (by omega)
      by_cases hjr : j < 1
      · have hp := p32_small (j := j) (by omega)
        obtain ⟨A, hA⟩ : ∃ A, loR q j = A := ⟨_, rfl⟩
        obtain ⟨B, hB⟩ : ∃ B, hiR q j = B := ⟨_, rfl⟩
        have hA1 : loR q (j + 1) = A * 32 + (if j + 1 < q.length then nth q (j + 1) - 160 else 0) := by rw [loR, hA]
        have hB1 : hiR q (j + 1) = B * 32 + (if j + 1 < q.length then nth q (j + 1) - 160 else 31) := by rw [hiR, hB]
        rw [hA, hB] at hbd ⊢
        have hAB : 0 ≤ A ∧ A < 1048576 ∧ 0 ≤ B ∧ B < 1048576 := bd_small hbd hp (by omega)
        obtain ⟨a0, a1, b0, b1⟩ := hAB
        have HC : Hid (∀ i, 1 ≤ i → i ≤ j → i < q.length → 160 ≤ nth q i ∧ nth q i ≤ 191) := hc
        clear hbd hp hA hB hc
        have hjn : ((j : Int) + 1) < 2 := by omega
        by_cases hjl : j + 1 < q.length
        · rw [if_pos hjl] at hA1 hB1
          obtain ⟨i1, x, e1, n1, l1⟩ := byte_at HQ.out.1 (j := j + 1) hjl
          rw [n1] at hA1 hB1
          have HX : Hid (loR q (j + 1) = A * 32 + ((x : Int) - 160) ∧ hiR q (j + 1) = B * 32 + ((x : Int) - 160) ∧ nth q (j + 1) = x ∧ j + 1 < q.length) := ⟨hA1, hB1, n1, hjl⟩
          have z1 : ((j : Int) + 1) < (str.size : Int) := by omega
          clear hA1 hB1 n1 hjl
          by_cases hx1 : (x : Int) < 160
          · have HNO : Hid (begN q = false) := beg_tail (i := j + 1) (by omega) HX.out.2.2.2 (by rw [HX.out.2.2.1]; omega)
            go_wp2
            go_ret2
            exact ⟨bgn_no HNO.out, Below.refl _ _⟩
          · by_cases hx2 : (x : Int) > 191
            · have HNO : Hid (begN q = false) := beg_tail (i := j + 1) (by omega) HX.out.2.2.2 (by rw [HX.out.2.2.1]; omega)
              go_wp2
              go_ret2
              exact ⟨bgn_no HNO.out, Below.refl _ _⟩
            · go_wp2
              go_roundw
              case rel => exact ⟨j + 1, by go_num, by omega, by rw [HX.out.1]; congr 1; omega, by rw [HX.out.2.1]; congr 1; omega, fun i i1 i2 i3 => by
                by_cases e : i = j + 1
                · rw [e, HX.out.2.2.1]; omega
                · exact HC.out i i1 (by omega) i3, by simp⟩
              case measure => simp [intOf]; omega
        · rw [if_neg hjl] at hA1 hB1
          have HX : Hid (loR q (j + 1) = A * 32 + 0 ∧ hiR q (j + 1) = B * 32 + 31 ∧ ¬ j + 1 < q.length) := ⟨hA1, hB1, hjl⟩
          have z1 : ¬ ((j : Int) + 1) < (str.size : Int) := by omega
          clear hA1 hB1 hjl
          go_wp2
          go_roundw
          case rel => exact ⟨j + 1, by go_num, by omega, by rw [HX.out.1]; congr 1; omega, by rw [HX.out.2.1], fun i i1 i2 i3 => HC.out i i1 (by have := HX.out.2.2; omega) i3, by simp⟩
          case measure => simp [intOf]; omega
      · obtain rfl : j = 1 := by omega
        have htl : ∀ x ∈ q.tail, 160 ≤ x ∧ x ≤ 191 := tail_nth.2 (fun i i1 i2 => hc i i1 (by have := HQ.out.2.1; omega) i2)
        have hL := lo_all HQ.out.2.2.2 (by rw [HQ.out.2.2.1]; exact hlen)
        rw [HQ.out.2.2.1] at hL
        have e4 : p32 1 = 32 := rfl
        rw [e4] at hbd
        have hlk : lackN q ≤ 1 := by
          have h1 : 1 ≤ q.length := by have := HQ.out.2.2.2; exact List.length_pos_iff.2 this
          have := lackN_nth h1; have h3 := rowN_nth h1; have := HQ.out.2.2.1; omega
        have hb0 : 0 ≤ bitsN q := goN_first HQ.out.2.2.2 htl (by rw [HM0.out]; omega)
        have hod := open_doc (r := 1) (k := lackN q) (m := bitsN q) hlk (by omega) hb0 (by rw [← hL.2, show capN 1 = 1024 from rfl]; omega)
        have hbg : begN q = decide (someLo (loR q 1) 2 ≤ someHi (hiR q 1) 2) := by
          rw [beg_open htl (by rw [HQ.out.2.2.1]; exact hlen), HQ.out.2.2.1, hod, hL.1, hL.2]
        have HBG : Hid (begN q = decide (someLo (loR q 1) 2 ≤ someHi (hiR q 1) 2) ∧ loR q 1 = bitsN q * p32 (lackN q)) := ⟨hbg, hL.1⟩
        obtain ⟨A, hA⟩ : ∃ A, loR q 1 = A := ⟨_, rfl⟩
        obtain ⟨B, hB⟩ : ∃ B, hiR q 1 = B := ⟨_, rfl⟩
        rw [hA, hB] at HBG hbd ⊢
        have hA0 : 0 ≤ A := by omega
        clear hbg hod hL htl hc hA hB hb0 hlk hbd hjr
        go_wp2_with fail
        refine (some2 A B _ hA0).mono ?_
        rintro e w2 ⟨rfl, b2⟩
        go_wp2
        go_ret2
        exact ⟨⟨someLo A 2, by rw [HBG.out.1]; rfl, fun _ => by rw [← HBG.out.2, HQ.out.2.2.1]⟩, b2⟩
  · have hgt : (str.size : Int) > 2 := by omega
    have HNO : Hid (begN q = false) := beg_len (by rw [HQ.out.2.2.1]; exact hlen)
    clear hlen
    go_enter Tryd.func51, Tryd.ntmps51
    go_wp2
    go_ret2
    exact ⟨bgn_no HNO.out, Below.refl _ _⟩
set_option maxHeartbeats 4000000 in
set_option maxRecDepth 100000 in
theorem bgn2 (str : ByteArray) (q : List Int) (w : World) (hq : bytesL str = q) (h1 : 1 ≤ q.length) (hlo : 224 ≤ nth q 0) (hhi : nth q 0 < 240) :
    Calls Tryd.prog 51 #[.string str] w fun e w' => BgnQ q e ∧ Below w.heap.size w w' := by
  have hz : str.size = q.length := by rw [← hq, bytesL_length]
  have hrow : rowN q = 2 := by rw [rowN_nth h1]; have := rowB_iff (nth q 0); omega
  have hne : q ≠ [] := by intro e; rw [e] at h1; simp at h1
  obtain ⟨i0, m, e0, n0, l0⟩ := byte_at hq (j := 0) (by omega)
  have z0 : (0 : Int) < (str.size : Int) := by omega
  rw [n0] at hlo hhi
  have HM0 : Hid (nth q 0 - leadN (rowN q) = (m : Int) - 224) := by show _ = _; rw [hrow, n0]; rfl
  have HQ : Hid (bytesL str = q ∧ str.size = q.length ∧ rowN q = 2 ∧ q ≠ []) := ⟨hq, hz, hrow, hne⟩
  clear hq hrow hne n0 h1
  by_cases hlen : q.length ≤ 3
  · have hgt : ¬ (str.size : Int) > 3 := by omega
    go_enter Tryd.func51, Tryd.ntmps51
    go_wp2
    go_loopw [6, 7, 8] (fun lo hi i wr => ∃ j : Nat, i = .int .i64 ((j + 1 : Nat) : Int) ∧ j ≤ 2 ∧ lo = .int .u32 (loR q j) ∧ hi = .int .u32 (hiR q j) ∧ (∀ i, 1 ≤ i → i ≤ j → i < q.length → 160 ≤ nth q i ∧ nth q i ≤ 191) ∧ wr = w) (fun _ _ i _ => 3 - (intOf i).toNat)
    case atStart => exact ⟨0, by go_num, by omega, by rw [show loR q 0 = (m : Int) - 224 from HM0.out] <;> first | rfl | simp, by rw [show hiR q 0 = (m : Int) - 224 from HM0.out] <;> first | rfl | simp, fun i i1 i2 => by omega, rfl⟩
    case round =>
      obtain ⟨j, rfl, hj, rfl, rfl, hc, rfl⟩ := hrel
      have hbd := lohi_bd (q := q) (j := j) (by omega) hc HM0.out (by omega)
      by_cases hjr : j < 2
      · have hp := p32_small (j := j) (by omega)
        obtain ⟨A, hA⟩ : ∃ A, loR q j = A := ⟨_, rfl⟩
        obtain ⟨B, hB⟩ : ∃ B, hiR q j = B := ⟨_, rfl⟩
        have hA1 : loR q (j + 1) = A * 32 + (if j + 1 < q.length then nth q (j + 1) - 160 else 0) := by rw [loR, hA]
        have hB1 : hiR q (j + 1) = B * 32 + (if j + 1 < q.length then nth q (j + 1) - 160 else 31) := by rw [hiR, hB]
        rw [hA, hB] at hbd ⊢
        have hAB : 0 ≤ A ∧ A < 1048576 ∧ 0 ≤ B ∧ B < 1048576 := bd_small hbd hp (by omega)
        obtain ⟨a0, a1, b0, b1⟩ := hAB
        have HC : Hid (∀ i, 1 ≤ i → i ≤ j → i < q.length → 160 ≤ nth q i ∧ nth q i ≤ 191) := hc
        clear hbd hp hA hB hc
        have hjn : ((j : Int) + 1) < 3 := by omega
        by_cases hjl : j + 1 < q.length
        · rw [if_pos hjl] at hA1 hB1
          obtain ⟨i1, x, e1, n1, l1⟩ := byte_at HQ.out.1 (j := j + 1) hjl
          rw [n1] at hA1 hB1
          have HX : Hid (loR q (j + 1) = A * 32 + ((x : Int) - 160) ∧ hiR q (j + 1) = B * 32 + ((x : Int) - 160) ∧ nth q (j + 1) = x ∧ j + 1 < q.length) := ⟨hA1, hB1, n1, hjl⟩
          have z1 : ((j : Int) + 1) < (str.size : Int) := by omega
          clear hA1 hB1 n1 hjl
          by_cases hx1 : (x : Int) < 160
          · have HNO : Hid (begN q = false) := beg_tail (i := j + 1) (by omega) HX.out.2.2.2 (by rw [HX.out.2.2.1]; omega)
            go_wp2
            go_ret2
            exact ⟨bgn_no HNO.out, Below.refl _ _⟩
          · by_cases hx2 : (x : Int) > 191
            · have HNO : Hid (begN q = false) := beg_tail (i := j + 1) (by omega) HX.out.2.2.2 (by rw [HX.out.2.2.1]; omega)
              go_wp2
              go_ret2
              exact ⟨bgn_no HNO.out, Below.refl _ _⟩
            · go_wp2
              go_roundw
              case rel => exact ⟨j + 1, by go_num, by omega, by rw [HX.out.1]; congr 1; omega, by rw [HX.out.2.1]; congr 1; omega, fun i i1 i2 i3 => by
                by_cases e : i = j + 1
                · rw [e, HX.out.2.2.1]; omega
                · exact HC.out i i1 (by omega) i3, by simp⟩
              case measure => simp [intOf]; omega
        · rw [if_neg hjl] at hA1 hB1
          have HX : Hid (loR q (j + 1) = A * 32 + 0 ∧ hiR q (j + 1) = B * 32 + 31 ∧ ¬ j + 1 < q.length) := ⟨hA1, hB1, hjl⟩
          have z1 : ¬ ((j : Int) + 1) < (str.size : Int) := by omega
          clear hA1 hB1 hjl
          go_wp2
          go_roundw
          case rel => exact ⟨j + 1, by go_num, by omega, by rw [HX.out.1]; congr 1; omega, by rw [HX.out.2.1], fun i i1 i2 i3 => HC.out i i1 (by have := HX.out.2.2; omega) i3, by simp⟩
          case measure => simp [intOf]; omega
      · obtain rfl : j = 2 := by omega
        have htl : ∀ x ∈ q.tail, 160 ≤ x ∧ x ≤ 191 := tail_nth.2 (fun i i1 i2 => hc i i1 (by have := HQ.out.2.1; omega) i2)
        have hL := lo_all HQ.out.2.2.2 (by rw [HQ.out.2.2.1]; exact hlen)
        rw [HQ.out.2.2.1] at hL
        have e4 : p32 2 = 1024 := rfl
        rw [e4] at hbd
        have hlk : lackN q ≤ 2 := by
          have h1 : 1 ≤ q.length := by have := HQ.out.2.2.2; exact List.length_pos_iff.2 this
          have := lackN_nth h1; have h3 := rowN_nth h1; have := HQ.out.2.2.1; omega
        have hb0 : 0 ≤ bitsN q := goN_first HQ.out.2.2.2 htl (by rw [HM0.out]; omega)
        have hod := open_doc (r := 2) (k := lackN q) (m := bitsN q) hlk (by omega) hb0 (by rw [← hL.2, show capN 2 = 16384 from rfl]; omega)
        have hbg : begN q = decide (someLo (loR q 2) 3 ≤ someHi (hiR q 2) 3) := by
          rw [beg_open htl (by rw [HQ.out.2.2.1]; exact hlen), HQ.out.2.2.1, hod, hL.1, hL.2]
        have HBG : Hid (begN q = decide (someLo (loR q 2) 3 ≤ someHi (hiR q 2) 3) ∧ loR q 2 = bitsN q * p32 (lackN q)) := ⟨hbg, hL.1⟩
        obtain ⟨A, hA⟩ : ∃ A, loR q 2 = A := ⟨_, rfl⟩
        obtain ⟨B, hB⟩ : ∃ B, hiR q 2 = B := ⟨_, rfl⟩
        rw [hA, hB] at HBG hbd ⊢
        have hA0 : 0 ≤ A := by omega
        clear hbg hod hL htl hc hA hB hb0 hlk hbd hjr
        go_wp2_with fail
        refine (some3 A B _ hA0).mono ?_
        rintro e w2 ⟨rfl, b2⟩
        go_wp2
        go_ret2
        exact ⟨⟨someLo A 3, by rw [HBG.out.1]; rfl, fun _ => by rw [← HBG.out.2, HQ.out.2.2.1]⟩, b2⟩
  · have hgt : (str.size : Int) > 3 := by omega
    have HNO : Hid (begN q = false) := beg_len (by rw [HQ.out.2.2.1]; exact hlen)
    clear hlen
    go_enter Tryd.func51, Tryd.ntmps51
    go_wp2
    go_ret2
    exact ⟨bgn_no HNO.out, Below.refl _ _⟩
set_option maxHeartbeats 4000000 in
set_option maxRecDepth 100000 in
theorem bgn3 (str : ByteArray) (q : List Int) (w : World) (hq : bytesL str = q) (h1 : 1 ≤ q.length) (hlo : 240 ≤ nth q 0) (hhi : nth q 0 < 248) :
    Calls Tryd.prog 51 #[.string str] w fun e w' => BgnQ q e ∧ Below w.heap.size w w' := by
  have hz : str.size = q.length := by rw [← hq, bytesL_length]
  have hrow : rowN q = 3 := by rw [rowN_nth h1]; have := rowB_iff (nth q 0); omega
  have hne : q ≠ [] := by intro e; rw [e] at h1; simp at h1
  obtain ⟨i0, m, e0, n0, l0⟩ := byte_at hq (j := 0) (by omega)
  have z0 : (0 : Int) < (str.size : Int) := by omega
  rw [n0] at hlo hhi
  have HM0 : Hid (nth q 0 - leadN (rowN q) = (m : Int) - 240) := by show _ = _; rw [hrow, n0]; rfl
  have HQ : Hid (bytesL str = q ∧ str.size = q.length ∧ rowN q = 3 ∧ q ≠ []) := ⟨hq, hz, hrow, hne⟩
  clear hq hrow hne n0 h1
  by_cases hlen : q.length ≤ 4
  · have hgt : ¬ (str.size : Int) > 4 := by omega
    go_enter Tryd.func51, Tryd.ntmps51
    go_wp2
    go_loopw [6, 7, 8] (fun lo hi i wr => ∃ j : Nat, i = .int .i64 ((j + 1 : Nat) : Int) ∧ j ≤ 3 ∧ lo = .int .u32 (loR q j) ∧ hi = .int .u32 (hiR q j) ∧ (∀ i, 1 ≤ i → i ≤ j → i < q.length → 160 ≤ nth q i ∧ nth q i ≤ 191) ∧ wr = w) (fun _ _ i _ => 4 - (intOf i).toNat)
    case atStart => exact ⟨0, by go_num, by omega, by rw [show loR q 0 = (m : Int) - 240 from HM0.out] <;> first | rfl | simp, by rw [show hiR q 0 = (m : Int) - 240 from HM0.out] <;> first | rfl | simp, fun i i1 i2 => by omega, rfl⟩
    case round =>
      obtain ⟨j, rfl, hj, rfl, rfl, hc, rfl⟩ := hrel
      have hbd := lohi_bd (q := q) (j := j) (by omega) hc HM0.out (by omega)
      by_cases hjr : j < 3
      · have hp := p32_small (j := j) (by omega)
        obtain ⟨A, hA⟩ : ∃ A, loR q j = A := ⟨_, rfl⟩
        obtain ⟨B, hB⟩ : ∃ B, hiR q j = B := ⟨_, rfl⟩
        have hA1 : loR q (j + 1) = A * 32 + (if j + 1 < q.length then nth q (j + 1) - 160 else 0) := by rw [loR, hA]
        have hB1 : hiR q (j + 1) = B * 32 + (if j + 1 < q.length then nth q (j + 1) - 160 else 31) := by rw [hiR, hB]
        rw [hA, hB] at hbd ⊢
        have hAB : 0 ≤ A ∧ A < 1048576 ∧ 0 ≤ B ∧ B < 1048576 := bd_small hbd hp (by omega)
        obtain ⟨a0, a1, b0, b1⟩ := hAB
        have HC : Hid (∀ i, 1 ≤ i → i ≤ j → i < q.length → 160 ≤ nth q i ∧ nth q i ≤ 191) := hc
        clear hbd hp hA hB hc
        have hjn : ((j : Int) + 1) < 4 := by omega
        by_cases hjl : j + 1 < q.length
        · rw [if_pos hjl] at hA1 hB1
          obtain ⟨i1, x, e1, n1, l1⟩ := byte_at HQ.out.1 (j := j + 1) hjl
          rw [n1] at hA1 hB1
          have HX : Hid (loR q (j + 1) = A * 32 + ((x : Int) - 160) ∧ hiR q (j + 1) = B * 32 + ((x : Int) - 160) ∧ nth q (j + 1) = x ∧ j + 1 < q.length) := ⟨hA1, hB1, n1, hjl⟩
          have z1 : ((j : Int) + 1) < (str.size : Int) := by omega
          clear hA1 hB1 n1 hjl
          by_cases hx1 : (x : Int) < 160
          · have HNO : Hid (begN q = false) := beg_tail (i := j + 1) (by omega) HX.out.2.2.2 (by rw [HX.out.2.2.1]; omega)
            go_wp2
            go_ret2
            exact ⟨bgn_no HNO.out, Below.refl _ _⟩
          · by_cases hx2 : (x : Int) > 191
            · have HNO : Hid (begN q = false) := beg_tail (i := j + 1) (by omega) HX.out.2.2.2 (by rw [HX.out.2.2.1]; omega)
              go_wp2
              go_ret2
              exact ⟨bgn_no HNO.out, Below.refl _ _⟩
            · go_wp2
              go_roundw
              case rel => exact ⟨j + 1, by go_num, by omega, by rw [HX.out.1]; congr 1; omega, by rw [HX.out.2.1]; congr 1; omega, fun i i1 i2 i3 => by
                by_cases e : i = j + 1
                · rw [e, HX.out.2.2.1]; omega
                · exact HC.out i i1 (by omega) i3, by simp⟩
              case measure => simp [intOf]; omega
        · rw [if_neg hjl] at hA1 hB1
          have HX : Hid (loR q (j + 1) = A * 32 + 0 ∧ hiR q (j + 1) = B * 32 + 31 ∧ ¬ j + 1 < q.length) := ⟨hA1, hB1, hjl⟩
          have z1 : ¬ ((j : Int) + 1) < (str.size : Int) := by omega
          clear hA1 hB1 hjl
          go_wp2
          go_roundw
          case rel => exact ⟨j + 1, by go_num, by omega, by rw [HX.out.1]; congr 1; omega, by rw [HX.out.2.1], fun i i1 i2 i3 => HC.out i i1 (by have := HX.out.2.2; omega) i3, by simp⟩
          case measure => simp [intOf]; omega
      · obtain rfl : j = 3 := by omega
        have htl : ∀ x ∈ q.tail, 160 ≤ x ∧ x ≤ 191 := tail_nth.2 (fun i i1 i2 => hc i i1 (by have := HQ.out.2.1; omega) i2)
        have hL := lo_all HQ.out.2.2.2 (by rw [HQ.out.2.2.1]; exact hlen)
        rw [HQ.out.2.2.1] at hL
        have e4 : p32 3 = 32768 := rfl
        rw [e4] at hbd
        have hlk : lackN q ≤ 3 := by
          have h1 : 1 ≤ q.length := by have := HQ.out.2.2.2; exact List.length_pos_iff.2 this
          have := lackN_nth h1; have h3 := rowN_nth h1; have := HQ.out.2.2.1; omega
        have hb0 : 0 ≤ bitsN q := goN_first HQ.out.2.2.2 htl (by rw [HM0.out]; omega)
        have hod := open_doc (r := 3) (k := lackN q) (m := bitsN q) hlk (by omega) hb0 (by rw [← hL.2, show capN 3 = 262144 from rfl]; omega)
        have hbg : begN q = decide (someLo (loR q 3) 4 ≤ someHi (hiR q 3) 4) := by
          rw [beg_open htl (by rw [HQ.out.2.2.1]; exact hlen), HQ.out.2.2.1, hod, hL.1, hL.2]
        have HBG : Hid (begN q = decide (someLo (loR q 3) 4 ≤ someHi (hiR q 3) 4) ∧ loR q 3 = bitsN q * p32 (lackN q)) := ⟨hbg, hL.1⟩
        obtain ⟨A, hA⟩ : ∃ A, loR q 3 = A := ⟨_, rfl⟩
        obtain ⟨B, hB⟩ : ∃ B, hiR q 3 = B := ⟨_, rfl⟩
        rw [hA, hB] at HBG hbd ⊢
        have hA0 : 0 ≤ A := by omega
        clear hbg hod hL htl hc hA hB hb0 hlk hbd hjr
        go_wp2_with fail
        refine (some4 A B _ hA0).mono ?_
        rintro e w2 ⟨rfl, b2⟩
        go_wp2
        go_ret2
        exact ⟨⟨someLo A 4, by rw [HBG.out.1]; rfl, fun _ => by rw [← HBG.out.2, HQ.out.2.2.1]⟩, b2⟩
  · have hgt : (str.size : Int) > 4 := by omega
    have HNO : Hid (begN q = false) := beg_len (by rw [HQ.out.2.2.1]; exact hlen)
    clear hlen
    go_enter Tryd.func51, Tryd.ntmps51
    go_wp2
    go_ret2
    exact ⟨bgn_no HNO.out, Below.refl _ _⟩
set_option maxHeartbeats 4000000 in
set_option maxRecDepth 100000 in
theorem bgn4 (str : ByteArray) (q : List Int) (w : World) (hq : bytesL str = q) (h1 : 1 ≤ q.length) (hlo : 248 ≤ nth q 0) (hhi : nth q 0 < 252) :
    Calls Tryd.prog 51 #[.string str] w fun e w' => BgnQ q e ∧ Below w.heap.size w w' := by
  have hz : str.size = q.length := by rw [← hq, bytesL_length]
  have hrow : rowN q = 4 := by rw [rowN_nth h1]; have := rowB_iff (nth q 0); omega
  have hne : q ≠ [] := by intro e; rw [e] at h1; simp at h1
  obtain ⟨i0, m, e0, n0, l0⟩ := byte_at hq (j := 0) (by omega)
  have z0 : (0 : Int) < (str.size : Int) := by omega
  rw [n0] at hlo hhi
  have HM0 : Hid (nth q 0 - leadN (rowN q) = (m : Int) - 248) := by show _ = _; rw [hrow, n0]; rfl
  have HQ : Hid (bytesL str = q ∧ str.size = q.length ∧ rowN q = 4 ∧ q ≠ []) := ⟨hq, hz, hrow, hne⟩
  clear hq hrow hne n0 h1
  by_cases hlen : q.length ≤ 5
  · have hgt : ¬ (str.size : Int) > 5 := by omega
    go_enter Tryd.func51, Tryd.ntmps51
    go_wp2
    go_loopw [6, 7, 8] (fun lo hi i wr => ∃ j : Nat, i = .int .i64 ((j + 1 : Nat) : Int) ∧ j ≤ 4 ∧ lo = .int .u32 (loR q j) ∧ hi = .int .u32 (hiR q j) ∧ (∀ i, 1 ≤ i → i ≤ j → i < q.length → 160 ≤ nth q i ∧ nth q i ≤ 191) ∧ wr = w) (fun _ _ i _ => 5 - (intOf i).toNat)
    case atStart => exact ⟨0, by go_num, by omega, by rw [show loR q 0 = (m : Int) - 248 from HM0.out] <;> first | rfl | simp, by rw [show hiR q 0 = (m : Int) - 248 from HM0.out] <;> first | rfl | simp, fun i i1 i2 => by omega, rfl⟩
    case round =>
      obtain ⟨j, rfl, hj, rfl, rfl, hc, rfl⟩ := hrel
      have hbd := lohi_bd (q := q) (j := j) (by omega) hc HM0.out (by omega)
      by_cases hjr : j < 4
      · have hp := p32_small (j := j) (by omega)
        obtain ⟨A, hA⟩ : ∃ A, loR q j = A := ⟨_, rfl⟩
        obtain ⟨B, hB⟩ : ∃ B, hiR q j = B := ⟨_, rfl⟩
        have hA1 : loR q (j + 1) = A * 32 + (if j + 1 < q.length then nth q (j + 1) - 160 else 0) := by rw [loR, hA]
        have hB1 : hiR q (j + 1) = B * 32 + (if j + 1 < q.length then nth q (j + 1) - 160 else 31) := by rw [hiR, hB]
        rw [hA, hB] at hbd ⊢
        have hAB : 0 ≤ A ∧ A < 1048576 ∧ 0 ≤ B ∧ B < 1048576 := bd_small hbd hp (by omega)
        obtain ⟨a0, a1, b0, b1⟩ := hAB
        have HC : Hid (∀ i, 1 ≤ i → i ≤ j → i < q.length → 160 ≤ nth q i ∧ nth q i ≤ 191) := hc
        clear hbd hp hA hB hc
        have hjn : ((j : Int) + 1) < 5 := by omega
        by_cases hjl : j + 1 < q.length
        · rw [if_pos hjl] at hA1 hB1
          obtain ⟨i1, x, e1, n1, l1⟩ := byte_at HQ.out.1 (j := j + 1) hjl
          rw [n1] at hA1 hB1
          have HX : Hid (loR q (j + 1) = A * 32 + ((x : Int) - 160) ∧ hiR q (j + 1) = B * 32 + ((x : Int) - 160) ∧ nth q (j + 1) = x ∧ j + 1 < q.length) := ⟨hA1, hB1, n1, hjl⟩
          have z1 : ((j : Int) + 1) < (str.size : Int) := by omega
          clear hA1 hB1 n1 hjl
          by_cases hx1 : (x : Int) < 160
          · have HNO : Hid (begN q = false) := beg_tail (i := j + 1) (by omega) HX.out.2.2.2 (by rw [HX.out.2.2.1]; omega)
            go_wp2
            go_ret2
            exact ⟨bgn_no HNO.out, Below.refl _ _⟩
          · by_cases hx2 : (x : Int) > 191
            · have HNO : Hid (begN q = false) := beg_tail (i := j + 1) (by omega) HX.out.2.2.2 (by rw [HX.out.2.2.1]; omega)
              go_wp2
              go_ret2
              exact ⟨bgn_no HNO.out, Below.refl _ _⟩
            · go_wp2
              go_roundw
              case rel => exact ⟨j + 1, by go_num, by omega, by rw [HX.out.1]; congr 1; omega, by rw [HX.out.2.1]; congr 1; omega, fun i i1 i2 i3 => by
                by_cases e : i = j + 1
                · rw [e, HX.out.2.2.1]; omega
                · exact HC.out i i1 (by omega) i3, by simp⟩
              case measure => simp [intOf]; omega
        · rw [if_neg hjl] at hA1 hB1
          have HX : Hid (loR q (j + 1) = A * 32 + 0 ∧ hiR q (j + 1) = B * 32 + 31 ∧ ¬ j + 1 < q.length) := ⟨hA1, hB1, hjl⟩
          have z1 : ¬ ((j : Int) + 1) < (str.size : Int) := by omega
          clear hA1 hB1 hjl
          go_wp2
          go_roundw
          case rel => exact ⟨j + 1, by go_num, by omega, by rw [HX.out.1]; congr 1; omega, by rw [HX.out.2.1], fun i i1 i2 i3 => HC.out i i1 (by have := HX.out.2.2; omega) i3, by simp⟩
          case measure => simp [intOf]; omega
      · obtain rfl : j = 4 := by omega
        have htl : ∀ x ∈ q.tail, 160 ≤ x ∧ x ≤ 191 := tail_nth.2 (fun i i1 i2 => hc i i1 (by have := HQ.out.2.1; omega) i2)
        have hL := lo_all HQ.out.2.2.2 (by rw [HQ.out.2.2.1]; exact hlen)
        rw [HQ.out.2.2.1] at hL
        have e4 : p32 4 = 1048576 := rfl
        rw [e4] at hbd
        have hlk : lackN q ≤ 4 := by
          have h1 : 1 ≤ q.length := by have := HQ.out.2.2.2; exact List.length_pos_iff.2 this
          have := lackN_nth h1; have h3 := rowN_nth h1; have := HQ.out.2.2.1; omega
        have hb0 : 0 ≤ bitsN q := goN_first HQ.out.2.2.2 htl (by rw [HM0.out]; omega)
        have hod := open_doc (r := 4) (k := lackN q) (m := bitsN q) hlk (by omega) hb0 (by rw [← hL.2, show capN 4 = 4194304 from rfl]; omega)
        have hbg : begN q = decide (someLo (loR q 4) 5 ≤ someHi (hiR q 4) 5) := by
          rw [beg_open htl (by rw [HQ.out.2.2.1]; exact hlen), HQ.out.2.2.1, hod, hL.1, hL.2]
        have HBG : Hid (begN q = decide (someLo (loR q 4) 5 ≤ someHi (hiR q 4) 5) ∧ loR q 4 = bitsN q * p32 (lackN q)) := ⟨hbg, hL.1⟩
        obtain ⟨A, hA⟩ : ∃ A, loR q 4 = A := ⟨_, rfl⟩
        obtain ⟨B, hB⟩ : ∃ B, hiR q 4 = B := ⟨_, rfl⟩
        rw [hA, hB] at HBG hbd ⊢
        have hA0 : 0 ≤ A := by omega
        clear hbg hod hL htl hc hA hB hb0 hlk hbd hjr
        go_wp2_with fail
        refine (some5 A B _ hA0).mono ?_
        rintro e w2 ⟨rfl, b2⟩
        go_wp2
        go_ret2
        exact ⟨⟨someLo A 5, by rw [HBG.out.1]; rfl, fun _ => by rw [← HBG.out.2, HQ.out.2.2.1]⟩, b2⟩
  · have hgt : (str.size : Int) > 5 := by omega
    have HNO : Hid (begN q = false) := beg_len (by rw [HQ.out.2.2.1]; exact hlen)
    clear hlen
    go_enter Tryd.func51, Tryd.ntmps51
    go_wp2
    go_ret2
    exact ⟨bgn_no HNO.out, Below.refl _ _⟩
set_option maxHeartbeats 2000000 in
set_option maxRecDepth 100000 in
theorem begins_any (str : ByteArray) (q : List Int) (w : World) (hq : bytesL str = q) (h1 : 1 ≤ q.length) :
    Calls Tryd.prog 51 #[.string str] w fun e w' => BgnQ q e ∧ Below w.heap.size w w' := by
  obtain ⟨i0, m, e0, n0, l0⟩ := byte_at hq (j := 0) (by omega)
  by_cases a0 : nth q 0 < 160
  · exact bgn0 str q w hq h1 (by omega) a0
  · by_cases a1 : nth q 0 < 192
    · have HNO : Hid (begN q = false) := beg_160 h1 (by omega) a1
      have z0 : (0 : Int) < (str.size : Int) := by omega
      rw [n0] at a0 a1
      clear hq h1 n0
      go_enter Tryd.func51, Tryd.ntmps51
      go_wp2
      go_ret2
      exact ⟨bgn_no HNO.out, Below.refl _ _⟩
    · by_cases a2 : nth q 0 < 224
      · exact bgn1 str q w hq h1 (by omega) a2
      · by_cases a3 : nth q 0 < 240
        · exact bgn2 str q w hq h1 (by omega) a3
        · by_cases a4 : nth q 0 < 248
          · exact bgn3 str q w hq h1 (by omega) a4
          · by_cases a5 : nth q 0 < 252
            · exact bgn4 str q w hq h1 (by omega) a5
            · have HNO : Hid (begN q = false) := beg_252 h1 (by omega)
              have z0 : (0 : Int) < (str.size : Int) := by omega
              rw [n0] at a0 a1 a2 a3 a4 a5
              clear hq h1 n0
              go_enter Tryd.func51, Tryd.ntmps51
              go_wp2
              go_ret2
              exact ⟨bgn_no HNO.out, Below.refl _ _⟩
end M8
end Go.Proofs.YtjbgcclbomimiaaDoor
