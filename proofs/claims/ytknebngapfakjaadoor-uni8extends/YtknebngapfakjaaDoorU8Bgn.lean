/-
  The contract of the document's Begins of layer 3, as a walk over the translated text. The condition: its text is a beginning of a scalar's bytes, and one byte more.
-/
import Derived.Test.YtknebngapfakjaaDoorU8Beg
namespace Go.Proofs.YtknebngapfakjaaDoor
open Go.ChangeShapes Go.WideShapes Go.ChangeAt Go.RowKit
namespace U8
open Bas Sca Stp Scn
set_option linter.unusedVariables false
set_option linter.unusedSimpArgs false

theorem vint {a b : Int} (h : a = b) : Value.int .u32 a = .int .u32 b := by rw [h]
theorem xx_in {q : List Int} {j : Nat} (h : j < q.length) : xx q j = nth q j - 128 ∧ yy q j = nth q j - 128 := by simp [xx, yy, h]
theorem xx_out {q : List Int} {j : Nat} (h : ¬ j < q.length) : xx q j = 0 ∧ yy q j = 63 := by simp [xx, yy, h]
theorem xx_bd {q : List Int} {j : Nat} (h : j < q.length → 128 ≤ nth q j ∧ nth q j ≤ 191) : 0 ≤ xx q j ∧ xx q j ≤ 63 ∧ 0 ≤ yy q j ∧ yy q j ≤ 63 := by
  by_cases hj : j < q.length
  · have := h hj; rw [(xx_in hj).1, (xx_in hj).2]; omega
  · rw [(xx_out hj).1, (xx_out hj).2]; omega
/-- What Begins leaves. -/
def BegQ (q : List Int) (c : Int) (ok : Bool) : Prop := ok = okq q ∧ (okq q = true → c = leastU q)
/-- .. as an ending. -/
def BegP (q : List Int) (e : Ending) : Prop := ∃ c ok, e = .returned (.tuple #[.int .u32 c, .bool ok]) ∧ BegQ q c ok
theorem begQ_no {q : List Int} (h : okq q = false) (c : Int) : BegQ q c false := ⟨h.symm, fun e => by rw [h] at e; cases e⟩

theorem begAll1 {q : List Int} (hl : 1 ≤ q.length) (hl2 : q.length ≤ 1) (h0 : 0 ≤ nth q 0) (h1 : nth q 0 < 128) (hr : ∀ i, 1 ≤ i → i < q.length → 128 ≤ nth q i ∧ nth q i ≤ 191) : BegQ q (someLo (lowQ 1 q) 1) (decide (someLo (lowQ 1 q) 1 ≤ someHi (highQ 1 q) 1)) := by
  match q, hl, hl2, h0, h1, hr with
  | [a], _, _, h0, h1, hr =>
    have := beg11 h0 h1
    exact ⟨this.1, fun e => by unfold leastU; rw [show needN (nth [a] 0) = 1 from this.2 e]⟩
  | a :: b :: r, _, hl2, _, _, _ => simp at hl2
  | [], hl, _, _, _, _ => simp at hl

theorem begAll2 {q : List Int} (hl : 1 ≤ q.length) (hl2 : q.length ≤ 2) (h0 : 192 ≤ nth q 0) (h1 : nth q 0 < 224) (hr : ∀ i, 1 ≤ i → i < q.length → 128 ≤ nth q i ∧ nth q i ≤ 191) : BegQ q (someLo (lowQ 2 q) 2) (decide (someLo (lowQ 2 q) 2 ≤ someHi (highQ 2 q) 2)) := by
  match q, hl, hl2, h0, h1, hr with
  | [a], _, _, h0, h1, hr =>
    have := beg21 h0 h1
    exact ⟨this.1, fun e => by unfold leastU; rw [show needN (nth [a] 0) = 2 from this.2 e]⟩
  | [a, b], _, _, h0, h1, hr =>
    have := beg22 h0 h1 (hr 1 (by omega) (by simp))
    exact ⟨this.1, fun e => by unfold leastU; rw [show needN (nth [a, b] 0) = 2 from this.2 e]⟩
  | a :: b :: c :: r, _, hl2, _, _, _ => simp at hl2
  | [], hl, _, _, _, _ => simp at hl

theorem begAll3 {q : List Int} (hl : 1 ≤ q.length) (hl2 : q.length ≤ 3) (h0 : 224 ≤ nth q 0) (h1 : nth q 0 < 240) (hr : ∀ i, 1 ≤ i → i < q.length → 128 ≤ nth q i ∧ nth q i ≤ 191) : BegQ q (someLo (lowQ 3 q) 3) (decide (someLo (lowQ 3 q) 3 ≤ someHi (highQ 3 q) 3)) := by
  match q, hl, hl2, h0, h1, hr with
  | [a], _, _, h0, h1, hr =>
    have := beg31 h0 h1
    exact ⟨this.1, fun e => by unfold leastU; rw [show needN (nth [a] 0) = 3 from this.2 e]⟩
  | [a, b], _, _, h0, h1, hr =>
    have := beg32 h0 h1 (hr 1 (by omega) (by simp))
    exact ⟨this.1, fun e => by unfold leastU; rw [show needN (nth [a, b] 0) = 3 from this.2 e]⟩
  | [a, b, c], _, _, h0, h1, hr =>
    have := beg33 h0 h1 (hr 1 (by omega) (by simp)) (hr 2 (by omega) (by simp))
    exact ⟨this.1, fun e => by unfold leastU; rw [show needN (nth [a, b, c] 0) = 3 from this.2 e]⟩
  | a :: b :: c :: d :: r, _, hl2, _, _, _ => simp at hl2
  | [], hl, _, _, _, _ => simp at hl

theorem begAll4 {q : List Int} (hl : 1 ≤ q.length) (hl2 : q.length ≤ 4) (h0 : 240 ≤ nth q 0) (h1 : nth q 0 < 248) (hr : ∀ i, 1 ≤ i → i < q.length → 128 ≤ nth q i ∧ nth q i ≤ 191) : BegQ q (someLo (lowQ 4 q) 4) (decide (someLo (lowQ 4 q) 4 ≤ someHi (highQ 4 q) 4)) := by
  match q, hl, hl2, h0, h1, hr with
  | [a], _, _, h0, h1, hr =>
    have := beg41 h0 h1
    exact ⟨this.1, fun e => by unfold leastU; rw [show needN (nth [a] 0) = 4 from this.2 e]⟩
  | [a, b], _, _, h0, h1, hr =>
    have := beg42 h0 h1 (hr 1 (by omega) (by simp))
    exact ⟨this.1, fun e => by unfold leastU; rw [show needN (nth [a, b] 0) = 4 from this.2 e]⟩
  | [a, b, c], _, _, h0, h1, hr =>
    have := beg43 h0 h1 (hr 1 (by omega) (by simp)) (hr 2 (by omega) (by simp))
    exact ⟨this.1, fun e => by unfold leastU; rw [show needN (nth [a, b, c] 0) = 4 from this.2 e]⟩
  | [a, b, c, d], _, _, h0, h1, hr =>
    have := beg44 h0 h1 (hr 1 (by omega) (by simp)) (hr 2 (by omega) (by simp)) (hr 3 (by omega) (by simp))
    exact ⟨this.1, fun e => by unfold leastU; rw [show needN (nth [a, b, c, d] 0) = 4 from this.2 e]⟩
  | a :: b :: c :: d :: e :: r, _, hl2, _, _, _ => simp at hl2
  | [], hl, _, _, _, _ => simp at hl

set_option maxHeartbeats 8000000 in
set_option maxRecDepth 100000 in
theorem beginsX (str : ByteArray) (q : List Int) (m : Nat) (w : World) (h00 : 0 < str.size) (e0 : (str[0]'h00).toNat = m) (HN : Hid (∀ n, needN (nth q 0) ≤ n → 1 ≤ n → q.length ≤ n)) (HA : Hid (∀ j (hj : j < str.size), ((str[j]'hj).toNat : Int) = nth q j))
    (HB : Hid (∀ x ∈ q, 0 ≤ x ∧ x < 256)) (HM : Hid (nth q 0 = m ∧ q.length = str.size ∧ 1 ≤ q.length)) (HOK : Hid (needN m = 0 → okq q = false)) (c0 : 128 ≤ m) (c1 : m < 192) :
    Calls Tryd.prog 29 #[.string str] w fun e w' => BegP q e ∧ Below w.heap.size w w' := by
  have d0 : 128 ≤ (m : Int) := by omega
  have d1 : (m : Int) < 192 := by omega
  have hno : okq q = false := HOK.out (by have := needN_of m; omega)
  have HNO : Hid (okq q = false) := hno
  clear hno c0 c1
  go_enter Tryd.func29, Tryd.ntmps29
  go_wp2
  go_ret2
  exact ⟨⟨_, _, rfl, begQ_no HNO.out _⟩, Below.refl _ _⟩

set_option maxHeartbeats 8000000 in
set_option maxRecDepth 100000 in
theorem begins1 (str : ByteArray) (q : List Int) (m : Nat) (w : World) (h00 : 0 < str.size) (e0 : (str[0]'h00).toNat = m) (HN : Hid (∀ n, needN (nth q 0) ≤ n → 1 ≤ n → q.length ≤ n)) (HA : Hid (∀ j (hj : j < str.size), ((str[j]'hj).toNat : Int) = nth q j))
    (HB : Hid (∀ x ∈ q, 0 ≤ x ∧ x < 256)) (HM : Hid (nth q 0 = m ∧ q.length = str.size ∧ 1 ≤ q.length)) (HOK : Hid (needN m = 0 → okq q = false)) (c1 : m < 128) :
    Calls Tryd.prog 29 #[.string str] w fun e w' => BegP q e ∧ Below w.heap.size w w' := by
  have hle : q.length ≤ 1 := HN.out 1 (by rw [HM.out.1]; have := needN_of m; omega) (by omega)
  have hsz : (str.size : Int) ≤ 1 := by have := HM.out.2.1; omega
  have HLE : Hid (q.length ≤ 1) := hle
  clear hle
  have d1 : (m : Int) < 128 := by omega
  clear c1
  go_enter Tryd.func29, Tryd.ntmps29
  go_wp2
  go_loopw [6, 7, 8] (fun s6 s7 s8 wr => s6 = .int .u32 m ∧ s7 = .int .u32 m ∧ s8 = .int .i64 1 ∧ wr = w) (fun _ _ _ _ => 0)
  case atStart => exact ⟨rfl, rfl, rfl, rfl⟩
  case round =>
    obtain ⟨rfl, rfl, rfl, rfl⟩ := hrel
    go_wp2_with fail
    refine (some1 _ _ _ (by omega)).mono ?_
    rintro e w2 ⟨rfl, hb⟩
    go_wp2
    go_ret2
    have := begAll1 (q := q) HM.out.2.2 HLE.out (by rw [HM.out.1]; omega) (by rw [HM.out.1]; omega) (fun i h1 h2 => by have := HLE.out; omega)
    rw [show lowQ 1 q = m from HM.out.1, show highQ 1 q = m from HM.out.1] at this
    exact ⟨⟨_, _, rfl, this⟩, hb⟩

set_option maxHeartbeats 8000000 in
set_option maxRecDepth 100000 in
theorem begins2 (str : ByteArray) (q : List Int) (m : Nat) (w : World) (h00 : 0 < str.size) (e0 : (str[0]'h00).toNat = m) (HN : Hid (∀ n, needN (nth q 0) ≤ n → 1 ≤ n → q.length ≤ n)) (HA : Hid (∀ j (hj : j < str.size), ((str[j]'hj).toNat : Int) = nth q j))
    (HB : Hid (∀ x ∈ q, 0 ≤ x ∧ x < 256)) (HM : Hid (nth q 0 = m ∧ q.length = str.size ∧ 1 ≤ q.length)) (HOK : Hid (needN m = 0 → okq q = false)) (c0 : 192 ≤ m) (c1 : m < 224) :
    Calls Tryd.prog 29 #[.string str] w fun e w' => BegP q e ∧ Below w.heap.size w w' := by
  have hle : q.length ≤ 2 := HN.out 2 (by rw [HM.out.1]; have := needN_of m; omega) (by omega)
  have hsz : (str.size : Int) ≤ 2 := by have := HM.out.2.1; omega
  have HLE : Hid (q.length ≤ 2) := hle
  clear hle
  have d0 : 192 ≤ (m : Int) := by omega
  have d1 : (m : Int) < 224 := by omega
  clear c0 c1
  go_enter Tryd.func29, Tryd.ntmps29
  go_wp2
  go_loopw [6, 7, 8] (fun s6 s7 s8 wr => ∃ k : Nat, s8 = .int .i64 k ∧ wr = w ∧ (∀ i, 1 ≤ i → i < k → i < q.length → 128 ≤ nth q i ∧ nth q i ≤ 191) ∧ ((k = 1 ∧ s6 = .int .u32 ((m : Int) - 192) ∧ s7 = .int .u32 ((m : Int) - 192)) ∨ (k = 2 ∧ s6 = .int .u32 (((m : Int) - 192) * 64 + xx q 1) ∧ s7 = .int .u32 (((m : Int) - 192) * 64 + yy q 1)))) (fun _ _ s8 _ => 2 - (intOf s8).toNat)
  case atStart => exact ⟨1, rfl, rfl, fun i h1 h2 => by omega, .inl ⟨rfl, rfl, rfl⟩⟩
  case round =>
    obtain ⟨k, rfl, rfl, hin, hk⟩ := hrel
    have HI : Hid (∀ i, 1 ≤ i → i < k → i < q.length → 128 ≤ nth q i ∧ nth q i ≤ 191) := hin
    clear hin
    rcases hk with hk | hk
    · obtain ⟨rfl, rfl, rfl⟩ := hk
      by_cases hj : (1 : Int) < (str.size : Int)
      · have hjn : 1 < str.size := by omega
        have hm1 := HA.out 1 hjn
        have hmb := (HB.out _ (nth_mem (l := q) (i := 1) (by have := HM.out.2.1; omega)))
        obtain ⟨mj, hmj⟩ := Int.eq_ofNat_of_zero_le hmb.1
        have ej : (str[1]'hjn).toNat = mj := by omega
        have HX : Hid (xx q 1 = (mj : Int) - 128 ∧ yy q 1 = (mj : Int) - 128) := by
          have := xx_in (q := q) (j := 1) (by have := HM.out.2.1; omega)
          rw [hmj] at this; exact this
        have HJ : Hid (nth q 1 = mj) := hmj
        have hm2 : mj < 256 := by omega
        clear hm1 hmb hmj
        by_cases r1 : (mj : Int) < 128
        · have HNO : Hid (okq q = false) := okq_out (j := 1) (by omega) (by have := HM.out.2.1; omega) (by rw [HJ.out]; omega)
          go_wp2
          go_ret2
          exact ⟨⟨_, _, rfl, begQ_no HNO.out _⟩, Below.refl _ _⟩
        · by_cases r2 : (mj : Int) > 191
          · have HNO : Hid (okq q = false) := okq_out (j := 1) (by omega) (by have := HM.out.2.1; omega) (by rw [HJ.out]; omega)
            go_wp2
            go_ret2
            exact ⟨⟨_, _, rfl, begQ_no HNO.out _⟩, Below.refl _ _⟩
          · go_wp2
            go_roundw
            case rel =>
              refine ⟨2, by go_num, by first | rfl | trivial, fun i h1 h2 h3 => ?_, .inr (⟨rfl, vint (by have := HX.out; omega), vint (by have := HX.out; omega)⟩)⟩
              rcases (show i < 1 ∨ i = 1 by omega) with hi | hi
              · exact HI.out i h1 hi h3
              · subst hi; rw [HJ.out]; omega
            case measure => simp [intOf]
      · have HX : Hid (xx q 1 = 0 ∧ yy q 1 = 63) := xx_out (q := q) (j := 1) (by have := HM.out.2.1; omega)
        go_wp2
        go_roundw
        case rel =>
          refine ⟨2, by go_num, by first | rfl | trivial, fun i h1 h2 h3 => ?_, .inr (⟨rfl, vint (by have := HX.out; omega), vint (by have := HX.out; omega)⟩)⟩
          rcases (show i < 1 ∨ i = 1 by omega) with hi | hi
          · exact HI.out i h1 hi h3
          · subst hi; have := HM.out.2.1; omega
        case measure => simp [intOf]
    · obtain ⟨rfl, rfl, rfl⟩ := hk
      have b1 := xx_bd (q := q) (j := 1) (fun h => HI.out 1 (by omega) (by omega) h)
      obtain ⟨b1a, b1b, b1c, b1d⟩ := b1
      go_wp2_with fail
      refine (some2 _ _ _ (by omega)).mono ?_
      rintro e w2 ⟨rfl, hb⟩
      go_wp2
      go_ret2
      have := begAll2 (q := q) HM.out.2.2 HLE.out (by rw [HM.out.1]; omega) (by rw [HM.out.1]; omega) (fun i h1 h2 => HI.out i h1 (by have := HLE.out; omega) h2)
      rw [show lowQ 2 q = (((m : Int) - 192) * 64 + xx q 1) by simp only [lowQ]; rw [HM.out.1]; simp, show highQ 2 q = (((m : Int) - 192) * 64 + yy q 1) by simp only [highQ]; rw [HM.out.1]; simp] at this
      exact ⟨⟨_, _, rfl, this⟩, hb⟩

set_option maxHeartbeats 8000000 in
set_option maxRecDepth 100000 in
theorem begins3 (str : ByteArray) (q : List Int) (m : Nat) (w : World) (h00 : 0 < str.size) (e0 : (str[0]'h00).toNat = m) (HN : Hid (∀ n, needN (nth q 0) ≤ n → 1 ≤ n → q.length ≤ n)) (HA : Hid (∀ j (hj : j < str.size), ((str[j]'hj).toNat : Int) = nth q j))
    (HB : Hid (∀ x ∈ q, 0 ≤ x ∧ x < 256)) (HM : Hid (nth q 0 = m ∧ q.length = str.size ∧ 1 ≤ q.length)) (HOK : Hid (needN m = 0 → okq q = false)) (c0 : 224 ≤ m) (c1 : m < 240) :
    Calls Tryd.prog 29 #[.string str] w fun e w' => BegP q e ∧ Below w.heap.size w w' := by
  have hle : q.length ≤ 3 := HN.out 3 (by rw [HM.out.1]; have := needN_of m; omega) (by omega)
  have hsz : (str.size : Int) ≤ 3 := by have := HM.out.2.1; omega
  have HLE : Hid (q.length ≤ 3) := hle
  clear hle
  have d0 : 224 ≤ (m : Int) := by omega
  have d1 : (m : Int) < 240 := by omega
  clear c0 c1
  go_enter Tryd.func29, Tryd.ntmps29
  go_wp2
  go_loopw [6, 7, 8] (fun s6 s7 s8 wr => ∃ k : Nat, s8 = .int .i64 k ∧ wr = w ∧ (∀ i, 1 ≤ i → i < k → i < q.length → 128 ≤ nth q i ∧ nth q i ≤ 191) ∧ ((k = 1 ∧ s6 = .int .u32 ((m : Int) - 224) ∧ s7 = .int .u32 ((m : Int) - 224)) ∨ (k = 2 ∧ s6 = .int .u32 (((m : Int) - 224) * 64 + xx q 1) ∧ s7 = .int .u32 (((m : Int) - 224) * 64 + yy q 1)) ∨ (k = 3 ∧ s6 = .int .u32 ((((m : Int) - 224) * 64 + xx q 1) * 64 + xx q 2) ∧ s7 = .int .u32 ((((m : Int) - 224) * 64 + yy q 1) * 64 + yy q 2)))) (fun _ _ s8 _ => 3 - (intOf s8).toNat)
  case atStart => exact ⟨1, rfl, rfl, fun i h1 h2 => by omega, .inl ⟨rfl, rfl, rfl⟩⟩
  case round =>
    obtain ⟨k, rfl, rfl, hin, hk⟩ := hrel
    have HI : Hid (∀ i, 1 ≤ i → i < k → i < q.length → 128 ≤ nth q i ∧ nth q i ≤ 191) := hin
    clear hin
    rcases hk with hk | hk | hk
    · obtain ⟨rfl, rfl, rfl⟩ := hk
      by_cases hj : (1 : Int) < (str.size : Int)
      · have hjn : 1 < str.size := by omega
        have hm1 := HA.out 1 hjn
        have hmb := (HB.out _ (nth_mem (l := q) (i := 1) (by have := HM.out.2.1; omega)))
        obtain ⟨mj, hmj⟩ := Int.eq_ofNat_of_zero_le hmb.1
        have ej : (str[1]'hjn).toNat = mj := by omega
        have HX : Hid (xx q 1 = (mj : Int) - 128 ∧ yy q 1 = (mj : Int) - 128) := by
          have := xx_in (q := q) (j := 1) (by have := HM.out.2.1; omega)
          rw [hmj] at this; exact this
        have HJ : Hid (nth q 1 = mj) := hmj
        have hm2 : mj < 256 := by omega
        clear hm1 hmb hmj
        by_cases r1 : (mj : Int) < 128
        · have HNO : Hid (okq q = false) := okq_out (j := 1) (by omega) (by have := HM.out.2.1; omega) (by rw [HJ.out]; omega)
          go_wp2
          go_ret2
          exact ⟨⟨_, _, rfl, begQ_no HNO.out _⟩, Below.refl _ _⟩
        · by_cases r2 : (mj : Int) > 191
          · have HNO : Hid (okq q = false) := okq_out (j := 1) (by omega) (by have := HM.out.2.1; omega) (by rw [HJ.out]; omega)
            go_wp2
            go_ret2
            exact ⟨⟨_, _, rfl, begQ_no HNO.out _⟩, Below.refl _ _⟩
          · go_wp2
            go_roundw
            case rel =>
              refine ⟨2, by go_num, by first | rfl | trivial, fun i h1 h2 h3 => ?_, .inr (.inl ⟨rfl, vint (by have := HX.out; omega), vint (by have := HX.out; omega)⟩)⟩
              rcases (show i < 1 ∨ i = 1 by omega) with hi | hi
              · exact HI.out i h1 hi h3
              · subst hi; rw [HJ.out]; omega
            case measure => simp [intOf]
      · have HX : Hid (xx q 1 = 0 ∧ yy q 1 = 63) := xx_out (q := q) (j := 1) (by have := HM.out.2.1; omega)
        go_wp2
        go_roundw
        case rel =>
          refine ⟨2, by go_num, by first | rfl | trivial, fun i h1 h2 h3 => ?_, .inr (.inl ⟨rfl, vint (by have := HX.out; omega), vint (by have := HX.out; omega)⟩)⟩
          rcases (show i < 1 ∨ i = 1 by omega) with hi | hi
          · exact HI.out i h1 hi h3
          · subst hi; have := HM.out.2.1; omega
        case measure => simp [intOf]
    · obtain ⟨rfl, rfl, rfl⟩ := hk
      have b1 := xx_bd (q := q) (j := 1) (fun h => HI.out 1 (by omega) (by omega) h)
      obtain ⟨b1a, b1b, b1c, b1d⟩ := b1
      by_cases hj : (2 : Int) < (str.size : Int)
      · have hjn : 2 < str.size := by omega
        have hm1 := HA.out 2 hjn
        have hmb := (HB.out _ (nth_mem (l := q) (i := 2) (by have := HM.out.2.1; omega)))
        obtain ⟨mj, hmj⟩ := Int.eq_ofNat_of_zero_le hmb.1
        have ej : (str[2]'hjn).toNat = mj := by omega
        have HX : Hid (xx q 2 = (mj : Int) - 128 ∧ yy q 2 = (mj : Int) - 128) := by
          have := xx_in (q := q) (j := 2) (by have := HM.out.2.1; omega)
          rw [hmj] at this; exact this
        have HJ : Hid (nth q 2 = mj) := hmj
        have hm2 : mj < 256 := by omega
        clear hm1 hmb hmj
        by_cases r1 : (mj : Int) < 128
        · have HNO : Hid (okq q = false) := okq_out (j := 2) (by omega) (by have := HM.out.2.1; omega) (by rw [HJ.out]; omega)
          go_wp2
          go_ret2
          exact ⟨⟨_, _, rfl, begQ_no HNO.out _⟩, Below.refl _ _⟩
        · by_cases r2 : (mj : Int) > 191
          · have HNO : Hid (okq q = false) := okq_out (j := 2) (by omega) (by have := HM.out.2.1; omega) (by rw [HJ.out]; omega)
            go_wp2
            go_ret2
            exact ⟨⟨_, _, rfl, begQ_no HNO.out _⟩, Below.refl _ _⟩
          · go_wp2
            go_roundw
            case rel =>
              refine ⟨3, by go_num, by first | rfl | trivial, fun i h1 h2 h3 => ?_, .inr (.inr (⟨rfl, vint (by have := HX.out; omega), vint (by have := HX.out; omega)⟩))⟩
              rcases (show i < 2 ∨ i = 2 by omega) with hi | hi
              · exact HI.out i h1 hi h3
              · subst hi; rw [HJ.out]; omega
            case measure => simp [intOf]
      · have HX : Hid (xx q 2 = 0 ∧ yy q 2 = 63) := xx_out (q := q) (j := 2) (by have := HM.out.2.1; omega)
        go_wp2
        go_roundw
        case rel =>
          refine ⟨3, by go_num, by first | rfl | trivial, fun i h1 h2 h3 => ?_, .inr (.inr (⟨rfl, vint (by have := HX.out; omega), vint (by have := HX.out; omega)⟩))⟩
          rcases (show i < 2 ∨ i = 2 by omega) with hi | hi
          · exact HI.out i h1 hi h3
          · subst hi; have := HM.out.2.1; omega
        case measure => simp [intOf]
    · obtain ⟨rfl, rfl, rfl⟩ := hk
      have b1 := xx_bd (q := q) (j := 1) (fun h => HI.out 1 (by omega) (by omega) h)
      obtain ⟨b1a, b1b, b1c, b1d⟩ := b1
      have b2 := xx_bd (q := q) (j := 2) (fun h => HI.out 2 (by omega) (by omega) h)
      obtain ⟨b2a, b2b, b2c, b2d⟩ := b2
      go_wp2_with fail
      refine (some3 _ _ _ (by omega)).mono ?_
      rintro e w2 ⟨rfl, hb⟩
      go_wp2
      go_ret2
      have := begAll3 (q := q) HM.out.2.2 HLE.out (by rw [HM.out.1]; omega) (by rw [HM.out.1]; omega) (fun i h1 h2 => HI.out i h1 (by have := HLE.out; omega) h2)
      rw [show lowQ 3 q = ((((m : Int) - 224) * 64 + xx q 1) * 64 + xx q 2) by simp only [lowQ]; rw [HM.out.1]; simp, show highQ 3 q = ((((m : Int) - 224) * 64 + yy q 1) * 64 + yy q 2) by simp only [highQ]; rw [HM.out.1]; simp] at this
      exact ⟨⟨_, _, rfl, this⟩, hb⟩

set_option maxHeartbeats 8000000 in
set_option maxRecDepth 100000 in
theorem begins4 (str : ByteArray) (q : List Int) (m : Nat) (w : World) (h00 : 0 < str.size) (e0 : (str[0]'h00).toNat = m) (HN : Hid (∀ n, needN (nth q 0) ≤ n → 1 ≤ n → q.length ≤ n)) (HA : Hid (∀ j (hj : j < str.size), ((str[j]'hj).toNat : Int) = nth q j))
    (HB : Hid (∀ x ∈ q, 0 ≤ x ∧ x < 256)) (HM : Hid (nth q 0 = m ∧ q.length = str.size ∧ 1 ≤ q.length)) (HOK : Hid (needN m = 0 → okq q = false)) (c0 : 240 ≤ m) (c1 : m < 248) :
    Calls Tryd.prog 29 #[.string str] w fun e w' => BegP q e ∧ Below w.heap.size w w' := by
  have hle : q.length ≤ 4 := HN.out 4 (by rw [HM.out.1]; have := needN_of m; omega) (by omega)
  have hsz : (str.size : Int) ≤ 4 := by have := HM.out.2.1; omega
  have HLE : Hid (q.length ≤ 4) := hle
  clear hle
  have d0 : 240 ≤ (m : Int) := by omega
  have d1 : (m : Int) < 248 := by omega
  clear c0 c1
  go_enter Tryd.func29, Tryd.ntmps29
  go_wp2
  go_loopw [6, 7, 8] (fun s6 s7 s8 wr => ∃ k : Nat, s8 = .int .i64 k ∧ wr = w ∧ (∀ i, 1 ≤ i → i < k → i < q.length → 128 ≤ nth q i ∧ nth q i ≤ 191) ∧ ((k = 1 ∧ s6 = .int .u32 ((m : Int) - 240) ∧ s7 = .int .u32 ((m : Int) - 240)) ∨ (k = 2 ∧ s6 = .int .u32 (((m : Int) - 240) * 64 + xx q 1) ∧ s7 = .int .u32 (((m : Int) - 240) * 64 + yy q 1)) ∨ (k = 3 ∧ s6 = .int .u32 ((((m : Int) - 240) * 64 + xx q 1) * 64 + xx q 2) ∧ s7 = .int .u32 ((((m : Int) - 240) * 64 + yy q 1) * 64 + yy q 2)) ∨ (k = 4 ∧ s6 = .int .u32 (((((m : Int) - 240) * 64 + xx q 1) * 64 + xx q 2) * 64 + xx q 3) ∧ s7 = .int .u32 (((((m : Int) - 240) * 64 + yy q 1) * 64 + yy q 2) * 64 + yy q 3)))) (fun _ _ s8 _ => 4 - (intOf s8).toNat)
  case atStart => exact ⟨1, rfl, rfl, fun i h1 h2 => by omega, .inl ⟨rfl, rfl, rfl⟩⟩
  case round =>
    obtain ⟨k, rfl, rfl, hin, hk⟩ := hrel
    have HI : Hid (∀ i, 1 ≤ i → i < k → i < q.length → 128 ≤ nth q i ∧ nth q i ≤ 191) := hin
    clear hin
    rcases hk with hk | hk | hk | hk
    · obtain ⟨rfl, rfl, rfl⟩ := hk
      by_cases hj : (1 : Int) < (str.size : Int)
      · have hjn : 1 < str.size := by omega
        have hm1 := HA.out 1 hjn
        have hmb := (HB.out _ (nth_mem (l := q) (i := 1) (by have := HM.out.2.1; omega)))
        obtain ⟨mj, hmj⟩ := Int.eq_ofNat_of_zero_le hmb.1
        have ej : (str[1]'hjn).toNat = mj := by omega
        have HX : Hid (xx q 1 = (mj : Int) - 128 ∧ yy q 1 = (mj : Int) - 128) := by
          have := xx_in (q := q) (j := 1) (by have := HM.out.2.1; omega)
          rw [hmj] at this; exact this
        have HJ : Hid (nth q 1 = mj) := hmj
        have hm2 : mj < 256 := by omega
        clear hm1 hmb hmj
        by_cases r1 : (mj : Int) < 128
        · have HNO : Hid (okq q = false) := okq_out (j := 1) (by omega) (by have := HM.out.2.1; omega) (by rw [HJ.out]; omega)
          go_wp2
          go_ret2
          exact ⟨⟨_, _, rfl, begQ_no HNO.out _⟩, Below.refl _ _⟩
        · by_cases r2 : (mj : Int) > 191
          · have HNO : Hid (okq q = false) := okq_out (j := 1) (by omega) (by have := HM.out.2.1; omega) (by rw [HJ.out]; omega)
            go_wp2
            go_ret2
            exact ⟨⟨_, _, rfl, begQ_no HNO.out _⟩, Below.refl _ _⟩
          · go_wp2
            go_roundw
            case rel =>
              refine ⟨2, by go_num, by first | rfl | trivial, fun i h1 h2 h3 => ?_, .inr (.inl ⟨rfl, vint (by have := HX.out; omega), vint (by have := HX.out; omega)⟩)⟩
              rcases (show i < 1 ∨ i = 1 by omega) with hi | hi
              · exact HI.out i h1 hi h3
              · subst hi; rw [HJ.out]; omega
            case measure => simp [intOf]
      · have HX : Hid (xx q 1 = 0 ∧ yy q 1 = 63) := xx_out (q := q) (j := 1) (by have := HM.out.2.1; omega)
        go_wp2
        go_roundw
        case rel =>
          refine ⟨2, by go_num, by first | rfl | trivial, fun i h1 h2 h3 => ?_, .inr (.inl ⟨rfl, vint (by have := HX.out; omega), vint (by have := HX.out; omega)⟩)⟩
          rcases (show i < 1 ∨ i = 1 by omega) with hi | hi
          · exact HI.out i h1 hi h3
          · subst hi; have := HM.out.2.1; omega
        case measure => simp [intOf]
    · obtain ⟨rfl, rfl, rfl⟩ := hk
      have b1 := xx_bd (q := q) (j := 1) (fun h => HI.out 1 (by omega) (by omega) h)
      obtain ⟨b1a, b1b, b1c, b1d⟩ := b1
      by_cases hj : (2 : Int) < (str.size : Int)
      · have hjn : 2 < str.size := by omega
        have hm1 := HA.out 2 hjn
        have hmb := (HB.out _ (nth_mem (l := q) (i := 2) (by have := HM.out.2.1; omega)))
        obtain ⟨mj, hmj⟩ := Int.eq_ofNat_of_zero_le hmb.1
        have ej : (str[2]'hjn).toNat = mj := by omega
        have HX : Hid (xx q 2 = (mj : Int) - 128 ∧ yy q 2 = (mj : Int) - 128) := by
          have := xx_in (q := q) (j := 2) (by have := HM.out.2.1; omega)
          rw [hmj] at this; exact this
        have HJ : Hid (nth q 2 = mj) := hmj
        have hm2 : mj < 256 := by omega
        clear hm1 hmb hmj
        by_cases r1 : (mj : Int) < 128
        · have HNO : Hid (okq q = false) := okq_out (j := 2) (by omega) (by have := HM.out.2.1; omega) (by rw [HJ.out]; omega)
          go_wp2
          go_ret2
          exact ⟨⟨_, _, rfl, begQ_no HNO.out _⟩, Below.refl _ _⟩
        · by_cases r2 : (mj : Int) > 191
          · have HNO : Hid (okq q = false) := okq_out (j := 2) (by omega) (by have := HM.out.2.1; omega) (by rw [HJ.out]; omega)
            go_wp2
            go_ret2
            exact ⟨⟨_, _, rfl, begQ_no HNO.out _⟩, Below.refl _ _⟩
          · go_wp2
            go_roundw
            case rel =>
              refine ⟨3, by go_num, by first | rfl | trivial, fun i h1 h2 h3 => ?_, .inr (.inr (.inl ⟨rfl, vint (by have := HX.out; omega), vint (by have := HX.out; omega)⟩))⟩
              rcases (show i < 2 ∨ i = 2 by omega) with hi | hi
              · exact HI.out i h1 hi h3
              · subst hi; rw [HJ.out]; omega
            case measure => simp [intOf]
      · have HX : Hid (xx q 2 = 0 ∧ yy q 2 = 63) := xx_out (q := q) (j := 2) (by have := HM.out.2.1; omega)
        go_wp2
        go_roundw
        case rel =>
          refine ⟨3, by go_num, by first | rfl | trivial, fun i h1 h2 h3 => ?_, .inr (.inr (.inl ⟨rfl, vint (by have := HX.out; omega), vint (by have := HX.out; omega)⟩))⟩
          rcases (show i < 2 ∨ i = 2 by omega) with hi | hi
          · exact HI.out i h1 hi h3
          · subst hi; have := HM.out.2.1; omega
        case measure => simp [intOf]
    · obtain ⟨rfl, rfl, rfl⟩ := hk
      have b1 := xx_bd (q := q) (j := 1) (fun h => HI.out 1 (by omega) (by omega) h)
      obtain ⟨b1a, b1b, b1c, b1d⟩ := b1
      have b2 := xx_bd (q := q) (j := 2) (fun h => HI.out 2 (by omega) (by omega) h)
      obtain ⟨b2a, b2b, b2c, b2d⟩ := b2
      by_cases hj : (3 : Int) < (str.size : Int)
      · have hjn : 3 < str.size := by omega
        have hm1 := HA.out 3 hjn
        have hmb := (HB.out _ (nth_mem (l := q) (i := 3) (by have := HM.out.2.1; omega)))
        obtain ⟨mj, hmj⟩ := Int.eq_ofNat_of_zero_le hmb.1
        have ej : (str[3]'hjn).toNat = mj := by omega
        have HX : Hid (xx q 3 = (mj : Int) - 128 ∧ yy q 3 = (mj : Int) - 128) := by
          have := xx_in (q := q) (j := 3) (by have := HM.out.2.1; omega)
          rw [hmj] at this; exact this
        have HJ : Hid (nth q 3 = mj) := hmj
        have hm2 : mj < 256 := by omega
        clear hm1 hmb hmj
        by_cases r1 : (mj : Int) < 128
        · have HNO : Hid (okq q = false) := okq_out (j := 3) (by omega) (by have := HM.out.2.1; omega) (by rw [HJ.out]; omega)
          go_wp2
          go_ret2
          exact ⟨⟨_, _, rfl, begQ_no HNO.out _⟩, Below.refl _ _⟩
        · by_cases r2 : (mj : Int) > 191
          · have HNO : Hid (okq q = false) := okq_out (j := 3) (by omega) (by have := HM.out.2.1; omega) (by rw [HJ.out]; omega)
            go_wp2
            go_ret2
            exact ⟨⟨_, _, rfl, begQ_no HNO.out _⟩, Below.refl _ _⟩
          · go_wp2
            go_roundw
            case rel =>
              refine ⟨4, by go_num, by first | rfl | trivial, fun i h1 h2 h3 => ?_, .inr (.inr (.inr (⟨rfl, vint (by have := HX.out; omega), vint (by have := HX.out; omega)⟩)))⟩
              rcases (show i < 3 ∨ i = 3 by omega) with hi | hi
              · exact HI.out i h1 hi h3
              · subst hi; rw [HJ.out]; omega
            case measure => simp [intOf]
      · have HX : Hid (xx q 3 = 0 ∧ yy q 3 = 63) := xx_out (q := q) (j := 3) (by have := HM.out.2.1; omega)
        go_wp2
        go_roundw
        case rel =>
          refine ⟨4, by go_num, by first | rfl | trivial, fun i h1 h2 h3 => ?_, .inr (.inr (.inr (⟨rfl, vint (by have := HX.out; omega), vint (by have := HX.out; omega)⟩)))⟩
          rcases (show i < 3 ∨ i = 3 by omega) with hi | hi
          · exact HI.out i h1 hi h3
          · subst hi; have := HM.out.2.1; omega
        case measure => simp [intOf]
    · obtain ⟨rfl, rfl, rfl⟩ := hk
      have b1 := xx_bd (q := q) (j := 1) (fun h => HI.out 1 (by omega) (by omega) h)
      obtain ⟨b1a, b1b, b1c, b1d⟩ := b1
      have b2 := xx_bd (q := q) (j := 2) (fun h => HI.out 2 (by omega) (by omega) h)
      obtain ⟨b2a, b2b, b2c, b2d⟩ := b2
      have b3 := xx_bd (q := q) (j := 3) (fun h => HI.out 3 (by omega) (by omega) h)
      obtain ⟨b3a, b3b, b3c, b3d⟩ := b3
      go_wp2_with fail
      refine (some4 _ _ _ (by omega)).mono ?_
      rintro e w2 ⟨rfl, hb⟩
      go_wp2
      go_ret2
      have := begAll4 (q := q) HM.out.2.2 HLE.out (by rw [HM.out.1]; omega) (by rw [HM.out.1]; omega) (fun i h1 h2 => HI.out i h1 (by have := HLE.out; omega) h2)
      rw [show lowQ 4 q = (((((m : Int) - 240) * 64 + xx q 1) * 64 + xx q 2) * 64 + xx q 3) by simp only [lowQ]; rw [HM.out.1]; simp, show highQ 4 q = (((((m : Int) - 240) * 64 + yy q 1) * 64 + yy q 2) * 64 + yy q 3) by simp only [highQ]; rw [HM.out.1]; simp] at this
      exact ⟨⟨_, _, rfl, this⟩, hb⟩

set_option maxHeartbeats 8000000 in
set_option maxRecDepth 100000 in
theorem beginsY (str : ByteArray) (q : List Int) (m : Nat) (w : World) (h00 : 0 < str.size) (e0 : (str[0]'h00).toNat = m) (HN : Hid (∀ n, needN (nth q 0) ≤ n → 1 ≤ n → q.length ≤ n)) (HA : Hid (∀ j (hj : j < str.size), ((str[j]'hj).toNat : Int) = nth q j))
    (HB : Hid (∀ x ∈ q, 0 ≤ x ∧ x < 256)) (HM : Hid (nth q 0 = m ∧ q.length = str.size ∧ 1 ≤ q.length)) (HOK : Hid (needN m = 0 → okq q = false)) (c0 : 248 ≤ m) (c1 : m < 256) :
    Calls Tryd.prog 29 #[.string str] w fun e w' => BegP q e ∧ Below w.heap.size w w' := by
  have d0 : 128 ≤ (m : Int) := by omega
  have d1 : ¬ (m : Int) < 224 := by omega
  have d2 : ¬ (m : Int) < 240 := by omega
  have d3 : ¬ (m : Int) < 248 := by omega
  have d4 : 192 ≤ (m : Int) := by omega
  have d5 : 224 ≤ (m : Int) := by omega
  have d6 : 240 ≤ (m : Int) := by omega
  have d7 : (m : Int) < 256 := by omega
  have hno : okq q = false := HOK.out (by have := needN_of m; omega)
  have HNO : Hid (okq q = false) := hno
  clear hno c0 c1
  go_enter Tryd.func29, Tryd.ntmps29
  go_wp2
  go_ret2
  exact ⟨⟨_, _, rfl, begQ_no HNO.out _⟩, Below.refl _ _⟩

theorem begins_any (str : ByteArray) (s : List Int) (b : Int) (w : World) (hq : bytesL str = s ++ [b]) (hs : Good s) :
    Calls Tryd.prog 29 #[.string str] w fun e w' => BegP (s ++ [b]) e ∧ Below w.heap.size w w' := by
  obtain ⟨q, hqq⟩ : ∃ q, s ++ [b] = q := ⟨_, rfl⟩
  rw [hqq] at hq ⊢
  have hlen : q.length = str.size := by rw [← hq, bytesL_length]
  have hl1 : 1 ≤ q.length := by rw [← hqq]; simp
  have hby := bytesL_byte str
  rw [hq] at hby
  have hnl : ∀ n, needN (nth q 0) ≤ n → 1 ≤ n → q.length ≤ n := by
    intro n hn hn1
    rcases hs with rfl | ⟨_, h2⟩
    · rw [← hqq]; simp; omega
    · have e : nth q 0 = nth s 0 := by
        rw [← hqq]
        exact nth_append_left (by
          rcases Nat.eq_zero_or_pos s.length with h0 | h0
          · have : s = [] := List.length_eq_zero_iff.1 h0
            subst this; simp [okq] at *
          · exact h0)
      rw [e] at hn
      rw [← hqq]; simp; omega
  have hat : ∀ j (hj : j < str.size), ((str[j]'hj).toNat : Int) = nth q j := fun j hj => by rw [str_nth str j hj, hq]
  have hneed := needN_of (nth q 0)
  obtain ⟨m, hm⟩ := Int.eq_ofNat_of_zero_le (hby _ (nth_mem (l := q) (i := 0) (by omega))).1
  have hm2 := (hby _ (nth_mem (l := q) (i := 0) (by omega))).2
  have h00 : 0 < str.size := by omega
  have e0 : (str[0]'h00).toNat = m := by have := hat 0 h00; omega
  rw [hm] at hneed hm2
  have HN : Hid (∀ n, needN (nth q 0) ≤ n → 1 ≤ n → q.length ≤ n) := hnl
  have HA : Hid (∀ j (hj : j < str.size), ((str[j]'hj).toNat : Int) = nth q j) := hat
  have HB : Hid (∀ x ∈ q, 0 ≤ x ∧ x < 256) := hby
  have HM : Hid (nth q 0 = m ∧ q.length = str.size ∧ 1 ≤ q.length) := ⟨hm, hlen, hl1⟩
  have HNE : Hid ((((m : Int) < 128 → needN m = 1) ∧ (128 ≤ (m : Int) → (m : Int) < 194 → needN m = 0) ∧ (194 ≤ (m : Int) → (m : Int) < 224 → needN m = 2) ∧ (224 ≤ (m : Int) → (m : Int) < 240 → needN m = 3) ∧ (240 ≤ (m : Int) → (m : Int) < 245 → needN m = 4) ∧ (245 ≤ (m : Int) → needN m = 0))) := hneed
  have HOK : Hid (needN m = 0 → okq q = false) := fun h0 => by
    rw [Bool.eq_false_iff]; intro ho; have := okq_len ho; rw [HM.out.1] at this; omega
  clear hq hqq hs hby hnl hat hneed hm hlen hl1
  rcases (show m < 128 ∨ (128 ≤ m ∧ m < 192) ∨ (192 ≤ m ∧ m < 224) ∨ (224 ≤ m ∧ m < 240) ∨ (240 ≤ m ∧ m < 248) ∨ 248 ≤ m by omega) with h | h | h | h | h | h
  · exact begins1 str q m w h00 e0 HN HA HB HM HOK h
  · exact beginsX str q m w h00 e0 HN HA HB HM HOK h.1 h.2
  · exact begins2 str q m w h00 e0 HN HA HB HM HOK h.1 h.2
  · exact begins3 str q m w h00 e0 HN HA HB HM HOK h.1 h.2
  · exact begins4 str q m w h00 e0 HN HA HB HM HOK h.1 h.2
  · exact beginsY str q m w h00 e0 HN HA HB HM HOK h (by omega)
end U8
end Go.Proofs.YtknebngapfakjaaDoor
