/-
  The contract of the document's Begins of layer 5, as a walk over the translated text. The condition: one to four bytes.
-/
import Derived.Test.YtafigcmiibemeaaU32Rd
import Derived.OwnWalk
namespace Go.Proofs.Ytafigcmiibemeaa
open Go.ChangeShapes Go.WideShapes Go.ChangeAt Go.RowKit
namespace U32
open Bas Sca Stp Scn Cod
set_option linter.unusedVariables false
variable {π : Par}

/-- The byte at a place of a text. -/
theorem byte_at {str : ByteArray} {q : List Int} (hq : bytesL str = q) {j : Nat} (hj : j < q.length) : ∃ h : j < str.size, ∃ m : Nat, (str[j]'h).toNat = m ∧ nth q j = m ∧ m < 256 := by
  subst hq
  have h : j < str.size := by rw [← bytesL_length]; exact hj
  refine ⟨h, (str[j]'h).toNat, rfl, (str_nth str j h).symm, ?_⟩
  have := bytesL_byte str _ (nth_mem hj)
  rw [← str_nth str j h] at this
  omega
/-- The number, from its highest byte on. -/
def accN (π : Par) (s : List Int) : Nat → Int
  | 0 => 0
  | i + 1 => accN π s i * 256 + nth s (if π = true then i else 3 - i)
theorem acc_all {s : List Int} (h : s.length ≤ 4) : accN π s 4 = numN π s := by
  match s, h with
  | [], _ => cases π <;> simp [accN, numN, numA, nth]
  | [a], _ => rw [num1]; cases π <;> simp [accN, nth] <;> omega
  | [a, b], _ => rw [num2]; cases π <;> simp [accN, nth] <;> omega
  | [a, b, c], _ => rw [num3]; cases π <;> simp [accN, nth] <;> omega
  | [a, b, c, d], _ => rw [num4]; cases π <;> simp [accN, nth] <;> omega
theorem nth_bd {s : List Int} (hb : ∀ x ∈ s, 0 ≤ x ∧ x < 256) (i : Nat) : 0 ≤ nth s i ∧ nth s i < 256 := by
  by_cases h : i < s.length
  · exact hb _ (nth_mem h)
  · have : nth s i = 0 := by unfold nth; rw [List.getElem?_eq_none (by omega)]; rfl
    omega
theorem acc_bd {s : List Int} (hb : ∀ x ∈ s, 0 ≤ x ∧ x < 256) : (0 ≤ accN π s 0 ∧ accN π s 0 < 1) ∧ (0 ≤ accN π s 1 ∧ accN π s 1 < 256) ∧ (0 ≤ accN π s 2 ∧ accN π s 2 < 65536) ∧ (0 ≤ accN π s 3 ∧ accN π s 3 < 16777216) ∧ (0 ≤ accN π s 4 ∧ accN π s 4 < 4294967296) := by
  have h0 := nth_bd hb (if π = true then 0 else 3 - 0)
  have h1 := nth_bd hb (if π = true then 1 else 3 - 1)
  have h2 := nth_bd hb (if π = true then 2 else 3 - 2)
  have h3 := nth_bd hb (if π = true then 3 else 3 - 3)
  have e0 : accN π s 0 = 0 := rfl
  have e1 : accN π s 1 = accN π s 0 * 256 + nth s (if π = true then 0 else 3 - 0) := rfl
  have e2 : accN π s 2 = accN π s 1 * 256 + nth s (if π = true then 1 else 3 - 1) := rfl
  have e3 : accN π s 3 = accN π s 2 * 256 + nth s (if π = true then 2 else 3 - 2) := rfl
  have e4 : accN π s 4 = accN π s 3 * 256 + nth s (if π = true then 3 else 3 - 3) := rfl
  omega
theorem acc_bdk {s : List Int} (hb : ∀ x ∈ s, 0 ≤ x ∧ x < 256) {k : Nat} (hk : k < 4) : 0 ≤ accN π s k ∧ accN π s k < 16777216 := by
  have h := acc_bd (π := π) hb
  have : k = 0 ∨ k = 1 ∨ k = 2 ∨ k = 3 := by omega
  rcases this with rfl | rfl | rfl | rfl <;> omega
/-- The scalar that Begins tells. -/
def begC (π : Par) (s : List Int) : Int := if isB (numN π s) = true then numN π s else if π = false ∧ s.length = 2 then numN π s + 65536 else 0
theorem beg_is {s : List Int} (hl : 1 ≤ s.length ∧ s.length ≤ 4) (hb : ∀ x ∈ s, 0 ≤ x ∧ x < 256) : begN π s = (isB (numN π s) || (!π && decide (s.length = 2))) := by
  match s, hl with
  | [a], _ =>
    have ha := hb a (by simp)
    unfold begN; rw [num1]
    cases π
    · rw [isB_true (by simp [hasP]; omega), isB_true (by simp; omega)]; rfl
    · by_cases h : a = 0
      · subst h; decide
      · rw [isB_false (by simp [hasP]; omega), isB_false (by simp; omega)]; rfl
  | [a, b], _ =>
    have ha := hb a (by simp); have hb' := hb b (by simp)
    unfold begN; rw [num2]
    cases π
    · rw [isB_true (by simp [hasP]; omega)]; simp
    · simp [hasP]
  | [a, b, c], _ => unfold begN; cases π <;> simp [hasP]
  | [a, b, c, d], _ => unfold begN; cases π <;> simp [hasP]
  | a :: b :: c :: d :: e :: r, hl => simp at hl
set_option maxHeartbeats 8000000 in
set_option maxRecDepth 100000 in
theorem rBegins_any (str : ByteArray) (s : List Int) (w : World) (hq : bytesL str = s) (hl : 1 ≤ s.length ∧ s.length ≤ 4) :
    Calls Try.prog 29 #[.string str, .bool π] w fun e w' => e = .returned (.tuple #[.int .u32 (begC π s), .bool (begN π s)]) ∧ w' = w := by
  have hby : ∀ x ∈ s, 0 ≤ x ∧ x < 256 := by rw [← hq]; exact bytesL_byte str
  have HBG : Hid (begN π s = (isB (numN π s) || (!π && decide (s.length = 2)))) := beg_is hl hby
  have hsz : str.size = s.length := by rw [← bytesL_length, hq]
  have HQ : Hid (bytesL str = s ∧ (∀ x ∈ s, 0 ≤ x ∧ x < 256) ∧ str.size = s.length ∧ 1 ≤ s.length ∧ s.length ≤ 4) := ⟨hq, hby, hsz, hl.1, hl.2⟩
  clear hq hby hsz hl
  go_enter Try.func29, Try.ntmps29
  go_wp2
  go_loopw [6, 7] (fun c i wr => ∃ k : Nat, i = .int .i64 k ∧ k ≤ 4 ∧ c = .int .u32 (accN π s k) ∧ wr = w) (fun _ i _ => 4 - (intOf i).toNat)
  case atStart => exact ⟨0, rfl, Nat.zero_le _, rfl, rfl⟩
  case round =>
    obtain ⟨k, rfl, hk, rfl, rfl⟩ := hrel
    by_cases hlt : (k : Int) < 4
    · have hk4 : k < 4 := by omega
      have hab := acc_bdk (π := π) HQ.out.2.1 hk4
      obtain ⟨j, hj⟩ : ∃ j : Nat, (if π = true then k else 3 - k) = j := ⟨_, rfl⟩
      have hac : accN π s (k + 1) = accN π s k * 256 + nth s j := by rw [← hj]; rfl
      have HAC : Hid (accN π s (k + 1) = accN π s k * 256 + nth s j) := hac
      obtain ⟨A, hA⟩ : ∃ A, accN π s k = A := ⟨_, rfl⟩
      rw [hA] at hab HAC ⊢
      obtain ⟨a0, a1⟩ := hab
      clear hac hA
      by_cases hjl : j < s.length
      · obtain ⟨h0, m, e0, n0, l0⟩ := byte_at HQ.out.1 hjl
        have h0' : (j : Int) < (str.size : Int) := by omega
        have HM : Hid (nth s j = m) := n0
        have hw0 : IntKind.u32.wrap (m : Int) = m := by rw [IntKind.wrap_u32]; omega
        have hwm : IntKind.u32.wrap (A * 256 + m) = A * 256 + m := by rw [IntKind.wrap_u32]; omega
        clear n0 hjl
        cases π
        · have hkj : k = 3 - j := by simp at hj; omega
          have hj3 : j ≤ 3 := by simp at hj; omega
          have hw3 : (3 : Int) - (k : Int) = (j : Int) := by omega
          clear hj hkj
          go_wp2
          go_roundw
          case rel => exact ⟨k + 1, by go_num, by omega, by rw [HAC.out, HM.out], trivial⟩
          case measure => simp [intOf]; omega
        · have hkj : k = j := by simpa using hj
          subst hkj
          clear hj
          go_wp2
          go_roundw
          case rel => exact ⟨k + 1, by go_num, by omega, by rw [HAC.out, HM.out], trivial⟩
          case measure => simp [intOf]; omega
      · have hz := HQ.out.2.2.1
        have h0' : ¬ (j : Int) < (str.size : Int) := by omega
        have HM : Hid (nth s j = 0) := by show _ = _; unfold nth; rw [List.getElem?_eq_none (by omega)]; rfl
        have hwm : IntKind.u32.wrap (A * 256) = A * 256 := by rw [IntKind.wrap_u32]; omega
        clear hjl hz
        cases π
        · have hkj : k = 3 - j := by simp at hj; omega
          have hj3 : j ≤ 3 := by simp at hj; omega
          have hw3 : (3 : Int) - (k : Int) = (j : Int) := by omega
          clear hj hkj
          go_wp2
          go_roundw
          case rel => exact ⟨k + 1, by go_num, by omega, by rw [HAC.out, HM.out]; simp, trivial⟩
          case measure => simp [intOf]; omega
        · have hkj : k = j := by simpa using hj
          subst hkj
          clear hj
          go_wp2
          go_roundw
          case rel => exact ⟨k + 1, by go_num, by omega, by rw [HAC.out, HM.out]; simp, trivial⟩
          case measure => simp [intOf]; omega
    · have hk4 : k = 4 := by omega
      subst hk4
      have hall := acc_all (π := π) HQ.out.2.2.2.2
      have hbd := (acc_bd (π := π) HQ.out.2.1).2.2.2.2
      rw [hall] at hbd ⊢
      have HC : Hid (begC π s = if isB (numN π s) = true then numN π s else if π = false ∧ s.length = 2 then numN π s + 65536 else 0) := rfl
      have HN2 : Hid (s.length = 2 → numN π s = if π = true then nth s 0 * 16777216 + nth s 1 * 65536 else nth s 0 + nth s 1 * 256) := fun h => by
        match s, h with
        | [a, b], _ => rw [num2]; rfl
      obtain ⟨M, hM⟩ : ∃ M, numN π s = M := ⟨_, rfl⟩
      rw [hM] at HC HBG HN2 hbd ⊢
      obtain ⟨m0, m1⟩ := hbd
      clear hall hM hlt
      go_wp2_with fail
      refine (rIs_any M wr).mono ?_
      rintro e w2 ⟨rfl, rfl⟩
      by_cases hb : isB M = true
      · rw [hb]
        rw [hb] at HBG HC
        clear hb
        go_wp2
        go_ret2
        exact ⟨by rw [HBG.out, HC.out]; rfl, rfl⟩
      · have hb' : isB M = false := by simpa using hb
        have hni : ¬ (M ≤ 1114111 ∧ ¬ (55296 ≤ M ∧ M ≤ 57343)) := fun h => hb (isB_true h)
        rw [hb']
        rw [hb'] at HBG HC
        have hz := HQ.out.2.2.1
        by_cases h2 : s.length = 2
        · have hz2 : ((str.size : Int) == 2) = true := by rw [hz, h2]; rfl
          obtain ⟨i0, p0, e0, q0, l0⟩ := byte_at HQ.out.1 (j := 0) (by omega)
          obtain ⟨i1, p1, e1, q1, l1⟩ := byte_at HQ.out.1 (j := 1) (by omega)
          have hn2 := HN2.out h2
          rw [q0, q1] at hn2
          have z0 : (0 : Int) < (str.size : Int) := by omega
          have z1 : (1 : Int) < (str.size : Int) := by omega
          cases π
          · have hM2 : M < 65536 := by rw [hn2]; simp; omega
            have HE : Hid (begC false s = M + 65536 ∧ begN false s = true) := ⟨by rw [HC.out]; simp [h2], by rw [HBG.out]; simp [h2]⟩
            clear hb hb' hni hn2 h2 q0 q1 hz HN2
            go_wp2
            go_ret2
            exact ⟨by rw [HE.out.1, HE.out.2]; rfl, rfl⟩
          · have HE : Hid (begC true s = 0 ∧ begN true s = false) := ⟨by rw [HC.out]; simp, by rw [HBG.out]; simp⟩
            simp only [if_true] at hn2
            by_cases hp : p0 = 0
            · subst hp
              have hp1 : ¬ (p1 : Int) ≤ 16 := by omega
              clear hb hb' hni hn2 h2 q0 q1 hz HN2 
              go_wp2
              go_ret2
              exact ⟨by rw [HE.out.1, HE.out.2]; rfl, rfl⟩
            · have hp0 : ((p0 : Int) == 0) = false := by simp; exact hp
              clear hb hb' hni hn2 h2 q0 q1 hz HN2 hp
              go_wp2
              go_ret2
              exact ⟨by rw [HE.out.1, HE.out.2]; rfl, rfl⟩
        · have hz2 : ((str.size : Int) == 2) = false := by rw [hz]; simp; omega
          have HE : Hid (begC π s = 0 ∧ begN π s = false) := ⟨by rw [HC.out]; simp [h2], by rw [HBG.out]; simp [h2]⟩
          clear hb hb' hni h2 hz HN2
          cases π
          · go_wp2
            go_ret2
            exact ⟨by rw [HE.out.1, HE.out.2]; rfl, rfl⟩
          · go_wp2
            go_ret2
            exact ⟨by rw [HE.out.1, HE.out.2]; rfl, rfl⟩
end U32
end Go.Proofs.Ytafigcmiibemeaa
