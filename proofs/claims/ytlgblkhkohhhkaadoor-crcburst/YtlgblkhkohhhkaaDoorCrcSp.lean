/-
  The contract of the document's Spoil of layer 16, as a walk over the translated text. The condition: texts are of at most a hundred thousand bytes; the burst's place is in the text or at its end.
-/
import Derived.Test.YtlgblkhkohhhkaaDoorCrcRf
import Derived.Lib.ConvBytes
namespace Go.Proofs.YtlgblkhkohhhkaaDoor
open Go.ChangeShapes Go.WideShapes Go.ChangeAt Go.RowKit
namespace Crc
open Bas Txt
set_option linter.unusedVariables false

/-- Bytes in new memory, that may be written. -/
structure BufAt (w wr : World) (g n : Nat) (l : List Int) : Prop where
  len : l.length = n
  cell : ∀ j, j < n → wr.cell? ⟨g, j, none⟩ = some (.int .u8 (nth l j))
  free : ∀ j, j < n → wr.frozen? ⟨g, j, none⟩ = false
  ge : w.heap.size ≤ g
  lt : g < wr.heap.size
  bel : Below w.heap.size w wr
  byte : ∀ x ∈ l, 0 ≤ x ∧ x < 256
theorem BufAt.set {w wr : World} {g n : Nat} {l : List Int} (h : BufAt w wr g n l) {j : Nat} (hj : j < n) {x : Int} (hx : 0 ≤ x ∧ x < 256) : BufAt w (wr.setCell ⟨g, j, none⟩ (.int .u8 x)) g n (l.set j x) := by
  have hc := chg_setCell wr g j (.int .u8 x)
  refine ⟨by rw [List.length_set, h.len], fun i hi => ?_, fun i hi => (hc.frozen g i h.lt).trans (h.free i hi), h.ge, Nat.lt_of_lt_of_le h.lt hc.size, h.bel.trans (hc.below h.bel.size (fun k o hk hh => by have := hh.1; have := h.ge; omega)), fun y hy => ?_⟩
  · rw [nth_set l j i x (by rw [h.len]; exact hj)]
    by_cases e : i = j
    · subst e; rw [if_pos rfl]; exact World.cell?_setCell_same _ _ _ (h.cell i hi)
    · rw [if_neg e]; exact hc.cellAt (h.cell i hi) (by omega)
  · rcases List.mem_or_eq_of_mem_set hy with hy | rfl
    · exact h.byte y hy
    · exact hx
theorem BufAt.row {w wr : World} {g n : Nat} {l : List Int} (h : BufAt w wr g n l) : Row .u8 wr (some ⟨g, 0, none⟩) l :=
  ⟨g, 0, fun _ => rfl, fun i hi => by rw [Nat.zero_add]; exact h.cell i (by rw [← h.len]; exact hi)⟩
/-- The bytes of a text, in new memory. -/
theorem run_buf (w : World) (s : ByteArray) : ∃ c W, (convert 9 38 (.string s)).run Tryd.prog w = .ok (.slice (some ⟨w.heap.size, 0, none⟩) s.size c) W ∧ BufAt w W w.heap.size s.size (bytesL s) := by
  have hsz : s.size ≤ (Lib.bytesCells w 5 s).size := by
    unfold Lib.bytesCells
    rw [Array.size_append, Array.size_map]
    exact Nat.le_add_right _ _
  refine ⟨_, _, Lib.run_convert_string_bytes (P := Tryd.prog) w 9 38 5 s (u := .string) Tryd.underlying9 Tryd.underlying38 Tryd.underlying5, bytesL_length s, fun j hj => ?_, fun j hj => ?_, Nat.le_refl _, by rw [Lib.bytesWorld_size]; omega, ⟨rfl, rfl, rfl, ?_, fun k hk => Lib.bytesWorld_at_old w 5 s k hk⟩, bytesL_byte s⟩
  · rw [Lib.bytesWorld_cell w 5 s j hj, ← str_nth s j hj]
    have h' : j < s.data.size := hj
    have e : s.data.toList.getD j 0 = s[j]'hj := by
      rw [List.getD_eq_getElem?_getD, Array.getElem?_toList, Array.getElem?_eq_getElem h']; rfl
    rw [e]
  · simp only [World.frozen?, Lib.bytesWorld_at_new]
    have : ¬ (Lib.bytesCells w 5 s).size ≤ j := by omega
    simp [this]
  · rw [Lib.bytesWorld_size]; omega
theorem pow_byte {r : Nat} (h : r < 8) : 0 < 2 ^ r ∧ 2 ^ r ≤ 128 := by
  have : r = 0 ∨ r = 1 ∨ r = 2 ∨ r = 3 ∨ r = 4 ∨ r = 5 ∨ r = 6 ∨ r = 7 := by omega
  rcases this with rfl | rfl | rfl | rfl | rfl | rfl | rfl | rfl <;> decide
/-- What is known of the burst under way. -/
structure SpAt (w wr : World) (s : ByteArray) (a p j : Nat) (l : List Int) : Prop where
  buf : BufAt w wr w.heap.size s.size l
  bits : bitsB l = xorL (bitsB (bytesL s)) (maskL (8 * s.size) a p j)
theorem ret_sb {s t : ByteArray} {x y : Bool} (h : s = t) (g : x = y) : Ending.returned (.tuple #[.string s, .bool x]) = .returned (.tuple #[.string t, .bool y]) := by rw [h, g]
theorem sp_begin (w : World) (s : ByteArray) (a p : Nat) (ha : a ≤ 8 * s.size) {W : World} (h : BufAt w W w.heap.size s.size (bytesL s)) : SpAt w W s a p 0 (bytesL s) :=
  ⟨h, spoil_begin (by rw [bytesL_length]) ha⟩
theorem SpAt.no {w wr : World} {s : ByteArray} {a p j : Nat} {l : List Int} (h : SpAt w wr s a p j l) (hj : a + j < 8 * s.size) (hp : ¬ p / 2 ^ j % 2 = 1) : SpAt w wr s a p (j + 1) l :=
  ⟨h.buf, spoil_no (s := bytesL s) (by rw [bytesL_length]) (by rw [h.buf.len, bytesL_length]) h.bits hj hp⟩
theorem SpAt.yes {w wr : World} {s : ByteArray} {a p j : Nat} {l : List Int} (h : SpAt w wr s a p j l) (hj : a + j < 8 * s.size) (hp : p / 2 ^ j % 2 = 1) :
    SpAt w (wr.setCell ⟨w.heap.size, (a + j) / 8, none⟩ (.int .u8 (xorI (nth l ((a + j) / 8)) ((2 ^ ((a + j) % 8) : Nat) : Int)))) s a p (j + 1) (l.set ((a + j) / 8) (xorI (nth l ((a + j) / 8)) ((2 ^ ((a + j) % 8) : Nat) : Int))) := by
  have hk : (a + j) / 8 < l.length := by rw [h.buf.len]; omega
  have hg : l[(a + j) / 8]? = some (nth l ((a + j) / 8)) := by unfold nth; rw [List.getElem?_eq_getElem hk]; rfl
  have hb := h.buf.byte _ (List.mem_of_getElem? hg)
  have hp8 := pow_byte (r := (a + j) % 8) (by omega)
  exact ⟨h.buf.set (by omega) (xorI_byte hb (by omega)), spoil_yes (s := bytesL s) (by rw [bytesL_length]) (by rw [h.buf.len, bytesL_length]) h.bits hj hg hb.1 hp⟩

set_option maxHeartbeats 8000000 in
theorem rSpoil_any (s : ByteArray) (a p : Nat) (w : World) (hs : s.size ≤ 100000) (ha : a ≤ 8 * s.size) (hp : p < 4294967296) :
    Calls Tryd.prog 17 #[.string s, .int .i64 (a : Int), .int .u32 (p : Int)] w fun e w' => ∃ (l : List Int) (j : Nat), e = .returned (.tuple #[.string (strOf l), .bool (anyL p j)]) ∧ l.length = s.size ∧ (∀ x ∈ l, 0 ≤ x ∧ x < 256) ∧ j ≤ 32 ∧ a + j ≤ 8 * s.size ∧
      bitsB l = xorL (bitsB (bytesL s)) (maskL (8 * s.size) a p j) ∧ Below w.heap.size w w' := by
  obtain ⟨c, W, hcv, hB⟩ := run_buf w s
  have HS : Hid (SpAt w W s a p 0 (bytesL s)) := sp_begin w s a p ha hB
  clear hB
  go_enter Tryd.func17, Tryd.ntmps17
  go_wp2
  clear hcv
  go_loopw [10, 2, 9] (fun k q y wr => ∃ (K j : Nat) (l : List Int), k = .int .i64 K ∧ K = a + j ∧ j ≤ 32 ∧ K ≤ 8 * s.size ∧ q = .int .u32 ((p / 2 ^ j : Nat) : Int) ∧ y = .bool (anyL p j) ∧ SpAt w wr s a p j l) (fun k _ _ _ => 8 * s.size + 40 - (intOf k).toNat)
  case atStart => exact ⟨a, 0, bytesL s, rfl, rfl, by omega, ha, by simp, rfl, HS.out⟩
  case round =>
    clear HS
    obtain ⟨K, j, l, rfl, hK, hj, hKn, rfl, rfl, hO⟩ := hrel
    have HO : Hid (SpAt w wr s a p j l) := hO
    have HK : Hid (K = a + j) := hK
    clear hO
    have hq : p / 2 ^ j ≤ p := Nat.div_le_self _ _
    have HN : Hid (p / 2 ^ (j + 1) = p / 2 ^ j / 2) := by show _ = _; rw [Nat.pow_succ, Nat.div_div_eq_div_mul]
    have HA : Hid (anyL p (j + 1) = (anyL p j || decide (p / 2 ^ j % 2 = 1))) := any_more p j
    by_cases h32 : j < 32
    · by_cases hlt : K < 8 * s.size
      · have i1 : (K : Int) < (a : Int) + 32 := by omega
        have i2 : (K : Int) < 8 * (s.size : Int) := by omega
        by_cases hb : p / 2 ^ j % 2 = 1
        · rw [decide_eq_true hb, Bool.or_true] at HA
          have HY := HO.out.yes (by omega) hb
          rw [← hK] at HY
          have hk8 : K / 8 < s.size := by omega
          have hc := HO.out.buf.cell (K / 8) hk8
          have hf := HO.out.buf.free (K / 8) hk8
          have hkl : K / 8 < l.length := by rw [HO.out.buf.len]; exact hk8
          have hbb := HO.out.buf.byte (nth l (K / 8)) (by unfold nth; rw [List.getElem?_eq_getElem hkl]; exact List.getElem_mem hkl)
          have hp8 := pow_byte (r := K % 8) (by omega)
          have e2 : bits .xor .u8 (nth l (K / 8)) ((2 ^ (K % 8) : Nat) : Int) = xorI (nth l (K / 8)) ((2 ^ (K % 8) : Nat) : Int) := u8_xor _ _ hbb.1 hbb.2 (by omega) (by omega)
          have HY' : Hid (SpAt w (wr.setCell ⟨w.heap.size, K / 8, none⟩ (.int .u8 (xorI (nth l (K / 8)) ((2 ^ (K % 8) : Nat) : Int)))) s a p (j + 1) (l.set (K / 8) (xorI (nth l (K / 8)) ((2 ^ (K % 8) : Nat) : Int)))) := HY
          clear HY HO hkl hp8
          obtain ⟨X, hX⟩ : ∃ X, xorI (nth l (K / 8)) ((2 ^ (K % 8) : Nat) : Int) = X := ⟨_, rfl⟩
          obtain ⟨B, hBB⟩ : ∃ B, nth l (K / 8) = B := ⟨_, rfl⟩
          rw [hX] at e2 HY'
          rw [hBB] at e2 hc hbb
          clear hX hBB
          obtain ⟨q, hqq⟩ : ∃ q, p / 2 ^ j = q := ⟨_, rfl⟩
          rw [hqq] at hb hq HN ⊢
          have e1 : (q : Int) % 2 = 1 := by omega
          obtain ⟨r, hr⟩ : ∃ r, K % 8 = r := ⟨_, rfl⟩
          have hr8 : r < 8 := by omega
          have er : (K : Int) % 8 = (r : Int) := by omega
          rw [hr] at e2
          have hk0 : (K : Int) ≥ 0 := by omega
          clear hr hqq hK
          go_wp2
          go_loopw [12, 11] (fun i o wr2 => ∃ m : Nat, i = .int .i64 m ∧ m ≤ r ∧ o = .int .u8 ((2 ^ m : Nat) : Int) ∧ wr2 = wr) (fun i _ _ => r - (intOf i).toNat)
          case atStart => exact ⟨0, rfl, Nat.zero_le _, rfl, rfl⟩
          case round =>
            obtain ⟨m, rfl, hm, rfl, hw2⟩ := hrel
            subst hw2
            by_cases hmr : m < r
            · have i3 : (m : Int) < (r : Int) := by omega
              have hpm := pow_byte (r := m) (by omega)
              have hpm2 := pow_byte (r := m + 1) (by omega)
              have HP : Hid (2 ^ (m + 1) = 2 ^ m * 2) := Nat.pow_succ 2 m
              rw [HP.out] at hpm2
              obtain ⟨z, hz⟩ : ∃ z, 2 ^ m = z := ⟨_, rfl⟩
              rw [hz] at HP hpm hpm2 ⊢
              clear hz
              go_wp2
              go_roundw
              case rel => exact ⟨m + 1, by go_num, by omega, by rw [HP.out]; push_cast; rfl, trivial⟩
              case measure => simp [intOf]; omega
            · obtain rfl : m = r := by omega
              obtain ⟨z, hz⟩ : ∃ z, 2 ^ m = z := ⟨_, rfl⟩
              rw [hz] at e2 ⊢
              clear hz
              go_wp2
              go_roundw
              case rel => exact ⟨K + 1, j + 1, l.set (K / 8) X, by go_num, by have := HK.out; omega, by omega, by omega, by rw [HN.out]; push_cast; rfl, by rw [HA.out], HY'.out⟩
              case measure => simp [intOf]; omega
        · rw [decide_eq_false hb, Bool.or_false] at HA
          have HY : Hid (SpAt w wr s a p (j + 1) l) := HO.out.no (by omega) hb
          obtain ⟨q, hqq⟩ : ∃ q, p / 2 ^ j = q := ⟨_, rfl⟩
          rw [hqq] at hb hq HN ⊢
          have e1 : (q : Int) % 2 = 0 := by omega
          clear hqq hK
          go_wp2
          go_roundw
          case rel => exact ⟨K + 1, j + 1, l, by go_num, by have := HK.out; omega, by omega, by omega, by rw [HN.out]; push_cast; rfl, by rw [HA.out], HY.out⟩
          case measure => simp [intOf]; omega
      · clear hK
        have i1 : (K : Int) < (a : Int) + 32 := by have := HK.out; omega
        have i2 : ¬ (K : Int) < 8 * (s.size : Int) := by omega
        have hcv := run_string wr (some ⟨w.heap.size, 0, none⟩) s.size c l HO.out.buf.row HO.out.buf.len
        go_wp2
        go_ret2
        exact ⟨l, j, rfl, HO.out.buf.len, HO.out.buf.byte, hj, by have := HK.out; omega, HO.out.bits, HO.out.buf.bel⟩
    · clear hK
      have i1 : ¬ (K : Int) < (a : Int) + 32 := by have := HK.out; omega
      have hcv := run_string wr (some ⟨w.heap.size, 0, none⟩) s.size c l HO.out.buf.row HO.out.buf.len
      go_wp2
      go_ret2
      exact ⟨l, j, rfl, HO.out.buf.len, HO.out.buf.byte, hj, by have := HK.out; omega, HO.out.bits, HO.out.buf.bel⟩
end Crc
end Go.Proofs.YtlgblkhkohhhkaaDoor
