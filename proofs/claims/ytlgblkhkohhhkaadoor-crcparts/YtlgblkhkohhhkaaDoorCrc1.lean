/-
  Contracts of crc's Sum, Add and Now, wherever it lies in memory, as walks over the translated text. The condition: the table of the program's own is as its text lays it; texts are of at most a million bytes.
-/
import Derived.Test.YtlgblkhkohhhkaaDoorTxt
import Derived.Test.YtlgblkhkohhhkaaDoorCrcMat2
import Derived.Laws.BitsAllLaws
namespace Go.Proofs.YtlgblkhkohhhkaaDoor
open Go.ChangeShapes Go.WideShapes Go.ChangeAt Go.RowKit
namespace Crc
open Bas Txt
set_option linter.unusedVariables false

/-- The table, as the program's text lays it. -/
structure Tabs (w : World) : Prop where
  st : ∀ i : Nat, i < 16 → w.cell? ⟨0, i, none⟩ = some (.int .u32 ((LK 4 i : Nat) : Int))
  all : 1 ≤ w.heap.size
theorem Tabs.chg {S : Nat → Nat → Prop} {w w' : World} (h : Tabs w) (hc : Chg S w w') (h0 : ∀ k, k < 1 → ∀ j, ¬ S k j) : Tabs w' :=
  ⟨fun i hi => hc.cellAt (h.st i hi) (h0 _ (by decide) _), Nat.le_trans h.all hc.size⟩
theorem Tabs.below {w w' : World} (h : Tabs w) (hb : Below w.heap.size w w') : Tabs w' :=
  h.chg (chg_of_below hb (Nat.le_refl _) (fun _ _ => False)) (fun _ _ _ h => h)
/-- A sum under way: what its cell holds. -/
structure SumAt (w : World) (b : Nat) (l : List Int) : Prop where
  cell : w.cell? ⟨b, 0, none⟩ = some (.int .u32 ((sumI l : Nat) : Int))
  free : w.frozen? ⟨b, 0, none⟩ = false
theorem SumAt.lt {w : World} {b : Nat} {l : List Int} (h : SumAt w b l) : b < w.heap.size := World.block_lt_of_cell? w _ h.cell
theorem SumAt.below {w w' : World} {b : Nat} {l : List Int} (h : SumAt w b l) (hb : Below w.heap.size w w') : SumAt w' b l :=
  ⟨cell_later hb h.cell, (hb.frozen (p := ⟨b, 0, none⟩) h.lt).trans h.free⟩
theorem turn_ones {x : Nat} (h : x < 4294967296) : bits .xor .u32 IntKind.u32.max (x : Int) = ((4294967295 - x : Nat) : Int) := by
  have := u32_xor_nat 4294967295 x (by decide) h
  rw [show 4294967295 ^^^ x = 4294967295 - x from ones_xor h] at this
  exact this
theorem and15 {x : Nat} (h : x < 4294967296) : bits .and .u32 (x : Int) 15 = ((x % 16 : Nat) : Int) := by
  have := u32_and_nat x 15 h (by decide)
  rw [show x &&& 15 = x % 16 from Nat.and_two_pow_sub_one_eq_mod x 4] at this
  exact this
/-- Four steps, by the table. -/
theorem step4 {y : Nat} (h : y < 4294967296) : bits .xor .u32 ((y : Int) / 16) ((LK 4 (y % 16) : Nat) : Int) = ((LK 4 y : Nat) : Int) := by
  have hl := LK_lt 4 (x := y % 16) (by omega)
  have := u32_xor_nat (y / 16) (LK 4 (y % 16)) (by omega) hl
  rw [Nat.xor_comm, ← LK_half] at this
  push_cast at this
  exact this

set_option maxHeartbeats 4000000 in
theorem add_any (b : Nat) (s : ByteArray) (l : List Int) (w : World) (hT : Tabs w) (h : SumAt w b l) (hs : s.size ≤ 1000000) :
    Calls Tryd.prog 12 #[.pointer (some ⟨b, 0, none⟩), .string s] w fun e w' => e = .returned (.tuple #[]) ∧ SumAt w' b (l ++ bytesL s) ∧ Chg (fun k o => k = b ∧ o = 0) w w' ∧ w'.heap.size = w.heap.size := by
  have HL : Hid ((bytesL s).length = s.size) := bytesL_length s
  have hsum := sumI_lt l
  have HR : Hid (4294967295 - sumI l = regI l) := by have := regI_lt l; show _ = _; rw [sumI_reg]; omega
  have e0 := turn_ones hsum
  have hc0 := h.cell
  have hf0 := h.free
  have HT : Hid (Tabs w) := hT
  rw [HR.out] at e0
  obtain ⟨S, hS⟩ : ∃ S, sumI l = S := ⟨_, rfl⟩
  obtain ⟨R, hR⟩ : ∃ R, regI l = R := ⟨_, rfl⟩
  rw [hS] at hc0 e0 hsum
  rw [hR] at e0
  have HRR : Hid (regI l = R) := hR
  have HEND : Hid (∀ v : Nat, v = sumI (l ++ bytesL s) → SumAt (w.setCell ⟨b, 0, none⟩ (.int .u32 (v : Int))) b (l ++ bytesL s)) := fun v hv => by
    subst hv
    exact ⟨World.cell?_setCell_same _ _ _ h.cell, by have := (chg_setCell w b 0 (.int .u32 ((sumI (l ++ bytesL s) : Nat) : Int))).freeAt h.cell h.free; exact this⟩
  clear h hT HR hS hR
  go_enter Tryd.func12, Tryd.ntmps12
  go_wp2
  go_loopw [13, 4] (fun i r wr => ∃ k : Nat, i = .int .i64 k ∧ k ≤ s.size ∧ r = .int .u32 ((regI (l ++ (bytesL s).take k) : Nat) : Int) ∧ wr = w) (fun i _ _ => s.size - (intOf i).toNat)
  case atStart => exact ⟨0, rfl, Nat.zero_le _, by rw [List.take_zero, List.append_nil, HRR.out], rfl⟩
  case round =>
    obtain ⟨k, rfl, hk, rfl, rfl⟩ := hrel
    by_cases hlt : k < s.size
    · have hkL : k < (bytesL s).length := by rw [HL.out]; exact hlt
      have hy := (s[k]'hlt).toNat_lt
      have hb := str_nth s k hlt
      have HN : Hid (regI (l ++ (bytesL s).take (k + 1)) = LK 4 (LK 4 (regI (l ++ (bytesL s).take k) ^^^ (s[k]'hlt).toNat))) := by
        show _ = _
        rw [take_snoc _ _ hkL, ← hb, ← List.append_assoc]
        exact regI_half _ (by omega)
      have hr := regI_lt (l ++ (bytesL s).take k)
      obtain ⟨r, hrr⟩ : ∃ r, regI (l ++ (bytesL s).take k) = r := ⟨_, rfl⟩
      obtain ⟨c, hcc⟩ : ∃ c, (s[k]'hlt).toNat = c := ⟨_, rfl⟩
      rw [hrr, hcc] at HN
      rw [hrr] at hr ⊢
      have hc : c < 256 := by omega
      have e1 := u32_xor_nat r c hr (by omega)
      have hy : r ^^^ c < 4294967296 := Nat.xor_lt_two_pow (n := 32) hr (by omega)
      obtain ⟨y, hyy⟩ : ∃ y, r ^^^ c = y := ⟨_, rfl⟩
      rw [hyy] at HN e1 hy
      have hy2 := LK_lt 4 hy
      have e2 := and15 hy
      have c2 := HT.out.st (y % 16) (by omega)
      have e3 := step4 hy
      have e4 := and15 hy2
      have c4 := HT.out.st (LK 4 y % 16) (by omega)
      have e5 := step4 hy2
      obtain ⟨y2, hyy2⟩ : ∃ y2, LK 4 y = y2 := ⟨_, rfl⟩
      rw [hyy2] at HN hy2 e3 e4 c4 e5
      have j1 : y % 16 < 16 := by omega
      have j2 : y2 % 16 < 16 := by omega
      obtain ⟨z1, hz1⟩ : ∃ z1, LK 4 (y % 16) = z1 := ⟨_, rfl⟩
      obtain ⟨z2, hz2⟩ : ∃ z2, LK 4 (y2 % 16) = z2 := ⟨_, rfl⟩
      rw [hz1] at c2 e3
      rw [hz2] at c4 e5
      obtain ⟨i1, hi1⟩ : ∃ i1, y % 16 = i1 := ⟨_, rfl⟩
      obtain ⟨i2, hi2⟩ : ∃ i2, y2 % 16 = i2 := ⟨_, rfl⟩
      rw [hi1] at e2 c2 j1
      rw [hi2] at e4 c4 j2
      have w1 : IntKind.u32.wrap (c : Int) = (c : Int) := by rw [IntKind.wrap_u32']; omega
      have i1' : (i1 : Int) < 16 := by omega
      have i2' : (i2 : Int) < 16 := by omega
      have i3 : (k : Int) < (s.size : Int) := by omega
      clear hrr hyy hyy2 hz1 hz2 hi1 hi2 hkL hb
      go_wp2
      go_roundw
      case rel => exact ⟨k + 1, by go_num, by omega, by rw [HN.out], trivial⟩
      case measure => simp [intOf]; omega
    · have hkn : k = s.size := by omega
      have HF : Hid ((bytesL s).take k = bytesL s) := List.take_of_length_le (by rw [HL.out]; omega)
      rw [HF.out]
      have hr := regI_lt (l ++ bytesL s)
      have e1 := turn_ones hr
      have HQ := HEND.out _ (show 4294967295 - regI (l ++ bytesL s) = sumI (l ++ bytesL s) from (sumI_reg _).symm)
      have HQ' : Hid (SumAt (wr.setCell ⟨b, 0, none⟩ (.int .u32 ((4294967295 - regI (l ++ bytesL s) : Nat) : Int))) b (l ++ bytesL s)) := HQ
      clear HQ HEND hkn
      obtain ⟨Z, hZ⟩ : ∃ Z, 4294967295 - regI (l ++ bytesL s) = Z := ⟨_, rfl⟩
      rw [hZ] at HQ' e1
      clear hZ
      go_wp2
      go_end0
      exact ⟨rfl, HQ'.out, chg_setCell wr b 0 _, by simp⟩
set_option maxHeartbeats 400000 in
theorem now_any (b : Nat) (l : List Int) (w : World) (h : SumAt w b l) :
    Calls Tryd.prog 13 #[.pointer (some ⟨b, 0, none⟩)] w fun e w' => e = .returned (.int .u32 ((sumI l : Nat) : Int)) ∧ w' = w := by
  have hc := h.cell
  clear h
  go_enter Tryd.func13, Tryd.ntmps13
  go_wp2
  go_ret
  exact ⟨rfl, rfl⟩
end Crc
end Go.Proofs.YtlgblkhkohhhkaaDoor
