/-
  Contracts of the calls of permute's Table, wherever it lies in memory, as walks over the translated text. The condition: its cells hold the two tables; texts are of at most a million bytes.
-/
import Derived.Test.YtjbgcclbomimiaaDoorTxt
import Derived.Test.YtjbgcclbomimiaaDoorPerMath
namespace Go.Proofs.YtjbgcclbomimiaaDoor
open Go.ChangeShapes Go.WideShapes Go.ChangeAt Go.RowKit
namespace Per
open Bas Txt
set_option linter.unusedVariables false

/-- 256 bytes in memory, from an offset of a block on. -/
def Arr (w : World) (b o : Nat) (l : List Int) : Prop := ∀ i, i < 256 → w.cell? ⟨b, o + i, none⟩ = some (.int .u8 (nth l i))
/-- A table in memory. -/
structure TabAt (w : World) (b : Nat) : Prop where
  to : Arr w b 0 tabL
  fr : Arr w b 256 frL
theorem Arr.below {w w' : World} {b o : Nat} {l : List Int} (h : Arr w b o l) (hb : Below w.heap.size w w') : Arr w' b o l := fun i hi => cell_later hb (h i hi)
theorem TabAt.below {w w' : World} {b : Nat} (h : TabAt w b) (hb : Below w.heap.size w w') : TabAt w' b := ⟨h.to.below hb, h.fr.below hb⟩
theorem TabAt.lt {w : World} {b : Nat} (h : TabAt w b) : b < w.heap.size := World.block_lt_of_cell? w _ (h.to 0 (by decide))

/-- make([]byte, n). -/
theorem made_eq (n : Nat) : madeCells (Value.int .u8 0).cells n = Array.replicate n (Value.int .u8 0) := by
  apply Array.ext
  · simp [madeCells]
  · intro i h1 h2
    simp [madeCells, Value.cells, Nat.mod_one]
theorem make_u8 (w : World) (n : Nat) (h : n ≤ 1000000) : (Instr.makeSlice 57 (.int .i64 (n : Int)) (.int .i64 (n : Int))).run Tryd.prog w = .ok (.slice (some ⟨w.heap.size, 0, none⟩) n n) (w.alloc (.cells (Array.replicate n (Value.int .u8 0)) 5)) := by
  obtain ⟨i, hi, hz, hsz, hby⟩ := info_parts info_u8
  have hr := run_make (P := Tryd.prog) w 57 5 i (.int .u8 0) Tryd.underlying57 hi hz .i64 .i64 n n (by omega) (by omega) (by rw [hby]; omega) (by omega)
  rw [hsz, made_eq] at hr
  simpa using hr
theorem seg_make (w : World) (n : Nat) (h : n ≤ 1000000) (t : TypeId) {g : Nat} (hg : g = w.heap.size) : Seg .u8 (w.alloc (.cells (Array.replicate n (Value.int .u8 0)) t)) (.slice (some ⟨g, 0, none⟩) n n) (List.replicate n 0) := by
  subst hg
  refine .inr ⟨w.heap.size, 0, n, by simp, by simp, by simp, by unfold maxLen; omega, fun i hi => ?_, fun i hi => ?_, fun o => by simp⟩
  · have hi' : i < n := by simpa using hi
    simp only [Nat.zero_add]
    rw [World.cell?_alloc_new]
    simp [nth, hi']
  · simp only [Nat.zero_add]
    rw [World.cell?_alloc_new]
    simp [hi]
/-- The bytes turned so far, and noughts behind. -/
def outK (T L : List Int) (k : Nat) : List Int := (turnL T L).take k ++ List.replicate (L.length - k) 0
theorem outK_zero (T L : List Int) : outK T L 0 = List.replicate L.length 0 := by simp [outK]
theorem outK_len (T L : List Int) (k : Nat) (h : k ≤ L.length) : (outK T L k).length = L.length := by
  simp [outK, turnL_len]; omega
theorem outK_succ (T L : List Int) (k : Nat) (h : k < L.length) : outK T L (k + 1) = (outK T L k).set k (at_ T (nth L k)) := by
  have hl : ((turnL T L).take k).length = k := by simp [turnL_len]; omega
  unfold outK
  rw [take_snoc _ _ (by rw [turnL_len]; exact h), nth_turnL _ _ _ h, List.set_append_right _ _ (by omega), hl, Nat.sub_self]
  rw [show L.length - k = (L.length - (k + 1)) + 1 by omega, List.replicate_succ]
  simp
theorem outK_all (T L : List Int) : outK T L L.length = turnL T L := by
  unfold outK
  rw [List.take_of_length_le (by rw [turnL_len]; exact Nat.le_refl _)]
  simp
/-- What is known of the bytes under way. -/
def OutAt (w wr : World) (g n : Nat) (l : List Int) : Prop := Seg .u8 wr (.slice (some ⟨g, 0, none⟩) n n) l ∧ w.heap.size ≤ g ∧ Below w.heap.size w wr

set_option maxHeartbeats 4000000 in
theorem turn_any (s : ByteArray) (b o : Nat) (T : List Int) (w : World) (h : Arr w b o T) (hs : s.size ≤ 1000000) :
    Calls Tryd.prog 80 #[.string s, .pointer (some ⟨b, o, none⟩)] w fun e w' => e = .returned (.string (strOf (turnL T (bytesL s)))) ∧ Below w.heap.size w w' := by
  have HA : Hid (Arr w b o T) := h
  have HL : Hid ((bytesL s).length = s.size) := bytesL_length s
  have hmk := fun w => make_u8 w s.size hs
  clear h
  go_enter Tryd.func80, Tryd.ntmps80
  go_wp2
  go_loopw [12] (fun i wr => ∃ k : Nat, i = .int .i64 k ∧ k ≤ s.size ∧ OutAt w wr w.heap.size s.size (outK T (bytesL s) k)) (fun i _ => s.size - (intOf i).toNat)
  case atStart => exact ⟨0, rfl, Nat.zero_le _, by rw [outK_zero, HL.out]; exact seg_make w _ hs _ rfl, Nat.le_refl _, (Below.refl _ _).alloc (Nat.le_refl _) _⟩
  case round =>
    obtain ⟨k, rfl, hk, hO⟩ := hrel
    have HO : Hid (OutAt w wr w.heap.size s.size (outK T (bytesL s) k)) := hO
    clear hO hmk
    by_cases hlt : k < s.size
    · have hkL : k < (bytesL s).length := by rw [HL.out]; exact hlt
      have hy := (s[k]'hlt).toNat_lt
      have hc1 : wr.cell? ⟨b, o + (s[k]'hlt).toNat, none⟩ = some (.int .u8 (nth T (s[k]'hlt).toNat)) := cell_later HO.out.2.2 (HA.out _ hy)
      have hlen := outK_len T (bytesL s) k (by omega)
      obtain ⟨g, of, hga, hc2, hf2⟩ := HO.out.1.at (j := k) (by rw [hlen]; exact hkL)
      simp only [Option.some.injEq, Addr.mk.injEq] at hga
      obtain ⟨rfl, rfl, -⟩ := hga
      rw [Nat.zero_add] at hc2 hf2
      have HS : Hid (Seg .u8 (wr.setCell ⟨w.heap.size, k, none⟩ (.int .u8 (nth T (s[k]'hlt).toNat))) (.slice (some ⟨w.heap.size, 0, none⟩) s.size s.size) (outK T (bytesL s) (k + 1))) := by
        have := HO.out.1.set (j := k) (nth T (s[k]'hlt).toNat) (by rw [hlen]; exact hkL)
        rw [outK_succ _ _ _ hkL, ← str_nth s k hlt, at_nat]
        rw [Nat.zero_add] at this
        exact this
      have i1 : (k : Int) < (s.size : Int) := by omega
      have HK : Hid (k < (bytesL s).length) := hkL
      clear hkL hlen
      go_wp2
      go_region
      all_goals
        go_wp2
        go_roundw
        case rel => exact ⟨k + 1, by go_num, by omega, HS.out.chg ((Chg.refl (fun _ _ => False) _).drew) (fun _ _ _ h => h), Nat.le_refl _, (HO.out.2.2.trans ((chg_setCell wr w.heap.size k _).below HO.out.2.2.size (fun k' j hk' hh => by have := hh.1; omega))).drew⟩
        case measure => simp [intOf]; omega
    · have hkn : k = s.size := by omega
      have HF : Hid (outK T (bytesL s) k = turnL T (bytesL s)) := by
        show _ = _
        rw [hkn, ← HL.out, outK_all]
      have hro := (seg_row HO.out.1).1
      rw [HF.out] at hro
      have hcv := run_string wr _ s.size s.size _ hro (by rw [turnL_len, HL.out])
      clear hro hkn
      go_wp2
      go_ret
      exact ⟨rfl, HO.out.2.2⟩

set_option maxHeartbeats 400000 in
theorem text_any (b : Nat) (s : ByteArray) (w : World) (h : TabAt w b) (hs : s.size ≤ 1000000) :
    Calls Tryd.prog 68 #[.pointer (some ⟨b, 0, none⟩), .string s] w fun e w' => e = .returned (.string (strOf (turnL tabL (bytesL s)))) ∧ Below w.heap.size w w' := by
  go_enter Tryd.func68, Tryd.ntmps68
  go_wp2_with fail
  refine (turn_any s b 0 tabL w h.to hs).mono ?_
  rintro e w1 ⟨rfl, hb⟩
  go_wp2
  go_ret
  exact ⟨rfl, hb⟩
set_option maxHeartbeats 400000 in
theorem back_any (b : Nat) (s : ByteArray) (w : World) (h : TabAt w b) (hs : s.size ≤ 1000000) :
    Calls Tryd.prog 58 #[.pointer (some ⟨b, 0, none⟩), .string s] w fun e w' => e = .returned (.string (strOf (turnL frL (bytesL s)))) ∧ Below w.heap.size w w' := by
  go_enter Tryd.func58, Tryd.ntmps58
  go_wp2_with fail
  refine (turn_any s b 256 frL w h.fr hs).mono ?_
  rintro e w1 ⟨rfl, hb⟩
  go_wp2
  go_ret
  exact ⟨rfl, hb⟩
end Per
end Go.Proofs.YtjbgcclbomimiaaDoor
