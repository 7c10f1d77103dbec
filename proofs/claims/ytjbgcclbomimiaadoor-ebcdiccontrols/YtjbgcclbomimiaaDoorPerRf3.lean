/-
  Contracts of the document's To, From, Turn, Text and Back of layer 7, as walks over the translated text. The condition: texts are of at most a million bytes.
-/
import Derived.Test.YtjbgcclbomimiaaDoorPerRf2
namespace Go.Proofs.YtjbgcclbomimiaaDoor
open Go.ChangeShapes Go.WideShapes Go.ChangeAt Go.RowKit
namespace Per
open Bas Txt
set_option linter.unusedVariables false

theorem list_byte {l : List Int} (hl : l.length = 256) (h : ∀ k : Fin 256, 0 ≤ nth l k.val ∧ nth l k.val < 256) : ∀ x ∈ l, 0 ≤ x ∧ x < 256 := by
  intro x hx
  obtain ⟨i, hi, he⟩ := List.mem_iff_getElem.1 hx
  have := h ⟨i, by omega⟩
  have h2 : nth l i = x := by rw [← he, nth, List.getElem?_eq_getElem hi]; rfl
  simp only [h2] at this
  exact this
theorem tabS_ex : ∃ S, strOf tabL = S ∧ S.size = 256 ∧ bytesL S = tabL := ⟨_, rfl, by rw [strOf_size, tabL_len], bytesL_strOf _ (list_byte tabL_len (fun k => ⟨(tab_fact k).1, (tab_fact k).2.1⟩))⟩
theorem frS_ex : ∃ S, strOf frL = S ∧ S.size = 256 ∧ bytesL S = frL := ⟨_, rfl, by rw [strOf_size, frL_len], bytesL_strOf _ (list_byte frL_len (fun k => ⟨(fr_fact k).1, (fr_fact k).2.1⟩))⟩

theorem tab_hit {k : Nat} {x : Int} (hk : k < 256) (h : nth tabL k = x) : at_ frL x = k := by
  rw [← h]; exact (tab_fact ⟨k, hk⟩).2.2
theorem tab_meet {x : Int} (h0 : 0 ≤ x) (h1 : x < 256) (h : ∀ j : Nat, j < 256 → nth tabL j ≠ x) : False := by
  obtain ⟨m, hm, hm2⟩ := nat_of (fr_byte h0 h1).1 (fr_byte h0 h1).2
  refine h m hm2 ?_
  have := tab_fr h0 h1
  rw [hm, at_nat] at this
  exact this
set_option maxHeartbeats 4000000 in
theorem rFrom_any (x : Int) (w : World) (h0 : 0 ≤ x) (h1 : x < 256) : Calls Tryd.prog 69 #[.int .u8 x] w fun e w' => e = .returned (.int .u8 (at_ frL x)) ∧ Below w.heap.size w w' := by
  obtain ⟨S, hS, hz, hX⟩ := tabS_ex
  have HR : Hid (∀ w, Calls Tryd.prog 66 #[] w fun e w' => e = .returned (.string S) ∧ Below w.heap.size w w') := by rw [← hS]; exact rAll_any
  have HX : Hid (bytesL S = tabL) := hX
  clear hS hX
  go_enter Tryd.func69, Tryd.ntmps69
  go_wp2_with fail
  refine (HR.out w).mono ?_
  rintro e W ⟨rfl, hb⟩
  have HB : Hid (Below w.heap.size w W) := hb
  clear hb HR
  go_wp2
  go_loopw [4] (fun i wq => ∃ j : Nat, i = .int .i64 j ∧ j ≤ 256 ∧ (∀ i, i < j → nth tabL i ≠ x) ∧ wq = W) (fun i _ => 256 - (intOf i).toNat)
  case atStart => exact ⟨0, rfl, Nat.zero_le _, fun i hi => by omega, rfl⟩
  case round =>
    obtain ⟨j, rfl, hj, hall, hwq⟩ := hrel
    subst hwq
    have HA : Hid (∀ i, i < j → nth tabL i ≠ x) := hall
    clear hall
    by_cases hlt : j < 256
    · have i1 : (j : Int) < 256 := by omega
      have hlt2 : j < S.size := by omega
      have e1 : ((S[j]'hlt2).toNat : Int) = nth tabL j := str_at HX.out _ _
      by_cases he : nth tabL j = x
      · have HH : Hid (at_ frL x = (j : Int)) := tab_hit hlt he
        rw [he] at e1
        clear he
        go_wp2
        go_ret
        exact ⟨by rw [HH.out]; rfl, HB.out⟩
      · have HN : Hid (nth tabL j ≠ x) := he
        have hb : (nth tabL j == x) = false := by simp [he]
        clear he
        go_wp2
        go_roundw
        case rel =>
          refine ⟨j + 1, by go_num, by omega, fun i hi => ?_, trivial⟩
          by_cases e : i = j
          · rw [e]; exact HN.out
          · exact HA.out i (by omega)
        case measure => simp [intOf]; omega
    · exact absurd (tab_meet h0 h1 (fun i hi => HA.out i (by omega))) (fun h => h)

set_option maxHeartbeats 8000000 in
set_option maxRecDepth 100000 in
theorem rTurn_any (s S : ByteArray) (T : List Int) (w : World) (hz : S.size = 256) (hX : bytesL S = T) (hs : s.size ≤ 1000000) :
    Calls Tryd.prog 67 #[.string s, .string S] w fun e w' => e = .returned (.string (strOf (turnL T (bytesL s)))) ∧ Below w.heap.size w w' := by
  have HX : Hid (bytesL S = T) := hX
  have HL : Hid ((bytesL s).length = s.size) := bytesL_length s
  clear hX
  go_enter Tryd.func67, Tryd.ntmps67
  go_wp2
  go_loopw [5, 6] (fun o i wr => ∃ k : Nat, i = .int .i64 k ∧ k ≤ s.size ∧ OutOf w wr o (turnL T ((bytesL s).take k))) (fun _ i _ => s.size - (intOf i).toNat)
  case atStart => exact ⟨0, rfl, Nat.zero_le _, seg_empty _ _ _, fun g hg => by simp [Value.ownBlock] at hg; omega, (Below.refl _ _).alloc (Nat.le_refl _) _⟩
  case round =>
    obtain ⟨k, rfl, hk, hO⟩ := hrel
    have HO : Hid (OutOf w wr u5 (turnL T ((bytesL s).take k))) := hO
    clear hO
    by_cases hlt : k < s.size
    · have i1 : (k : Int) < (s.size : Int) := by omega
      have hy := (s[k]'hlt).toNat_lt
      have hy2 : (s[k]'hlt).toNat < S.size := by omega
      have e1 : ((S[(s[k]'hlt).toNat]'hy2).toNat : Int) = nth T (s[k]'hlt).toNat := str_at HX.out _ _
      have HT : Hid (turnL T ((bytesL s).take (k + 1)) = turnL T ((bytesL s).take k) ++ [nth T (s[k]'hlt).toNat] ∧ (turnL T ((bytesL s).take k)).length ≤ 1000000) := by
        have hkL : k < (bytesL s).length := by rw [HL.out]; exact hlt
        refine ⟨?_, by rw [turnL_len, List.length_take]; omega⟩
        rw [take_snoc _ _ hkL, turnL_append, ← str_nth s k hlt]
        rfl
      have hr : 0 ≤ nth T (s[k]'hlt).toNat ∧ nth T (s[k]'hlt).toNat < 256 := by
        have := (S[(s[k]'hlt).toNat]'hy2).toNat_lt
        omega
      obtain ⟨r, hr2⟩ : ∃ r, nth T (s[k]'hlt).toNat = r := ⟨_, rfl⟩
      obtain ⟨t, ht⟩ : ∃ t, turnL T ((bytesL s).take k) = t := ⟨_, rfl⟩
      rw [hr2] at hr HT e1
      rw [ht] at HT HO
      clear hr2 ht
      obtain ⟨r0, r1⟩ := hr
      have HSA : Hid (∀ o, OutOf w (wr.alloc o) u5 t) := fun o => HO.out.below ((Below.refl _ _).alloc (Nat.le_refl _) o)
      go_wp2_with (at_builtin; go_must (refine wpList_append_seg rfl _ _ 57 57 rfl .u8 5 1 Tryd.underlying57 info_u8 u5 t [r] rfl (HSA.out _).1 _ rfl (src_row (l := [r]) Tryd.underlying57 (by exact row_new .u8 wr [r] _ _ rfl) rfl (fun h => by cases h)) (by have := HT.out.2; unfold maxLen; simp; omega) (by have := HT.out.2; simp; omega) ?_; intro vo w4 hs4 hc4 hm4))
      have HF4 : Hid (OutOf w w4 vo (t ++ [r])) := HO.out.app ((Below.refl _ _).alloc (Nat.le_refl _) _) hs4 hc4 hm4
      clear hs4 hc4 hm4 HSA
      go_roundw
      case rel => exact ⟨k + 1, by go_num, by omega, by rw [HT.out.1]; exact HF4.out⟩
      case measure => simp [intOf]; omega
    · have HF : Hid ((bytesL s).take k = bytesL s) := List.take_of_length_le (by rw [HL.out]; omega)
      rw [HF.out] at HO
      obtain ⟨ao, co, hvo, hro, -⟩ := HO.out.1.form
      rw [turnL_len, HL.out] at hvo
      subst hvo
      have hcv := run_string wr _ s.size co _ hro (by rw [turnL_len, HL.out])
      have HB : Hid (Below w.heap.size w wr) := HO.out.2.2
      clear hro HO
      go_wp2
      go_ret
      exact ⟨rfl, HB.out⟩

set_option maxHeartbeats 4000000 in
theorem rText_any (s : ByteArray) (w : World) (hs : s.size ≤ 1000000) : Calls Tryd.prog 57 #[.string s] w fun e w' => e = .returned (.string (strOf (turnL tabL (bytesL s)))) ∧ Below w.heap.size w w' := by
  obtain ⟨S, hS, hz, hX⟩ := tabS_ex
  have HR : Hid (∀ w, Calls Tryd.prog 66 #[] w fun e w' => e = .returned (.string S) ∧ Below w.heap.size w w') := by rw [← hS]; exact rAll_any
  have HX : Hid (S.size = 256 ∧ bytesL S = tabL) := ⟨hz, hX⟩
  clear hS hX hz
  go_enter Tryd.func57, Tryd.ntmps57
  go_wp2_with fail
  refine (HR.out w).mono ?_
  rintro e w1 ⟨rfl, hb⟩
  have HB : Hid (Below w.heap.size w w1) := hb
  clear hb
  go_wp2_with fail
  refine (rTurn_any s S tabL w1 HX.out.1 HX.out.2 hs).mono ?_
  rintro e w2 ⟨rfl, hb2⟩
  have HB2 : Hid (Below w.heap.size w w2) := below_two HB.out hb2
  clear hb2
  go_wp2
  go_ret
  exact ⟨rfl, HB2.out⟩

theorem seg_made (w : World) (t : TypeId) : Seg .u8 (w.alloc (.cells (Array.replicate 256 (Value.int .u8 0)) t)) (.slice (some ⟨w.heap.size, 0, none⟩) 256 256) (bkK 0) := seg_make w 256 (by decide) t rfl
set_option maxHeartbeats 8000000 in
set_option maxRecDepth 100000 in
theorem rBack_any (s : ByteArray) (w : World) (hs : s.size ≤ 1000000) : Calls Tryd.prog 44 #[.string s] w fun e w' => e = .returned (.string (strOf (turnL frL (bytesL s)))) ∧ Below w.heap.size w w' := by
  obtain ⟨S, hS, hz, hX⟩ := tabS_ex
  have HR : Hid (∀ w, Calls Tryd.prog 66 #[] w fun e w' => e = .returned (.string S) ∧ Below w.heap.size w w') := by rw [← hS]; exact rAll_any
  have HX : Hid (bytesL S = tabL) := hX
  obtain ⟨Z, hZ, hz2, hX2⟩ := frS_ex
  have HZ : Hid (strOf frL = Z ∧ Z.size = 256 ∧ bytesL Z = frL) := ⟨hZ, hz2, hX2⟩
  have hmk : ∀ w, (Instr.makeSlice 57 (.int .i64 256) (.int .i64 256)).run Tryd.prog w = .ok (.slice (some ⟨w.heap.size, 0, none⟩) 256 256) (w.alloc (.cells (Array.replicate 256 (Value.int .u8 0)) 5)) := fun w => make_u8 w 256 (by decide)
  clear hS hX hZ hz2 hX2
  go_enter Tryd.func44, Tryd.ntmps44
  go_wp2_with fail
  refine (HR.out w).mono ?_
  rintro e W ⟨rfl, hb⟩
  have HB : Hid (Below w.heap.size w W) := hb
  clear hb HR
  go_wp2
  go_loopw [5] (fun i wr => ∃ k : Nat, i = .int .i64 k ∧ k ≤ 256 ∧ OutAt w wr W.heap.size 256 (bkK k)) (fun i _ => 256 - (intOf i).toNat)
  case atStart => exact ⟨0, rfl, Nat.zero_le _, seg_made W _, HB.out.size, HB.out.alloc HB.out.size _⟩
  case round =>
    obtain ⟨k, rfl, hk, hO⟩ := hrel
    have HO : Hid (OutAt w wr W.heap.size 256 (bkK k)) := hO
    clear hO hmk
    by_cases hlt : k < 256
    · have i1 : (k : Int) < 256 := by omega
      have hkS : k < S.size := by omega
      have e1 : ((S[k]'hkS).toNat : Int) = nth tabL k := str_at HX.out _ _
      have hf := tab_fact ⟨k, hlt⟩
      simp only at hf
      have hbk : bkK (k + 1) = (bkK k).set (nth tabL k).toNat (k : Int) := rfl
      obtain ⟨m, hm, hm2⟩ := nat_of hf.1 hf.2.1
      rw [hm] at e1 hbk
      rw [Int.toNat_natCast] at hbk
      clear hf hm
      have i2 : (m : Int) < 256 := by omega
      obtain ⟨g, of, hga, hc2, hf2⟩ := HO.out.1.at (j := m) (by rw [bkK_len]; exact hm2)
      simp only [Option.some.injEq, Addr.mk.injEq] at hga
      obtain ⟨rfl, rfl, -⟩ := hga
      rw [Nat.zero_add] at hc2 hf2
      have HS : Hid (OutAt w (wr.setCell ⟨W.heap.size, m, none⟩ (.int .u8 (k : Int))) W.heap.size 256 (bkK (k + 1))) := by
        have := HO.out.1.set (j := m) (k : Int) (by rw [bkK_len]; exact hm2)
        rw [Nat.zero_add] at this
        rw [hbk]
        exact ⟨this, HO.out.2.1, HO.out.2.2.trans ((chg_setCell wr W.heap.size m _).below HO.out.2.2.size (fun k' j hk' hh => by have := hh.1; have := HO.out.2.1; omega))⟩
      clear hbk
      go_wp2
      go_roundw
      case rel => exact ⟨k + 1, by go_num, by omega, HS.out⟩
      case measure => simp [intOf]; omega
    · obtain rfl : k = 256 := by omega
      rw [bkK_all] at HO
      have hro := (seg_row HO.out.1).1
      have hcv := run_string wr _ 256 256 _ hro frL_len
      rw [HZ.out.1] at hcv
      have HB2 : Hid (Below w.heap.size w wr) := HO.out.2.2
      clear hro HO hlt hk
      go_wp2_with fail
      refine (rTurn_any s Z frL wr HZ.out.2.1 HZ.out.2.2 hs).mono ?_
      rintro e w2 ⟨rfl, hb2⟩
      have HB3 : Hid (Below w.heap.size w w2) := below_two HB2.out hb2
      clear hb2 hcv
      go_wp2
      go_ret
      exact ⟨rfl, HB3.out⟩
end Per
end Go.Proofs.YtjbgcclbomimiaaDoor
