/-
  Contracts of the document's To, From, Turn, Text and Back of layer 7, as walks over the translated text. The condition: texts are of at most a million bytes.
-/
import Derived.Test.YtmihceoeoggjjaaPerRf2
namespace Go.Proofs.Ytmihceoeoggjjaa
open Go.ChangeShapes Go.WideShapes Go.ChangeAt Go.RowKit
namespace Per
open Bas Txt
set_option linter.unusedVariables false

theorem list_byte {l : List Int} (hl : l.length = 256) (h : ∀ k : Fin 256, 0 ≤ nth l k.val ∧ nth l k.val < 256) : ∀ x ∈ l, 0 ≤ x ∧ x < 256 := by
  intro x hx
  obtain ⟨i, hi, he⟩ := List.mem_iff_getElem.1 hx
  have := h ⟨i, by omega⟩
  have h2 : nth l i = x := by rw [← he, nth, List.getElem?_eq_getElem hi]; rfl
  simp only [h2] at this
  exact this
theorem tabS_ex : ∃ S, strOf tabL = S ∧ S.size = 256 ∧ bytesL S = tabL := ⟨_, rfl, by rw [strOf_size, tabL_len], bytesL_strOf _ (list_byte tabL_len (fun k => ⟨(tab_fact k).1, (tab_fact k).2.1⟩))⟩
theorem frS_ex : ∃ S, strOf frL = S ∧ S.size = 256 ∧ bytesL S = frL := ⟨_, rfl, by rw [strOf_size, frL_len], bytesL_strOf _ (list_byte frL_len (fun k => ⟨(fr_fact k).1, (fr_fact k).2.1⟩))⟩

theorem tab_hit {k : Nat} {x : Int} (hk : k < 256) (h : nth tabL k = x) : at_ frL x = k := by
  rw [← h]; exact (tab_fact ⟨k, hk⟩).2.2
theorem tab_meet {x : Int} (h0 : 0 ≤ x) (h1 : x < 256) (h : ∀ j : Nat, j < 256 → nth tabL j ≠ x) : False := by
  obtain ⟨m, hm, hm2⟩ := nat_of (fr_byte h0 h1).1 (fr_byte h0 h1).2
  refine h m hm2 ?_
  have := tab_fr h0 h1
  rw [hm, at_nat] at this
  exact this
set_option maxHeartbeats 8000000 in
set_option maxRecDepth 100000 in
theorem rTurn_any (s S : ByteArray) (T : List Int) (w : World) (hz : S.size = 256) (hX : bytesL S = T) (hs : s.size ≤ 1000000) :
    Calls Try.prog 35 #[.string s, .string S] w fun e w' => e = .returned (.string (strOf (turnL T (bytesL s)))) ∧ Below w.heap.size w w' := by
  have HX : Hid (bytesL S = T) := hX
  have HL : Hid ((bytesL s).length = s.size) := bytesL_length s
  clear hX
  go_enter Try.func35, Try.ntmps35
  go_wp2
  go_loopw [5, 6] (fun o i wr => ∃ k : Nat, i = .int .i64 k ∧ k ≤ s.size ∧ OutOf w wr o (turnL T ((bytesL s).take k))) (fun _ i _ => s.size - (intOf i).toNat)
  case atStart => exact ⟨0, rfl, Nat.zero_le _, seg_empty _ _ _, fun g hg => by simp [Value.ownBlock] at hg; omega, (Below.refl _ _).alloc (Nat.le_refl _) _⟩
  case round =>
    obtain ⟨k, rfl, hk, hO⟩ := hrel
    have HO : Hid (OutOf w wr u5 (turnL T ((bytesL s).take k))) := hO
    clear hO
    by_cases hlt : k < s.size
    · have i1 : (k : Int) < (s.size : Int) := by omega
      have hy := (s[k]'hlt).toNat_lt
      have hy2 : (s[k]'hlt).toNat < S.size := by omega
      have e1 : ((S[(s[k]'hlt).toNat]'hy2).toNat : Int) = nth T (s[k]'hlt).toNat := str_at HX.out _ _
      have HT : Hid (turnL T ((bytesL s).take (k + 1)) = turnL T ((bytesL s).take k) ++ [nth T (s[k]'hlt).toNat] ∧ (turnL T ((bytesL s).take k)).length ≤ 1000000) := by
        have hkL : k < (bytesL s).length := by rw [HL.out]; exact hlt
        refine ⟨?_, by rw [turnL_len, List.length_take]; omega⟩
        rw [take_snoc _ _ hkL, turnL_append, ← str_nth s k hlt]
        rfl
      have hr : 0 ≤ nth T (s[k]'hlt).toNat ∧ nth T (s[k]'hlt).toNat < 256 := by
        have := (S[(s[k]'hlt).toNat]'hy2).toNat_lt
        omega
      obtain ⟨r, hr2⟩ : ∃ r, nth T (s[k]'hlt).toNat = r := ⟨_, rfl⟩
      obtain ⟨t, ht⟩ : ∃ t, turnL T ((bytesL s).take k) = t := ⟨_, rfl⟩
      rw [hr2] at hr HT e1
      rw [ht] at HT HO
      clear hr2 ht
      obtain ⟨r0, r1⟩ := hr
      have HSA : Hid (∀ o, OutOf w (wr.alloc o) u5 t) := fun o => HO.out.below ((Below.refl _ _).alloc (Nat.le_refl _) o)
      go_wp2_with (at_builtin; go_must (refine wpList_append_seg rfl _ _ 40 40 rfl .u8 5 1 Try.underlying40 info_u8 u5 t [r] rfl (HSA.out _).1 _ rfl (src_row (l := [r]) Try.underlying40 (by exact row_new .u8 wr [r] _ _ rfl) rfl (fun h => by cases h)) (by have := HT.out.2; unfold maxLen; simp; omega) (by have := HT.out.2; simp; omega) ?_; intro vo w4 hs4 hc4 hm4))
      have HF4 : Hid (OutOf w w4 vo (t ++ [r])) := HO.out.app ((Below.refl _ _).alloc (Nat.le_refl _) _) hs4 hc4 hm4
      clear hs4 hc4 hm4 HSA
      go_roundw
      case rel => exact ⟨k + 1, by go_num, by omega, by rw [HT.out.1]; exact HF4.out⟩
      case measure => simp [intOf]; omega
    · have HF : Hid ((bytesL s).take k = bytesL s) := List.take_of_length_le (by rw [HL.out]; omega)
      rw [HF.out] at HO
      obtain ⟨ao, co, hvo, hro, -⟩ := HO.out.1.form
      rw [turnL_len, HL.out] at hvo
      subst hvo
      have hcv := run_string wr _ s.size co _ hro (by rw [turnL_len, HL.out])
      have HB : Hid (Below w.heap.size w wr) := HO.out.2.2
      clear hro HO
      go_wp2
      go_ret
      exact ⟨rfl, HB.out⟩

set_option maxHeartbeats 4000000 in
theorem rText_any (s : ByteArray) (w : World) (hs : s.size ≤ 1000000) : Calls Try.prog 24 #[.string s] w fun e w' => e = .returned (.string (strOf (turnL tabL (bytesL s)))) ∧ Below w.heap.size w w' := by
  obtain ⟨S, hS, hz, hX⟩ := tabS_ex
  have HR : Hid (∀ w, Calls Try.prog 36 #[] w fun e w' => e = .returned (.string S) ∧ Below w.heap.size w w') := by rw [← hS]; exact rAll_any
  have HX : Hid (S.size = 256 ∧ bytesL S = tabL) := ⟨hz, hX⟩
  clear hS hX hz
  go_enter Try.func24, Try.ntmps24
  go_wp2_with fail
  refine (HR.out w).mono ?_
  rintro e w1 ⟨rfl, hb⟩
  have HB : Hid (Below w.heap.size w w1) := hb
  clear hb
  go_wp2_with fail
  refine (rTurn_any s S tabL w1 HX.out.1 HX.out.2 hs).mono ?_
  rintro e w2 ⟨rfl, hb2⟩
  have HB2 : Hid (Below w.heap.size w w2) := below_two HB.out hb2
  clear hb2
  go_wp2
  go_ret
  exact ⟨rfl, HB2.out⟩

end Per
end Go.Proofs.Ytmihceoeoggjjaa
