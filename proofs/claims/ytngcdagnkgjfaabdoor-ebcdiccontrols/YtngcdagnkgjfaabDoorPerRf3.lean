/-
  Contracts of the document's To, From, Turn, Text and Back of layer 7, as walks over the translated text. The condition: texts are of at most a million bytes.
-/
import Derived.Test.YtngcdagnkgjfaabDoorPerRf2
namespace Go.Proofs.YtngcdagnkgjfaabDoor
open Go.ChangeShapes Go.WideShapes Go.ChangeAt Go.RowKit
namespace Per
open Bas Txt
set_option linter.unusedVariables false

theorem list_byte {l : List Int} (hl : l.length = 256) (h : ∀ k : Fin 256, 0 ≤ nth l k.val ∧ nth l k.val < 256) : ∀ x ∈ l, 0 ≤ x ∧ x < 256 := by
  intro x hx
  obtain ⟨i, hi, he⟩ := List.mem_iff_getElem.1 hx
  have := h ⟨i, by omega⟩
  have h2 : nth l i = x := by rw [← he, nth, List.getElem?_eq_getElem hi]; rfl
  simp only [h2] at this
  exact this
theorem tabS_ex : ∃ S, strOf tabL = S ∧ S.size = 256 ∧ bytesL S = tabL := ⟨_, rfl, by rw [strOf_size, tabL_len], bytesL_strOf _ (list_byte tabL_len (fun k => ⟨(tab_fact k).1, (tab_fact k).2.1⟩))⟩
theorem frS_ex : ∃ S, strOf frL = S ∧ S.size = 256 ∧ bytesL S = frL := ⟨_, rfl, by rw [strOf_size, frL_len], bytesL_strOf _ (list_byte frL_len (fun k => ⟨(fr_fact k).1, (fr_fact k).2.1⟩))⟩

theorem tab_hit {k : Nat} {x : Int} (hk : k < 256) (h : nth tabL k = x) : at_ frL x = k := by
  rw [← h]; exact (tab_fact ⟨k, hk⟩).2.2
theorem tab_meet {x : Int} (h0 : 0 ≤ x) (h1 : x < 256) (h : ∀ j : Nat, j < 256 → nth tabL j ≠ x) : False := by
  obtain ⟨m, hm, hm2⟩ := nat_of (fr_byte h0 h1).1 (fr_byte h0 h1).2
  refine h m hm2 ?_
  have := tab_fr h0 h1
  rw [hm, at_nat] at this
  exact this
set_option maxHeartbeats 4000000 in
theorem rFrom_any (x : Int) (w : World) (h0 : 0 ≤ x) (h1 : x < 256) : Calls Tryd.prog 18 #[.int .u8 x] w fun e w' => e = .returned (.int .u8 (at_ frL x)) ∧ Below w.heap.size w w' := by
  obtain ⟨S, hS, hz, hX⟩ := tabS_ex
  have HR : Hid (∀ w, Calls Tryd.prog 39 #[] w fun e w' => e = .returned (.string S) ∧ Below w.heap.size w w') := by rw [← hS]; exact rAll_any
  have HX : Hid (bytesL S = tabL) := hX
  clear hS hX
  go_enter Tryd.func18, Tryd.ntmps18
  go_wp2_with fail
  refine (HR.out w).mono ?_
  rintro e W ⟨rfl, hb⟩
  have HB : Hid (Below w.heap.size w W) := hb
  clear hb HR
  go_wp2
  go_loopw [4] (fun i wq => ∃ j : Nat, i = .int .i64 j ∧ j ≤ 256 ∧ (∀ i, i < j → nth tabL i ≠ x) ∧ wq = W) (fun i _ => 256 - (intOf i).toNat)
  case atStart => exact ⟨0, rfl, Nat.zero_le _, fun i hi => by omega, rfl⟩
  case round =>
    obtain ⟨j, rfl, hj, hall, hwq⟩ := hrel
    subst hwq
    have HA : Hid (∀ i, i < j → nth tabL i ≠ x) := hall
    clear hall
    by_cases hlt : j < 256
    · have i1 : (j : Int) < 256 := by omega
      have hlt2 : j < S.size := by omega
      have e1 : ((S[j]'hlt2).toNat : Int) = nth tabL j := str_at HX.out _ _
      by_cases he : nth tabL j = x
      · have HH : Hid (at_ frL x = (j : Int)) := tab_hit hlt he
        rw [he] at e1
        clear he
        go_wp2
        go_ret
        exact ⟨by rw [HH.out]; rfl, HB.out⟩
      · have HN : Hid (nth tabL j ≠ x) := he
        have hb : (nth tabL j == x) = false := by simp [he]
        clear he
        go_wp2
        go_roundw
        case rel =>
          refine ⟨j + 1, by go_num, by omega, fun i hi => ?_, trivial⟩
          by_cases e : i = j
          · rw [e]; exact HN.out
          · exact HA.out i (by omega)
        case measure => simp [intOf]; omega
    · exact absurd (tab_meet h0 h1 (fun i hi => HA.out i (by omega))) (fun h => h)

end Per
end Go.Proofs.YtngcdagnkgjfaabDoor
