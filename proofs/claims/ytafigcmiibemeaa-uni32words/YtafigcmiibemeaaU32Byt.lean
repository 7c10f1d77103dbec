/-
  The contract of the document's Bytes of layer 5, as a walk over the translated text. The condition: few numbers.
-/
import Derived.Test.YtafigcmiibemeaaU32Rd
import Derived.Test.YtafigcmiibemeaaMemStep
namespace Go.Proofs.Ytafigcmiibemeaa
open Go.ChangeShapes Go.WideShapes Go.ChangeAt Go.RowKit
namespace U32
open Bas Sca Stp Scn Cod
set_option linter.unusedVariables false
variable {π : Par}

/-- The bytes so far: the program's own, in new memory. -/
def OutOf (w wr : World) (o : Value) (t : List Int) : Prop := Seg .u8 wr o t ∧ (∀ g, o.ownBlock = some g → w.heap.size ≤ g) ∧ Below w.heap.size w wr
theorem OutOf.below {w wr w2 : World} {o : Value} {t : List Int} (h : OutOf w wr o t) (b : Below wr.heap.size wr w2) : OutOf w w2 o t :=
  ⟨h.1.chg (chg_of_below b (Nat.le_refl _) (fun _ _ => False)) (fun _ _ _ h => h), h.2.1, below_two h.2.2 b⟩
theorem OutOf.app {w wr w2 w3 : World} {o o' : Value} {t t' : List Int} (h : OutOf w wr o t) (b : Below wr.heap.size wr w2) (hs : Seg .u8 w3 o' t') (hc : Chg (fun b _ => o.ownBlock = some b) w2 w3) (hm : Mov w2 o o') : OutOf w w3 o' t' := by
  have hz := h.2.2.size
  have hb := below_two h.2.2 b
  refine ⟨hs, fun g hg => ?_, hb.trans (hc.below (by have := b.size; omega) (fun k j hk hh => by have := h.2.1 k hh; omega))⟩
  rcases hm g hg with e | e
  · exact h.2.1 g e
  · have := b.size; omega
set_option maxHeartbeats 8000000 in
set_option maxRecDepth 100000 in
theorem rBytes_all (a : Option Addr) (n cp : Nat) (l : List Int) (w : World) (hr : Row .u32 w a l) (hl : l.length = n) (hn : n ≤ 100000) (hs : ∀ c ∈ l, 0 ≤ c ∧ c < 4294967296) :
    Calls Try.prog 21 #[.slice a n cp, .bool π] w fun e w' => e = .returned (.string (Stp.strOf (bytesOf (oneN π) l))) ∧ Below w.heap.size w w' := by
  obtain ⟨b1, o1, n1, c1⟩ := hr
  have N1 : Hid (l ≠ [] → a = some ⟨b1, o1, none⟩) := n1
  have HC : Hid (∀ i, i < l.length → w.cell? ⟨b1, o1 + i, none⟩ = some (.int .u32 (nth l i))) := c1
  have HS : Hid ((∀ c ∈ l, 0 ≤ c ∧ c < 4294967296) ∧ l.length = n) := ⟨hs, hl⟩
  clear n1 c1 hs hl
  go_enter Try.func21, Try.ntmps21
  go_wp2
  go_loopw [5, 6] (fun o i wr => ∃ k : Nat, i = .int .i64 k ∧ k ≤ n ∧ OutOf w wr o (bytesOf (oneN π) (l.take k))) (fun _ i _ => n - (intOf i).toNat)
  case atStart => exact ⟨0, rfl, Nat.zero_le _, seg_empty _ _ _, fun g hg => by simp [Value.ownBlock] at hg; omega, (Below.refl _ _).alloc (Nat.le_refl _) _⟩
  case round =>
    obtain ⟨k, rfl, hk, hO⟩ := hrel
    have HO : Hid (OutOf w wr u5 (bytesOf (oneN π) (l.take k))) := hO
    clear hO
    by_cases hlt : (k : Int) < (n : Int)
    · have hkn : k < l.length := by have := HS.out.2; omega
      obtain rfl := N1.out (by intro e; subst e; simp at hkn)
      have hcell : wr.cell? ⟨b1, o1 + k, none⟩ = some (.int .u32 (nth l k)) := cell_later HO.out.2.2 (HC.out k hkn)
      have hsc := HS.out.1 _ (nth_mem hkn)
      have ht : bytesOf (oneN π) (l.take (k + 1)) = bytesOf (oneN π) (l.take k) ++ oneN π (nth l k) := by rw [take_snoc l k hkn, bytesOf_append, bytesOf_one]
      have hz := bytesOf_le (oneN π) 4 (oneN_max π) (l.take k)
      rw [List.length_take] at hz
      obtain ⟨x, hx⟩ : ∃ x, nth l k = x := ⟨_, rfl⟩
      rw [hx] at hcell hsc ht
      obtain ⟨t, htt⟩ : ∃ t, bytesOf (oneN π) (l.take k) = t := ⟨_, rfl⟩
      rw [htt] at ht hz HO
      have HT : Hid (bytesOf (oneN π) (l.take (k + 1)) = t ++ oneN π x) := ht
      have hz2 : t.length ≤ 400000 := by omega
      clear hx htt ht hz hkn
      obtain ⟨x0, x1⟩ := hsc
      have d0 : 0 ≤ x / 16777216 := by omega
      have d1 : x / 16777216 < 256 := by omega
      cases π
      · have HE : Hid (oneN false x = [x % 256, x / 256 % 256, x / 65536 % 256, x / 16777216]) := rfl
        have HSA : Hid (∀ o, OutOf w (wr.alloc o) u5 t) := fun o => HO.out.below ((Below.refl _ _).alloc (Nat.le_refl _) o)
        go_wp2_with (at_builtin; go_must (refine wpList_append_seg rfl _ _ 58 58 rfl .u8 5 1 Try.underlying58 info_u8 u5 t [x % 256, x / 256 % 256, x / 65536 % 256, x / 16777216] rfl (HSA.out _).1 _ rfl (src_row (l := [x % 256, x / 256 % 256, x / 65536 % 256, x / 16777216]) Try.underlying58 (by exact row_new .u8 wr [x % 256, x / 256 % 256, x / 65536 % 256, x / 16777216] _ _ rfl) rfl (fun h => by cases h)) (by unfold maxLen; simp; omega) (by simp; omega) ?_; intro vo w4 hs4 hc4 hm4))
        have HF4 : Hid (OutOf w w4 vo (t ++ oneN false x)) := HO.out.app ((Below.refl _ _).alloc (Nat.le_refl _) _) (by rw [HE.out]; exact hs4) hc4 hm4
        clear hs4 hc4 hm4 HSA
        go_roundw
        case rel => exact ⟨k + 1, by go_num, by omega, by rw [HT.out]; exact HF4.out⟩
        case measure => simp [intOf]; omega
      · have HE : Hid (oneN true x = [x / 16777216, x / 65536 % 256, x / 256 % 256, x % 256]) := rfl
        have hB1 : Below wr.heap.size wr (wr.alloc (.cells #[.int .u8 (x % 256), .int .u8 (x / 256 % 256), .int .u8 (x / 65536 % 256), .int .u8 (x / 16777216)] 5)) := (Below.refl _ _).alloc (Nat.le_refl _) _
        have hF : (wr.alloc (.cells #[.int .u8 (x % 256), .int .u8 (x / 256 % 256), .int .u8 (x / 65536 % 256), .int .u8 (x / 16777216)] 5)).drew.cell? ⟨wr.heap.size, 0, none⟩ = some (.int .u8 (x % 256)) ∧ (wr.alloc (.cells #[.int .u8 (x % 256), .int .u8 (x / 256 % 256), .int .u8 (x / 65536 % 256), .int .u8 (x / 16777216)] 5)).drew.cell? ⟨wr.heap.size, 1, none⟩ = some (.int .u8 (x / 256 % 256)) ∧ (wr.alloc (.cells #[.int .u8 (x % 256), .int .u8 (x / 256 % 256), .int .u8 (x / 65536 % 256), .int .u8 (x / 16777216)] 5)).drew.cell? ⟨wr.heap.size, 2, none⟩ = some (.int .u8 (x / 65536 % 256)) ∧ (wr.alloc (.cells #[.int .u8 (x % 256), .int .u8 (x / 256 % 256), .int .u8 (x / 65536 % 256), .int .u8 (x / 16777216)] 5)).drew.cell? ⟨wr.heap.size, 3, none⟩ = some (.int .u8 (x / 16777216)) := by
          simp only [World.cell?_drew]
          refine ⟨?_, ?_, ?_, ?_⟩ <;> (rw [World.cell?_alloc_new]; rfl)
        have HB1 : Hid (Below wr.heap.size wr (wr.alloc (.cells #[.int .u8 (x % 256), .int .u8 (x / 256 % 256), .int .u8 (x / 65536 % 256), .int .u8 (x / 16777216)] 5))) := hB1
        clear hB1
        go_upto_region 8 with fail
        obtain ⟨W, hW⟩ : ∃ W, wr.alloc (.cells #[.int .u8 (x % 256), .int .u8 (x / 256 % 256), .int .u8 (x / 65536 % 256), .int .u8 (x / 16777216)] 5) = W := ⟨_, rfl⟩
        rw [hW] at hF HB1 ⊢
        clear hW
        have hF2 : ∀ O, (W.drew.alloc O).cell? ⟨wr.heap.size, 0, none⟩ = some (.int .u8 (x % 256)) ∧ (W.drew.alloc O).cell? ⟨wr.heap.size, 1, none⟩ = some (.int .u8 (x / 256 % 256)) ∧ (W.drew.alloc O).cell? ⟨wr.heap.size, 2, none⟩ = some (.int .u8 (x / 65536 % 256)) ∧ (W.drew.alloc O).cell? ⟨wr.heap.size, 3, none⟩ = some (.int .u8 (x / 16777216)) := fun O =>
          have hb := (Below.refl W.drew.heap.size W.drew).alloc (Nat.le_refl _) O
          ⟨cell_later hb hF.1, cell_later hb hF.2.1, cell_later hb hF.2.2.1, cell_later hb hF.2.2.2⟩
        go_region_held3 (fun w' => w'.cell? ⟨wr.heap.size, 0, none⟩ = some (.int .u8 (x % 256)) ∧ w'.cell? ⟨wr.heap.size, 1, none⟩ = some (.int .u8 (x / 256 % 256)) ∧ w'.cell? ⟨wr.heap.size, 2, none⟩ = some (.int .u8 (x / 65536 % 256)) ∧ w'.cell? ⟨wr.heap.size, 3, none⟩ = some (.int .u8 (x / 16777216))) (first | exact hF | exact hF2 _) (fail)
        have hBd : Below wr.heap.size wr (W.alloc (.cells #[.int .u8 (x / 16777216), .int .u8 (x / 65536 % 256), .int .u8 (x / 256 % 256), .int .u8 (x % 256)] 5)).drew := (HB1.out.alloc HB1.out.size _).drew
        have HSG : Hid (OutOf w (W.alloc (.cells #[.int .u8 (x / 16777216), .int .u8 (x / 65536 % 256), .int .u8 (x / 256 % 256), .int .u8 (x % 256)] 5)).drew u5 t) := HO.out.below hBd
        have HRW : Hid (Row .u8 (W.alloc (.cells #[.int .u8 (x / 16777216), .int .u8 (x / 65536 % 256), .int .u8 (x / 256 % 256), .int .u8 (x % 256)] 5)).drew (some ⟨W.heap.size, 0, none⟩) [x / 16777216, x / 65536 % 256, x / 256 % 256, x % 256]) := (row_new .u8 W [x / 16777216, x / 65536 % 256, x / 256 % 256, x % 256] 5 _ rfl).mono ((Below.refl _ _).drew)
        have HBD : Hid (Below wr.heap.size wr (W.alloc (.cells #[.int .u8 (x / 16777216), .int .u8 (x / 65536 % 256), .int .u8 (x / 256 % 256), .int .u8 (x % 256)] 5)).drew) := hBd
        clear hBd hF hF2
        go_wp2_with (at_builtin; go_must (refine wpList_append_seg rfl _ _ 58 58 rfl .u8 5 1 Try.underlying58 info_u8 u5 t [x / 16777216, x / 65536 % 256, x / 256 % 256, x % 256] rfl HSG.out.1 _ rfl (src_row (l := [x / 16777216, x / 65536 % 256, x / 256 % 256, x % 256]) Try.underlying58 HRW.out rfl (fun h => by cases h)) (by unfold maxLen; simp; omega) (by simp; omega) ?_; intro vo w4 hs4 hc4 hm4))
        have HF4 : Hid (OutOf w w4 vo (t ++ oneN true x)) := HO.out.app HBD.out (by rw [HE.out]; exact hs4) hc4 hm4
        clear hs4 hc4 hm4 HSG HRW HBD
        go_roundw
        case rel => exact ⟨k + 1, by go_num, by omega, by rw [HT.out]; exact HF4.out⟩
        case measure => simp [intOf]; omega
    · have hkn : k = n := by omega
      have HF : Hid (l.take k = l) := by
        show _ = _
        rw [hkn, ← HS.out.2, List.take_length]
      clear hkn
      obtain ⟨ao, co, hvo, hro, -⟩ := HO.out.1.form
      obtain ⟨ln, hln⟩ : ∃ ln, (bytesOf (oneN π) (l.take k)).length = ln := ⟨_, rfl⟩
      rw [hln] at hvo
      subst hvo
      have hcv := run_string wr _ ln co (bytesOf (oneN π) (l.take k)) hro hln
      have HB : Hid (Below w.heap.size w wr) := HO.out.2.2
      clear hln hro HO
      go_wp2
      go_ret
      exact ⟨by rw [HF.out]; rfl, HB.out⟩
theorem rBytes_any (a : Option Addr) (n cp : Nat) (l : List Int) (w : World) (hr : Row .u32 w a l) (hl : l.length = n) (hn : n ≤ 100000) (hs : ∀ c ∈ l, isB c = true ∧ 0 ≤ c) :
    Calls Try.prog 21 #[.slice a n cp, .bool π] w fun e w' => e = .returned (.string (Stp.strOf (bytesOf (oneN π) l))) ∧ Below w.heap.size w w' :=
  rBytes_all a n cp l w hr hl hn (fun c hc => by have h := hs c hc; have := isB_iff.1 h.1; omega)
end U32
end Go.Proofs.Ytafigcmiibemeaa
