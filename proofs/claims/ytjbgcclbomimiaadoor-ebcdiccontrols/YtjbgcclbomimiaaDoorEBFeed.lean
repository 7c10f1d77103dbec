/-
  The contract of the decoder's Feed of layer 8, as a walk over the translated text: the part of a text that matters, turned back, to layer 6's decoder. The condition: its memory is there and may be written; texts are small.
-/
import Derived.Test.YtjbgcclbomimiaaDoorEBDec
import Derived.Deep.RegionHeld3
namespace Go.Proofs.YtjbgcclbomimiaaDoor
open Go.ChangeShapes Go.WideShapes Go.ChangeAt Go.RowKit
namespace EB
open Bas Sca Stp Scn Cod
set_option linter.unusedVariables false
variable {π : Par}

/-- The part of a text that matters. -/
def cutS (str : ByteArray) (room : Int) : ByteArray := if room > (str.size : Int) / 5 then str else str.extract 0 (5 * room.toNat)
set_option maxHeartbeats 1000000 in
theorem within_any (str : ByteArray) (room : Int) (w : World) (hn : str.size ≤ 1000000) :
    Calls Tryd.prog 59 #[.string str, .int .i64 room] w fun e w' => e = .returned (.string (cutS str room)) ∧ w' = w := by
  have hq : (str.size : Int).tdiv 5 = (str.size : Int) / 5 := Int.tdiv_eq_ediv_of_nonneg (by omega)
  by_cases h : room > (str.size : Int) / 5
  · have HC : Hid (cutS str room = str) := by show _ = _; unfold cutS; rw [if_pos h]
    rw [HC.out]
    rw [← hq] at h
    go_enter Tryd.func59, Tryd.ntmps59
    go_wp2
    go_ret
    exact ⟨rfl, rfl⟩
  · have HC : Hid (cutS str room = str.extract 0 (5 * room.toNat)) := by show _ = _; unfold cutS; rw [if_neg h]
    rw [HC.out]
    clear HC
    by_cases h0 : room < 0
    · have HZ : Hid (5 * room.toNat = 0) := by show _ = _; omega
      rw [HZ.out]
      rw [← hq] at h
      clear hq
      have h1 : (0 : Int) ≤ (str.size : Int) := by omega
      go_enter Tryd.func59, Tryd.ntmps59
      go_wp2
      go_ret
      exact ⟨rfl, rfl⟩
    · obtain ⟨m, rfl⟩ := Int.eq_ofNat_of_zero_le (show 0 ≤ room by omega)
      have hm : 5 * m ≤ str.size := by omega
      have hw : IntKind.i64.wrap ((m : Int) * 5) = ((5 * m : Nat) : Int) := by rw [wrap_i64s _ (by omega) (by omega)]; omega
      have hle : ((5 * m : Nat) : Int) ≤ (str.size : Int) := by omega
      rw [← hq] at h
      clear hq
      rw [Int.toNat_natCast]
      go_enter Tryd.func59, Tryd.ntmps59
      go_wp2
      go_ret
      exact ⟨rfl, rfl⟩
theorem cut_feed (str : ByteArray) (room : Int) (s : St) (hg : M8.Good () s) (hs : ∀ x ∈ s, 0 ≤ x ∧ x < 256) :
    feed (M8.stepU ()) room s 0 (Per.turnL Per.frL (bytesL (cutS str room))) = feed (stepU π) room s 0 (bytesL str) := by
  unfold cutS
  split
  · rw [feed_turn]
  · rw [bytesL_take]
    exact feed_within π room (bytesL str) s (5 * room.toNat) hg hs (bytesL_byte str) (by omega) (by rw [bytesL_length]; omega)
theorem back_bytes (str : ByteArray) : bytesL (Txt.strOf (Per.turnL Per.frL (bytesL str))) = Per.turnL Per.frL (bytesL str) := Txt.bytesL_strOf _ (turn_byte (bytesL_byte str)).2
theorem cutS_size (str : ByteArray) (room : Int) : (cutS str room).size ≤ str.size := by
  unfold cutS
  split
  · exact Nat.le_refl _
  · rw [← bytesL_length, bytesL_take, List.length_take, bytesL_length]; omega
/-- What a call of Feed leaves: what it told lies in new memory, and the decoder stands where the machine does. -/
def FeedQ (π : Par) (b : Nat) (p : Int) (v u : Value) (X : Res St) (vr : Value) (w w' : World) : Prop :=
  ∃ v' u', Seg .u32 w' vr X.told ∧ (∀ g, vr.ownBlock = some g → w.heap.size ≤ g ∧ ¬ footD b v' u' g) ∧
      DecV π w' b (p + X.eaten) (if X.bad = true then 3 else 0) false X.st [] v' u' ∧ Chg (fun k _ => footD b v u k) w w' ∧ Mov w v v' ∧ Mov w u u'
theorem feedQ_of {b : Nat} {p : Int} {v u vr : Value} {X : Res St} {w w1 w2 : World} {s : St} (h : DecV π w b p 0 false s [] v u) (b1 : Below w.heap.size w w1) (Q : M8.FeedQ () b p v u X vr w1 w2) : FeedQ π b p v u X vr w w2 := by
  obtain ⟨v', u', hs, hf, hD, hC, hM, hU⟩ := Q
  have h1 := h.below b1
  have hlt := h.lt
  have hz := b1.size
  have hM' : Mov w v v' := fun g hg => by
    rcases hM g hg with e | e
    · exact .inl e
    · exact .inr (by omega)
  refine ⟨v', u', hs, fun g hg => ⟨by have := (hf g hg).1; omega, fun hh => ?_⟩, ⟨hD, h1.outer.chg hC (fun k j hk => h1.apart hk), fun g hg => ?_⟩, ?_, hM', fun g hg => ?_⟩
  · obtain ⟨h2, h3⟩ := hf g hg
    rcases hh with hh | hh
    · omega
    · exact h3 (.inr hh)
  · rcases hM' g hg with e | e
    · exact h.vne g e
    · omega
  · exact ((chg_of_below b1 (Nat.le_refl _) (fun k _ => footD b v u k)).trans2 hC (fun _ _ _ h => h) (fun k j _ h => foot_in h))
  · rcases hU g hg with e | e
    · exact .inl e
    · exact .inr (by omega)

set_option maxHeartbeats 4000000 in
set_option maxRecDepth 100000 in
theorem feed_any (b : Nat) (p : Int) (s : List Int) (v u : Value) (str : ByteArray) (room : Int) (X : Res St) (w : World) (h : DecV π w b p 0 false s [] v u) (hX : X = feed (stepU π) room s 0 (bytesL str)) (hr : (Lit.int .i64 room).wf = true) (hn : str.size ≤ 1000000) (hp0 : 0 ≤ p) (hp1 : p ≤ 1000000000) :
    Calls Tryd.prog 42 #[.pointer (some ⟨b + 5, 0, none⟩), .string str, .int .i64 room] w fun e w' => ∃ vr, e = .returned (.tuple #[.int .i64 X.eaten, vr]) ∧ FeedQ π b p v u X vr w w' := by
  have H : Hid (DecV π w b p 0 false s [] v u) := h
  have HX : Hid (X = feed (M8.stepU ()) room s 0 (bytesL (Txt.strOf (Per.turnL Per.frL (bytesL (cutS str room)))))) := by
    show _ = _
    rw [back_bytes, cut_feed (π := π) str room s h.inn.good h.inn.byte]; exact hX
  have hcs := cutS_size str room
  have hts : (Txt.strOf (Per.turnL Per.frL (bytesL (cutS str room)))).size ≤ 1000000 := by rw [Txt.strOf_size, Per.turnL_len, bytesL_length]; omega
  clear h hX
  go_enter Tryd.func42, Tryd.ntmps42
  go_upto_region 1 with fail
  have B1 : Below w.heap.size w w.drew := (Below.refl _ _).drew
  have hF : w.drew.cell? ⟨b + 5, 0, none⟩ = some (.pointer (some ⟨b, 0, none⟩)) ∧ w.drew.cell? ⟨b + 5, 1, none⟩ = some (.pointer (some ⟨b + 1, 0, none⟩)) := by
    have := (H.out.below B1).outer
    exact ⟨this.c0, this.c1⟩
  go_region_held3 (fun w' => w'.cell? ⟨b + 5, 0, none⟩ = some (.pointer (some ⟨b, 0, none⟩)) ∧ w'.cell? ⟨b + 5, 1, none⟩ = some (.pointer (some ⟨b + 1, 0, none⟩))) (exact hF) (first
    | (go_at_call 59; refine (within_any str room _ hn).mono ?_; rintro e w2 ⟨rfl, rfl⟩)
    | (go_at_call 58; refine (Per.back_any (b + 1) (cutS str room) _ ?_ ?_).mono ?_; exact (H.out.below B1).outer.tab; omega; rintro e w3 ⟨rfl, b3⟩; have hF := And.intro (cell_later b3 hF.1) (cell_later b3 hF.2); have B1 := below_two B1 b3; clear b3)
    | (go_at_call 43; refine (M8.feed_any (π := ()) b p s v u _ room X _ ?_ HX.out hr hts hp0 hp1).mono ?_; exact (H.out.below B1).inn; rintro e w4 ⟨vr, rfl, Q4⟩; have Q := feedQ_of H.out B1 Q4; have hF : w4.cell? ⟨b + 5, 0, none⟩ = some (.pointer (some ⟨b, 0, none⟩)) ∧ w4.cell? ⟨b + 5, 1, none⟩ = some (.pointer (some ⟨b + 1, 0, none⟩)) := (by obtain ⟨_, _, _, _, hD, _⟩ := Q; exact ⟨hD.outer.c0, hD.outer.c1⟩)))
  all_goals
    go_wp2
    go_ret2
    exact ⟨vr, rfl, Q⟩
end EB
end Go.Proofs.YtjbgcclbomimiaaDoor
