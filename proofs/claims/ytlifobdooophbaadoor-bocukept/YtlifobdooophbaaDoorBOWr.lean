/-
  The contract of the law's own 'write': numbers in whatever parts, with whatever room, as a walk over the translated text. The condition: the encoder is a new one; the lists are small.
-/
import Derived.Test.YtlifobdooophbaaDoorBOEFeed
import Derived.Test.YtlifobdooophbaaDoorBORd
namespace Go.Proofs.YtlifobdooophbaaDoor
open Go.ChangeShapes Go.WideShapes Go.ChangeAt Go.RowKit
namespace BO
open Bas Sca Stp Scn Cod
set_option linter.unusedVariables false
variable {π : Par}

set_option maxHeartbeats 4000000 in
set_option maxRecDepth 100000 in
/-- Feed, of an encoder that goes on no more. -/
theorem eFeed_off {sg : ES} (b : Nat) (p q : Int) (en : Bool) (K : List Int) (v : Value) (w : World) (h : EncV π sg w b p q en K v) (hg : goB q en = false) (hK : K.length ≤ 8) :
    Calls Tryd.prog 32 #[.pointer (some ⟨b, 0, none⟩), .slice none 0 0, .int .i64 8] w fun e w' => e = .returned (.tuple #[.int .i64 0, .string (Stp.strOf K)]) ∧ ∃ v', EncV π sg w' b p q en [] v' ∧ Chg (fun k _ => footE b v k) w w' ∧ Mov w v v' := by
  have H : Hid (EncV π sg w b p q en K v) := h
  have HG : Hid (goB q en = false) := hg
  clear h hg
  go_enter Tryd.func32, Tryd.ntmps32
  go_wp2_with fail
  have hB1 : Below w.heap.size w (w.alloc (.cells #[.pointer none, .slice none 0 0] 90)) := (Below.refl _ _).alloc (Nat.le_refl _) _
  have E1 := H.out.below hB1
  refine (give_any b 3 v K 8 _ E1.row (wf_small _ (by omega) (by omega))).mono ?_
  rintro e w2 ⟨v2, rfl, hr2, hc2, ho2⟩
  rw [frontN_all (by omega), List.drop_length] at hr2
  rw [frontN_all (by omega), List.take_length]
  have HE2 : Hid (EncV π sg w2 b p q en [] v2) := E1.rerow hr2 (hc2.mono (fun k j _ h => .inl h)) (fun g hg => .inl (ho2 g hg))
  have HB2 : Hid (Bld w2 w.heap.size w.heap.size (.slice none 0 0) ByteArray.empty) := (bld_new w w.heap.size (Nat.le_refl _) rfl).chg hc2 (fun k j hk hh => by
    have := H.out.lt (.inl rfl)
    rcases hk with hk | hk
    · omega
    · simp [Value.ownBlock] at hk)
  have HC2 : Hid (Chg (fun k _ => footE b v k) w w2 ∧ (∀ g, v2.ownBlock = some g → v.ownBlock = some g)) := ⟨(chg_of_below hB1 (Nat.le_refl _) _).trans2 hc2 (fun _ _ _ h => h) (fun k j _ h => .inl h.1), ho2⟩
  clear hB1 E1 hr2 hc2 ho2
  go_wp2_with fail
  have hsz2 := HC2.out.1.size
  refine (writeS_any w.heap.size w.heap.size _ ByteArray.empty (Stp.strOf K) w2 HB2.out (by rw [strOf_size]; simp; omega) hsz2).mono ?_
  rintro e w3 ⟨rfl, vb3, hb3, hk3, hm3⟩
  have hfS : ∀ k, footS w.heap.size (Value.slice none 0 0) k → k = w.heap.size := fun k hk => by
    rcases hk with hk | hk
    · exact hk
    · simp [Value.ownBlock] at hk
  have h2b : ∀ k, footE b v2 k → k < w.heap.size := fun k hk => by
    rcases hk with hk | hk
    · rw [hk]; exact H.out.lt (.inl rfl)
    · exact H.out.lt (.inr (HC2.out.2 k hk))
  have HE3 : Hid (EncV π sg w3 b p q en [] v2) := HE2.out.kp hk3 (fun k hk hh => by have := h2b k hk; have := hfS k hh; omega) (fun hh => by have := hfS 0 hh; have := H.out.tabs.pos; omega) (fun hh => by have := hfS 1 hh; have := H.out.tabs.pos; omega)
  have HB3 : Hid (Bld w3 w.heap.size w.heap.size vb3 (Stp.strOf K)) := by
    have e : ByteArray.empty ++ Stp.strOf K = Stp.strOf K := by simp
    rw [e] at hb3
    exact hb3
  have HC3 : Hid (Chg (fun k _ => footE b v k) w w3 ∧ Mov w v v2 ∧ (∀ k, footE b v2 k → k < w.heap.size)) := ⟨HC2.out.1.kp hk3 (fun k hk hh => by have := hfS k hh; omega), fun g hg => .inl (HC2.out.2 g hg), h2b⟩
  clear hb3 hk3 hm3 hfS h2b HE2 HB2 HC2 hsz2
  go_wp2_with fail
  go_loopw [9] (fun i wr => i = .int .i64 0 ∧ wr = w3) (fun _ _ => 0)
  case atStart => exact ⟨rfl, rfl⟩
  case round =>
    obtain ⟨rfl, rfl⟩ := hrel
    go_wp2_with fail
    refine (going_any b 0 _ _ _ _ HE3.out.base).mono ?_
    rintro e wr ⟨rfl, rfl⟩
    rw [HG.out]
    go_wp2_with fail
    refine (strS_any w.heap.size w.heap.size vb3 (Stp.strOf K) _ HB3.out (by rw [strOf_size]; omega)).mono ?_
    rintro e w5 ⟨rfl, hk5⟩
    go_wp2
    go_ret2
    exact ⟨rfl, v2, HE3.out.kp hk5 (fun k hf hh => by have := (HB3.out.foot_low hh).1; have := HC3.out.2.2 k hf; omega) (fun hh => by have := (HB3.out.foot_low hh).1; have := H.out.tabs.pos; omega) (fun hh => by have := (HB3.out.foot_low hh).1; have := H.out.tabs.pos; omega), HC3.out.1.kp hk5 (fun k hk hh => by have := (HB3.out.foot_low hh).1; omega), HC3.out.2.1⟩
end BO
end Go.Proofs.YtlifobdooophbaaDoor
