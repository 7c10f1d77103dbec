/-
  The contract of Feed, of an encoder that goes on no more: what is kept comes out, as much of it as there is room for; and the encoder in the templates' words: its windows in block b, itself in the next one. The condition: its memory is there and may be written.
-/
import Derived.Test.YtpglmfhlgaliaaaDoorCPEFeed
namespace Go.Proofs.YtpglmfhlgaliaaaDoor
open Go.ChangeShapes Go.WideShapes Go.ChangeAt Go.RowKit
namespace CP
open Bas Sca Stp Scn Cod Cmp Cps
set_option linter.unusedVariables false
variable {π : Bool}

set_option maxHeartbeats 4000000 in
set_option maxRecDepth 100000 in
/-- Feed, of an encoder that goes on no more. -/
theorem eFeed_off {sg : CS} (D d : Nat) (p q : Int) (en : Bool) (K : List Int) (v : Value) (room : Int) (w : World) (h : EncW π sg w D d p q en K v) (hr : 0 ≤ room ∧ room ≤ 1000) (hg : goB q en = false) (hK : K.length ≤ 1000) :
    Calls Tryd.prog 17 #[.pointer (some ⟨D, 0, none⟩), .slice none 0 0, .int .i64 room] w fun e w' => e = .returned (.tuple #[.int .i64 0, .string (Stp.strOf (K.take (frontR room K.length)))]) ∧ ∃ v', EncW π sg w' D d p q en (K.drop (frontR room K.length)) v' ∧ Chg (fun k _ => footX D d v k) w w' ∧ Mov w v v' := by
  have H : Hid (EncW π sg w D d p q en K v) := h
  have HG : Hid (goB q en = false) := hg
  obtain ⟨f0, hf0⟩ : ∃ f0, frontR room K.length = f0 := ⟨_, rfl⟩
  obtain ⟨T, hT⟩ : ∃ T, K.take f0 = T := ⟨_, rfl⟩
  have hTl : T.length ≤ 1000 := by rw [← hT]; simp; omega
  have HF0 : Hid (frontR room K.length = f0 ∧ K.take f0 = T) := ⟨hf0, hT⟩
  rw [hf0, hT]
  clear h hg hf0 hT hK
  go_enter Tryd.func17, Tryd.ntmps17
  go_wp2_with fail
  have hB1 : Below w.heap.size w (w.alloc (.cells #[.pointer none, .slice none 0 0] 63)) := (Below.refl _ _).alloc (Nat.le_refl _) _
  have E1 := H.out.below hB1
  refine (give_any D 3 v K room _ E1.row (wf_small _ (by omega) (by omega))).mono ?_
  rintro e w2 ⟨v2, rfl, hr2, hc2, ho2⟩
  change RowAt .u8 w2 D 3 v2 (K.drop (frontR room K.length)) at hr2
  rw [HF0.out.1] at hr2
  rw [show frontN room K.length = f0 from HF0.out.1, HF0.out.2]
  have HE2 : Hid (EncW π sg w2 D d p q en (K.drop f0) v2) := E1.rerow hr2 (hc2.mono (fun k j _ h => .inl h)) (fun g hg => .inl (ho2 g hg))
  have HB2 : Hid (Bld w2 w.heap.size w.heap.size (.slice none 0 0) ByteArray.empty) := (bld_new w w.heap.size (Nat.le_refl _) rfl).chg hc2 (fun k j hk hh => by
    have := H.out.lt (.inl (.inl rfl))
    rcases hk with hk | hk
    · omega
    · simp [Value.ownBlock] at hk)
  have HC2 : Hid (Chg (fun k _ => footX D d v k) w w2 ∧ (∀ g, v2.ownBlock = some g → v.ownBlock = some g)) := ⟨(chg_of_below hB1 (Nat.le_refl _) _).trans2 hc2 (fun _ _ _ h => h) (fun k j _ h => .inl (.inl h.1)), ho2⟩
  clear hB1 E1 hr2 hc2 ho2
  go_wp2_with fail
  have hsz2 := HC2.out.1.size
  refine (writeS_any w.heap.size w.heap.size _ ByteArray.empty (Stp.strOf T) w2 HB2.out (by rw [strOf_size]; simp; omega) hsz2).mono ?_
  rintro e w3 ⟨rfl, vb3, hb3, hk3, hm3⟩
  have hfS : ∀ k, footS w.heap.size (Value.slice none 0 0) k → k = w.heap.size := fun k hk => by
    rcases hk with hk | hk
    · exact hk
    · simp [Value.ownBlock] at hk
  have h2b : ∀ k, footX D d v2 k → k < w.heap.size := fun k hk => by
    rcases hk with hk | hk
    · exact H.out.lt (.inl hk)
    · exact H.out.lt (.inr (HC2.out.2 k hk))
  have HE3 : Hid (EncW π sg w3 D d p q en (K.drop f0) v2) := HE2.out.kp hk3 (fun k hk hh => by have := h2b k hk; have := hfS k hh; omega) (fun k hk hh => by have := hfS k hh; have := H.out.sp.tabs.all; omega)
  have HB3 : Hid (Bld w3 w.heap.size w.heap.size vb3 (Stp.strOf T)) := by
    have e : ByteArray.empty ++ Stp.strOf T = Stp.strOf T := by simp
    rw [e] at hb3
    exact hb3
  have HC3 : Hid (Chg (fun k _ => footX D d v k) w w3 ∧ Mov w v v2 ∧ (∀ k, footX D d v2 k → k < w.heap.size)) := ⟨HC2.out.1.kp hk3 (fun k hk hh => by have := hfS k hh; omega), fun g hg => .inl (HC2.out.2 g hg), h2b⟩
  clear hb3 hk3 hm3 hfS h2b HE2 HB2 HC2 hsz2
  go_wp2_with fail
  go_loopw [9] (fun i wr => i = .int .i64 0 ∧ wr = w3) (fun _ _ => 0)
  case atStart => exact ⟨rfl, rfl⟩
  case round =>
    obtain ⟨rfl, rfl⟩ := hrel
    go_wp2_with fail
    refine (going_any D 0 _ _ _ _ HE3.out.base).mono ?_
    rintro e wr ⟨rfl, rfl⟩
    rw [HG.out]
    go_wp2_with fail
    refine (strS_any w.heap.size w.heap.size vb3 (Stp.strOf T) _ HB3.out (by rw [strOf_size]; omega)).mono ?_
    rintro e w5 ⟨rfl, hk5⟩
    go_wp2
    go_ret2
    exact ⟨rfl, v2, HE3.out.kp hk5 (fun k hf hh => by have := (HB3.out.foot_low hh).1; have := HC3.out.2.2 k hf; omega) (fun k hk hh => by have := (HB3.out.foot_low hh).1; have := H.out.sp.tabs.all; omega), HC3.out.1.kp hk5 (fun k hk hh => by have := (HB3.out.foot_low hh).1; omega), HC3.out.2.1⟩
/-- The encoder in the templates' words. -/
abbrev EncV (π : Bool) (sg : CS) (w : World) (b : Nat) (p q : Int) (en : Bool) (K : List Int) (v : Value) : Prop := EncW π sg w (b + 1) b p q en K v
abbrev footE (b : Nat) (v : Value) (k : Nat) : Prop := footX (b + 1) b v k
theorem footE_nil {b k : Nat} (h : footE b (.slice none 0 0) k) : b ≤ k := by
  rcases h with (h | h) | h
  · omega
  · omega
  · simp [Value.ownBlock] at h
end CP
end Go.Proofs.YtpglmfhlgaliaaaDoor
