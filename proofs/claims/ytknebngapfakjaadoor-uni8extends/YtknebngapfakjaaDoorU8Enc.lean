/-
  The encoder of layer 3 in memory, and the contracts of its calls, as walks over the translated text. The condition: its memory is there and may be written.
-/
import Derived.Test.YtknebngapfakjaaDoorBld
import Derived.Test.YtknebngapfakjaaDoorU8Math
import Derived.Test.YtknebngapfakjaaDoorEncM
import Derived.Test.YtknebngapfakjaaDoorSca1
import Derived.Deep.RegionWith
import Derived.Deep.CutBlock
namespace Go.Proofs.YtknebngapfakjaaDoor
open Go.ChangeShapes Go.WideShapes Go.ChangeAt Go.RowKit
namespace U8
open Bas Sca Stp Scn
set_option linter.unusedVariables false

/-- An encoder in memory. -/
structure EncV (w : World) (b : Nat) (p q : Int) (en : Bool) (K : List Int) (v : Value) : Prop where
  base : BaseAt w b 0 p q en
  row : RowAt .u8 w b 3 v K
/-- Its memory. -/
def footE (b : Nat) (v : Value) (k : Nat) : Prop := k = b ∨ v.ownBlock = some k
theorem EncV.lt {w : World} {b : Nat} {p q : Int} {en : Bool} {K : List Int} {v : Value} (h : EncV w b p q en K v) {k : Nat} (hk : footE b v k) : k < w.heap.size := by
  rcases hk with rfl | hk
  · exact h.base.lt
  · exact h.row.seg.lt hk
theorem EncV.chg {S : Nat → Nat → Prop} {w w' : World} {b : Nat} {p q : Int} {en : Bool} {K : List Int} {v : Value} (h : EncV w b p q en K v) (hc : Chg S w w') (hS : ∀ k j, footE b v k → ¬ S k j) : EncV w' b p q en K v :=
  ⟨h.base.chg hc (fun k j hk => hS k j (.inl hk.1)), h.row.chg hc (fun k j hk => hS k j (by rcases hk with hk | hk; exact .inl hk.1; exact .inr hk))⟩
theorem EncV.below {w w' : World} {b : Nat} {p q : Int} {en : Bool} {K : List Int} {v : Value} (h : EncV w b p q en K v) (hb : Below w.heap.size w w') : EncV w' b p q en K v :=
  h.chg (chg_of_below hb (Nat.le_refl _) (fun _ _ => False)) (fun _ _ _ h => h)
theorem EncV.kp {X : Nat → Prop} {w w' : World} {b : Nat} {p q : Int} {en : Bool} {K : List Int} {v : Value} (h : EncV w b p q en K v) (hc : Kp X w w') (hS : ∀ k, footE b v k → ¬ X k) : EncV w' b p q en K v :=
  ⟨h.base.kp hc (hS b (.inl rfl)), h.row.kp hc (fun k j hk => hS k (by rcases hk with hk | hk; exact .inl hk.1; exact .inr hk))⟩
theorem EncV.rebase {w w' : World} {b : Nat} {p q p' q' : Int} {en en' : Bool} {K : List Int} {v : Value} (h : EncV w b p q en K v) (hb : BaseAt w' b 0 p' q' en') (hc : Chg (footB b 0) w w') : EncV w' b p' q' en' K v := by
  refine ⟨hb, h.row.chg hc (fun k j hk hh => ?_)⟩
  rcases hk with hk | hk
  · have := hh.2; omega
  · exact h.row.ne (by rw [hk, hh.1])
theorem EncV.rerow {w w' : World} {b : Nat} {p q : Int} {en : Bool} {K K' : List Int} {v v' : Value} (h : EncV w b p q en K v) (hr : RowAt .u8 w' b 3 v' K') (hc : Chg (footR b 3 v) w w') : EncV w' b p q en K' v' := by
  refine ⟨h.base.chg hc (fun k j hk hh => ?_), hr⟩
  rcases hh with hh | hh
  · have := hk.2; omega
  · exact h.row.ne (by rw [hh, hk.1])
theorem front_eq (room : Int) (n : Nat) : frontN room n = frontR room n := rfl
/-- The language's own spelling of a scalar. -/
theorem encode_one {c : Int} (h0 : 0 ≤ c) (h : isB c = true) : bytesL (Utf8.encode c) = oneN c := by
  have hi := isB_iff.1 h
  have hv : Utf8.valid c = true := by
    unfold Utf8.valid
    simp
    omega
  obtain ⟨m, rfl⟩ := Int.eq_ofNat_of_zero_le h0
  unfold Utf8.encode
  rw [if_pos hv]
  simp only [Int.toNat_natCast]
  unfold oneN
  have k : ∀ n : Nat, n < 256 → ((UInt8.ofNat n).toNat : Int) = n := fun n hn => by
    have : (UInt8.ofNat n).toNat = n := by simp; omega
    rw [this]
  by_cases h1 : m < 128
  · rw [if_pos h1, if_pos (show (m : Int) < 128 by omega)]
    simp only [bytesL, List.map_cons, List.map_nil]
    rw [k _ (by omega)]
  · rw [if_neg h1, if_neg (show ¬ (m : Int) < 128 by omega)]
    by_cases h2 : m < 2048
    · rw [if_pos h2, if_pos (show (m : Int) < 2048 by omega)]
      simp only [bytesL, List.map_cons, List.map_nil]
      rw [k _ (by omega), k _ (by omega)]; simp
    · rw [if_neg h2, if_neg (show ¬ (m : Int) < 2048 by omega)]
      by_cases h3 : m < 65536
      · rw [if_pos h3, if_pos (show (m : Int) < 65536 by omega)]
        simp only [bytesL, List.map_cons, List.map_nil]
        rw [k _ (by omega), k _ (by omega), k _ (by omega)]; simp
      · rw [if_neg h3, if_neg (show ¬ (m : Int) < 65536 by omega)]
        simp only [bytesL, List.map_cons, List.map_nil]
        rw [k _ (by omega), k _ (by omega), k _ (by omega), k _ (by omega)]; simp
theorem newE_any (w : World) :
    Calls Tryd.prog 18 #[] w fun e w' => e = .returned (.pointer (some ⟨w.heap.size, 0, none⟩)) ∧ w' = w.alloc (.cells #[.int .i64 0, .int .i64 0, .bool false, .slice none 0 0] 60) := by
  go_enter Tryd.func18, Tryd.ntmps18
  go_wp2
  go_ret
  exact ⟨rfl, rfl⟩
theorem conv_one (c : Int) (w : World) (h0 : 0 ≤ c) (h : isB c = true) : (convert 21 9 (.int .i32 c)).run Tryd.prog w = .ok (.string (strOf (oneN c))) w := by
  rw [← encode_one h0 h, strOf_bytesL]
  simp [convert, run_underlying Tryd.underlying21, run_underlying Tryd.underlying9, Conv.intToString]
end U8
end Go.Proofs.YtknebngapfakjaaDoor
