/-
  The encoder of layer 4 in memory, and the contracts of its own calls, as walks over the translated text. The condition: its memory is there and may be written.
-/
import Derived.Test.YtajpllhljgpidaaCod
import Derived.Test.YtajpllhljgpidaaU16Dec
import Derived.Test.YtajpllhljgpidaaScaU
import Derived.Laws.BitsAll
import Derived.Deep.RegionHeld3
import Derived.Deep.CutBlock
namespace Go.Proofs.Ytajpllhljgpidaa
open Go.ChangeShapes Go.WideShapes Go.ChangeAt Go.RowKit
namespace U16
open Bas Sca Stp Scn Cod
set_option linter.unusedVariables false

/-- An encoder in memory. -/
structure EncV (π : Par) (w : World) (b : Nat) (p q : Int) (en : Bool) (K : List Int) (v : Value) : Prop where
  base : BaseAt w b 0 p q en
  row : RowAt .u8 w b 3 v K
  par : w.cell? ⟨b, 4, none⟩ = some (.bool π)
/-- Its memory. -/
def footE (b : Nat) (v : Value) (k : Nat) : Prop := k = b ∨ v.ownBlock = some k
variable {π : Par}
theorem EncV.lt {w : World} {b : Nat} {p q : Int} {en : Bool} {K : List Int} {v : Value} (h : EncV π w b p q en K v) {k : Nat} (hk : footE b v k) : k < w.heap.size := by
  rcases hk with rfl | hk
  · exact h.base.lt
  · exact h.row.seg.lt hk
theorem EncV.chg {S : Nat → Nat → Prop} {w w' : World} {b : Nat} {p q : Int} {en : Bool} {K : List Int} {v : Value} (h : EncV π w b p q en K v) (hc : Chg S w w') (hS : ∀ k j, footE b v k → ¬ S k j) : EncV π w' b p q en K v :=
  ⟨h.base.chg hc (fun k j hk => hS k j (.inl hk.1)), h.row.chg hc (fun k j hk => hS k j (by rcases hk with hk | hk; exact .inl hk.1; exact .inr hk)), hc.cellAt h.par (hS b 4 (.inl rfl))⟩
theorem EncV.below {w w' : World} {b : Nat} {p q : Int} {en : Bool} {K : List Int} {v : Value} (h : EncV π w b p q en K v) (hb : Below w.heap.size w w') : EncV π w' b p q en K v :=
  h.chg (chg_of_below hb (Nat.le_refl _) (fun _ _ => False)) (fun _ _ _ h => h)
theorem EncV.kp {X : Nat → Prop} {w w' : World} {b : Nat} {p q : Int} {en : Bool} {K : List Int} {v : Value} (h : EncV π w b p q en K v) (hc : Kp X w w') (hS : ∀ k, footE b v k → ¬ X k) : EncV π w' b p q en K v :=
  ⟨h.base.kp hc (hS b (.inl rfl)), h.row.kp hc (fun k j hk => hS k (by rcases hk with hk | hk; exact .inl hk.1; exact .inr hk)), hc.cellAt h.par (hS b (.inl rfl))⟩
theorem EncV.rebase {w w' : World} {b : Nat} {p q p' q' : Int} {en en' : Bool} {K : List Int} {v : Value} (h : EncV π w b p q en K v) (hb : BaseAt w' b 0 p' q' en') (hc : Chg (footB b 0) w w') : EncV π w' b p' q' en' K v := by
  refine ⟨hb, h.row.chg hc (fun k j hk hh => ?_), hc.cellAt h.par (fun hh => by have := hh.2; omega)⟩
  rcases hk with hk | hk
  · have := hh.2; omega
  · exact h.row.ne (by rw [hk, hh.1])
theorem EncV.rerow {w w' : World} {b : Nat} {p q : Int} {en : Bool} {K K' : List Int} {v v' : Value} (h : EncV π w b p q en K v) (hr : RowAt .u8 w' b 3 v' K') (hc : Chg (footR b 3 v) w w') : EncV π w' b p q en K' v' := by
  refine ⟨h.base.chg hc (fun k j hk hh => ?_), hr, hc.cellAt h.par (fun hh => ?_)⟩
  · rcases hh with hh | hh
    · have := hk.2; omega
    · exact h.row.ne (by rw [hh, hk.1])
  · rcases hh with hh | hh
    · omega
    · exact h.row.ne hh
theorem footE_nil {b k : Nat} (h : footE b (.slice none 0 0) k) : k = b := by
  rcases h with h | h
  · exact h
  · simp [Value.ownBlock] at h
theorem newEn_any (π : Par) (w : World) {N : Nat} (hN : N = w.heap.size) :
    Calls Try.prog 18 #[.bool π] w fun e w' => e = .returned (.pointer (some ⟨N, 0, none⟩)) ∧ EncV π w' N 0 0 false [] (.slice none 0 0) ∧ w'.heap.size = N + 1 ∧ Below N w w' := by
  subst hN
  go_enter Try.func18, Try.ntmps18
  go_wp2
  go_ret
  refine ⟨rfl, ⟨⟨?_, ?_, ?_, ?_, ?_, ?_⟩, ⟨?_, ?_, seg_nil _ _, by simp [Value.ownBlock]⟩, ?_⟩, by simp, (Below.refl _ _).alloc (Nat.le_refl _) _⟩
  all_goals first | (rw [World.cell?_alloc_new]; rfl) | simp
set_option maxHeartbeats 1000000 in
theorem split_any (u : Int) (w : World) (h0 : 0 ≤ u) (h1 : u < 65536) :
    Calls Try.prog 60 #[.agg #[.bool π], .int .u32 u] w fun e w' => e = .returned (.string (Stp.strOf (unitB π u))) ∧ Below w.heap.size w w' := by
  have hcv : ∀ x y, (convert 46 9 (.slice (some ⟨w.heap.size + 1, 0, none⟩) 2 2)).run Try.prog ((w.alloc (.cells #[.bool π] 45)).alloc (.cells #[.int .u8 x, .int .u8 y] 5)) = .ok (.string (Stp.strOf [x, y])) ((w.alloc (.cells #[.bool π] 45)).alloc (.cells #[.int .u8 x, .int .u8 y] 5)) := fun x y =>
    run_string _ _ 2 2 [x, y] (by exact row_new .u8 (w.alloc (.cells #[.bool π] 45)) [x, y] _ _ (by simp)) rfl
  cases π
  · go_enter Try.func60, Try.ntmps60
    go_wp2
    go_ret
    exact ⟨rfl, ((Below.refl _ _).alloc (Nat.le_refl _) _).alloc (by simp) _⟩
  · go_enter Try.func60, Try.ntmps60
    go_wp2
    go_ret
    exact ⟨rfl, ((Below.refl _ _).alloc (Nat.le_refl _) _).alloc (by simp) _⟩
theorem ret_str {a b : ByteArray} (h : a = b) : Ending.returned (.string a) = .returned (.string b) := by rw [h]
set_option maxHeartbeats 4000000 in
theorem spell_any (c : Int) (w : World) (h0 : 0 ≤ c) (hi : isB c = true) :
    Calls Try.prog 46 #[.agg #[.bool π], .int .u32 c] w fun e w' => e = .returned (.string (Stp.strOf (oneN π c))) ∧ Below w.heap.size w w' := by
  have h1 := isB_iff.1 hi
  have hB1 : Below w.heap.size w ((w.alloc (.cells #[.bool π] 45)).alloc (.cells #[.int .u32 c] 74)) := ((Below.refl _ _).alloc (Nat.le_refl _) _).alloc (by simp) _
  have hbox : ((w.alloc (.cells #[.bool π] 45)).alloc (.cells #[.int .u32 c] 74)).cell? ⟨w.heap.size, 0, none⟩ = some (.bool π) :=
    cell_later (w := w.alloc (.cells #[.bool π] 45)) ((Below.refl _ _).alloc (Nat.le_refl _) _) (show (w.alloc (.cells #[.bool π] 45)).cell? ⟨w.heap.size, 0, none⟩ = some (.bool π) by rw [World.cell?_alloc_new]; rfl)
  have hu : unitsL [c] = if c < 65536 then 1 else 2 := by
    unfold unitsL unitsL uOf
    rw [if_pos hi]
    split <;> split <;> omega
  have HU : Hid (unitsL [c] = if c < 65536 then 1 else 2) := hu
  have HB1 : Hid (Below w.heap.size w ((w.alloc (.cells #[.bool π] 45)).alloc (.cells #[.int .u32 c] 74))) := hB1
  clear hu hi hB1
  by_cases h2 : c < 65536
  · have HO : Hid (oneN π c = unitB π c) := by show _ = _; unfold oneN; rw [if_pos h2]
    go_enter Try.func46, Try.ntmps46
    go_wp2_with fail
    refine (sUnits_any _ 1 1 [c] _ (by exact row_new .u32 _ [c] _ _ (by simp)) rfl (by omega)).mono ?_
    rintro e w2 ⟨rfl, rfl⟩
    rw [HU.out, if_pos h2]
    go_wp2_with fail
    refine (split_any c _ h0 h2).mono ?_
    rintro e w3 ⟨rfl, b3⟩
    go_wp2
    go_ret
    exact ⟨ret_str (by rw [HO.out]), below_two HB1.out b3⟩
  · have hl0 : 0 ≤ (c - 65536) / 1024 := by omega
    have hl1 : (c - 65536) / 1024 < 1024 := by omega
    have hl2 : 0 ≤ (c - 65536) % 1024 := by omega
    have hl3 : (c - 65536) % 1024 < 1024 := by omega
    have e1 : bits .and .u32 (c - 65536) 1023 = (c - 65536) % 1024 := and10 _ (by omega) (by omega)
    have e2 : bits .or .u32 55296 ((c - 65536) / 1024) = 55296 + (c - 65536) / 1024 := or_join 10 _ _ (by decide) (by omega) (by decide) (by omega) (by omega) (by omega) (by omega)
    have e3 : bits .or .u32 56320 ((c - 65536) % 1024) = 56320 + (c - 65536) % 1024 := or_join 10 _ _ (by decide) (by omega) (by decide) (by omega) (by omega) (by omega) (by omega)
    have HO : Hid (oneN π c = unitB π (55296 + (c - 65536) / 1024) ++ unitB π (56320 + (c - 65536) % 1024)) := by show _ = _; unfold oneN; rw [if_neg h2]
    have g3 : ∀ x y, ¬ 9223372036854775807 < (Stp.strOf (unitB π x)).size + (Stp.strOf (unitB π y)).size := fun x y => by rw [strOf_size, strOf_size, unitB_length, unitB_length]; omega
    go_enter Try.func46, Try.ntmps46
    go_wp2_with fail
    refine (sUnits_any _ 1 1 [c] _ (by exact row_new .u32 _ [c] _ _ (by simp)) rfl (by omega)).mono ?_
    rintro e w2 ⟨rfl, rfl⟩
    rw [HU.out, if_neg (by omega)]
    go_upto_region 4 with fail
    have hF : ((w.alloc (.cells #[.bool π] 45)).alloc (.cells #[.int .u32 c] 74)).drew.cell? ⟨w.heap.size, 0, none⟩ = some (.bool π) := by rw [World.cell?_drew]; exact hbox
    have B5 := HB1.out.drew
    clear hbox
    go_region_held3 (fun w' => w'.cell? ⟨w.heap.size, 0, none⟩ = some (.bool π)) (exact hF) (first
      | (go_at_call 60; refine (split_any _ _ ?_ ?_).mono ?_; (first | omega); (first | omega); rintro e w5 ⟨rfl, b5⟩; have hF := cell_later b5 hF; have B5 := below_two B5 b5; clear b5))
    go_wp2
    go_ret
    exact ⟨ret_str (by rw [HO.out, strOf_append]), B5⟩
end U16
end Go.Proofs.Ytajpllhljgpidaa
