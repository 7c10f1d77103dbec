/-
  The encoder of layer 12 in memory, and the contracts of its own calls, as walks over the translated text. The condition: its memory is there and may be written; the tables are as the program's text lays them.
-/
import Derived.Test.YtlifobdooophbaaDoorBODec
import Derived.Test.YtlifobdooophbaaDoorMemS
import Derived.Deep.RegionHeld3
import Derived.Deep.CutBlock
namespace Go.Proofs.YtlifobdooophbaaDoor
open Go.ChangeShapes Go.WideShapes Go.ChangeAt Go.RowKit
namespace BO
open Bas Sca Stp Scn Cod
set_option linter.unusedVariables false

/-- An encoder in memory, and what it holds the next scalar against. -/
structure EncV (π : Par) (sg : ES) (w : World) (b : Nat) (p q : Int) (en : Bool) (K : List Int) (v : Value) : Prop where
  base : BaseAt w b 0 p q en
  row : RowAt .u8 w b 3 v K
  ag : w.cell? ⟨b, 4, none⟩ = some (.int .u32 sg)
  f4 : w.frozen? ⟨b, 4, none⟩ = false
  good : Boc.GA sg
  tabs : Dif.Tabs w
  two : 2 ≤ b
  twoV : ∀ g, v.ownBlock = some g → 2 ≤ g
/-- Its memory. -/
def footE (b : Nat) (v : Value) (k : Nat) : Prop := k = b ∨ v.ownBlock = some k
variable {π : Par}
theorem EncV.lt {sg : ES} {w : World} {b : Nat} {p q : Int} {en : Bool} {K : List Int} {v : Value} (h : EncV π sg w b p q en K v) {k : Nat} (hk : footE b v k) : k < w.heap.size := by
  rcases hk with rfl | hk
  · exact h.base.lt
  · exact h.row.seg.lt hk
theorem EncV.chg {sg : ES} {S : Nat → Nat → Prop} {w w' : World} {b : Nat} {p q : Int} {en : Bool} {K : List Int} {v : Value} (h : EncV π sg w b p q en K v) (hc : Chg S w w') (hS : ∀ k j, footE b v k → ¬ S k j) (h0 : ∀ j, ¬ S 0 j) (h1 : ∀ j, ¬ S 1 j) : EncV π sg w' b p q en K v :=
  ⟨h.base.chg hc (fun k j hk => hS k j (.inl hk.1)), h.row.chg hc (fun k j hk => hS k j (by rcases hk with hk | hk; exact .inl hk.1; exact .inr hk)), hc.cellAt h.ag (hS b 4 (.inl rfl)), hc.freeAt h.ag h.f4, h.good, h.tabs.chg hc h0 h1, h.two, h.twoV⟩
theorem EncV.below {sg : ES} {w w' : World} {b : Nat} {p q : Int} {en : Bool} {K : List Int} {v : Value} (h : EncV π sg w b p q en K v) (hb : Below w.heap.size w w') : EncV π sg w' b p q en K v :=
  h.chg (chg_of_below hb (Nat.le_refl _) (fun _ _ => False)) (fun _ _ _ h => h) (fun _ h => h) (fun _ h => h)
theorem EncV.kp {sg : ES} {X : Nat → Prop} {w w' : World} {b : Nat} {p q : Int} {en : Bool} {K : List Int} {v : Value} (h : EncV π sg w b p q en K v) (hc : Kp X w w') (hS : ∀ k, footE b v k → ¬ X k) (h0 : ¬ X 0) (h1 : ¬ X 1) : EncV π sg w' b p q en K v :=
  ⟨h.base.kp hc (hS b (.inl rfl)), h.row.kp hc (fun k j hk => hS k (by rcases hk with hk | hk; exact .inl hk.1; exact .inr hk)), hc.cellAt h.ag (hS b (.inl rfl)), hc.freeAt h.ag h.f4 (hS b (.inl rfl)), h.good, h.tabs.kp hc h0 h1, h.two, h.twoV⟩
theorem EncV.rebase {sg : ES} {w w' : World} {b : Nat} {p q p' q' : Int} {en en' : Bool} {K : List Int} {v : Value} (h : EncV π sg w b p q en K v) (hb : BaseAt w' b 0 p' q' en') (hc : Chg (footB b 0) w w') : EncV π sg w' b p' q' en' K v := by
  have htwo := h.two
  refine ⟨hb, h.row.chg hc (fun k j hk hh => ?_), hc.cellAt h.ag (fun hh => ?_), hc.freeAt h.ag h.f4, h.good, h.tabs.chg hc (fun j hh => ?_) (fun j hh => ?_), h.two, h.twoV⟩
  · rcases hk with hk | hk
    · have := hh.2; omega
    · exact h.row.ne (by rw [hk, hh.1])
  · have := hh.2; omega
  · have := hh.1; omega
  · have := hh.1; omega
theorem EncV.rerow {sg : ES} {w w' : World} {b : Nat} {p q : Int} {en : Bool} {K K' : List Int} {v v' : Value} (h : EncV π sg w b p q en K v) (hr : RowAt .u8 w' b 3 v' K') (hc : Chg (footR b 3 v) w w') (hm : Mov w v v') : EncV π sg w' b p q en K' v' := by
  have htwo := h.two
  refine ⟨h.base.chg hc (fun k j hk hh => ?_), hr, hc.cellAt h.ag (fun hh => ?_), hc.freeAt h.ag h.f4, h.good, h.tabs.chg hc (fun j hh => ?_) (fun j hh => ?_), h.two, fun g hg => ?_⟩
  · rcases hh with hh | hh
    · have := hk.2; omega
    · exact h.row.ne (by rw [hh, hk.1])
  · rcases hh with hh | hh
    · omega
    · exact h.row.ne hh
  · rcases hh with hh | hh
    · omega
    · have := h.twoV 0 hh; omega
  · rcases hh with hh | hh
    · omega
    · have := h.twoV 1 hh; omega
  · rcases hm g hg with hg | hg
    · exact h.twoV g hg
    · have := h.tabs.pos; omega
/-- Behind another number that the next one is held against. -/
theorem EncV.anchor {sg sg' : ES} {w w' : World} {b : Nat} {p q : Int} {en : Bool} {K : List Int} {v : Value} (h : EncV π sg w b p q en K v) (hc : Chg (fun k j => k = b ∧ j = 4) w w') (h4 : w'.cell? ⟨b, 4, none⟩ = some (.int .u32 sg')) (hg : Boc.GA sg') : EncV π sg' w' b p q en K v := by
  have htwo := h.two
  refine ⟨h.base.chg hc (fun k j hk hh => ?_), h.row.chg hc (fun k j hk hh => ?_), h4, hc.freeAt h.ag h.f4, hg, h.tabs.chg hc (fun j hh => ?_) (fun j hh => ?_), h.two, h.twoV⟩
  · have := hk.2; have := hh.2; omega
  · rcases hk with hk | hk
    · have := hk.2; have := hh.2; omega
    · exact h.row.ne (by rw [hk, hh.1])
  · have := hh.1; omega
  · have := hh.1; omega
theorem footE_nil {b k : Nat} (h : footE b (.slice none 0 0) k) : k = b := by
  rcases h with h | h
  · exact h
  · simp [Value.ownBlock] at h
theorem newEn_any (π : Par) (w : World) {N : Nat} (hN : N = w.heap.size) (hT : Dif.Tabs w) :
    Calls Tryd.prog 20 #[] w fun e w' => e = .returned (.pointer (some ⟨N, 0, none⟩)) ∧ EncV π (e0 π) w' N 0 0 false [] (.slice none 0 0) ∧ w'.heap.size = N + 1 ∧ Below N w w' := by
  subst hN
  have hpos := hT.pos
  go_enter Tryd.func20, Tryd.ntmps20
  go_wp2
  go_ret
  refine ⟨rfl, ⟨⟨?_, ?_, ?_, ?_, ?_, ?_⟩, ⟨?_, ?_, seg_nil _ _, by simp [Value.ownBlock]⟩, ?_, ?_, Boc.ga_64, hT.below ((Below.refl _ _).alloc (Nat.le_refl _) _), hpos, by simp [Value.ownBlock]⟩, by simp, (Below.refl _ _).alloc (Nat.le_refl _) _⟩
  all_goals first | (rw [World.cell?_alloc_new]; rfl) | simp
set_option maxHeartbeats 2000000 in
theorem spell_any (b : Nat) (sg c : Int) (w : World) (h4 : w.cell? ⟨b, 4, none⟩ = some (.int .u32 sg)) (hg : Boc.GA sg) (hT : Dif.Tabs w) (h0 : 0 ≤ c) (hi : isB c = true) :
    Calls Tryd.prog 51 #[.pointer (some ⟨b, 0, none⟩), .int .u32 c] w fun e w' => e = .returned (.string (Stp.strOf (oneS π sg c))) ∧ Below w.heap.size w w' := by
  have hci := isB_iff.1 hi
  by_cases hc : c ≤ 32
  · have HO : Hid (oneS π sg c = [c]) := by show Boc.oneB sg c = _; unfold Boc.oneB; rw [if_pos hc]
    rw [HO.out]
    have hcv := Stp.run_string (w.alloc (.cells #[.int .u8 c] 5)) (some ⟨w.heap.size, 0, none⟩) 1 1 [c] (row_new .u8 w [c] _ _ rfl) rfl
    clear HO hi hci hg hT h4
    go_enter Tryd.func51, Tryd.ntmps51
    go_wp2
    go_ret
    exact ⟨rfl, (Below.refl _ _).alloc (Nat.le_refl _) _⟩
  · have HO : Hid (oneS π sg c = Dif.packL (c - sg)) := by show Boc.oneB sg c = _; unfold Boc.oneB; rw [if_neg hc]
    rw [HO.out]
    have hin := Boc.ga_inR hg (by omega) hci.1
    have HP : Hid (Calls Tryd.prog 66 #[.int .i64 (c - sg)] w fun e w' => e = .returned (.tuple #[.string (Stp.strOf (Dif.packL (c - sg))), .bool true]) ∧ Below w.heap.size w w') := Dif.pack_yes (c - sg) w hT hin
    unfold Boc.GA at hg
    obtain ⟨g0, g1⟩ := hg
    obtain ⟨c1, -⟩ := hci
    have hc2 : 32 < c := by omega
    obtain ⟨S, hS⟩ : ∃ S, Stp.strOf (Dif.packL (c - sg)) = S := ⟨_, rfl⟩
    rw [hS] at HP ⊢
    clear hS HO hi hin hT hc
    go_enter Tryd.func51, Tryd.ntmps51
    go_wp2_with fail
    refine HP.out.mono ?_
    rintro e w2 ⟨rfl, b2⟩
    go_wp2
    go_ret
    exact ⟨rfl, b2⟩
end BO
end Go.Proofs.YtlifobdooophbaaDoor
