/-
  The decoder of layer 12 in memory, and the contracts of what its calls are made of, as walks over the translated text. The condition: its memory is there and may be written; the tables are as the program's text lays them.
-/
import Derived.Test.YtlifobdooophbaaDoorStp3
import Derived.Test.YtlifobdooophbaaDoorSca1
import Derived.Test.YtlifobdooophbaaDoorBOMath
import Derived.Test.YtlifobdooophbaaDoorDif4
import Derived.Test.YtlifobdooophbaaDoorBld
import Derived.Deep.RegionHeld3
import Derived.Deep.CutBlock
namespace Go.Proofs.YtlifobdooophbaaDoor
open Go.ChangeShapes Go.WideShapes Go.ChangeAt Go.RowKit
theorem Dif.Tabs.pos {w : World} (h : Dif.Tabs w) : 1 < w.heap.size := h.two
theorem Dif.Tabs.kp {X : Nat → Prop} {w w' : World} (h : Dif.Tabs w) (hc : Bas.Kp X w w') (h0 : ¬ X 0) (h1 : ¬ X 1) : Dif.Tabs w' :=
  ⟨fun i hi => hc.cellAt (h.a i hi) h0, fun i hi => hc.cellAt (h.b i hi) h0, fun i hi => hc.cellAt (h.c i hi) h0, fun i hi => hc.cellAt (h.d i hi) h0,
   fun i hi => hc.cellAt (h.e i hi) h1, fun i hi => hc.cellAt (h.f i hi) h1, fun i hi => hc.cellAt (h.g i hi) h1⟩
namespace BO
open Bas Sca Stp Scn Cod
set_option linter.unusedVariables false

/-- A decoder in memory: what it has eaten, its error, has it ended? What the next one is held against, what has begun, what waits. -/
structure DecV (π : Par) (w : World) (b : Nat) (p q : Int) (en : Bool) (s : St) (l : List Int) (v u : Value) : Prop where
  base : BaseAt w b 0 p q en
  row : RowAt .u32 w b 3 v l
  st : RowAt .u8 w b 5 u s.beg
  ag : w.cell? ⟨b, 4, none⟩ = some (.int .u32 s.ag)
  f4 : w.frozen? ⟨b, 4, none⟩ = false
  ne : ∀ g, v.ownBlock = some g → u.ownBlock ≠ some g
  good : Boc.Good s
  byte : ∀ x ∈ s.beg, 0 ≤ x ∧ x < 256
  tabs : Dif.Tabs w
  two : 2 ≤ b
  twoV : ∀ g, v.ownBlock = some g → 2 ≤ g
  twoU : ∀ g, u.ownBlock = some g → 2 ≤ g
/-- Its memory. -/
def footD (b : Nat) (v u : Value) (k : Nat) : Prop := k = b ∨ v.ownBlock = some k ∨ u.ownBlock = some k
variable {π : Par}
theorem DecV.lt {w : World} {b : Nat} {p q : Int} {en : Bool} {s : St} {l : List Int} {v u : Value} (h : DecV π w b p q en s l v u) : b < w.heap.size := h.base.lt
theorem DecV.ltV {w : World} {b : Nat} {p q : Int} {en : Bool} {s : St} {l : List Int} {v u : Value} (h : DecV π w b p q en s l v u) {g : Nat} (hg : v.ownBlock = some g) : g < w.heap.size := h.row.seg.lt hg
theorem DecV.ltU {w : World} {b : Nat} {p q : Int} {en : Bool} {s : St} {l : List Int} {v u : Value} (h : DecV π w b p q en s l v u) {g : Nat} (hg : u.ownBlock = some g) : g < w.heap.size := h.st.seg.lt hg
theorem DecV.foot_lt {w : World} {b : Nat} {p q : Int} {en : Bool} {s : St} {l : List Int} {v u : Value} (h : DecV π w b p q en s l v u) {k : Nat} (hk : footD b v u k) : k < w.heap.size := by
  rcases hk with rfl | hk | hk
  · exact h.lt
  · exact h.ltV hk
  · exact h.ltU hk
theorem DecV.foot_two {w : World} {b : Nat} {p q : Int} {en : Bool} {s : St} {l : List Int} {v u : Value} (h : DecV π w b p q en s l v u) {k : Nat} (hk : footD b v u k) : 2 ≤ k := by
  rcases hk with rfl | hk | hk
  · exact h.two
  · exact h.twoV k hk
  · exact h.twoU k hk
theorem DecV.chg {S : Nat → Nat → Prop} {w w' : World} {b : Nat} {p q : Int} {en : Bool} {s : St} {l : List Int} {v u : Value} (h : DecV π w b p q en s l v u) (hc : Chg S w w') (hS : ∀ k j, footD b v u k → ¬ S k j) (h0 : ∀ j, ¬ S 0 j) (h1 : ∀ j, ¬ S 1 j) : DecV π w' b p q en s l v u :=
  ⟨h.base.chg hc (fun k j hk => hS k j (.inl hk.1)), h.row.chg hc (fun k j hk => hS k j (by rcases hk with hk | hk; exact .inl hk.1; exact .inr (.inl hk))),
   h.st.chg hc (fun k j hk => hS k j (by rcases hk with hk | hk; exact .inl hk.1; exact .inr (.inr hk))), hc.cellAt h.ag (hS b 4 (.inl rfl)), hc.freeAt h.ag h.f4, h.ne, h.good, h.byte, h.tabs.chg hc h0 h1, h.two, h.twoV, h.twoU⟩
theorem DecV.below {w w' : World} {b : Nat} {p q : Int} {en : Bool} {s : St} {l : List Int} {v u : Value} (h : DecV π w b p q en s l v u) (hb : Below w.heap.size w w') : DecV π w' b p q en s l v u :=
  h.chg (chg_of_below hb (Nat.le_refl _) (fun _ _ => False)) (fun _ _ _ h => h) (fun _ h => h) (fun _ h => h)
/-- Behind another number that it is held against. -/
theorem DecV.anchor {w w' : World} {b : Nat} {p q : Int} {en : Bool} {ag ag' : Int} {l : List Int} {v u : Value} (h : DecV π w b p q en ⟨ag, []⟩ l v u) (hc : Chg (fun k j => k = b ∧ j = 4) w w') (h4 : w'.cell? ⟨b, 4, none⟩ = some (.int .u32 ag')) (hg : Boc.GA ag') : DecV π w' b p q en ⟨ag', []⟩ l v u := by
  refine ⟨h.base.chg hc (fun k j hk hh => ?_), h.row.chg hc (fun k j hk hh => ?_), h.st.chg hc (fun k j hk hh => ?_), h4, hc.freeAt h.ag h.f4, h.ne, Boc.good_nil hg, by simp, h.tabs.chg hc (fun j hh => ?_) (fun j hh => ?_), h.two, h.twoV, h.twoU⟩
  · have := hk.2; have := hh.2; omega
  · rcases hk with hk | hk
    · have := hk.2; have := hh.2; omega
    · exact h.row.ne (by rw [hk, hh.1])
  · rcases hk with hk | hk
    · have := hk.2; have := hh.2; omega
    · exact h.st.ne (by rw [hk, hh.1])
  · have := h.two; have := hh.1; omega
  · have := h.two; have := hh.1; omega
/-- Behind bytes written in the spare of what has begun. -/
theorem DecV.spare {w w' : World} {b : Nat} {p q : Int} {en : Bool} {s : St} {l : List Int} {v u : Value} (h : DecV π w b p q en s l v u) (hc : Chg (fun k _ => u.ownBlock = some k) w w') (hs : Seg .u8 w' u s.beg) : DecV π w' b p q en s l v u := by
  refine ⟨h.base.chg hc (fun k j hk hh => ?_), h.row.chg hc (fun k j hk hh => ?_), ⟨hc.cellAt h.st.c h.st.ne, hc.freeAt h.st.c h.st.f, hs, h.st.ne⟩, hc.cellAt h.ag h.st.ne, hc.freeAt h.ag h.f4, h.ne, h.good, h.byte, h.tabs.chg hc (fun j hh => ?_) (fun j hh => ?_), h.two, h.twoV, h.twoU⟩
  · exact h.st.ne (by rw [hh, hk.1])
  · rcases hk with hk | hk
    · exact h.st.ne (by rw [hh, hk.1])
    · exact h.ne k hk hh
  · have := h.twoU 0 hh; omega
  · have := h.twoU 1 hh; omega
/-- Behind a new beginning. -/
theorem DecV.put {w w' : World} {b : Nat} {p q : Int} {en : Bool} {s : St} {l s' : List Int} {v u u' vv : Value} {H : Nat} (h : DecV π w b p q en s l v u) (hc : Chg (fun k j => (k = b ∧ j = 5) ∨ u.ownBlock = some k) w w') (h5 : w'.cell? ⟨b, 5, none⟩ = some vv) (hs : Seg .u8 w' u' s') (hm : ∀ g, u'.ownBlock = some g → u.ownBlock = some g ∨ H ≤ g) (hb : b < H) (hv : ∀ g, v.ownBlock = some g → g < H)
    (hg : Boc.Good ⟨s.ag, s'⟩) (hby : ∀ x ∈ s', 0 ≤ x ∧ x < 256) : DecV π (w'.setCell ⟨b, 5, none⟩ u') b p q en ⟨s.ag, s'⟩ l v u' := by
  have htwo := h.two
  have hnb : u'.ownBlock ≠ some b := fun e => by
    rcases hm b e with e | e
    · exact h.st.ne e
    · omega
  have hc2 : Chg (fun k j => (k = b ∧ j = 5) ∨ u.ownBlock = some k) w (w'.setCell ⟨b, 5, none⟩ u') := hc.trans2 (chg_setCell w' b 5 u') (fun _ _ _ h => h) (fun k j _ h => .inl h)
  refine ⟨h.base.chg hc2 (fun k j hk hh => ?_), h.row.chg hc2 (fun k j hk hh => ?_), ⟨World.cell?_setCell_same _ _ _ h5, hc2.freeAt h.st.c h.st.f, hs.chg (chg_setCell w' b 5 u') (fun g o hg hh => hnb (by rw [hg, hh.1])), hnb⟩, hc2.cellAt h.ag (fun hh => ?_), hc2.freeAt h.ag h.f4, fun g hg hu => ?_, hg, hby, h.tabs.chg hc2 (fun j hh => ?_) (fun j hh => ?_), h.two, h.twoV, fun g hg => ?_⟩
  · rcases hh with hh | hh
    · have := hk.2; omega
    · exact h.st.ne (by rw [hh, hk.1])
  · rcases hh with hh | hh
    · rcases hk with hk | hk
      · omega
      · exact h.row.ne (by rw [hk, hh.1])
    · rcases hk with hk | hk
      · exact h.st.ne (by rw [hh, hk.1])
      · exact h.ne k hk hh
  · rcases hh with hh | hh
    · omega
    · exact h.st.ne hh
  · rcases hm g hu with e | e
    · exact h.ne g hg e
    · have := hv g hg; omega
  · rcases hh with hh | hh
    · omega
    · have := h.twoU 0 hh; omega
  · rcases hh with hh | hh
    · omega
    · have := h.twoU 1 hh; omega
  · rcases hm g hg with e | e
    · exact h.twoU g e
    · omega
/-- Behind what is told more. -/
theorem DecV.hold {w w' : World} {b : Nat} {p q : Int} {en : Bool} {s : St} {l l' : List Int} {v v' u : Value} (h : DecV π w b p q en s l v u) (hr : RowAt .u32 w' b 3 v' l') (hc : Chg (footR b 3 v) w w') (hm : Mov w v v') : DecV π w' b p q en s l' v' u := by
  have htwo := h.two
  refine ⟨h.base.chg hc (fun k j hk hh => ?_), hr, h.st.chg hc (fun k j hk hh => ?_), hc.cellAt h.ag (fun hh => ?_), hc.freeAt h.ag h.f4, fun g hg hu => ?_, h.good, h.byte, h.tabs.chg hc (fun j hh => ?_) (fun j hh => ?_), h.two, fun g hg => ?_, h.twoU⟩
  · rcases hh with hh | hh
    · have := hk.2; omega
    · exact h.row.ne (by rw [hh, hk.1])
  · rcases hk with hk | hk
    · rcases hh with hh | hh
      · omega
      · exact h.row.ne (by rw [hh, hk.1])
    · rcases hh with hh | hh
      · exact h.st.ne (by rw [hk, hh.1])
      · exact h.ne k hh hk
  · rcases hh with hh | hh
    · omega
    · exact h.row.ne hh
  · rcases hm g hg with e | e
    · exact h.ne g e hu
    · have := h.ltU hu; omega
  · rcases hh with hh | hh
    · omega
    · have := h.twoV 0 hh; omega
  · rcases hh with hh | hh
    · omega
    · have := h.twoV 1 hh; omega
  · rcases hm g hg with hg | hg
    · exact h.twoV g hg
    · have := h.tabs.pos; omega
/-- Behind another place, error, end. -/
theorem DecV.rebase {w w' : World} {b : Nat} {p q p' q' : Int} {en en' : Bool} {s : St} {l : List Int} {v u : Value} (h : DecV π w b p q en s l v u) (hb : BaseAt w' b 0 p' q' en') (hc : Chg (footB b 0) w w') : DecV π w' b p' q' en' s l v u := by
  have htwo := h.two
  refine ⟨hb, h.row.chg hc (fun k j hk hh => ?_), h.st.chg hc (fun k j hk hh => ?_), hc.cellAt h.ag (fun hh => ?_), hc.freeAt h.ag h.f4, h.ne, h.good, h.byte, h.tabs.chg hc (fun j hh => ?_) (fun j hh => ?_), h.two, h.twoV, h.twoU⟩
  · rcases hk with hk | hk
    · have := hh.2; omega
    · exact h.row.ne (by rw [hk, hh.1])
  · rcases hk with hk | hk
    · have := hh.2; omega
    · exact h.st.ne (by rw [hk, hh.1])
  · have := hh.2; omega
  · have := hh.1; omega
  · have := hh.1; omega
theorem footD_nil {b k : Nat} (h : footD b (.slice none 0 0) (.slice none 0 0) k) : k = b := by
  rcases h with h | h | h
  · exact h
  · simp [Value.ownBlock] at h
  · simp [Value.ownBlock] at h
/-- What has begun, and what is told, behind a byte more. -/
def stN (π : Par) (s : St) (x : Int) : St := match stepU π s x with | none => s | some y => y.1
def toldN (π : Par) (s : St) (x : Int) : List Int := match stepU π s x with | none => [] | some y => y.2

theorem newD_any (π : Par) (w : World) {N : Nat} (hN : N = w.heap.size) (hT : Dif.Tabs w) :
    Calls Tryd.prog 13 #[] w fun e w' => e = .returned (.pointer (some ⟨N, 0, none⟩)) ∧ DecV π w' N 0 0 false (st0 π) [] (.slice none 0 0) (.slice none 0 0) ∧ w'.heap.size = N + 1 ∧ Below N w w' := by
  subst hN
  have hpos := hT.pos
  go_enter Tryd.func13, Tryd.ntmps13
  go_wp2
  go_ret
  refine ⟨rfl, ⟨⟨?_, ?_, ?_, ?_, ?_, ?_⟩, ⟨?_, ?_, seg_nil _ _, by simp [Value.ownBlock]⟩, ⟨?_, ?_, seg_nil _ _, by simp [Value.ownBlock]⟩, ?_, ?_, fun g hg => by simp [Value.ownBlock] at hg, good_0 π, by simp [st0, Boc.st0], hT.below ((Below.refl _ _).alloc (Nat.le_refl _) _), hpos, by simp [Value.ownBlock], by simp [Value.ownBlock]⟩, by simp, (Below.refl _ _).alloc (Nat.le_refl _) _⟩
  all_goals first | (rw [World.cell?_alloc_new]; rfl) | simp
set_option maxHeartbeats 1000000 in
theorem leads_any (a b : Int) (w : World) (h0 : -1000000000000 ≤ a) (h1 : a ≤ 1000000000000) (h2 : -1000000000000 ≤ b) (h3 : b ≤ 1000000000000) :
    Calls Tryd.prog 69 #[.int .i64 a, .int .i64 b] w fun e w' => e = .returned (.bool (decide (0 ≤ Boc.leastS a b))) ∧ w' = w := by
  have HL : Hid (∀ A B : Int, (A = if a < 33 then 33 else a) → (B = if b > 1114111 then 1114111 else b) → (decide (A ≤ B) && (isB A || isB B)) = decide (0 ≤ Boc.leastS a b)) := fun A B hA hB => leads_eq a b hA hB
  obtain ⟨R, hR⟩ : ∃ R, decide (0 ≤ Boc.leastS a b) = R := ⟨_, rfl⟩
  rw [hR] at HL ⊢
  clear hR
  obtain ⟨A, hA⟩ : ∃ A, max a 33 = A := ⟨_, rfl⟩
  obtain ⟨B, hB⟩ : ∃ B, min b 1114111 = B := ⟨_, rfl⟩
  have HAB : Hid (max a 33 = A ∧ min b 1114111 = B) := ⟨hA, hB⟩
  have e := HL.out A B (by rw [← hA]; split <;> omega) (by rw [← hB]; split <;> omega)
  have a0 : 33 ≤ A := by omega
  have a1 : A ≤ 1000000000000 := by omega
  have b0 : -1000000000000 ≤ B := by omega
  have b1 : B ≤ 1114111 := by omega
  have HE : Hid (R = (decide (A ≤ B) && (isB A || isB B))) := e.symm
  clear hA hB HL e
  go_enter Tryd.func69, Tryd.ntmps69
  go_upto_region 3 with fail
  rw [HAB.out.1, HAB.out.2]
  clear HAB h0 h1 h2 h3
  by_cases hab : A ≤ B
  · rw [decide_eq_true hab, Bool.true_and] at HE
    go_wp2_with fail
    refine (sIs_any A w).mono ?_
    rintro e w1 ⟨rfl, hw⟩
    rw [hw]
    clear hw w1
    obtain ⟨t, ht⟩ : ∃ t, isB A = t := ⟨_, rfl⟩
    rw [ht] at HE ⊢
    clear ht
    cases t with
    | true =>
      go_wp2_with fail
      go_ret
      exact ⟨ret_bool (by rw [HE.out, Bool.true_or]), rfl⟩
    | false =>
      go_wp2_with fail
      refine (sIs_any B w).mono ?_
      rintro e w1 ⟨rfl, hw⟩
      rw [hw]
      clear hw w1
      go_wp2
      go_ret
      exact ⟨ret_bool (by rw [HE.out, Bool.false_or]), rfl⟩
  · rw [decide_eq_false hab, Bool.false_and] at HE
    go_wp2
    go_ret
    exact ⟨ret_bool HE.out.symm, rfl⟩
set_option maxHeartbeats 1000000 in
theorem pass_any (b : Nat) (ag c : Int) (w : World) (h4 : w.cell? ⟨b, 4, none⟩ = some (.int .u32 ag)) (f4 : w.frozen? ⟨b, 4, none⟩ = false) (h0 : 0 ≤ c) (h1 : c < 4294967296) :
    Calls Tryd.prog 52 #[.pointer (some ⟨b, 4, none⟩), .int .u32 c] w fun e w' => e = .returned (.tuple #[]) ∧ w'.cell? ⟨b, 4, none⟩ = some (.int .u32 (Boc.nxtB ag c)) ∧ Chg (fun k j => k = b ∧ j = 4) w w' := by
  by_cases hc : c ≤ 32
  · by_cases he : c = 32
    · have HN : Hid (Boc.nxtB ag c = ag) := by show _ = _; unfold Boc.nxtB; rw [if_pos hc, if_pos he]
      rw [HN.out]
      clear HN
      subst he
      clear hc
      go_enter Tryd.func52, Tryd.ntmps52
      go_wp2
      go_end0
      exact ⟨rfl, h4, Chg.refl _ _⟩
    · have HN : Hid (Boc.nxtB ag c = 64) := by show _ = _; unfold Boc.nxtB; rw [if_pos hc, if_neg he]
      rw [HN.out]
      clear HN
      have hl : c < 32 := by omega
      go_enter Tryd.func52, Tryd.ntmps52
      go_wp2
      go_end0
      exact ⟨rfl, World.cell?_setCell_same _ _ _ h4, chg_setCell w b 4 _⟩
  · have HN : Hid (Boc.nxtB ag c = Dif.prevI c) := by show _ = _; unfold Boc.nxtB; rw [if_neg hc]
    rw [HN.out]
    clear HN
    have hl : 32 < c := by omega
    obtain ⟨z, hz⟩ : ∃ z, Dif.prevI c = z := ⟨_, rfl⟩
    have HP : Hid (Calls Tryd.prog 67 #[.int .u32 c] w fun e w' => e = .returned (.int .u32 z) ∧ w' = w) := by rw [← hz]; exact Dif.prev_any c w h0 h1
    rw [hz]
    clear hz
    go_enter Tryd.func52, Tryd.ntmps52
    go_wp2_with fail
    refine HP.out.mono ?_
    rintro e w1 ⟨rfl, hw⟩
    rw [hw]
    clear hw w1 HP
    go_wp2
    go_end0
    exact ⟨rfl, World.cell?_setCell_same _ _ _ h4, chg_setCell w b 4 _⟩
end BO
end Go.Proofs.YtlifobdooophbaaDoor
