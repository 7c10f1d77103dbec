/-
  The decoder of layer 3 in memory, and the contract of its step (take), as a walk over the translated text. The condition: its memory is there and may be written; the library's two tables are as its text lays them.
-/
import Derived.Test.YtknebngapfakjaaDoorStp3
import Derived.Test.YtknebngapfakjaaDoorU8Full
namespace Go.Proofs.YtknebngapfakjaaDoor
open Go.ChangeShapes Go.WideShapes Go.ChangeAt Go.RowKit
namespace U8
open Bas Sca Stp Scn
set_option linter.unusedVariables false

/-- A decoder in memory: what it has eaten, its error, has it ended? What has begun, what waits. -/
structure DecV (w : World) (b : Nat) (p q : Int) (en : Bool) (s l : List Int) (v u : Value) : Prop where
  base : BaseAt w b 0 p q en
  row : RowAt .u32 w b 3 v l
  st : RowAt .u8 w b 4 u s
  ne : ∀ g, v.ownBlock = some g → u.ownBlock ≠ some g
  good : Good s
  byte : ∀ x ∈ s, 0 ≤ x ∧ x < 256
  tabs : Tabs w
  two : 2 ≤ b
  twoV : ∀ g, v.ownBlock = some g → 2 ≤ g
  twoU : ∀ g, u.ownBlock = some g → 2 ≤ g
/-- Its memory. -/
def footD (b : Nat) (v u : Value) (k : Nat) : Prop := k = b ∨ v.ownBlock = some k ∨ u.ownBlock = some k
theorem DecV.lt {w : World} {b : Nat} {p q : Int} {en : Bool} {s l : List Int} {v u : Value} (h : DecV w b p q en s l v u) : b < w.heap.size := h.base.lt
theorem DecV.ltV {w : World} {b : Nat} {p q : Int} {en : Bool} {s l : List Int} {v u : Value} (h : DecV w b p q en s l v u) {g : Nat} (hg : v.ownBlock = some g) : g < w.heap.size := h.row.seg.lt hg
theorem DecV.ltU {w : World} {b : Nat} {p q : Int} {en : Bool} {s l : List Int} {v u : Value} (h : DecV w b p q en s l v u) {g : Nat} (hg : u.ownBlock = some g) : g < w.heap.size := h.st.seg.lt hg
theorem DecV.foot_two {w : World} {b : Nat} {p q : Int} {en : Bool} {s l : List Int} {v u : Value} (h : DecV w b p q en s l v u) {k : Nat} (hk : footD b v u k) : 2 ≤ k ∧ k < w.heap.size := by
  rcases hk with rfl | hk | hk
  · exact ⟨h.two, h.lt⟩
  · exact ⟨h.twoV k hk, h.ltV hk⟩
  · exact ⟨h.twoU k hk, h.ltU hk⟩
theorem DecV.chg {S : Nat → Nat → Prop} {w w' : World} {b : Nat} {p q : Int} {en : Bool} {s l : List Int} {v u : Value} (h : DecV w b p q en s l v u) (hc : Chg S w w') (hS : ∀ k j, footD b v u k → ¬ S k j) (h0 : ∀ j, ¬ S 0 j) (h1 : ∀ j, ¬ S 1 j) : DecV w' b p q en s l v u :=
  ⟨h.base.chg hc (fun k j hk => hS k j (.inl hk.1)), h.row.chg hc (fun k j hk => hS k j (by rcases hk with hk | hk; exact .inl hk.1; exact .inr (.inl hk))),
   h.st.chg hc (fun k j hk => hS k j (by rcases hk with hk | hk; exact .inl hk.1; exact .inr (.inr hk))), h.ne, h.good, h.byte, h.tabs.chg hc h0 h1, h.two, h.twoV, h.twoU⟩
theorem DecV.below {w w' : World} {b : Nat} {p q : Int} {en : Bool} {s l : List Int} {v u : Value} (h : DecV w b p q en s l v u) (hb : Below w.heap.size w w') : DecV w' b p q en s l v u :=
  h.chg (chg_of_below hb (Nat.le_refl _) (fun _ _ => False)) (fun _ _ _ h => h) (fun _ h => h) (fun _ h => h)
/-- Behind an append to what has begun, that isn't kept. -/
theorem DecV.app {w w' : World} {b : Nat} {p q : Int} {en : Bool} {s l : List Int} {v u : Value} (h : DecV w b p q en s l v u) (hc : Chg (fun k _ => u.ownBlock = some k) w w') (hs : Seg .u8 w' u s) : DecV w' b p q en s l v u :=
  ⟨h.base.chg hc (fun k j hk hu => h.st.ne (by rw [hu, hk.1])), h.row.chg hc (fun k j hk hu => by
      rcases hk with hk | hk
      · exact h.st.ne (by rw [hu, hk.1])
      · exact h.ne k hk hu),
   ⟨hc.cellAt h.st.c h.st.ne, hc.freeAt h.st.c h.st.f, hs, h.st.ne⟩, h.ne, h.good, h.byte, h.tabs.chg hc (fun j hu => by have := h.twoU 0 hu; omega) (fun j hu => by have := h.twoU 1 hu; omega), h.two, h.twoV, h.twoU⟩
/-- Behind a new beginning. -/
theorem DecV.put {w : World} {b : Nat} {p q : Int} {en : Bool} {s l s' : List Int} {v u u' : Value} {H : Nat} (h : DecV w b p q en s l v u) (hs : Seg .u8 w u' s') (hm : ∀ g, u'.ownBlock = some g → u.ownBlock = some g ∨ H ≤ g) (hb : b < H) (hv : ∀ g, v.ownBlock = some g → g < H)
    (hg : Good s') (hby : ∀ x ∈ s', 0 ≤ x ∧ x < 256) : DecV (w.setCell ⟨b, 4, none⟩ u') b p q en s' l v u' := by
  have hc := chg_setCell w b 4 u'
  have hnb : u'.ownBlock ≠ some b := fun e => by
    rcases hm b e with e | e
    · exact h.st.ne e
    · omega
  refine ⟨h.base.chg hc (fun k j hk hh => ?_), h.row.chg hc (fun k j hk hh => ?_), ⟨World.cell?_setCell_same _ _ _ h.st.c, hc.freeAt h.st.c h.st.f, hs.chg hc (fun g o hg hh => hnb (by rw [hg, hh.1])), hnb⟩, fun g hg hu => ?_, hg, hby, h.tabs.chg hc (fun j hh => ?_) (fun j hh => ?_), h.two, h.twoV, fun g hg => ?_⟩
  · have := hk.2; omega
  · rcases hk with hk | hk
    · omega
    · exact h.row.ne (by rw [hk, hh.1])
  · rcases hm g hu with e | e
    · exact h.ne g hg e
    · have := hv g hg; omega
  · have := h.two; omega
  · have := h.two; omega
  · rcases hm g hg with e | e
    · exact h.twoU g e
    · have := h.two; omega
/-- Behind what is told more. -/
theorem DecV.hold {w w' : World} {b : Nat} {p q : Int} {en : Bool} {s l l' : List Int} {v v' u : Value} (h : DecV w b p q en s l v u) (hr : RowAt .u32 w' b 3 v' l') (hc : Chg (footR b 3 v) w w') (hm : Mov w v v') : DecV w' b p q en s l' v' u := by
  have h0 := h.two
  refine ⟨h.base.chg hc (fun k j hk hh => ?_), hr, h.st.chg hc (fun k j hk hh => ?_), fun g hg hu => ?_, h.good, h.byte, h.tabs.chg hc (fun j hh => ?_) (fun j hh => ?_), h.two, fun g hg => ?_, h.twoU⟩
  · rcases hh with hh | hh
    · have := hk.2; omega
    · exact h.row.ne (by rw [hh, hk.1])
  · rcases hk with hk | hk
    · rcases hh with hh | hh
      · omega
      · exact h.row.ne (by rw [hh, hk.1])
    · rcases hh with hh | hh
      · exact h.st.ne (by rw [hk, hh.1])
      · exact h.ne k hh hk
  · rcases hm g hg with e | e
    · exact h.ne g e hu
    · have := h.ltU hu; omega
  · rcases hh with hh | hh
    · omega
    · have := h.twoV 0 hh; omega
  · rcases hh with hh | hh
    · omega
    · have := h.twoV 1 hh; omega
  · rcases hm g hg with e | e
    · exact h.twoV g e
    · have := h.lt; omega
/-- Behind another place, error, end. -/
theorem DecV.rebase {w w' : World} {b : Nat} {p q p' q' : Int} {en en' : Bool} {s l : List Int} {v u : Value} (h : DecV w b p q en s l v u) (hb : BaseAt w' b 0 p' q' en') (hc : Chg (footB b 0) w w') : DecV w' b p' q' en' s l v u := by
  have h0 := h.two
  refine ⟨hb, h.row.chg hc (fun k j hk hh => ?_), h.st.chg hc (fun k j hk hh => ?_), h.ne, h.good, h.byte, h.tabs.chg hc (fun j hh => ?_) (fun j hh => ?_), h.two, h.twoV, h.twoU⟩
  · rcases hk with hk | hk
    · have := hh.2; omega
    · exact h.row.ne (by rw [hk, hh.1])
  · rcases hk with hk | hk
    · have := hh.2; omega
    · exact h.st.ne (by rw [hk, hh.1])
  · have := hh.1; omega
  · have := hh.1; omega
/-- What has begun, and what is told, behind a byte more. -/
def stN (s : List Int) (x : Int) : List Int := match stepU s x with | none => s | some y => y.1
def toldN (s : List Int) (x : Int) : List Int := match stepU s x with | none => [] | some y => y.2
theorem step_beg {s : List Int} {x : Int} (h : isBeg (s ++ [x]) = true) : stepU s x = some (s ++ [x], []) := by
  simp only [isBeg, Bool.and_eq_true, decide_eq_true_eq] at h
  unfold stepU
  rw [if_pos h.1, if_neg (by omega)]
theorem step_whole {s : List Int} {x : Int} (h : okq (s ++ [x]) = true) (hn : (s ++ [x]).length = needN (nth (s ++ [x]) 0)) : stepU s x = some ([], [numU (s ++ [x])]) := by
  unfold stepU
  rw [if_pos h, if_pos hn]
theorem step_bad {s : List Int} {x : Int} (h : okq (s ++ [x]) = false) : stepU s x = none := by
  unfold stepU
  rw [if_neg (by simp [h])]
theorem mov_trans {w w' : World} {v v' v'' : Value} (h : Mov w v v') (g : Mov w' v' v'') (hs : w.heap.size ≤ w'.heap.size) : Mov w v v'' := fun k hk => by
  rcases g k hk with e | e
  · exact h k e
  · right; omega
theorem mov_refl (w : World) (v : Value) : Mov w v v := fun _ h => .inl h

set_option maxHeartbeats 4000000 in
set_option maxRecDepth 100000 in
theorem take_any (b : Nat) (p q : Int) (en : Bool) (s l : List Int) (v u : Value) (x : Int) (w : World) (h : DecV w b p q en s l v u) (hx : 0 ≤ x ∧ x < 256) (hlen : l.length ≤ 1000000) :
    Calls Tryd.prog 37 #[.pointer (some ⟨b, 0, none⟩), .int .u8 x] w fun e w' => ∃ v' u', e = .returned (.bool (stepU s x).isSome) ∧ DecV w' b p q en (stN s x) (l ++ toldN s x) v' u' ∧ Chg (fun k _ => footD b v u k) w w' ∧ Mov w v v' ∧ Mov w u u' := by
  have hlt := h.lt
  have hc4 := h.st.c
  have hb : ∀ y ∈ s ++ [x], 0 ≤ y ∧ y < 256 := by
    intro y hy
    simp at hy
    rcases hy with hy | rfl
    · exact h.byte y hy
    · exact hx
  have HB : Hid (∀ y ∈ s ++ [x], 0 ≤ y ∧ y < 256) := hb
  have H : Hid (DecV w b p q en s l v u) := h
  have HS : Hid (∀ o, Seg .u8 (w.alloc o) u s) := fun o => h.st.seg.chg ((Chg.refl (fun _ _ => False) w).alloc o) (fun _ _ _ h => h)
  have HL : Hid (s.length ≤ 3) := h.good.len
  clear hb h hx
  go_enter Tryd.func37, Tryd.ntmps37
  go_wp2_with (at_builtin; go_must (refine wpList_append_segK rfl _ _ 43 43 rfl .u8 5 1 Tryd.underlying43 info_u8 u s [x] rfl (HS.out _) _ rfl (src_row (l := [x]) Tryd.underlying43 (by exact row_new .u8 w [x] _ _ rfl) rfl (fun h => by cases h)) (by have := HL.out; unfold maxLen; simp; omega) (by have := HL.out; simp; omega) ?_; intro u' w1 hs' hch hmov hold))
  obtain ⟨a1, c1, hv1, hrow1, -, -, -, -⟩ := hs'.form
  obtain ⟨g1, o1, rfl, -⟩ := row_cells hrow1 (by simp)
  obtain ⟨n1, hn1⟩ : ∃ n1, (s ++ [x]).length = n1 := ⟨_, rfl⟩
  rw [hn1] at hv1
  subst hv1
  have D1 : DecV w1 b p q en s l v u := (H.out.below ((Below.refl _ _).alloc (Nat.le_refl _) _)).app hch hold
  have HC : Hid (Chg (fun k _ => footD b v u k) w w1) := ((Chg.refl (fun k _ => footD b v u k) w).alloc _).trans2 hch (fun k j _ h => h) (fun k j _ h => .inr (.inr h))
  have HM : Hid (∀ g, (Value.slice (some ⟨g1, o1, none⟩) n1 c1).ownBlock = some g → u.ownBlock = some g ∨ w.heap.size ≤ g) := fun g hg => by
    rcases hmov g hg with e | e
    · exact .inl e
    · right; simp at e; omega
  have HD1 : Hid (DecV w1 b p q en s l v u) := D1
  have HR1 : Hid (Row .u8 w1 (some ⟨g1, o1, none⟩) (s ++ [x]) ∧ (s ++ [x]).length = n1 ∧ Seg .u8 w1 (.slice (some ⟨g1, o1, none⟩) n1 c1) (s ++ [x])) := ⟨hrow1, hn1, hs'⟩
  clear hs' hch hmov hold hrow1 hn1 D1 hc4 HS
  refine (full_any s x _ n1 c1 w1 HD1.out.tabs HD1.out.good HB.out HR1.out.1 HR1.out.2.1).mono ?_
  rintro e w2 ⟨rfl, hb2⟩
  have HD2 : Hid (DecV w2 b p q en s l v u) := HD1.out.below hb2
  have HS2 : Hid (Seg .u8 w2 (.slice (some ⟨g1, o1, none⟩) n1 c1) (s ++ [x])) := HR1.out.2.2.chg (chg_of_below hb2 (Nat.le_refl _) (fun _ _ => False)) (fun _ _ _ h => h)
  have HC2 : Hid (Chg (fun k _ => footD b v u k) w w2) := HC.out.trans (chg_of_below hb2 (Nat.le_refl _) _)
  have hc4 := HD2.out.st.c
  have hf4 := HD2.out.st.f
  obtain ⟨t, ht⟩ : ∃ t, isBeg (s ++ [x]) = t := ⟨_, rfl⟩
  rw [ht]
  have HT : Hid (isBeg (s ++ [x]) = t) := ht
  clear ht hb2
  cases t with
  | true =>
    go_wp2
    go_ret
    have hst := step_beg HT.out
    have hg : Good (s ++ [x]) := .inr (by have := HT.out; simpa [isBeg] using this)
    refine ⟨v, _, by rw [hst]; rfl, ?_, HC2.out.trans2 (chg_setCell w2 b 4 _) (fun _ _ _ h => h) (fun k j _ h => .inl h.1), mov_refl _ _, HM.out⟩
    have := HD2.out.put HS2.out HM.out hlt (fun g hg => H.out.ltV hg) hg HB.out
    simpa [stN, toldN, hst] using this
  | false =>
    have HR2 : Hid (Row .u8 w2 (some ⟨g1, o1, none⟩) (s ++ [x])) := by
      have := HS2.out.form
      obtain ⟨a, c, e, hr, -⟩ := this
      simp only [Value.slice.injEq] at e
      rw [e.1]; exact hr
    go_wp2_with fail
    refine (dec_any s x _ n1 c1 w2 HD2.out.tabs HD2.out.good HB.out HR2.out HR1.out.2.1 HT.out).mono ?_
    rintro e w3 ⟨⟨r, k, rfl, hrk⟩, hb3⟩
    have HD3 : Hid (DecV w3 b p q en s l v u) := HD2.out.below hb3
    have HS3 : Hid (Seg .u8 w3 (.slice (some ⟨g1, o1, none⟩) n1 c1) (s ++ [x])) := HS2.out.chg (chg_of_below hb3 (Nat.le_refl _) (fun _ _ => False)) (fun _ _ _ h => h)
    have HC3 : Hid (Chg (fun k _ => footD b v u k) w w3) := HC2.out.trans (chg_of_below hb3 (Nat.le_refl _) _)
    clear hc4 hf4 hb3
    have hc4 := HD3.out.st.c
    have hf4 := HD3.out.st.f
    rcases hrk with ⟨ho, hr, hk, hn⟩ | ⟨ho, rfl, rfl⟩
    · have hst := step_whole ho hn
      have h1 := one_num ho hn (HB.out _ (nth_mem (by simp))).1
      rw [← hr] at h1 hst
      have hi := isB_iff.1 h1.2.1
      have hr0 : 0 ≤ r := h1.2.2
      have hr1 : r < 1114112 := by omega
      have hlen1 : (s ++ [x]).length = sizeN r := by rw [← oneN_length, h1.1]
      have hrk : ((r == 65533) && (k == 1)) = false := by
        rw [hk, hlen1]
        by_cases e : r = 65533
        · subst e; decide
        · simp [e]
      have HST : Hid (stepU s x = some ([], [r])) := hst
      clear ho hr hk hn h1 hi hlen1 hst
      have fin : ∀ w4, w4 = w3.setCell ⟨b, 4, none⟩ (.slice (some ⟨g1, o1, none⟩) 0 c1) → DecV w4 b p q en [] l v (.slice (some ⟨g1, o1, none⟩) 0 c1) ∧ Chg (fun k _ => footD b v u k) w w4 := by
        rintro w4 rfl
        refine ⟨HD3.out.put (H := w.heap.size) (s' := []) ?_ HM.out hlt (fun g hg => H.out.ltV hg) good_nil (by simp), HC3.out.trans2 (chg_setCell w3 b 4 _) (fun _ _ _ h => h) (fun k j _ h => .inl h.1)⟩
        have := HS3.out.takeO (f := 0) (by simp)
        simpa using this
      have HF : Hid (∀ w4, w4 = w3.setCell ⟨b, 4, none⟩ (.slice (some ⟨g1, o1, none⟩) 0 c1) → DecV w4 b p q en [] l v (.slice (some ⟨g1, o1, none⟩) 0 c1) ∧ Chg (fun k _ => footD b v u k) w w4) := fin
      clear fin
      by_cases e1 : (r == 65533) = true
      · have e2 : (k == 1) = false := by simpa [e1] using hrk
        clear hrk
        go_wp2_with fail
        obtain ⟨D4, C4⟩ := HF.out _ rfl
        have hB4 := (Below.refl (w3.setCell ⟨b, 4, none⟩ (.slice (some ⟨g1, o1, none⟩) 0 c1)).heap.size (w3.setCell ⟨b, 4, none⟩ (.slice (some ⟨g1, o1, none⟩) 0 c1))).alloc (Nat.le_refl _) (.cells #[.int .u32 r] 70)
        refine (hold_any b 3 v l [r] _ 1 1 _ (D4.below hB4).row (by exact row_new .u32 _ [r] _ _ (by simp)) rfl (fun h => by cases h) (by simp; omega)).mono ?_
        rintro e w6 ⟨v', rfl, hr6, hc6, hm6⟩
        go_wp2
        go_ret
        have hz : w.heap.size ≤ ((w3.setCell ⟨b, 4, none⟩ (.slice (some ⟨g1, o1, none⟩) 0 c1)).alloc (.cells #[.int .u32 r] 70)).heap.size := Nat.le_trans C4.size hB4.size
        refine ⟨v', .slice (some ⟨g1, o1, none⟩) 0 c1, by rw [HST.out]; rfl, by simpa [stN, toldN, HST.out] using (D4.below hB4).hold hr6 hc6 hm6, (C4.alloc _).trans2 hc6 (fun _ _ _ h => h) (fun k j _ h => ?_), mov_trans (mov_refl w v) hm6 hz, fun g hg => HM.out g hg⟩
        rcases h with h | h
        · exact .inl h.1
        · exact .inr (.inl h)
      · have e2 : (r == 65533) = false := by simpa using e1
        clear hrk e1
        go_wp2_with fail
        obtain ⟨D4, C4⟩ := HF.out _ rfl
        have hB4 := (Below.refl (w3.setCell ⟨b, 4, none⟩ (.slice (some ⟨g1, o1, none⟩) 0 c1)).heap.size (w3.setCell ⟨b, 4, none⟩ (.slice (some ⟨g1, o1, none⟩) 0 c1))).alloc (Nat.le_refl _) (.cells #[.int .u32 r] 70)
        refine (hold_any b 3 v l [r] _ 1 1 _ (D4.below hB4).row (by exact row_new .u32 _ [r] _ _ (by simp)) rfl (fun h => by cases h) (by simp; omega)).mono ?_
        rintro e w6 ⟨v', rfl, hr6, hc6, hm6⟩
        go_wp2
        go_ret
        have hz : w.heap.size ≤ ((w3.setCell ⟨b, 4, none⟩ (.slice (some ⟨g1, o1, none⟩) 0 c1)).alloc (.cells #[.int .u32 r] 70)).heap.size := Nat.le_trans C4.size hB4.size
        refine ⟨v', .slice (some ⟨g1, o1, none⟩) 0 c1, by rw [HST.out]; rfl, by simpa [stN, toldN, HST.out] using (D4.below hB4).hold hr6 hc6 hm6, (C4.alloc _).trans2 hc6 (fun _ _ _ h => h) (fun k j _ h => ?_), mov_trans (mov_refl w v) hm6 hz, fun g hg => HM.out g hg⟩
        rcases h with h | h
        · exact .inl h.1
        · exact .inr (.inl h)
    · have hst := step_bad ho
      have HST : Hid (stepU s x = none) := hst
      clear hst ho
      go_wp2
      go_ret
      exact ⟨v, u, by rw [HST.out]; rfl, by simpa [stN, toldN, HST.out] using HD3.out, HC3.out, mov_refl _ _, mov_refl _ _⟩
end U8
end Go.Proofs.YtknebngapfakjaaDoor
