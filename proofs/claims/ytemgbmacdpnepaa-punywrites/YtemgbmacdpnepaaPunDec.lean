/-
  The decoder of layer 10 in memory, and the contracts of its calls, as walks over the translated text. The condition: its memory is there and may be written; what it has eaten is of at most 4000 bytes; of math/bits.Len that it tells how many bits a number takes.
-/
import Derived.Test.YtemgbmacdpnepaaPunDen
import Derived.Test.YtemgbmacdpnepaaMemStep
import Derived.Test.YtemgbmacdpnepaaStp3
import Derived.Deep.CutBlock
import Derived.Deep.DeepCutAuto
import Derived.Deep.RegionLaw
namespace Go.Proofs.Ytemgbmacdpnepaa
open Go.ChangeShapes Go.WideShapes Go.ChangeAt Go.RowKit
namespace Pun
open Bas Cod Bia Sca Fen Stp
set_option linter.unusedVariables false

/-- A decoder in memory: what it has eaten, its error, has it ended? The bytes that it keeps, what waits. -/
structure DecV (w : World) (b : Nat) (p q : Int) (en : Bool) (T l : List Int) (v u : Value) : Prop where
  base : BaseAt w b 0 p q en
  row : RowAt .u32 w b 3 v l
  txt : RowAt .u8 w b 4 u T
  ap : ∀ g, v.ownBlock = some g → u.ownBlock ≠ some g
/-- Its memory. -/
def footD (b : Nat) (v u : Value) (k : Nat) : Prop := k = b ∨ v.ownBlock = some k ∨ u.ownBlock = some k
theorem DecV.foot_lt {w : World} {b : Nat} {p q : Int} {en : Bool} {T l : List Int} {v u : Value} (h : DecV w b p q en T l v u) {k : Nat} (hk : footD b v u k) : k < w.heap.size := by
  rcases hk with rfl | hk | hk
  · exact h.base.lt
  · exact h.row.seg.lt hk
  · exact h.txt.seg.lt hk
theorem DecV.chg {S : Nat → Nat → Prop} {w w' : World} {b : Nat} {p q : Int} {en : Bool} {T l : List Int} {v u : Value} (h : DecV w b p q en T l v u) (hc : Chg S w w') (hS : ∀ k j, footD b v u k → ¬ S k j) : DecV w' b p q en T l v u :=
  ⟨h.base.chg hc (fun k j hk => hS k j (.inl hk.1)), h.row.chg hc (fun k j hk => hS k j (by rcases hk with hk | hk; exact .inl hk.1; exact .inr (.inl hk))),
   h.txt.chg hc (fun k j hk => hS k j (by rcases hk with hk | hk; exact .inl hk.1; exact .inr (.inr hk))), h.ap⟩
theorem DecV.below {w w' : World} {b : Nat} {p q : Int} {en : Bool} {T l : List Int} {v u : Value} (h : DecV w b p q en T l v u) (hb : Below w.heap.size w w') : DecV w' b p q en T l v u :=
  h.chg (chg_of_below hb (Nat.le_refl _) (fun _ _ => False)) (fun _ _ _ h => h)
/-- Behind another place, error, end. -/
theorem DecV.rebase {w w' : World} {b : Nat} {p q p' q' : Int} {en en' : Bool} {T l : List Int} {v u : Value} (h : DecV w b p q en T l v u) (hb : BaseAt w' b 0 p' q' en') (hc : Chg (footB b 0) w w') : DecV w' b p' q' en' T l v u := by
  refine ⟨hb, h.row.chg hc (fun k j hk hh => ?_), h.txt.chg hc (fun k j hk hh => ?_), h.ap⟩
  · rcases hk with hk | hk
    · have := hh.2; omega
    · exact h.row.ne (by rw [hk, hh.1])
  · rcases hk with hk | hk
    · have := hh.2; omega
    · exact h.txt.ne (by rw [hk, hh.1])
/-- Behind another row that waits. -/
theorem DecV.rerow {w w' : World} {b : Nat} {p q : Int} {en : Bool} {T l l' : List Int} {v v' u : Value} (h : DecV w b p q en T l v u) (hr : RowAt .u32 w' b 3 v' l') (hc : Chg (footR b 3 v) w w') (hm : Mov w v v') : DecV w' b p q en T l' v' u := by
  refine ⟨h.base.chg hc (fun k j hk hh => ?_), hr, h.txt.chg hc (fun k j hk hh => ?_), fun g hg hu => ?_⟩
  · rcases hh with hh | hh
    · have := hk.2; omega
    · exact h.row.ne (by rw [hh, hk.1])
  · rcases hk with hk | hk
    · rcases hh with hh | hh
      · omega
      · exact h.row.ne (by rw [hh, hk.1])
    · rcases hh with hh | hh
      · exact h.txt.ne (by rw [hk, hh.1])
      · exact h.ap k hh hk
  · rcases hm g hg with e | e
    · exact h.ap g e hu
    · have := h.txt.seg.lt hu; omega
/-- Behind another row of bytes kept. -/
theorem DecV.retxt {w w' : World} {b : Nat} {p q : Int} {en : Bool} {T T' l : List Int} {v u u' : Value} (h : DecV w b p q en T l v u) (hr : RowAt .u8 w' b 4 u' T') (hc : Chg (footR b 4 u) w w') (hm : Mov w u u') : DecV w' b p q en T' l v u' := by
  refine ⟨h.base.chg hc (fun k j hk hh => ?_), h.row.chg hc (fun k j hk hh => ?_), hr, fun g hg hu => ?_⟩
  · rcases hh with hh | hh
    · have := hk.2; omega
    · exact h.txt.ne (by rw [hh, hk.1])
  · rcases hk with hk | hk
    · rcases hh with hh | hh
      · omega
      · exact h.txt.ne (by rw [hh, hk.1])
    · rcases hh with hh | hh
      · exact h.row.ne (by rw [hk, hh.1])
      · exact h.ap k hk hh
  · rcases hm g hu with e | e
    · exact h.ap g hg e
    · have := h.row.seg.lt hg; omega
/-- The bytes kept are let go. -/
theorem DecV.drop {w : World} {b : Nat} {p q : Int} {en : Bool} {T l : List Int} {v u : Value} (h : DecV w b p q en T l v u) : DecV (w.setCell ⟨b, 4, none⟩ (.slice none 0 0)) b p q en [] l v (.slice none 0 0) := by
  have hc := chg_setCell w b 4 (.slice none 0 0)
  exact h.retxt ⟨World.cell?_setCell_same _ _ _ h.txt.c, by simp [h.txt.f], seg_nil _ _, by simp [Value.ownBlock]⟩ (hc.mono (fun k j _ hh => .inl hh)) (fun g hg => by simp [Value.ownBlock] at hg)
theorem footD_nil {b k : Nat} (h : footD b (.slice none 0 0) (.slice none 0 0) k) : k = b := by
  rcases h with h | h | h
  · exact h
  · simp [Value.ownBlock] at h
  · simp [Value.ownBlock] at h
theorem newD_any (w : World) {N : Nat} (hN : N = w.heap.size) :
    Calls Try.prog 12 #[] w fun e w' => e = .returned (.pointer (some ⟨N, 0, none⟩)) ∧ DecV w' N 0 0 false [] [] (.slice none 0 0) (.slice none 0 0) ∧ w'.heap.size = N + 1 ∧ Below N w w' := by
  subst hN
  go_enter Try.func12, Try.ntmps12
  go_wp2
  go_ret
  refine ⟨rfl, ⟨⟨?_, ?_, ?_, ?_, ?_, ?_⟩, ⟨?_, ?_, seg_nil _ _, by simp [Value.ownBlock]⟩, ⟨?_, ?_, seg_nil _ _, by simp [Value.ownBlock]⟩, fun g hg => by simp [Value.ownBlock] at hg⟩, by simp, (Below.refl _ _).alloc (Nat.le_refl _) _⟩
  all_goals first | (rw [World.cell?_alloc_new]; rfl) | simp
/-- Bytes more are kept. -/
theorem DecV.app {w w1 w4 : World} {b : Nat} {p q : Int} {en : Bool} {T x l : List Int} {v u vo : Value} (h : DecV w b p q en T l v u) (h0 : Chg (fun _ _ => False) w w1) (hs : Seg .u8 w4 vo (T ++ x)) (hc : Chg (fun k _ => u.ownBlock = some k) w1 w4) (hm : Mov w1 u vo) :
    DecV (w4.setCell ⟨b, 4, none⟩ vo) b p q en (T ++ x) l v vo ∧ Chg (fun k _ => footD b v u k) w (w4.setCell ⟨b, 4, none⟩ vo) ∧ Mov w u vo := by
  have hc2 := chg_setCell w4 b 4 vo
  have h1 := h.chg h0 (fun _ _ _ h => h)
  have hlt := h1.base.lt
  have hnb : vo.ownBlock ≠ some b := fun e => by
    rcases hm b e with e | e
    · exact h.txt.ne e
    · omega
  have hC : Chg (footR b 4 u) w1 (w4.setCell ⟨b, 4, none⟩ vo) := hc.trans2 hc2 (fun k j _ hh => .inr hh) (fun k j _ hh => .inl hh)
  have hcl := hc.cellAt h1.txt.c (fun hh => h.txt.ne hh)
  refine ⟨h1.retxt ⟨World.cell?_setCell_same _ _ _ hcl, hc2.freeAt hcl (hc.freeAt h1.txt.c h1.txt.f), hs.chg hc2 (fun g j hg hh => hnb (by rw [hg, hh.1])), hnb⟩ hC hm, h0.trans2 hC (fun _ _ _ h => h.elim) (fun k j _ hh => ?_), fun g hg => ?_⟩
  · rcases hh with hh | hh
    · exact .inl hh.1
    · exact .inr (.inr hh)
  · rcases hm g hg with e | e
    · exact .inl e
    · right; have := h0.size; omega
/-- What 'eat' leaves. -/
def EatQ (b : Nat) (p : Int) (T : List Int) (t : List Int) (v u : Value) (w w' : World) : Prop :=
  ∃ u', DecV w' b (p + (bahL t : Int)) (if bahL t < t.length then 3 else 0) false (if bahL t < t.length then [] else T ++ t) [] v u' ∧ Chg (fun k _ => footD b v u k) w w' ∧ Mov w u u'

set_option maxHeartbeats 4000000 in
set_option maxRecDepth 100000 in
theorem eatM_any (b : Nat) (p : Nat) (T : List Int) (s : ByteArray) (v u : Value) (w : World) (h : DecV w b p 0 false T [] v u) (hs : s.size ≤ 1000000) (hT : T.length ≤ 1000000) (hp : p ≤ 1000000) :
    Calls Try.prog 39 #[.pointer (some ⟨b, 0, none⟩), .string s] w fun e w' => e = .returned (.int .i64 (bahL (bytesL s))) ∧ EatQ b p T (bytesL s) v u w w' := by
  have H : Hid (DecV w b p 0 false T [] v u) := h
  have HL : Hid ((bytesL s).length = s.size) := bytesL_length s
  obtain ⟨n, hn⟩ : ∃ n, bahL (bytesL s) = n := ⟨_, rfl⟩
  have HN : Hid (bahL (bytesL s) = n) := hn
  have hle : n ≤ s.size := by rw [← hn, ← bytesL_length]; exact bahL_le _
  have HB : Hid (bytesL (s.extract 0 n) = (bytesL s).take n) := bytesL_take s n
  have HZ : Hid ((s.extract 0 n).size = n) := by show _ = _; simp; omega
  rw [hn]
  clear h hn
  go_enter Try.func39, Try.ntmps39
  go_wp2_with fail
  refine (bah_any s w (by omega)).mono ?_
  rintro e w1 ⟨rfl, hw1⟩
  subst hw1
  rw [HN.out]
  go_wp2_with fail
  refine (eat_any b 0 p 0 false n w1 H.out.base (by omega) (by omega) (by omega)).mono ?_
  rintro e w2 ⟨rfl, hB2, hC2⟩
  have D2 := H.out.rebase hB2 hC2
  have hpe : eatI p 0 false n = (p : Int) + n := by
    unfold eatI
    by_cases h0 : (0 : Int) < n
    · rw [if_pos ⟨rfl, h0⟩]
    · rw [if_neg (fun hh => h0 hh.2)]; omega
  rw [hpe] at D2
  have HD2 : Hid (DecV w2 b ((p : Int) + n) 0 false T [] v u ∧ Chg (fun k _ => footD b v u k) w1 w2) := ⟨D2, hC2.mono (fun k j _ hh => .inl hh.1)⟩
  clear hpe hB2 hC2 D2
  have hF : w2.cell? ⟨b, 4, none⟩ = some u := HD2.out.1.txt.c
  have hf4 := HD2.out.1.txt.f
  have HNE : Hid (u.ownBlock ≠ some b ∧ b < w2.heap.size) := ⟨HD2.out.1.txt.ne, HD2.out.1.base.lt⟩
  have i1 : (n : Int) ≤ (s.size : Int) := by omega
  go_upto_region 3 with fail
  go_region_law ((refine step_append_seg (by rfl) _ _ 43 9 (by rfl) .u8 5 1 Try.underlying43 info_u8 u T (bytesL (s.extract 0 n)) (by rfl) (HD2.out.1.txt.seg.chg ((Chg.refl (fun _ _ => False) _).drew) (fun _ _ _ h => h)) _ (by rfl) (src_string Try.underlying9 _) (by unfold maxLen; rw [bytesL_length, HZ.out]; omega) (by rw [bytesL_length, HZ.out]; omega) ?_; intro vo w4 hs4 hc4 hm4; have hc1 := hc4.cellAt (k := b) (o := 4) hF (fun hh => HNE.out.1 hh); have hf1 := hc4.freeAt (k := b) (o := 4) hF hf4; obtain ⟨a1, c1, hv1, -⟩ := hs4.form; obtain ⟨ln, hln⟩ : ∃ ln, (T ++ bytesL (s.extract 0 n)).length = ln := ⟨_, rfl⟩; rw [hln] at hv1; subst hv1))
  generalize hvo : Value.slice a1 ln c1 = vo at *
  obtain ⟨hD4, hC4, hM4⟩ := HD2.out.1.app ((Chg.refl (fun _ _ => False) w2).drew) hs4 hc4 hm4
  rw [HB.out] at hD4
  have HD4 : Hid (DecV (w4.setCell ⟨b, 4, none⟩ vo) b ((p : Int) + n) 0 false (T ++ (bytesL s).take n) [] v vo ∧ Chg (fun k _ => footD b v u k) w1 (w4.setCell ⟨b, 4, none⟩ vo) ∧ Mov w1 u vo) :=
    ⟨hD4, HD2.out.2.trans hC4, fun g hg => by
      rcases hM4 g hg with e | e
      · exact .inl e
      · right; have := HD2.out.2.size; omega⟩
  generalize w4.setCell ⟨b, 4, none⟩ vo = w5 at *
  clear hs4 hc4 hm4 hc1 hf1 hD4 hC4 hM4 hF hf4 hln hvo HD2 HNE
  by_cases hlt : n < s.size
  · have i2 : (n : Int) < (s.size : Int) := by omega
    go_wp2_with fail
    refine (stop_any b 0 _ 0 false 3 w5 HD4.out.1.base).mono ?_
    rintro e w6 ⟨rfl, hB6, hC6⟩
    have D6 := HD4.out.1.rebase hB6 hC6
    have hst : stopI 0 false 3 = 3 := rfl
    rw [hst] at D6
    have HD6 : Hid (DecV w6 b ((p : Int) + n) 3 false (T ++ (bytesL s).take n) [] v vo ∧ Chg (fun k _ => footD b v u k) w1 w6) := ⟨D6, HD4.out.2.1.trans2 hC6 (fun _ _ _ h => h) (fun k j _ hh => .inl hh.1)⟩
    have hc4 := D6.txt.c
    have hf4 := D6.txt.f
    clear hst hB6 hC6 D6
    go_wp2
    go_ret
    refine ⟨rfl, .slice none 0 0, ?_, ?_, fun g hg => by simp [Value.ownBlock] at hg⟩
    · rw [HN.out, HL.out, if_pos hlt, if_pos hlt]
      exact HD6.out.1.drop
    · exact HD6.out.2.trans2 (chg_setCell w6 b 4 _) (fun _ _ _ h => h) (fun k j _ hh => .inl hh.1)
  · have i2 : ¬ (n : Int) < (s.size : Int) := by omega
    go_wp2
    go_ret
    refine ⟨rfl, vo, ?_, HD4.out.2.1, HD4.out.2.2⟩
    rw [HN.out, HL.out, if_neg hlt, if_neg hlt]
    have e1 : (bytesL s).take n = bytesL s := List.take_of_length_le (by rw [HL.out]; omega)
    have := HD4.out.1
    rw [e1] at this
    exact this

/-- How many bytes a part gives. -/
def feedN (room : Int) (t : List Int) : Nat := if 0 < room then bahL t else 0
/-- Is it wrong? -/
def feedB (room : Int) (t : List Int) : Bool := decide (0 < room) && decide (bahL t < t.length)
/-- What 'Feed' leaves while it goes on. -/
def FeedQ (b : Nat) (p : Int) (T : List Int) (room : Int) (t : List Int) (v u vr : Value) (w w' : World) : Prop :=
  ∃ v' u', DecV w' b (p + (feedN room t : Int)) (if feedB room t = true then 3 else 0) false (if feedB room t = true then [] else T ++ t.take (feedN room t)) [] v' u' ∧ Seg .u32 w' vr [] ∧ (∀ g, vr.ownBlock = some g → w.heap.size ≤ g) ∧ Chg (fun k _ => footD b v u k) w w' ∧ Mov w v v' ∧ Mov w u u'

set_option maxHeartbeats 4000000 in
theorem feed_any (b : Nat) (p : Nat) (T : List Int) (s : ByteArray) (room : Int) (v u : Value) (w : World) (h : DecV w b p 0 false T [] v u) (hs : s.size ≤ 1000000) (hT : T.length ≤ 1000000) (hp : p ≤ 1000000) (hr : (Lit.int .i64 room).wf = true) :
    Calls Try.prog 25 #[.pointer (some ⟨b, 0, none⟩), .string s, .int .i64 room] w fun e w' => ∃ vr, e = .returned (.tuple #[.int .i64 (feedN room (bytesL s)), vr]) ∧ FeedQ b p T room (bytesL s) v u vr w w' := by
  have H : Hid (DecV w b p 0 false T [] v u) := h
  have HW : Hid ((Lit.int .i64 room).wf = true) := hr
  have HL : Hid ((bytesL s).length = s.size) := bytesL_length s
  have hle : bahL (bytesL s) ≤ s.size := by rw [← bytesL_length]; exact bahL_le _
  clear h hr
  by_cases h0 : 0 < room
  · have HF : Hid (feedN room (bytesL s) = bahL (bytesL s) ∧ feedB room (bytesL s) = decide (bahL (bytesL s) < (bytesL s).length)) := ⟨by unfold feedN; rw [if_pos h0], by unfold feedB; simp [h0]⟩
    obtain ⟨n, hn⟩ : ∃ n, bahL (bytesL s) = n := ⟨_, rfl⟩
    have HN : Hid (bahL (bytesL s) = n) := hn
    have i1 : room > 0 := h0
    rw [HF.out.1, hn]
    clear h0 hn
    go_enter Try.func25, Try.ntmps25
    go_wp2_with fail
    refine (going_any b 0 p 0 false w H.out.base).mono ?_
    rintro e w1 ⟨rfl, hw1⟩
    subst hw1
    rw [show goB 0 false = true from rfl]
    go_wp2_with fail
    refine (eatM_any b p T s v u w1 H.out hs hT hp).mono ?_
    rintro e w2 ⟨rfl, u2, D2, C2, M2⟩
    rw [HN.out]
    have HD2 : Hid (DecV w2 b ((p : Int) + (bahL (bytesL s) : Int)) (if bahL (bytesL s) < (bytesL s).length then 3 else 0) false (if bahL (bytesL s) < (bytesL s).length then [] else T ++ bytesL s) [] v u2 ∧ Chg (fun k _ => footD b v u k) w1 w2 ∧ Mov w1 u u2) := ⟨D2, C2, M2⟩
    clear D2 C2 M2
    go_wp2_with fail
    refine (tell_any b 3 v [] room w2 HD2.out.1.row HW.out (by simp)).mono ?_
    rintro e w3 ⟨vr, v3, rfl, hr3, hs3, hf3, hc3, hm3⟩
    have D3 := HD2.out.1.rerow hr3 (hc3.mono (fun k j _ hh => .inl hh)) (fun g hg => .inl (hm3 g hg))
    simp only [List.take_nil, List.drop_nil] at hs3 D3
    have HQ : Hid (FeedQ b p T room (bytesL s) v u vr w1 w3) := by
      refine ⟨v3, u2, ?_, hs3, fun g hg => by have := hf3 g hg; have := HD2.out.2.1.size; omega, HD2.out.2.1.trans2 hc3 (fun _ _ _ h => h) (fun k j _ hh => .inl hh.1), fun g hg => .inl (hm3 g hg), HD2.out.2.2⟩
      rw [HF.out.1, HF.out.2]
      simp only [decide_eq_true_eq]
      by_cases hb : bahL (bytesL s) < (bytesL s).length
      · rw [if_pos hb, if_pos hb] at D3
        rw [if_pos hb, if_pos hb]
        exact D3
      · rw [if_neg hb, if_neg hb] at D3
        rw [if_neg hb, if_neg hb, List.take_of_length_le (by omega)]
        exact D3
    clear hr3 hs3 hf3 hc3 hm3 D3 HD2
    go_wp2
    go_ret2
    exact ⟨vr, rfl, HQ.out⟩
  · have HF : Hid (feedN room (bytesL s) = 0 ∧ feedB room (bytesL s) = false) := ⟨by unfold feedN; rw [if_neg h0], by unfold feedB; simp [h0]⟩
    have i1 : ¬ room > 0 := h0
    rw [HF.out.1]
    clear h0
    go_enter Try.func25, Try.ntmps25
    go_wp2_with fail
    refine (going_any b 0 p 0 false w H.out.base).mono ?_
    rintro e w1 ⟨rfl, hw1⟩
    subst hw1
    rw [show goB 0 false = true from rfl]
    go_wp2_with fail
    refine (tell_any b 3 v [] room w1 H.out.row HW.out (by simp)).mono ?_
    rintro e w3 ⟨vr, v3, rfl, hr3, hs3, hf3, hc3, hm3⟩
    have D3 := H.out.rerow hr3 (hc3.mono (fun k j _ hh => .inl hh)) (fun g hg => .inl (hm3 g hg))
    simp only [List.take_nil, List.drop_nil] at hs3 D3
    have HQ : Hid (FeedQ b p T room (bytesL s) v u vr w1 w3) := by
      refine ⟨v3, u, ?_, hs3, hf3, hc3.mono (fun k j _ hh => .inl hh.1), fun g hg => .inl (hm3 g hg), mov_refl _ _⟩
      rw [HF.out.1, HF.out.2]
      simpa using D3
    clear hr3 hs3 hf3 hc3 hm3 D3
    go_wp2
    go_ret2
    exact ⟨vr, rfl, HQ.out⟩
/-- What 'Feed' leaves once it goes on no more. -/
def FeedE (b : Nat) (p q : Int) (en : Bool) (T l : List Int) (room : Int) (v u vr : Value) (w w' : World) : Prop :=
  ∃ v', DecV w' b p q en T (l.drop (frontN room l.length)) v' u ∧ Seg .u32 w' vr (l.take (frontN room l.length)) ∧ (∀ g, vr.ownBlock = some g → w.heap.size ≤ g) ∧ Chg (fun k _ => k = b) w w' ∧ (∀ g, v'.ownBlock = some g → v.ownBlock = some g)
set_option maxHeartbeats 4000000 in
theorem feedE_any (b : Nat) (p q : Int) (en : Bool) (T l : List Int) (s : ByteArray) (room : Int) (v u : Value) (w : World) (h : DecV w b p q en T l v u) (hg : goB q en = false) (hl : l.length ≤ 1000000) (hr : (Lit.int .i64 room).wf = true) :
    Calls Try.prog 25 #[.pointer (some ⟨b, 0, none⟩), .string s, .int .i64 room] w fun e w' => ∃ vr, e = .returned (.tuple #[.int .i64 0, vr]) ∧ FeedE b p q en T l room v u vr w w' := by
  have H : Hid (DecV w b p q en T l v u) := h
  have HW : Hid ((Lit.int .i64 room).wf = true ∧ l.length ≤ 1000000) := ⟨hr, hl⟩
  have HG : Hid (goB q en = false) := hg
  clear h hr hg hl
  go_enter Try.func25, Try.ntmps25
  go_wp2_with fail
  refine (going_any b 0 p q en w H.out.base).mono ?_
  rintro e w1 ⟨rfl, hw1⟩
  subst hw1
  rw [HG.out]
  go_wp2_with fail
  refine (tell_any b 3 v l room w1 H.out.row HW.out.1 (by have := HW.out.2; omega)).mono ?_
  rintro e w3 ⟨vr, v3, rfl, hr3, hs3, hf3, hc3, hm3⟩
  have HQ : Hid (FeedE b p q en T l room v u vr w1 w3) :=
    ⟨v3, H.out.rerow hr3 (hc3.mono (fun k j _ hh => .inl hh)) (fun g hg => .inl (hm3 g hg)), hs3, hf3, hc3.mono (fun k j _ hh => hh.1), hm3⟩
  clear hr3 hs3 hf3 hc3 hm3
  go_wp2
  go_ret2
  exact ⟨vr, rfl, HQ.out⟩
theorem decL_len (t : List Int) : ∀ (s : PS) (L : List Int), decL s t = some L → L.length ≤ s.l.length + t.length := by
  obtain ⟨n, hn⟩ : ∃ n, t.length = n := ⟨_, rfl⟩
  induction n using Nat.strongRecOn generalizing t with
  | _ n ih =>
    intro s L h
    by_cases h0 : t = []
    · subst h0
      rw [decL_nil] at h
      rw [← Option.some.inj h]; omega
    · by_cases he : (getF s.b 0 0 0 1 t).2.2 ≠ 0
      · rw [decL_err h0 he] at h; cases h
      · obtain ⟨⟨d, e, er⟩, hg⟩ : ∃ g, getF s.b 0 0 0 1 t = g := ⟨_, rfl⟩
        rw [hg] at he
        obtain rfl : er = 0 := by simpa using he
        have hp := getF_place _ _ _ _ _ _ _ _ hg
        cases hs : stepD s d with
        | none => rw [decL_none hg hs] at h; cases h
        | some s' =>
          rw [decL_some hg hs] at h
          have h1 := ih _ (by rw [← hn, List.length_drop]; omega) (t.drop e) rfl s' L h
          obtain ⟨v, p, -, -, -, -, rfl⟩ := stepD_some hs
          simp only [insL_len, List.length_drop] at h1
          omega
theorem textD_len {T L : List Int} (h : textD T = some L) : L.length ≤ T.length := by
  by_cases h0 : 0 < hyp T
  · rw [textD_some h0] at h
    have h1 := decL_len _ _ _ h
    have h2 := hyp_le T
    simp only [PS.zero, List.length_take, List.length_drop] at h1
    omega
  · rw [textD_none h0] at h
    have h1 := decL_len _ _ _ h
    simpa [PS.zero] using h1
/-- Behind End: the error, has it ended, what waits. -/
def endQ (T : List Int) : Int := match textD T with | none => 4 | some _ => 0
def endE (T : List Int) : Bool := match textD T with | none => false | some _ => true
def endL (T : List Int) : List Int := match textD T with | none => [] | some L => L
theorem end_go (T : List Int) : goB (endQ T) (endE T) = false := by unfold endQ endE; cases textD T <;> rfl
/-- What 'End' leaves. -/
def EndQ (b : Nat) (p : Int) (T : List Int) (v u : Value) (w w' : World) : Prop :=
  ∃ v' u', DecV w' b p (endQ T) (endE T) [] (endL T) v' u' ∧ Chg (fun k _ => footD b v u k) w w' ∧ Mov w v v' ∧ Mov w u u'
set_option maxHeartbeats 4000000 in
theorem dEnd_any (HLen : LenOK) (b : Nat) (p : Int) (T : List Int) (v u : Value) (w : World) (h : DecV w b p 0 false T [] v u) (hT : ∀ x ∈ T, 0 ≤ x ∧ x < 256) (hl : T.length ≤ 4000) :
    Calls Try.prog 26 #[.pointer (some ⟨b, 0, none⟩)] w fun e w' => e = .returned (.tuple #[]) ∧ EndQ b p T v u w w' := by
  have H : Hid (DecV w b p 0 false T [] v u) := h
  have hc4 := h.txt.c
  obtain ⟨a, c, hu, hro, -⟩ := h.txt.seg.form
  obtain ⟨n, hn⟩ : ∃ n, T.length = n := ⟨_, rfl⟩
  rw [hn] at hu
  have hcv := run_string w a n c T hro hn
  have HS : Hid ((Stp.strOf T).size ≤ 4000 ∧ bytesL (Stp.strOf T) = T) := ⟨by rw [strOf_size]; exact hl, bytesL_strOf T hT⟩
  subst hu
  have HTL : Hid (T.length ≤ 4000) := hl
  clear h hro hl hn hT
  obtain ⟨st, hst⟩ : ∃ st, Stp.strOf T = st := ⟨_, rfl⟩
  rw [hst] at hcv HS
  clear hst
  go_enter Try.func26, Try.ntmps26
  go_wp2_with fail
  refine (going_any b 0 p 0 false w H.out.base).mono ?_
  rintro e w1 ⟨rfl, hw1⟩
  subst hw1
  rw [show goB 0 false = true from rfl]
  go_wp2_with fail
  refine (denoted_any HLen st w1 HS.out.1).mono ?_
  rintro e w2 ⟨hq, hb2⟩
  rw [HS.out.2] at hq
  have D2 := H.out.below hb2
  have HD2 : Hid (DecV w2 b p 0 false T [] v (.slice a n c) ∧ Below w1.heap.size w1 w2) := ⟨D2, hb2⟩
  have hc5 := D2.txt.c
  have hf5 := D2.txt.f
  clear D2 hb2 hcv hc4
  rcases hq with ⟨hR, rfl⟩ | ⟨vl, L, hR, rfl, hsl, hfl⟩
  · have HR : Hid (endQ T = 4 ∧ endE T = false ∧ endL T = []) := by unfold endQ endE endL; rw [hR]; exact ⟨rfl, rfl, rfl⟩
    clear hR
    go_wp2_with fail
    have HD3 : Hid (DecV (w2.setCell ⟨b, 4, none⟩ (.slice none 0 0)) b p 0 false [] [] v (.slice none 0 0) ∧ Chg (fun k _ => footD b v (.slice a n c) k) w1 (w2.setCell ⟨b, 4, none⟩ (.slice none 0 0))) := ⟨HD2.out.1.drop, (chg_of_below HD2.out.2 (Nat.le_refl _) _).trans2 (chg_setCell w2 b 4 _) (fun _ _ _ h => h) (fun k j _ hh => .inl hh.1)⟩
    generalize w2.setCell ⟨b, 4, none⟩ (.slice none 0 0) = w3 at *
    clear hc5 hf5
    refine (stop_any b 0 p 0 false 4 w3 HD3.out.1.base).mono ?_
    rintro e w4 ⟨rfl, hB4, hC4⟩
    have D4 := HD3.out.1.rebase hB4 hC4
    rw [show stopI 0 false 4 = 4 from rfl] at D4
    have HD4 : Hid (DecV w4 b p 4 false [] [] v (.slice none 0 0) ∧ Chg (fun k _ => footD b v (.slice a n c) k) w1 w4) := ⟨D4, HD3.out.2.trans2 hC4 (fun _ _ _ h => h) (fun k j _ hh => .inl hh.1)⟩
    clear hB4 hC4 D4 HD3 HD2
    go_wp2_with fail
    refine (hold_any b 3 v [] [] none 0 0 w4 HD4.out.1.row (row_nil _ _ _) rfl (fun _ => rfl) (by simp)).mono ?_
    rintro e w5 ⟨v5, rfl, hr5, hc5, hm5⟩
    have D5 := HD4.out.1.rerow hr5 hc5 hm5
    have HD5 : Hid (DecV w5 b p 4 false [] [] v5 (.slice none 0 0) ∧ Chg (fun k _ => footD b v (.slice a n c) k) w1 w5 ∧ Mov w1 v v5) := ⟨D5, HD4.out.2.trans2 hc5 (fun _ _ _ h => h) (fun k j _ hh => by
      rcases hh with hh | hh
      · exact .inl hh.1
      · exact .inr (.inl hh)), mov_trans (mov_refl w1 v) hm5 HD4.out.2.size⟩
    clear hr5 hc5 hm5 D5 HD4
    go_wp2_with fail
    refine (end_any b 0 p 4 false w5 HD5.out.1.base).mono ?_
    rintro e w6 ⟨rfl, hB6, hC6⟩
    have D6 := HD5.out.1.rebase hB6 hC6
    rw [show endB 4 false = false from rfl] at D6
    have HQ : Hid (EndQ b p T v (.slice a n c) w1 w6) := by
      refine ⟨v5, .slice none 0 0, ?_, HD5.out.2.1.trans2 hC6 (fun _ _ _ h => h) (fun k j _ hh => .inl hh.1), HD5.out.2.2, fun g hg => by simp [Value.ownBlock] at hg⟩
      rw [HR.out.1, HR.out.2.1, HR.out.2.2]
      exact D6
    clear hB6 hC6 D6 HD5
    go_wp2
    go_end0
    exact ⟨rfl, HQ.out⟩
  · have HR : Hid (endQ T = 0 ∧ endE T = true ∧ endL T = L) := by unfold endQ endE endL; rw [hR]; exact ⟨rfl, rfl, rfl⟩
    obtain ⟨al, cl, hvl, hrl, hml, -, -, hnl⟩ := hsl.form
    obtain ⟨nl, hnle⟩ : ∃ nl, L.length = nl := ⟨_, rfl⟩
    rw [hnle] at hvl
    subst hvl
    have HL2 : Hid (Row .u32 w2 al L ∧ L.length = nl ∧ (al = none → cl = 0) ∧ L.length ≤ 4000 ∧ ∀ b' o', al = some ⟨b', o', none⟩ → w1.heap.size ≤ b') :=
      ⟨hrl, hnle, hnl, by have h1 := textD_len hR; have h2 := HTL.out; omega, fun b' o' e => hfl b' (by rw [e]; rfl)⟩
    clear hR hsl hfl hrl hml hnl hnle
    go_wp2_with fail
    have HD3 : Hid (DecV (w2.setCell ⟨b, 4, none⟩ (.slice none 0 0)) b p 0 false [] [] v (.slice none 0 0) ∧ Chg (fun k _ => footD b v (.slice a n c) k) w1 (w2.setCell ⟨b, 4, none⟩ (.slice none 0 0)) ∧ Row .u32 (w2.setCell ⟨b, 4, none⟩ (.slice none 0 0)) al L) := ⟨HD2.out.1.drop, (chg_of_below HD2.out.2 (Nat.le_refl _) _).trans2 (chg_setCell w2 b 4 _) (fun _ _ _ h => h) (fun k j _ hh => .inl hh.1),
      HL2.out.1.chg (chg_setCell w2 b 4 _) (fun b' o' e j hh => by have := HL2.out.2.2.2.2 b' o' e; have := H.out.base.lt; omega)⟩
    generalize w2.setCell ⟨b, 4, none⟩ (.slice none 0 0) = w3 at *
    clear hc5 hf5
    refine (hold_any b 3 v [] L al nl cl w3 HD3.out.1.row HD3.out.2.2 HL2.out.2.1 HL2.out.2.2.1 (by have := HL2.out.2.2.2.1; simp; omega)).mono ?_
    rintro e w5 ⟨v5, rfl, hr5, hc5, hm5⟩
    rw [List.nil_append] at hr5
    have D5 := HD3.out.1.rerow hr5 hc5 hm5
    have HD5 : Hid (DecV w5 b p 0 false [] L v5 (.slice none 0 0) ∧ Chg (fun k _ => footD b v (.slice a n c) k) w1 w5 ∧ Mov w1 v v5) := ⟨D5, HD3.out.2.1.trans2 hc5 (fun _ _ _ h => h) (fun k j _ hh => by
      rcases hh with hh | hh
      · exact .inl hh.1
      · exact .inr (.inl hh)), mov_trans (mov_refl w1 v) hm5 HD3.out.2.1.size⟩
    clear hr5 hc5 hm5 D5 HD3 HD2
    go_wp2_with fail
    refine (end_any b 0 p 0 false w5 HD5.out.1.base).mono ?_
    rintro e w6 ⟨rfl, hB6, hC6⟩
    have D6 := HD5.out.1.rebase hB6 hC6
    rw [show endB 0 false = true from rfl] at D6
    have HQ : Hid (EndQ b p T v (.slice a n c) w1 w6) := by
      refine ⟨v5, .slice none 0 0, ?_, HD5.out.2.1.trans2 hC6 (fun _ _ _ h => h) (fun k j _ hh => .inl hh.1), HD5.out.2.2, fun g hg => by simp [Value.ownBlock] at hg⟩
      rw [HR.out.1, HR.out.2.1, HR.out.2.2]
      exact D6
    clear hB6 hC6 D6 HD5
    go_wp2
    go_end0
    exact ⟨rfl, HQ.out⟩
set_option maxHeartbeats 1000000 in
theorem dEndE_any (b : Nat) (p q : Int) (en : Bool) (T l : List Int) (v u : Value) (w : World) (h : DecV w b p q en T l v u) (hg : goB q en = false) :
    Calls Try.prog 26 #[.pointer (some ⟨b, 0, none⟩)] w fun e w' => e = .returned (.tuple #[]) ∧ w' = w := by
  have H : Hid (DecV w b p q en T l v u) := h
  have HG : Hid (goB q en = false) := hg
  clear h hg
  go_enter Try.func26, Try.ntmps26
  go_wp2_with fail
  refine (going_any b 0 p q en w H.out.base).mono ?_
  rintro e w1 ⟨rfl, hw1⟩
  subst hw1
  rw [HG.out]
  go_wp2
  refine bodyPost_ret (results_none rfl _ _ _) rfl ?_
  exact ⟨rfl, rfl⟩
end Pun
end Go.Proofs.Ytemgbmacdpnepaa
