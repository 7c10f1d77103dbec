/-
  The encoder of layer 10 in memory, and the contracts of its calls, as walks over the translated text. The condition: its memory is there and may be written; what it has eaten is of at most 1000 scalars.
-/
import Derived.Test.YtemgbmacdpnepaaPunTxt
import Derived.Test.YtemgbmacdpnepaaMemStep
import Derived.Test.YtemgbmacdpnepaaEncM
import Derived.Deep.RegionLaw
import Derived.Deep.RegionHeld3
namespace Go.Proofs.Ytemgbmacdpnepaa
open Go.ChangeShapes Go.WideShapes Go.ChangeAt Go.RowKit
namespace Pun
open Bas Cod Bia Sca Fen Stp Scn
set_option linter.unusedVariables false

set_option maxHeartbeats 400000 in
theorem sFirst_any (a : Option Addr) (len cap : Nat) (l : List Int) (w : World) (hr : Row .u32 w a l) (hl : l.length = len) (hm : len ≤ maxLen) :
    Calls Try.prog 60 #[.slice a len cap] w fun e w' => e = .returned (.int .i64 (firstL l)) ∧ w' = w := by
  unfold maxLen at hm
  obtain ⟨b, off, ha, hc⟩ := hr
  have HN : Hid (l ≠ [] → a = some ⟨b, off, none⟩) := ha
  clear ha
  go_enter Try.func60, Try.ntmps60
  go_wp2
  go_loop [7] (fun i => ∃ k : Nat, k ≤ len ∧ i = .int .i64 k ∧ ∀ j, j < k → isB (nth l j) = true) (fun i => len - (intOf i).toNat)
  case atStart => exact ⟨0, Nat.zero_le _, rfl, fun j hj => by omega⟩
  case round =>
    obtain ⟨k, hk, rfl, hall⟩ := hrel
    have HA : Hid (∀ j, j < k → isB (nth l j) = true) := hall
    clear hall
    by_cases hlt : k < len
    · obtain rfl := HN.out (ne_nil_of hl hlt)
      have hcell := hc k (by omega)
      by_cases hb : isB (nth l k) = true
      · go_wp2_with (go_at_call 85; refine (sIs_any _ _).mono ?_; rintro e w' ⟨rfl, rfl⟩)
        go_round
        case rel =>
          refine ⟨k + 1, by omega, by go_num, fun j hj => ?_⟩
          by_cases e : j = k
          · rw [e]; exact hb
          · exact HA.out j (by omega)
        case measure => simp [intOf]; omega
      · have hb' : isB (nth l k) = false := by simpa using hb
        clear hb
        go_wp2_with (go_at_call 85; refine (sIs_any _ _).mono ?_; rintro e w' ⟨rfl, rfl⟩)
        go_ret
        exact ⟨ret_int (firstL_found l k (by omega) (HA.out) hb').symm, rfl⟩
    · go_wp2
      go_ret
      exact ⟨ret_int (firstL_none l (fun j hj => HA.out j (by omega))).symm, rfl⟩

/-- An encoder in memory: what it has eaten, its error, has it ended? The scalars that it keeps, the bytes that wait. -/
structure EncV (w : World) (b : Nat) (p q : Int) (en : Bool) (T l : List Int) (v u : Value) : Prop where
  base : BaseAt w b 0 p q en
  row : RowAt .u8 w b 3 v l
  lst : RowAt .u32 w b 4 u T
  ap : ∀ g, v.ownBlock = some g → u.ownBlock ≠ some g
/-- Its memory. -/
def footE (b : Nat) (v u : Value) (k : Nat) : Prop := k = b ∨ v.ownBlock = some k ∨ u.ownBlock = some k
theorem EncV.foot_lt {w : World} {b : Nat} {p q : Int} {en : Bool} {T l : List Int} {v u : Value} (h : EncV w b p q en T l v u) {k : Nat} (hk : footE b v u k) : k < w.heap.size := by
  rcases hk with rfl | hk | hk
  · exact h.base.lt
  · exact h.row.seg.lt hk
  · exact h.lst.seg.lt hk
theorem EncV.chg {S : Nat → Nat → Prop} {w w' : World} {b : Nat} {p q : Int} {en : Bool} {T l : List Int} {v u : Value} (h : EncV w b p q en T l v u) (hc : Chg S w w') (hS : ∀ k j, footE b v u k → ¬ S k j) : EncV w' b p q en T l v u :=
  ⟨h.base.chg hc (fun k j hk => hS k j (.inl hk.1)), h.row.chg hc (fun k j hk => hS k j (by rcases hk with hk | hk; exact .inl hk.1; exact .inr (.inl hk))),
   h.lst.chg hc (fun k j hk => hS k j (by rcases hk with hk | hk; exact .inl hk.1; exact .inr (.inr hk))), h.ap⟩
theorem EncV.below {w w' : World} {b : Nat} {p q : Int} {en : Bool} {T l : List Int} {v u : Value} (h : EncV w b p q en T l v u) (hb : Below w.heap.size w w') : EncV w' b p q en T l v u :=
  h.chg (chg_of_below hb (Nat.le_refl _) (fun _ _ => False)) (fun _ _ _ h => h)
theorem EncV.rebase {w w' : World} {b : Nat} {p q p' q' : Int} {en en' : Bool} {T l : List Int} {v u : Value} (h : EncV w b p q en T l v u) (hb : BaseAt w' b 0 p' q' en') (hc : Chg (footB b 0) w w') : EncV w' b p' q' en' T l v u := by
  refine ⟨hb, h.row.chg hc (fun k j hk hh => ?_), h.lst.chg hc (fun k j hk hh => ?_), h.ap⟩
  · rcases hk with hk | hk
    · have := hh.2; omega
    · exact h.row.ne (by rw [hk, hh.1])
  · rcases hk with hk | hk
    · have := hh.2; omega
    · exact h.lst.ne (by rw [hk, hh.1])
theorem EncV.rerow {w w' : World} {b : Nat} {p q : Int} {en : Bool} {T l l' : List Int} {v v' u : Value} (h : EncV w b p q en T l v u) (hr : RowAt .u8 w' b 3 v' l') (hc : Chg (footR b 3 v) w w') (hm : Mov w v v') : EncV w' b p q en T l' v' u := by
  refine ⟨h.base.chg hc (fun k j hk hh => ?_), hr, h.lst.chg hc (fun k j hk hh => ?_), fun g hg hu => ?_⟩
  · rcases hh with hh | hh
    · have := hk.2; omega
    · exact h.row.ne (by rw [hh, hk.1])
  · rcases hk with hk | hk
    · rcases hh with hh | hh
      · omega
      · exact h.row.ne (by rw [hh, hk.1])
    · rcases hh with hh | hh
      · exact h.lst.ne (by rw [hk, hh.1])
      · exact h.ap k hh hk
  · rcases hm g hg with e | e
    · exact h.ap g e hu
    · have := h.lst.seg.lt hu; omega
theorem EncV.relst {w w' : World} {b : Nat} {p q : Int} {en : Bool} {T T' l : List Int} {v u u' : Value} (h : EncV w b p q en T l v u) (hr : RowAt .u32 w' b 4 u' T') (hc : Chg (footR b 4 u) w w') (hm : Mov w u u') : EncV w' b p q en T' l v u' := by
  refine ⟨h.base.chg hc (fun k j hk hh => ?_), h.row.chg hc (fun k j hk hh => ?_), hr, fun g hg hu => ?_⟩
  · rcases hh with hh | hh
    · have := hk.2; omega
    · exact h.lst.ne (by rw [hh, hk.1])
  · rcases hk with hk | hk
    · rcases hh with hh | hh
      · omega
      · exact h.lst.ne (by rw [hh, hk.1])
    · rcases hh with hh | hh
      · exact h.row.ne (by rw [hk, hh.1])
      · exact h.ap k hk hh
  · rcases hm g hu with e | e
    · exact h.ap g hg e
    · have := h.row.seg.lt hg; omega
theorem EncV.drop {w : World} {b : Nat} {p q : Int} {en : Bool} {T l : List Int} {v u : Value} (h : EncV w b p q en T l v u) : EncV (w.setCell ⟨b, 4, none⟩ (.slice none 0 0)) b p q en [] l v (.slice none 0 0) := by
  have hc := chg_setCell w b 4 (.slice none 0 0)
  exact h.relst ⟨World.cell?_setCell_same _ _ _ h.lst.c, by simp [h.lst.f], seg_nil _ _, by simp [Value.ownBlock]⟩ (hc.mono (fun k j _ hh => .inl hh)) (fun g hg => by simp [Value.ownBlock] at hg)
theorem footE_nil {b k : Nat} (h : footE b (.slice none 0 0) (.slice none 0 0) k) : k = b := by
  rcases h with h | h | h
  · exact h
  · simp [Value.ownBlock] at h
  · simp [Value.ownBlock] at h
theorem newEn_any (w : World) {N : Nat} (hN : N = w.heap.size) :
    Calls Try.prog 19 #[] w fun e w' => e = .returned (.pointer (some ⟨N, 0, none⟩)) ∧ EncV w' N 0 0 false [] [] (.slice none 0 0) (.slice none 0 0) ∧ w'.heap.size = N + 1 ∧ Below N w w' := by
  subst hN
  go_enter Try.func19, Try.ntmps19
  go_wp2
  go_ret
  refine ⟨rfl, ⟨⟨?_, ?_, ?_, ?_, ?_, ?_⟩, ⟨?_, ?_, seg_nil _ _, by simp [Value.ownBlock]⟩, ⟨?_, ?_, seg_nil _ _, by simp [Value.ownBlock]⟩, fun g hg => by simp [Value.ownBlock] at hg⟩, by simp, (Below.refl _ _).alloc (Nat.le_refl _) _⟩
  all_goals first | (rw [World.cell?_alloc_new]; rfl) | simp
/-- Scalars more are kept. -/
theorem EncV.app {w w1 w4 : World} {b : Nat} {p q : Int} {en : Bool} {T x l : List Int} {v u vo : Value} (h : EncV w b p q en T l v u) (h0 : Chg (fun _ _ => False) w w1) (hs : Seg .u32 w4 vo (T ++ x)) (hc : Chg (fun k _ => u.ownBlock = some k) w1 w4) (hm : Mov w1 u vo) :
    EncV (w4.setCell ⟨b, 4, none⟩ vo) b p q en (T ++ x) l v vo ∧ Chg (fun k _ => footE b v u k) w (w4.setCell ⟨b, 4, none⟩ vo) ∧ Mov w u vo := by
  have hc2 := chg_setCell w4 b 4 vo
  have h1 := h.chg h0 (fun _ _ _ h => h)
  have hlt := h1.base.lt
  have hnb : vo.ownBlock ≠ some b := fun e => by
    rcases hm b e with e | e
    · exact h.lst.ne e
    · omega
  have hC : Chg (footR b 4 u) w1 (w4.setCell ⟨b, 4, none⟩ vo) := hc.trans2 hc2 (fun k j _ hh => .inr hh) (fun k j _ hh => .inl hh)
  have hcl := hc.cellAt h1.lst.c (fun hh => h.lst.ne hh)
  refine ⟨h1.relst ⟨World.cell?_setCell_same _ _ _ hcl, hc2.freeAt hcl (hc.freeAt h1.lst.c h1.lst.f), hs.chg hc2 (fun g j hg hh => hnb (by rw [hg, hh.1])), hnb⟩ hC hm, h0.trans2 hC (fun _ _ _ h => h.elim) (fun k j _ hh => ?_), fun g hg => ?_⟩
  · rcases hh with hh | hh
    · exact .inl hh.1
    · exact .inr (.inr hh)
  · rcases hm g hg with e | e
    · exact .inl e
    · right; have := h0.size; omega
/-- What 'eat' leaves. -/
def EatEQ (b : Nat) (p : Int) (T l : List Int) (v u : Value) (w w' : World) : Prop :=
  ∃ u', EncV w' b (p + (okLen l : Int)) (if okLen l < l.length then 2 else 0) false (if okLen l < l.length then [] else T ++ l) [] v u' ∧ Chg (fun k _ => footE b v u k) w w' ∧ Mov w u u'

set_option maxHeartbeats 4000000 in
set_option maxRecDepth 100000 in
theorem eatE_any (b : Nat) (p : Nat) (T l : List Int) (a : Option Addr) (n c : Nat) (v u : Value) (w : World) (h : EncV w b p 0 false T [] v u) (hr : Row .u32 w a l) (hl : l.length = n) (hc : n ≤ c) (hnil : a = none → c = 0) (hap : ∀ b' o', a = some ⟨b', o', none⟩ → ¬ footE b v u b') (hn : n ≤ 1000000) (hT : T.length ≤ 1000000) (hp : p ≤ 1000000) :
    Calls Try.prog 45 #[.pointer (some ⟨b, 0, none⟩), .slice a n c] w fun e w' => e = .returned (.int .i64 (okLen l)) ∧ EatEQ b p T l v u w w' := by
  have H : Hid (EncV w b p 0 false T [] v u) := h
  have HR : Hid (Row .u32 w a l ∧ l.length = n ∧ (a = none → c = 0) ∧ ∀ b' o', a = some ⟨b', o', none⟩ → ¬ footE b v u b') := ⟨hr, hl, hnil, hap⟩
  obtain ⟨m, hm⟩ : ∃ m, okLen l = m := ⟨_, rfl⟩
  have HM : Hid (okLen l = m) := hm
  have hle : m ≤ n := by rw [← hm, ← hl]; exact okLen_le l
  have HF : Hid (firstL l = if m < n then (m : Int) else -1) := by show _ = _; rw [firstL_ok, hm, hl]
  have HZ : Hid ((l.take m).length = m) := by show _ = _; rw [List.length_take]; omega
  rw [hm]
  clear h hm hr hl hnil hap
  go_enter Try.func45, Try.ntmps45
  go_wp2_with fail
  refine (sFirst_any a n c l w HR.out.1 HR.out.2.1 (by unfold maxLen; omega)).mono ?_
  rintro e w1 ⟨rfl, hw1⟩
  subst hw1
  rw [HF.out]
  go_upto_if 9 with fail
  go_cut [5] (fun x wc => x = .int .i64 m ∧ wc = w1)
  case first =>
    by_cases hlt : m < n
    · rw [if_pos hlt]
      have i1 : ¬ (m : Int) < 0 := by omega
      go_wp2
      go_meet
      case rel => exact ⟨rfl, rfl⟩
    · rw [if_neg hlt]
      have hmn : n = m := by omega
      subst hmn
      go_wp2
      go_meet
      case rel => exact ⟨rfl, rfl⟩
  case rest =>
    obtain ⟨rfl, rfl⟩ := hcut
    go_wp2_with fail
    refine (eat_any b 0 p 0 false m wc H.out.base (by omega) (by omega) (by omega)).mono ?_
    rintro e w2 ⟨rfl, hB2, hC2⟩
    have D2 := H.out.rebase hB2 hC2
    have hpe : eatI p 0 false m = (p : Int) + m := by
      unfold eatI
      by_cases h0 : (0 : Int) < m
      · rw [if_pos ⟨rfl, h0⟩]
      · rw [if_neg (fun hh => h0 hh.2)]; omega
    rw [hpe] at D2
    have HD2 : Hid (EncV w2 b ((p : Int) + m) 0 false T [] v u ∧ Chg (fun k _ => footE b v u k) wc w2) := ⟨D2, hC2.mono (fun k j _ hh => .inl hh.1)⟩
    have HR2 : Hid (Row .u32 w2 a (l.take m)) := by
      have h1 := HR.out.1.chg hC2 (fun b' o' e j hh => HR.out.2.2.2 b' o' e (.inl hh.1))
      obtain ⟨bb, oo, h2, h3⟩ := h1
      refine ⟨bb, oo, fun hne => h2 (fun e => hne (by rw [e]; simp)), fun i hi => ?_⟩
      rw [HZ.out] at hi
      rw [nth_take hi]
      exact h3 i (by have := HR.out.2.1; omega)
    clear hpe hB2 hC2 D2
    have hF : w2.cell? ⟨b, 4, none⟩ = some u := HD2.out.1.lst.c
    have hf4 := HD2.out.1.lst.f
    have HNE : Hid (u.ownBlock ≠ some b ∧ b < w2.heap.size) := ⟨HD2.out.1.lst.ne, HD2.out.1.base.lt⟩
    have i1 : (m : Int) ≤ (c : Int) := by omega
    go_upto_region 5 with fail
    go_region_law ((refine step_append_seg (by rfl) _ _ 27 27 (by rfl) .u32 64 4 Try.underlying27 info_u32 u T (l.take m) (by rfl) (HD2.out.1.lst.seg.chg ((Chg.refl (fun _ _ => False) _).drew) (fun _ _ _ h => h)) _ (by rfl) (src_row Try.underlying27 (HR2.out.mono ((Below.refl _ _).drew)) HZ.out HR.out.2.2.1) (by unfold maxLen; rw [HZ.out]; omega) (by rw [HZ.out]; omega) ?_; intro vo w4 hs4 hc4 hm4; have hc1 := hc4.cellAt (k := b) (o := 4) hF (fun hh => HNE.out.1 hh); have hf1 := hc4.freeAt (k := b) (o := 4) hF hf4; obtain ⟨a1, c1, hv1, -⟩ := hs4.form; obtain ⟨ln, hln⟩ : ∃ ln, (T ++ l.take m).length = ln := ⟨_, rfl⟩; rw [hln] at hv1; subst hv1))
    generalize hvo : Value.slice a1 ln c1 = vo at *
    obtain ⟨hD4, hC4, hM4⟩ := HD2.out.1.app ((Chg.refl (fun _ _ => False) w2).drew) hs4 hc4 hm4
    have HD4 : Hid (EncV (w4.setCell ⟨b, 4, none⟩ vo) b ((p : Int) + m) 0 false (T ++ l.take m) [] v vo ∧ Chg (fun k _ => footE b v u k) wc (w4.setCell ⟨b, 4, none⟩ vo) ∧ Mov wc u vo) :=
      ⟨hD4, HD2.out.2.trans hC4, fun g hg => by
        rcases hM4 g hg with e | e
        · exact .inl e
        · right; have := HD2.out.2.size; omega⟩
    generalize w4.setCell ⟨b, 4, none⟩ vo = w5 at *
    clear hs4 hc4 hm4 hc1 hf1 hD4 hC4 hM4 hF hf4 hln hvo HD2 HNE HR2
    by_cases hlt : m < n
    · have i2 : (m : Int) < (n : Int) := by omega
      go_wp2_with fail
      refine (stop_any b 0 _ 0 false 2 w5 HD4.out.1.base).mono ?_
      rintro e w6 ⟨rfl, hB6, hC6⟩
      have D6 := HD4.out.1.rebase hB6 hC6
      have hst : stopI 0 false 2 = 2 := rfl
      rw [hst] at D6
      have HD6 : Hid (EncV w6 b ((p : Int) + m) 2 false (T ++ l.take m) [] v vo ∧ Chg (fun k _ => footE b v u k) wc w6) := ⟨D6, HD4.out.2.1.trans2 hC6 (fun _ _ _ h => h) (fun k j _ hh => .inl hh.1)⟩
      have hc4 := D6.lst.c
      have hf4 := D6.lst.f
      clear hst hB6 hC6 D6
      go_wp2
      go_ret
      refine ⟨rfl, .slice none 0 0, ?_, ?_, fun g hg => by simp [Value.ownBlock] at hg⟩
      · rw [HM.out, HR.out.2.1, if_pos hlt, if_pos hlt]
        exact HD6.out.1.drop
      · exact HD6.out.2.trans2 (chg_setCell w6 b 4 _) (fun _ _ _ h => h) (fun k j _ hh => .inl hh.1)
    · have i2 : ¬ (m : Int) < (n : Int) := by omega
      go_wp2
      go_ret
      refine ⟨rfl, vo, ?_, HD4.out.2.1, HD4.out.2.2⟩
      rw [HM.out, HR.out.2.1, if_neg hlt, if_neg hlt]
      have e1 : l.take m = l := List.take_of_length_le (by have := HR.out.2.1; omega)
      have := HD4.out.1
      rw [e1] at this
      exact this
end Pun
end Go.Proofs.Ytemgbmacdpnepaa
