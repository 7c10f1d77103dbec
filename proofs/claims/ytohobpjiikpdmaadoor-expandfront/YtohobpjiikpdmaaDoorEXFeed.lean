/-
  Contracts of the calls of layer 14's decoder, as walks over the translated text (from the codecs' template); and the decoder in the templates' words: its windows in block b, itself in the next one. The condition: its memory is there and may be written; texts are small.
-/
import Derived.Test.YtohobpjiikpdmaaDoorEXDec3
import Derived.Test.YtohobpjiikpdmaaDoorStrs
import Derived.Deep.CutBlock
namespace Go.Proofs.YtohobpjiikpdmaaDoor
open Go.ChangeShapes Go.WideShapes Go.ChangeAt Go.RowKit
namespace EX
open Bas Sca Stp Scn Cod
set_option linter.unusedVariables false

theorem tellW_any (D d : Nat) (p q : Int) (en : Bool) (s : St) (t : List Int) (v u : Value) (room : Int) (w : World) (h : DecW w D d p q en s t v u) (hr : (Lit.int .i64 room).wf = true) (hlen : t.length ≤ 1000000000) (ht : (t.length : Int) ≤ room ∨ t = []) :
    Calls Tryd.prog 35 #[.pointer (some ⟨D, 3, none⟩), .int .i64 room] w fun e w' => ∃ vr v', e = .returned vr ∧ DecW w' D d p q en s [] v' u ∧ Seg .u32 w' vr t ∧ (∀ g, vr.ownBlock = some g → w.heap.size ≤ g) ∧ Chg (fun k _ => k = D) w w' ∧ (∀ g, v'.ownBlock = some g → v.ownBlock = some g) := by
  refine (tell_any D 3 v t room w h.row hr hlen).mono ?_
  rintro e w' ⟨vr, v', rfl, hr', hs', hf', hc', ho'⟩
  rw [front_all ht] at hr' hs'
  rw [List.drop_length] at hr'
  rw [List.take_length] at hs'
  exact ⟨vr, v', rfl, h.hold hr' (hc'.mono (fun k j _ h => .inl h)) (fun g hg => .inl (ho' g hg)), hs', hf', hc'.mono (fun k j _ h => h.1), ho'⟩
/-- What a call of Feed leaves: what it told lies in new memory, and the decoder stands where the machine does. -/
def FeedW (D d : Nat) (p : Int) (v u : Value) (X : Res St) (vr : Value) (w w' : World) : Prop :=
  ∃ v' u', Seg .u32 w' vr X.told ∧ (∀ g, vr.ownBlock = some g → w.heap.size ≤ g ∧ ¬ footX D d v' u' g) ∧
      DecW w' D d (p + X.eaten) (if X.bad = true then 3 else 0) false X.st [] v' u' ∧ Chg (fun k _ => footX D d v u k) w w' ∧ Mov w v v' ∧ Mov w u u'
/-- The end of a call: what is told. -/
theorem feedW_fin {D d : Nat} {p P q : Int} {s' : St} {t : List Int} {v u v' u' v4 vr : Value} {w w3 w4 : World} {k : Nat} {bad : Bool} {X : Res St} (hX : X = ⟨t, k, s', bad⟩) (hP : P = p + k) (hq : q = if bad = true then 3 else 0)
    (D3 : DecW w3 D d P q false s' t v' u') (C3 : Chg (fun k _ => footX D d v u k) w w3) (M : Mov w v v') (U : Mov w u u')
    (D4 : DecW w4 D d P q false s' [] v4 u') (hs : Seg .u32 w4 vr t) (hf : ∀ g, vr.ownBlock = some g → w3.heap.size ≤ g) (hc : Chg (fun k _ => k = D) w3 w4) (ho : ∀ g, v4.ownBlock = some g → v'.ownBlock = some g) : FeedW D d p v u X vr w w4 := by
  subst hP hq hX
  refine ⟨v4, u', hs, fun g hg => ⟨Nat.le_trans C3.size (hf g hg), fun hh => ?_⟩, D4, C3.trans2 hc (fun _ _ _ h => h) (fun k j _ h => .inl (.inl h)), fun g hg => M g (ho g hg), U⟩
  have hlt := hf g hg
  rcases hh with (rfl | rfl) | hh | hh
  · have := D3.lt; omega
  · have := D3.ltd; omega
  · have := D3.ltV (ho g hh); omega
  · have := D3.ltU hh; omega

set_option maxHeartbeats 4000000 in
set_option maxRecDepth 100000 in
theorem feedW_any (D d : Nat) (p : Int) (s : St) (v u : Value) (str : ByteArray) (room : Int) (X : Res St) (w : World) (h : DecW w D d p 0 false s [] v u) (hX : X = feed Exp.stepX room s 0 (bytesL str)) (hr : (Lit.int .i64 room).wf = true) (hn : str.size ≤ 1000000) (hp0 : 0 ≤ p) (hp1 : p ≤ 1000000000) :
    Calls Tryd.prog 22 #[.pointer (some ⟨D, 0, none⟩), .string str, .int .i64 room] w fun e w' => ∃ vr, e = .returned (.tuple #[.int .i64 X.eaten, vr]) ∧ FeedW D d p v u X vr w w' := by
  have HN : Hid ((bytesL str).length = str.size) := bytesL_length str
  have H : Hid (DecW w D d p 0 false s [] v u) := h
  have HXX : Hid (X = feed Exp.stepX room s 0 (bytesL str)) := hX
  clear h hX
  go_enter Tryd.func22, Tryd.ntmps22
  go_wp2
  go_loopw [8] (fun i wr => ∃ k : Nat, i = .int .i64 k ∧ k ≤ str.size ∧ ∃ s' t v' u', DecW wr D d (p + k) 0 false s' t v' u' ∧ t.length ≤ k ∧ ((t.length : Int) ≤ room ∨ t = []) ∧
      X = (feed Exp.stepX room s' t.length ((bytesL str).drop k)).pre t k ∧ Chg (fun k _ => footX D d v u k) w wr ∧ Mov w v v' ∧ Mov w u u') (fun i _ => str.size - (intOf i).toNat)
  case atStart => exact ⟨0, rfl, Nat.zero_le _, s, [], v, u, by simpa using H.out, by simp, .inr rfl, by rw [HXX.out]; simp [Res.pre], Chg.refl _ _, mov_refl _ _, mov_refl _ _⟩
  case round =>
    obtain ⟨k, rfl, hk, s', t, v', u', hD, htk, htr, hfe, hC, hM, hU⟩ := hrel
    have HD : Hid (DecW wr D d (p + k) 0 false s' t v' u') := hD
    have HF : Hid (X = (feed Exp.stepX room s' t.length ((bytesL str).drop k)).pre t k) := hfe
    have HC : Hid (Chg (fun k _ => footX D d v u k) w wr ∧ Mov w v v' ∧ Mov w u u') := ⟨hC, hM, hU⟩
    clear hD hfe hC hM hU
    go_wp2_with fail
    refine (going_any D 0 _ _ _ wr HD.out.base).mono ?_
    rintro e wr ⟨rfl, rfl⟩
    rw [show goB 0 false = true from rfl]
    go_wp2_with fail
    refine (held_any D 3 v' t wr HD.out.row).mono ?_
    rintro e wr ⟨rfl, rfl⟩
    by_cases h1 : (t.length : Int) < room
    · by_cases h2 : (k : Int) < (str.size : Int)
      · go_wp2_with fail
        have hkl : k < str.size := by omega
        rw [str_nth str k hkl]
        have hdr := drop_at (bytesL str) k (by rw [HN.out]; exact hkl)
        have hby := bytesL_byte str _ (nth_mem (l := bytesL str) (i := k) (by rw [HN.out]; exact hkl))
        obtain ⟨x, hx⟩ : ∃ x, nth (bytesL str) k = x := ⟨_, rfl⟩
        rw [hx] at hdr hby ⊢
        have HX : Hid ((bytesL str).drop k = x :: (bytesL str).drop (k + 1)) := hdr
        clear hx hdr
        refine (takeW_any D d _ _ _ s' t v' u' x wr HD.out hby (by omega)).mono ?_
        rintro e w2 ⟨v2, u2, rfl, D2, C2, M2, U2⟩
        have HC2 : Hid (Chg (fun k _ => footX D d v u k) w w2 ∧ Mov w v v2 ∧ Mov w u u2) := by
          obtain ⟨hC, hM, hU⟩ := HC.out
          refine ⟨hC.trans2 C2 (fun _ _ _ h => h) (fun k j hk h => ?_), mov_trans hM M2 hC.size, mov_trans hU U2 hC.size⟩
          rcases h with h | h | h
          · exact .inl h
          · rcases hM k h with e | e
            · exact .inr (.inl e)
            · omega
          · rcases hU k h with e | e
            · exact .inr (.inr e)
            · omega
        clear C2 M2 U2 HC hby
        cases hst : Exp.stepX s' x with
        | none =>
          have HE : Hid (X = ⟨t, k, s', true⟩) := by
            show _ = _
            rw [HF.out, HX.out, feed_none _ h1 hst]
            simp [Res.pre]
          have D2' : DecW w2 D d (p + k) 0 false s' t v2 u2 := by simpa [stN, toldN, hst] using D2
          have HD2 : Hid (DecW w2 D d (p + k) 0 false s' t v2 u2) := D2'
          clear D2'
          clear D2 HD HF HX hst
          rw [show (Option.isSome (none : Option (St × List Int))) = false from rfl]
          go_wp2_with fail
          refine (stop_any D 0 _ 0 false 3 w2 HD2.out.base).mono ?_
          rintro e w3 ⟨rfl, hB3, hC3⟩
          have HD3 : Hid (DecW w3 D d (p + k) 3 false s' t v2 u2) := HD2.out.rebase hB3 hC3
          have HC3 : Hid (Chg (fun k _ => footX D d v u k) w w3) := HC2.out.1.trans2 hC3 (fun _ _ _ h => h) (fun k j _ h => .inl (.inl h.1))
          clear hB3 hC3
          go_wp2_with fail
          refine (tellW_any D d _ _ _ s' t v2 u2 room w3 HD3.out hr (by omega) htr).mono ?_
          rintro e w4 ⟨vr, v4, rfl, D4, hs4, hf4, hc4, ho4⟩
          go_wp2
          go_ret2
          exact ⟨vr, by rw [HE.out]; rfl, feedW_fin HE.out rfl rfl HD3.out HC3.out HC2.out.2.1 HC2.out.2.2 D4 hs4 hf4 hc4 ho4⟩
        | some y =>
          have hy := Exp.step_one s' x y hst
          have HE : Hid (X = (feed Exp.stepX room y.1 (t ++ y.2).length ((bytesL str).drop (k + 1))).pre (t ++ y.2) (k + 1)) := by
            show _ = _
            rw [HF.out, HX.out, feed_some _ h1 hst, Res.pre_pre, List.length_append]
          have D2' : DecW w2 D d (p + k) 0 false y.1 (t ++ y.2) v2 u2 := by simpa [stN, toldN, hst] using D2
          have HD2 : Hid (DecW w2 D d (p + k) 0 false y.1 (t ++ y.2) v2 u2) := D2'
          clear D2'
          clear D2 HD HF HX hst
          rw [show (Option.isSome (some y)) = true from rfl]
          go_wp2_with fail
          refine (eat_any D 0 _ 0 false 1 w2 HD2.out.base (by omega) (by omega) (by omega)).mono ?_
          rintro e w3 ⟨rfl, hB3, hC3⟩
          have HD3 : Hid (DecW w3 D d (p + (k + 1 : Nat)) 0 false y.1 (t ++ y.2) v2 u2) := by
            have := HD2.out.rebase hB3 hC3
            have e : eatI (p + k) 0 false 1 = p + (k + 1 : Nat) := by simp [eatI, goB]; omega
            rw [e] at this
            exact this
          have HC3 : Hid (Chg (fun k _ => footX D d v u k) w w3) := HC2.out.1.trans2 hC3 (fun _ _ _ h => h) (fun k j _ h => .inl (.inl h.1))
          clear hB3 hC3 HD2
          go_wp2
          go_roundw
          case rel => exact ⟨k + 1, by go_num, by omega, y.1, t ++ y.2, v2, u2, HD3.out, by simp; omega, .inl (by simp; omega), HE.out, HC3.out, HC2.out.2.1, HC2.out.2.2⟩
          case measure => simp [intOf]; omega
      · have HE : Hid (X = ⟨t, k, s', false⟩) := by
          show _ = _
          rw [HF.out, List.drop_of_length_le (by rw [HN.out]; omega)]
          simp [feed, Res.pre]
        clear HF
        go_wp2_with fail
        refine (tellW_any D d _ _ _ s' t v' u' room wr HD.out hr (by omega) htr).mono ?_
        rintro e w4 ⟨vr, v4, rfl, D4, hs4, hf4, hc4, ho4⟩
        go_wp2
        go_ret2
        exact ⟨vr, by rw [HE.out]; rfl, feedW_fin HE.out rfl rfl HD.out HC.out.1 HC.out.2.1 HC.out.2.2 D4 hs4 hf4 hc4 ho4⟩
    · have HE : Hid (X = ⟨t, k, s', false⟩) := by
        show _ = _
        rw [HF.out, feed_full _ h1]
        simp [Res.pre]
      clear HF
      go_wp2_with fail
      refine (tellW_any D d _ _ _ s' t v' u' room wr HD.out hr (by omega) htr).mono ?_
      rintro e w4 ⟨vr, v4, rfl, D4, hs4, hf4, hc4, ho4⟩
      go_wp2
      go_ret2
      exact ⟨vr, by rw [HE.out]; rfl, feedW_fin HE.out rfl rfl HD.out HC.out.1 HC.out.2.1 HC.out.2.2 D4 hs4 hf4 hc4 ho4⟩

/-! ### In the templates' words -/
/-- A decoder: its windows in block b, itself in block b + 1. -/
structure DecV (π : Par) (w : World) (b : Nat) (p q : Int) (en : Bool) (s : St) (l : List Int) (v u : Value) : Prop where
  inn : DecW w (b + 1) b p q en s l v u
/-- Its memory. -/
def footD (b : Nat) (v u : Value) (k : Nat) : Prop := (k = b ∨ k = b + 1) ∨ v.ownBlock = some k ∨ u.ownBlock = some k
theorem foot_iff {b : Nat} {v u : Value} {k : Nat} : footX (b + 1) b v u k ↔ footD b v u k := by
  unfold footX footD
  constructor
  · rintro ((h | h) | h)
    · exact .inl (.inr h)
    · exact .inl (.inl h)
    · exact .inr h
  · rintro ((h | h) | h)
    · exact .inl (.inr h)
    · exact .inl (.inl h)
    · exact .inr h
/-- Where it stands. -/
structure OBase (w : World) (b o : Nat) (p q : Int) (en : Bool) : Prop where
  base : BaseAt w (b + 1) o p q en
section
variable {π : Par} {w w' : World} {b : Nat} {p q : Int} {en : Bool} {s : St} {l : List Int} {v u : Value}
theorem OBase.chg {S : Nat → Nat → Prop} {o : Nat} (h : OBase w b o p q en) (hc : Chg S w w') (hS : ∀ k j, (k = b ∨ k = b + 1) ∧ True → ¬ S k j) : OBase w' b o p q en := ⟨h.base.chg hc (fun k j hk => hS k j ⟨.inr hk.1, trivial⟩)⟩
theorem OBase.below {o : Nat} (h : OBase w b o p q en) (hb : Below w.heap.size w w') : OBase w' b o p q en := ⟨h.base.below hb⟩
theorem OBase.lt {o : Nat} (h : OBase w b o p q en) : b + 1 < w.heap.size := h.base.lt
theorem DecV.base (h : DecV π w b p q en s l v u) : BaseAt w (b + 1) 0 p q en := h.inn.base
theorem DecV.obase (h : DecV π w b p q en s l v u) : OBase w b 0 p q en := ⟨h.inn.base⟩
theorem DecV.row (h : DecV π w b p q en s l v u) : RowAt .u32 w (b + 1) 3 v l := h.inn.row
theorem DecV.tabs (h : DecV π w b p q en s l v u) : Tabs w := h.inn.tabs
theorem DecV.lt (h : DecV π w b p q en s l v u) : b + 1 < w.heap.size := h.inn.lt
theorem DecV.foot_lt (h : DecV π w b p q en s l v u) {k : Nat} (hk : footD b v u k) : k < w.heap.size := h.inn.foot_lt (foot_iff.2 hk)
theorem DecV.chg {S : Nat → Nat → Prop} (h : DecV π w b p q en s l v u) (hc : Chg S w w') (hS : ∀ k j, footD b v u k → ¬ S k j) (h0 : ∀ k, k < 3 → ∀ j, ¬ S k j) : DecV π w' b p q en s l v u :=
  ⟨h.inn.chg hc (fun k j hk => hS k j (foot_iff.1 hk)) h0⟩
theorem DecV.below (h : DecV π w b p q en s l v u) (hb : Below w.heap.size w w') : DecV π w' b p q en s l v u := ⟨h.inn.below hb⟩
end
theorem footD_nil {b k : Nat} (h : footD b (.slice none 0 0) (.slice none 0 0) k) : b ≤ k ∧ k ≤ b + 1 := by
  rcases h with h | h | h
  · omega
  · simp [Value.ownBlock] at h
  · simp [Value.ownBlock] at h
theorem newD_any (π : Par) (w : World) {N : Nat} (hN : N = w.heap.size) (hT : Tabs w) :
    Calls Tryd.prog 11 #[] w fun e w' => e = .returned (.pointer (some ⟨N + 1, 0, none⟩)) ∧ DecV π w' N 0 0 false (st0 π) [] (.slice none 0 0) (.slice none 0 0) ∧ w'.heap.size = N + 2 ∧ Below N w w' :=
  (newW_any w hN hT).mono fun e w' ⟨h1, h2, h3, h4⟩ => ⟨h1, ⟨h2⟩, h3, h4⟩
/-- What a call of Feed leaves: what it told lies in new memory, and the decoder stands where the machine does. -/
def FeedQ (π : Par) (b : Nat) (p : Int) (v u : Value) (X : Res St) (vr : Value) (w w' : World) : Prop :=
  ∃ v' u', Seg .u32 w' vr X.told ∧ (∀ g, vr.ownBlock = some g → w.heap.size ≤ g ∧ ¬ footD b v' u' g) ∧
      DecV π w' b (p + X.eaten) (if X.bad = true then 3 else 0) false X.st [] v' u' ∧ Chg (fun k _ => footD b v u k) w w' ∧ Mov w v v' ∧ Mov w u u'
theorem feed_any {π : Par} (b : Nat) (p : Int) (s : St) (v u : Value) (str : ByteArray) (room : Int) (X : Res St) (w : World) (h : DecV π w b p 0 false s [] v u) (hX : X = feed (stepU π) room s 0 (bytesL str)) (hr : (Lit.int .i64 room).wf = true) (hn : str.size ≤ 1000000) (hp0 : 0 ≤ p) (hp1 : p ≤ 1000000000) :
    Calls Tryd.prog 22 #[.pointer (some ⟨b + 1, 0, none⟩), .string str, .int .i64 room] w fun e w' => ∃ vr, e = .returned (.tuple #[.int .i64 X.eaten, vr]) ∧ FeedQ π b p v u X vr w w' :=
  (feedW_any (b + 1) b p s v u str room X w h.inn hX hr hn hp0 hp1).mono fun e w' ⟨vr, h1, v', u', h2, h3, h4, h5, h6, h7⟩ =>
    ⟨vr, h1, v', u', h2, fun g hg => ⟨(h3 g hg).1, fun hf => (h3 g hg).2 (foot_iff.2 hf)⟩, ⟨h4⟩, h5.mono (fun k j _ h => foot_iff.1 h), h6, h7⟩
theorem dEnd_any {π : Par} (b : Nat) (p q : Int) (en : Bool) (s : St) (l : List Int) (v u : Value) (w : World) (h : DecV π w b p q en s l v u) :
    Calls Tryd.prog 24 #[.pointer (some ⟨b + 1, 0, none⟩)] w fun e w' => e = .returned (.tuple #[]) ∧ DecV π w' b p (if rest s = true then q else stopI q en 4) (endB (if rest s = true then q else stopI q en 4) en) s l v u ∧ Chg (footB (b + 1) 0) w w' :=
  (endW_any (b + 1) b p q en s l v u w h.inn).mono fun e w' ⟨h1, h2, h3⟩ => ⟨h1, ⟨h2⟩, h3⟩
end EX
end Go.Proofs.YtohobpjiikpdmaaDoor
