/-
  Contracts of the decoder's calls, as walks over the translated text. The condition: its memory is there and may be written; texts are small.
-/
import Derived.Test.YtlifobdooophbaaDoorBODec2
import Derived.Test.YtlifobdooophbaaDoorStrs
import Derived.Deep.CutBlock
namespace Go.Proofs.YtlifobdooophbaaDoor
open Go.ChangeShapes Go.WideShapes Go.ChangeAt Go.RowKit
namespace BO
open Bas Sca Stp Scn Cod
set_option linter.unusedVariables false
variable {π : Par}

theorem tellAll_any (b : Nat) (p q : Int) (en : Bool) (s : St) (t : List Int) (v u : Value) (room : Int) (w : World) (h : DecV π w b p q en s t v u) (hr : (Lit.int .i64 room).wf = true) (hlen : t.length ≤ 1000000000) (ht : (t.length : Int) ≤ room ∨ t = []) :
    Calls Tryd.prog 46 #[.pointer (some ⟨b, 3, none⟩), .int .i64 room] w fun e w' => ∃ vr v', e = .returned vr ∧ DecV π w' b p q en s [] v' u ∧ Seg .u32 w' vr t ∧ (∀ g, vr.ownBlock = some g → w.heap.size ≤ g) ∧ Chg (fun k _ => k = b) w w' ∧ (∀ g, v'.ownBlock = some g → v.ownBlock = some g) := by
  refine (tell_any b 3 v t room w h.row hr hlen).mono ?_
  rintro e w' ⟨vr, v', rfl, hr', hs', hf', hc', ho'⟩
  rw [front_all ht] at hr' hs'
  rw [List.drop_length] at hr'
  rw [List.take_length] at hs'
  exact ⟨vr, v', rfl, h.hold hr' (hc'.mono (fun k j _ h => .inl h)) (fun g hg => .inl (ho' g hg)), hs', hf', hc'.mono (fun k j _ h => h.1), ho'⟩
/-- What a call of Feed leaves: what it told lies in new memory, and the decoder stands where the machine does. -/
def FeedQ (π : Par) (b : Nat) (p : Int) (v u : Value) (X : Res St) (vr : Value) (w w' : World) : Prop :=
  ∃ v' u', Seg .u32 w' vr X.told ∧ (∀ g, vr.ownBlock = some g → w.heap.size ≤ g ∧ ¬ footD b v' u' g) ∧
      DecV π w' b (p + X.eaten) (if X.bad = true then 3 else 0) false X.st [] v' u' ∧ Chg (fun k _ => footD b v u k) w w' ∧ Mov w v v' ∧ Mov w u u'
/-- The end of a call: what is told. -/
theorem feed_fin {b : Nat} {p P q : Int} {s' : St} {t : List Int} {v u v' u' v4 vr : Value} {w w3 w4 : World} {k : Nat} {bad : Bool} {X : Res St} (hX : X = ⟨t, k, s', bad⟩) (hP : P = p + k) (hq : q = if bad = true then 3 else 0)
    (D3 : DecV π w3 b P q false s' t v' u') (C3 : Chg (fun k _ => footD b v u k) w w3) (M : Mov w v v') (U : Mov w u u')
    (D4 : DecV π w4 b P q false s' [] v4 u') (hs : Seg .u32 w4 vr t) (hf : ∀ g, vr.ownBlock = some g → w3.heap.size ≤ g) (hc : Chg (fun k _ => k = b) w3 w4) (ho : ∀ g, v4.ownBlock = some g → v'.ownBlock = some g) : FeedQ π b p v u X vr w w4 := by
  subst hP hq hX
  refine ⟨v4, u', hs, fun g hg => ⟨Nat.le_trans C3.size (hf g hg), fun hh => ?_⟩, D4, C3.trans2 hc (fun _ _ _ h => h) (fun k j _ h => .inl h), fun g hg => M g (ho g hg), U⟩
  have hlt := hf g hg
  rcases hh with rfl | hh | hh
  · have := D3.lt; omega
  · have := D3.ltV (ho g hh); omega
  · have := D3.ltU hh; omega

set_option maxHeartbeats 4000000 in
set_option maxRecDepth 100000 in
theorem feed_any (b : Nat) (p : Int) (s : St) (v u : Value) (str : ByteArray) (room : Int) (X : Res St) (w : World) (h : DecV π w b p 0 false s [] v u) (hX : X = feed (stepU π) room s 0 (bytesL str)) (hr : (Lit.int .i64 room).wf = true) (hn : str.size ≤ 1000000) (hp0 : 0 ≤ p) (hp1 : p ≤ 1000000000) :
    Calls Tryd.prog 30 #[.pointer (some ⟨b, 0, none⟩), .string str, .int .i64 room] w fun e w' => ∃ vr, e = .returned (.tuple #[.int .i64 X.eaten, vr]) ∧ FeedQ π b p v u X vr w w' := by
  have HN : Hid ((bytesL str).length = str.size) := bytesL_length str
  have H : Hid (DecV π w b p 0 false s [] v u) := h
  have HXX : Hid (X = feed (stepU π) room s 0 (bytesL str)) := hX
  clear h hX
  go_enter Tryd.func30, Tryd.ntmps30
  go_wp2
  go_loopw [8] (fun i wr => ∃ k : Nat, i = .int .i64 k ∧ k ≤ str.size ∧ ∃ s' t v' u', DecV π wr b (p + k) 0 false s' t v' u' ∧ t.length ≤ k ∧ ((t.length : Int) ≤ room ∨ t = []) ∧
      X = (feed (stepU π) room s' t.length ((bytesL str).drop k)).pre t k ∧ Chg (fun k _ => footD b v u k) w wr ∧ Mov w v v' ∧ Mov w u u') (fun i _ => str.size - (intOf i).toNat)
  case atStart => exact ⟨0, rfl, Nat.zero_le _, s, [], v, u, by simpa using H.out, by simp, .inr rfl, by rw [HXX.out]; simp [Res.pre], Chg.refl _ _, mov_refl _ _, mov_refl _ _⟩
  case round =>
    obtain ⟨k, rfl, hk, s', t, v', u', hD, htk, htr, hfe, hC, hM, hU⟩ := hrel
    have HD : Hid (DecV π wr b (p + k) 0 false s' t v' u') := hD
    have HF : Hid (X = (feed (stepU π) room s' t.length ((bytesL str).drop k)).pre t k) := hfe
    have HC : Hid (Chg (fun k _ => footD b v u k) w wr ∧ Mov w v v' ∧ Mov w u u') := ⟨hC, hM, hU⟩
    clear hD hfe hC hM hU
    go_wp2_with fail
    refine (going_any b 0 _ _ _ wr HD.out.base).mono ?_
    rintro e wr ⟨rfl, rfl⟩
    rw [show goB 0 false = true from rfl]
    go_wp2_with fail
    refine (held_any b 3 v' t wr HD.out.row).mono ?_
    rintro e wr ⟨rfl, rfl⟩
    by_cases h1 : (t.length : Int) < room
    · by_cases h2 : (k : Int) < (str.size : Int)
      · go_wp2_with fail
        have hkl : k < str.size := by omega
        rw [str_nth str k hkl]
        have hdr := drop_at (bytesL str) k (by rw [HN.out]; exact hkl)
        have hby := bytesL_byte str _ (nth_mem (l := bytesL str) (i := k) (by rw [HN.out]; exact hkl))
        obtain ⟨x, hx⟩ : ∃ x, nth (bytesL str) k = x := ⟨_, rfl⟩
        rw [hx] at hdr hby ⊢
        have HX : Hid ((bytesL str).drop k = x :: (bytesL str).drop (k + 1)) := hdr
        clear hx hdr
        refine (take_any b _ _ _ s' t v' u' x wr HD.out hby (by omega)).mono ?_
        rintro e w2 ⟨v2, u2, rfl, D2, C2, M2, U2⟩
        have HC2 : Hid (Chg (fun k _ => footD b v u k) w w2 ∧ Mov w v v2 ∧ Mov w u u2) := by
          obtain ⟨hC, hM, hU⟩ := HC.out
          refine ⟨hC.trans2 C2 (fun _ _ _ h => h) (fun k j hk h => ?_), mov_trans hM M2 hC.size, mov_trans hU U2 hC.size⟩
          rcases h with h | h | h
          · exact .inl h
          · rcases hM k h with e | e
            · exact .inr (.inl e)
            · omega
          · rcases hU k h with e | e
            · exact .inr (.inr e)
            · omega
        clear C2 M2 U2 HC hby
        cases hst : stepU π s' x with
        | none =>
          have HE : Hid (X = ⟨t, k, s', true⟩) := by
            show _ = _
            rw [HF.out, HX.out, feed_none _ h1 hst]
            simp [Res.pre]
          have D2' : DecV π w2 b (p + k) 0 false s' t v2 u2 := by simpa [stN, toldN, hst] using D2
          have HD2 : Hid (DecV π w2 b (p + k) 0 false s' t v2 u2) := D2'
          clear D2'
          clear D2 HD HF HX hst
          rw [show (Option.isSome (none : Option (St × List Int))) = false from rfl]
          go_wp2_with fail
          refine (stop_any b 0 _ 0 false 3 w2 HD2.out.base).mono ?_
          rintro e w3 ⟨rfl, hB3, hC3⟩
          have HD3 : Hid (DecV π w3 b (p + k) 3 false s' t v2 u2) := HD2.out.rebase hB3 hC3
          have HC3 : Hid (Chg (fun k _ => footD b v u k) w w3) := HC2.out.1.trans2 hC3 (fun _ _ _ h => h) (fun k j _ h => .inl h.1)
          clear hB3 hC3
          go_wp2_with fail
          refine (tellAll_any b _ _ _ s' t v2 u2 room w3 HD3.out hr (by omega) htr).mono ?_
          rintro e w4 ⟨vr, v4, rfl, D4, hs4, hf4, hc4, ho4⟩
          go_wp2
          go_ret2
          exact ⟨vr, by rw [HE.out]; rfl, feed_fin HE.out rfl rfl HD3.out HC3.out HC2.out.2.1 HC2.out.2.2 D4 hs4 hf4 hc4 ho4⟩
        | some y =>
          have hy := (step_one π) s' x y hst
          have HE : Hid (X = (feed (stepU π) room y.1 (t ++ y.2).length ((bytesL str).drop (k + 1))).pre (t ++ y.2) (k + 1)) := by
            show _ = _
            rw [HF.out, HX.out, feed_some _ h1 hst, Res.pre_pre, List.length_append]
          have D2' : DecV π w2 b (p + k) 0 false y.1 (t ++ y.2) v2 u2 := by simpa [stN, toldN, hst] using D2
          have HD2 : Hid (DecV π w2 b (p + k) 0 false y.1 (t ++ y.2) v2 u2) := D2'
          clear D2'
          clear D2 HD HF HX hst
          rw [show (Option.isSome (some y)) = true from rfl]
          go_wp2_with fail
          refine (eat_any b 0 _ 0 false 1 w2 HD2.out.base (by omega) (by omega) (by omega)).mono ?_
          rintro e w3 ⟨rfl, hB3, hC3⟩
          have HD3 : Hid (DecV π w3 b (p + (k + 1 : Nat)) 0 false y.1 (t ++ y.2) v2 u2) := by
            have := HD2.out.rebase hB3 hC3
            have e : eatI (p + k) 0 false 1 = p + (k + 1 : Nat) := by simp [eatI, goB]; omega
            rw [e] at this
            exact this
          have HC3 : Hid (Chg (fun k _ => footD b v u k) w w3) := HC2.out.1.trans2 hC3 (fun _ _ _ h => h) (fun k j _ h => .inl h.1)
          clear hB3 hC3 HD2
          go_wp2
          go_roundw
          case rel => exact ⟨k + 1, by go_num, by omega, y.1, t ++ y.2, v2, u2, HD3.out, by simp; omega, .inl (by simp; omega), HE.out, HC3.out, HC2.out.2.1, HC2.out.2.2⟩
          case measure => simp [intOf]; omega
      · have HE : Hid (X = ⟨t, k, s', false⟩) := by
          show _ = _
          rw [HF.out, List.drop_of_length_le (by rw [HN.out]; omega)]
          simp [feed, Res.pre]
        clear HF
        go_wp2_with fail
        refine (tellAll_any b _ _ _ s' t v' u' room wr HD.out hr (by omega) htr).mono ?_
        rintro e w4 ⟨vr, v4, rfl, D4, hs4, hf4, hc4, ho4⟩
        go_wp2
        go_ret2
        exact ⟨vr, by rw [HE.out]; rfl, feed_fin HE.out rfl rfl HD.out HC.out.1 HC.out.2.1 HC.out.2.2 D4 hs4 hf4 hc4 ho4⟩
    · have HE : Hid (X = ⟨t, k, s', false⟩) := by
        show _ = _
        rw [HF.out, feed_full _ h1]
        simp [Res.pre]
      clear HF
      go_wp2_with fail
      refine (tellAll_any b _ _ _ s' t v' u' room wr HD.out hr (by omega) htr).mono ?_
      rintro e w4 ⟨vr, v4, rfl, D4, hs4, hf4, hc4, ho4⟩
      go_wp2
      go_ret2
      exact ⟨vr, by rw [HE.out]; rfl, feed_fin HE.out rfl rfl HD.out HC.out.1 HC.out.2.1 HC.out.2.2 D4 hs4 hf4 hc4 ho4⟩

end BO
end Go.Proofs.YtlifobdooophbaaDoor
