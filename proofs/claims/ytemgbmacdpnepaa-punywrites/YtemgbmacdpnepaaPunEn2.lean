/-
  The contracts of the calls of layer 10's encoder: Feed and End, as walks over the translated text. The condition: its memory is there and may be written; what it has eaten is of at most 1000 scalars.
-/
import Derived.Test.YtemgbmacdpnepaaPunEnc
namespace Go.Proofs.Ytemgbmacdpnepaa
open Go.ChangeShapes Go.WideShapes Go.ChangeAt Go.RowKit
namespace Pun
open Bas Cod Bia Sca Fen Stp Scn
set_option linter.unusedVariables false

/-- What 'Feed' leaves while it goes on. -/
def FeedEQ (b : Nat) (p : Int) (T l : List Int) (v u : Value) (w w' : World) : Prop :=
  ∃ v' u', EncV w' b (p + (okLen l : Int)) (if okLen l < l.length then 2 else 0) false (if okLen l < l.length then [] else T ++ l) [] v' u' ∧ Chg (fun k _ => footE b v u k) w w' ∧ Mov w v v' ∧ Mov w u u'
set_option maxHeartbeats 4000000 in
theorem eFeed_any (b : Nat) (p : Nat) (T l : List Int) (a : Option Addr) (n c : Nat) (room : Int) (v u : Value) (w : World) (h : EncV w b p 0 false T [] v u) (hr : Row .u32 w a l) (hl : l.length = n) (hc : n ≤ c) (hnil : a = none → c = 0) (hap : ∀ b' o', a = some ⟨b', o', none⟩ → ¬ footE b v u b') (hn : n ≤ 1000000) (hT : T.length ≤ 1000000) (hp : p ≤ 1000000) (hw : (Lit.int .i64 room).wf = true) :
    Calls Try.prog 27 #[.pointer (some ⟨b, 0, none⟩), .slice a n c, .int .i64 room] w fun e w' => e = .returned (.tuple #[.int .i64 (okLen l), .string ⟨#[]⟩]) ∧ FeedEQ b p T l v u w w' := by
  have H : Hid (EncV w b p 0 false T [] v u) := h
  have HW : Hid ((Lit.int .i64 room).wf = true) := hw
  have HE : Hid (Calls Try.prog 45 #[.pointer (some ⟨b, 0, none⟩), .slice a n c] w fun e w' => e = .returned (.int .i64 (okLen l)) ∧ EatEQ b p T l v u w w') := eatE_any b p T l a n c v u w h hr hl hc hnil hap hn hT hp
  obtain ⟨m, hm⟩ : ∃ m, okLen l = m := ⟨_, rfl⟩
  rw [hm] at HE
  rw [hm]
  have HM : Hid (okLen l = m) := hm
  clear h hw hr hl hc hnil hap hn hT hm
  go_enter Try.func27, Try.ntmps27
  go_wp2_with fail
  refine (going_any b 0 p 0 false w H.out.base).mono ?_
  rintro e w1 ⟨rfl, hw1⟩
  subst hw1
  rw [show goB 0 false = true from rfl]
  go_wp2_with fail
  refine HE.out.mono ?_
  rintro e w2 ⟨rfl, u2, D2, C2, M2⟩
  have HD2 : Hid (EncV w2 b ((p : Int) + (okLen l : Int)) (if okLen l < l.length then 2 else 0) false (if okLen l < l.length then [] else T ++ l) [] v u2 ∧ Chg (fun k _ => footE b v u k) w1 w2 ∧ Mov w1 u u2) := ⟨D2, C2, M2⟩
  clear D2 C2 M2 HE
  go_wp2_with fail
  refine (give_any b 3 v [] room w2 HD2.out.1.row HW.out).mono ?_
  rintro e w3 ⟨v3, rfl, hr3, hc3, hm3⟩
  have D3 := HD2.out.1.rerow hr3 (hc3.mono (fun k j _ hh => .inl hh)) (fun g hg => .inl (hm3 g hg))
  rw [List.drop_nil] at D3
  rw [List.take_nil, show Stp.strOf [] = ⟨#[]⟩ from rfl]
  have HQ : Hid (FeedEQ b p T l v u w1 w3) := ⟨v3, u2, D3, HD2.out.2.1.trans2 hc3 (fun _ _ _ h => h) (fun k j _ hh => .inl hh.1), fun g hg => .inl (hm3 g hg), HD2.out.2.2⟩
  clear hr3 hc3 hm3 D3 HD2
  go_wp2
  go_ret2
  exact ⟨rfl, HQ.out⟩
/-- What 'Feed' leaves once it goes on no more. -/
def FeedEE (b : Nat) (p q : Int) (en : Bool) (T l : List Int) (room : Int) (v u : Value) (w w' : World) : Prop :=
  ∃ v', EncV w' b p q en T (l.drop (frontN room l.length)) v' u ∧ Chg (fun k _ => k = b) w w' ∧ (∀ g, v'.ownBlock = some g → v.ownBlock = some g)
set_option maxHeartbeats 4000000 in
theorem eFeedE_any (b : Nat) (p q : Int) (en : Bool) (T l : List Int) (x : Value) (room : Int) (v u : Value) (w : World) (h : EncV w b p q en T l v u) (hg : goB q en = false) (hr : (Lit.int .i64 room).wf = true) :
    Calls Try.prog 27 #[.pointer (some ⟨b, 0, none⟩), x, .int .i64 room] w fun e w' => e = .returned (.tuple #[.int .i64 0, .string (Stp.strOf (l.take (frontN room l.length)))]) ∧ FeedEE b p q en T l room v u w w' := by
  have H : Hid (EncV w b p q en T l v u) := h
  have HW : Hid ((Lit.int .i64 room).wf = true) := hr
  have HG : Hid (goB q en = false) := hg
  clear h hr hg
  go_enter Try.func27, Try.ntmps27
  go_wp2_with fail
  refine (going_any b 0 p q en w H.out.base).mono ?_
  rintro e w1 ⟨rfl, hw1⟩
  subst hw1
  rw [HG.out]
  go_wp2_with fail
  refine (give_any b 3 v l room w1 H.out.row HW.out).mono ?_
  rintro e w3 ⟨v3, rfl, hr3, hc3, hm3⟩
  have HQ : Hid (FeedEE b p q en T l room v u w1 w3) :=
    ⟨v3, H.out.rerow hr3 (hc3.mono (fun k j _ hh => .inl hh)) (fun g hg => .inl (hm3 g hg)), hc3.mono (fun k j _ hh => hh.1), hm3⟩
  clear hr3 hc3 hm3
  go_wp2
  go_ret2
  exact ⟨rfl, HQ.out⟩
theorem text_len {L X : List Int} (h : TextOf L X) (hl : L.length ≤ 120) : X.length ≤ 1200 := by
  have := h.short hl rfl
  omega
/-- What 'End' leaves. -/
def EndEQ (b : Nat) (p : Int) (T : List Int) (v u : Value) (w w' : World) : Prop :=
  ∃ X v' u', TextOf T X ∧ EncV w' b p 0 true [] X v' u' ∧ Chg (fun k _ => footE b v u k) w w' ∧ Mov w v v' ∧ Mov w u u'
set_option maxHeartbeats 4000000 in
set_option maxRecDepth 100000 in
theorem eEnd_any (b : Nat) (p : Int) (T : List Int) (v u : Value) (w : World) (h : EncV w b p 0 false T [] v u) (hT : ∀ x ∈ T, isB x = true ∧ 0 ≤ x) (hl : T.length ≤ 120) :
    Calls Try.prog 28 #[.pointer (some ⟨b, 0, none⟩)] w fun e w' => e = .returned (.tuple #[]) ∧ EndEQ b p T v u w w' := by
  have H : Hid (EncV w b p 0 false T [] v u) := h
  obtain ⟨a, c, hu, hro, -⟩ := h.lst.seg.form
  have hrb : ∀ b' o', a = some ⟨b', o', none⟩ → b' < w.heap.size := fun b' o' e => h.lst.seg.lt (by rw [hu, e]; rfl)
  obtain ⟨n, hn⟩ : ∃ n, T.length = n := ⟨_, rfl⟩
  rw [hn] at hu
  subst hu
  have HT : Hid (Row .u32 w a T ∧ T.length = n ∧ (∀ x ∈ T, isB x = true ∧ 0 ≤ x) ∧ (∀ b' o', a = some ⟨b', o', none⟩ → b' < w.heap.size) ∧ n ≤ 120) := ⟨hro, hn, hT, hrb, by omega⟩
  have hF0 := h.lst.c
  clear h hro hl hn hT hrb
  go_enter Try.func28, Try.ntmps28
  go_wp2_with fail
  refine (going_any b 0 p 0 false w H.out.base).mono ?_
  rintro e w1 ⟨rfl, hw1⟩
  subst hw1
  rw [show goB 0 false = true from rfl]
  have hF : w1.drew.cell? ⟨b, 4, none⟩ = some (.slice a n c) := hF0
  clear hF0
  have HB0 := (Below.refl w1.heap.size w1).drew
  have HTX : Hid (Calls Try.prog 48 #[.slice a n c] w1.drew fun e w' => ∃ X, TextOf T X ∧ e = .returned (.string (Stp.strOf X)) ∧ Below w1.drew.heap.size w1.drew w') := textOf_any a n c T w1.drew (HT.out.1.mono HB0) HT.out.2.1 (by have := HT.out.2.2.2.2; omega) HT.out.2.2.1 HT.out.2.2.2.1
  go_upto_region 1 with fail
  go_region_held3 (fun w' => w'.cell? ⟨b, 4, none⟩ = some (.slice a n c)) (exact hF) (first
    | (go_at_call 48; refine HTX.out.mono ?_; rintro e w5 ⟨X, hX, rfl, b5⟩; have hF := cell_later b5 hF)
    | (go_at_call 47; refine (keep_any b 3 v [] (Stp.strOf X) _ ((H.out.below HB0).below b5).row ?_).mono ?_; (rw [strOf_size]; have := text_len hX (by rw [HT.out.2.1]; exact HT.out.2.2.2.2); simp; omega); rintro e w6 ⟨v6, rfl, hr6, hc6, hm6⟩; have hF := hc6.cellAt (k := b) (o := 4) hF (fun hh => by
        rcases hh with hh | hh
        · omega
        · exact H.out.row.ne hh)))
  have HD6 : Hid (EncV w6 b p 0 false T X v6 (.slice a n c) ∧ Chg (fun k _ => footE b v (.slice a n c) k) w1 w6 ∧ Mov w1 v v6 ∧ TextOf T X) := by
    have e1 : [] ++ bytesL (Stp.strOf X) = X := by rw [List.nil_append, bytesL_strOf X (fun x hx => by have := hX.plain x hx; omega)]
    rw [e1] at hr6
    have hb5 : Below w1.heap.size w1 w5 := HB0.trans b5
    refine ⟨((H.out.below HB0).below b5).rerow hr6 hc6 hm6, (chg_of_below hb5 (Nat.le_refl _) _).trans2 hc6 (fun _ _ _ h => h) (fun k j _ hh => ?_), mov_trans (mov_refl w1 v) hm6 hb5.size, hX⟩
    rcases hh with hh | hh
    · exact .inl hh.1
    · exact .inr (.inl hh)
  have hf4 := HD6.out.1.lst.f
  clear HTX hr6 hc6 hm6 b5 HB0 hX HT H
  go_wp2_with fail
  have HD7 : Hid (EncV (w6.setCell ⟨b, 4, none⟩ (.slice none 0 0)) b p 0 false [] X v6 (.slice none 0 0) ∧ Chg (fun k _ => footE b v (.slice a n c) k) w1 (w6.setCell ⟨b, 4, none⟩ (.slice none 0 0))) := ⟨HD6.out.1.drop, HD6.out.2.1.trans2 (chg_setCell w6 b 4 _) (fun _ _ _ h => h) (fun k j _ hh => .inl hh.1)⟩
  generalize w6.setCell ⟨b, 4, none⟩ (.slice none 0 0) = w7 at *
  clear hF hf4
  refine (end_any b 0 p 0 false w7 HD7.out.1.base).mono ?_
  rintro e w8 ⟨rfl, hB8, hC8⟩
  have D8 := HD7.out.1.rebase hB8 hC8
  rw [show endB 0 false = true from rfl] at D8
  have HQ : Hid (EndEQ b p T v (.slice a n c) w1 w8) := ⟨X, v6, .slice none 0 0, HD6.out.2.2.2, D8, HD7.out.2.trans2 hC8 (fun _ _ _ h => h) (fun k j _ hh => .inl hh.1), HD6.out.2.2.1, fun g hg => by simp [Value.ownBlock] at hg⟩
  clear hB8 hC8 D8 HD7 HD6
  go_wp2
  go_end0
  exact ⟨rfl, HQ.out⟩
set_option maxHeartbeats 1000000 in
theorem eEndE_any (b : Nat) (p q : Int) (en : Bool) (T l : List Int) (v u : Value) (w : World) (h : EncV w b p q en T l v u) (hg : goB q en = false) :
    Calls Try.prog 28 #[.pointer (some ⟨b, 0, none⟩)] w fun e w' => e = .returned (.tuple #[]) ∧ w' = w := by
  have H : Hid (EncV w b p q en T l v u) := h
  have HG : Hid (goB q en = false) := hg
  clear h hg
  go_enter Try.func28, Try.ntmps28
  go_wp2_with fail
  refine (going_any b 0 p q en w H.out.base).mono ?_
  rintro e w1 ⟨rfl, hw1⟩
  subst hw1
  rw [HG.out]
  go_wp2
  refine bodyPost_ret (results_none rfl _ _ _) rfl ?_
  exact ⟨rfl, rfl⟩
end Pun
end Go.Proofs.Ytemgbmacdpnepaa
