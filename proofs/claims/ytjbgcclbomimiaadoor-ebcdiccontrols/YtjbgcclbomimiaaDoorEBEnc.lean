/-
  The encoder of layer 8 in memory, and the contract of its Feed, as a walk over the translated text: what layer 6's encoder tells, turned. The condition: its memory is there and may be written; lists are small.
-/
import Derived.Test.YtjbgcclbomimiaaDoorEBDec
import Derived.Test.YtjbgcclbomimiaaDoorM8Wr
namespace Go.Proofs.YtjbgcclbomimiaaDoor
open Go.ChangeShapes Go.WideShapes Go.ChangeAt Go.RowKit
namespace EB
open Bas Sca Stp Scn Cod
set_option linter.unusedVariables false

/-- An encoder in memory. -/
structure EncV (π : Par) (w : World) (b : Nat) (p q : Int) (en : Bool) (K : List Int) (v : Value) : Prop where
  inn : M8.EncV () w b p q en (Per.turnL Per.frL K) v
  outer : Outer w b
  byte : ∀ x ∈ K, 0 ≤ x ∧ x < 256
  vne : ∀ g, v.ownBlock = some g → g ≠ b + 1 ∧ g ≠ b + 5
/-- Its memory. -/
def footE (b : Nat) (v : Value) (k : Nat) : Prop := (k = b ∨ k = b + 1 ∨ k = b + 5) ∨ v.ownBlock = some k
variable {π : Par}
theorem foot_inE {b : Nat} {v : Value} {k : Nat} (h : M8.footE b v k) : footE b v k := by
  rcases h with h | h
  · exact .inl (.inl h)
  · exact .inr h
section
variable {w w' : World} {b : Nat} {p q p' q' : Int} {en en' : Bool} {K : List Int} {v : Value}
theorem EncV.base (h : EncV π w b p q en K v) : BaseAt w b 0 p q en := h.inn.base
theorem EncV.obase (h : EncV π w b p q en K v) : OBase w b 0 p q en := ⟨h.inn.base, h.outer.c0⟩
theorem EncV.row (h : EncV π w b p q en K v) : RowAt .u8 w b 3 v (Per.turnL Per.frL K) := h.inn.row
theorem EncV.tabs (h : EncV π w b p q en K v) : M8.Tabs w := h.inn.tabs
theorem EncV.oc (h : EncV π w b p q en K v) : w.cell? ⟨b + 5, 0, none⟩ = some (.pointer (some ⟨b, 0, none⟩)) := h.outer.c0
theorem EncV.lt (h : EncV π w b p q en K v) {k : Nat} (hk : footE b v k) : k < w.heap.size := by
  have := h.outer.lt
  rcases hk with hk | hk
  · omega
  · exact h.inn.lt (.inr hk)
theorem EncV.apart (h : EncV π w b p q en K v) {k : Nat} (hk : k = b + 1 ∨ k = b + 5) : ¬ M8.footE b v k := fun hf => by
  rcases hf with hf | hf
  · omega
  · have := h.vne k hf; omega
theorem EncV.chg {S : Nat → Nat → Prop} (h : EncV π w b p q en K v) (hc : Chg S w w') (hS : ∀ k j, footE b v k → ¬ S k j) (h0 : ∀ j, ¬ S 0 j) : EncV π w' b p q en K v :=
  ⟨h.inn.chg hc (fun k j hk => hS k j (foot_inE hk)) h0, h.outer.chg hc (fun k j hk => hS k j (.inl (.inr hk))), h.byte, h.vne⟩
theorem EncV.below (h : EncV π w b p q en K v) (hb : Below w.heap.size w w') : EncV π w' b p q en K v :=
  h.chg (chg_of_below hb (Nat.le_refl _) (fun _ _ => False)) (fun _ _ _ h => h) (fun _ h => h)
theorem EncV.rebase (h : EncV π w b p q en K v) (hb : BaseAt w' b 0 p' q' en') (hc : Chg (footB b 0) w w') : EncV π w' b p' q' en' K v :=
  ⟨h.inn.rebase hb hc, h.outer.chg hc (fun k j hk hh => by have := hh.1; omega), h.byte, h.vne⟩
end
theorem footE_nil {b k : Nat} (h : footE b (.slice none 0 0) k) : b ≤ k ∧ k ≤ b + 5 := by
  rcases h with h | h
  · omega
  · simp [Value.ownBlock] at h
theorem foot_old {w : World} {b : Nat} {v v' : Value} (h : Mov w v v') {k : Nat} (hk : k < w.heap.size) (hf : footE b v' k) : footE b v k := by
  rcases hf with hf | hf
  · exact .inl hf
  · rcases h k hf with e | e
    · exact .inr e
    · omega
set_option maxHeartbeats 1000000 in
theorem newEn_any (π : Par) (w : World) {N : Nat} (hN : N = w.heap.size) (hT : M8.Tabs w) :
    Calls Tryd.prog 38 #[] w fun e w' => e = .returned (.pointer (some ⟨N + 5, 0, none⟩)) ∧ EncV π w' N 0 0 false [] (.slice none 0 0) ∧ w'.heap.size = N + 6 ∧ Below N w w' := by
  have HT : Hid (M8.Tabs w) := hT
  clear hT
  go_enter Tryd.func38, Tryd.ntmps38
  go_wp2_with fail
  refine (M8.newEn_any () w hN HT.out).mono ?_
  rintro e w1 ⟨rfl, D1, z1, B1⟩
  have HD1 : Hid (M8.EncV () w1 N 0 0 false [] (.slice none 0 0) ∧ w1.heap.size = N + 1 ∧ Below N w w1) := ⟨D1, z1, B1⟩
  clear D1 B1 hN
  go_wp2_with fail
  refine (Per.new_at w1).mono ?_
  rintro e w2 ⟨rfl, T2, B2, z2⟩
  rw [z1] at T2 z2 ⊢
  have hz : w2.heap.size = N + 5 := by omega
  have HD2 : Hid (M8.EncV () w2 N 0 0 false [] (.slice none 0 0) ∧ Per.TabAt w2 (N + 1) ∧ Below N w w2) := ⟨HD1.out.1.below B2, T2, HD1.out.2.2.trans (B2.mono (by omega))⟩
  clear T2 B2 z1 z2 HD1
  go_wp2
  go_ret
  exact ⟨rfl, ⟨HD2.out.1.below ((Below.refl _ _).alloc (Nat.le_refl _) _), outer_new w2 _ HD2.out.2.1 hz, by simp, by simp [Value.ownBlock]⟩, by simp; omega, HD2.out.2.2.alloc (by omega) _⟩
/-- What a call of Feed leaves. -/
def EFeedQ (π : Par) (b : Nat) (p : Int) (v : Value) (X : ERes) (w w' : World) : Prop :=
  ∃ v', EncV π w' b (p + X.eaten) (if X.bad = true then 2 else 0) false X.kept v' ∧ Chg (fun k _ => footE b v k) w w' ∧ Mov w v v'
theorem enc_of {b : Nat} {p q p' q' : Int} {en en' : Bool} {K K' : List Int} {v v' : Value} {w w1 w2 : World} (h : EncV π w b p q en K v) (E : M8.EncV () w1 b p' q' en' K' v') (hC : Chg (fun k _ => M8.footE b v k) w w1) (hM : Mov w v v') (hb : ∀ x ∈ K', 0 ≤ x ∧ x < 256) (b2 : Below w1.heap.size w1 w2) :
    EncV π w2 b p' q' en' (Per.turnL Per.tabL K') v' ∧ Chg (fun k _ => footE b v k) w w2 ∧ Mov w v v' := by
  refine ⟨⟨?_, (h.outer.chg hC (fun k j hk => h.apart hk)).below b2, (turn_byte hb).1, fun g hg => ?_⟩, (hC.mono (fun k j _ h => foot_inE h)).trans (chg_of_below b2 (Nat.le_refl _) _), hM⟩
  · rw [fr_of_tab hb]; exact E.below b2
  · rcases hM g hg with e | e
    · exact h.vne g e
    · have := h.outer.lt; omega
theorem encF_told (room : Int) (K L : List Int) : (encF (M8.oneN ()) room K L).told.length ≤ K.length + 5 * L.length := by
  unfold encF
  obtain ⟨f, hf⟩ : ∃ f, frontR room K.length = f := ⟨_, rfl⟩
  rw [hf]
  have h1 := enc_bytes (M8.oneN ()) 5 (M8.oneN_max ()) room L (K.take f) (K.drop f)
  have h2 := enc_le (M8.oneN ()) room L (K.take f) (K.drop f)
  have h3 : (K.take f).length + (K.drop f).length = K.length := by rw [← List.length_append, List.take_append_drop]
  omega
theorem text_bytes {l : List Int} (h : ∀ x ∈ l, 0 ≤ x ∧ x < 256) : Txt.strOf (Per.turnL Per.tabL (bytesL (Stp.strOf l))) = Stp.strOf (Per.turnL Per.tabL l) := by
  rw [bytesL_strOf l h]; rfl

set_option maxHeartbeats 4000000 in
set_option maxRecDepth 100000 in
theorem eFeed_any (b : Nat) (p : Int) (K : List Int) (v : Value) (a : Option Addr) (n cp : Nat) (L : List Int) (room : Int) (X : ERes) (w : World) (h : EncV π w b p 0 false K v) (hX : X = encF (oneN π) room K L)
    (hrow : Row .u32 w a L) (hl : L.length = n) (ha : ∀ b' o', a = some ⟨b', o', none⟩ → ¬ footE b v b') (hfit : ∀ c ∈ L, 0 ≤ c ∧ c < 4294967296)
    (hr0 : -1000000000 ≤ room) (hr1 : room ≤ 1000000000) (hn : n ≤ 150000) (hK : K.length ≤ 1000) (hp0 : 0 ≤ p) (hp1 : p ≤ 1000000000) :
    Calls Tryd.prog 48 #[.pointer (some ⟨b + 5, 0, none⟩), .slice a n cp, .int .i64 room] w fun e w' => e = .returned (.tuple #[.int .i64 X.eaten, .string (Stp.strOf X.told)]) ∧ EFeedQ π b p v X w w' := by
  have hKb := (turn_byte h.byte).2
  obtain ⟨Y, hY⟩ : ∃ Y, Y = encF (M8.oneN ()) room (Per.turnL Per.frL K) L := ⟨_, rfl⟩
  have HXY : Hid (X = ERes.turn Per.tabL Y) := by
    show _ = _
    rw [hY, ← encF_turn π, tab_of_fr h.byte]; exact hX
  have HYb : Hid ((∀ x ∈ Y.told, 0 ≤ x ∧ x < 256) ∧ (∀ x ∈ Y.kept, 0 ≤ x ∧ x < 256)) := by rw [hY]; exact encF_byte room _ L hKb (fun c hc => (hfit c hc).1)
  have hYt : Y.told.length ≤ 1000000 := by
    have := encF_told room (Per.turnL Per.frL K) L
    rw [← hY, Per.turnL_len] at this
    omega
  have H : Hid (EncV π w b p 0 false K v ∧ Y = encF (M8.oneN ()) room (Per.turnL Per.frL K) L ∧ Row .u32 w a L ∧ L.length = n ∧ (∀ b' o', a = some ⟨b', o', none⟩ → ¬ footE b v b') ∧ (∀ c ∈ L, 0 ≤ c ∧ c < 4294967296) ∧ (Per.turnL Per.frL K).length ≤ 1000000) := ⟨h, hY, hrow, hl, ha, hfit, by rw [Per.turnL_len]; omega⟩
  have hc0 := h.outer.c0
  clear h hX hrow hl ha hfit hY hKb hK
  go_enter Tryd.func48, Tryd.ntmps48
  go_wp2_with fail
  refine (M8.eFeed_any (π := ()) b p _ v a n cp L room Y w H.out.1.inn H.out.2.1 H.out.2.2.1 H.out.2.2.2.1 (fun b' o' e hf => H.out.2.2.2.2.1 b' o' e (foot_inE hf)) H.out.2.2.2.2.2.1 hr0 hr1 (by omega) H.out.2.2.2.2.2.2 hp0 hp1).mono ?_
  rintro e w1 ⟨rfl, v1, E1, C1, M1⟩
  have HE : Hid (M8.EncV () w1 b (p + Y.eaten) (if Y.bad = true then 2 else 0) false Y.kept v1 ∧ Chg (fun k _ => M8.footE b v k) w w1 ∧ Mov w v v1) := ⟨E1, C1, M1⟩
  have o1 := H.out.1.outer.chg C1 (fun k j hk => H.out.1.apart hk)
  have HT : Hid (Per.TabAt w1 (b + 1)) := o1.tab
  have hc1 := o1.c1
  clear E1 C1 M1 o1 hc0
  go_wp2_with fail
  refine (Per.text_any (b + 1) (Stp.strOf Y.told) w1 HT.out ?_).mono ?_
  · rw [strOf_size]; exact hYt
  rintro e w2 ⟨rfl, b2⟩
  have HQ := enc_of H.out.1 HE.out.1 HE.out.2.1 HE.out.2.2 HYb.out.2 b2
  rw [text_bytes HYb.out.1]
  clear b2 HE HT hc1
  go_wp2
  go_ret2
  exact ⟨by rw [HXY.out]; rfl, v1, by rw [HXY.out]; exact HQ.1, HQ.2.1, HQ.2.2⟩

set_option maxHeartbeats 4000000 in
set_option maxRecDepth 100000 in
/-- Feed, of an encoder that goes on no more. -/
theorem eFeed_off (b : Nat) (p q : Int) (en : Bool) (K : List Int) (v : Value) (w : World) (h : EncV π w b p q en K v) (hg : goB q en = false) (hK : K.length ≤ 8) :
    Calls Tryd.prog 48 #[.pointer (some ⟨b + 5, 0, none⟩), .slice none 0 0, .int .i64 8] w fun e w' => e = .returned (.tuple #[.int .i64 0, .string (Stp.strOf K)]) ∧ ∃ v', EncV π w' b p q en [] v' ∧ Chg (fun k _ => footE b v k) w w' ∧ Mov w v v' := by
  have H : Hid (EncV π w b p q en K v ∧ goB q en = false ∧ (Per.turnL Per.frL K).length ≤ 8 ∧ (∀ x ∈ Per.turnL Per.frL K, 0 ≤ x ∧ x < 256) ∧ Per.turnL Per.tabL (Per.turnL Per.frL K) = K) := ⟨h, hg, by rw [Per.turnL_len]; exact hK, (turn_byte h.byte).2, tab_of_fr h.byte⟩
  have hc0 := h.outer.c0
  clear h hg hK
  go_enter Tryd.func48, Tryd.ntmps48
  go_wp2_with fail
  refine (M8.eFeed_off (π := ()) b p q en _ v w H.out.1.inn H.out.2.1 H.out.2.2.1).mono ?_
  rintro e w1 ⟨rfl, v1, E1, C1, M1⟩
  have HE : Hid (M8.EncV () w1 b p q en [] v1 ∧ Chg (fun k _ => M8.footE b v k) w w1 ∧ Mov w v v1) := ⟨E1, C1, M1⟩
  have o1 := H.out.1.outer.chg C1 (fun k j hk => H.out.1.apart hk)
  have HT : Hid (Per.TabAt w1 (b + 1)) := o1.tab
  have hc1 := o1.c1
  clear E1 C1 M1 o1 hc0
  go_wp2_with fail
  refine (Per.text_any (b + 1) (Stp.strOf (Per.turnL Per.frL K)) w1 HT.out ?_).mono ?_
  · rw [strOf_size]; have := H.out.2.2.1; omega
  rintro e w2 ⟨rfl, b2⟩
  have HQ := enc_of H.out.1 HE.out.1 HE.out.2.1 HE.out.2.2 (by simp) b2
  rw [text_bytes H.out.2.2.2.1, H.out.2.2.2.2]
  clear b2 HE HT hc1
  go_wp2
  go_ret2
  exact ⟨rfl, v1, HQ.1, HQ.2.1, HQ.2.2⟩
end EB
end Go.Proofs.YtjbgcclbomimiaaDoor
