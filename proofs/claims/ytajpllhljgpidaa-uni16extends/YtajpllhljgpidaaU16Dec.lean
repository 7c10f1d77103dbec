/-
  The decoder of layer 4 in memory, and the contracts of its own calls, as walks over the translated text. The condition: its memory is there and may be written.
-/
import Derived.Test.YtajpllhljgpidaaStp3
import Derived.Test.YtajpllhljgpidaaU16Mth
import Derived.Laws.BitsAll
import Derived.Deep.RegionHeld3
import Derived.Deep.CutBlock
namespace Go.Proofs.Ytajpllhljgpidaa
open Go.ChangeShapes Go.WideShapes Go.ChangeAt Go.RowKit
namespace U16
open Bas Sca Stp Scn Cod
set_option linter.unusedVariables false

/-- A decoder in memory: its order, what it has eaten, its error, has it ended? What has begun, what waits. -/
structure DecV (π : Par) (w : World) (b : Nat) (p q : Int) (en : Bool) (s : St) (l : List Int) (v u : Value) : Prop where
  base : BaseAt w b 0 p q en
  row : RowAt .u32 w b 3 v l
  st : RowAt .u8 w b 5 u s
  par : w.cell? ⟨b, 4, none⟩ = some (.bool π)
  ne : ∀ g, v.ownBlock = some g → u.ownBlock ≠ some g
  good : Good π s
  byte : ∀ x ∈ s, 0 ≤ x ∧ x < 256
/-- Its memory. -/
def footD (b : Nat) (v u : Value) (k : Nat) : Prop := k = b ∨ v.ownBlock = some k ∨ u.ownBlock = some k
variable {π : Par}
theorem DecV.lt {w : World} {b : Nat} {p q : Int} {en : Bool} {s l : List Int} {v u : Value} (h : DecV π w b p q en s l v u) : b < w.heap.size := h.base.lt
theorem DecV.ltV {w : World} {b : Nat} {p q : Int} {en : Bool} {s l : List Int} {v u : Value} (h : DecV π w b p q en s l v u) {g : Nat} (hg : v.ownBlock = some g) : g < w.heap.size := h.row.seg.lt hg
theorem DecV.ltU {w : World} {b : Nat} {p q : Int} {en : Bool} {s l : List Int} {v u : Value} (h : DecV π w b p q en s l v u) {g : Nat} (hg : u.ownBlock = some g) : g < w.heap.size := h.st.seg.lt hg
theorem DecV.foot_lt {w : World} {b : Nat} {p q : Int} {en : Bool} {s l : List Int} {v u : Value} (h : DecV π w b p q en s l v u) {k : Nat} (hk : footD b v u k) : k < w.heap.size := by
  rcases hk with rfl | hk | hk
  · exact h.lt
  · exact h.ltV hk
  · exact h.ltU hk
theorem DecV.chg {S : Nat → Nat → Prop} {w w' : World} {b : Nat} {p q : Int} {en : Bool} {s l : List Int} {v u : Value} (h : DecV π w b p q en s l v u) (hc : Chg S w w') (hS : ∀ k j, footD b v u k → ¬ S k j) : DecV π w' b p q en s l v u :=
  ⟨h.base.chg hc (fun k j hk => hS k j (.inl hk.1)), h.row.chg hc (fun k j hk => hS k j (by rcases hk with hk | hk; exact .inl hk.1; exact .inr (.inl hk))),
   h.st.chg hc (fun k j hk => hS k j (by rcases hk with hk | hk; exact .inl hk.1; exact .inr (.inr hk))), hc.cellAt h.par (hS b 4 (.inl rfl)), h.ne, h.good, h.byte⟩
theorem DecV.below {w w' : World} {b : Nat} {p q : Int} {en : Bool} {s l : List Int} {v u : Value} (h : DecV π w b p q en s l v u) (hb : Below w.heap.size w w') : DecV π w' b p q en s l v u :=
  h.chg (chg_of_below hb (Nat.le_refl _) (fun _ _ => False)) (fun _ _ _ h => h)
/-- Behind a new beginning. -/
theorem DecV.put {w w' : World} {b : Nat} {p q : Int} {en : Bool} {s l s' : List Int} {v u u' vv : Value} {H : Nat} (h : DecV π w b p q en s l v u) (hc : Chg (fun k j => (k = b ∧ j = 5) ∨ u.ownBlock = some k) w w') (h5 : w'.cell? ⟨b, 5, none⟩ = some vv) (hs : Seg .u8 w' u' s') (hm : ∀ g, u'.ownBlock = some g → u.ownBlock = some g ∨ H ≤ g) (hb : b < H) (hv : ∀ g, v.ownBlock = some g → g < H)
    (hg : Good π s') (hby : ∀ x ∈ s', 0 ≤ x ∧ x < 256) : DecV π (w'.setCell ⟨b, 5, none⟩ u') b p q en s' l v u' := by
  have hnb : u'.ownBlock ≠ some b := fun e => by
    rcases hm b e with e | e
    · exact h.st.ne e
    · omega
  have hc2 : Chg (fun k j => (k = b ∧ j = 5) ∨ u.ownBlock = some k) w (w'.setCell ⟨b, 5, none⟩ u') := hc.trans2 (chg_setCell w' b 5 u') (fun _ _ _ h => h) (fun k j _ h => .inl h)
  refine ⟨h.base.chg hc2 (fun k j hk hh => ?_), h.row.chg hc2 (fun k j hk hh => ?_), ⟨World.cell?_setCell_same _ _ _ h5, hc2.freeAt h.st.c h.st.f, hs.chg (chg_setCell w' b 5 u') (fun g o hg hh => hnb (by rw [hg, hh.1])), hnb⟩, hc2.cellAt h.par (fun hh => ?_), fun g hg hu => ?_, hg, hby⟩
  · rcases hh with hh | hh
    · have := hk.2; omega
    · exact h.st.ne (by rw [hh, hk.1])
  · rcases hh with hh | hh
    · rcases hk with hk | hk
      · omega
      · exact h.row.ne (by rw [hk, hh.1])
    · rcases hk with hk | hk
      · exact h.st.ne (by rw [hh, hk.1])
      · exact h.ne k hk hh
  · rcases hh with hh | hh
    · omega
    · exact h.st.ne hh
  · rcases hm g hu with e | e
    · exact h.ne g hg e
    · have := hv g hg; omega
/-- Behind what is told more. -/
theorem DecV.hold {w w' : World} {b : Nat} {p q : Int} {en : Bool} {s l l' : List Int} {v v' u : Value} (h : DecV π w b p q en s l v u) (hr : RowAt .u32 w' b 3 v' l') (hc : Chg (footR b 3 v) w w') (hm : Mov w v v') : DecV π w' b p q en s l' v' u := by
  refine ⟨h.base.chg hc (fun k j hk hh => ?_), hr, h.st.chg hc (fun k j hk hh => ?_), hc.cellAt h.par (fun hh => ?_), fun g hg hu => ?_, h.good, h.byte⟩
  · rcases hh with hh | hh
    · have := hk.2; omega
    · exact h.row.ne (by rw [hh, hk.1])
  · rcases hk with hk | hk
    · rcases hh with hh | hh
      · omega
      · exact h.row.ne (by rw [hh, hk.1])
    · rcases hh with hh | hh
      · exact h.st.ne (by rw [hk, hh.1])
      · exact h.ne k hh hk
  · rcases hh with hh | hh
    · omega
    · exact h.row.ne hh
  · rcases hm g hg with e | e
    · exact h.ne g e hu
    · have := h.ltU hu; omega
/-- Behind another place, error, end. -/
theorem DecV.rebase {w w' : World} {b : Nat} {p q p' q' : Int} {en en' : Bool} {s l : List Int} {v u : Value} (h : DecV π w b p q en s l v u) (hb : BaseAt w' b 0 p' q' en') (hc : Chg (footB b 0) w w') : DecV π w' b p' q' en' s l v u := by
  refine ⟨hb, h.row.chg hc (fun k j hk hh => ?_), h.st.chg hc (fun k j hk hh => ?_), hc.cellAt h.par (fun hh => ?_), h.ne, h.good, h.byte⟩
  · rcases hk with hk | hk
    · have := hh.2; omega
    · exact h.row.ne (by rw [hk, hh.1])
  · rcases hk with hk | hk
    · have := hh.2; omega
    · exact h.st.ne (by rw [hk, hh.1])
  · have := hh.2; omega
theorem footD_nil {b k : Nat} (h : footD b (.slice none 0 0) (.slice none 0 0) k) : k = b := by
  rcases h with h | h | h
  · exact h
  · simp [Value.ownBlock] at h
  · simp [Value.ownBlock] at h
/-- What has begun, and what is told, behind a byte more. -/
def stN (π : Par) (s : St) (x : Int) : St := match stepU π s x with | none => s | some y => y.1
def toldN (π : Par) (s : St) (x : Int) : List Int := match stepU π s x with | none => [] | some y => y.2

theorem newD_any (π : Par) (w : World) {N : Nat} (hN : N = w.heap.size) :
    Calls Try.prog 11 #[.bool π] w fun e w' => e = .returned (.pointer (some ⟨N, 0, none⟩)) ∧ DecV π w' N 0 0 false (st0 π) [] (.slice none 0 0) (.slice none 0 0) ∧ w'.heap.size = N + 1 ∧ Below N w w' := by
  subst hN
  go_enter Try.func11, Try.ntmps11
  go_wp2
  go_ret
  refine ⟨rfl, ⟨⟨?_, ?_, ?_, ?_, ?_, ?_⟩, ⟨?_, ?_, seg_nil _ _, by simp [Value.ownBlock]⟩, ⟨?_, ?_, seg_nil _ _, by simp [Value.ownBlock]⟩, ?_, fun g hg => by simp [Value.ownBlock] at hg, good_nil π, by simp [st0]⟩, by simp, (Below.refl _ _).alloc (Nat.le_refl _) _⟩
  all_goals first | (rw [World.cell?_alloc_new]; rfl) | simp
theorem andNot10 (u : Int) (h0 : 0 ≤ u) (h1 : u < 4294967296) : bits .andNot .u32 u 1023 = u / 1024 * 1024 := by
  obtain ⟨m, rfl⟩ := Int.eq_ofNat_of_zero_le h0
  have := u32_andNot_nat m 1023 (by omega) (by omega)
  rw [show ((1023 : Nat) : Int) = 1023 from rfl] at this
  rw [this, show 4294967295 - 1023 = 4294966272 from rfl, nat_hi32_10]
  omega
theorem and10 (u : Int) (h0 : 0 ≤ u) (h1 : u < 4294967296) : bits .and .u32 u 1023 = u % 1024 := by
  obtain ⟨m, rfl⟩ := Int.eq_ofNat_of_zero_le h0
  have := u32_and_nat m 1023 (by omega) (by omega)
  rw [show ((1023 : Nat) : Int) = 1023 from rfl] at this
  rw [this, nat_mask10]
  omega
theorem or_join (i : Nat) (x y : Int) (hi : i ≤ 32) (hx0 : 0 ≤ x) (hx : x % 2 ^ i = 0) (hx1 : x < 4294967296) (hy0 : 0 ≤ y) (hy : y < 2 ^ i) (hy1 : y < 4294967296) : bits .or .u32 x y = x + y :=
  bits_join .u32 32 (by decide) (fun n h0 h1 => by rw [IntKind.wrap_u32]; omega) i x y hx0 hx hx1 hy0 hy hy1
set_option maxHeartbeats 1000000 in
theorem second_any (u : Int) (w : World) (h0 : 0 ≤ u) (h1 : u < 4294967296) :
    Calls Try.prog 62 #[.int .u32 u] w fun e w' => e = .returned (.bool (isLo u)) ∧ w' = w := by
  have h2 : (bits .andNot .u32 u 1023 == 56320) = isLo u := by
    rw [andNot10 u h0 h1]
    by_cases h : isLo u = true
    · rw [h]; rw [isLo_iff] at h; simp; omega
    · have h' : isLo u = false := by simpa using h
      rw [h']; rw [isLo_no] at h'; simp; omega
  have H2 : Hid ((bits .andNot .u32 u 1023 == 56320) = isLo u) := h2
  clear h2
  go_enter Try.func62, Try.ntmps62
  go_wp2
  go_ret
  exact ⟨ret_bool H2.out, rfl⟩
set_option maxHeartbeats 1000000 in
theorem first_any (u : Int) (w : World) (h0 : 0 ≤ u) (h1 : u < 4294967296) :
    Calls Try.prog 64 #[.int .u32 u] w fun e w' => e = .returned (.bool (isUp u)) ∧ w' = w := by
  have h2 : (bits .andNot .u32 u 1023 == 55296) = isUp u := by
    rw [andNot10 u h0 h1]
    by_cases h : isUp u = true
    · rw [h]; rw [isUp_iff] at h; simp; omega
    · have h' : isUp u = false := by simpa using h
      rw [h']; rw [isUp_no] at h'; simp; omega
  have H2 : Hid ((bits .andNot .u32 u 1023 == 55296) = isUp u) := h2
  clear h2
  go_enter Try.func64, Try.ntmps64
  go_wp2
  go_ret
  exact ⟨ret_bool H2.out, rfl⟩
set_option maxHeartbeats 1000000 in
theorem higher_any (n : Nat) (w : World) :
    Calls Try.prog 61 #[.agg #[.bool π], .int .i64 n] w fun e w' => e = .returned (.bool (hiAt π n)) ∧ Below w.heap.size w w' := by
  have h2 : (((n : Int) % 2 == 0) == π) = hiAt π n := by
    unfold hiAt
    congr 1
    by_cases h : n % 2 = 0
    · rw [decide_eq_true h]; simp; omega
    · rw [decide_eq_false h]; simp; omega
  have H2 : Hid ((((n : Int) % 2 == 0) == π) = hiAt π n) := h2
  clear h2
  go_enter Try.func61, Try.ntmps61
  go_wp2
  go_ret
  exact ⟨ret_bool H2.out, (Below.refl _ _).alloc (Nat.le_refl _) _⟩
theorem ret_u32 {a b : Int} (h : a = b) : Ending.returned (.int .u32 a) = .returned (.int .u32 b) := by rw [h]
set_option maxHeartbeats 1000000 in
theorem unit_any (x y : Int) (w : World) (hx : 0 ≤ x ∧ x < 256) (hy : 0 ≤ y ∧ y < 256) :
    Calls Try.prog 63 #[.agg #[.bool π], .int .u8 x, .int .u8 y] w fun e w' => e = .returned (.int .u32 (unitN π x y)) ∧ Below w.heap.size w w' := by
  cases π
  · have H2 : Hid (bits .or .u32 (y * 256) x = unitN false x y) := by
      show _ = _
      rw [or_join 8 _ _ (by decide) (by omega) (by omega) (by omega) (by omega) (by omega) (by omega)]; simp [unitN]
    go_enter Try.func63, Try.ntmps63
    go_wp2
    go_ret
    exact ⟨ret_u32 H2.out, (Below.refl _ _).alloc (Nat.le_refl _) _⟩
  · have H2 : Hid (bits .or .u32 (x * 256) y = unitN true x y) := by
      show _ = _
      rw [or_join 8 _ _ (by decide) (by omega) (by omega) (by omega) (by omega) (by omega) (by omega)]; simp [unitN]
    go_enter Try.func63, Try.ntmps63
    go_wp2
    go_ret
    exact ⟨ret_u32 H2.out, (Below.refl _ _).alloc (Nat.le_refl _) _⟩
set_option maxHeartbeats 2000000 in
theorem fits_any (b : Nat) (p q : Int) (en : Bool) (s l : List Int) (v u : Value) (x : Int) (w : World) (h : DecV π w b p q en s l v u) (hx : 0 ≤ x ∧ x < 256) :
    Calls Try.prog 51 #[.pointer (some ⟨b, 0, none⟩), .int .u8 x] w fun e w' => e = .returned (.bool (fitsN π s x)) ∧ Below w.heap.size w w' := by
  have hc4 := h.par
  have hc5 := h.st.c
  obtain ⟨a, c, hv, -⟩ := h.st.seg.form
  rw [hv] at hc5
  obtain ⟨n, hn⟩ : ∃ n, s.length = n := ⟨_, rfl⟩
  rw [hn] at hc5
  have HN : Hid (s.length = n) := hn
  clear h hv hn
  go_enter Try.func51, Try.ntmps51
  go_wp2_with fail
  refine (higher_any n w).mono ?_
  rintro e w2 ⟨rfl, b2⟩
  have HB : Hid (Below w.heap.size w w2) := b2
  clear b2
  obtain ⟨t, ht⟩ : ∃ t, hiAt π n = t := ⟨_, rfl⟩
  rw [ht]
  have HT : Hid (hiAt π n = t) := ht
  clear ht
  cases t with
  | false =>
    go_wp2
    go_ret
    exact ⟨ret_bool (by rw [fitsN, HN.out, HT.out]; rfl), HB.out⟩
  | true =>
    have hd : decide ((n : Int) ≥ 2) = decide (2 ≤ n) := by
      by_cases h : 2 ≤ n
      · rw [decide_eq_true h, decide_eq_true (show (n : Int) ≥ 2 by omega)]
      · rw [decide_eq_false h, decide_eq_false (show ¬ (n : Int) ≥ 2 by omega)]
    go_wp2_with fail
    refine (second_any (x * 256) w2 (by omega) (by omega)).mono ?_
    rintro e w3 ⟨rfl, rfl⟩
    go_wp2
    go_ret
    exact ⟨ret_bool (by rw [fitsN, HN.out, HT.out]; simp), HB.out⟩
end U16
end Go.Proofs.Ytajpllhljgpidaa
