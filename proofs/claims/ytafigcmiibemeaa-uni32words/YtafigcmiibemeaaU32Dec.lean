/-
  The decoder of layer 5 in memory, and the contracts of its order's calls, as walks over the translated text. The condition: its memory is there and may be written.
-/
import Derived.Test.YtafigcmiibemeaaStp3
import Derived.Test.YtafigcmiibemeaaSca1
import Derived.Test.YtafigcmiibemeaaU32Mth
import Derived.Laws.BitsAll
import Derived.Deep.RegionHeld3
import Derived.Deep.CutBlock
namespace Go.Proofs.Ytafigcmiibemeaa
open Go.ChangeShapes Go.WideShapes Go.ChangeAt Go.RowKit
namespace U32
open Bas Sca Stp Scn Cod
set_option linter.unusedVariables false

/-- A decoder in memory: its order, what it has eaten, its error, has it ended? What has begun (its number, and how many bytes), what waits. -/
structure DecV (π : Par) (w : World) (b : Nat) (p q : Int) (en : Bool) (s : St) (l : List Int) (v u : Value) : Prop where
  base : BaseAt w b 0 p q en
  row : RowAt .u32 w b 3 v l
  par : w.cell? ⟨b, 4, none⟩ = some (.bool π)
  num : w.cell? ⟨b, 5, none⟩ = some (.int .u32 (numN π s))
  cnt : w.cell? ⟨b, 6, none⟩ = some (.int .i64 s.length)
  f5 : w.frozen? ⟨b, 5, none⟩ = false
  f6 : w.frozen? ⟨b, 6, none⟩ = false
  u0 : u = .slice none 0 0
  good : Good π s
  byte : ∀ x ∈ s, 0 ≤ x ∧ x < 256
/-- Its memory. -/
def footD (b : Nat) (v u : Value) (k : Nat) : Prop := k = b ∨ v.ownBlock = some k ∨ u.ownBlock = some k
variable {π : Par}
theorem DecV.lt {w : World} {b : Nat} {p q : Int} {en : Bool} {s l : List Int} {v u : Value} (h : DecV π w b p q en s l v u) : b < w.heap.size := h.base.lt
theorem DecV.ltV {w : World} {b : Nat} {p q : Int} {en : Bool} {s l : List Int} {v u : Value} (h : DecV π w b p q en s l v u) {g : Nat} (hg : v.ownBlock = some g) : g < w.heap.size := h.row.seg.lt hg
theorem DecV.ltU {w : World} {b : Nat} {p q : Int} {en : Bool} {s l : List Int} {v u : Value} (h : DecV π w b p q en s l v u) {g : Nat} (hg : u.ownBlock = some g) : g < w.heap.size := by
  rw [h.u0] at hg; simp [Value.ownBlock] at hg
theorem DecV.foot_lt {w : World} {b : Nat} {p q : Int} {en : Bool} {s l : List Int} {v u : Value} (h : DecV π w b p q en s l v u) {k : Nat} (hk : footD b v u k) : k < w.heap.size := by
  rcases hk with rfl | hk | hk
  · exact h.lt
  · exact h.ltV hk
  · exact h.ltU hk
theorem DecV.chg {S : Nat → Nat → Prop} {w w' : World} {b : Nat} {p q : Int} {en : Bool} {s l : List Int} {v u : Value} (h : DecV π w b p q en s l v u) (hc : Chg S w w') (hS : ∀ k j, footD b v u k → ¬ S k j) : DecV π w' b p q en s l v u :=
  ⟨h.base.chg hc (fun k j hk => hS k j (.inl hk.1)), h.row.chg hc (fun k j hk => hS k j (by rcases hk with hk | hk; exact .inl hk.1; exact .inr (.inl hk))),
   hc.cellAt h.par (hS b 4 (.inl rfl)), hc.cellAt h.num (hS b 5 (.inl rfl)), hc.cellAt h.cnt (hS b 6 (.inl rfl)), hc.freeAt h.num h.f5, hc.freeAt h.cnt h.f6, h.u0, h.good, h.byte⟩
theorem DecV.below {w w' : World} {b : Nat} {p q : Int} {en : Bool} {s l : List Int} {v u : Value} (h : DecV π w b p q en s l v u) (hb : Below w.heap.size w w') : DecV π w' b p q en s l v u :=
  h.chg (chg_of_below hb (Nat.le_refl _) (fun _ _ => False)) (fun _ _ _ h => h)
/-- Behind a new beginning. -/
theorem DecV.put {w : World} {b : Nat} {p q : Int} {en : Bool} {s l s' : List Int} {v u : Value} {m : Int} {n : Nat} (h : DecV π w b p q en s l v u) (hm : m = numN π s') (hn : n = s'.length)
    (hg : Good π s') (hby : ∀ x ∈ s', 0 ≤ x ∧ x < 256) : DecV π ((w.setCell ⟨b, 5, none⟩ (.int .u32 m)).setCell ⟨b, 6, none⟩ (.int .i64 n)) b p q en s' l v u := by
  have hc1 : Chg (fun k j => k = b ∧ (j = 5 ∨ j = 6)) w (w.setCell ⟨b, 5, none⟩ (.int .u32 m)) := (chg_setCell w b 5 _).mono (fun k j _ h => ⟨h.1, .inl h.2⟩)
  have hc2 : Chg (fun k j => k = b ∧ (j = 5 ∨ j = 6)) w ((w.setCell ⟨b, 5, none⟩ (.int .u32 m)).setCell ⟨b, 6, none⟩ (.int .i64 n)) := hc1.trans2 (chg_setCell _ b 6 _) (fun _ _ _ h => h) (fun k j _ h => ⟨h.1, .inr h.2⟩)
  have h5 : (w.setCell ⟨b, 5, none⟩ (.int .u32 m)).cell? ⟨b, 5, none⟩ = some (.int .u32 m) := World.cell?_setCell_same _ _ _ h.num
  have h6 : (w.setCell ⟨b, 5, none⟩ (.int .u32 m)).cell? ⟨b, 6, none⟩ = some (.int .i64 s.length) := (chg_setCell w b 5 _).cellAt h.cnt (fun hh => by have := hh.2; omega)
  refine ⟨h.base.chg hc2 (fun k j hk hh => ?_), h.row.chg hc2 (fun k j hk hh => ?_), hc2.cellAt h.par (fun hh => by have := hh.2; omega), ?_, ?_, hc2.freeAt h.num h.f5, hc2.freeAt h.cnt h.f6, h.u0, hg, hby⟩
  · have := hk.2; have := hh.2; omega
  · rcases hk with hk | hk
    · have := hh.2; omega
    · exact h.row.ne (by rw [hk, hh.1])
  · rw [← hm]; exact (chg_setCell _ b 6 _).cellAt h5 (fun hh => by have := hh.2; omega)
  · rw [← hn]; exact World.cell?_setCell_same _ _ _ h6
theorem put_chg (w : World) (b : Nat) (x y : Value) : Chg (fun k _ => k = b) w ((w.setCell ⟨b, 5, none⟩ x).setCell ⟨b, 6, none⟩ y) :=
  (chg_setCell w b 5 x).trans2 (chg_setCell _ b 6 y) (fun _ _ _ h => h.1) (fun k j _ h => h.1)
/-- Behind what is told more. -/
theorem DecV.hold {w w' : World} {b : Nat} {p q : Int} {en : Bool} {s l l' : List Int} {v v' u : Value} (h : DecV π w b p q en s l v u) (hr : RowAt .u32 w' b 3 v' l') (hc : Chg (footR b 3 v) w w') (hm : Mov w v v') : DecV π w' b p q en s l' v' u := by
  refine ⟨h.base.chg hc (fun k j hk hh => ?_), hr, hc.cellAt h.par (fun hh => ?_), hc.cellAt h.num (fun hh => ?_), hc.cellAt h.cnt (fun hh => ?_), hc.freeAt h.num h.f5, hc.freeAt h.cnt h.f6, h.u0, h.good, h.byte⟩
  · rcases hh with hh | hh
    · have := hk.2; omega
    · exact h.row.ne (by rw [hh, hk.1])
  · rcases hh with hh | hh
    · omega
    · exact h.row.ne hh
  · rcases hh with hh | hh
    · omega
    · exact h.row.ne hh
  · rcases hh with hh | hh
    · omega
    · exact h.row.ne hh
/-- Behind another place, error, end. -/
theorem DecV.rebase {w w' : World} {b : Nat} {p q p' q' : Int} {en en' : Bool} {s l : List Int} {v u : Value} (h : DecV π w b p q en s l v u) (hb : BaseAt w' b 0 p' q' en') (hc : Chg (footB b 0) w w') : DecV π w' b p' q' en' s l v u := by
  refine ⟨hb, h.row.chg hc (fun k j hk hh => ?_), hc.cellAt h.par (fun hh => ?_), hc.cellAt h.num (fun hh => ?_), hc.cellAt h.cnt (fun hh => ?_), hc.freeAt h.num h.f5, hc.freeAt h.cnt h.f6, h.u0, h.good, h.byte⟩
  · rcases hk with hk | hk
    · have := hh.2; omega
    · exact h.row.ne (by rw [hk, hh.1])
  · have := hh.2; omega
  · have := hh.2; omega
  · have := hh.2; omega
theorem footD_nil {b k : Nat} (h : footD b (.slice none 0 0) (.slice none 0 0) k) : k = b := by
  rcases h with h | h | h
  · exact h
  · simp [Value.ownBlock] at h
  · simp [Value.ownBlock] at h
/-- What has begun, and what is told, behind a byte more. -/
def stN (π : Par) (s : St) (x : Int) : St := match stepU π s x with | none => s | some y => y.1
def toldN (π : Par) (s : St) (x : Int) : List Int := match stepU π s x with | none => [] | some y => y.2

theorem newD_any (π : Par) (w : World) {N : Nat} (hN : N = w.heap.size) :
    Calls Try.prog 11 #[.bool π] w fun e w' => e = .returned (.pointer (some ⟨N, 0, none⟩)) ∧ DecV π w' N 0 0 false (st0 π) [] (.slice none 0 0) (.slice none 0 0) ∧ w'.heap.size = N + 1 ∧ Below N w w' := by
  subst hN
  go_enter Try.func11, Try.ntmps11
  go_wp2
  go_ret
  refine ⟨rfl, ⟨⟨?_, ?_, ?_, ?_, ?_, ?_⟩, ⟨?_, ?_, seg_nil _ _, by simp [Value.ownBlock]⟩, ?_, ?_, ?_, ?_, ?_, rfl, good_nil π, by simp [st0]⟩, by simp, (Below.refl _ _).alloc (Nat.le_refl _) _⟩
  all_goals first | (rw [World.cell?_alloc_new]; rfl) | simp
theorem or_join (i : Nat) (x y : Int) (hi : i ≤ 32) (hx0 : 0 ≤ x) (hx : x % 2 ^ i = 0) (hx1 : x < 4294967296) (hy0 : 0 ≤ y) (hy : y < 2 ^ i) (hy1 : y < 4294967296) : bits .or .u32 x y = x + y :=
  bits_join .u32 32 (by decide) (fun n h0 h1 => by rw [IntKind.wrap_u32]; omega) i x y hx0 hx hx1 hy0 hy hy1
theorem or_turn (x y : Int) : bits .or .u32 x y = bits .or .u32 y x := by simp only [bits, BitVec.or_comm]
theorem or_joinL (i : Nat) (x y : Int) (hi : i ≤ 32) (hx0 : 0 ≤ x) (hx : x % 2 ^ i = 0) (hx1 : x < 4294967296) (hy0 : 0 ≤ y) (hy : y < 2 ^ i) (hy1 : y < 4294967296) : bits .or .u32 y x = y + x := by
  rw [or_turn, or_join i x y hi hx0 hx hx1 hy0 hy hy1]; omega
/-- From which bit on. -/
def shN (π : Par) (n : Nat) : Int := if π = true then 8 * (3 - (n : Int)) else 8 * (n : Int)
theorem shN_bd (π : Par) {n : Nat} (h : n ≤ 3) : 0 ≤ shN π n ∧ shN π n ≤ 24 := by unfold shN; split <;> omega
theorem sh_wt (π : Par) {n : Nat} (h : n ≤ 3) : (2 : Int) ^ (shN π n).toNat = wt π n := by
  have : n = 0 ∨ n = 1 ∨ n = 2 ∨ n = 3 := by omega
  rcases this with rfl | rfl | rfl | rfl <;> cases π <;> rfl
theorem numN_bd {π : Par} {s : List Int} (hl : s.length ≤ 4) (hb : ∀ x ∈ s, 0 ≤ x ∧ x < 256) : 0 ≤ numN π s ∧ numN π s < 4294967296 := by
  match s, hl with
  | [], _ => simp [numN, numA]
  | [a], _ => have := hb a (by simp); rw [num1]; split <;> omega
  | [a, b], _ => have := hb a (by simp); have := hb b (by simp); rw [num2]; split <;> omega
  | [a, b, c], _ => have := hb a (by simp); have := hb b (by simp); have := hb c (by simp); rw [num3]; split <;> omega
  | [a, b, c, d], _ => have := hb a (by simp); have := hb b (by simp); have := hb c (by simp); have := hb d (by simp); rw [num4]; split <;> omega
/-- A byte more, by or. -/
theorem or_byte {π : Par} {s : List Int} {x : Int} (hl : s.length ≤ 3) (hb : ∀ y ∈ s, 0 ≤ y ∧ y < 256) (hx : 0 ≤ x ∧ x < 256) : bits .or .u32 (numN π s) (x * wt π s.length) = numN π (s ++ [x]) := by
  rw [numN_snoc]
  match s, hl with
  | [], _ =>
    show bits .or .u32 0 (x * wt π 0) = 0 + x * wt π 0
    cases π
    · exact or_joinL 0 _ _ (by decide) (by simp [wt]; omega) (by omega) (by simp [wt]; omega) (by omega) (by omega) (by omega)
    · exact or_joinL 0 _ _ (by decide) (by simp [wt]; omega) (by omega) (by simp [wt]; omega) (by omega) (by omega) (by omega)
  | [a], _ =>
    have h1 := hb a (by simp)
    rw [num1]
    cases π
    · simp only [Bool.false_eq_true, if_false]; exact or_joinL 8 _ _ (by decide) (by simp [wt]; omega) (by simp [wt]) (by simp [wt]; omega) (by omega) (by omega) (by omega)
    · simp only [if_true]; exact or_join 24 _ _ (by decide) (by omega) (by omega) (by omega) (by simp [wt]; omega) (by simp [wt]; omega) (by simp [wt]; omega)
  | [a, b], _ =>
    have h1 := hb a (by simp); have h2 := hb b (by simp)
    rw [num2]
    cases π
    · simp only [Bool.false_eq_true, if_false]; exact or_joinL 16 _ _ (by decide) (by simp [wt]; omega) (by simp [wt]) (by simp [wt]; omega) (by omega) (by omega) (by omega)
    · simp only [if_true]; exact or_join 16 _ _ (by decide) (by omega) (by omega) (by omega) (by simp [wt]; omega) (by simp [wt]; omega) (by simp [wt]; omega)
  | [a, b, c], _ =>
    have h1 := hb a (by simp); have h2 := hb b (by simp); have h3 := hb c (by simp)
    rw [num3]
    cases π
    · simp only [Bool.false_eq_true, if_false]; exact or_joinL 24 _ _ (by decide) (by simp [wt]; omega) (by simp [wt]) (by simp [wt]; omega) (by omega) (by omega) (by omega)
    · simp only [if_true]; exact or_join 8 _ _ (by decide) (by omega) (by omega) (by omega) (by simp [wt]; omega) (by simp [wt]; omega) (by simp [wt]; omega)
/-- A full plane, by or. -/
theorem or_plane {π : Par} {s : List Int} (hl : 1 ≤ s.length) (hp : hasP π s.length = false) (hb : ∀ y ∈ s, 0 ≤ y ∧ y < 256) : bits .or .u32 (numN π s) 65536 = numN π s + 65536 := by
  match s, hl with
  | [a], _ =>
    have h1 := hb a (by simp)
    rw [num1]
    cases π
    · simp only [Bool.false_eq_true, if_false]; exact or_joinL 16 _ _ (by decide) (by omega) (by omega) (by omega) (by omega) (by omega) (by omega)
    · simp only [if_true]; exact or_join 24 _ _ (by decide) (by omega) (by omega) (by omega) (by omega) (by omega) (by omega)
  | [a, b], _ =>
    have h1 := hb a (by simp); have h2 := hb b (by simp)
    rw [num2]
    cases π
    · simp only [Bool.false_eq_true, if_false]; exact or_joinL 16 _ _ (by decide) (by omega) (by omega) (by omega) (by omega) (by omega) (by omega)
    · simp [hasP] at hp
  | a :: b :: c :: r, _ => cases π <;> simp [hasP] at hp <;> omega
theorem ret_i64 {a b : Int} (h : a = b) : Ending.returned (.int .i64 a) = .returned (.int .i64 b) := by rw [h]
set_option maxHeartbeats 1000000 in
theorem shift_any (n : Nat) (w : World) (hn : n ≤ 3) :
    Calls Try.prog 46 #[.agg #[.bool π], .int .i64 n] w fun e w' => e = .returned (.int .i64 (shN π n)) ∧ Below w.heap.size w w' := by
  cases π
  · go_enter Try.func46, Try.ntmps46
    go_wp2
    go_ret
    exact ⟨ret_i64 (by simp [shN]), (Below.refl _ _).alloc (Nat.le_refl _) _⟩
  · go_enter Try.func46, Try.ntmps46
    go_wp2
    go_ret
    exact ⟨ret_i64 (by simp [shN]), (Below.refl _ _).alloc (Nat.le_refl _) _⟩
set_option maxHeartbeats 1000000 in
theorem hasP_any (n : Nat) (w : World) :
    Calls Try.prog 54 #[.agg #[.bool π], .int .i64 n] w fun e w' => e = .returned (.bool (hasP π n)) ∧ Below w.heap.size w w' := by
  have hd : ∀ m : Nat, decide ((n : Int) ≥ (m : Int)) = decide (m ≤ n) := fun m => by
    by_cases h : m ≤ n
    · rw [decide_eq_true h, decide_eq_true (show (n : Int) ≥ m by omega)]
    · rw [decide_eq_false h, decide_eq_false (show ¬ (n : Int) ≥ m by omega)]
  have H2 : Hid (decide ((n : Int) ≥ 2) = decide (2 ≤ n)) := hd 2
  have H3 : Hid (decide ((n : Int) ≥ 3) = decide (3 ≤ n)) := hd 3
  clear hd
  cases π
  · go_enter Try.func54, Try.ntmps54
    go_wp2
    go_ret
    exact ⟨ret_bool (by simpa [hasP] using H3.out), (Below.refl _ _).alloc (Nat.le_refl _) _⟩
  · go_enter Try.func54, Try.ntmps54
    go_wp2
    go_ret
    exact ⟨ret_bool (by simpa [hasP] using H2.out), (Below.refl _ _).alloc (Nat.le_refl _) _⟩
set_option maxHeartbeats 2000000 in
theorem begins_any (s : List Int) (m : Int) (n : Nat) (w : World) (hm : m = numN π s) (hn : n = s.length) (hl : 1 ≤ s.length ∧ s.length ≤ 4) (hb : ∀ x ∈ s, 0 ≤ x ∧ x < 256) :
    Calls Try.prog 47 #[.agg #[.bool π], .int .u32 m, .int .i64 n] w fun e w' => e = .returned (.bool (begN π s)) ∧ Below w.heap.size w w' := by
  have HB : Hid (Below w.heap.size w (w.alloc (.cells #[.bool π] 45))) := (Below.refl _ _).alloc (Nat.le_refl _) _
  have hnb := numN_bd (π := π) hl.2 hb
  rw [← hm] at hnb
  obtain ⟨t, ht⟩ : ∃ t, hasP π n = t := ⟨_, rfl⟩
  have HG : Hid (begN π s = isB (m + if t = true then 0 else 65536)) := by show _ = _; unfold begN; rw [← hm, ← hn, ht]
  cases t with
  | true =>
    have HT : Hid (hasP π n = true) := ht
    clear ht hm hn hl hb
    go_enter Try.func47, Try.ntmps47
    go_wp2_with fail
    refine (hasP_any n _).mono ?_
    rintro e w2 ⟨rfl, b2⟩
    rw [HT.out]
    go_wp2_with fail
    refine (sIs_any m _).mono ?_
    rintro e w3 ⟨rfl, rfl⟩
    go_wp2
    go_ret
    exact ⟨ret_bool (by rw [HG.out]; simp), below_two HB.out b2⟩
  | false =>
    have HT : Hid (hasP π n = false) := ht
    have ho : bits .or .u32 m 65536 = m + 65536 := by rw [hm]; exact or_plane hl.1 (by rw [← hn]; exact ht) hb
    clear ht hm hn hl hb
    go_enter Try.func47, Try.ntmps47
    go_wp2_with fail
    refine (hasP_any n _).mono ?_
    rintro e w2 ⟨rfl, b2⟩
    rw [HT.out]
    go_wp2_with fail
    refine (sIs_any (m + 65536) _).mono ?_
    rintro e w3 ⟨rfl, rfl⟩
    go_wp2
    go_ret
    exact ⟨ret_bool (by rw [HG.out]; simp), below_two HB.out b2⟩
end U32
end Go.Proofs.Ytafigcmiibemeaa
