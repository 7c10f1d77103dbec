/-
  Contracts of scalar's Join and of the library's Concat and Grow that it calls, as walks over the translated text. The condition: the slices lead to the cells of the lists, which have at most a million numbers in all.
-/
import Derived.Test.YtngbkcfiofdelaaScaO
import Derived.Test.YtngbkcfiofdelaaOwn
namespace Go.Proofs.Ytngbkcfiofdelaa
open Go.ChangeShapes Go.WideShapes Go.ChangeAt Go.RowKit
namespace Sca
open Bas
set_option linter.unusedVariables false

theorem info_u32 : (Try.prog.info? 22).map (fun i => (i.zero, i.size, i.bytes)) = some (some (.int .u32 0), 1, 4) := by kernel_rfl

set_option maxHeartbeats 1000000 in
theorem grow_nil (n : Nat) (w : World) (hn : n ≤ 1000000) :
    Calls Try.prog 26 #[.slice none 0 0, .int .i64 n] w fun e w' => ∃ v, e = .returned v ∧ Own .u32 22 w' w.heap.size v [] ∧ Below w.heap.size w w' := by
  by_cases h0 : n = 0
  · subst h0
    go_enter Try.func26, Try.ntmps26
    go_wp2
    go_ret
    exact ⟨_, rfl, Own.nil _ _ _ _, Below.refl _ _⟩
  · have hp : (0 : Int) < (n : Int) := by omega
    obtain ⟨i, hi, hz, hs, hb⟩ := info_parts info_u32
    have H : Hid (∀ ty (w : World), (Builtin.append_ #[26, 3] ty #[.slice none 0 0, .int .i64 n]).run Try.prog w = _) := fun ty w => Lib.run_append_nil_zeros (P := Try.prog) w 26 3 ty 22 i (.int .u32 0) .i64 .i64 Try.underlying26 Try.underlying3 hi hz n (by omega) (by omega) (by omega) (by rw [hb]; omega)
    go_enter Try.func26, Try.ntmps26
    go_wp2_with (at_builtin; refine Lib.wpList_append_run _ rfl _ _ _ _ rfl _ _ rfl rfl _ _ (H.out _ _) ?_)
    go_ret
    refine ⟨_, rfl, ?_, ((Below.refl _ _).alloc (Nat.le_refl _) _).drew⟩
    have hg := grownCap_ge w n 0 22
    have hm := grownCap_le_maxLen w n 0 22 (by unfold maxLen; omega)
    have h1 := World.ownsRow_made (base := w.heap.size) (e := 22) (size := 1) w (Builtin.zeroCells #[Value.int IntKind.u32 0] n ++ Builtin.zeroCells #[Value.int IntKind.u32 0] (grownCap w n 0 22 - n)) (grownCap w n 0 22) (Nat.le_refl _) hm (by simp [size_zeroCells]; omega)
    exact h1

/-- How many numbers the first lists have. -/
def lens (ll : List (List Int)) (k : Nat) : Nat := (ll.take k).flatten.length
theorem lens_succ (ll : List (List Int)) (k : Nat) (h : k < ll.length) : lens ll (k + 1) = lens ll k + (nthL ll k).length := by
  unfold lens; rw [flatten_take_succ ll k h, List.length_append]
theorem lens_le (ll : List (List Int)) (k : Nat) : lens ll k ≤ ll.flatten.length := flatten_take_le ll k

set_option maxHeartbeats 800000 in
theorem concat_any (a : Option Addr) (n c : Nat) (ll : List (List Int)) (w : World) (hr : Rows2 .u32 w a ll) (hl : ll.length = n) (hsum : ll.flatten.length ≤ 1000000) (hm : n ≤ maxLen) :
    Calls Try.prog 24 #[.slice a n c] w fun e w' => ∃ v, e = .returned v ∧ Own .u32 22 w' w.heap.size v ll.flatten ∧ Below w.heap.size w w' := by
  unfold maxLen at hm
  obtain ⟨b, off, ha, hc⟩ := hr
  have HN : Hid (ll ≠ [] → a = some ⟨b, off, none⟩) := ha
  have HC : Hid (∀ i, i < ll.length → ∃ ai ci, w.cell? ⟨b, off + i, none⟩ = some (.slice ai (nthL ll i).length ci) ∧ Row .u32 w ai (nthL ll i) ∧ (ai = none → ci = 0) ∧ (nthL ll i).length ≤ maxLen) := hc
  have HL : Hid (ll.length = n) := hl
  clear ha hc hl
  go_enter Try.func24, Try.ntmps24
  go_wp2
  go_loop [3, 11] (fun s i => ∃ k : Nat, k ≤ n ∧ i = .int .i64 k ∧ s = .int .i64 (lens ll k)) (fun _ i => n - (intOf i).toNat)
  case atStart => exact ⟨0, Nat.zero_le _, rfl, by simp [lens]⟩
  case round =>
    obtain ⟨k, hk, rfl, rfl⟩ := hrel
    have hs1 := lens_le ll k
    by_cases hlt : k < n
    · obtain rfl := HN.out (ne_nil_ofL HL.out hlt)
      obtain ⟨ai, ci, hcell, hrow, hnil, hmx⟩ := HC.out k (by have := HL.out; omega)
      have hs2 := lens_le ll (k + 1)
      have hs3 := lens_succ ll k (by have := HL.out; omega)
      have HS : Hid (lens ll (k + 1) = lens ll k + (nthL ll k).length) := hs3
      rw [hs3] at hs2
      clear hs3 hrow hnil hmx
      generalize hq : (nthL ll k).length = q at *
      clear hq
      have g1 : ¬ ((lens ll k : Int) + (q : Int) < 0) := by omega
      go_wp2
      go_round
      case rel => exact ⟨k + 1, by omega, by go_num, by rw [HS.out]; go_num⟩
      case measure => simp [intOf]; omega
    · go_wp2_with (go_at_call 26; refine (grow_nil (lens ll k) _ (by omega)).mono ?_; rintro e w1 ⟨v, rfl, hown, hbel⟩)
      go_loopw [6, 27] (fun v i wr => ∃ k : Nat, k ≤ n ∧ i = .int .i64 k ∧ Own .u32 22 wr w.heap.size v (ll.take k).flatten ∧ Below w.heap.size w wr) (fun _ i _ => n - (intOf i).toNat)
      case atStart => exact ⟨0, Nat.zero_le _, rfl, by simpa using hown, hbel⟩
      case round =>
        clear hown hbel hs1 hk hlt
        obtain ⟨j, hj, rfl, hown, hbel⟩ := hrel
        by_cases hlt : j < n
        · obtain rfl := HN.out (ne_nil_ofL HL.out hlt)
          obtain ⟨ai, ci, hcell0, hrow0, hnil, hmx⟩ := HC.out j (by have := HL.out; omega)
          have hcell := cell_later hbel hcell0
          have hrow := hrow0.mono hbel
          have hlen : (ll.take j).flatten.length + (nthL ll j).length ≤ 1000000 := by
            have h1 := lens_succ ll j (by have := HL.out; omega)
            have h2 := lens_le ll (j + 1)
            unfold lens at h1 h2
            omega
          have HF : Hid ((ll.take (j + 1)).flatten = (ll.take j).flatten ++ nthL ll j) := flatten_take_succ ll j (by have := HL.out; omega)
          have hws : w.heap.size ≤ wr.heap.size := hbel.size
          clear hcell0 hrow0 hmx
          go_wp2_with (at_builtin; refine wpList_append_ints rfl _ _ 26 rfl w.heap.size .u32 22 4 Try.underlying26 info_u32 _ _ rfl hown _ _ _ _ rfl hrow rfl hnil (by unfold maxLen; omega) (by omega) hws ?_; intro v' w2 hown' hgrow)
          go_roundw
          case rel => exact ⟨j + 1, by omega, by go_num, by rw [HF.out]; exact hown', hbel.grown hgrow hws (fun k hk => (hown.lt k hk).1)⟩
          case measure => simp [intOf]; omega
        · go_wp2
          go_ret
          exact ⟨_, rfl, by rw [List.take_of_length_le (by have := HL.out; omega)] at hown; exact hown, hbel⟩

theorem join_any (a : Option Addr) (n c : Nat) (ll : List (List Int)) (w : World) (hr : Rows2 .u32 w a ll) (hl : ll.length = n) (hsum : ll.flatten.length ≤ 1000000) (hm : n ≤ maxLen) :
    Calls Try.prog 19 #[.slice a n c] w fun e w' => ∃ v, e = .returned v ∧ Own .u32 22 w' w.heap.size v ll.flatten ∧ Below w.heap.size w w' := by
  go_enter Try.func19, Try.ntmps19
  go_wp2_with (go_at_call 24; refine (concat_any _ _ _ _ _ hr hl hsum hm).mono ?_; rintro e w1 ⟨v, rfl, hown, hbel⟩)
  go_ret
  exact ⟨_, rfl, hown, hbel⟩

set_option maxHeartbeats 1000000 in
theorem rSame_any (a b : Option Addr) (la lb ca cb : Nat) (l m : List Int) (w : World) (hr : Row .u32 w a l) (hs : Row .u32 w b m) (hl : l.length = la) (hm : m.length = lb) (ha : la ≤ maxLen) (hb : lb ≤ maxLen) :
    Calls Try.prog 20 #[.slice a la ca, .slice b lb cb] w fun e w' => e = .returned (.bool (cmpL l m == 0)) ∧ ∃ n, w' = w.drewN n := by
  go_enter Try.func20, Try.ntmps20
  go_wp2_with (go_at_call 18; refine (rOrder_any _ _ _ _ _ _ _ _ _ hr hs hl hm ha hb).mono ?_; rintro e w' ⟨rfl, n, rfl⟩)
  go_ret
  exact ⟨rfl, _, rfl⟩

end Sca
end Go.Proofs.Ytngbkcfiofdelaa
