/-
  Contracts of the calls of puny's sums of marked places, as walks over the translated text: all places, one that is taken. The condition: a list is of at most 4000 places; of math/bits.Len that it tells how many bits a number takes.
-/
import Derived.Test.YtemgbmacdpnepaaFen1
namespace Go.Proofs.Ytemgbmacdpnepaa
open Go.ChangeShapes Go.WideShapes Go.ChangeAt Go.RowKit
namespace Fen
open Bas Pun Cod
set_option linter.unusedVariables false

/-- The sums of all places, so far. -/
def AllRel (n k : Nat) (p : List Int) : Prop := p.length = n + 1 ∧ ∀ j, j < k → nth p j = low j
theorem AllRel.next {n k : Nat} {p : List Int} (h : AllRel n k p) (hk : k < n + 1) : AllRel n (k + 1) (p.set k (low k)) := by
  refine ⟨by simpa using h.1, fun j hj => ?_⟩
  rw [nth_set _ _ _ _ (by have := h.1; omega)]
  by_cases e : j = k
  · rw [if_pos e, e]
  · rw [if_neg e]; exact h.2 j (by omega)

set_option maxHeartbeats 4000000 in
theorem allPlaces_any (n : Nat) (w : World) (hn : n ≤ 4000) :
    Calls Try.prog 83 #[.int .i64 n] w fun e w' => e = .returned (fenV w.heap.size n) ∧ FenAt w' w.heap.size n (fun _ => true) ∧ Below w.heap.size w w' := by
  have HW : Hid (Seg .i64 (w.alloc (.cells (Array.replicate (n + 1) (Value.int .i64 0)) 3)) (fenV w.heap.size n) (List.replicate (n + 1) 0) ∧ Below w.heap.size w (w.alloc (.cells (Array.replicate (n + 1) (Value.int .i64 0)) 3))) := ⟨seg_make .i64 w (n + 1) (by omega) _ rfl, (Below.refl _ _).alloc (Nat.le_refl _) _⟩
  go_enter Try.func83, Try.ntmps83
  go_wp2_with fail
  refine (noPlaces_any n w hn).mono ?_
  rintro e w1 ⟨rfl, hw1⟩
  rw [← hw1] at HW
  clear hw1
  obtain ⟨g, hg⟩ : ∃ g, w.heap.size = g := ⟨_, rfl⟩
  rw [hg] at HW ⊢
  go_wp2
  go_loopw [9] (fun i wr => ∃ (k : Nat) (p : List Int), i = .int .i64 k ∧ k ≤ n + 1 ∧ AllRel n k p ∧ Seg .i64 wr (fenV g n) p ∧ Below g w wr) (fun i _ => n + 1 - (intOf i).toNat)
  case atStart => exact ⟨0, _, rfl, Nat.zero_le _, ⟨by simp, fun j hj => by omega⟩, HW.out.1, HW.out.2⟩
  case round =>
    obtain ⟨k, p, rfl, hk, hr, hsg, hb⟩ := hrel
    have HR : Hid (AllRel n k p ∧ Seg .i64 wr (fenV g n) p ∧ Below g w wr) := ⟨hr, hsg, hb⟩
    clear hr hsg hb HW
    by_cases hlt : k < n + 1
    · have hlen := HR.out.1.1
      obtain ⟨g', of, hga, hc2, hf2⟩ := HR.out.2.1.at (j := k) (by rw [hlen]; omega)
      simp only [Option.some.injEq, Addr.mk.injEq] at hga
      obtain ⟨rfl, rfl, -⟩ := hga
      rw [Nat.zero_add] at hc2 hf2
      have HN : Hid (AllRel n (k + 1) (p.set k (low k)) ∧ Seg .i64 (wr.setCell ⟨g, k, none⟩ (.int .i64 (low k))) (fenV g n) (p.set k (low k)) ∧ Below g w (wr.setCell ⟨g, k, none⟩ (.int .i64 (low k)))) := by
        refine ⟨HR.out.1.next hlt, ?_, HR.out.2.2.trans ((chg_setCell wr g k _).below (by have := HR.out.2.2.size; omega) (fun k' j hk' hh => by have := hh.1; omega))⟩
        have := HR.out.2.1.set (j := k) (low k : Int) (by rw [hlen]; omega)
        rw [Nat.zero_add] at this
        exact this
      have hbt : bits .and .i64 (k : Int) (-(k : Int)) = low k := by
        rcases Nat.eq_zero_or_pos k with h0 | h0
        · subst h0; rw [low_zero]; exact bits_zero
        · exact (bits_low h0 (by omega)).1
      have i1 : (k : Int) < (n : Int) + 1 := by omega
      obtain ⟨x, hxe⟩ : ∃ x, nth p k = x := ⟨_, rfl⟩
      obtain ⟨lw, hlw⟩ : ∃ lw, low k = lw := ⟨_, rfl⟩
      rw [hxe] at hc2
      rw [hlw] at hbt HN
      clear hxe hlw HR hlen
      go_wp2
      go_roundw
      case rel => exact ⟨k + 1, _, by go_num, by omega, HN.out.1, HN.out.2.1, HN.out.2.2⟩
      case measure => simp [intOf]; omega
    · have i1 : ¬ (k : Int) < (n : Int) + 1 := by omega
      have HF : Hid (FenAt wr g n (fun _ => true) ∧ Below g w wr) := ⟨⟨p, Sums.all HR.out.1.1 (fun j j1 j2 => HR.out.1.2 j (by omega)), HR.out.2.1⟩, HR.out.2.2⟩
      clear hlt
      go_wp2
      go_ret
      exact ⟨rfl, HF.out.1, HF.out.2⟩

/-- What math/bits.Len tells. -/
def LenOK : Prop := ∀ (n : Nat) (w : World), n ≤ 100000 → Calls Try.prog 88 #[.int .u64 n] w fun e w' => e = .returned (.int .i64 (Lib.bitLen n)) ∧ w' = w
theorem bitLen_fit (n : Nat) (h : n ≤ 4001) : n < 2 ^ Lib.bitLen n ∧ Lib.bitLen n ≤ 12 := by
  have key : ∀ i j : Fin 64, (64 * i.val + j.val) < 2 ^ Lib.bitLen (64 * i.val + j.val) ∧ Lib.bitLen (64 * i.val + j.val) ≤ 12 := by decide +kernel
  have := key ⟨n / 64, by omega⟩ ⟨n % 64, by omega⟩
  simp only [Nat.div_add_mod] at this
  exact this
/-- A span, and what it is half of. -/
def SpanOf (m s : Nat) : Prop := (m = 0 ∧ s = 0) ∨ ∃ k, m = k + 1 ∧ s = 2 ^ k
theorem SpanOf.half {k s : Nat} (h : s = 2 ^ k) : SpanOf k (s / 2) := by
  subst h
  cases k with
  | zero => exact .inl ⟨rfl, rfl⟩
  | succ k => exact .inr ⟨k, rfl, by rw [Nat.pow_succ]; omega⟩

set_option maxHeartbeats 4000000 in
theorem take_any (HLen : LenOK) (g N a : Nat) (h : Int) (P : Nat → Bool) (w : World) (hF : FenAt w g N P) (ha : a < N) (hP : P a = true) (hh : h = cnt P a) (hN : N ≤ 4000) :
    Calls Try.prog 84 #[fenV g N, .int .i64 h] w fun e w' => e = .returned (.int .i64 a) ∧ FenAt w' g N (del P a) ∧ Chg (fun k _ => k = g) w w' := by
  obtain ⟨p, hs, hseg⟩ := hF
  have HS : Hid (Sums N P p ∧ Seg .i64 w (fenV g N) p ∧ P a = true) := ⟨hs, hseg, hP⟩
  clear hs hseg hP
  have hbl := bitLen_fit (N + 1) (by omega)
  obtain ⟨m, hm⟩ : ∃ m, Lib.bitLen (N + 1) = m := ⟨_, rfl⟩
  have HL : Hid (∀ w, Calls Try.prog 88 #[.int .u64 ((N : Int) + 1)] w fun e w' => e = .returned (.int .i64 m) ∧ w' = w) := fun w => by
    have := HLen (N + 1) w (by omega)
    rw [hm] at this
    exact_mod_cast this
  rw [hm] at hbl
  have hpow : 2 ^ m ≤ 4096 := Nat.pow_le_pow_right (by decide) hbl.2
  have HZ : Hid (TakeRel N a P p (m + 1) 0 h p) := by
    have := TakeRel.zero HS.out.1 ha (m := m + 1) (by rw [Nat.pow_succ]; omega)
    rw [← hh] at this
    exact this
  have hm0 : (m : Int) ≤ 12 := by omega
  have hmi : (2 : Int) ^ m = ((2 ^ m : Nat) : Int) := by norm_cast
  clear hm hbl hh
  obtain ⟨s0, hs0⟩ : ∃ s, 2 ^ m = s := ⟨_, rfl⟩
  rw [hs0] at hpow hmi
  have H0 : Hid (SpanOf (m + 1) s0) := .inr ⟨m, rfl, hs0.symm⟩
  clear hs0
  go_enter Try.func84, Try.ntmps84
  go_wp2_with fail
  refine (HL.out w).mono ?_
  rintro e w1 ⟨rfl, rfl⟩
  go_wp2
  go_loopw [1, 5, 6] (fun ah at_ sp wr => ∃ (m A s : Nat) (y : Int) (p' : List Int), ah = .int .i64 y ∧ at_ = .int .i64 A ∧ sp = .int .i64 s ∧ s ≤ 4096 ∧ SpanOf m s ∧ TakeRel N a P p m A y p' ∧ Seg .i64 wr (fenV g N) p' ∧ Chg (fun k _ => k = g) w1 wr) (fun _ _ sp _ => (intOf sp).toNat)
  case atStart => exact ⟨m + 1, 0, s0, h, p, rfl, rfl, rfl, hpow, H0.out, HZ.out, HS.out.2.1, Chg.refl _ _⟩
  case round =>
    clear HZ H0 hmi hpow hm0 HL
    obtain ⟨m, A, s, y, p', rfl, rfl, rfl, hs4, hsp, hr, hsg, hc⟩ := hrel
    have HR : Hid (TakeRel N a P p m A y p' ∧ Seg .i64 wr (fenV g N) p' ∧ Chg (fun k _ => k = g) w1 wr) := ⟨hr, hsg, hc⟩
    have hA := hr.le.1
    clear hr hsg hc
    rcases hsp with ⟨rfl, rfl⟩ | ⟨k, rfl, hsk⟩
    · have HF : Hid (A = a ∧ FenAt wr g N (del P a) ∧ Chg (fun k _ => k = g) w1 wr) := ⟨(HR.out.1.done HS.out.1 HS.out.2.2).1, ⟨p', (HR.out.1.done HS.out.1 HS.out.2.2).2, HR.out.2.1⟩, HR.out.2.2⟩
      go_wp2
      go_ret
      exact ⟨ret_int (by rw [HF.out.1]), HF.out.2.1, HF.out.2.2⟩
    · have hs1 : 0 < s := by rw [hsk]; exact Nat.pow_pos (by decide)
      have HH : Hid (SpanOf k (s / 2)) := SpanOf.half hsk
      have i0 : (s : Int) > 0 := by omega
      have hd : (s : Int) / 2 = ((s / 2 : Nat) : Int) := by omega
      obtain ⟨s2, hs2⟩ : ∃ s2, s / 2 = s2 := ⟨_, rfl⟩
      rw [hs2] at hd HH
      have hs2l : s2 < s := by omega
      clear hs2
      by_cases hn : A + s ≤ N
      · have hn2 : A + 2 ^ k ≤ N := by rw [← hsk]; exact hn
        have hlen := HR.out.1.len
        obtain ⟨g', of, hga, hc2, hf2⟩ := HR.out.2.1.at (j := A + s) (by rw [hlen]; omega)
        simp only [Option.some.injEq, Addr.mk.injEq] at hga
        obtain ⟨rfl, rfl, -⟩ := hga
        rw [Nat.zero_add] at hc2 hf2
        have hx : -1 ≤ nth p' (A + s) ∧ nth p' (A + s) ≤ 5000 := by
          have h1 := HR.out.1.eq (A + s) (by omega) hn
          have h2 := HS.out.1.le (k := A + s) (by omega) hn
          split at h1 <;> omega
        have hy : -5000 ≤ y ∧ y ≤ 5000 := by
          have h1 := HR.out.1.ah
          have h2 := cnt_max P a
          have h3 := cnt_max P A
          omega
        have i1 : ¬ (A : Int) + (s : Int) ≥ (N : Int) + 1 := by omega
        have i2 : (A : Int) + (s : Int) < (N : Int) + 1 := by omega
        by_cases hle : nth p' (A + s) ≤ y
        · have HN : Hid (TakeRel N a P p k (A + s) (y - nth p' (A + s)) p') := by
            have := HR.out.1.go HS.out.1 HS.out.2.2 hn2 (by rw [← hsk]; exact hle)
            rw [← hsk] at this
            exact this
          obtain ⟨x, hxe⟩ : ∃ x, nth p' (A + s) = x := ⟨_, rfl⟩
          rw [hxe] at hc2 hx HN hle
          clear hxe hsk hn2 hlen
          go_wp2
          go_roundw
          case rel => exact ⟨k, A + s, s2, y - x, p', by go_num, by go_num, by go_num, by omega, HH.out, HN.out, HR.out.2.1, HR.out.2.2⟩
          case measure => simp [intOf]; omega
        · have HN : Hid (TakeRel N a P p k A y (p'.set (A + s) (nth p' (A + s) - 1)) ∧ Seg .i64 (wr.setCell ⟨g, A + s, none⟩ (.int .i64 (nth p' (A + s) - 1))) (fenV g N) (p'.set (A + s) (nth p' (A + s) - 1)) ∧ Chg (fun k _ => k = g) w1 (wr.setCell ⟨g, A + s, none⟩ (.int .i64 (nth p' (A + s) - 1)))) := by
            refine ⟨?_, ?_, HR.out.2.2.trans ((chg_setCell wr g _ _).mono (fun _ _ _ h => h.1))⟩
            · have := HR.out.1.stay HS.out.1 HS.out.2.2 hn2 (by rw [← hsk]; exact hle)
              rw [← hsk] at this
              exact this
            · have := HR.out.2.1.set (j := A + s) (nth p' (A + s) - 1) (by rw [hlen]; omega)
              rw [Nat.zero_add] at this
              exact this
          obtain ⟨x, hxe⟩ : ∃ x, nth p' (A + s) = x := ⟨_, rfl⟩
          rw [hxe] at hc2 hx HN hle
          have hle2 : ¬ x ≤ y := hle
          clear hxe hsk hn2 hlen HR
          go_wp2
          go_roundw
          case rel => exact ⟨k, A, s2, y, _, rfl, rfl, by go_num, by omega, HH.out, HN.out.1, HN.out.2.1, HN.out.2.2⟩
          case measure => simp [intOf]; omega
      · have i1 : (A : Int) + (s : Int) ≥ (N : Int) + 1 := by omega
        have HN : Hid (TakeRel N a P p k A y p') := HR.out.1.far (by rw [← hsk]; exact hn)
        clear hsk hn
        go_wp2
        go_roundw
        case rel => exact ⟨k, A, s2, y, p', rfl, rfl, by go_num, by omega, HH.out, HN.out, HR.out.2.1, HR.out.2.2⟩
        case measure => simp [intOf]; omega
end Fen
end Go.Proofs.Ytemgbmacdpnepaa
