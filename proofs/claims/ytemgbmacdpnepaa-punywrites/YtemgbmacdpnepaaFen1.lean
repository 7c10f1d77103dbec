/-
  Contracts of the calls of puny's sums of marked places, as walks over the translated text. The condition: a list is of at most 4000 places; of math/bits.Len that it tells how many bits a number takes.
-/
import Derived.Test.YtemgbmacdpnepaaCod
import Derived.Test.YtemgbmacdpnepaaFenMath
import Derived.Lib.BitFns
namespace Go.Proofs.Ytemgbmacdpnepaa
open Go.ChangeShapes Go.WideShapes Go.ChangeAt Go.RowKit
namespace Fen
open Bas Pun Cod
set_option linter.unusedVariables false

/-- The slice of the sums over N places, from a block's head. -/
abbrev fenV (g N : Nat) : Value := .slice (some ⟨g, 0, none⟩) (N + 1) (N + 1)
/-- Sums in memory. -/
def FenAt (w : World) (g N : Nat) (P : Nat → Bool) : Prop := ∃ p, Sums N P p ∧ Seg .i64 w (fenV g N) p
theorem FenAt.chg {S : Nat → Nat → Prop} {w w' : World} {g N : Nat} {P : Nat → Bool} (h : FenAt w g N P) (hc : Chg S w w') (hS : ∀ j, ¬ S g j) : FenAt w' g N P := by
  obtain ⟨p, h1, h2⟩ := h
  exact ⟨p, h1, h2.chg hc (fun k j hk => by simp [Value.ownBlock] at hk; subst hk; exact hS j)⟩
theorem FenAt.below {w w' : World} {g N : Nat} {P : Nat → Bool} (h : FenAt w g N P) (hb : Below w.heap.size w w') : FenAt w' g N P :=
  h.chg (chg_of_below hb (Nat.le_refl _) (fun _ _ => False)) (fun _ h => h)
theorem FenAt.lt {w : World} {g N : Nat} {P : Nat → Bool} (h : FenAt w g N P) : g < w.heap.size := by
  obtain ⟨p, h1, h2⟩ := h
  exact h2.lt rfl
theorem FenAt.same {w : World} {g N : Nat} {P Q : Nat → Bool} (h : FenAt w g N P) (he : ∀ j, j < N → P j = Q j) : FenAt w g N Q := by
  obtain ⟨p, ⟨h1, h2⟩, h3⟩ := h
  refine ⟨p, ⟨h1, fun k k1 k2 => ?_⟩, h3⟩
  rw [← cnt_congr (P := P) (Q := Q) (fun j hj => he j (by omega)), ← cnt_congr (P := P) (Q := Q) (fun j hj => he j (by omega))]
  exact h2 k k1 k2
/-- make([]int, n), of whatever number kind. -/
theorem made_eq (k : IntKind) (n : Nat) : madeCells (Value.int k 0).cells n = Array.replicate n (Value.int k 0) := by
  apply Array.ext
  · simp [madeCells]
  · intro i h1 h2
    simp [madeCells, Value.cells, Nat.mod_one]
theorem seg_make (k : IntKind) (w : World) (n : Nat) (h : n ≤ 1000000) (t : TypeId) {g : Nat} (hg : g = w.heap.size) : Seg k (w.alloc (.cells (Array.replicate n (Value.int k 0)) t)) (.slice (some ⟨g, 0, none⟩) n n) (List.replicate n 0) := by
  subst hg
  refine .inr ⟨w.heap.size, 0, n, by simp, by simp, by simp, by unfold maxLen; omega, fun i hi => ?_, fun i hi => ?_, fun o => by simp⟩
  · have hi' : i < n := by simpa using hi
    simp only [Nat.zero_add]
    rw [World.cell?_alloc_new]
    simp [nth, hi']
  · simp only [Nat.zero_add]
    rw [World.cell?_alloc_new]
    simp [hi]
theorem info_int : (Try.prog.info? 3).map (fun i => (i.zero, i.size, i.bytes)) = some (some (.int .i64 0), 1, 8) := by kernel_rfl
theorem make_int (w : World) (n : Nat) (h : n ≤ 1000000) : (Instr.makeSlice 108 (.int .i64 (n : Int)) (.int .i64 (n : Int))).run Try.prog w = .ok (.slice (some ⟨w.heap.size, 0, none⟩) n n) (w.alloc (.cells (Array.replicate n (Value.int .i64 0)) 3)) := by
  obtain ⟨i, hi, hz, hsz, hby⟩ := info_parts info_int
  have hr := run_make (P := Try.prog) w 108 3 i (.int .i64 0) Try.underlying108 hi hz .i64 .i64 n n (by omega) (by omega) (by rw [hby]; omega) (by omega)
  rw [hsz, made_eq] at hr
  simpa using hr

set_option maxHeartbeats 1000000 in
theorem noPlaces_any (n : Nat) (w : World) (hn : n ≤ 4000) :
    Calls Try.prog 62 #[.int .i64 n] w fun e w' => e = .returned (fenV w.heap.size n) ∧ w' = w.alloc (.cells (Array.replicate (n + 1) (Value.int .i64 0)) 3) := by
  have hmk := make_int w (n + 1) (by omega)
  have e1 : ((n + 1 : Nat) : Int) = (n : Int) + 1 := by omega
  rw [e1] at hmk
  clear e1
  go_enter Try.func62, Try.ntmps62
  go_wp2
  go_ret
  exact ⟨rfl, by rw [Array.replicate_succ]⟩
theorem fen_new (n : Nat) (w : World) (hn : n ≤ 4000) : FenAt (w.alloc (.cells (Array.replicate (n + 1) (Value.int .i64 0)) 3)) w.heap.size n (fun _ => false) :=
  ⟨_, Sums.none n, seg_make .i64 w (n + 1) (by omega) _ rfl⟩

set_option maxHeartbeats 4000000 in
theorem add_any (g N a : Nat) (P : Nat → Bool) (w : World) (h : FenAt w g N P) (ha : a < N) (hP : P a = false) (hN : N ≤ 4000) :
    Calls Try.prog 64 #[fenV g N, .int .i64 a] w fun e w' => e = .returned (.tuple #[]) ∧ FenAt w' g N (put P a) ∧ Chg (fun k _ => k = g) w w' := by
  obtain ⟨p, hs, hseg⟩ := h
  have HS : Hid (Sums N P p ∧ Seg .i64 w (fenV g N) p) := ⟨hs, hseg⟩
  have HP : Hid (P a = false) := hP
  clear hs hseg hP
  go_enter Try.func64, Try.ntmps64
  go_wp2
  go_loopw [4] (fun i wr => ∃ (k : Nat) (p' : List Int), i = .int .i64 k ∧ AddRel N a p k p' ∧ Seg .i64 wr (fenV g N) p' ∧ Chg (fun k _ => k = g) w wr) (fun i _ => 4001 - (intOf i).toNat)
  case atStart => exact ⟨a + 1, p, by go_num, AddRel.zero HS.out.1.len, HS.out.2, Chg.refl _ _⟩
  case round =>
    obtain ⟨k, p', rfl, hr, hsg, hc⟩ := hrel
    have HR : Hid (AddRel N a p k p' ∧ Seg .i64 wr (fenV g N) p' ∧ Chg (fun k _ => k = g) w wr) := ⟨hr, hsg, hc⟩
    have hk1 : 1 ≤ k := by have := hr.c.2; omega
    clear hr hsg hc
    by_cases hk : k ≤ N
    · have hlen := HR.out.1.len
      obtain ⟨g', of, hga, hc2, hf2⟩ := HR.out.2.1.at (j := k) (by rw [hlen]; omega)
      simp only [Option.some.injEq, Addr.mk.injEq] at hga
      obtain ⟨rfl, rfl, -⟩ := hga
      rw [Nat.zero_add] at hc2 hf2
      have hx : 0 ≤ nth p' k ∧ nth p' k ≤ 5000 := by
        have h1 := HR.out.1.eq k hk1 hk
        have h2 := HS.out.1.le hk1 hk
        split at h1 <;> omega
      have HN : Hid (AddRel N a p (k + low k) (p'.set k (nth p' k + 1)) ∧ Seg .i64 (wr.setCell ⟨g, k, none⟩ (.int .i64 (nth p' k + 1))) (fenV g N) (p'.set k (nth p' k + 1)) ∧ Chg (fun k _ => k = g) w (wr.setCell ⟨g, k, none⟩ (.int .i64 (nth p' k + 1)))) := by
        refine ⟨HR.out.1.next hk, ?_, HR.out.2.2.trans ((chg_setCell wr g k _).mono (fun _ _ _ h => h.1))⟩
        have := HR.out.2.1.set (j := k) (nth p' k + 1) (by rw [hlen]; omega)
        rw [Nat.zero_add] at this
        exact this
      have hb := (bits_low (k := k) (by omega) (by omega)).1
      have hlo := low_le k
      have hlp := low_pos hk1
      have i1 : (k : Int) < (N : Int) + 1 := by omega
      obtain ⟨x, hxe⟩ : ∃ x, nth p' k = x := ⟨_, rfl⟩
      obtain ⟨lw, hlw⟩ : ∃ lw, low k = lw := ⟨_, rfl⟩
      rw [hxe] at hc2 hx HN
      rw [hlw] at hb hlo hlp HN
      clear hxe hlw HR hlen
      go_wp2
      go_roundw
      case rel => exact ⟨k + lw, _, by go_num, HN.out.1, HN.out.2.1, HN.out.2.2⟩
      case measure => simp [intOf]; omega
    · have i1 : ¬ (k : Int) < (N : Int) + 1 := by omega
      have HF : Hid (FenAt wr g N (put P a) ∧ Chg (fun k _ => k = g) w wr) := ⟨⟨p', HR.out.1.done hk HS.out.1 HP.out, HR.out.2.1⟩, HR.out.2.2⟩
      clear hk
      go_wp2
      go_end0
      exact ⟨rfl, HF.out.1, HF.out.2⟩

set_option maxHeartbeats 4000000 in
theorem before_any (g N a : Nat) (P : Nat → Bool) (w : World) (h : FenAt w g N P) (ha : a ≤ N) (hN : N ≤ 4000) :
    Calls Try.prog 73 #[fenV g N, .int .i64 a] w fun e w' => e = .returned (.int .i64 (cnt P a)) ∧ w' = w := by
  obtain ⟨p, hs, hseg⟩ := h
  have HS : Hid (Sums N P p ∧ Seg .i64 w (fenV g N) p) := ⟨hs, hseg⟩
  clear hs hseg
  go_enter Try.func73, Try.ntmps73
  go_wp2
  go_loopw [5, 6] (fun n i wr => ∃ (k : Nat) (m : Int), i = .int .i64 k ∧ n = .int .i64 m ∧ k ≤ a ∧ m + cnt P k = cnt P a ∧ wr = w) (fun _ i _ => (intOf i).toNat)
  case atStart => exact ⟨a, 0, rfl, rfl, Nat.le_refl _, by omega, rfl⟩
  case round =>
    obtain ⟨k, m, rfl, rfl, hk, hm, rfl⟩ := hrel
    have HM : Hid (m + cnt P k = cnt P a) := hm
    have hmb : -5000 ≤ m ∧ m ≤ 5000 := by
      have := cnt_max P k
      have := cnt_max P a
      omega
    clear hm
    by_cases hk0 : 0 < k
    · have hlen := HS.out.1.len
      obtain ⟨g', of, hga, hc2, hf2⟩ := HS.out.2.at (j := k) (by rw [hlen]; omega)
      simp only [Option.some.injEq, Addr.mk.injEq] at hga
      obtain ⟨rfl, rfl, -⟩ := hga
      rw [Nat.zero_add] at hc2 hf2
      have hx := HS.out.1.le (k := k) (by omega) (by omega)
      have HN : Hid (m + nth p k + cnt P (k - low k) = cnt P a) := by
        have h1 := HS.out.1.sum k (by omega) (by omega)
        have h2 := HM.out
        show _ = _
        omega
      have hb := (bits_low (k := k) hk0 (by omega)).2
      have hlo := low_le k
      have hlp := low_pos hk0
      have i1 : (k : Int) < (N : Int) + 1 := by omega
      have i2 : (k : Int) > 0 := by omega
      obtain ⟨x, hxe⟩ : ∃ x, nth p k = x := ⟨_, rfl⟩
      obtain ⟨lw, hlw⟩ : ∃ lw, k - low k = lw := ⟨_, rfl⟩
      rw [hxe] at hc2 hx HN
      rw [hlw] at hb HN
      have hlt : lw < k := by omega
      clear hxe hlw hlen hlo hlp
      go_wp2
      go_roundw
      case rel => exact ⟨lw, m + x, rfl, by go_num, by omega, HN.out, trivial⟩
      case measure => simp [intOf]; omega
    · obtain rfl : k = 0 := by omega
      have HF : Hid (m = cnt P a) := by
        have h := HM.out
        simp [cnt] at h
        exact h
      clear hk0 HM
      go_wp2
      go_ret
      exact ⟨ret_int HF.out, rfl⟩
end Fen
end Go.Proofs.Ytemgbmacdpnepaa
