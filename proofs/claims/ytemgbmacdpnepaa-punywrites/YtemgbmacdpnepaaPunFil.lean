/-
  The contract of puny.filled: basic scalars with the others put in, as a walk over the translated text. The condition: lists are of at most 4000 scalars; of math/bits.Len that it tells how many bits a number takes.
-/
import Derived.Test.YtemgbmacdpnepaaPunEnt
import Derived.Test.YtemgbmacdpnepaaFen2
import Derived.Deep.RegionWith
import Derived.Deep.RegionHeld3
namespace Go.Proofs.Ytemgbmacdpnepaa
open Go.ChangeShapes Go.WideShapes Go.ChangeAt Go.RowKit
namespace Pun
open Bas Cod Bia Sca Fen Stp
set_option linter.unusedVariables false

theorem make_u32 (w : World) (n : Nat) (h : n ≤ 1000000) : (Instr.makeSlice 27 (.int .i64 (n : Int)) (.int .i64 (n : Int))).run Try.prog w = .ok (.slice (some ⟨w.heap.size, 0, none⟩) n n) (w.alloc (.cells (Array.replicate n (Value.int .u32 0)) 64)) := by
  obtain ⟨i, hi, hz, hsz, hby⟩ := info_parts info_u32
  have hr := run_make (P := Try.prog) w 27 64 i (.int .u32 0) Try.underlying27 hi hz .i64 .i64 n n (by omega) (by omega) (by rw [hby]; omega) (by omega)
  rw [hsz, made_eq] at hr
  simpa using hr
/-- A row of entries, as a slice and its cells. -/
theorem EntO.form {w : World} {base : Nat} {v : Value} {es : List (Nat × Nat)} (h : EntO w base v es) : ∃ a c, v = .slice a es.length c ∧ (es ≠ [] → ∃ g, a = some ⟨g, 0, none⟩ ∧ g < w.heap.size ∧ ∀ k, k < es.length → w.cell? ⟨g, k * 2, none⟩ = some (.int .u32 ((entA es k).1 : Int)) ∧ w.cell? ⟨g, k * 2 + 1, none⟩ = some (.int .i64 ((entA es k).2 : Int))) := by
  rcases h.2 with ⟨rfl, hn⟩ | ⟨g, cap, cur, rfl, hb, hg, rest⟩
  · exact ⟨none, 0, by rw [hn], fun hne => absurd (List.length_eq_zero_iff.1 hn) hne⟩
  · refine ⟨_, cap, rfl, fun _ => ⟨g, rfl, (Array.getElem?_eq_some_iff.1 hg).1, fun k hk => ?_⟩⟩
    have h1 := entC_at es hk
    rw [← World.ownsRow.cellAt h (2 * k) (by omega), ← World.ownsRow.cellAt h (2 * k + 1) (by omega), Nat.mul_comm] at h1
    exact h1
/-- The cells of a row of entries. -/
def EntCells (w : World) (g : Nat) (es : List (Nat × Nat)) : Prop := ∀ k, k < es.length → w.cell? ⟨g, k * 2, none⟩ = some (.int .u32 ((entA es k).1 : Int)) ∧ w.cell? ⟨g, k * 2 + 1, none⟩ = some (.int .i64 ((entA es k).2 : Int))
/-- Where filling stands in memory. -/
structure FilAt (w wr : World) (g f N : Nat) (L M : List Int) (P : Nat → Bool) (o : List Int) : Prop where
  rel : FilRel L M P o
  seg : Seg .u32 wr (.slice (some ⟨g, 0, none⟩) N N) o
  fen : FenAt wr f N P
  bel : Below g w wr
  len : L.length = N

/-- One number more is filled in. -/
theorem FilAt.step {w wr w5 : World} {g N : Nat} {L M M' : List Int} {P : Nat → Bool} {o : List Int} {a : Nat} {v : Int} (h : FilAt w wr g (g + 1) N L M P o) (ha : a < N) (hr : FilRel L M' (del P a) (o.set a v)) (hf : FenAt w5 (g + 1) N (del P a)) (hc : Chg (fun k _ => k = g + 1) wr w5) :
    FilAt w (w5.setCell ⟨g, a, none⟩ (.int .u32 v)) g (g + 1) N L M' (del P a) (o.set a v) := by
  have hs5 : Seg .u32 w5 (.slice (some ⟨g, 0, none⟩) N N) o := h.seg.chg hc (fun k j hk hh => by simp [Value.ownBlock] at hk; omega)
  have hs6 := hs5.set (j := a) v (by rw [h.rel.len, h.len]; exact ha)
  rw [Nat.zero_add] at hs6
  have hch := chg_setCell w5 g a (.int .u32 v)
  have hgs : g ≤ wr.heap.size := Nat.le_of_lt (h.seg.lt rfl)
  refine ⟨hr, hs6, hf.chg hch (fun j hh => by omega), ?_, h.len⟩
  exact (h.bel.trans (hc.below hgs (fun k j hk hh => by omega))).trans (hch.below (by have := hc.size; omega) (fun k j hk hh => by omega))

set_option maxHeartbeats 8000000 in
set_option maxRecDepth 100000 in
theorem filled_any (HLen : LenOK) (basic : ByteArray) (v : Value) (es : List (Nat × Nat)) (base N : Nat) (w : World) (h : EntO w base v es) (hN : basic.size + es.length = N) (hN2 : N ≤ 4000) (hp : ∀ k, k < es.length → (entA es k).2 ≤ basic.size + k) (hv : ∀ k, k < es.length → (entA es k).1 ≤ 1114111) :
    Calls Try.prog 59 #[.string basic, v] w fun e w' => ∃ vo, e = .returned vo ∧ Seg .u32 w' vo (builtL (bytesL basic) es) ∧ (∀ g, vo.ownBlock = some g → w.heap.size ≤ g) ∧ Below w.heap.size w w' := by
  obtain ⟨av, cv, rfl, hcell⟩ := h.form
  have HL : Hid ((bytesL basic).length = basic.size) := bytesL_length basic
  have HPV : Hid ((∀ k, k < es.length → (entA es k).2 ≤ basic.size + k) ∧ ∀ k, k < es.length → (entA es k).1 ≤ 1114111) := ⟨hp, hv⟩
  have HE : Hid (es ≠ [] → ∃ g, av = some ⟨g, 0, none⟩ ∧ g < w.heap.size ∧ EntCells w g es) := hcell
  obtain ⟨L, hLe⟩ : ∃ L, builtL (bytesL basic) es = L := ⟨_, rfl⟩
  have HLL : Hid (builtL (bytesL basic) es = L ∧ L.length = N) := ⟨hLe, by rw [← hLe, built_len, bytesL_length]; exact hN⟩
  rw [hLe]
  have hmk := make_u32 w N (by omega)
  have hNi : (basic.size : Int) + (es.length : Int) = (N : Int) := by omega
  clear h hcell hp hv hLe
  obtain ⟨n, hn⟩ : ∃ n, es.length = n := ⟨_, rfl⟩
  have HNE : Hid (es.length = n) := hn
  rw [hn] at hN hNi ⊢
  clear hn
  go_enter Try.func59, Try.ntmps59
  go_wp2_with fail
  have HB1 : Hid (Seg .u32 (w.alloc (.cells (Array.replicate N (Value.int .u32 0)) 64)) (.slice (some ⟨w.heap.size, 0, none⟩) N N) (List.replicate N 0) ∧ Below w.heap.size w (w.alloc (.cells (Array.replicate N (Value.int .u32 0)) 64)) ∧ (w.alloc (.cells (Array.replicate N (Value.int .u32 0)) 64)).heap.size = w.heap.size + 1) := ⟨seg_make .u32 w N (by omega) _ rfl, (Below.refl _ _).alloc (Nat.le_refl _) _, by simp⟩
  generalize w.alloc (.cells (Array.replicate N (Value.int .u32 0)) 64) = w1 at *
  obtain ⟨g, hg⟩ : ∃ g, w.heap.size = g := ⟨_, rfl⟩
  rw [hg] at HB1 ⊢
  refine (allPlaces_any N w1 hN2).mono ?_
  rintro e w2 ⟨rfl, hf2, hb2⟩
  rw [HB1.out.2.2] at hf2 hb2 ⊢
  have HF2 : Hid (FilAt w w2 g (g + 1) N L L (fun _ => true) (List.replicate N 0)) :=
    ⟨FilRel.zero (by rw [HLL.out.2]; simp), HB1.out.1.chg (chg_of_below hb2 (by rw [HB1.out.2.2]; exact Nat.le_refl _) (fun _ _ => False)) (fun _ _ _ h => h), hf2, HB1.out.2.1.trans (hb2.mono (by omega)), HLL.out.2⟩
  clear hf2 hb2 hmk
  go_wp2
  have HG : Hid (w.heap.size = g) := hg
  go_loopw [7] (fun i wr => ∃ (k : Nat) (P : Nat → Bool) (o : List Int), i = .int .i64 ((k : Int) - 1) ∧ k ≤ n ∧ FilAt w wr g (g + 1) N L (builtL (bytesL basic) (es.take k)) P o) (fun i _ => (intOf i + 1).toNat)
  case atStart => exact ⟨n, fun _ => true, List.replicate N 0, rfl, Nat.le_refl _, by rw [← HNE.out, List.take_of_length_le (Nat.le_refl _), HLL.out.1]; exact HF2.out⟩
  case round =>
    clear HF2 HB1 hg
    obtain ⟨k, P, o, rfl, hk, hf⟩ := hrel
    have HF : Hid (FilAt w wr g (g + 1) N L (builtL (bytesL basic) (es.take k)) P o) := hf
    clear hf
    cases k with
    | zero =>
      rw [show ((0 : Nat) : Int) - 1 = -1 by rfl]
      rw [show builtL (bytesL basic) (es.take 0) = (bytesL basic).drop 0 by rfl] at HF
      go_wp2
      go_loopw [41] (fun i wr => ∃ (k : Nat) (P : Nat → Bool) (o : List Int), i = .int .i64 k ∧ k ≤ basic.size ∧ FilAt w wr g (g + 1) N L ((bytesL basic).drop k) P o) (fun i _ => basic.size - (intOf i).toNat)
      case atStart => exact ⟨0, P, o, rfl, Nat.zero_le _, HF.out⟩
      case round =>
        clear HF
        obtain ⟨k, P, o, rfl, hk, hf⟩ := hrel
        have HF : Hid (FilAt w wr g (g + 1) N L ((bytesL basic).drop k) P o) := hf
        clear hf
        by_cases hlt : k < basic.size
        · have hkL : k < (bytesL basic).length := by rw [HL.out]; exact hlt
          have hM : (bytesL basic).drop k = insL ((bytesL basic).drop (k + 1)) 0 (nth (bytesL basic) k) := by rw [drop_at _ _ hkL]; rfl
          obtain ⟨a, ha, hPa, hca, hrel⟩ := HF.out.rel.find hM (Nat.zero_le _)
          rw [HLL.out.2] at ha
          have hby := bytesL_byte basic _ (nth_mem hkL)
          have e1 : ((basic[k]'hlt).toNat : Int) = nth (bytesL basic) k := str_nth basic _ hlt
          obtain ⟨x, hx⟩ : ∃ x, nth (bytesL basic) k = x := ⟨_, rfl⟩
          rw [hx] at hrel hby e1
          have HS : Hid (∀ w5, FenAt w5 (g + 1) N (del P a) → Chg (fun k _ => k = g + 1) wr w5 → FilAt w (w5.setCell ⟨g, a, none⟩ (.int .u32 x)) g (g + 1) N L ((bytesL basic).drop (k + 1)) (del P a) (o.set a x)) := fun w5 h1 h2 => HF.out.step ha hrel h1 h2
          obtain ⟨g', of, hga, hc3, hf3⟩ := HF.out.seg.at (j := a) (by rw [HF.out.rel.len, HF.out.len]; exact ha)
          simp only [Option.some.injEq, Addr.mk.injEq] at hga
          obtain ⟨rfl, rfl, -⟩ := hga
          rw [Nat.zero_add] at hc3 hf3
          obtain ⟨z, hz⟩ : ∃ z, nth o a = z := ⟨_, rfl⟩
          rw [hz] at hc3
          have HC : Hid (FenAt wr (g + 1) N P ∧ P a = true ∧ cnt P a = 0) := ⟨HF.out.fen, hPa, hca⟩
          have i3 : (k : Int) < (basic.size : Int) := by omega
          have i4 : (a : Int) < (N : Int) := by omega
          clear hM hrel hPa hca hx hz HF hkL
          go_wp2
          go_region_with (go_at_call 84; refine (take_any HLen (g + 1) N a _ P _ (HC.out.1.chg ((Chg.refl (fun _ _ => False) _).drew) (fun _ h => h)) ha HC.out.2.1 (by rw [HC.out.2.2]; rfl) hN2).mono ?_; rintro e w5 ⟨rfl, hf5, hch5⟩; have hf3 := hch5.freeAt (by exact hc3) (by exact hf3); have hc3 := hch5.cellAt (k := g) (o := a) (by exact hc3) (by omega); have HS6 := HS.out w5 hf5 ((Chg.refl (fun k _ => k = g + 1) wr).drew.trans hch5))
          all_goals
            have HS7 : Hid (FilAt w (w5.setCell ⟨g, a, none⟩ (.int .u32 x)) g (g + 1) N L ((bytesL basic).drop (k + 1)) (del P a) (o.set a x)) := HS6
            clear HS6 hch5 hf5 hc3 hf3 HS HC
            go_wp2
            go_roundw
            case rel => exact ⟨k + 1, del P a, o.set a x, by go_num, by omega, by exact HS7.out⟩
            case measure => simp [intOf]; omega
        · have hk0 : (bytesL basic).drop k = [] := List.drop_of_length_le (by rw [HL.out]; omega)
          rw [hk0] at HF
          have i3 : ¬ (k : Int) < (basic.size : Int) := by omega
          have HE2 : Hid (o = L) := HF.out.rel.done
          clear hk0
          go_wp2
          go_ret
          refine ⟨_, rfl, ?_, fun b hb => ?_, ?_⟩
          · have := HF.out.seg
            rw [HE2.out] at this
            exact this
          · simp [Value.ownBlock] at hb
            have := HG.out; omega
          · exact HF.out.bel.mono (by have := HG.out; omega)
    | succ j =>
      have hj : j < es.length := by have := HNE.out; omega
      obtain ⟨g0, rfl, hg0, hce⟩ := HE.out (by intro e; rw [e] at hj; simp at hj)
      have hM : builtL (bytesL basic) (es.take (j + 1)) = insL (builtL (bytesL basic) (es.take j)) (entA es j).2 ((entA es j).1 : Int) := by rw [ent_take es hj, built_snoc]
      have hpl : (entA es j).2 ≤ (builtL (bytesL basic) (es.take j)).length := by
        have := HPV.out.1 j hj
        rw [built_len, HL.out, List.length_take]; omega
      obtain ⟨a, ha, hPa, hca, hrel⟩ := HF.out.rel.find hM hpl
      rw [HLL.out.2] at ha
      have hv1 := HPV.out.2 j hj
      have HGB : Hid (g0 < w.heap.size) := hg0
      have hb0 : g0 ≠ g + 1 := by have := HG.out; omega
      have hb1 : g0 < g := by have := HG.out; omega
      have hc1 : wr.cell? ⟨g0, j * 2, none⟩ = some (.int .u32 ((entA es j).1 : Int)) := (HF.out.bel.cell (p := ⟨g0, j * 2, none⟩) hb1).trans (hce j hj).1
      have hc2 : wr.cell? ⟨g0, j * 2 + 1, none⟩ = some (.int .i64 ((entA es j).2 : Int)) := (HF.out.bel.cell (p := ⟨g0, j * 2 + 1, none⟩) hb1).trans (hce j hj).2
      obtain ⟨x, hx⟩ : ∃ x, (entA es j).1 = x := ⟨_, rfl⟩
      obtain ⟨y, hy⟩ : ∃ y, (entA es j).2 = y := ⟨_, rfl⟩
      rw [hx] at hrel hv1 hc1
      rw [hy] at hc2 hca
      have HS : Hid (∀ w5, FenAt w5 (g + 1) N (del P a) → Chg (fun k _ => k = g + 1) wr w5 → FilAt w (w5.setCell ⟨g, a, none⟩ (.int .u32 (x : Int))) g (g + 1) N L (builtL (bytesL basic) (es.take j)) (del P a) (o.set a (x : Int))) := fun w5 h1 h2 => HF.out.step ha hrel h1 h2
      obtain ⟨g', of, hga, hc3, hf3⟩ := HF.out.seg.at (j := a) (by rw [HF.out.rel.len, HF.out.len]; exact ha)
      simp only [Option.some.injEq, Addr.mk.injEq] at hga
      obtain ⟨rfl, rfl, -⟩ := hga
      rw [Nat.zero_add] at hc3 hf3
      obtain ⟨z, hz⟩ : ∃ z, nth o a = z := ⟨_, rfl⟩
      rw [hz] at hc3
      have HC : Hid (FenAt wr (g + 1) N P ∧ P a = true ∧ cnt P a = y) := ⟨HF.out.fen, hPa, hca⟩
      have i1 : ((j + 1 : Nat) : Int) - 1 = (j : Int) := by omega
      rw [i1]
      have i2 : (j : Int) ≥ 0 := by omega
      have i3 : (j : Int) < (n : Int) := by have := HNE.out; omega
      have i4 : (a : Int) < (N : Int) := by omega
      clear hM hpl hrel hPa hca hx hy hz hce i1 HF hj
      go_wp2
      go_region_with (go_at_call 84; refine (take_any HLen (g + 1) N a _ P _ (HC.out.1.chg ((Chg.refl (fun _ _ => False) _).drew) (fun _ h => h)) ha HC.out.2.1 (by rw [HC.out.2.2]) hN2).mono ?_; rintro e w5 ⟨rfl, hf5, hch5⟩; have hc1 := hch5.cellAt (k := g0) (o := j * 2) (by exact hc1) (by exact hb0); have hf3 := hch5.freeAt (by exact hc3) (by exact hf3); have hc3 := hch5.cellAt (k := g) (o := a) (by exact hc3) (by omega); have HS6 := HS.out w5 hf5 ((Chg.refl (fun k _ => k = g + 1) wr).drew.trans hch5))
      all_goals
        have HS7 : Hid (FilAt w (w5.setCell ⟨g, a, none⟩ (.int .u32 (x : Int))) g (g + 1) N L (builtL (bytesL basic) (es.take j)) (del P a) (o.set a (x : Int))) := HS6
        generalize w5.setCell ⟨g, a, none⟩ (.int .u32 (x : Int)) = w6 at *
        clear HS6 hch5 hf5 hc1 hc2 hc3 hf3 HS HC
        go_wp2
        go_roundw
        case rel => exact ⟨j, _, _, rfl, by omega, HS7.out⟩
        case measure => simp [intOf]
end Pun
end Go.Proofs.Ytemgbmacdpnepaa
