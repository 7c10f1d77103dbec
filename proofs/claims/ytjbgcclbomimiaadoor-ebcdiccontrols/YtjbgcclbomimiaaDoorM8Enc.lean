/-
  The encoder of layer 6 in memory, and the contracts of its own calls, as walks over the translated text. The condition: its memory is there and may be written; the table is as the program's text lays it.
-/
import Derived.Test.YtjbgcclbomimiaaDoorCod
import Derived.Test.YtjbgcclbomimiaaDoorM8Row
import Derived.Test.YtjbgcclbomimiaaDoorMemS
import Derived.Laws.BitsAll
import Derived.Deep.RegionHeld3
import Derived.Deep.CutBlock
namespace Go.Proofs.YtjbgcclbomimiaaDoor
open Go.ChangeShapes Go.WideShapes Go.ChangeAt Go.RowKit
namespace M8
open Bas Sca Stp Scn Cod
set_option linter.unusedVariables false

/-- An encoder in memory. -/
structure EncV (π : Par) (w : World) (b : Nat) (p q : Int) (en : Bool) (K : List Int) (v : Value) : Prop where
  base : BaseAt w b 0 p q en
  row : RowAt .u8 w b 3 v K
  tabs : Tabs w
  one : 1 ≤ b
  oneV : ∀ g, v.ownBlock = some g → 1 ≤ g
/-- Its memory. -/
def footE (b : Nat) (v : Value) (k : Nat) : Prop := k = b ∨ v.ownBlock = some k
variable {π : Par}
theorem EncV.lt {w : World} {b : Nat} {p q : Int} {en : Bool} {K : List Int} {v : Value} (h : EncV π w b p q en K v) {k : Nat} (hk : footE b v k) : k < w.heap.size := by
  rcases hk with rfl | hk
  · exact h.base.lt
  · exact h.row.seg.lt hk
theorem EncV.chg {S : Nat → Nat → Prop} {w w' : World} {b : Nat} {p q : Int} {en : Bool} {K : List Int} {v : Value} (h : EncV π w b p q en K v) (hc : Chg S w w') (hS : ∀ k j, footE b v k → ¬ S k j) (h0 : ∀ j, ¬ S 0 j) : EncV π w' b p q en K v :=
  ⟨h.base.chg hc (fun k j hk => hS k j (.inl hk.1)), h.row.chg hc (fun k j hk => hS k j (by rcases hk with hk | hk; exact .inl hk.1; exact .inr hk)), h.tabs.chg hc h0, h.one, h.oneV⟩
theorem EncV.below {w w' : World} {b : Nat} {p q : Int} {en : Bool} {K : List Int} {v : Value} (h : EncV π w b p q en K v) (hb : Below w.heap.size w w') : EncV π w' b p q en K v :=
  h.chg (chg_of_below hb (Nat.le_refl _) (fun _ _ => False)) (fun _ _ _ h => h) (fun _ h => h)
theorem EncV.kp {X : Nat → Prop} {w w' : World} {b : Nat} {p q : Int} {en : Bool} {K : List Int} {v : Value} (h : EncV π w b p q en K v) (hc : Kp X w w') (hS : ∀ k, footE b v k → ¬ X k) (h0 : ¬ X 0) : EncV π w' b p q en K v :=
  ⟨h.base.kp hc (hS b (.inl rfl)), h.row.kp hc (fun k j hk => hS k (by rcases hk with hk | hk; exact .inl hk.1; exact .inr hk)), h.tabs.kp hc h0, h.one, h.oneV⟩
theorem EncV.rebase {w w' : World} {b : Nat} {p q p' q' : Int} {en en' : Bool} {K : List Int} {v : Value} (h : EncV π w b p q en K v) (hb : BaseAt w' b 0 p' q' en') (hc : Chg (footB b 0) w w') : EncV π w' b p' q' en' K v := by
  refine ⟨hb, h.row.chg hc (fun k j hk hh => ?_), h.tabs.chg hc (fun j hh => by have := h.one; have := hh.1; omega), h.one, h.oneV⟩
  rcases hk with hk | hk
  · have := hh.2; omega
  · exact h.row.ne (by rw [hk, hh.1])
theorem EncV.rerow {w w' : World} {b : Nat} {p q : Int} {en : Bool} {K K' : List Int} {v v' : Value} (h : EncV π w b p q en K v) (hr : RowAt .u8 w' b 3 v' K') (hc : Chg (footR b 3 v) w w') (hm : Mov w v v') : EncV π w' b p q en K' v' := by
  refine ⟨h.base.chg hc (fun k j hk hh => ?_), hr, h.tabs.chg hc (fun j hh => ?_), h.one, fun g hg => ?_⟩
  · rcases hh with hh | hh
    · have := hk.2; omega
    · exact h.row.ne (by rw [hh, hk.1])
  · rcases hh with hh | hh
    · have := h.one; omega
    · have := h.oneV 0 hh; omega
  · rcases hm g hg with hg | hg
    · exact h.oneV g hg
    · have := h.tabs.pos; omega
theorem footE_nil {b k : Nat} (h : footE b (.slice none 0 0) k) : k = b := by
  rcases h with h | h
  · exact h
  · simp [Value.ownBlock] at h
theorem newEn_any (π : Par) (w : World) {N : Nat} (hN : N = w.heap.size) (hT : Tabs w) :
    Calls Tryd.prog 25 #[] w fun e w' => e = .returned (.pointer (some ⟨N, 0, none⟩)) ∧ EncV π w' N 0 0 false [] (.slice none 0 0) ∧ w'.heap.size = N + 1 ∧ Below N w w' := by
  subst hN
  have hpos := hT.pos
  go_enter Tryd.func25, Tryd.ntmps25
  go_wp2
  go_ret
  refine ⟨rfl, ⟨⟨?_, ?_, ?_, ?_, ?_, ?_⟩, ⟨?_, ?_, seg_nil _ _, by simp [Value.ownBlock]⟩, hT.below ((Below.refl _ _).alloc (Nat.le_refl _) _), hpos, by simp [Value.ownBlock]⟩, by simp, (Below.refl _ _).alloc (Nat.le_refl _) _⟩
  all_goals first | (rw [World.cell?_alloc_new]; rfl) | simp
/-- A scalar's bytes, of which those behind a place are laid. -/
def fillN (o : List Int) (k : Nat) : List Int := List.replicate (k + 1) 0 ++ o.drop (k + 1)
theorem fill_length {o : List Int} {k : Nat} (h : k < o.length) : (fillN o k).length = o.length := by unfold fillN; simp; omega
theorem fill_top {o : List Int} {n : Nat} (h : o.length = n + 1) : fillN o n = List.replicate (n + 1) 0 := by unfold fillN; rw [List.drop_of_length_le (by omega)]; simp
theorem set_mid (k : Nat) (x : Int) (r : List Int) : (List.replicate (k + 1) (0 : Int) ++ r).set k x = List.replicate k 0 ++ x :: r := by
  rw [List.replicate_succ', List.append_assoc, List.set_append_right _ _ (by simp)]; simp
theorem fill_set {o : List Int} {k : Nat} (h : k + 1 < o.length) : (fillN o (k + 1)).set (k + 1) (nth o (k + 1)) = fillN o k := by
  unfold fillN; rw [set_mid, ← drop_at o (k + 1) h]
theorem fill_all {o : List Int} (h : 0 < o.length) : (fillN o 0).set 0 (nth o 0) = o := by
  unfold fillN; rw [set_mid, ← drop_at o 0 h]; simp
/-- The bytes, place by place. -/
theorem one_at {c : Int} {n k : Nat} (hn : rowC c = n) (hk : k + 1 ≤ n) : nth (oneN π c) (k + 1) = 160 + c / p32 (n - (k + 1)) % 32 := by
  have hr := rowC_iff c
  have hle := rowC_le c
  have : n = 1 ∨ n = 2 ∨ n = 3 ∨ n = 4 := by omega
  rcases this with rfl | rfl | rfl | rfl
  · have g1 : ¬ c < 160 := by omega
    have g2 : c < 1024 := by omega
    have : k = 0 := by omega
    subst this
    simp [oneN, g1, g2, nth, p32]
  · have g1 : ¬ c < 160 := by omega
    have g2 : ¬ c < 1024 := by omega
    have g3 : c < 16384 := by omega
    have : k = 0 ∨ k = 1 := by omega
    rcases this with rfl | rfl <;> simp [oneN, g1, g2, g3, nth, p32]
  · have g1 : ¬ c < 160 := by omega
    have g2 : ¬ c < 1024 := by omega
    have g3 : ¬ c < 16384 := by omega
    have g4 : c < 262144 := by omega
    have : k = 0 ∨ k = 1 ∨ k = 2 := by omega
    rcases this with rfl | rfl | rfl <;> simp [oneN, g1, g2, g3, g4, nth, p32]
  · have g1 : ¬ c < 160 := by omega
    have g2 : ¬ c < 1024 := by omega
    have g3 : ¬ c < 16384 := by omega
    have g4 : ¬ c < 262144 := by omega
    have : k = 0 ∨ k = 1 ∨ k = 2 ∨ k = 3 := by omega
    rcases this with rfl | rfl | rfl | rfl <;> simp [oneN, g1, g2, g3, g4, nth, p32]
theorem one_head {c : Int} {n : Nat} (hn : rowC c = n) : nth (oneN π c) 0 = leadN n + c / p32 n := by
  have hr := rowC_iff c
  have hle := rowC_le c
  have : n = 0 ∨ n = 1 ∨ n = 2 ∨ n = 3 ∨ n = 4 := by omega
  rcases this with rfl | rfl | rfl | rfl | rfl
  · have g1 : c < 160 := by omega
    simp [oneN, g1, nth, p32, leadN]
  · have g1 : ¬ c < 160 := by omega
    have g2 : c < 1024 := by omega
    simp [oneN, g1, g2, nth, p32, leadN]
  · have g1 : ¬ c < 160 := by omega
    have g2 : ¬ c < 1024 := by omega
    have g3 : c < 16384 := by omega
    simp [oneN, g1, g2, g3, nth, p32, leadN]
  · have g1 : ¬ c < 160 := by omega
    have g2 : ¬ c < 1024 := by omega
    have g3 : ¬ c < 16384 := by omega
    have g4 : c < 262144 := by omega
    simp [oneN, g1, g2, g3, g4, nth, p32, leadN]
  · have g1 : ¬ c < 160 := by omega
    have g2 : ¬ c < 1024 := by omega
    have g3 : ¬ c < 16384 := by omega
    have g4 : ¬ c < 262144 := by omega
    simp [oneN, g1, g2, g3, g4, nth, p32, leadN]
theorem and5w {c : Int} (h0 : 0 ≤ c) (h1 : c < 4294967296) : bits .and .u32 c 31 = c % 32 :=
  bits_mask .u32 32 (by decide) (fun n h0 h1 => by rw [IntKind.wrap_u32]; omega) 5 (by decide) c h0 h1
theorem or_b (i : Nat) (x y : Int) (hi : i ≤ 8) (hx0 : 0 ≤ x) (hx : x % 2 ^ i = 0) (hx1 : x < 256) (hy0 : 0 ≤ y) (hy : y < 2 ^ i) (hy1 : y < 256) : bits .or .u8 x y = x + y :=
  bits_join .u8 8 (by decide) (fun n h0 h1 => by rw [IntKind.wrap_u8]; omega) i x y hx0 hx hx1 hy0 hy hy1
theorem or_lead {c : Int} {n : Nat} (h0 : 0 ≤ c) (h1 : c ≤ 1114111) (hn : rowC c = n) : 0 ≤ c / p32 n ∧ c / p32 n < 256 ∧ bits .or .u8 (leadN n) (c / p32 n) = leadN n + c / p32 n := by
  have hr := rowC_iff c
  have hle := rowC_le c
  have : n = 0 ∨ n = 1 ∨ n = 2 ∨ n = 3 ∨ n = 4 := by omega
  rcases this with rfl | rfl | rfl | rfl | rfl
  · simp only [p32, leadN, if_true]; exact ⟨by omega, by omega, or_b 8 _ _ (by decide) (by decide) (by decide) (by decide) (by omega) (by omega) (by omega)⟩
  · simp [p32, leadN]; exact ⟨by omega, by omega, or_b 5 _ _ (by decide) (by decide) (by decide) (by decide) (by omega) (by omega) (by omega)⟩
  · simp [p32, leadN]; exact ⟨by omega, by omega, or_b 4 _ _ (by decide) (by decide) (by decide) (by decide) (by omega) (by omega) (by omega)⟩
  · simp [p32, leadN]; exact ⟨by omega, by omega, or_b 3 _ _ (by decide) (by decide) (by decide) (by decide) (by omega) (by omega) (by omega)⟩
  · simp [p32, leadN]; exact ⟨by omega, by omega, or_b 2 _ _ (by decide) (by decide) (by decide) (by decide) (by omega) (by omega) (by omega)⟩
theorem shr_p32 {c : Int} {n k : Nat} (hk : k + 1 ≤ n) (hn : n ≤ 4) : c / p32 (n - (k + 1)) / 32 = c / p32 (n - k) := by
  obtain ⟨j, hj⟩ : ∃ j, n - (k + 1) = j := ⟨_, rfl⟩
  have hj2 : n - k = j + 1 := by omega
  rw [hj, hj2]
  have : j = 0 ∨ j = 1 ∨ j = 2 ∨ j = 3 := by omega
  rcases this with rfl | rfl | rfl | rfl <;> simp [p32] <;> omega
/-- So many zeros. -/
def zs (n : Nat) : Array Value := (List.replicate (n + 1) (Value.int .u8 0)).toArray
theorem zs_at {n j : Nat} (h : j < n + 1) : (zs n)[j]? = some (.int .u8 0) := by simp [zs, h]
theorem mk0 (w1 : World) : (Instr.makeSlice 57 (.int .i64 (((0 : Nat) : Int) + 1)) (.int .i64 (((0 : Nat) : Int) + 1))).run Tryd.prog w1 = .ok (.slice (some ⟨w1.heap.size, 0, none⟩) (0 + 1) (0 + 1)) (w1.alloc (.cells (zs 0) 5)) := by kernel_rfl
theorem mk1 (w1 : World) : (Instr.makeSlice 57 (.int .i64 (((1 : Nat) : Int) + 1)) (.int .i64 (((1 : Nat) : Int) + 1))).run Tryd.prog w1 = .ok (.slice (some ⟨w1.heap.size, 0, none⟩) (1 + 1) (1 + 1)) (w1.alloc (.cells (zs 1) 5)) := by kernel_rfl
theorem mk2 (w1 : World) : (Instr.makeSlice 57 (.int .i64 (((2 : Nat) : Int) + 1)) (.int .i64 (((2 : Nat) : Int) + 1))).run Tryd.prog w1 = .ok (.slice (some ⟨w1.heap.size, 0, none⟩) (2 + 1) (2 + 1)) (w1.alloc (.cells (zs 2) 5)) := by kernel_rfl
theorem mk3 (w1 : World) : (Instr.makeSlice 57 (.int .i64 (((3 : Nat) : Int) + 1)) (.int .i64 (((3 : Nat) : Int) + 1))).run Tryd.prog w1 = .ok (.slice (some ⟨w1.heap.size, 0, none⟩) (3 + 1) (3 + 1)) (w1.alloc (.cells (zs 3) 5)) := by kernel_rfl
theorem mk4 (w1 : World) : (Instr.makeSlice 57 (.int .i64 (((4 : Nat) : Int) + 1)) (.int .i64 (((4 : Nat) : Int) + 1))).run Tryd.prog w1 = .ok (.slice (some ⟨w1.heap.size, 0, none⟩) (4 + 1) (4 + 1)) (w1.alloc (.cells (zs 4) 5)) := by kernel_rfl
theorem mk_any {n : Nat} (h : n ≤ 4) (w1 : World) : (Instr.makeSlice 57 (.int .i64 ((n : Int) + 1)) (.int .i64 ((n : Int) + 1))).run Tryd.prog w1 = .ok (.slice (some ⟨w1.heap.size, 0, none⟩) (n + 1) (n + 1)) (w1.alloc (.cells (zs n) 5)) := by
  have : n = 0 ∨ n = 1 ∨ n = 2 ∨ n = 3 ∨ n = 4 := by omega
  rcases this with rfl | rfl | rfl | rfl | rfl
  · exact mk0 w1
  · exact mk1 w1
  · exact mk2 w1
  · exact mk3 w1
  · exact mk4 w1
set_option maxHeartbeats 4000000 in
set_option maxRecDepth 100000 in
theorem spell_any (c : Int) (w : World) (hT : Tabs w) (h0 : 0 ≤ c) (hi : isB c = true) :
    Calls Tryd.prog 74 #[.int .u32 c] w fun e w' => e = .returned (.string (Stp.strOf (oneN π c))) ∧ Below w.heap.size w w' := by
  have h1 := isB_le hi
  obtain ⟨n, hn⟩ : ∃ n, rowC c = n := ⟨_, rfl⟩
  have hn4 : n ≤ 4 := by rw [← hn]; exact rowC_le c
  have HC : Hid (0 ≤ c ∧ c ≤ 1114111 ∧ rowC c = n) := ⟨h0, h1.1, hn⟩
  have HO : Hid ((oneN π c).length = n + 1) := by show _ = _; rw [oneN_length, hn]
  have HR := rowOf_any c w h0 hT
  rw [hn] at HR
  have hmk := fun w1 : World => mk_any hn4 w1
  have HT : Hid (Tabs w) := hT
  clear h1 hi hn hT h0
  obtain ⟨H, hH⟩ : ∃ H, H = w.heap.size := ⟨_, rfl⟩
  have HH : Hid (H = w.heap.size) := hH
  clear hH
  go_enter Tryd.func74, Tryd.ntmps74
  go_wp2_with fail
  refine HR.mono ?_
  rintro e w1 ⟨rfl, hw1⟩
  rw [hw1]
  clear HR hw1 w1
  go_wp2
  rw [← HH.out]
  go_loopw [0, 5] (fun x i wr => ∃ k : Nat, i = .int .i64 k ∧ k ≤ n ∧ x = .int .u32 (c / p32 (n - k)) ∧ Seg .u8 wr (.slice (some ⟨H, 0, none⟩) (n + 1) (n + 1)) (fillN (oneN π c) k) ∧ Below w.heap.size w wr) (fun _ i _ => (intOf i).toNat)
  case atStart =>
    refine ⟨n, rfl, Nat.le_refl _, by simp [p32], .inr ⟨H, 0, n + 1, by rw [fill_top HO.out]; simp, by rw [HH.out]; simp, by rw [fill_top HO.out]; simp, by unfold maxLen; simp; omega, fun j hj => ?_, fun j hj => ?_, fun o => by rw [HH.out]; simp⟩, (Below.refl _ _).alloc (Nat.le_refl _) _⟩
    · rw [HH.out, Nat.zero_add, World.cell?_alloc_new]
      rw [fill_top HO.out] at hj ⊢
      simp at hj
      simp [zs, nth, hj]
    · rw [HH.out, Nat.zero_add, World.cell?_alloc_new]
      simp [zs]; omega
  case round =>
    obtain ⟨k, rfl, hk, rfl, hS, hB⟩ := hrel
    have HS : Hid (Seg .u8 wr (.slice (some ⟨H, 0, none⟩) (n + 1) (n + 1)) (fillN (oneN π c) k) ∧ Below w.heap.size w wr) := ⟨hS, hB⟩
    clear hS hB
    have hkl : k < (fillN (oneN π c) k).length := by rw [fill_length (by rw [HO.out]; omega), HO.out]; omega
    obtain ⟨g, o, e, c1, f1⟩ := HS.out.1.at (j := k) hkl
    simp only [Option.some.injEq, Addr.mk.injEq] at e
    obtain ⟨rfl, rfl, -⟩ := e
    rw [Nat.zero_add] at c1 f1
    obtain ⟨x, hx⟩ : ∃ x, c / p32 (n - k) = x := ⟨_, rfl⟩
    have hp := (p32_pow (k := n - k) (by omega)).2.1
    have hx0 : 0 ≤ x := by rw [← hx]; exact Int.ediv_nonneg HC.out.1 (by omega)
    have hx1 : x ≤ 1114111 := by
      rw [← hx]
      exact Int.le_trans (Int.ediv_le_self _ HC.out.1) HC.out.2.1
    by_cases hlt : (k : Int) > 0
    · obtain ⟨j, rfl⟩ : ∃ j, k = j + 1 := ⟨k - 1, by omega⟩
      have ha : bits .and .u32 x 31 = x % 32 := and5w hx0 (by omega)
      have ho : bits .or .u8 160 (x % 32) = nth (oneN π c) (j + 1) := by
        rw [one_at HC.out.2.2 hk, hx]; exact or_b 5 _ _ (by decide) (by decide) (by decide) (by decide) (by omega) (by omega) (by omega)
      have hs2 := HS.out.1.set (nth (oneN π c) (j + 1)) hkl
      rw [fill_set (by rw [HO.out]; omega), Nat.zero_add] at hs2
      have HN : Hid (Seg .u8 (wr.setCell ⟨H, j + 1, none⟩ (.int .u8 (nth (oneN π c) (j + 1)))) (.slice (some ⟨H, 0, none⟩) (n + 1) (n + 1)) (fillN (oneN π c) j) ∧ Below w.heap.size w (wr.setCell ⟨H, j + 1, none⟩ (.int .u8 (nth (oneN π c) (j + 1)))) ∧ x / 32 = c / p32 (n - j)) :=
        ⟨hs2, HS.out.2.setCell (p := ⟨H, j + 1, none⟩) (by show w.heap.size ≤ H; rw [HH.out]; exact Nat.le_refl _) _, by rw [← hx]; exact shr_p32 hk hn4⟩
      rw [hx]
      have HOR : Hid (bits .or .u8 160 (x % 32) = nth (oneN π c) (j + 1)) := ho
      clear hx hp hs2 hkl ho HS
      go_wp2
      rw [HOR.out]
      exact ⟨⟨j, rfl, by omega, by rw [HN.out.2.2], HN.out.1, HN.out.2.1⟩, by simp [intOf]⟩
    · obtain rfl : k = 0 := by omega
      obtain ⟨p0, p1, p2⟩ := or_lead HC.out.1 HC.out.2.1 HC.out.2.2
      have hx' : c / p32 n = x := hx
      rw [hx'] at p0 p1 p2
      rw [hx]
      have hs2 := HS.out.1.set (nth (oneN π c) 0) hkl
      rw [fill_all (by rw [HO.out]; omega), Nat.zero_add] at hs2
      have hcv := run_string _ _ (n + 1) (n + 1) (oneN π c) (seg_rowU hs2) HO.out
      have HBB : Hid (Below w.heap.size w (wr.setCell ⟨H, 0, none⟩ (.int .u8 (nth (oneN π c) 0)))) := HS.out.2.setCell (p := ⟨H, 0, none⟩) (by show w.heap.size ≤ H; rw [HH.out]; exact Nat.le_refl _) _
      have hTw := HT.out.below HS.out.2
      have hor : bits .or .u8 (leadN n) x = nth (oneN π c) 0 := by rw [p2, one_head HC.out.2.2, hx']
      clear hx hx' hp hs2 hkl HS p2
      have hcs : n = 0 ∨ n = 1 ∨ n = 2 ∨ n = 3 ∨ n = 4 := by omega
      rcases hcs with rfl | rfl | rfl | rfl | rfl
      · have ht := hTw.b0
        have hor' : bits .or .u8 0 x = nth (oneN π c) 0 := hor
        clear hor
        simp only [Nat.reduceAdd] at hcv
        go_wp2
        go_ret
        exact ⟨rfl, HBB.out⟩
      · have ht := hTw.b1
        have hor' : bits .or .u8 192 x = nth (oneN π c) 0 := hor
        clear hor
        simp only [Nat.reduceAdd] at hcv
        go_wp2
        go_ret
        exact ⟨rfl, HBB.out⟩
      · have ht := hTw.b2
        have hor' : bits .or .u8 224 x = nth (oneN π c) 0 := hor
        clear hor
        simp only [Nat.reduceAdd] at hcv
        go_wp2
        go_ret
        exact ⟨rfl, HBB.out⟩
      · have ht := hTw.b3
        have hor' : bits .or .u8 240 x = nth (oneN π c) 0 := hor
        clear hor
        simp only [Nat.reduceAdd] at hcv
        go_wp2
        go_ret
        exact ⟨rfl, HBB.out⟩
      · have ht := hTw.b4
        have hor' : bits .or .u8 248 x = nth (oneN π c) 0 := hor
        clear hor
        simp only [Nat.reduceAdd] at hcv
        go_wp2
        go_ret
        exact ⟨rfl, HBB.out⟩
end M8
end Go.Proofs.YtjbgcclbomimiaaDoor
