/-
  The contract of diff.Range, as a walk over the translated text. The conditions: the tables are as the program's text lays them; texts are of at most a million bytes.
-/
import Derived.Test.YtlifobdooophbaaDoorDif2
import Derived.Test.YtlifobdooophbaaDoorDif3
import Derived.Lib.ConvBytes
namespace Go.Proofs.YtlifobdooophbaaDoor
open Go.ChangeShapes Go.WideShapes Go.ChangeAt Go.RowKit
namespace Dif
open Bas Txt
set_option linter.unusedVariables false

/-- What Range tells, as a value. -/
def rngV (R : Option (Int × Int × Nat)) : Value := match R with
  | none => .tuple #[.int .i64 0, .int .i64 0, .int .i64 0, .bool false]
  | some (x, y, n) => .tuple #[.int .i64 x, .int .i64 y, .int .i64 n, .bool true]
theorem row_least {b : Int} {i : Nat} (h : rowW b = (i : Int)) : i < 7 ∧ ltI b = (trN i : Int) ∧ lbI b = leastI i + (b - fromI i) * (p243 (trN i) : Int) ∧ fromI i ≤ b ∧ b ≤ toI i := by
  have hi : i < 7 := by
    unfold rowW at h; repeat' split at h
    all_goals omega
  have hcs : i = 0 ∨ i = 1 ∨ i = 2 ∨ i = 3 ∨ i = 4 ∨ i = 5 ∨ i = 6 := by omega
  refine ⟨hi, ?_⟩
  rcases hcs with rfl | rfl | rfl | rfl | rfl | rfl | rfl
  · show ltI b = 3 ∧ lbI b = -14536567 + (b - 33) * 14348907 ∧ 33 ≤ b ∧ b ≤ 33
    unfold rowW at h; repeat' split at h
    all_goals first | (exfalso; omega) | skip
    unfold ltI lbI; repeat' split
    all_goals omega
  · show ltI b = 2 ∧ lbI b = -187660 + (b - 34) * 59049 ∧ 34 ≤ b ∧ b ≤ 36
    unfold rowW at h; repeat' split at h
    all_goals first | (exfalso; omega) | skip
    unfold ltI lbI; repeat' split
    all_goals omega
  · show ltI b = 1 ∧ lbI b = -10513 + (b - 37) * 243 ∧ 37 ≤ b ∧ b ≤ 79
    unfold rowW at h; repeat' split at h
    all_goals first | (exfalso; omega) | skip
    unfold ltI lbI; repeat' split
    all_goals omega
  · show ltI b = 0 ∧ lbI b = -64 + (b - 80) * 1 ∧ 80 ≤ b ∧ b ≤ 207
    unfold rowW at h; repeat' split at h
    all_goals first | (exfalso; omega) | skip
    unfold ltI lbI; repeat' split
    all_goals omega
  · show ltI b = 1 ∧ lbI b = 64 + (b - 208) * 243 ∧ 208 ≤ b ∧ b ≤ 250
    unfold rowW at h; repeat' split at h
    all_goals first | (exfalso; omega) | skip
    unfold ltI lbI; repeat' split
    all_goals omega
  · show ltI b = 2 ∧ lbI b = 10513 + (b - 251) * 59049 ∧ 251 ≤ b ∧ b ≤ 253
    unfold rowW at h; repeat' split at h
    all_goals first | (exfalso; omega) | skip
    unfold ltI lbI; repeat' split
    all_goals omega
  · show ltI b = 3 ∧ lbI b = 187660 + (b - 254) * 14348907 ∧ 254 ≤ b ∧ b ≤ 254
    unfold rowW at h; repeat' split at h
    all_goals first | (exfalso; omega) | skip
    unfold ltI lbI; repeat' split
    all_goals omega
theorem row_none {b : Int} (h : rowW b = -1) : ltI b = -1 := by
  unfold rowW at h; repeat' split at h
  all_goals first | (exfalso; omega) | skip
  unfold ltI; repeat' split
  all_goals omega
theorem rowW_cases (b : Int) : rowW b = -1 ∨ ∃ i : Nat, rowW b = (i : Int) := by
  have : -1 ≤ rowW b := by
    unfold rowW; repeat' split
    all_goals omega
  by_cases h : rowW b = -1
  · exact .inl h
  · exact .inr ⟨(rowW b).toNat, by omega⟩
theorem bytesL_cons {s : ByteArray} (h : 0 < s.size) : bytesL s = nth (bytesL s) 0 :: (bytesL s).drop 1 := by
  have := drop_at (bytesL s) 0 (by rw [bytesL_length]; exact h)
  rwa [List.drop_zero] at this
theorem rng_not {b : Int} {r : List Int} (h : ltI b = -1) : rngL (b :: r) = none := by
  simp only [rngL]; rw [if_pos (by omega)]
theorem rng_is {b : Int} {r : List Int} {t : Nat} (h : ltI b = (t : Int)) : rngL (b :: r) = (rngF t (lbI b) r).map fun x => (x.1, x.2, t + 1) := by
  simp only [rngL]; rw [if_neg (by omega), h, Int.toNat_natCast]
theorem ret_rng {R : Option (Int × Int × Nat)} (h : R = none) : Ending.returned (.tuple #[.int .i64 0, .int .i64 0, .int .i64 0, .bool false]) = .returned (rngV R) := by rw [h]; rfl
theorem ret_rng2 {R : Option (Int × Int × Nat)} {x y z : Int} {a b : Int} {n : Nat} (h : R = some (a, b, n)) (h1 : x = a) (h2 : y = b) (h3 : z = (n : Int)) : Ending.returned (.tuple #[.int .i64 x, .int .i64 y, .int .i64 z, .bool true]) = .returned (rngV R) := by rw [h, h1, h2, h3]; rfl

theorem results_tmp4 {fn : Func} {t u v x : Tmp} (h : fn.results = #[.tmp t, .tmp u, .tmp v, .tmp x]) (tmps : Array Value) (P : Program) (w : World) :
    (results fn tmps).run P w = .ok (.tuple #[tmps.getD t undef, tmps.getD u undef, tmps.getD v undef, tmps.getD x undef]) w := by
  simp [results, h]
/-- The bytes of a text, in new memory. -/
theorem run_bytes (w : World) (s : ByteArray) : ∃ c W, (convert 9 46 (.string s)).run Tryd.prog w = .ok (.slice (some ⟨w.heap.size, 0, none⟩) s.size c) W ∧ Below w.heap.size w W ∧ ∀ j, j < s.size → W.cell? ⟨w.heap.size, j, none⟩ = some (.int .u8 (nth (bytesL s) j)) := by
  refine ⟨_, _, Lib.run_convert_string_bytes (P := Tryd.prog) w 9 46 5 s (u := .string) Tryd.underlying9 Tryd.underlying46 Tryd.underlying5, ⟨rfl, rfl, rfl, ?_, fun k hk => Lib.bytesWorld_at_old w 5 s k hk⟩, fun j hj => ?_⟩
  · simp [Lib.bytesWorld, World.freeze, World.alloc, World.drew, -World.alloc_eq, -World.drew_eq]
  · rw [Lib.bytesWorld_cell w 5 s j hj, ← str_nth s j hj]
    have h' : j < s.data.size := hj
    have e : s.data.toList.getD j 0 = s[j]'hj := by
      rw [List.getD_eq_getElem?_getD, Array.getElem?_toList, Array.getElem?_eq_getElem h']; rfl
    rw [e]
theorem ext_bytes (s : ByteArray) : bytesL (s.extract 1 s.size) = (bytesL s).drop 1 := by
  unfold bytesL
  rw [ByteArray.data_extract, Array.toList_extract, List.extract_eq_take_drop, List.map_take, List.map_drop]
  rw [List.take_of_length_le]
  rw [List.length_drop, List.length_map, Array.length_toList]
  exact Nat.le_refl _
theorem nth_drop1 (l : List Int) (k j : Nat) : nth (l.drop k) j = nth l (k + j) := by simp [nth]

set_option maxHeartbeats 1000000 in
theorem range_nil (w : World) : Calls Tryd.prog 68 #[.string { data := #[] }] w fun e w' => e = .returned (rngV none) ∧ w' = w := by
  go_enter Tryd.func68, Tryd.ntmps68
  go_wp2
  (try simp only [Exit.inBlock, Exit.then])
  refine bodyPost_ret (results_tmp4 rfl _ _ _) rfl ?_
  exact ⟨ret_rng rfl, rfl⟩
theorem size_ne {s : ByteArray} (h : 0 < s.size) : ¬ s.toList = [] ∧ s.toList.isEmpty = false ∧ (s.toList == []) = false := by
  have h1 : ¬ s.toList = [] := by
    intro e
    rw [ByteArray.toList_eq] at e
    have : s.data.toList.length = 0 := by rw [e]; rfl
    have h2 : s.data.size = s.size := rfl
    simp at this
    have h3 : s.data.size = 0 := by rw [this]; rfl
    omega
  refine ⟨h1, ?_, ?_⟩
  · cases hh : s.toList with
    | nil => exact absurd hh h1
    | cons a r => rfl
  · cases hh : s.toList with
    | nil => exact absurd hh h1
    | cons a r => rfl
set_option maxHeartbeats 4000000 in
set_option maxRecDepth 100000 in
theorem range_any (s : ByteArray) (w : World) (hT : Tabs w) (h0 : 0 < s.size) (hs : s.size ≤ 1000000) :
    Calls Tryd.prog 68 #[.string s] w fun e w' => e = .returned (rngV (rngL (bytesL s))) ∧ Below w.heap.size w w' := by
  have HT : Hid (Tabs w) := hT
  have HLN : Hid ((bytesL s).length = s.size) := bytesL_length s
  have HC : Hid (bytesL s = nth (bytesL s) 0 :: (bytesL s).drop 1) := bytesL_cons h0
  have hb := bytesL_byte s _ (nth_mem (l := bytesL s) (i := 0) (by rw [bytesL_length]; exact h0))
  have e1 : ((s[0]'h0).toNat : Int) = nth (bytesL s) 0 := str_nth s 0 h0
  obtain ⟨hn1, hn2, hn3⟩ := size_ne h0
  obtain ⟨b, hbe⟩ : ∃ b, nth (bytesL s) 0 = b := ⟨_, rfl⟩
  rw [hbe] at hb e1 HC
  obtain ⟨R, hR⟩ : ∃ R, rngL (bytesL s) = R := ⟨_, rfl⟩
  rw [hR]
  have HR : Hid (R = rngL (b :: (bytesL s).drop 1)) := by show _ = _; rw [← HC.out, hR]
  clear hR hbe hT
  have HRW : Hid (∀ w, Tabs w → Calls Tryd.prog 75 #[.int .u8 b] w fun e w' => e = .returned (.int .i64 (rowW b)) ∧ Below w.heap.size w w') := fun w hT => rowWith_any b w hT hb.1 hb.2
  rcases rowW_cases b with hrw | ⟨i, hrw⟩
  · have HN : Hid (R = none) := by show _ = _; rw [HR.out]; exact rng_not (row_none hrw)
    rw [hrw] at HRW
    clear hrw
    go_enter Tryd.func68, Tryd.ntmps68
    go_wp2_with fail
    refine (HRW.out w HT.out).mono ?_
    rintro e w1 ⟨rfl, hB1⟩
    have HB1 : Hid (Below w.heap.size w w1) := hB1
    clear hB1
    go_wp2
    (try simp only [Exit.inBlock, Exit.then])
    refine bodyPost_ret (results_tmp4 rfl _ _ _) rfl ?_
    exact ⟨ret_rng HN.out, HB1.out⟩
  · obtain ⟨hi, ht, hlb, hf1, hf2⟩ := row_least hrw
    rw [hrw] at HRW
    have htl := trN_le i
    have HS : Hid (R = (rngF (trN i) (lbI b) ((bytesL s).drop 1)).map fun x => (x.1, x.2, trN i + 1)) := by show _ = _; rw [HR.out]; exact rng_is ht
    rw [hlb] at HS
    clear hlb ht hrw HR
    have hfg := fr_rng hi
    have hil : ((i : Int) == -1) = false := by rw [beq_eq_false_iff_ne]; omega
    have hil2 : ¬ (i : Int) = -1 := by omega
    have i7 : (i : Int) < 7 := by omega
    have hlv : -14536567 ≤ leastI i ∧ leastI i ≤ 187660 := by
      have hcs : i = 0 ∨ i = 1 ∨ i = 2 ∨ i = 3 ∨ i = 4 ∨ i = 5 ∨ i = 6 := by omega
      rcases hcs with rfl | rfl | rfl | rfl | rfl | rfl | rfl <;> decide
    have HCL : Hid (∀ w, Tabs w → w.cell? ⟨0, i * 4, none⟩ = some (.int .u8 (fromI i)) ∧ w.cell? ⟨0, i * 4 + 1, none⟩ = some (.int .u8 (toI i)) ∧ w.cell? ⟨0, i * 4 + 2, none⟩ = some (.int .i64 (trN i)) ∧ w.cell? ⟨0, i * 4 + 3, none⟩ = some (.int .i64 (leastI i))) := fun w hT => ⟨hT.a i hi, hT.b i hi, hT.c i hi, hT.d i hi⟩
    obtain ⟨F, hF⟩ : ∃ F, fromI i = F := ⟨_, rfl⟩
    obtain ⟨G, hG⟩ : ∃ G, toI i = G := ⟨_, rfl⟩
    obtain ⟨t, hte⟩ : ∃ t, trN i = t := ⟨_, rfl⟩
    obtain ⟨V, hV⟩ : ∃ V, leastI i = V := ⟨_, rfl⟩
    rw [hF] at HCL HS hf1 hfg
    rw [hG] at HCL hf2 hfg
    rw [hte] at HCL HS htl
    rw [hV] at HCL HS hlv
    clear hF hG hte hV
    go_enter Tryd.func68, Tryd.ntmps68
    go_wp2_with fail
    refine (HRW.out w HT.out).mono ?_
    rintro e w1 ⟨rfl, hB1⟩
    have HB1 : Hid (Below w.heap.size w w1 ∧ Tabs w1) := ⟨hB1, HT.out.below hB1⟩
    clear hB1 HRW
    obtain ⟨c0, c1, c2, c3⟩ := HCL.out w1 HB1.out.2
    by_cases hlong : t < s.size - 1
    · have HN : Hid (R = none) := by
        show _ = _
        rw [HS.out, rngF_long _ _ _ (by rw [List.length_drop, HLN.out]; exact hlong)]; rfl
      have i8 : (t : Int) < (s.size : Int) - 1 := by omega
      go_wp2
      (try simp only [Exit.inBlock, Exit.then])
      refine bodyPost_ret (results_tmp4 rfl _ _ _) rfl ?_
      exact ⟨ret_rng HN.out, HB1.out.1⟩
    · have i8 : (s.size : Int) - 1 ≤ (t : Int) := by omega
      have hp := p243_pos t
      have hple := p243_le htl
      have HSP : Hid (∀ w, Calls Tryd.prog 73 #[.int .i64 t] w fun e w' => e = .returned (.int .i64 (p243 t)) ∧ w' = w) := fun w => span_any t w htl
      obtain ⟨p, hpe⟩ : ∃ p, p243 t = p := ⟨_, rfl⟩
      have HPP : Hid (p243 t = p) := hpe
      rw [hpe] at hp hple HSP HS
      clear hpe
      obtain ⟨y, hy⟩ : ∃ y : Nat, b - F = (y : Int) := ⟨(b - F).toNat, by omega⟩
      have hyl : y ≤ 255 := by omega
      obtain ⟨z, hz⟩ : ∃ z : Nat, (y : Int) * (p : Int) = (z : Int) := ⟨y * p, by rw [Int.natCast_mul]⟩
      have hzl : z ≤ 255 * 14348907 := by
        have h1 : y * p ≤ 255 * 14348907 := Nat.mul_le_mul hyl hple
        have h2 : ((y * p : Nat) : Int) = (z : Int) := by rw [Int.natCast_mul]; exact hz
        omega
      rw [hy, hz] at HS
      go_wp2_with fail
      refine (HSP.out _).mono ?_
      rintro e w2 ⟨rfl, hw⟩
      rw [hw]
      clear hw w2
      have ew : IntKind.u8.wrap (b - F) = (y : Int) := by rw [IntKind.wrap_u8, hy]; omega
      go_upto_region 8 with fail
      go_quiet (fail)
      rw [show decide ((t : Int) < (s.size : Int) - 1) = false by rw [decide_eq_false_iff_not]; omega]
      obtain ⟨W0, hW0⟩ : ∃ W0, (w1.alloc (.cells #[.int .u8 F, .int .u8 G, .int .i64 t, .int .i64 V] 124)).drewN nq = W0 := ⟨_, rfl⟩
      rw [hW0]
      have HB0 : Hid (Below w.heap.size w W0 ∧ Tabs W0) := by
        have : Below w1.heap.size w1 W0 := by rw [← hW0]; exact below_two ((Below.refl _ _).alloc (Nat.le_refl _) _) (below_dn _ _)
        exact ⟨below_two HB1.out.1 this, HB1.out.2.below this⟩
      have hc2 : W0.cell? ⟨w1.heap.size, 2, none⟩ = some (.int .i64 t) := by rw [← hW0]; simp
      clear hW0 c0 c1 c2 c3 ew HSP HCL HB1
      obtain ⟨M, hM⟩ : ∃ M, w1.heap.size = M := ⟨_, rfl⟩
      rw [hM] at hc2 ⊢
      clear hM
      obtain ⟨u, hu⟩ : ∃ u, s.extract 1 s.size = u := ⟨_, rfl⟩
      have HU : Hid (bytesL u = (bytesL s).drop 1) := by show _ = _; rw [← hu]; exact ext_bytes s
      have HUN : Hid (u.size = s.size - 1) := by
        have h1 := congrArg List.length HU.out
        rw [bytesL_length, List.length_drop, HLN.out] at h1
        exact h1
      obtain ⟨cu, W, hcv, hBW, hcell⟩ := run_bytes W0 u
      have HCE : Hid (∀ j, j < u.size → W.cell? ⟨W0.heap.size, j, none⟩ = some (.int .u8 (nth (bytesL u) j))) := hcell
      have HBW : Hid (Below W0.heap.size W0 W) := hBW
      have HBT : Hid (Below w.heap.size w W ∧ Tabs W) := ⟨below_two HB0.out.1 hBW, HB0.out.2.below hBW⟩
      have HC2 : Hid (W.cell? ⟨M, 2, none⟩ = some (.int .i64 t)) := cell_later hBW hc2
      clear hcell hBW hc2 HB0
      have hul : u.size ≤ t := by have := HUN.out; omega
      have i9 : (1 : Int) ≤ (s.size : Int) := by omega
      go_wp2
      obtain ⟨lo0, hlo0⟩ : ∃ lo0 : Int, V + (z : Int) = lo0 := ⟨_, rfl⟩
      have HLO : Hid (-14536567 ≤ lo0 ∧ lo0 + (p243 t : Int) ≤ 3700000000) := by rw [HPP.out]; exact ⟨by omega, by omega⟩
      rw [hlo0] at HS ⊢
      rw [← HPP.out]
      clear hy hz hzl hyl hlo0 hp hple HPP hcv hu hlv hfg hf1 hf2 e1 hn1 hn2 hn3 hil hil2
      have HNX : Hid (R = (rngF t lo0 (bytesL u)).map fun x => (x.1, x.2, t + 1)) := by show _ = _; rw [HU.out]; exact HS.out
      clear HS HC HUN HU HLN
      have HUL : Hid ((bytesL u).length = u.size) := bytesL_length u
      have HUB : Hid (∀ x ∈ bytesL u, 0 ≤ x ∧ x < 256) := bytesL_byte u
      obtain ⟨D, hD⟩ : ∃ D, bytesL u = D := ⟨_, rfl⟩
      rw [hD] at HNX HUL HCE HUB
      clear hD
      obtain ⟨B, hB⟩ : ∃ B, W0.heap.size = B := ⟨_, rfl⟩
      rw [hB] at HCE ⊢
      clear hB
      obtain ⟨N, hN⟩ : ∃ N, u.size = N := ⟨_, rfl⟩
      rw [hN] at HCE HUL hul ⊢
      have hNs : N ≤ 3 := by omega
      go_loopw [2, 8, 51] (fun x y j wr => ∃ (lo : Int) (m k : Nat), x = .int .i64 lo ∧ y = .int .i64 (p243 m) ∧ j = .int .i64 k ∧ k + m = t ∧ k ≤ N ∧ -14536567 ≤ lo ∧ lo + (p243 m : Int) ≤ 3700000000 ∧ R = (rngF m lo (D.drop k)).map (fun x => (x.1, x.2, t + 1)) ∧ Below W.heap.size W wr) (fun _ _ j _ => N - (intOf j).toNat)
      case atStart => exact ⟨lo0, t, 0, rfl, rfl, rfl, Nat.zero_add _, Nat.zero_le _, HLO.out.1, HLO.out.2, HNX.out, Below.refl _ _⟩
      case round =>
        clear HLO HNX
        obtain ⟨lo, m, k, rfl, rfl, rfl, hkm, hkN, hlo1, hlo2, hRk, hBk⟩ := hrel
        have HRK : Hid (R = (rngF m lo (D.drop k)).map (fun x => (x.1, x.2, t + 1))) := hRk
        have HBK : Hid (Below W.heap.size W wr) := hBk
        clear hRk hBk
        by_cases hlt : k < N
        · obtain ⟨m, rfl⟩ : ∃ m', m = m' + 1 := ⟨m - 1, by omega⟩
          have HTK : Hid (k + 1 + m = t) := (by omega : k + 1 + m = t)
          have hc := cell_later HBK.out (HCE.out k hlt)
          have hxb := HUB.out _ (nth_mem (l := D) (i := k) (by rw [HUL.out]; exact hlt))
          have HDK : Hid (D.drop k = nth D k :: D.drop (k + 1)) := drop_at D k (by rw [HUL.out]; exact hlt)
          obtain ⟨x, hx⟩ : ∃ x, nth D k = x := ⟨_, rfl⟩
          rw [hx] at hc hxb HDK
          have HTR : Hid (∀ w, Tabs w → Calls Tryd.prog 76 #[.int .u8 x] w fun e w' => e = .returned (.tuple #[.int .i64 (worV x), .bool (worB x)]) ∧ Below w.heap.size w w') := fun w hT => trail_any x w hT hxb.1 hxb.2
          rw [HDK.out] at HRK
          clear hx HDK
          have i1 : (k : Int) < (N : Int) := by omega
          by_cases hw : wor x < 0
          · have HN : Hid (R = none) := by show _ = _; rw [HRK.out, rngF_none hw]; rfl
            have e1 : worB x = false := by unfold worB; rw [decide_eq_false_iff_not]; omega
            rw [e1] at HTR
            clear e1 hw HRK
            go_wp2_with fail
            refine (HTR.out wr (HBT.out.2.below HBK.out)).mono ?_
            rintro e w5 ⟨rfl, hB5⟩
            have HB5 : Hid (Below w.heap.size w w5) := below_two HBT.out.1 (below_two HBK.out hB5)
            clear hB5
            go_wp2
            (try simp only [Exit.inBlock, Exit.then])
            refine bodyPost_ret (results_tmp4 rfl _ _ _) rfl ?_
            exact ⟨ret_rng HN.out, HB5.out⟩
          · rw [rngF_more hw] at HRK
            have hwr := wor_rng x
            obtain ⟨v, hv⟩ : ∃ v : Nat, wor x = (v : Int) := ⟨(wor x).toNat, by omega⟩
            have e0 : worV x = (v : Int) := by unfold worV; rw [if_neg hw, hv]
            have e1 : worB x = true := by unfold worB; rw [decide_eq_true_iff]; omega
            rw [e0, e1] at HTR
            rw [hv] at HRK hwr
            have hv2 : v ≤ 242 := by omega
            have hp0l := p243_le (show m ≤ 3 by omega)
            have hpq : ((p243 (m + 1) : Nat) : Int) / 243 = ((p243 m : Nat) : Int) := by have := p243_half m; omega
            have hps := p243_succ m
            obtain ⟨P1, e1⟩ : ∃ P1, p243 (m + 1) = P1 := ⟨_, rfl⟩
            obtain ⟨P0, e0⟩ : ∃ P0, p243 m = P0 := ⟨_, rfl⟩
            have HE0 : Hid (p243 m = P0) := e0
            rw [e1] at hpq hps hlo2 ⊢
            rw [e0] at hpq hps hp0l HRK
            obtain ⟨Z, hZ⟩ : ∃ Z : Nat, (v : Int) * (P0 : Int) = (Z : Int) := ⟨v * P0, by rw [Int.natCast_mul]⟩
            have hZl : Z ≤ 242 * P0 := by
              have h1 : v * P0 ≤ 242 * P0 := Nat.mul_le_mul_right _ hv2
              have h2 : ((v * P0 : Nat) : Int) = (Z : Int) := by rw [Int.natCast_mul]; exact hZ
              omega
            rw [hZ] at HRK
            have HLL : Hid (-14536567 ≤ lo + (Z : Int) ∧ lo + (Z : Int) + (P0 : Int) ≤ 3700000000) := ⟨by omega, by omega⟩
            clear e0 e1 hps hw hv hwr hxb
            go_wp2_with fail
            refine (HTR.out wr (HBT.out.2.below HBK.out)).mono ?_
            rintro e w5 ⟨rfl, hB5⟩
            have HB5 : Hid (Below W.heap.size W w5) := below_two HBK.out hB5
            clear hB5 hc
            go_wp2
            go_roundw
            case rel => exact ⟨lo + (Z : Int), m, k + 1, rfl, by rw [HE0.out], by go_num, HTK.out, by omega, HLL.out.1, by rw [HE0.out]; exact HLL.out.2, HRK.out, HB5.out⟩
            case measure => simp [intOf]; omega
        · obtain rfl : k = N := by omega
          have HF : Hid (R = some (lo, lo + (p243 m : Int) - 1, t + 1)) := by
            show _ = _
            rw [HRK.out, List.drop_of_length_le (by rw [HUL.out]; exact Nat.le_refl _), rngF_nil]; rfl
          have hc2 := cell_later HBK.out HC2.out
          have hpl := p243_le (show m ≤ 3 by omega)
          obtain ⟨P0, e0⟩ : ∃ P0, p243 m = P0 := ⟨_, rfl⟩
          rw [e0] at HF hlo2 hpl ⊢
          clear e0 HRK
          have HBF : Hid (Below w.heap.size w wr) := below_two HBT.out.1 HBK.out
          go_upto_region 18 with fail
          go_quiet (fail)
          go_wp2
          (try simp only [Exit.inBlock, Exit.then])
          refine bodyPost_ret (results_tmp4 rfl _ _ _) rfl ?_
          exact ⟨ret_rng2 HF.out rfl rfl (by omega), below_two HBF.out (below_dn _ _)⟩
end Dif
end Go.Proofs.YtlifobdooophbaaDoor
