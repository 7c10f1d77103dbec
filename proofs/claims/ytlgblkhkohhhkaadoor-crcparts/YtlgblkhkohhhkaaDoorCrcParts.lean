/-
  How bytes are parted plays no part, whether they are handed in at once or one part behind the other: the statement CrcParts is proved, for every input. The condition is the card's own: the listed table is as the program's text lays it.
-/
import Derived.Test.YtlgblkhkohhhkaaDoorCrcRf
import Derived.Test.YtlgblkhkohhhkaaDoorCrcStr
import Derived.Test.YtlgblkhkohhhkaaDoorCrcTab
import Derived.Test.YtlgblkhkohhhkaaDoorCrcAwk
import Derived.Lib.MinMax
namespace Go.Proofs.YtlgblkhkohhhkaaDoor
open Go.ChangeShapes Go.WideShapes Go.ChangeAt Go.RowKit
open Go.ChangeMaps (open_string shut_string)
namespace crcParts
open Bas Txt Crc
set_option linter.unusedVariables false

/-- The number that the law counts up. -/
def accN (L : List ByteArray) (n k : Nat) : Nat := n + ((L.take k).map fun s => min s.size 65536).sum
theorem acc_succ {L : List ByteArray} {n k : Nat} (h : k < L.length) : accN L n (k + 1) = accN L n k + min (nthS L k).size 65536 := by
  have e : nthS L k = L[k] := by simp [nthS, h]
  unfold accN
  rw [List.take_succ_eq_append_getElem h, e, List.map_append, List.sum_append]
  simp
  omega
theorem sizes_le (L : List ByteArray) : ∀ s ∈ L, min s.size 65536 ≤ (L.map fun s => min s.size 65536).sum := by
  induction L with
  | nil => intro s h; cases h
  | cons x r ih =>
    intro s h
    simp only [List.map_cons, List.sum_cons]
    rcases List.mem_cons.1 h with rfl | h
    · omega
    · have := ih s h; omega
theorem cat_le (L : List ByteArray) (h : ∀ s ∈ L, s.size ≤ 65536) : (catL L).length = (L.map fun s => min s.size 65536).sum := by
  induction L with
  | nil => rfl
  | cons x r ih =>
    have e : catL (x :: r) = bytesL x ++ catL r := rfl
    rw [e, List.length_append, bytesL_length, ih (fun s hs => h s (by simp [hs]))]
    simp only [List.map_cons, List.sum_cons]
    have := h x (by simp)
    omega
theorem cat_byte (L : List ByteArray) : ∀ x ∈ catL L, 0 ≤ x ∧ x < 256 := by
  intro x hx
  unfold catL at hx
  obtain ⟨l, hl, hx⟩ := List.mem_flatten.1 hx
  obtain ⟨s, -, rfl⟩ := List.mem_map.1 hl
  exact bytesL_byte s x hx
/-- Texts as few as the law looks at. -/
theorem small {L : List ByteArray} {n : Nat} (hl : L.length = n) (h : accN L n n ≤ 2000) : n ≤ 2000 ∧ (∀ s ∈ L, s.size ≤ 2000) ∧ (catL L).length ≤ 2000 := by
  unfold accN at h
  rw [List.take_of_length_le (by omega)] at h
  have h1 := sizes_le L
  have h2 : ∀ s ∈ L, s.size ≤ 2000 := fun s hs => by have := h1 s hs; omega
  refine ⟨by omega, h2, ?_⟩
  rw [cat_le L (fun s hs => by have := h2 s hs; omega)]
  omega
theorem cat_take (L : List ByteArray) (k : Nat) : (catL (L.take k)).length ≤ (catL L).length := by
  have : catL L = catL (L.take k) ++ catL (L.drop k) := by
    unfold catL
    rw [← List.flatten_append, ← List.map_append, List.take_append_drop]
  rw [this, List.length_append]; omega
set_option maxHeartbeats 8000000 in
set_option maxRecDepth 100000 in
theorem walk (w : World) (hT : Crc.Tabs w) (a : Option Addr) (n c : Nat) (L : List ByteArray) (I : StrsIn w a n c L) :
    Calls Tryd.prog 4 #[.slice a n c] w fun e w' => e = .returned (.bool true) ∧ Below w.heap.size w w' := by
  have HT : Hid (Crc.Tabs w) := hT
  have HI : Hid (StrsIn w a n c L) := I
  have hn := I.max
  have hL := I.len
  clear hT I
  go_enter Tryd.func4, Tryd.ntmps4
  go_wp2
  go_loopw [14, 3] (fun i x wr => ∃ k : Nat, i = .int .i64 k ∧ k ≤ n ∧ x = .int .i64 (accN L n k : Nat) ∧ (k = 0 ∨ accN L n k ≤ 2000) ∧ wr = w) (fun i _ _ => n - (intOf i).toNat)
  case atStart => exact ⟨0, rfl, Nat.zero_le _, by simp [accN], .inl rfl, rfl⟩
  case round =>
    obtain ⟨k, rfl, hk, rfl, hacc, hww⟩ := hrel
    have hww := hww.symm
    subst hww
    by_cases hlt : k < n
    · have hkL : k < L.length := by omega
      have hA := acc_succ (n := n) hkL
      have ha0 : accN L n k ≤ 8796093021952 := by
        rcases hacc with rfl | h
        · simp [accN]; exact hn
        · omega
      obtain ⟨b, off, ha, hcell⟩ := HI.out.row
      obtain rfl := ha (by intro e; subst e; simp at hkL)
      have hc1 := hcell k hkL
      obtain ⟨S, hS⟩ : ∃ S, nthS L k = S := ⟨_, rfl⟩
      rw [hS] at hc1 hA
      obtain ⟨m, hm⟩ : ∃ m, min S.size 65536 = m := ⟨_, rfl⟩
      have hm2 : min (S.size : Int) 65536 = (m : Int) := by omega
      have hm3 : m ≤ 65536 := by omega
      rw [hm] at hA
      have HA : Hid (accN L n (k + 1) = accN L n k + m) := hA
      obtain ⟨x, hx⟩ : ∃ x, accN L n k = x := ⟨_, rfl⟩
      rw [hx] at HA ha0 ⊢
      have i1 : (k : Int) < (n : Int) := by omega
      clear hacc hcell ha hS hm hA hx hkL
      by_cases hbig : x + m > 2000
      · have i2 : (x : Int) + (m : Int) > 2000 := by omega
        go_wp2_with fail
        refine (awake_any w HT.out).mono ?_
        rintro e w2 ⟨rfl, b2⟩
        go_wp2
        go_ret
        exact ⟨rfl, b2⟩
      · have i2 : ¬ (x : Int) + (m : Int) > 2000 := by omega
        go_wp2
        go_roundw
        case rel => exact ⟨k + 1, by go_num, by omega, by rw [HA.out]; push_cast; rfl, .inr (by rw [HA.out]; omega), trivial⟩
        case measure => simp [intOf]; omega
    · obtain rfl : k = n := by omega
      have hsm : accN L k k ≤ 2000 := by
        rcases hacc with h | h
        · subst h; simp [accN]
        · exact h
      obtain ⟨h2000, hsz, hcat⟩ := small hL hsm
      have HS : Hid ((∀ s ∈ L, s.size ≤ 2000) ∧ (catL L).length ≤ 2000) := ⟨hsz, hcat⟩
      obtain ⟨x, hx⟩ : ∃ x, accN L k k = x := ⟨_, rfl⟩
      rw [hx] at hsm ⊢
      have i2 : ¬ (x : Int) > 2000 := by omega
      clear hacc hsz hcat hx hn
      go_wp2_with fail
      refine (awake_any w HT.out).mono ?_
      rintro e w1 ⟨rfl, b1⟩
      have H1 : Hid (Below w.heap.size w w1 ∧ Crc.Tabs w1 ∧ StrsIn w1 a k c L) := ⟨b1, HT.out.below b1, HI.out.below b1⟩
      clear b1
      have HG : Hid (Going w1 (w1.alloc (.cells #[.int .u32 0] 29)) []) := ⟨sumAt_new w1 _ rfl, (Below.refl _ _).alloc (Nat.le_refl _) _⟩
      go_wp2
      go_loopw [36, 6] (fun i y wr => ∃ j : Nat, i = .int .i64 j ∧ j ≤ k ∧ y = .string (strOf (catL (L.take j))) ∧ Going w1 wr (catL (L.take j))) (fun i _ _ => k - (intOf i).toNat)
      case atStart => exact ⟨0, rfl, Nat.zero_le _, rfl, HG.out⟩
      case round =>
        obtain ⟨j, rfl, hj, rfl, hG⟩ := hrel
        have HK : Hid (Going w1 wr (catL (L.take j))) := hG
        clear hG HG
        by_cases hlt2 : j < k
        · have hjL : j < L.length := by omega
          obtain ⟨b, off, ha, hcell⟩ := HI.out.row
          obtain rfl := ha (by intro e; subst e; simp at hjL)
          have hc1 := cell_later HK.out.2 (cell_later H1.out.1 (hcell j hjL))
          have HN : Hid (catL (L.take (j + 1)) = catL (L.take j) ++ bytesL (nthS L j)) := catL_succ L j hjL
          have hms := HS.out.1 _ (nthS_mem hjL)
          have hct := cat_take L j
          have hct2 := cat_take L (j + 1)
          have hcb := cat_byte (L.take (j + 1))
          have HL2 := HS.out.2
          obtain ⟨S, hS⟩ : ∃ S, nthS L j = S := ⟨_, rfl⟩
          rw [hS] at hc1 HN hms
          have HY : Hid (strOf (catL (L.take j)) ++ S = strOf (catL (L.take (j + 1)))) := by show _ = _; rw [HN.out, strOf_append, strOf_bytesL]
          have hz1 : (strOf (catL (L.take j))).size ≤ 2000 := by rw [strOf_size]; omega
          have hz2 : (strOf (catL (L.take (j + 1)))).size ≤ 2000 := by rw [strOf_size]; omega
          have HB : Hid (bytesL (strOf (catL (L.take (j + 1)))) = catL (L.take j) ++ bytesL S) := by show _ = _; rw [bytesL_strOf _ hcb, HN.out]
          have i1 : (j : Int) < (k : Int) := by omega
          obtain ⟨A, hA⟩ : ∃ A, strOf (catL (L.take j)) = A := ⟨_, rfl⟩
          obtain ⟨B, hB⟩ : ∃ B, strOf (catL (L.take (j + 1))) = B := ⟨_, rfl⟩
          rw [hA] at HY hz1 ⊢
          rw [hB] at HY HB hz2
          have HBB : Hid (B = strOf (catL (L.take (j + 1)))) := hB.symm
          have HM : Hid (S.size ≤ 1000000 ∧ B.size ≤ 1000000) := ⟨by omega, by omega⟩
          clear hcell ha hS hjL hct hct2 hcb HL2 hA hB
          go_wp2_with fail
          rw [HY.out]
          refine (add_any w1.heap.size S (catL (L.take j)) wr (H1.out.2.1.below HK.out.2) HK.out.1 HM.out.1).mono ?_
          rintro e w3 ⟨rfl, h1, h2, h3⟩
          have HF : Hid (Going w1 w3 (catL (L.take (j + 1)))) := by
            refine ⟨by rw [HN.out]; exact h1, HK.out.2.trans (h2.below HK.out.2.size (fun k' j' hk' hh => ?_))⟩
            have := hh.1; omega
          clear h1 h2 h3 HK
          go_wp2_with fail
          refine (now_any w1.heap.size (catL (L.take (j + 1))) w3 HF.out.1).mono ?_
          rintro e w4 ⟨rfl, hw⟩
          subst hw
          go_wp2_with fail
          refine (rOf_any B w4 HM.out.2).mono ?_
          rw [HB.out, ← HN.out]
          rintro e w5 ⟨rfl, hw⟩
          subst hw
          go_wp2
          go_roundw
          case rel => exact ⟨j + 1, by go_num, by omega, by rw [HBB.out], HF.out⟩
          case measure => simp [intOf]; omega
        · have HF : Hid (L.take j = L) := List.take_of_length_le (by omega)
          rw [HF.out] at HK ⊢
          have hz1 : (strOf (catL L)).size ≤ 1000000 := by rw [strOf_size]; have := HS.out.2; omega
          have HB : Hid (bytesL (strOf (catL L)) = catL L) := bytesL_strOf _ (cat_byte L)
          obtain ⟨A, hA⟩ : ∃ A, strOf (catL L) = A := ⟨_, rfl⟩
          rw [hA] at hz1 HB ⊢
          clear hA
          have HOA : Hid (∀ w w0, Crc.Tabs w0 → w = w0.alloc (.cells #[.string A] 9) → Calls Tryd.prog 10 #[.slice (some ⟨w0.heap.size, 0, none⟩) 1 1] w fun e w' => e = .returned (.int .u32 ((sumI (catL L) : Nat) : Int)) ∧ Below w0.heap.size w0 w') := fun w w0 h1 h2 => by
            have := of_one A w w0 h1 h2 hz1 _ rfl
            rwa [HB.out] at this
          have HB2 : Hid (Below w.heap.size w wr ∧ SumAt wr w1.heap.size (catL L)) := ⟨below_two H1.out.1 HK.out.2, HK.out.1⟩
          clear HK HB hz1
          go_wp2_with fail
          refine (of_any a k c L wr (HT.out.below HB2.out.1) (HI.out.row.below HB2.out.1) hL (by unfold maxLen; omega) (fun s hs => by have := HS.out.1 s hs; omega)).mono ?_
          rintro e w3 ⟨rfl, b3⟩
          have HB3 : Hid (Below w.heap.size w w3 ∧ SumAt w3 w1.heap.size (catL L)) := ⟨below_two HB2.out.1 b3, HB2.out.2.below b3⟩
          clear b3 HB2
          go_wp2_with fail
          refine (HOA.out _ w3 (HT.out.below HB3.out.1) rfl).mono ?_
          rintro e w4 ⟨rfl, b4⟩
          have HB4 : Hid (Below w.heap.size w w4 ∧ SumAt w4 w1.heap.size (catL L)) := ⟨below_two HB3.out.1 b4, HB3.out.2.below b4⟩
          clear b4 HB3
          go_wp2_with fail
          refine (now_any w1.heap.size (catL L) w4 HB4.out.2).mono ?_
          rintro e w5 ⟨rfl, hw⟩
          subst hw
          go_wp2_with fail
          refine (HOA.out _ w5 (HT.out.below HB4.out.1) rfl).mono ?_
          rintro e w6 ⟨rfl, b6⟩
          go_wp2
          go_ret
          exact ⟨rfl, below_two HB4.out.1 b6⟩
theorem reads (os : Os) {H : Type} (enc : TypeId × Value → H) : ∃ places, DataW.whole enc Tryd.prog ((({ World.holding Tryd.prog os ⟨#[], #[], []⟩ with heap := (World.holding Tryd.prog os ⟨#[], #[], []⟩).heap.modify 0 Crc.lay0 } : World)).forCall (fun _ _ => 0) ⟨#[], #[.slice none 0 0], []⟩).memory Tryd.f4.params.toList Rows.crcPartsSpec.vars false #[.slice none 0 0].toList 8 = some ([.nil], [], places) :=
  ⟨[], by kernel_rfl⟩
set_option maxRecDepth 100000 in
theorem lifted (os : Os) (started : os.Started) (H : Type) (enc : TypeId × Value → H) (Fi : Stop.Interp) :
    ReturnsInHanded {} Tryd.checked os 4 .any ((OpenSpec.ofChange Rows.crcPartsSpec).preRow enc Tryd.prog Tryd.f4 Rows.crcPartsRow.domain false Rows.crcPartsRow.laid) (((OpenSpec.ofChange Rows.crcPartsSpec).at Fi).post enc Tryd.prog Tryd.f4 false true false false) := by
  obtain ⟨places, hx⟩ := reads os enc
  refine returnsInHanded_of_row (C := Tryd.checked) (s := OpenSpec.ofChange Rows.crcPartsSpec) Bas.own started (by kernel_rfl) Tryd.func4
    (witness_row_at (enc := enc) (C := Tryd.checked) false (({ World.holding Tryd.prog os ⟨#[], #[], []⟩ with heap := (World.holding Tryd.prog os ⟨#[], #[], []⟩).heap.modify 0 Crc.lay0 } : World)) #[.slice none 0 0] rfl (by kernel_rfl) (by kernel_rfl) (by kernel_rfl)
      (OpenSpec.preRow_of_cond 8 hx (by kernel_rfl) (fun k hk => by cases hk) (by kernel_rfl) (Crc.laid_met os _))) ?_
  intro W base args ds gs before hval0 hW _ _ hWt hL hSh _
  have hval : ∀ (j : Nat) t v, Tryd.f4.params[j]? = some t → args[j]? = some v → Value.okWide Tryd.prog W .any base t v := hval0
  have hW' := hW
  obtain ⟨p, q, hA0, hV, rfl, hfz, hnd⟩ := hW
  have hA : DataW.TrodAll enc Tryd.prog W 0 (fun _ => true) true Tryd.f4.params.toList args.toList ds p := hA0
  rw [Tryd.params4] at hA hval
  obtain ⟨v0, vs0, d0, ds0, p0, q0, hargs, rfl, rfl, h0, r0⟩ := trodAll_cons hA
  obtain ⟨rfl, rfl, rfl⟩ := trodAll_nil r0
  obtain rfl : args = #[v0] := by cases args; simp_all
  obtain ⟨rfl, rfl⟩ := trodVars_none hV
  have k0 := h0
  have lt0 : ∀ x ∈ p0, x.block < W.heap.size := by obtain ⟨m, hm⟩ := k0; exact DataW.trod_lt m _ _ _ hm
  obtain ⟨a0, n0, c0, l0, rfl, I0⟩ : ∃ a n c l, v0 = .slice a n c ∧ Crc.StrsIn W a n c l := by
    obtain ⟨a, n, c, rfl⟩ := okWide_slice Tryd.underlying27 (hval 0 27 v0 rfl rfl)
    obtain ⟨fuel, hf⟩ := h0
    obtain ⟨a', n', c', l, hv, I⟩ := Crc.strs_of Tryd.underlying27 Tryd.underlying9 (by kernel_rfl) (by kernel_rfl) (by simpa [Value.cells] using hf) (Crc.weights_head hWt)
    exact ⟨a', n', c', l, hv, I⟩
  refine (walk W (Crc.tabs_of hL hSh) a0 n0 c0 l0 I0).mono fun e W' ⟨he, bel⟩ => ?_
  subst he
  exact ⟨_, rfl, _, _, _, [], _, [], hW', trodAll_mk1 (shut_bool Tryd.underlying4 _), (trodAll_cons_mk (Below.trod Bas.laidOut (by kernel_rfl) (of_decide_eq_true (by kernel_rfl)) k0 bel lt0) trodAll_mk0), rfl, bel.frame _, fun h => by cases h⟩


theorem over : Rows.crcPartsRow.holds Tryd.pinned (OpenSpec.ofChange Rows.crcPartsSpec) :=
  OpenClaim.holds_of_cond 4 Tryd.f4 rfl rfl rfl rfl rfl rfl rfl ⟨rfl, rfl, rfl, rfl, rfl⟩ rfl rfl rfl rfl rfl (by kernel_rfl) Tryd.func4 (by kernel_rfl)
    (of_decide_eq_true (by kernel_rfl)) (by unfold Func.isWrapper; first | (rw [if_pos (by decide +kernel)]; kernel_rfl) | (rw [if_neg (by decide +kernel)]; exact ⟨rfl, rfl⟩))
    (fun os started H enc _ Fi => by rw [OpenClaim.pre_eq_preRow]; exact lifted os started H enc Fi)
theorem plain (f : FuncId) (fn : Func) (hf : Tryd.pinned.checked.prog.funcNamed Rows.crcPartsRow.func = some f) (hfn : Tryd.pinned.checked.prog.funcs[f]? = some fn) :
    false = Tryd.pinned.checked.prog.looks [] ∧ ∀ (j : Nat) t, fn.params[j]? = some t → Tryd.pinned.checked.prog.wantsStandIn t = false := by
  obtain rfl : f = 4 := Option.some.inj ((show Tryd.prog.funcNamed Rows.crcPartsRow.func = some 4 by kernel_rfl).symm.trans hf) |>.symm
  obtain rfl : fn = Tryd.f4 := (Option.some.inj (Tryd.func4.symm.trans hfn)).symm
  refine ⟨by kernel_rfl, fun j t ht => ?_⟩
  rw [Tryd.params4] at ht
  have hm : t ∈ [27] := by simpa using Array.mem_of_getElem? ht
  have hall : ([27].all fun u => !Tryd.prog.wantsStandIn u) = true := by kernel_rfl
  exact (show Tryd.prog.wantsStandIn t = false by simpa using List.all_eq_true.1 hall t hm)
end Go.Proofs.YtlgblkhkohhhkaaDoor.crcParts
namespace Go.Proofs.YtlgblkhkohhhkaaDoor
/-- The statement: the tied card. -/
theorem crcParts_proved : Rows.CrcPartsCardSaid :=
  Claim7.holds_tied_plain_at .later [] _ _ _ _ crcParts.over (fun _ h => by cases h) (by kernel_rfl) (fun _ h => by cases h) crcParts_row_tie rfl ⟨rfl, rfl⟩ (by kernel_rfl) rfl crcParts.plain (by kernel_rfl)
end Go.Proofs.YtlgblkhkohhhkaaDoor
