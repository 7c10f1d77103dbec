/-
  Whether any text begins with one of some codecs' signatures is as the document says: the statement SignBegins is proved, for every input. No condition.
-/
import Derived.Test.YtmihceoeoggjjaaSgAwk
namespace Go.Proofs.Ytmihceoeoggjjaa
open Go.ChangeShapes Go.WideShapes Go.ChangeAt Go.RowKit
open Go.ChangeMaps (open_string shut_string)
namespace signBegins
open Bas Txt Sig
set_option linter.unusedVariables false

/-- Is one of the first k's signature ahead? -/
def anyK (s : ByteArray) (l : List Int) (k : Nat) : Bool := (l.take k).any fun c => preB (bytesL s) c
theorem any_succ {s : ByteArray} {l : List Int} {k : Nat} (h : k < l.length) : anyK s l (k + 1) = (anyK s l k || preB (bytesL s) (nth l k)) := by
  unfold anyK; rw [take_snoc l k h, List.any_append]; simp
set_option maxHeartbeats 4000000 in
set_option maxRecDepth 100000 in
theorem walk (w : World) (s : ByteArray) (hs : s.size ≤ maxLen) (a : Option Addr) (n c : Nat) (l : List Int) (I : Ints .i64 w a n c l) :
    Calls Try.prog 5 #[.string s, .slice a n c] w fun e w' => e = .returned (.bool true) ∧ Below w.heap.size w w' := by
  have HI : Hid (Ints .i64 w a n c l) := I
  have hl := I.len
  clear hs I
  go_enter Try.func5, Try.ntmps5
  go_wp2_with fail
  refine (awake_any w).mono ?_
  rintro e w1 ⟨rfl, b1⟩
  have H1 : Hid (Below w.heap.size w w1) := b1
  clear b1
  by_cases hbig : n > 100
  · have i1 : (n : Int) > 100 := by omega
    go_wp2_with fail
    refine (awake_any w1).mono ?_
    rintro e w2 ⟨rfl, b2⟩
    go_wp2
    go_ret
    exact ⟨rfl, below_two H1.out b2⟩
  · have i1 : ¬ (n : Int) > 100 := by omega
    have HA : Hid (∀ k, k < n → anyK s l (k + 1) = (anyK s l k || preB (bytesL s) (nth l k))) := fun k hk => any_succ (by omega)
    have HH : Hid (∀ c w, Calls Try.prog 13 #[.string s, .int .i64 c] w fun e w' => e = .returned (.bool (preB (bytesL s) c)) ∧ Below w.heap.size w w') := rHas_any s
    go_wp2
    go_loopw [18, 5] (fun i y wr => ∃ k : Nat, i = .int .i64 k ∧ k ≤ n ∧ y = .bool (anyK s l k) ∧ Below w.heap.size w wr) (fun i _ _ => n - (intOf i).toNat)
    case atStart => exact ⟨0, rfl, Nat.zero_le _, rfl, H1.out⟩
    case round =>
      obtain ⟨k, rfl, hk, rfl, hb⟩ := hrel
      have HB : Hid (Below w.heap.size w wr) := hb
      clear hb
      by_cases hlt : k < n
      · have hkL : k < l.length := by omega
        obtain ⟨b, off, ha, hc⟩ := HI.out.row
        obtain rfl := ha (by intro e; subst e; simp at hkL)
        have hc1 := cell_later HB.out (hc k hkL)
        have HN : Hid (anyK s l (k + 1) = (anyK s l k || preB (bytesL s) (nth l k))) := HA.out k hlt
        obtain ⟨x, hx⟩ : ∃ x, nth l k = x := ⟨_, rfl⟩
        rw [hx] at hc1 HN
        have i2 : (k : Int) < (n : Int) := by omega
        obtain ⟨y, hy⟩ : ∃ y, anyK s l k = y := ⟨_, rfl⟩
        rw [hy] at HN ⊢
        clear hc ha hx hy hkL
        cases y with
        | true =>
          rw [Bool.true_or] at HN
          go_wp2
          go_roundw
          case rel => exact ⟨k + 1, by go_num, by omega, by rw [HN.out], HB.out⟩
          case measure => simp [intOf]; omega
        | false =>
          rw [Bool.false_or] at HN
          go_wp2_with fail
          refine (HH.out x wr).mono ?_
          rintro e w2 ⟨rfl, b2⟩
          go_wp2
          go_roundw
          case rel => exact ⟨k + 1, by go_num, by omega, by rw [HN.out], below_two HB.out b2⟩
          case measure => simp [intOf]; omega
      · have HF : Hid (anyK s l k = l.any fun c => preB (bytesL s) c) := by
          show _ = _
          unfold anyK; rw [List.take_of_length_le (by omega)]
        have HP : Hid (∀ w', Below w.heap.size w w' → Calls Try.prog 14 #[.string s, .slice a n c] w' fun e w2 => e = .returned (.bool (anyK s l k)) ∧ Below w'.heap.size w' w2) := fun w' hb => by
          rw [HF.out]
          exact begins_any s a n c l w' (HI.out.row.mono hb) hl HI.out.max
        have HQ : Hid (∀ w', Calls Try.prog 14 #[.string s, .slice none 0 0] w' fun e w2 => e = .returned (.bool false) ∧ Below w'.heap.size w' w2) := fun w' => begins_any s none 0 0 [] w' (row_nil _ _ _) rfl (by decide)
        obtain ⟨y, hy⟩ : ∃ y, anyK s l k = y := ⟨_, rfl⟩
        rw [hy] at HP ⊢
        clear hy HF
        go_wp2_with fail
        refine (HP.out wr HB.out).mono ?_
        rintro e w2 ⟨rfl, b2⟩
        have HB2 : Hid (Below w.heap.size w w2) := below_two HB.out b2
        clear b2
        go_wp2_with fail
        refine (HQ.out w2).mono ?_
        rintro e w3 ⟨rfl, b3⟩
        go_wp2
        go_ret
        exact ⟨rfl, below_two HB2.out b3⟩
set_option maxRecDepth 100000 in
theorem lifted (os : Os) (started : os.Started) (H : Type) (enc : TypeId × Value → H) :
    ReturnsInHanded {} Try.checked os 5 .any (Rows.signBeginsSpec.pre6 enc Try.prog Try.f5 Rows.signBeginsRow.domain false) (Rows.signBeginsSpec.post enc Try.prog Try.f5 false true false false) := by
  refine returnsInHanded_of_change (C := Try.checked) Bas.own started (by kernel_rfl) Try.func5
    (ChangeSpec.witness6 (enc := enc) (C := Try.checked) false ⟨#[], #[.string ByteArray.empty, .slice none 0 0], []⟩ 8 (by kernel_rfl) (by kernel_rfl) (by kernel_rfl) (by kernel_rfl)) ?_
  intro W base args ds gs before hval0 hW hcnd _
  have hval : ∀ (j : Nat) t v, Try.f5.params[j]? = some t → args[j]? = some v → Value.okWide Try.prog W .any base t v := hval0
  have hW' := hW
  obtain ⟨p, q, hA0, hV, rfl, hfz, hnd⟩ := hW
  have hA : DataW.TrodAll enc Try.prog W 0 (fun _ => true) true Try.f5.params.toList args.toList ds p := hA0
  rw [Try.params5] at hA hval
  obtain ⟨v0, vs0, d0, ds0, p0, q0, hargs, rfl, rfl, h0, r0⟩ := trodAll_cons hA
  obtain ⟨v1, vs1, d1, ds1, p1, q1, rfl, rfl, rfl, h1, r1⟩ := trodAll_cons r0
  obtain ⟨rfl, rfl, rfl⟩ := trodAll_nil r1
  obtain rfl : args = #[v0, v1] := by cases args; simp_all
  obtain ⟨rfl, rfl⟩ := trodVars_none hV
  have k0 := h0
  have lt0 : ∀ x ∈ p0, x.block < W.heap.size := by obtain ⟨m, hm⟩ := k0; exact DataW.trod_lt m _ _ _ hm
  have k1 := h1
  have lt1 : ∀ x ∈ p1, x.block < W.heap.size := by obtain ⟨m, hm⟩ := k1; exact DataW.trod_lt m _ _ _ hm
  obtain ⟨a0, rfl, rfl, rfl, w0⟩ := open_string Try.underlying9 (hval 0 9 v0 rfl rfl) h0
  obtain ⟨a1, n1, c1, rfl⟩ := okWide_slice Try.underlying29 (hval 1 29 v1 rfl rfl)
  obtain ⟨l1, I1⟩ : ∃ l : List Int, Bas.Ints .i64 W a1 n1 c1 l := by
    obtain ⟨fuel, hf⟩ := h1
    rcases open_ints Try.underlying29 Try.underlying3 (by kernel_rfl) hf with ⟨hcs, _⟩ | ⟨x, l, c, zs, hcs, _, hl, hm, hz, _, hcell, hwz⟩
    · simp [Value.cells] at hcs
      obtain ⟨rfl, rfl, rfl⟩ := hcs
      exact ⟨[], Bas.row_nil _ _ _, rfl, by unfold maxLen; omega, by simp, fun _ => rfl⟩
    · simp [Value.cells] at hcs
      obtain ⟨rfl, rfl, rfl⟩ := hcs
      have hz' : zs.length = c1 := by simpa using hz
      exact ⟨zs.take n1, Bas.row_of _ _ _ _ _ (by omega) hcell, by simp; omega, by omega, fun n hn => hwz n (List.mem_of_mem_take hn), fun h => by cases h⟩
  refine (walk W a0 w0 a1 n1 c1 l1 I1).mono fun e W' ⟨he, bel⟩ => ?_
  subst he
  exact ⟨_, rfl, _, _, _, [], _, [], hW', trodAll_mk1 (shut_bool Try.underlying4 _), (trodAll_cons_mk (Below.trod Bas.laidOut (by kernel_rfl) (of_decide_eq_true (by kernel_rfl)) k0 bel lt0) (trodAll_cons_mk (Below.trod Bas.laidOut (by kernel_rfl) (of_decide_eq_true (by kernel_rfl)) k1 bel lt1) trodAll_mk0)), rfl, bel.frame _, fun h => by cases h⟩

theorem over : Rows.signBeginsRow.holds Try.pinned (OpenSpec.ofChange Rows.signBeginsSpec) :=
  OpenClaim.holds_of_wide 5 Try.f5 rfl rfl rfl rfl rfl rfl rfl ⟨rfl, rfl, rfl, rfl, rfl⟩ rfl rfl rfl rfl rfl (by kernel_rfl) Try.func5 (by kernel_rfl)
    (of_decide_eq_true (by kernel_rfl)) (by unfold Func.isWrapper; first | (rw [if_pos (by decide +kernel)]; kernel_rfl) | (rw [if_neg (by decide +kernel)]; exact ⟨rfl, rfl⟩))
    (fun os started H enc _ => lifted os started H enc)
end Go.Proofs.Ytmihceoeoggjjaa.signBegins
namespace Go.Proofs.Ytmihceoeoggjjaa
/-- The statement. -/
theorem signBegins_proved : Rows.SignBeginsSaid := signBegins.over
end Go.Proofs.Ytmihceoeoggjjaa
