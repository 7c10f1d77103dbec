/-
  The contract of puny.entries: what a text's digits put into a list, as a walk over the translated text. The condition: texts are of at most 100000 bytes.
-/
import Derived.Test.YtemgbmacdpnepaaPunCur
import Derived.Test.YtemgbmacdpnepaaFilMath
import Derived.Test.YtemgbmacdpnepaaBia4
namespace Go.Proofs.Ytemgbmacdpnepaa
open Go.ChangeShapes Go.WideShapes Go.ChangeAt Go.RowKit
namespace Pun
open Bas Cod Bia Sca Fen
set_option linter.unusedVariables false

/-- Entries as cells. -/
def entC : List (Nat × Nat) → List Value
  | [] => []
  | e :: r => .int .u32 (e.1 : Int) :: .int .i64 (e.2 : Int) :: entC r
theorem entC_len (es : List (Nat × Nat)) : (entC es).length = es.length * 2 := by
  induction es with
  | nil => rfl
  | cons e r ih => rw [entC, List.length_cons, List.length_cons, ih, List.length_cons]; omega
theorem entC_append (es fs : List (Nat × Nat)) : entC (es ++ fs) = entC es ++ entC fs := by
  induction es with
  | nil => rfl
  | cons e r ih => rw [List.cons_append, entC, entC, ih]; rfl
theorem entC_at (es : List (Nat × Nat)) : ∀ {k : Nat}, k < es.length → (entC es)[2 * k]? = some (.int .u32 ((entA es k).1 : Int)) ∧ (entC es)[2 * k + 1]? = some (.int .i64 ((entA es k).2 : Int)) := by
  induction es with
  | nil => intro k hk; simp at hk
  | cons e r ih =>
    intro k hk
    cases k with
    | zero => exact ⟨rfl, rfl⟩
    | succ k =>
      have := ih (k := k) (by simpa using hk)
      rw [show 2 * (k + 1) = (2 * k + 1) + 1 by omega]
      simpa [entC, entA] using this
/-- A row of entries that is owned, from a block on. -/
def EntO (w : World) (base : Nat) (v : Value) (es : List (Nat × Nat)) : Prop := w.ownsRow base 128 2 v es.length (entC es)
theorem EntO.nil (w : World) (base : Nat) : EntO w base (.slice none 0 0) [] := ⟨rfl, .inl ⟨rfl, rfl⟩⟩
theorem EntO.mono {w w' : World} {base B : Nat} {v : Value} {es : List (Nat × Nat)} (h : EntO w base v es) (hb : Below B w w') (hB : w.heap.size ≤ B) : EntO w' base v es := by
  refine ⟨h.1, ?_⟩
  rcases h.2 with hn | ⟨g, cap, cur, rfl, hbb, hg, rest⟩
  · exact .inl hn
  · refine .inr ⟨g, cap, cur, rfl, hbb, ?_, rest⟩
    rw [hb.block g (Nat.lt_of_lt_of_le (Array.getElem?_eq_some_iff.1 hg).1 hB)]
    exact hg
theorem EntO.chg {S : Nat → Nat → Prop} {w w' : World} {base : Nat} {v : Value} {es : List (Nat × Nat)} (h : EntO w base v es) (hc : Chg S w w') (hS : ∀ k j, base ≤ k → ¬ S k j) : EntO w' base v es := by
  refine ⟨h.1, ?_⟩
  rcases h.2 with hn | ⟨g, cap, cur, rfl, hbb, hg, rest⟩
  · exact .inl hn
  · refine .inr ⟨g, cap, cur, rfl, hbb, ?_, rest⟩
    rw [hc.block g (Array.getElem?_eq_some_iff.1 hg).1 (fun o => hS g o hbb)]
    exact hg
theorem EntO.base {w : World} {base base' : Nat} {v : Value} {es : List (Nat × Nat)} (h : EntO w base v es) (hb : base' ≤ base) : EntO w base' v es := by
  refine ⟨h.1, ?_⟩
  rcases h.2 with hn | ⟨g, cap, cur, rfl, hbb, rest⟩
  · exact .inl hn
  · exact .inr ⟨g, cap, cur, rfl, by omega, rest⟩
theorem ent_one (n p : Nat) : ∀ u ∈ entC [(n, p)], u.oneCell' = true := by
  intro u hu
  simp [entC] at hu
  rcases hu with rfl | rfl <;> rfl
theorem ent_cell (w : World) (n p : Nat) (t : TypeId) : ∀ j u, (entC [(n, p)])[j]? = some u → (w.alloc (.cells #[.int .u32 (n : Int), .int .i64 (p : Int)] t)).cell? ((⟨w.heap.size, 0, none⟩ : Addr).add j) = some u := by
  intro j u hu
  rw [add_at, Nat.zero_add, World.cell?_alloc_new]
  match j with
  | 0 => simpa [entC] using hu
  | 1 => simpa [entC] using hu
  | j + 2 => simp [entC] at hu
theorem info_ent : (Try.prog.info? 128).map (fun i => (i.zero, i.size, i.bytes)) = some (some (.agg #[.int .u32 0, .int .i64 0]), 2, 16) := by kernel_rfl
theorem CurAt.under {B : Nat} {w w' : World} {b n i len : Nat} {bi : Int} {mv : Bool} (h : CurAt w b n i len bi mv) (hB : Below B w w') (hb : b < B) : CurAt w' b n i len bi mv :=
  ⟨(hB.cell (p := ⟨b, 0, none⟩) hb).trans h.c0, (hB.cell (p := ⟨b, 1, none⟩) hb).trans h.c1, (hB.cell (p := ⟨b, 2, none⟩) hb).trans h.c2, (hB.cell (p := ⟨b, 3, none⟩) hb).trans h.c3, (hB.cell (p := ⟨b, 4, none⟩) hb).trans h.c4, fun j => (hB.frozen (p := ⟨b, j, none⟩) hb).trans (h.f j)⟩
/-- What 'entries' leaves. -/
def EntQ (R : Option (List Int)) (bs : List Int) (T : Nat) (base : Nat) (e : Ending) (w' : World) : Prop :=
  (R = none ∧ e = .returned (.tuple #[.slice none 0 0, .bool false])) ∨
  ∃ v es, R = some (builtL bs es) ∧ e = .returned (.tuple #[v, .bool true]) ∧ EntO w' base v es ∧ es.length ≤ T ∧ (∀ k, k < es.length → (entA es k).2 ≤ bs.length + k) ∧ ∀ k, k < es.length → (entA es k).1 ≤ 1114111

set_option maxHeartbeats 8000000 in
set_option maxRecDepth 100000 in
theorem entries_any (str : ByteArray) (bs : List Int) (m : Nat) (w : World) (hs : str.size ≤ 100000) (hm : bs.length = m) (hm2 : m ≤ 100000) :
    Calls Try.prog 58 #[.string str, .int .i64 m] w fun e w' => EntQ (decL (PS.zero bs) (bytesL str)) bs str.size w.heap.size e w' ∧ Below w.heap.size w w' := by
  have HL : Hid ((bytesL str).length = str.size) := bytesL_length str
  have HB : Hid (bs.length = m) := hm
  have HZ : Hid (EntRel (decL (PS.zero bs) (bytesL str)) bs (bytesL str) (PS.zero bs) 0 []) := EntRel.zero bs (bytesL str)
  obtain ⟨R, hR⟩ : ∃ R, decL (PS.zero bs) (bytesL str) = R := ⟨_, rfl⟩
  rw [hR] at HZ ⊢
  clear hR hm
  go_enter Try.func58, Try.ntmps58
  go_wp2_with fail
  refine (begin_any m w (by omega)).mono ?_
  rintro e w1 ⟨rfl, b1⟩
  go_wp2
  obtain ⟨c, hc⟩ : ∃ c, w1.heap.size = c := ⟨_, rfl⟩
  have HC0 : Hid (CurAt (w1.alloc (.cells #[.int .u64 128, .int .u64 0, .int .u64 m, .int .i64 72, .bool false] 117)) c 128 0 m 72 false ∧ Below w.heap.size w (w1.alloc (.cells #[.int .u64 128, .int .u64 0, .int .u64 m, .int .i64 72, .bool false] 117)) ∧ w.heap.size ≤ c ∧ c < (w1.alloc (.cells #[.int .u64 128, .int .u64 0, .int .u64 m, .int .i64 72, .bool false] 117)).heap.size) :=
    ⟨cur_new w1 m hc.symm, b1.alloc b1.size _, by have := b1.size; omega, by simp; omega⟩
  rw [hc] at *
  generalize w1.alloc (.cells #[.int .u64 128, .int .u64 0, .int .u64 m, .int .i64 72, .bool false] 117) = w2 at *
  clear b1 hc
  go_loopw [6, 8] (fun v i wr => ∃ (at_ : Nat) (s : PS) (es : List (Nat × Nat)), i = .int .i64 at_ ∧ EntRel R bs (bytesL str) s at_ es ∧ CurAt wr c s.n s.i s.l.length s.b (!s.one) ∧ EntO wr (c + 1) v es ∧ Below w.heap.size w wr ∧ c < wr.heap.size) (fun _ i _ => str.size - (intOf i).toNat)
  case atStart => exact ⟨0, PS.zero bs, [], rfl, HZ.out, by have := HC0.out.1; rw [← HB.out] at this; exact this, EntO.nil _ _, HC0.out.2.1, HC0.out.2.2.2⟩
  case round =>
    have HCW : Hid (w.heap.size ≤ c) := HC0.out.2.2.1
    clear HZ HC0
    obtain ⟨at_, s, es, rfl, hr, hcu, hen, hb, hcl⟩ := hrel
    have HR : Hid (EntRel R bs (bytesL str) s at_ es) := hr
    have HW : Hid (CurAt wr c s.n s.i s.l.length s.b (!s.one) ∧ EntO wr (c + 1) u6 es ∧ Below w.heap.size w wr ∧ c < wr.heap.size) := ⟨hcu, hen, hb, hcl⟩
    have hat := hr.at_
    rw [HL.out] at hat
    have hsl : s.l.length = m + es.length := by rw [hr.l, built_len, HB.out]
    have hsi := hr.i
    have hsn := hr.n
    clear hr hcu hen hb hcl
    by_cases hlt : at_ < str.size
    · have i1 : (at_ : Int) < (str.size : Int) := by omega
      have hc3 := HW.out.1.c3
      have HG : Hid (∀ w, Calls Try.prog 81 #[.string str, .int .i64 at_, .int .i64 s.b] w fun e w' => e = .returned (getV (getF s.b 0 at_ 0 1 ((bytesL str).drop at_))) ∧ w' = w) := fun w => get_any str at_ s.b w (by omega) (by omega)
      obtain ⟨⟨d, e, er⟩, hg⟩ : ∃ g, getF s.b 0 at_ 0 1 ((bytesL str).drop at_) = g := ⟨_, rfl⟩
      have HGE : Hid (getF s.b 0 at_ 0 1 ((bytesL str).drop at_) = (d, e, er)) := hg
      have hd : d ≤ 4611686018427387904 := by
        have := getF_small s.b ((bytesL str).drop at_) 0 at_ 0 1 (by omega)
        rw [hg] at this
        exact this
      rw [hg] at HG
      simp only [getV] at HG
      clear hg
      obtain ⟨B, hB⟩ : ∃ B, s.b = B := ⟨_, rfl⟩
      rw [hB] at hc3 HG
      clear hB
      go_wp2_with fail
      refine (HG.out wr).mono ?_
      rintro e5 w5 ⟨rfl, hw5⟩
      subst hw5
      clear HG hc3
      by_cases her : er = 0
      · subst her
        have hge := HR.out.get HGE.out
        rw [HL.out] at hge
        have he1 := hge.2.1
        have he2 := hge.2.2
        clear hge
        go_wp2_with fail
        refine (move_any c s.n s.i s.l.length d s.b (!s.one) w5 HW.out.1 hd (by omega) (by omega) hsn).mono ?_
        rintro e6 w6 ⟨rfl, hcu6, hch6⟩
        rw [Bool.not_not] at hcu6
        obtain ⟨nn, hnn⟩ : ∃ nn, s.n + (s.i + d) / (s.l.length + 1) = nn := ⟨_, rfl⟩
        obtain ⟨pp, hpp⟩ : ∃ pp, (s.i + d) % (s.l.length + 1) = pp := ⟨_, rfl⟩
        have hnn2 : nn < 9223372036854775808 := by
          have := Nat.div_le_self (s.i + d) (s.l.length + 1)
          omega
        have hpp2 : pp ≤ 200000 := by
          have := Nat.mod_lt (s.i + d) (y := s.l.length + 1) (by omega)
          omega
        have HNN : Hid (s.n + (s.i + d) / (s.l.length + 1) = nn ∧ (s.i + d) % (s.l.length + 1) = pp) := ⟨hnn, hpp⟩
        rw [hnn, hpp] at hcu6
        have HW6 : Hid (CurAt w6 c nn (pp + 1) (s.l.length + 1) (adapt d (s.l.length + 1) s.one : Nat) true ∧ EntO w6 (c + 1) u6 es ∧ Below w.heap.size w w6 ∧ c < w6.heap.size) :=
          ⟨hcu6, HW.out.2.1.chg hch6 (fun k j hk hh => by omega), HW.out.2.2.1.trans (hch6.below (HW.out.2.2.1.size) (fun k j hk hh => by have := HCW.out; omega)), by have := HW.out.2.2.2; have := hch6.size; omega⟩
        clear hcu6 hch6 hnn hpp HW
        go_wp2_with fail
        refine (onScalar_any c nn (pp + 1) _ _ _ w6 HW6.out.1 hnn2).mono ?_
        rintro e7 w7 ⟨rfl, hw7⟩
        subst hw7
        cases hsc : isB (nn : Int) with
        | false =>
          have HF : Hid (R = none) := HR.out.bad HGE.out (by rw [HNN.out.1]; exact hsc)
          clear hsc
          go_wp2
          go_ret2
          exact ⟨.inl ⟨HF.out, rfl⟩, HW6.out.2.2.1⟩
        | true =>
          have hn3 := (isB_iff.1 hsc).1
          have HN : Hid (EntRel R bs (bytesL str) ⟨insL s.l pp (nn : Int), nn, pp + 1, (adapt d (s.l.length + 1) s.one : Nat), false⟩ e (es ++ [(nn, pp)])) := by
            have := HR.out.next HGE.out (by rw [HNN.out.1]; exact hsc)
            rw [HNN.out.1, HNN.out.2] at this
            exact this
          clear hsc
          have c0 := HW6.out.1.c0
          have c1 := HW6.out.1.c1
          have i2 : (nn : Int) ≤ 1114111 := by omega
          obtain ⟨inf, hinf, hiz, hisz, hiby⟩ := info_parts info_ent
          have HO : Hid (∀ o, EntO (w7.alloc o) (c + 1) u6 es) := fun o => HW6.out.2.1.mono ((Below.refl _ _).alloc (Nat.le_refl _) o) (Nat.le_refl _)
          have HE : Hid (es.length ≤ 100000) := (by omega : es.length ≤ 100000)
          have HC7 : Hid (c + 1 ≤ w7.heap.size) := (by have := HW6.out.2.2.2; omega : c + 1 ≤ w7.heap.size)
          go_wp2_with (at_builtin; go_must (refine wpList_append_own _ rfl _ _ 98 rfl (c + 1) 128 inf (.agg #[.int .u32 0, .int .i64 0]) 2 16 Try.underlying98 hinf hiz hisz hiby rfl (by decide) u6 es.length (entC es) rfl (HO.out _) _ 1 1 (entC [(nn, pp)]) rfl rfl (ent_cell w7 nn pp _) (ent_one nn pp) (by have := HE.out; unfold maxLen; omega) (by have := HE.out; omega) (by have := HC7.out; simp; omega) ?_; intro v8 w8 ho8 hg8 hnn8))
          have hB8 : Below (c + 1) w7 w8 := ((Below.refl (c + 1) w7).alloc HC7.out _).grown hg8 (by have := HC7.out; simp; omega) (fun k hk => (World.ownsRow.lt HW6.out.2.1 k hk).1)
          have HW8 : Hid (CurAt w8 c nn (pp + 1) (s.l.length + 1) (adapt d (s.l.length + 1) s.one : Nat) true ∧ EntO w8 (c + 1) v8 (es ++ [(nn, pp)]) ∧ Below w.heap.size w w8 ∧ c < w8.heap.size) := by
            refine ⟨HW6.out.1.under hB8 (by omega), ?_, HW6.out.2.2.1.trans (hB8.mono (by have := HCW.out; omega)), by have := hB8.size; have := HC7.out; omega⟩
            unfold EntO
            rw [entC_append, List.length_append]
            exact ho8
          clear ho8 hg8 hnn8 hB8 c0 c1 HO HW6 HC7
          go_wp2
          go_roundw
          case rel => exact ⟨e, _, es ++ [(nn, pp)], rfl, HN.out, by rw [insL_len]; exact HW8.out.1, HW8.out.2.1, HW8.out.2.2.1, HW8.out.2.2.2⟩
          case measure => simp [intOf]; omega
      · have HF : Hid (R = none) := HR.out.err (by rw [HL.out]; exact hlt) HGE.out her
        have i2 : ¬ (er : Int) = 0 := by omega
        have i3 : ((er : Int) == 0) = false := by simp; omega
        go_wp2
        go_ret2
        exact ⟨.inl ⟨HF.out, rfl⟩, HW.out.2.2.1⟩
    · have i1 : ¬ (at_ : Int) < (str.size : Int) := by omega
      have HF : Hid (R = some (builtL bs es)) := HR.out.done (by rw [HL.out]; exact hlt)
      have hlen : es.length ≤ str.size := by omega
      go_wp2
      go_ret2
      exact ⟨.inr ⟨u6, es, HF.out, rfl, HW.out.2.1.base (by have := HCW.out; omega), hlen, HR.out.pl, HR.out.val⟩, HW.out.2.2.1⟩
end Pun
end Go.Proofs.Ytemgbmacdpnepaa
