/-
  The contract of the encoder's Feed, of scalars, as a walk over the translated text. The condition: its memory is there and may be written; room and lists are small.
-/
import Derived.Test.YtpglmfhlgaliaaaDoorCP5
import Derived.Test.YtpglmfhlgaliaaaDoorStrs
import Derived.Deep.RegionHeld3
namespace Go.Proofs.YtpglmfhlgaliaaaDoor
open Go.ChangeShapes Go.WideShapes Go.ChangeAt Go.RowKit
namespace CP
open Bas Sca Stp Scn Cod Cmp Cps
set_option linter.unusedVariables false
variable {π : Bool}

/-- What a call of Feed leaves. -/
def EFeedQ (π : Bool) (D d : Nat) (p : Int) (v : Value) (X : SRes CS) (w w' : World) : Prop :=
  ∃ v', EncW π X.st w' D d (p + X.eaten) 0 false X.kept v' ∧ Chg (fun k _ => footX D d v k) w w' ∧ Mov w v v'
theorem foot_old {w : World} {D d : Nat} {v v' : Value} (h : Mov w v v') {k : Nat} (hk : k < w.heap.size) (hf : footX D d v' k) : footX D d v k := by
  rcases hf with hf | hf
  · exact .inl hf
  · rcases h k hf with e | e
    · exact .inr e
    · omega
theorem apartE {w : World} {bb D d : Nat} {vb v v' : Value} (h : ∀ g, footS bb vb g → ¬ footX D d v g) (m : Mov w v v') (hs : ∀ g, footS bb vb g → g < w.heap.size) : ∀ g, footS bb vb g → ¬ footX D d v' g := fun g hg hf => by
  rcases hf with hf | hf
  · exact h g hg (.inl hf)
  · rcases m g hf with e | e
    · exact h g hg (.inr e)
    · have := hs g hg; omega
theorem apartS {w : World} {bb D d : Nat} {vb vb' v : Value} (h : ∀ g, footS bb vb g → ¬ footX D d v g) (m : Mov w vb vb') (hs : ∀ g, footX D d v g → g < w.heap.size) : ∀ g, footS bb vb' g → ¬ footX D d v g := fun g hg hf => by
  rcases hg with hg | hg
  · exact h g (.inl hg) hf
  · rcases m g hg with e | e
    · exact h g (.inr e) hf
    · have := hs g hf; omega

theorem efeed_fin {D d : Nat} {p P : Int} {K' : List Int} {v v' : Value} {w w3 w4 : World} {t : List Int} {k : Nat} {X : SRes CS} {sg : CS} {F : Nat → Prop} (hX : X = ⟨t, k, K', sg, false⟩) (hP : P = p + k)
    (E : EncW π sg w3 D d P 0 false K' v') (hC : Chg (fun k _ => footX D d v k) w w3) (hM : Mov w v v') (hk : Kp F w3 w4) (hF : ∀ k, F k → w.heap.size ≤ k ∧ ¬ footX D d v' k) (hw : 2 ≤ w.heap.size) : EFeedQ π D d p v X w w4 := by
  subst hX hP
  exact ⟨v', E.kp hk (fun k hf hF' => (hF k hF').2 hf) (fun k hk hF' => by have := (hF k hF').1; omega), hC.kp hk (fun k hk' hF' => by have := (hF k hF').1; omega), hM⟩

set_option maxHeartbeats 8000000 in
set_option maxRecDepth 100000 in
theorem eFeed_any (D d : Nat) (p : Int) (sg : CS) (K : List Int) (v : Value) (a : Option Addr) (n cp : Nat) (L : List Int) (room : Int) (X : SRes CS) (w : World) (h : EncW π sg w D d p 0 false K v) (hX : X = encT (folB π) (folS π) room sg K L)
    (hrow : Row .u32 w a L) (hl : L.length = n) (ha : ∀ b' o', a = some ⟨b', o', none⟩ → ¬ footX D d v b') (hfit : ∀ c ∈ L, 0 ≤ c ∧ c < 4294967296) (hok : ∀ c ∈ L, isB c = true)
    (hr0 : -1000000000 ≤ room) (hr1 : room ≤ 1000000000) (hn : n ≤ 1000000) (hK : K.length ≤ 1000000) (hp0 : 0 ≤ p) (hp1 : p ≤ 1000000000) :
    Calls Tryd.prog 17 #[.pointer (some ⟨D, 0, none⟩), .slice a n cp, .int .i64 room] w fun e w' => e = .returned (.tuple #[.int .i64 X.eaten, .string (Stp.strOf X.told)]) ∧ EFeedQ π D d p v X w w' := by
  have wf : ∀ r : Int, -4611686018427387904 ≤ r → r ≤ 4611686018427387904 → (Lit.int .i64 r).wf = true := fun r h1 h2 => by
    have e1 : IntKind.i64.min = -9223372036854775808 := rfl
    have e2 : IntKind.i64.max = 9223372036854775807 := rfl
    simp only [Lit.wf, e1, e2, Bool.and_eq_true, decide_eq_true_eq]
    omega
  have HW : Hid (∀ r : Int, -4611686018427387904 ≤ r → r ≤ 4611686018427387904 → (Lit.int .i64 r).wf = true) := wf
  have H : Hid (EncW π sg w D d p 0 false K v) := h
  have HX : Hid (X = encT (folB π) (folS π) room sg K L) := hX
  have HR : Hid (Row .u32 w a L ∧ L.length = n ∧ (∀ b' o', a = some ⟨b', o', none⟩ → ¬ footX D d v b') ∧ (∀ c ∈ L, 0 ≤ c ∧ c < 4294967296) ∧ (∀ c ∈ L, isB c = true)) := ⟨hrow, hl, ha, hfit, hok⟩
  clear h hX hrow hl ha hfit hok wf
  go_enter Tryd.func17, Tryd.ntmps17
  go_wp2_with fail
  have hB1 : Below w.heap.size w (w.alloc (.cells #[.pointer none, .slice none 0 0] 63)) := (Below.refl _ _).alloc (Nat.le_refl _) _
  have E1 := H.out.below hB1
  refine (give_any D 3 v K room _ E1.row (HW.out room (by omega) (by omega))).mono ?_
  rintro e w2 ⟨v2, rfl, hr2, hc2, ho2⟩
  have HE2 : Hid (EncW π sg w2 D d p 0 false (K.drop (frontR room K.length)) v2) := E1.rerow hr2 (hc2.mono (fun k j _ h => .inl h)) (fun g hg => .inl (ho2 g hg))
  have HB2 : Hid (Bld w2 w.heap.size w.heap.size (.slice none 0 0) ByteArray.empty) := (bld_new w w.heap.size (Nat.le_refl _) rfl).chg hc2 (fun k j hk hh => by
    have := H.out.lt (.inl (.inl rfl))
    rcases hk with hk | hk
    · omega
    · simp [Value.ownBlock] at hk)
  have HC2 : Hid (Chg (fun k _ => footX D d v k) w w2 ∧ (∀ g, v2.ownBlock = some g → v.ownBlock = some g)) := ⟨(chg_of_below hB1 (Nat.le_refl _) _).trans2 hc2 (fun _ _ _ h => h) (fun k j _ h => .inl (.inl h.1)), ho2⟩
  clear hB1 E1 hr2 hc2 ho2
  go_wp2_with fail
  have hsz2 := HC2.out.1.size
  have hfr := frontR_le room K.length
  have hsl : (Stp.strOf (K.take (frontR room K.length))).size ≤ 1000000 := by rw [strOf_size]; simp; omega
  refine (writeS_any w.heap.size w.heap.size _ ByteArray.empty (Stp.strOf (K.take (frontR room K.length))) w2 HB2.out (by simp; omega) hsz2).mono ?_
  rintro e w3 ⟨rfl, vb3, hb3, hk3, hm3⟩
  have hfS : ∀ k, footS w.heap.size (Value.slice none 0 0) k → k = w.heap.size := fun k hk => by
    rcases hk with hk | hk
    · exact hk
    · simp [Value.ownBlock] at hk
  have hE2 := HE2.out
  have h2b : ∀ k, footX D d v2 k → k < w.heap.size := fun k hk => by
    rcases hk with hk | hk
    · exact H.out.lt (.inl hk)
    · exact H.out.lt (.inr (HC2.out.2 k hk))
  have HE3 : Hid (EncW π sg w3 D d p 0 false (K.drop (frontR room K.length)) v2) := hE2.kp hk3 (fun k hk hh => by have := h2b k hk; have := hfS k hh; omega) (fun k hk hh => by have := hfS k hh; have := H.out.sp.tabs.all; omega)
  have HB3 : Hid (Bld w3 w.heap.size w.heap.size vb3 (Stp.strOf (K.take (frontR room K.length)))) := by
    have e : ByteArray.empty ++ Stp.strOf (K.take (frontR room K.length)) = Stp.strOf (K.take (frontR room K.length)) := by simp
    rw [e] at hb3
    exact hb3
  have HC3 : Hid (Chg (fun k _ => footX D d v k) w w3 ∧ Mov w v v2) := ⟨HC2.out.1.kp hk3 (fun k hk hh => by have := hfS k hh; omega), fun g hg => .inl (HC2.out.2 g hg)⟩
  have HA3 : Hid (∀ g, footS w.heap.size vb3 g → ¬ footX D d v2 g) := fun g hg hf => by
    have := h2b g hf
    have := (HB3.out.foot_low hg).1
    omega
  clear hb3 hk3 hm3 hfS hE2 h2b HE2 HB2 HC2 hsz2
  obtain ⟨f0, hf0⟩ : ∃ f0, frontR room K.length = f0 := ⟨_, rfl⟩
  have HX0 : Hid (X = encS (folB π) (folS π) room sg (K.take f0) (K.drop f0) L) := by
    show _ = _
    rw [HX.out, encT, hf0]
  rw [hf0] at HE3 HB3 hfr hsl
  rw [hf0]
  clear hf0 HX hsl
  go_wp2_with fail
  go_loopw [9] (fun i wr => ∃ k : Nat, i = .int .i64 k ∧ k ≤ n ∧ ∃ (t K' : List Int) (s' : CS) (v' vb : Value), EncW π s' wr D d (p + k) 0 false K' v' ∧ Bld wr w.heap.size w.heap.size vb (Stp.strOf t) ∧ X = (encS (folB π) (folS π) room s' t K' (L.drop k)).plus k ∧ Chg (fun k _ => footX D d v k) w wr ∧ Mov w v v' ∧
      (∀ g, footS w.heap.size vb g → ¬ footX D d v' g) ∧ t.length ≤ 1000000 + 5 * k ∧ K'.length ≤ 1000000) (fun i _ => n - (intOf i).toNat)
  case atStart => exact ⟨0, rfl, Nat.zero_le _, _, _, sg, v2, vb3, by simpa using HE3.out, HB3.out, by simpa [SRes.plus] using HX0.out, HC3.out.1, HC3.out.2, HA3.out, by simp; omega, by simp; omega⟩
  case round =>
    obtain ⟨k, rfl, hk, t, K', s', v', vb, hE, hBd, hXe, hC, hM, hA, ht, hK'⟩ := hrel
    have HE : Hid (EncW π s' wr D d (p + k) 0 false K' v') := hE
    have HB : Hid (Bld wr w.heap.size w.heap.size vb (Stp.strOf t)) := hBd
    have HXE : Hid (X = (encS (folB π) (folS π) room s' t K' (L.drop k)).plus k) := hXe
    have HC : Hid (Chg (fun k _ => footX D d v k) w wr ∧ Mov w v v' ∧ (∀ g, footS w.heap.size vb g → ¬ footX D d v' g)) := ⟨hC, hM, hA⟩
    clear hE hBd hXe hC hM hA HE3 HB3 HX0 HC3 HA3
    go_wp2_with fail
    refine (going_any D 0 _ _ _ wr HE.out.base).mono ?_
    rintro e wr ⟨rfl, rfl⟩
    rw [show goB 0 false = true from rfl]
    go_wp2_with fail
    refine (kept_any D 3 v' K' wr HE.out.row).mono ?_
    rintro e wr ⟨rfl, rfl⟩
    by_cases h1 : K' = []
    · subst h1
      have hnl := HR.out.2.1
      rw [show ((([] : List Int).length : Nat) : Int) = 0 from rfl]
      by_cases h2 : (k : Int) < (n : Int)
      · have hkn : k < L.length := by omega
        obtain ⟨bl, ol, hal, hcl⟩ := HR.out.1
        have hne : L ≠ [] := by intro e; subst e; simp at hkn
        obtain rfl := hal hne
        have hcell : wr.cell? ⟨bl, ol + k, none⟩ = some (.int .u32 (nth L k)) := HC.out.1.cellAt (hcl k hkn) (HR.out.2.2.1 bl ol rfl)
        have hdr := drop_at L k hkn
        have hft := HR.out.2.2.2.1 _ (nth_mem hkn)
        have hxm := nth_mem hkn
        obtain ⟨x, hx⟩ : ∃ x, nth L k = x := ⟨_, rfl⟩
        rw [hx] at hcell hdr hft hxm
        have HXM : Hid (x ∈ L) := hxm
        have HD : Hid (L.drop k = x :: L.drop (k + 1)) := hdr
        clear hx hdr hcl hal hne hnl hkn hxm
        go_wp2_with fail
        refine (sIs_any x wr).mono ?_
        rintro e wr ⟨rfl, rfl⟩
        have hi : isB x = true := HR.out.2.2.2.2 x HXM.out
        rw [hi]
        have hi2 := isB_iff.1 hi
        have hx1 : x < 1114112 := by omega
        have hx0 : 0 ≤ x := hft.1
        have hol := folB_max π s' x
        obtain ⟨o, ho⟩ : ∃ o, folB π s' x = o := ⟨_, rfl⟩
        have HON : Hid (folB π s' x = o) := ho
        rw [ho] at hol
        have HXB : Hid (0 ≤ x ∧ isB x = true) := ⟨hft.1, hi⟩
        have HF : Hid (X = (encS (folB π) (folS π) room (folS π s' x) (t ++ o.take (frontR (room - t.length) o.length)) (o.drop (frontR (room - t.length) o.length)) (L.drop (k + 1))).plus (k + 1)) := by
          show _ = _
          rw [HXE.out, HD.out, encS_one _ hi, SRes.plus_plus, ho]
        have HO : Hid (o.length ≤ 5) := hol
        clear hi HXE HD hi2 hft hcell hol hK' ho HXM
        go_wp2_with fail
        refine (eat_any D 0 _ 0 false 1 wr HE.out.base (by omega) (by omega) (by omega)).mono ?_
        rintro e w4 ⟨rfl, hB4, hC4⟩
        have E4 : EncW π s' w4 D d (p + (k + 1 : Nat)) 0 false [] v' := by
          have := HE.out.rebase hB4 hC4
          have e : eatI (p + k) 0 false 1 = p + (k + 1 : Nat) := by simp [eatI, goB]; omega
          rw [e] at this
          exact this
        have HE4 : Hid (EncW π s' w4 D d (p + (k + 1 : Nat)) 0 false [] v') := E4
        have HC4 : Hid (Chg (fun k _ => footX D d v k) w w4 ∧ Mov w v v') := ⟨HC.out.1.trans2 hC4 (fun _ _ _ h => h) (fun k j _ h => .inl (.inl h.1)), HC.out.2.1⟩
        have HB4 : Hid (Bld w4 w.heap.size w.heap.size vb (Stp.strOf t)) := HB.out.chg hC4 (fun k j hk hh => HC.out.2.2 k hk (.inl (.inl hh.1)))
        clear hB4 hC4 E4 HE HB
        go_wp2_with fail
        refine (follow_any π s' D d _ 0 false [] v' x w4 HE4.out (.inr HXB.out) (by simp)).mono ?_
        rintro e w5 ⟨v5, rfl, E5, hc5, hm5⟩
        rw [List.nil_append, HON.out] at E5
        have B5 : Bld w5 w.heap.size w.heap.size vb (Stp.strOf t) := HB4.out.chg hc5 (fun k j hk hh => HC.out.2.2 k hk hh)
        have A5 : ∀ g, footS w.heap.size vb g → ¬ footX D d v5 g := apartE HC.out.2.2 hm5 (fun g hg => (HB4.out.foot_low hg).2)
        have C5 : Chg (fun k _ => footX D d v k) w w5 := HC4.out.1.trans2 hc5 (fun _ _ _ h => h) (fun k j hk h => foot_old HC4.out.2 hk h)
        have HH6 : Hid (EncW π (folS π s' x) w5 D d (p + (k + 1 : Nat)) 0 false o v5 ∧ Bld w5 w.heap.size w.heap.size vb (Stp.strOf t) ∧ (∀ g, footS w.heap.size vb g → ¬ footX D d v5 g) ∧ Chg (fun k _ => footX D d v k) w w5 ∧ Mov w v v5) := ⟨E5, B5, A5, C5, mov_trans HC4.out.2 hm5 HC4.out.1.size⟩
        clear E5 B5 A5 C5 hc5 hm5 HE4 HC4 HB4 HC
        have hts : ((Stp.strOf t).size : Int) = t.length := by rw [strOf_size]
        go_upto_region 12 with fail
        have E5 : EncW π (folS π s' x) w5.drew D d (p + (k + 1 : Nat)) 0 false o v5 := HH6.out.1.kp (kp_drew (fun _ => False) w5) (fun _ _ h => h) (fun _ _ h => h)
        have B5 : Bld w5.drew w.heap.size w.heap.size vb (Stp.strOf t) := HH6.out.2.1.kp (kp_drew (fun _ => False) w5) (fun _ _ h => h)
        have wfr : (Lit.int .i64 (room - t.length)).wf = true := HW.out _ (by omega) (by omega)
        have HT : Hid ((Stp.strOf t).size = t.length) := strOf_size t
        have HWR : Hid (IntKind.i64.wrap (room - t.length) = room - t.length) := wrap_i64s _ (by omega) (by omega)
        go_region_held3 (fun w' => True) (exact trivial) (first
          | (go_at_call 34; refine (lenS_any w.heap.size w.heap.size vb (Stp.strOf t) _ ?_).mono ?_; exact B5; rintro e w6 ⟨rfl, rfl⟩; rw [HT.out])
          | (go_at_call 27; rw [HWR.out]; refine (give_any D 3 v5 o (room - t.length) _ ?_ wfr).mono ?_; exact E5.row; rintro e w6 ⟨v6, rfl, hr6, hc6, ho6⟩; have E6 := E5.rerow hr6 (hc6.mono (fun k j _ h => .inl h)) (fun g hg => .inl (ho6 g hg)); have B6 := B5.chg hc6 (fun k j hk hh => HH6.out.2.2.1 k hk (.inl (.inl hh.1))))
          | (go_at_call 26; refine (writeS_any w.heap.size w.heap.size vb (Stp.strOf t) (Stp.strOf (o.take (frontR (room - t.length) o.length))) _ ?_ ?_ ?_).mono ?_; exact B6; (have := HO.out; rw [strOf_size, strOf_size]; simp; omega); exact Nat.le_trans HH6.out.2.2.2.1.size hc6.size; rintro e w7 ⟨rfl, vb7, hb7, hk7, hm7⟩))
        have A6 : ∀ g, footS w.heap.size vb g → ¬ footX D d v6 g := fun g hg hf => HH6.out.2.2.1 g hg (by
          rcases hf with hf | hf
          · exact .inl hf
          · exact .inr (ho6 g hf))
        have E7 := E6.kp hk7 (fun k hf hh => A6 k hh hf) (fun k hk hh => by have := (B6.foot_low hh).1; have := H.out.sp.tabs.all; omega)
        have A7 := apartS A6 hm7 (fun g hg => E6.lt hg)
        have C6 : Chg (fun k _ => footX D d v k) w w6 := HH6.out.2.2.2.1.drew.trans2 hc6 (fun _ _ _ h => h) (fun k j _ h => .inl (.inl h.1))
        have C7 := C6.kp hk7 (fun k hk hh => by have := (B6.foot_low hh).1; omega)
        have M7 : Mov w v v6 := fun g hg => HH6.out.2.2.2.2 g (ho6 g hg)
        rw [← strOf_append] at hb7
        have HH7 : Hid (EncW π (folS π s' x) w7 D d (p + (k + 1 : Nat)) 0 false (o.drop (frontR (room - t.length) o.length)) v6 ∧ Bld w7 w.heap.size w.heap.size vb7 (Stp.strOf (t ++ o.take (frontR (room - t.length) o.length))) ∧ Chg (fun k _ => footX D d v k) w w7 ∧ Mov w v v6 ∧ (∀ g, footS w.heap.size vb7 g → ¬ footX D d v6 g)) := ⟨E7, hb7, C7, M7, A7⟩
        clear E5 B5 wfr HT HWR hr6 hc6 ho6 E6 B6 hb7 hk7 hm7 A6 E7 A7 C6 C7 M7 HH6
        go_wp2
        go_roundw
        case rel =>
          refine ⟨k + 1, by go_num, by omega, t ++ o.take (frontR (room - t.length) o.length), o.drop (frontR (room - t.length) o.length), folS π s' x, v6, vb7, HH7.out.1, HH7.out.2.1, HF.out, HH7.out.2.2.1, HH7.out.2.2.2.1, HH7.out.2.2.2.2, ?_, ?_⟩
          · have := HO.out; simp only [List.length_append, List.length_take]; omega
          · have := HO.out; simp only [List.length_drop]; omega
        case measure => simp [intOf]; omega
      · have HF : Hid (X = ⟨t, k, [], s', false⟩) := by
          show _ = _
          rw [HXE.out, List.drop_of_length_le (by have := HR.out.2.1; omega)]; simp [SRes.plus, encS]
        clear HXE hnl
        go_wp2_with fail
        refine (strS_any w.heap.size w.heap.size vb (Stp.strOf t) wr HB.out (by rw [strOf_size]; omega)).mono ?_
        rintro e w5 ⟨rfl, hk5⟩
        go_wp2
        go_ret2
        exact ⟨by rw [HF.out]; rfl, efeed_fin HF.out rfl HE.out HC.out.1 HC.out.2.1 hk5 (fun k hk => ⟨(HB.out.foot_low hk).1, HC.out.2.2 k hk⟩) (H.out.sp.tabs.all)⟩
    · have hl1 : ((K'.length : Int) == 0) = false := by
        have : K'.length ≠ 0 := by simpa using h1
        simp [h1]
      have HF : Hid (X = ⟨t, k, K', s', false⟩) := by
        show _ = _
        rw [HXE.out, encS_kept _ h1]; simp [SRes.plus]
      clear HXE h1
      go_wp2_with fail
      refine (strS_any w.heap.size w.heap.size vb (Stp.strOf t) wr HB.out (by rw [strOf_size]; omega)).mono ?_
      rintro e w5 ⟨rfl, hk5⟩
      go_wp2
      go_ret2
      exact ⟨by rw [HF.out]; rfl, efeed_fin HF.out rfl HE.out HC.out.1 HC.out.2.1 hk5 (fun k hk => ⟨(HB.out.foot_low hk).1, HC.out.2.2 k hk⟩) (H.out.sp.tabs.all)⟩
end CP
end Go.Proofs.YtpglmfhlgaliaaaDoor
