/-
  Any text is sniffed as the codec's that the document says, with the length of its signature, or as nobody's: the statement SignSniffs is proved, for every input. No condition.
-/
import Derived.Test.YtmihceoeoggjjaaSgAwk
namespace Go.Proofs.Ytmihceoeoggjjaa
open Go.ChangeShapes Go.WideShapes Go.ChangeAt Go.RowKit
open Go.ChangeMaps (open_string shut_string)
namespace signSniffs
open Bas Txt Sig
set_option linter.unusedVariables false

set_option maxHeartbeats 4000000 in
set_option maxRecDepth 100000 in
theorem walk (w : World) (s : ByteArray) (hs : s.size ≤ maxLen) :
    Calls Try.prog 4 #[.string s] w fun e w' => e = .returned (.bool true) ∧ Below w.heap.size w w' := by
  clear hs
  go_enter Try.func4, Try.ntmps4
  go_wp2_with fail
  refine (awake_any w).mono ?_
  rintro e w1 ⟨rfl, b1⟩
  have H1 : Hid (Below w.heap.size w w1) := b1
  clear b1
  have HP : Hid (∀ w, Calls Try.prog 11 #[.string s] w fun e w' => e = .returned (sniffV (bytesL s)) ∧ Below w.heap.size w w') := sniff_any s
  have HR : Hid (∀ w, Calls Try.prog 12 #[.string s] w fun e w' => e = .returned (.int .i64 (sniffL (bytesL s))) ∧ Below w.heap.size w w') := rSniff_any s
  have hz : (sigS (sniffL (bytesL s))).size = (sigL (sniffL (bytesL s))).length := sigS_size _
  have hp := sniff_pos (bytesL s)
  unfold sniffV at HP
  obtain ⟨c, hc⟩ : ∃ c, sniffL (bytesL s) = c := ⟨_, rfl⟩
  rw [hc] at HP HR hz hp
  obtain ⟨n, hn⟩ : ∃ n, (sigL c).length = n := ⟨_, rfl⟩
  rw [hn] at HP hz
  have HO : Hid (∀ w, Calls Try.prog 10 #[.int .i64 c] w fun e w' => e = .returned (.string (sigS c)) ∧ Below w.heap.size w w') := rOf_any c
  obtain ⟨S, hS⟩ : ∃ S, sigS c = S := ⟨_, rfl⟩
  rw [hS] at HO hz
  clear hS hn hc hp
  go_wp2_with fail
  refine (HP.out w1).mono ?_
  rintro e w2 ⟨rfl, b2⟩
  have H2 : Hid (Below w.heap.size w w2) := below_two H1.out b2
  clear b2 H1
  go_wp2_with fail
  refine (HR.out w2).mono ?_
  rintro e w3 ⟨rfl, b3⟩
  have H3 : Hid (Below w.heap.size w w3) := below_two H2.out b3
  clear b3 H2
  go_wp2_with fail
  refine (HO.out w3).mono ?_
  rintro e w4 ⟨rfl, b4⟩
  have i1 : (n : Int) = (S.size : Int) := by omega
  go_wp2
  go_ret
  exact ⟨ret_bool (by simp), below_two H3.out b4⟩
set_option maxRecDepth 100000 in
theorem lifted (os : Os) (started : os.Started) (H : Type) (enc : TypeId × Value → H) :
    ReturnsInHanded {} Try.checked os 4 .any (Rows.signSniffsSpec.pre6 enc Try.prog Try.f4 Rows.signSniffsRow.domain false) (Rows.signSniffsSpec.post enc Try.prog Try.f4 false true false false) := by
  refine returnsInHanded_of_change (C := Try.checked) Bas.own started (by kernel_rfl) Try.func4
    (ChangeSpec.witness6 (enc := enc) (C := Try.checked) false ⟨#[], #[.string ByteArray.empty], []⟩ 8 (by kernel_rfl) (by kernel_rfl) (by kernel_rfl) (by kernel_rfl)) ?_
  intro W base args ds gs before hval0 hW hcnd _
  have hval : ∀ (j : Nat) t v, Try.f4.params[j]? = some t → args[j]? = some v → Value.okWide Try.prog W .any base t v := hval0
  have hW' := hW
  obtain ⟨p, q, hA0, hV, rfl, hfz, hnd⟩ := hW
  have hA : DataW.TrodAll enc Try.prog W 0 (fun _ => true) true Try.f4.params.toList args.toList ds p := hA0
  rw [Try.params4] at hA hval
  obtain ⟨v0, vs0, d0, ds0, p0, q0, hargs, rfl, rfl, h0, r0⟩ := trodAll_cons hA
  obtain ⟨rfl, rfl, rfl⟩ := trodAll_nil r0
  obtain rfl : args = #[v0] := by cases args; simp_all
  obtain ⟨rfl, rfl⟩ := trodVars_none hV
  have k0 := h0
  have lt0 : ∀ x ∈ p0, x.block < W.heap.size := by obtain ⟨m, hm⟩ := k0; exact DataW.trod_lt m _ _ _ hm
  obtain ⟨a0, rfl, rfl, rfl, w0⟩ := open_string Try.underlying9 (hval 0 9 v0 rfl rfl) h0
  refine (walk W a0 w0).mono fun e W' ⟨he, bel⟩ => ?_
  subst he
  exact ⟨_, rfl, _, _, _, [], _, [], hW', trodAll_mk1 (shut_bool Try.underlying4 _), (trodAll_cons_mk (Below.trod Bas.laidOut (by kernel_rfl) (of_decide_eq_true (by kernel_rfl)) k0 bel lt0) trodAll_mk0), rfl, bel.frame _, fun h => by cases h⟩

theorem over : Rows.signSniffsRow.holds Try.pinned (OpenSpec.ofChange Rows.signSniffsSpec) :=
  OpenClaim.holds_of_wide 4 Try.f4 rfl rfl rfl rfl rfl rfl rfl ⟨rfl, rfl, rfl, rfl, rfl⟩ rfl rfl rfl rfl rfl (by kernel_rfl) Try.func4 (by kernel_rfl)
    (of_decide_eq_true (by kernel_rfl)) (by unfold Func.isWrapper; first | (rw [if_pos (by decide +kernel)]; kernel_rfl) | (rw [if_neg (by decide +kernel)]; exact ⟨rfl, rfl⟩))
    (fun os started H enc _ => lifted os started H enc)
end Go.Proofs.Ytmihceoeoggjjaa.signSniffs
namespace Go.Proofs.Ytmihceoeoggjjaa
/-- The statement. -/
theorem signSniffs_proved : Rows.SignSniffsSaid := signSniffs.over
end Go.Proofs.Ytmihceoeoggjjaa
