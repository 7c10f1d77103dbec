/-
  Lists joined are all their numbers, in their order, and the joined list is new memory: the statement ScalarJoins is proved, for every input. Conditions: none.
-/
import Derived.Test.YtngbkcfiofdelaaScaA
import Derived.Test.YtngbkcfiofdelaaScaJ
namespace Go.Proofs.Ytngbkcfiofdelaa.scalarJoins
open Go.ChangeShapes Go.WideShapes Go.ChangeAt Go.RowKit
open Go.ChangeMaps (open_string shut_string)
open Bas Sca
set_option linter.unusedVariables false

theorem lens_bd (ll : List (List Int)) (k : Nat) (hk : k ≤ ll.length) (h : ∀ j, j < k → (nthL ll j).length ≤ 100) : lens ll k ≤ 100 * k := by
  induction k with
  | zero => simp [lens]
  | succ k ih =>
    have h1 := lens_succ ll k (by omega)
    have h2 := ih (by omega) (fun j hj => h j (by omega))
    have h3 := h k (by omega)
    omega
theorem lens_all (ll : List (List Int)) (n : Nat) (h : ll.length = n) : lens ll n = ll.flatten.length := by
  unfold lens; rw [List.take_of_length_le (by omega)]

set_option maxHeartbeats 4000000 in
theorem short (w : World) (a0 : Option Addr) (n0 c0 : Nat) (l0 : List (List Int)) (I0 : Ints2 .u32 w a0 n0 c0 l0) (a1 : Int) (w1 : (Lit.int .i64 a1).wf = true) (h0 : n0 ≤ 50) :
    Calls Try.prog 6 #[.slice a0 n0 c0, .int .i64 a1] w fun e w' => e = .returned (.bool true) ∧ Below w.heap.size w w' := by
  have e0 := I0.len
  have E0 : Hid (l0.length = n0) := e0
  clear e0
  go_enter Try.func6, Try.ntmps6
  go_wp2_with fail
  refine (awake_any _).mono ?_
  rintro e w1 ⟨rfl, hb1⟩
  have J0 := I0.mono hb1
  clear I0
  obtain ⟨b, off, ha, hc⟩ := J0.rows
  have HN : Hid (l0 ≠ [] → a0 = some ⟨b, off, none⟩) := ha
  have HC : Hid (∀ i, i < l0.length → ∃ ai ci, w1.cell? ⟨b, off + i, none⟩ = some (.slice ai (nthL l0 i).length ci) ∧ Row .u32 w1 ai (nthL l0 i) ∧ (ai = none → ci = 0) ∧ (nthL l0 i).length ≤ maxLen) := hc
  clear ha hc
  go_wp2
  go_loopw [5, 20] (fun v i wr => ∃ k : Nat, k ≤ n0 ∧ i = .int .i64 k ∧ Own .u32 22 wr w1.heap.size v (l0.take k).flatten ∧ Below w1.heap.size w1 wr ∧ (∀ j, j < k → (nthL l0 j).length ≤ 100)) (fun _ i _ => n0 - (intOf i).toNat)
  case atStart => exact ⟨0, Nat.zero_le _, rfl, Own.nil _ _ _ _, Below.refl _ _, fun j hj => by omega⟩
  case round =>
    obtain ⟨k, hk, rfl, hown, hbel, hall⟩ := hrel
    have HA : Hid (∀ j, j < k → (nthL l0 j).length ≤ 100) := hall
    clear hall
    by_cases hlt : k < n0
    · obtain rfl := HN.out (ne_nil_ofL E0.out hlt)
      obtain ⟨ai, ci, hcell0, hrow0, hnil, hmx⟩ := HC.out k (by have := E0.out; omega)
      have hcell := cell_later hbel hcell0
      have hrow := hrow0.mono hbel
      have HF : Hid ((l0.take (k + 1)).flatten = (l0.take k).flatten ++ nthL l0 k) := flatten_take_succ l0 k (by have := E0.out; omega)
      have hws : w1.heap.size ≤ wr.heap.size := hbel.size
      have hln : (l0.take k).flatten.length ≤ 100 * k := lens_bd l0 k (by have := E0.out; omega) HA.out
      clear hcell0 hrow0 hmx
      by_cases hle : (nthL l0 k).length ≤ 100
      · have hle' : ((nthL l0 k).length : Int) ≤ 100 := by omega
        go_wp2_with (at_builtin; refine wpList_append_ints rfl _ _ 26 rfl w1.heap.size .u32 22 4 Try.underlying26 info_u32 _ _ rfl hown _ _ _ _ rfl hrow rfl hnil (by unfold maxLen; omega) (by omega) hws ?_; intro v' w2 hown' hgrow)
        go_roundw
        case rel =>
          refine ⟨k + 1, by omega, by go_num, by rw [HF.out]; exact hown', hbel.grown hgrow hws (fun k hk => (hown.lt k hk).1), fun j hj => ?_⟩
          by_cases e : j = k
          · rw [e]; exact hle
          · exact HA.out j (by omega)
        case measure => simp [intOf]; omega
      · have hle' : (100 : Int) < ((nthL l0 k).length : Int) := by omega
        go_wp2
        go_ret
        exact ⟨rfl, below_two hb1 hbel⟩
    · have hsum : l0.flatten.length ≤ 1000000 := by
        rw [← lens_all l0 n0 E0.out]
        have := lens_bd l0 n0 (by have := E0.out; omega) (fun j hj => HA.out j (by omega))
        omega
      rw [List.take_of_length_le (by have := E0.out; omega)] at hown
      have K0 := J0.mono hbel
      have B0 := below_two hb1 hbel
      clear HA hk J0 hb1 HN HC hbel
      go_wp2_with fail
      refine (join_any _ _ _ _ _ K0.rows K0.len hsum K0.max).mono ?_
      rintro e w2 ⟨v1, rfl, o1, b1⟩
      have K1 := K0.mono b1
      have hown1 := hown.mono b1 (Nat.le_refl _)
      have B2 := below_two B0 b1
      clear K0 hown B0 b1
      go_wp2_with fail
      refine (join_any _ _ _ _ _ K1.rows K1.len hsum K1.max).mono ?_
      rintro e w3 ⟨v2, rfl, o2, b2⟩
      obtain ⟨N, hL⟩ : ∃ N, l0.flatten.length = N := ⟨_, rfl⟩
      have HL : Hid (l0.flatten.length = N) := hL
      obtain ⟨x1, d1, hv1, s1, z1, _, _⟩ := o1.row
      obtain ⟨xw, dw, hvw, sw, _, _, _⟩ := hown1.row
      obtain ⟨x2, d2, hv2, _, _, _, _⟩ := o2.row
      rw [hL] at hv1 z1 hvw hv2
      subst hv1 hvw hv2
      clear o1 hown1 hL
      by_cases hin : 0 ≤ a1 ∧ a1 < (N : Int)
      · obtain ⟨hin1, hin2⟩ := hin
        obtain ⟨m, rfl⟩ := Int.eq_ofNat_of_zero_le hin1
        obtain ⟨g, rfl, hgb, hgl, hfz, hcl⟩ := o2.at (by rw [HL.out]; omega)
        have hcm := hcl m (by rw [HL.out]; omega)
        have hfm := hfz m
        have Bx : ∀ u, Below w2.heap.size w2 (w3.setCell ⟨g, m, none⟩ u) := fun u => b2.setCell hgb u
        clear hfz hcl o2 b2
        go_wp2_with fail
        replace Bx := Bx (.int .u32 ((nth l0.flatten m + 1) % 4294967296))
        have t1 := s1.mono Bx
        have tw := sw.mono Bx
        have K3 := K1.mono Bx
        have B9 := below_two B2 Bx
        clear s1 sw K1 B2 Bx
        go_wp2_with fail
        refine (rSame_any _ _ _ _ _ _ _ _ _ t1 tw HL.out HL.out z1 z1).mono ?_
        rintro e w5 ⟨rfl, nd, rfl⟩
        rw [cmpL_self]
        have K4 := K3.mono (below_dn _ nd)
        have tv := row_drewN tw nd
        have B5 := below_two B9 (below_dn _ nd)
        clear K3 t1 tw B9
        go_wp2_with fail
        refine (join_any _ _ _ _ _ K4.rows K4.len hsum K4.max).mono ?_
        rintro e w6 ⟨v3, rfl, o3, b3⟩
        obtain ⟨x3, d3, hv3, s3, z3, _, _⟩ := o3.row
        rw [HL.out] at hv3
        subst hv3
        have tu := tv.mono b3
        have B6 := below_two B5 b3
        clear o3 b3 K4 tv B5 z3
        go_wp2_with fail
        refine (rSame_any _ _ _ _ _ _ _ _ _ s3 tu HL.out HL.out z1 z1).mono ?_
        rintro e w7 ⟨rfl, nd2, rfl⟩
        rw [cmpL_self]
        go_wp2
        go_ret
        exact ⟨rfl, below_two B6 (below_dn _ _)⟩
      · have hx : (decide (0 ≤ a1) && decide (a1 < (N : Int))) = false := by simp; omega
        have Bx : Below w2.heap.size w2 w3 := b2
        clear b2 o2
        by_cases hn : 0 ≤ a1
        · have hn2 : ¬ a1 < (N : Int) := by omega
          clear hx
          have t1 := s1.mono Bx
          have tw := sw.mono Bx
          have K3 := K1.mono Bx
          have B9 := below_two B2 Bx
          clear s1 sw K1 B2 Bx
          go_wp2_with fail
          refine (rSame_any _ _ _ _ _ _ _ _ _ t1 tw HL.out HL.out z1 z1).mono ?_
          rintro e w5 ⟨rfl, nd, rfl⟩
          rw [cmpL_self]
          have K4 := K3.mono (below_dn _ nd)
          have tv := row_drewN tw nd
          have B5 := below_two B9 (below_dn _ nd)
          clear K3 t1 tw B9
          go_wp2_with fail
          refine (join_any _ _ _ _ _ K4.rows K4.len hsum K4.max).mono ?_
          rintro e w6 ⟨v3, rfl, o3, b3⟩
          obtain ⟨x3, d3, hv3, s3, z3, _, _⟩ := o3.row
          rw [HL.out] at hv3
          subst hv3
          have tu := tv.mono b3
          have B6 := below_two B5 b3
          clear o3 b3 K4 tv B5 z3
          go_wp2_with fail
          refine (rSame_any _ _ _ _ _ _ _ _ _ s3 tu HL.out HL.out z1 z1).mono ?_
          rintro e w7 ⟨rfl, nd2, rfl⟩
          rw [cmpL_self]
          go_wp2
          go_ret
          exact ⟨rfl, below_two B6 (below_dn _ _)⟩
        · clear hx
          have t1 := s1.mono Bx
          have tw := sw.mono Bx
          have K3 := K1.mono Bx
          have B9 := below_two B2 Bx
          clear s1 sw K1 B2 Bx
          go_wp2_with fail
          refine (rSame_any _ _ _ _ _ _ _ _ _ t1 tw HL.out HL.out z1 z1).mono ?_
          rintro e w5 ⟨rfl, nd, rfl⟩
          rw [cmpL_self]
          have K4 := K3.mono (below_dn _ nd)
          have tv := row_drewN tw nd
          have B5 := below_two B9 (below_dn _ nd)
          clear K3 t1 tw B9
          go_wp2_with fail
          refine (join_any _ _ _ _ _ K4.rows K4.len hsum K4.max).mono ?_
          rintro e w6 ⟨v3, rfl, o3, b3⟩
          obtain ⟨x3, d3, hv3, s3, z3, _, _⟩ := o3.row
          rw [HL.out] at hv3
          subst hv3
          have tu := tv.mono b3
          have B6 := below_two B5 b3
          clear o3 b3 K4 tv B5 z3
          go_wp2_with fail
          refine (rSame_any _ _ _ _ _ _ _ _ _ s3 tu HL.out HL.out z1 z1).mono ?_
          rintro e w7 ⟨rfl, nd2, rfl⟩
          rw [cmpL_self]
          go_wp2
          go_ret
          exact ⟨rfl, below_two B6 (below_dn _ _)⟩

set_option maxHeartbeats 1000000 in
theorem walk (w : World) (a0 : Option Addr) (n0 c0 : Nat) (l0 : List (List Int)) (I0 : Ints2 .u32 w a0 n0 c0 l0) (a1 : Int) (w1 : (Lit.int .i64 a1).wf = true) :
    Calls Try.prog 6 #[.slice a0 n0 c0, .int .i64 a1] w fun e w' => e = .returned (.bool true) ∧ Below w.heap.size w w' := by
  by_cases h0 : n0 ≤ 50
  · exact short w a0 n0 c0 l0 I0 a1 w1 h0
  · clear I0
    go_enter Try.func6, Try.ntmps6
    go_wp2_with fail
    refine (awake_any _).mono ?_
    rintro e w1 ⟨rfl, hb1⟩
    go_wp2_with fail
    refine (awake_any _).mono ?_
    rintro e w2 ⟨rfl, hb2⟩
    go_wp2
    go_ret
    exact ⟨rfl, below_two hb1 hb2⟩

set_option maxRecDepth 100000 in
theorem lifted (os : Os) (started : os.Started) (H : Type) (enc : TypeId × Value → H) :
    ReturnsInHanded {} Try.checked os 6 .any (Rows.scalarJoinsSpec.pre6 enc Try.prog Try.f6 Rows.scalarJoinsRow.domain false) (Rows.scalarJoinsSpec.post enc Try.prog Try.f6 false true false false) := by
  refine returnsInHanded_of_change (C := Try.checked) Bas.own started (by kernel_rfl) Try.func6
    (ChangeSpec.witness6 (enc := enc) (C := Try.checked) false ⟨#[], #[.slice none 0 0, .int .i64 0], []⟩ 8 (by kernel_rfl) (by kernel_rfl) (by kernel_rfl) (by kernel_rfl)) ?_
  intro W base args ds gs before hval0 hW hcnd _
  have hval : ∀ (j : Nat) t v, Try.f6.params[j]? = some t → args[j]? = some v → Value.okWide Try.prog W .any base t v := hval0
  have hW' := hW
  obtain ⟨p, q, hA0, hV, rfl, hfz, hnd⟩ := hW
  have hA : DataW.TrodAll enc Try.prog W 0 (fun _ => true) true Try.f6.params.toList args.toList ds p := hA0
  rw [Try.params6] at hA hval
  obtain ⟨v0, vs0, d0, ds0, p0, q0, hargs, rfl, rfl, h0, r0⟩ := trodAll_cons hA
  obtain ⟨v1, vs1, d1, ds1, p1, q1, rfl, rfl, rfl, h1, r1⟩ := trodAll_cons r0
  obtain ⟨rfl, rfl, rfl⟩ := trodAll_nil r1
  obtain rfl : args = #[v0, v1] := by cases args; simp_all
  obtain ⟨rfl, rfl⟩ := trodVars_none hV
  have k0 := h0
  have lt0 : ∀ x ∈ p0, x.block < W.heap.size := by obtain ⟨m, hm⟩ := k0; exact DataW.trod_lt m _ _ _ hm
  have k1 := h1
  have lt1 : ∀ x ∈ p1, x.block < W.heap.size := by obtain ⟨m, hm⟩ := k1; exact DataW.trod_lt m _ _ _ hm
  obtain ⟨a0, n0, c0, rfl⟩ := okWide_slice Try.underlying32 (hval 0 32 v0 rfl rfl)
  obtain ⟨l0, I0⟩ : ∃ l : List (List Int), Bas.Ints2 .u32 W a0 n0 c0 l := by
    obtain ⟨fuel, hf⟩ := h0
    rcases Deep.open_int_rows Try.underlying32 Try.underlying26 Try.underlying22 (by kernel_rfl) (by kernel_rfl) hf with ⟨hcs, _⟩ | ⟨x, l, c, A, L, C, Z, hcs, _, hl, hm, _, hrows⟩
    · simp [Value.cells] at hcs
      obtain ⟨rfl, rfl, rfl⟩ := hcs
      exact ⟨[], Bas.ints2_nil _ _⟩
    · simp [Value.cells] at hcs
      obtain ⟨rfl, rfl, rfl⟩ := hcs
      exact ⟨_, Bas.ints2_of _ _ _ _ _ A L C Z hl hm hrows⟩
  obtain ⟨a1, rfl, rfl, rfl, w1⟩ := open_int Try.underlying3 (hval 1 3 v1 rfl rfl) h1
  refine (walk W a0 n0 c0 l0 I0 a1 w1).mono fun e W' ⟨he, bel⟩ => ?_
  subst he
  exact ⟨_, rfl, _, _, _, [], _, [], hW', trodAll_mk1 (shut_bool Try.underlying4 _), (trodAll_cons_mk (Below.trod Bas.laidOut (by kernel_rfl) (of_decide_eq_true (by kernel_rfl)) k0 bel lt0) (trodAll_cons_mk (Below.trod Bas.laidOut (by kernel_rfl) (of_decide_eq_true (by kernel_rfl)) k1 bel lt1) trodAll_mk0)), rfl, bel.frame _, fun h => by cases h⟩

theorem over : Rows.scalarJoinsRow.holds Try.pinned (OpenSpec.ofChange Rows.scalarJoinsSpec) :=
  OpenClaim.holds_of_wide 6 Try.f6 rfl rfl rfl rfl rfl rfl rfl ⟨rfl, rfl, rfl, rfl, rfl⟩ rfl rfl rfl rfl rfl (by kernel_rfl) Try.func6 (by kernel_rfl)
    (of_decide_eq_true (by kernel_rfl)) (by unfold Func.isWrapper; first | (rw [if_pos (by decide +kernel)]; kernel_rfl) | (rw [if_neg (by decide +kernel)]; exact ⟨rfl, rfl⟩))
    (fun os started H enc _ => lifted os started H enc)
end Go.Proofs.Ytngbkcfiofdelaa.scalarJoins
namespace Go.Proofs.Ytngbkcfiofdelaa
/-- The statement. -/
theorem scalarJoins_proved : Rows.ScalarJoinsSaid := scalarJoins.over
end Go.Proofs.Ytngbkcfiofdelaa
