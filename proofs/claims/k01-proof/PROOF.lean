import PyProof.Rows.All
import Wide.All
import OpenK.AllK
import Wide.FinOn
import HandS.Comp
import HandS.Iter
import HandS.WordsList
import HandS.Wide
import HandS.Codes
import HandS.IsInst
import HandS.Sort
import HandS.Base
import HandS.Call
import HandS.List
import HandS.Exc
import HandS.ExcOwn
import HandS.ExcInit
import HandS.Words
import HandS.WordsExc
import KE.KIsAll
import KE.KExcIs
import PySem.Challenge.RW_goalcolumn_k01_errors_and_their_values
set_option Elab.async false
set_option linter.all false
set_option maxRecDepth 100000
set_option maxHeartbeats 4000000
namespace Gc
open PySem L2
/-! ### the text by places -/
def top (i : Nat) : Stmt := PySem.Challenge.pw_goalcolumn_k01_errors_and_their_values.main.body.getD i (.Pass ⟨0, 0, 0, 0⟩)
abbrev sSource : Stmt := top 10
abbrev sDraw : Stmt := top 11

/-! ### heaps: all that stood but at two places -/
def Keep (a d : Addr) (H H' : Hp) : Prop := ∀ b o, b ≠ a → b ≠ d → H b = some o → H' b = some o
theorem Keep.refl {a d : Addr} (H : Hp) : Keep a d H H := fun _ _ _ _ h => h
theorem Keep.trans {a d : Addr} {H H1 H2 : Hp} (x : Keep a d H H1) (y : Keep a d H1 H2) : Keep a d H H2 := fun b o h1 h2 h => y b o h1 h2 (x b o h1 h2 h)
theorem Keep.of {a d : Addr} {H H' : Hp} (e : Same H H') : Keep a d H H' := fun b o _ _ h => e b o h
theorem same_upd {H H' : Hp} {p : Addr} {o : HO} (e : Same H H') (h : H' p = none) : Same H (upd H' p o) := fun b u hb => by
  rw [upd_ne (ne_of_none (e b u hb) h)]
  exact e b u hb
theorem Keep.upd1 {a d : Addr} {H H' : Hp} {o : HO} (e : Keep a d H H') : Keep a d H (upd H' a o) := fun b u h1 h2 h => by
  rw [upd_ne h1]
  exact e b u h1 h2 h
theorem Keep.upd2 {a d : Addr} {H H' : Hp} {o : HO} (e : Keep a d H H') : Keep a d H (upd H' d o) := fun b u h1 h2 h => by
  rw [upd_ne h2]
  exact e b u h1 h2 h
theorem Keep.new {a d p : Addr} {H H' : Hp} {o : HO} (e : Keep a d H H') (h : H' p = none) : Keep a d H (upd H' p o) := fun b u h1 h2 hb => by
  rw [upd_ne (ne_of_none (e b u h1 h2 hb) h)]
  exact e b u h1 h2 hb

/-! ### the source of drawn numbers: at a, its digits at d; at most n draws were made -/
def Src (H : Hp) (a d : Addr) (n : Nat) : Prop := ∃ (ds : List Int) (cur mix cnt : Int), H a = some (.lst [.ref d, .int cur, .int mix, .int cnt]) ∧ H d = some (.lst (ds.map V.int)) ∧
  0 ≤ mix ∧ mix < 2 ^ 61 ∧ 0 ≤ cnt ∧ cnt ≤ n ∧ ds.length ≤ 63
theorem src_ne {H : Hp} {a d : Addr} {n : Nat} (h : Src H a d n) : a ≠ d := by
  obtain ⟨ds, cur, mix, cnt, h1, h2, _⟩ := h
  refine ne_of h1 h2 fun e => ?_
  cases ds with
  | nil => cases e
  | cons x xs => cases e

def spSource (K : PySem.W.Frag) : Sp := fun vs H Q _ => ∃ (a : Addr) (ns : List Int), vs = [.ref a] ∧ SqL K H a (ns.map V.int) ∧ ns.length ≤ 63 ∧
  ∀ (H' : Hp) (p d : Addr), Same H H' → H p = none → H d = none → Src H' p d 0 → Q (.ref p) H'
def spDraw : Sp := fun vs H Q _ => ∃ (a d : Addr) (n : Nat) (many : Int), vs = [.ref a, .int many] ∧ Src H a d n ∧ n < 2 ^ 40 ∧ 0 < many ∧ many.natAbs.log2 < 9000 ∧
  ∀ (H' : Hp) (r : Int), Keep a d H H' → Src H' a d (n + 1) → 0 ≤ r → r < many → Q (.int r) H'
theorem cpow {i j : Int} (h : (decide (0 ≤ j) && (decide (j ≤ 1000000) && decide (i.natAbs < 2 ^ 64))) = true) : CPow i j := by
  rw [Bool.and_eq_true, Bool.and_eq_true] at h
  exact ⟨of_decide_eq_true h.1, of_decide_eq_true h.2.1, of_decide_eq_true h.2.2⟩
theorem pos61 : (0 : Int) < 2 ^ (61 : Int).toNat - 1 := by decide
theorem pow_small {x : Int} {a k b : Nat} (h : x.natAbs < 2 ^ a) (hb : a * k < b) : (x ^ k).natAbs < 2 ^ b := by
  rw [Int.natAbs_pow]
  have h1 : x.natAbs ^ k ≤ (2 ^ a) ^ k := Nat.pow_le_pow_left (Nat.le_of_lt h) k
  rw [← Nat.pow_mul] at h1
  exact Nat.lt_of_le_of_lt h1 (Nat.pow_lt_pow_right (by decide) hb)
theorem int_at {ns : List Int} {i : Nat} {y : V} (h : (ns.map V.int)[i]? = some y) : ∃ u, y = V.int u := by
  rw [List.getElem?_map] at h
  cases e : ns[i]? with
  | none =>
    rw [e] at h
    cases h
  | some u =>
    rw [e] at h
    exact ⟨u, (Option.some.inj h).symm⟩
theorem dp_ints {K : PySem.W.Frag} {H : Hp} : ∀ ns : List Int, DpAll K H (ns.map V.int) (ns.map PyData.int)
  | [] => .nil
  | x :: r => .cons (.int x) (dp_ints r)
structure Txt (mg : Str → Option Value) : Prop where
  max : mg "max" = none

section
variable {P : Program} {w : World} {K : PySem.W.Frag} {mg : Str → Option Value} {base : Heap}
theorem sc_law_source : FnScope ["script", "mix", "digits", "cell", "size"] ["script"] (defScope sSource) := ⟨rfl, rfl, rfl, by decide +kernel, rfl, by decide +kernel, by decide +kernel⟩
theorem ok_source {f : Addr} {fd : FuncData} (F : Fun K "_law_source" "_law_source" sSource f fd) (T : Txt mg) : FnOk P w K mg base CX0 1 f fd ["script"] (spSource K) := by
  refine F.ok sc_law_source (fun vs H Q E h => ?_) (fun cdv A outer s H vs Q E hr h => ?_)
  · obtain ⟨a, ns, rfl, _⟩ := h
    rfl
  · obtain ⟨a, ns, rfl, hS, hlen, k⟩ := h
    refine ⟨_, (pss_cons (ps_set (i := 1) sc_law_source.nd rfl (Or.inl rfl) pe_int)
      (pss_cons (ps_set (i := 2) sc_law_source.nd rfl (Or.inl rfl) (pe_lst pa_nil))
      (pss_cons (ps_for PassesOwn.never rfl (pi_list (pv 0)) (pg_name (i := 3) sc_law_source.nd rfl (Or.inl rfl)) (pss_cons (ps_set (i := 1) sc_law_source.nd rfl (Or.inl rfl) (pe_op op_mod (pe_op op_add (pe_op op_mulW (pv 1) pe_int) (pv 3)) (pe_op op_sub (pe_op op_pow pe_int pe_int) pe_int)))
      (pss_cons (ps_set (i := 4) sc_law_source.nd rfl (Or.inl rfl) (pe_callB (call_max2 rfl) (by rfl) T.max (by decide +kernel) (pa_cons (pv 3) (pa_cons (pe_op op_sub pe_int (pv 3)) pa_nil))))
      (pss_one (ps_if (pt_cmpR op_ge (pv 4) (pe_op op_pow pe_int pe_int) (nomark _)) (pss_one (ps_expr (pe_bm PySem.F.plainAttrs_list PySem.F.slot_list_append PySem.F.type_list_append mt_append (pv 2) (pa_cons (pe_op op_sub (pv 4) (pe_op op_pow pe_int pe_int)) pa_nil)))) pss_nil)))))
      (pss_one (ps_ret (pe_lst (pa_cons (pv 2) (pa_cons pe_int (pa_cons (pv 1) (pa_cons pe_int pa_nil)))))))))), ?_⟩
    refine ⟨Nat.zero_le _, fun d hd => ?_⟩
    refine ⟨_, rfl, a, rfl, ⟨_, (same_upd (Same.refl H) hd).seq hS⟩, for_list (K := K) (a := a) (xs := ns.map V.int) (fun i σ H' => ∃ (mix : Int) (ds : List Int) (v1 v2 : Option V), σ = [some (.ref a), some (.int mix), some (.ref d), v1, v2] ∧ Same H H' ∧ H' d = some (.lst (ds.map V.int)) ∧ 0 ≤ mix ∧ mix < 2 ^ 61 ∧ ds.length ≤ i)
      ⟨271828182845904, [], none, none, rfl, same_upd (Same.refl H) hd, upd_same, by decide, by decide, Nat.le_refl _⟩ (fun i σ H' _ ⟨_, _, _, _, _, e, _⟩ => e.seq hS) ?_ ?_⟩
    · rintro i y σ H' hi ⟨mix, ds, v1, v2, rfl, e, hD, m0, m1, hl⟩
      obtain ⟨u, rfl⟩ := int_at hi
      have hi' : i < ns.length := by
        have q := (List.getElem?_eq_some_iff.mp hi).1
        rw [List.length_map] at q
        exact q
      -- mix = (mix * 1000033 + cell) % (2 ** 61 - 1)
      refine ⟨_, rfl, _, _, rfl, rfl, wide_mul (a := 61) (b := 61) (by omega) (by decide) (by decide) (by decide) (by decide), _, rfl, _, _, rfl, rfl, _, _, rfl, rfl, cpow (by decide), _, _, rfl, rfl, _, _, rfl, rfl, pos61, ?_⟩
      -- size = max(cell, 0 - cell)
      refine ⟨_, rfl, _, rfl, _, _, rfl, rfl, _, _, rfl, ?_⟩
      -- if size >= 10 ** 18
      refine ⟨_, rfl, _, _, rfl, rfl, cpow (by decide), _, _, rfl, rfl, _, rfl, ?_⟩
      have b0 := Int.emod_nonneg (mix * 1000033 + u) (show (2 : Int) ^ (61 : Int).toNat - 1 ≠ 0 by decide)
      have b1 := Int.emod_lt_of_pos (mix * 1000033 + u) (show (0 : Int) < 2 ^ (61 : Int).toNat - 1 by decide)
      have b2 : (2 : Int) ^ (61 : Int).toNat - 1 < 2 ^ 61 := by decide
      refine ite2 (fun _ => ?_) (fun _ => ?_)
      · refine ⟨_, rfl, Or.inl ⟨rfl, _, SqL.of hD⟩, _, rfl, _, _, rfl, rfl, cpow (by decide), _, _, rfl, rfl, d, _, _, rfl, rfl, hD, ?_, ?_⟩
        · rw [List.length_map]
          exact small1000 (by omega)
        · refine ⟨_, ds ++ [(if 0 - u > u then 0 - u else u) - 10 ^ (18 : Int).toNat], _, _, rfl, fun b o hb => ?_, ?_, b0, Int.lt_trans b1 b2, ?_⟩
          · rw [upd_ne (ne_of_none hb hd)]
            exact e b o hb
          · rw [upd_same, List.map_append]
            rfl
          · rw [List.length_append, List.length_singleton]
            omega
      · exact ⟨_, ds, _, _, rfl, e, hD, b0, Int.lt_trans b1 b2, Nat.le_succ_of_le hl⟩
    · rintro σ H' ⟨mix, ds, v1, v2, rfl, e, hD, m0, m1, hl⟩
      refine ⟨_, rfl, _, rfl, (by show 4 ≤ sizeLine; decide), fun p hp => ?_⟩
      have hl' : ds.length ≤ 63 := by
        rw [List.length_map] at hl
        omega
      have npd : p ≠ d := (ne_of_none hD hp).symm
      exact k _ p d (same_upd e hp) (e.free hp) hd ⟨ds, 0, mix, 0, upd_same, by rw [upd_ne npd.symm]; exact hD, m0, m1, by decide, by decide, hl'⟩
theorem sc_law_draw : FnScope ["source", "many", "drawn", "mixed"] ["source", "many"] (defScope sDraw) := ⟨rfl, rfl, rfl, by decide +kernel, rfl, by decide +kernel, by decide +kernel⟩
theorem ok_draw {f : Addr} {fd : FuncData} (F : Fun K "_law_draw" "_law_draw" sDraw f fd) : FnOk P w K mg base CX0 1 f fd ["source", "many"] spDraw := by
  refine F.ok sc_law_draw (fun vs H Q E h => ?_) (fun cdv A outer s H vs Q E hr h => ?_)
  · obtain ⟨a, d, n, many, rfl, _⟩ := h
    rfl
  · obtain ⟨a, d, n, many, rfl, hs, hn, m0, mb, k⟩ := h
    have nad := src_ne hs
    obtain ⟨ds0, cur0, mix, cnt, hA0, hD0, x0, x1, c0, c1, hl0⟩ := hs
    refine ⟨_, (C8.pss_cut (ps_while PassesOwn.never (PW.pt (pw_and (pt_cmpR op_lt (pe_ix ix_list (pv 0) pe_int (fun _ _ => rfl)) pe_int (nomark _)) (pw_and1 (pt_cmpR (op_neD hr.units) (pe_ix ix_list (pv 0) pe_int (fun _ _ => rfl)) (pe_lst pa_nil) (nomark _))))) (pss_one (ps_asg (pe_bm PySem.F.plainAttrs_list PySem.F.slot_list_pop PySem.F.type_list_pop mt_popAt (pe_ix ix_list (pv 0) pe_int (fun _ _ => rfl)) (pa_cons pe_int pa_nil)) (pg_sub (pv 0) pe_int set_list))))
      (pss_cons (ps_if (pt_cmpR op_ge (pe_ix ix_list (pv 0) pe_int (fun _ _ => rfl)) pe_int (nomark _)) (pss_cons (ps_set (i := 2) sc_law_draw.nd rfl (Or.inl rfl) (pe_op op_mod (pe_ix ix_list (pv 0) pe_int (fun _ _ => rfl)) (pv 1)))
      (pss_cons (ps_asg (pe_op op_fdivW (pe_ix ix_list (pv 0) pe_int (fun _ _ => rfl)) (pv 1)) (pg_sub (pv 0) pe_int set_list))
      (pss_one (ps_ret (pv 2))))) pss_nil)
      (pss_cons (ps_asg (pe_op op_add (pe_ix ix_list (pv 0) pe_int (fun _ _ => rfl)) pe_int) (pg_sub (pv 0) pe_int set_list))
      (pss_cons (ps_set (i := 3) sc_law_draw.nd rfl (Or.inl rfl) (pe_op op_mulW (pe_op op_add (pe_ix ix_list (pv 0) pe_int (fun _ _ => rfl)) pe_int) (pe_op op_pow (pe_op op_add (pe_ix ix_list (pv 0) pe_int (fun _ _ => rfl)) pe_int) pe_int)))
      (pss_cons (ps_set (i := 3) sc_law_draw.nd rfl (Or.inl rfl) (pe_op op_mod (pe_op op_add (pv 3) (pe_op op_mulW pe_int (pe_ix ix_list (pv 0) pe_int (fun _ _ => rfl)))) (pe_op op_sub (pe_op op_pow pe_int pe_int) pe_int)))
      (pss_one (ps_ret (pe_op op_mod (pe_op op_fdivW (pe_op op_mod (pe_op op_pow (pv 3) pe_int) (pe_op op_add (pe_op op_pow pe_int pe_int) pe_int)) pe_int) (pv 1))))))))), ?_⟩
    refine ⟨fun σ H' => ∃ (ds : List Int) (cur : Int), σ = [some (.ref a), some (.int many), none, none] ∧ Keep a d H H' ∧ H' a = some (.lst [.ref d, .int cur, .int mix, .int cnt]) ∧ H' d = some (.lst (ds.map V.int)) ∧ ds.length ≤ 63, ?_, ?_⟩
    · refine ⟨fun m σ H' => ∃ (ds : List Int) (cur : Int), m = ds.length ∧ σ = [some (.ref a), some (.int many), none, none] ∧ Keep a d H H' ∧ H' a = some (.lst [.ref d, .int cur, .int mix, .int cnt]) ∧ H' d = some (.lst (ds.map V.int)) ∧ ds.length ≤ 63,
        ⟨_, ds0, cur0, rfl, rfl, Keep.refl H, hA0, hD0, hl0⟩, ?_⟩
      rintro m σ H1 ⟨ds, cur, rfl, rfl, e, hA, hD, hl⟩
      refine ⟨_, rfl, a, _, 1, _, rfl, rfl, SqL.of hA, rfl, _, _, rfl, rfl, _, rfl, ?_⟩
      refine ite2 (fun c1 => ?_) (fun c1 => ⟨ds, cur, rfl, e, hA, hD, hl⟩)
      refine ⟨_, rfl, a, _, 0, _, rfl, rfl, SqL.of hA, rfl, Nat.zero_le _, fun p hp => ?_⟩
      have npa : p ≠ a := (ne_of_none hA hp).symm
      have npd : p ≠ d := (ne_of_none hD hp).symm
      have hA' : upd H1 p (.lst []) a = some (.lst [.ref d, .int cur, .int mix, .int cnt]) := by rw [upd_ne npa.symm]; exact hA
      have hD' : upd H1 p (.lst []) d = some (.lst (ds.map V.int)) := by rw [upd_ne npd.symm]; exact hD
      refine ⟨.list (ds.map PyData.int), .list [], Dp.lst (SqL.of hD') (dp_ints ds), Dp.lst (SqL.of upd_same) .nil, PySem.W.ke_shaped_ints ds, rfl, _, rfl, ?_⟩
      cases ds with
      | nil => exact iteF ⟨[], cur, rfl, e.new hp, hA', hD', hl⟩
      | cons x xs =>
        refine iteT ⟨_, fun _ _ h => h, ?_⟩
        refine ⟨_, rfl, a, _, 0, _, rfl, rfl, SqL.of hA', rfl, Or.inl ⟨rfl, _, SqL.of hD'⟩, d, _, 0, 0, _, rfl, rfl, hD', by decide, by decide, seqIndex_of (Int.le_refl 0) (by rw [List.length_map, List.length_cons]; omega), rfl, ?_⟩
        refine ⟨_, rfl, a, _, 1, 1, rfl, rfl, (by rw [upd_ne nad]; exact hA'), rfl, ?_⟩
        refine ⟨xs.length, Nat.lt_succ_self _, xs, x, rfl, rfl, ((e.new hp).upd2).upd1, upd_same, ?_, ?_⟩
        · rw [upd_ne nad.symm, upd_same]
          rfl
        · rw [List.length_cons] at hl
          omega
    · rintro σ H1 ⟨ds, cur, rfl, e, hA, hD, hl⟩
      refine ⟨_, rfl, a, _, 1, _, rfl, rfl, SqL.of hA, rfl, _, _, rfl, rfl, _, rfl, ?_⟩
      refine ite2 (fun c1 => ?_) (fun c1 => ?_)
      · refine ⟨_, rfl, a, _, 1, _, rfl, rfl, SqL.of hA, rfl, _, rfl, _, _, rfl, rfl, m0, ?_⟩
        refine ⟨_, rfl, a, _, 1, _, rfl, rfl, SqL.of hA, rfl, _, rfl, _, _, rfl, rfl, ⟨m0, mb⟩, ?_⟩
        refine ⟨_, rfl, a, _, 1, 1, rfl, rfl, hA, rfl, ?_⟩
        refine ⟨_, rfl, k _ _ e.upd1 ⟨ds, _, mix, cnt, upd_same, by rw [upd_ne nad.symm]; exact hD, x0, x1, c0, by omega, hl⟩ (Int.emod_nonneg _ (by omega)) (Int.emod_lt_of_pos _ m0)⟩
      · refine ⟨_, rfl, a, _, 3, _, rfl, rfl, SqL.of hA, rfl, _, _, rfl, rfl, ?_⟩
        refine ⟨_, rfl, a, _, 3, 3, rfl, rfl, hA, rfl, ?_⟩
        have c2 : cnt + 1 < 2 ^ 41 := by omega
        have hA2 : upd H1 a (.lst [.ref d, .int cur, .int mix, .int (cnt + 1)]) a = some (.lst [.ref d, .int cur, .int mix, .int (cnt + 1)]) := upd_same
        -- mixed = (source[2] + 7) * (source[3] + 3) ** 3
        refine ⟨_, rfl, a, _, 2, _, rfl, rfl, SqL.of hA2, rfl, _, _, rfl, rfl, _, rfl, a, _, 3, _, rfl, rfl, SqL.of hA2, rfl, _, _, rfl, rfl, _, _, rfl, rfl, ⟨by decide, by decide, by omega⟩, _, _, rfl, rfl, wide_mul (a := 62) (b := 200) (by omega) ?_ (by decide) (by decide) (by decide), ?_⟩
        · exact pow_small (a := 62) (k := 3) (by omega) (by decide)
        -- mixed = (mixed + 1000081 * source[3]) % (2 ** 61 - 1)
        refine ⟨_, rfl, _, rfl, a, _, 3, _, rfl, rfl, SqL.of hA2, rfl, _, _, rfl, rfl, wide_mul (a := 61) (b := 61) (by decide) (by omega) (by decide) (by decide) (by decide), _, _, rfl, rfl, _, _, rfl, rfl, cpow (by decide), _, _, rfl, rfl, _, _, rfl, rfl, pos61, ?_⟩
        have b0 := Int.emod_nonneg ((mix + 7) * (cnt + 1 + 3) ^ (3 : Int).toNat + 1000081 * (cnt + 1)) (show (2 : Int) ^ (61 : Int).toNat - 1 ≠ 0 by decide)
        have b1 := Int.emod_lt_of_pos ((mix + 7) * (cnt + 1 + 3) ^ (3 : Int).toNat + 1000081 * (cnt + 1)) pos61
        have b2 : (2 : Int) ^ (61 : Int).toNat - 1 < 2 ^ 61 := by decide
        -- return mixed ** 5 % (10 ** 18 + 9) // 128 % many
        refine ⟨_, rfl, _, _, rfl, rfl, ⟨by decide, by decide, ?_⟩, _, _, rfl, rfl, cpow (by decide), _, _, rfl, rfl, _, _, rfl, rfl, (show (0 : Int) < 10 ^ (18 : Int).toNat + 9 by decide), _, _, rfl, rfl, ⟨by decide, by decide⟩, _, rfl, _, _, rfl, rfl, m0, ?_⟩
        · show (((mix + 7) * (cnt + 1 + 3) ^ (3 : Int).toNat + 1000081 * (cnt + 1)) % (2 ^ (61 : Int).toNat - 1)).natAbs < 2 ^ 64
          omega
        exact k _ _ e.upd1 ⟨ds, cur, mix, cnt + 1, upd_same, by rw [upd_ne nad.symm]; exact hD, x0, x1, by omega, by omega, hl⟩ (Int.emod_nonneg _ (by omega)) (Int.emod_lt_of_pos _ m0)
end
end Gc

namespace Gc
open PySem L2
abbrev sSame : Stmt := top 12
/-- a def that is called by its name and lets nothing out -/
structure Cal (P : Program) (w : World) (K : PySem.W.Frag) (mg : Str → Option Value) (base : Heap) (k : Nat) (x : Str) (sp : Sp) : Prop where
  ex : ∃ (f : Addr) (fd : FuncData) (ps : List Str), FnOk P w K mg base CX0 k f fd ps sp ∧
    mg x = some (.ref f) ∧ PySem.W.keepIn K (.ref f) = true ∧ Binds K fd ps []
theorem pe_cal {X : Cx} {k j : Nat} {x : Str} {sp : Sp} {p pos : Pos} {e : Expr} {es : List Expr} {t : TA}
    (c : Cal X.prog X.w X.K X.mg X.base k x sp) (hr : Room j X.A) (hk : k ≤ j) (hg : Gl X x) (ha : PA X (e :: es) t)
    (hdb : (x == ("__debug__" : Str)) = false := by decide)
    (he : starEach (e :: es) X.env = (false, eval e X.env) :: starEach es X.env := by rfl)
    (hpl : (backTo pos (starEach es X.env)).any (·.1) = false := by rfl) :
    PE X (.Call (.Name x p) (e :: es) [] pos) (tCall sp [] E0 t) := by
  obtain ⟨f, fd, ps, F, hm, kp, b⟩ := c.ex
  exact pe_call F (hr.mono hk) hg hm kp b .nil pass0 ha hdb he hpl

/-! ### data carried along -/
theorem seq_t {K : PySem.W.Frag} {H H' : Hp} {a : Addr} {xs : List V} (e : Same H H') (h : SqT K H a xs) : SqT K H' a xs := by
  rcases h with (h | ⟨o, h⟩) | h
  · exact .inl (.inl (e _ _ h))
  · exact .inl (.inr ⟨o, e _ _ h⟩)
  · exact .inr h
mutual
theorem dp_same {K : PySem.W.Frag} {H H' : Hp} (e : Same H H') : ∀ (d : PyData) (v : V), Dp K H v d → Dp K H' v d
  | .none, _, h => by cases h; exact .non
  | .bool b, _, h => by cases h; exact .bl b
  | .int i, _, h => by cases h; exact .int i
  | .str x, _, h => by cases h; exact .str x
  | .list ds, _, h => by
    cases h with
    | lst q r => exact .lst (e.seq q) (dps_same e ds _ r)
  | .tuple ds, _, h => by
    cases h with
    | tup q r => exact .tup (seq_t e q) (dps_same e ds _ r)
  | .dict _, _, h => by cases h
theorem dps_same {K : PySem.W.Frag} {H H' : Hp} (e : Same H H') : ∀ (ds : List PyData) (vs : List V), DpAll K H vs ds → DpAll K H' vs ds
  | [], _, h => by cases h; exact .nil
  | d :: ds, _, h => by
    cases h with
    | cons a b => exact .cons (dp_same e d _ a) (dps_same e ds _ b)
end
theorem dps_len {K : PySem.W.Frag} {H : Hp} : ∀ {vs : List V} {ds : List PyData}, DpAll K H vs ds → vs.length = ds.length
  | [], _, h => by cases h; rfl
  | _ :: vs, _, h => by
    cases h with
    | cons a b => rw [List.length_cons, List.length_cons, dps_len b]
theorem dps_at {K : PySem.W.Frag} {H : Hp} : ∀ {vs : List V} {ds : List PyData} {i : Nat}, DpAll K H vs ds → i < ds.length → ∃ v d, vs[i]? = some v ∧ ds[i]? = some d ∧ Dp K H v d
  | _, _, 0, h, l => by
    cases h with
    | nil => exact absurd l (by decide)
    | cons a b => exact ⟨_, _, rfl, rfl, a⟩
  | _, _, i + 1, h, l => by
    cases h with
    | nil => exact absurd l (Nat.not_lt_zero _)
    | cons a b => exact dps_at (i := i) b (Nat.lt_of_succ_lt_succ l)
theorem depth_at : ∀ {ds : List PyData} {i : Nat} {d : PyData}, ds[i]? = some d → d.depth ≤ PyData.depthAll ds
  | [], i, d, h => by simp at h
  | x :: r, 0, d, h => by
    have e : x = d := Option.some.inj h
    subst e
    simp only [PyData.depthAll]
    exact Nat.le_max_left _ _
  | x :: r, i + 1, d, h => by
    have ih := depth_at (ds := r) (i := i) (d := d) h
    simp only [PyData.depthAll]
    exact Nat.le_trans ih (Nat.le_max_right _ _)
theorem ty_l {K : PySem.W.Frag} {H : Hp} {a : Addr} {xs : List V} (h : SqL K H a xs) : TyX K H (.ref a) (.type "list") := by
  rcases h with (h | ⟨o, h⟩) | h
  · exact .base (.lst h)
  · exact .base (.frz h)
  · obtain ⟨o, its, n, e, c, _⟩ := h
    exact .kList e c
theorem ty_t {K : PySem.W.Frag} {H : Hp} {a : Addr} {xs : List V} (h : SqT K H a xs) : TyX K H (.ref a) (.type "tuple") := by
  rcases h with (h | ⟨o, h⟩) | h
  · exact .base (.tup h)
  · exact .fTuple h
  · obtain ⟨o, its, n, e, c, _⟩ := h
    exact .kTuple e c
mutual
/-- the greatest number of items of any list within -/
def wid : PyData → Nat
  | .list ds => max ds.length (widAll ds)
  | .tuple ds => max ds.length (widAll ds)
  | _ => 0
def widAll : List PyData → Nat
  | [] => 0
  | d :: ds => max (wid d) (widAll ds)
end
theorem wid_at : ∀ {ds : List PyData} {i : Nat} {d : PyData}, ds[i]? = some d → wid d ≤ widAll ds
  | [], i, d, h => by simp at h
  | x :: r, 0, d, h => by
    have e : x = d := Option.some.inj h
    subst e
    simp only [widAll]
    exact Nat.le_max_left _ _
  | x :: r, i + 1, d, h => by
    have ih := wid_at (ds := r) (i := i) (d := d) h
    simp only [widAll]
    exact Nat.le_trans ih (Nat.le_max_right _ _)
/-- _law_same(found, wanted), both the same data: True -/
def spSame (K : PySem.W.Frag) (n : Nat) : Sp := fun vs H Q _ => ∃ (x y : V) (d : PyData), vs = [x, y] ∧ Dp K H x d ∧ Dp K H y d ∧ d.depth < n ∧ wid d ≤ 1000 ∧ ∀ H', Same H H' → Q (.bl true) H'
theorem isi_q {K : PySem.W.Frag} {H : Hp} {x : V} {t n : String} {b : Bool} {Q : VK} (ty : TyX K H x (.type t)) (k : kitB t n = some b) (q : Q (.bl b) H) : rIsi K [x, .ty n] H Q :=
  ⟨x, .ty n, .type t, .type n, b, rfl, .ty n, ty, kit_ty k, q⟩
structure TxtS (mg : Str → Option Value) : Prop where
  isinstance : mg "isinstance" = none
  bool : mg "bool" = none
  int : mg "int" = none
  str : mg "str" = none
  list : mg "list" = none
  tuple : mg "tuple" = none
  len : mg "len" = none
  range : mg "range" = none
section
variable {P : Program} {w : World} {K : PySem.W.Frag} {mg : Str → Option Value} {base : Heap}
theorem sc_law_same : FnScope ["found", "wanted", "k"] ["found", "wanted"] (defScope sSame) := ⟨rfl, rfl, rfl, by decide +kernel, rfl, by decide +kernel, by decide +kernel⟩
theorem ok_same0 {f : Addr} {fd : FuncData} (F : Fun K "_law_same" "_law_same" sSame f fd) : FnOk P w K mg base CX0 1 f fd ["found", "wanted"] (spSame K 0) := by
  refine F.ok sc_law_same (fun vs H Q E h => ?_) (fun cdv A outer s H vs Q E hr h => ?_)
  · obtain ⟨x, y, d, rfl, _⟩ := h
    rfl
  · obtain ⟨x, y, d, _, _, _, l, _, _⟩ := h
    exact absurd l (Nat.not_lt_zero _)
theorem ok_sameS {n : Nat} {f : Addr} {fd : FuncData} (F : Fun K "_law_same" "_law_same" sSame f fd) (T : TxtS mg) (cR : Cal P w K mg base (n + 1) "_law_same" (spSame K n)) :
    FnOk P w K mg base CX0 (n + 2) f fd ["found", "wanted"] (spSame K (n + 1)) := by
  refine F.ok sc_law_same (fun vs H Q E h => ?_) (fun cdv A outer s H vs Q E hr h => ?_)
  · obtain ⟨x, y, d, rfl, _⟩ := h
    rfl
  · obtain ⟨x, y, d, rfl, hx, hy, hd, hw, k⟩ := h
    refine ⟨_, (pss_cons (ps_if (pt_cmpR op_isN (pv 1) pe_non (nomark _)) (pss_one (ps_ret (pe_cmpR op_isN (pv 0) pe_non (nomark _)))) pss_nil)
      (pss_cons (ps_if (pt_val (pe_callB call_isi (by rfl) T.isinstance (by decide +kernel) (pa_cons (pv 1) (pa_cons (pe_bltn (v := .ty "bool") (u := .type "bool") (by rfl) T.bool (by decide +kernel) rfl) pa_nil)))) (pss_one (ps_ret (pe_and (pe_callB call_isi (by rfl) T.isinstance (by decide +kernel) (pa_cons (pv 0) (pa_cons (pe_bltn (v := .ty "bool") (u := .type "bool") (by rfl) T.bool (by decide +kernel) rfl) pa_nil))) (pe_one (pe_cmpR op_eq (pv 0) (pv 1) (nomark _)))))) pss_nil)
      (pss_cons (ps_if (pt_val (pe_callB call_isi (by rfl) T.isinstance (by decide +kernel) (pa_cons (pv 1) (pa_cons (pe_bltn (v := .ty "int") (u := .type "int") (by rfl) T.int (by decide +kernel) rfl) pa_nil)))) (pss_one (ps_ret (pe_and (pe_callB call_isi (by rfl) T.isinstance (by decide +kernel) (pa_cons (pv 0) (pa_cons (pe_bltn (v := .ty "int") (u := .type "int") (by rfl) T.int (by decide +kernel) rfl) pa_nil))) (pe_and (pe_not (pe_callB call_isi (by rfl) T.isinstance (by decide +kernel) (pa_cons (pv 0) (pa_cons (pe_bltn (v := .ty "bool") (u := .type "bool") (by rfl) T.bool (by decide +kernel) rfl) pa_nil)))) (pe_one (pe_cmpR op_eq (pv 0) (pv 1) (nomark _))))))) pss_nil)
      (pss_cons (ps_if (pt_val (pe_callB call_isi (by rfl) T.isinstance (by decide +kernel) (pa_cons (pv 1) (pa_cons (pe_bltn (v := .ty "str") (u := .type "str") (by rfl) T.str (by decide +kernel) rfl) pa_nil)))) (pss_one (ps_ret (pe_and (pe_callB call_isi (by rfl) T.isinstance (by decide +kernel) (pa_cons (pv 0) (pa_cons (pe_bltn (v := .ty "str") (u := .type "str") (by rfl) T.str (by decide +kernel) rfl) pa_nil))) (pe_one (pe_cmpR op_eq (pv 0) (pv 1) (nomark _)))))) pss_nil)
      (pss_cons (ps_if (pt_cmpR op_ne (pe_callB call_isi (by rfl) T.isinstance (by decide +kernel) (pa_cons (pv 0) (pa_cons (pe_bltn (v := .ty "list") (u := .type "list") (by rfl) T.list (by decide +kernel) rfl) pa_nil))) (pe_callB call_isi (by rfl) T.isinstance (by decide +kernel) (pa_cons (pv 1) (pa_cons (pe_bltn (v := .ty "list") (u := .type "list") (by rfl) T.list (by decide +kernel) rfl) pa_nil))) (nomark _)) (pss_one (ps_ret pe_bl)) pss_nil)
      (pss_cons (ps_if (PW.pt (pw_or (pt_cmpR op_ne (pe_callB call_isi (by rfl) T.isinstance (by decide +kernel) (pa_cons (pv 0) (pa_cons (pe_bltn (v := .ty "tuple") (u := .type "tuple") (by rfl) T.tuple (by decide +kernel) rfl) pa_nil))) (pe_callB call_isi (by rfl) T.isinstance (by decide +kernel) (pa_cons (pv 1) (pa_cons (pe_bltn (v := .ty "tuple") (u := .type "tuple") (by rfl) T.tuple (by decide +kernel) rfl) pa_nil))) (nomark _)) (pw_or1 (pt_cmpR op_ne (pe_callB call_len_seq (by rfl) T.len (by decide +kernel) (pa_cons (pv 0) pa_nil)) (pe_callB call_len_seq (by rfl) T.len (by decide +kernel) (pa_cons (pv 1) pa_nil)) (nomark _))))) (pss_one (ps_ret pe_bl)) pss_nil)
      (pss_one (ps_ret (pe_cmpR (op_eqD hr.units) (pe_lc (own := [("k", 2)]) rfl sc_law_same.nd (pi_range1 rfl T.range (pa_cons (pe_callB call_len_seq (by rfl) T.len (by decide +kernel) (pa_cons (pv 1) pa_nil)) pa_nil)) (blkOk_by (N := ["found", "wanted", "k"]) (sc := defScope sSame) (by decide +kernel)) (fun _ _ _ _ _ => (pg_name (i := 2) sc_law_same.nd rfl (Or.inl rfl))) (fun _ _ _ _ _ => (pts_one (pt_not (pt_val (pe_cal cR hr (Nat.le_refl _) (by rfl) (pa_cons (pe_ix (show IxR _ (rIx K) from ix_seq) (pv 0) (pv 2) (fun _ _ => rfl)) (pa_cons (pe_ix (show IxR _ (rIx K) from ix_seq) (pv 1) (pv 2) (fun _ _ => rfl)) pa_nil))))))) (fun _ _ _ _ _ => (pv 2))) (pe_lst pa_nil) (nomark _)))))))))), ?_⟩
    have kk : Q (.bl true) H := k H (Same.refl H)
    cases hx with
    | non =>
      cases hy
      refine ⟨_, rfl, rfl, _, rfl, iteT ?_⟩
      exact ⟨_, rfl, rfl, kk⟩
    | bl b =>
      cases hy
      refine ⟨_, rfl, rfl, _, rfl, iteF ?_⟩
      refine ⟨_, rfl, _, _, _, _, _, rfl, .ty "bool", .base (.bl b), kit_ty (show kitB "bool" "bool" = some true by decide +kernel), _, rfl, iteT ?_⟩
      refine ⟨_, rfl, _, _, _, _, _, rfl, .ty "bool", .base (.bl b), kit_ty (show kitB "bool" "bool" = some true by decide +kernel), _, rfl, iteT ?_⟩
      refine ⟨_, rfl, _, rfl, rfl, ?_⟩
      rw [decide_eq_true (Eq.refl (V.bl b))]
      exact kk
    | int i =>
      cases hy
      refine ⟨_, rfl, rfl, _, rfl, iteF ?_⟩
      refine ⟨_, rfl, _, _, _, _, _, rfl, .ty "bool", .base (.int i), kit_ty (show kitB "int" "bool" = some false by decide +kernel), _, rfl, iteF ?_⟩
      refine ⟨_, rfl, _, _, _, _, _, rfl, .ty "int", .base (.int i), kit_ty (show kitB "int" "int" = some true by decide +kernel), _, rfl, iteT ?_⟩
      refine ⟨_, rfl, _, _, _, _, _, rfl, .ty "int", .base (.int i), kit_ty (show kitB "int" "int" = some true by decide +kernel), _, rfl, iteT ?_⟩
      refine ⟨_, rfl, _, _, _, _, _, rfl, .ty "bool", .base (.int i), kit_ty (show kitB "int" "bool" = some false by decide +kernel), _, rfl, _, rfl, iteT ?_⟩
      refine ⟨_, rfl, _, rfl, rfl, ?_⟩
      rw [decide_eq_true (Eq.refl (V.int i))]
      exact kk
    | str z =>
      cases hy
      refine ⟨_, rfl, rfl, _, rfl, iteF ?_⟩
      refine ⟨_, rfl, _, _, _, _, _, rfl, .ty "bool", .base (.str z), kit_ty (show kitB "str" "bool" = some false by decide +kernel), _, rfl, iteF ?_⟩
      refine ⟨_, rfl, _, _, _, _, _, rfl, .ty "int", .base (.str z), kit_ty (show kitB "str" "int" = some false by decide +kernel), _, rfl, iteF ?_⟩
      refine ⟨_, rfl, _, _, _, _, _, rfl, .ty "str", .base (.str z), kit_ty (show kitB "str" "str" = some true by decide +kernel), _, rfl, iteT ?_⟩
      refine ⟨_, rfl, _, _, _, _, _, rfl, .ty "str", .base (.str z), kit_ty (show kitB "str" "str" = some true by decide +kernel), _, rfl, iteT ?_⟩
      refine ⟨_, rfl, _, rfl, rfl, ?_⟩
      rw [decide_eq_true (Eq.refl (V.str z))]
      exact kk
    | @lst a xs ds qx rx =>
      cases hy with
      | @lst a' ys _ qy ry =>
        have dl : PyData.depthAll ds < n := by
          simp only [PyData.depth] at hd
          omega
        simp only [wid] at hw
        have wl : ds.length ≤ 1000 := Nat.le_trans (Nat.le_max_left _ _) hw
        have wa : widAll ds ≤ 1000 := Nat.le_trans (Nat.le_max_right _ _) hw
        have yl := dps_len ry
        refine ⟨_, rfl, rfl, _, rfl, iteF ?_⟩
        refine ⟨_, rfl, _, _, _, _, _, rfl, .ty "bool", (ty_l qy), kit_ty (show kitB "list" "bool" = some false by decide +kernel), _, rfl, iteF ?_⟩
        refine ⟨_, rfl, _, _, _, _, _, rfl, .ty "int", (ty_l qy), kit_ty (show kitB "list" "int" = some false by decide +kernel), _, rfl, iteF ?_⟩
        refine ⟨_, rfl, _, _, _, _, _, rfl, .ty "str", (ty_l qy), kit_ty (show kitB "list" "str" = some false by decide +kernel), _, rfl, iteF ?_⟩
        refine ⟨_, rfl, _, _, _, _, _, rfl, .ty "list", (ty_l qx), kit_ty (show kitB "list" "list" = some true by decide +kernel), _, rfl, _, _, _, _, _, rfl, .ty "list", (ty_l qy), kit_ty (show kitB "list" "list" = some true by decide +kernel), rfl, _, rfl, iteF ?_⟩
        refine ⟨_, rfl, _, _, _, _, _, rfl, .ty "tuple", (ty_l qx), kit_ty (show kitB "list" "tuple" = some false by decide +kernel), _, rfl, _, _, _, _, _, rfl, .ty "tuple", (ty_l qy), kit_ty (show kitB "list" "tuple" = some false by decide +kernel), rfl, _, rfl, ?_⟩
        refine iteF (B := _) ?_
        refine ⟨_, rfl, a, xs, rfl, .inl qx, _, rfl, a', ys, rfl, .inl qy, rfl, _, rfl, iteNS ?_ ?_⟩
        · rw [dps_len rx, dps_len ry]
        refine ⟨_, rfl, a', ys, rfl, .inl qy, _, rfl, ?_, ?_, fun D hD => ?_⟩
        · omega
        · omega
        refine lc_range (lo := 0) (n := ys.length) (fun _ H' => Same H H' ∧ H' D = some (.lst [])) ⟨same_upd (Same.refl H) hD, upd_same⟩ (fun i H' hi h => ?_) (fun H' h => ?_)
        · obtain ⟨e, eD⟩ := h
          obtain ⟨v1, d1, g1, g2, g3⟩ := dps_at (i := i) rx (by rw [← dps_len ry]; exact hi)
          obtain ⟨v2, d2, g4, g5, g6⟩ := dps_at (i := i) ry (by rw [← dps_len ry]; exact hi)
          obtain rfl : d1 = d2 := Option.some.inj (g2.symm.trans g5)
          refine ⟨rfl, _, rfl, _, rfl, Or.inl ⟨a, xs, _, v1, rfl, rfl, Same.seq e qx, at_of (j := i) (by omega) g1, ?_⟩⟩
          refine ⟨_, rfl, _, rfl, Or.inl ⟨a', ys, _, v2, rfl, rfl, Same.seq e qy, at_of (j := i) (by omega) g4, ?_⟩⟩
          refine ⟨v1, v2, d1, rfl, dp_same e _ _ g3, dp_same e _ _ g6, Nat.lt_of_le_of_lt (depth_at g2) dl, Nat.le_trans (wid_at g2) wa, fun H2 e2 => ⟨_, rfl, iteF ?_⟩⟩
          exact ⟨e.trans e2, e2 _ _ eD⟩
        · obtain ⟨e, eD⟩ := h
          refine ⟨Nat.zero_le _, fun p hp => ⟨.list [], .list [], .lst (SqL.of (by rw [upd_ne (ne_of_none eD hp)]; exact eD)) .nil, .lst (SqL.of upd_same) .nil, rfl, rfl, k _ (same_upd e hp)⟩⟩
    | @tup a xs ds qx rx =>
      cases hy with
      | @tup a' ys _ qy ry =>
        have dl : PyData.depthAll ds < n := by
          simp only [PyData.depth] at hd
          omega
        simp only [wid] at hw
        have wl : ds.length ≤ 1000 := Nat.le_trans (Nat.le_max_left _ _) hw
        have wa : widAll ds ≤ 1000 := Nat.le_trans (Nat.le_max_right _ _) hw
        have yl := dps_len ry
        refine ⟨_, rfl, rfl, _, rfl, iteF ?_⟩
        refine ⟨_, rfl, _, _, _, _, _, rfl, .ty "bool", (ty_t qy), kit_ty (show kitB "tuple" "bool" = some false by decide +kernel), _, rfl, iteF ?_⟩
        refine ⟨_, rfl, _, _, _, _, _, rfl, .ty "int", (ty_t qy), kit_ty (show kitB "tuple" "int" = some false by decide +kernel), _, rfl, iteF ?_⟩
        refine ⟨_, rfl, _, _, _, _, _, rfl, .ty "str", (ty_t qy), kit_ty (show kitB "tuple" "str" = some false by decide +kernel), _, rfl, iteF ?_⟩
        refine ⟨_, rfl, _, _, _, _, _, rfl, .ty "list", (ty_t qx), kit_ty (show kitB "tuple" "list" = some false by decide +kernel), _, rfl, _, _, _, _, _, rfl, .ty "list", (ty_t qy), kit_ty (show kitB "tuple" "list" = some false by decide +kernel), rfl, _, rfl, iteF ?_⟩
        refine ⟨_, rfl, _, _, _, _, _, rfl, .ty "tuple", (ty_t qx), kit_ty (show kitB "tuple" "tuple" = some true by decide +kernel), _, rfl, _, _, _, _, _, rfl, .ty "tuple", (ty_t qy), kit_ty (show kitB "tuple" "tuple" = some true by decide +kernel), rfl, _, rfl, ?_⟩
        refine iteF (B := _) ?_
        refine ⟨_, rfl, a, xs, rfl, .inr qx, _, rfl, a', ys, rfl, .inr qy, rfl, _, rfl, iteNS ?_ ?_⟩
        · rw [dps_len rx, dps_len ry]
        refine ⟨_, rfl, a', ys, rfl, .inr qy, _, rfl, ?_, ?_, fun D hD => ?_⟩
        · omega
        · omega
        refine lc_range (lo := 0) (n := ys.length) (fun _ H' => Same H H' ∧ H' D = some (.lst [])) ⟨same_upd (Same.refl H) hD, upd_same⟩ (fun i H' hi h => ?_) (fun H' h => ?_)
        · obtain ⟨e, eD⟩ := h
          obtain ⟨v1, d1, g1, g2, g3⟩ := dps_at (i := i) rx (by rw [← dps_len ry]; exact hi)
          obtain ⟨v2, d2, g4, g5, g6⟩ := dps_at (i := i) ry (by rw [← dps_len ry]; exact hi)
          obtain rfl : d1 = d2 := Option.some.inj (g2.symm.trans g5)
          refine ⟨rfl, _, rfl, _, rfl, Or.inr <| Or.inl ⟨a, xs, _, v1, rfl, rfl, seq_t e qx, at_of (j := i) (by omega) g1, ?_⟩⟩
          refine ⟨_, rfl, _, rfl, Or.inr <| Or.inl ⟨a', ys, _, v2, rfl, rfl, seq_t e qy, at_of (j := i) (by omega) g4, ?_⟩⟩
          refine ⟨v1, v2, d1, rfl, dp_same e _ _ g3, dp_same e _ _ g6, Nat.lt_of_le_of_lt (depth_at g2) dl, Nat.le_trans (wid_at g2) wa, fun H2 e2 => ⟨_, rfl, iteF ?_⟩⟩
          exact ⟨e.trans e2, e2 _ _ eD⟩
        · obtain ⟨e, eD⟩ := h
          refine ⟨Nat.zero_le _, fun p hp => ⟨.list [], .list [], .lst (SqL.of (by rw [upd_ne (ne_of_none eD hp)]; exact eD)) .nil, .lst (SqL.of upd_same) .nil, rfl, rfl, k _ (same_upd e hp)⟩⟩
end
end Gc

/-! own exceptions over ValueError, made as values by position or by keyword, looked at -/
namespace PySem
namespace GcX
open HandSPX
section
variable {M : Model} {prog : Program} {w : World} {A : Around} {E : Value → Shared → Prop} {R : Result → Shared → Prop} {h : Heap} {g : Array GenState} {d : Drawn} {t : Nat} {os : OsState}
variable {nm q : Str} {C N : Addr} {bs bm bmB : List Value} {hdct : Bool} {sn : List Str} {sub : List Value} {ab : Bool} {col : Option Bool} {dd : Option Addr}
variable {k0 k1 k2 k3 k5 : Option Value} {B newId initId : String} {rest : List Value} {kw : List (Str × Value)} {fI : Addr}

theorem new_checked (F : ExcBaseFacts B newId initId bmB)
    (hT : ∀ X : String, bm.contains (.type X) = bmB.contains (.type X)) {Q : Unit → Shared → Prop}
    (hC : h.get? C = some (excClassObj nm q C N bs bm hdct sn sub ab col dd k0 k1 k2 k3 k5 newId))
    (hq : Q () ⟨h, g, d, t, os⟩) :
    wpAny M A (checkBuiltinCall newId ⟨.ref C :: rest, kw⟩) Q E ⟨h, g, d, t, os⟩ := by
  have inB : (Value.ref C :: bm).contains (.type B) = true := by
    rw [List.contains_cons, hT, F.hasB, Bool.or_true]
  have star := F.noStar
  simp only [checkBuiltinCall, F.newKind, F.newSplit, F.newRow]
  repeat (first
    | refine wpAny_loadPart_at hC ?_
    | (refine wpAny_isSubtype_exc hC ?_; rw [inB])
    | refine wpAny_staticBase_exc hC ?_
    | refine wpAny_madeBy_exc hC ?_
    | simp only [bne_self_eq_false, Bool.false_eq_true, if_false]
    | wp_step)
  exact hq
theorem new_made (F : ExcBaseFacts B newId initId bmB)
    (hT : ∀ X : String, bm.contains (.type X) = bmB.contains (.type X))
    (hC : h.get? C = some (excClassObj nm q C N bs bm hdct sn sub ab col dd k0 k1 k2 k3 k5 newId))
    (hq : R (.ok (.ret (.ref (h.objs.size + 1)))) ⟨(h.push (W.kdv_tup rest)).push (excO C h.objs.size), g, d, t, os⟩)
    (hrest : rest.length ≤ sizeLine) :
    codeAny (model prog w) A (.builtin newId ⟨.ref C :: rest, kw⟩) R ⟨h, g, d, t, os⟩ := by
  have ends := F.ends
  have inB : (Value.ref C :: bm).contains (.type B) = true := by
    rw [List.contains_cons, hT, F.hasB, Bool.or_true]
  have noA : (Value.ref C :: bm).contains (.type "AttributeError") = false := by
    rw [List.contains_cons, hT, F.noAttr] <;> rfl
  have noN : (Value.ref C :: bm).contains (.type "NameError") = false := by
    rw [List.contains_cons, hT, F.noName] <;> rfl
  refine codeAny_builtinAt F.entry ?_
  unfold Builtin.«BaseException.__new__»
  refine wpAt_bind ?_
  show wpAt _ _ _ (stack >>= _) _ _ _
  refine wpAt_bind (wpAt_stack fun p below => wpAt_of_wpAny ?_)
  wp_walk
  refine wpAt_of_wpAny ?_
  rw [F.owner]
  repeat (first
    | with_reducible refine wpAny_madeHere_exc F.canon hC ?_
    | with_reducible refine wpAny_loadPart_at hC ?_
    | (with_reducible refine wpAny_isSubtype_exc hC ?_; first | rw [inB] | rw [noA] | rw [noN])
    | wp_step)
  show R _ _
  rw [Heap.size_push]
  exact hq
theorem type_called (F : ExcBaseFacts B newId initId bmB)
    (hT : ∀ X : String, bm.contains (.type X) = bmB.contains (.type X)) {Q : Fin → Shared → Prop}
    (hC : h.get? C = some (excClassObj nm q C N bs bm hdct sn sub ab col dd k0 k1 k2 k3 k5 newId))
    (hi : W.Looks (model prog w) h (typeLookup (.ref C) "__init__") (some (.ref fI)))
    (hb : ∀ self, W.Looks (model prog w) h (bindSpecial (.ref fI) self) (.ref fI, [self])) (hrest : rest.length ≤ sizeLine)
    (hq : codeAny (model prog w) A (.call (.ref fI) ⟨.ref (h.objs.size + 1) :: rest, kw⟩)
      (fun r s' => match r with
        | .ok (.ret v) => v = .none ∧ Q (.done (.ret (.ref (h.objs.size + 1)))) s'
        | .ok _ => False
        | .error e => E e s') ⟨(h.push (W.kdv_tup rest)).push (excO C h.objs.size), g, d, t, os⟩) :
    wpAny (model prog w) A (Builtin.«type.__call__» ⟨.ref C :: rest, kw⟩) Q E ⟨h, g, d, t, os⟩ := by
  repeat (first | with_reducible refine wpAny_loadPart_at hC ?_ | with_reducible refine wpAny_madeBy_exc hC ?_ | wp_step)
  refine codeAny_call_builtin_code (Code.quiet_builtin _ F.quiet) (new_checked F hT hC ?_)
  refine new_made F hT hC ?_ hrest
  show wpAny _ _ _ _ _ _
  have kept : ∀ b o, h.get? b = some o → ((h.push (W.kdv_tup rest)).push (excO C h.objs.size)).get? b = some o :=
    fun b o e => Heap.get?_push_of_some _ (Heap.get?_push_of_some _ e)
  have hC1 := kept _ _ hC
  have new : ((h.push (W.kdv_tup rest)).push (excO C h.objs.size)).get? (h.objs.size + 1) = some (excO C h.objs.size) := by
    heap_get
  have inC : (Value.ref C :: bm).contains (.ref C) = true := by simp
  have i1 := hi.keeps kept
  have b1 := (hb (.ref (h.objs.size + 1))).keeps kept
  unfold isInstance
  repeat (first
    | with_reducible refine wpAny_loadPart_at new ?_
    | (with_reducible refine wpAny_isSubtype_exc hC1 ?_; rw [inC])
    | wp_step)
  show wpAny _ _ (typeLookup (.ref C) _) _ _ _
  refine i1.at ?_
  refine wpAny_holding (wpAny_bind (b1.at ?_))
  refine wpAny_bind (wpAny_call (codeAny_mono hq fun r s' z => ?_))
  rcases r with e | (v | _ | _ | _) <;> first
    | exact z
    | exact z.elim
    | skip
  obtain ⟨rfl, z⟩ := z
  first
    | exact wpAny_pure (wpAny_pure z)
    | (wp_walk
       exact z)
theorem call_checked {Q : Unit → Shared → Prop}
    (hC : h.get? C = some (excClassObj nm q C N bs bm hdct sn sub ab col dd k0 k1 k2 k3 k5 newId))
    (hq : Q () ⟨h, g, d, t, os⟩) :
    wpAny M A (checkBuiltinCall "type.__call__" ⟨.ref C :: rest, kw⟩) Q E ⟨h, g, d, t, os⟩ := by
  have f3 := tc_sub
  have ty : (⟨h, g, d, t, os⟩ : Shared).TypeIs (.ref C) "type" := ⟨_, hC, rfl⟩
  simp only [checkBuiltinCall, tc_kind, tc_split]
  repeat (any_goals (first
    | assumption
    | with_reducible refine wpAny_loadPart_at hC ?_
    | with_reducible refine wpAny_onRaise ?_
    | with_reducible refine wpAny_map ?_
    | wp_step))
/-- C(.., k = ..), C an own exception class with its own __init__ -/
theorem class_called (F : ExcBaseFacts B newId initId bmB)
    (hT : ∀ X : String, bm.contains (.type X) = bmB.contains (.type X))
    (hC : h.get? C = some (excClassObj nm q C N bs bm hdct sn sub ab col dd k0 k1 k2 k3 k5 newId))
    (hi : W.Looks (model prog w) h (typeLookup (.ref C) "__init__") (some (.ref fI)))
    (hb : ∀ self, W.Looks (model prog w) h (bindSpecial (.ref fI) self) (.ref fI, [self])) (hrest : rest.length ≤ sizeLine)
    (hq : codeAny (model prog w) (A.under (.builtin "type.__call__" ⟨.ref C :: rest, kw⟩)) (.call (.ref fI) ⟨.ref (h.objs.size + 1) :: rest, kw⟩)
      (W.InitBack (h.objs.size + 1) R) ⟨(h.push (W.kdv_tup rest)).push (excO C h.objs.size), g, d, t, os⟩) :
    codeAny (model prog w) A (.call (.ref C) ⟨rest, kw⟩) R ⟨h, g, d, t, os⟩ := by
  have f1 := tc_lookup
  have f2 := tc_bind (.ref C)
  have ty : (⟨h, g, d, t, os⟩ : Shared).TypeIs (.ref C) "type" := ⟨_, hC, rfl⟩
  refine codeAny_of_tree ?_
  show wpAny _ _ (callAny (.ref C) _) _ _ _
  repeat (any_goals (first | assumption | with_reducible refine wpAny_loadPart_at hC ?_ | wp_step))
  refine ⟨rfl, ?_⟩
  refine codeAny_call_builtin_at (Code.quiet_builtin _ (by decide +kernel)) entry_typeCall (call_checked hC (type_called F hT hC hi hb hrest ?_))
  refine codeAny_mono hq fun r s' z => ?_
  rcases r with e | (v | _ | _ | _) <;> exact z
end
end GcX
end PySem

namespace L2
open PySem PySem.Spec PyProof.Rows
section
variable {X : Cx} {CX : CXT} {k : Nat} {C fI : Addr} {fd : FuncData} {ps ks : List Str} {sp : Sp} {E : XK} {x : Str} {p pos kpos : Pos} {e : Expr} {es : List Expr} {kws : List Keyword} {t tk : TA}
variable {g : List Value → List Value → List Value} {gV : List V → List V → List V}
/-- at a: an exception of the class at C with these fields -/
def Exv (H : Hp) (a C : Addr) (fs : List (Str × V)) : Prop := ∃ d : Addr, H a = some (exo a C (some d)) ∧ H d = some (exd d fs)
theorem Exv.same {H H' : Hp} {a C : Addr} {fs : List (Str × V)} (e : ∀ b o, H b = some o → H' b = some o) (h : Exv H a C fs) : Exv H' a C fs := by
  obtain ⟨d, h1, h2⟩ := h
  exact ⟨d, e _ _ h1, e _ _ h2⟩
/-- def __init__(self, value): self.value = value, on a fresh exception of the class at C -/
def spInit (C : Addr) : Sp := fun vs H Q _ => ∃ (a : Addr) (v : V), vs = [.ref a, v] ∧ H a = some (exo a C none) ∧
  ∀ dx, H dx = none → dx ≠ a → Q .non (upd (upd H dx (exd dx [("value", v)])) a (exo a C (some dx)))
/-- an own exception class over ValueError with such an __init__ -/
structure ExvC (P : Program) (w : World) (K : PySem.W.Frag) (mg : Str → Option Value) (base : Heap) (k : Nat) (C : Addr) : Prop where
  T : OexC K C
  ex : ∃ (fI : Addr) (fd : FuncData), PySem.W.findIn K (.ref C) "__init__" = some (some (.ref fI)) ∧ PySem.W.typeIn K (.ref fI) = some (.type "function") ∧
    FnOk P w K mg base CX0 k fI fd ["self", "value"] (spInit C) ∧
    (∀ (s : Shared) (u v : Value), K.In s.heap → BindsTo s fd ⟨[u, v], []⟩ [("self", u), ("value", v)]) ∧
    ∀ (s : Shared) (u v : Value), K.In s.heap → BindsTo s fd ⟨[u], [("value", v)]⟩ [("self", u), ("value", v)]
theorem run_exv {pins : List (Addr × Obj)} {σ : St} {H : Hp} {s : Shared} {Q : VK} {us : List Value} {kw : List (Str × Value)} {u : Value} {v : V}
    (c : ExvC X.prog X.w X.K X.mg X.base k C) (hr : Room (k + 1) X.A) (hu : (us = [u] ∧ kw = []) ∨ (us = [] ∧ kw = [(("value" : Str), u)]))
    (I : Inv X pins σ H s) (r : RelV v u)
    (h : ∀ a H2, H a = none → (∀ b o, H b = some o → H2 b = some o) → Exv H2 a C [("value", v)] → Q (.ref a) H2) :
    wpAny (model X.prog X.w) X.A (call (.ref C) us kw) (EP X pins σ Q) X.xe s := by
  obtain ⟨T, fI, fd, iC, tI, F1, b1, b2⟩ := c
  obtain ⟨nm, q, N, bs, bm, sn, sub, ab, col, dd, k0, k1, k2, k3, k5, hC, hbm⟩ := T.cls
  obtain ⟨hp, gs, dr, tok, os⟩ := s
  have past : hp.objs.size ≤ hp.objs.size + 1 := Nat.le_succ _
  have fresh : H (hp.objs.size + 1) = none := I.hok.fresh past
  have old : ∀ b o, hp.get? b = some o → ((hp.push (PySem.W.kdv_tup us)).push (PySem.HandSPX.excO C hp.objs.size)).get? b = some o :=
    fun b o z => Heap.get?_push_of_some _ (Heap.get?_push_of_some _ z)
  have new : ((hp.push (PySem.W.kdv_tup us)).push (PySem.HandSPX.excO C hp.objs.size)).get? (hp.objs.size + 1) = some (PySem.HandSPX.excO C hp.objs.size) := by
    heap_get
  have I2 : Inv X pins σ (upd H (hp.objs.size + 1) (exo (hp.objs.size + 1) C none))
      ⟨(hp.push (PySem.W.kdv_tup us)).push (PySem.HandSPX.excO C hp.objs.size), gs, dr, tok, os⟩ :=
    I.laid (t' := tok) (a := hp.objs.size + 1) (o := exo (hp.objs.size + 1) C none)
      (h' := (hp.push (PySem.W.kdv_tup us)).push (PySem.HandSPX.excO C hp.objs.size)) old past (exo_ok new)
  have few : us.length ≤ sizeLine := by
    rw [sizeLine_eq]
    rcases hu with ⟨rfl, _⟩ | ⟨rfl, _⟩
    · exact (by decide : 1 ≤ 16777216)
    · exact (by decide : 0 ≤ 16777216)
  have r2 : Vals [V.ref (hp.objs.size + 1), v] [Value.ref (hp.objs.size + 1), u] := .cons rfl (.cons r .nil)
  have bi : ∀ s' : Shared, X.K.In s'.heap → BindsTo s' fd ⟨Value.ref (hp.objs.size + 1) :: us, kw⟩ [("self", Value.ref (hp.objs.size + 1)), ("value", u)] := fun s' k' => by
    rcases hu with ⟨rfl, rfl⟩ | ⟨rfl, rfl⟩
    · exact b1 _ _ u k'
    · exact b2 _ _ u k'
  have hq : spInit C [V.ref (hp.objs.size + 1), v] (upd H (hp.objs.size + 1) (exo (hp.objs.size + 1) C none))
      (fun v' H2 => v' = .non ∧ Q (.ref (hp.objs.size + 1)) H2) E0 := by
    refine ⟨_, v, rfl, upd_same, fun dx hd ne => ⟨rfl, h _ _ fresh (fun b o hb => ?_) ⟨dx, upd_same, ?_⟩⟩⟩
    · have nb : b ≠ hp.objs.size + 1 := ne_of_none hb fresh
      have hb' : upd H (hp.objs.size + 1) (exo (hp.objs.size + 1) C none) b = some o := by
        rw [upd_ne nb]
        exact hb
      rw [upd_ne nb, upd_ne (ne_of_none hb' hd)]
      exact hb'
    · rw [upd_ne ne, upd_same]
  refine wpAny_call (PySem.GcX.class_called F.excBase_ValueError (fun Y => PySem.HandSPX.refsVE_contains Y bm hbm) (I.kIn _ _ hC)
    (PySem.W.looks_findIn I.kIn iC) (fun self => PySem.W.bind_fn I.kIn self tI) few
    (codeAny_mono (F1.run _ X.stack _ _ ⟨Value.ref (hp.objs.size + 1) :: us, kw⟩ [Value.ref (hp.objs.size + 1), u] _ _ E0
      (hr.make C us kw) (I2.env0.make C us kw) (bi _ I2.kIn) r2 hq) fun r s' hq' => ?_))
  cases r with
  | error er => exact pass0 pins σ _ _ er s' I2 hq'
  | ok fl =>
    cases fl with
    | ret u =>
      obtain ⟨v, H', I3, rv, ev, q3⟩ := I2.after hq'
      subst ev
      exact ⟨rv, ⟨V.ref (hp.objs.size + 1), H', I3, rfl, q3⟩⟩
    | next => exact False.elim hq'
    | brk => exact False.elim hq'
    | cont => exact False.elim hq'
/-- C(v), C(value=v): the new exception as a value -/
def tNewV (C : Addr) (ta : TA) : TE := fun σ H Q => ta σ H fun vs H1 => ∃ v, vs = [v] ∧
  ∀ a H2, H1 a = none → (∀ b o, H1 b = some o → H2 b = some o) → Exv H2 a C [("value", v)] → Q (.ref a) H2
theorem pe_new (c : ExvC X.prog X.w X.K X.mg X.base k C) (hr : Room (k + 1) X.A) (hg : Gl X x) (hm : X.mg x = some (.ref C)) (ha : PA X [e] t)
    (hdb : (x == ("__debug__" : Str)) = false := by decide)
    (he : starEach (e :: []) X.env = (false, eval e X.env) :: starEach [] X.env := by rfl)
    (hpl : (backTo pos (starEach [] X.env)).any (·.1) = false := by rfl) :
    PE X (.Call (.Name x p) [e] [] pos) (tNewV C t) := by
  refine ⟨fun pins s σ H Q I h => ?_⟩
  refine wpAny_Call_Name_kw (ld_glob I hg hm ?_ hdb)
  refine PySem.W.callWith_K (h₀ := X.base) I.ok.mod.kin c.T.kC (thn (ha.run pos pins s σ H _ I h) fun us s1 ⟨vs, H1, I1, r1, v, ev, q⟩ => ⟨I1.kIn, ?_⟩) he hpl
  subst ev
  cases r1 with
  | cons ru rn =>
    cases rn
    exact run_exv c hr (.inl ⟨rfl, rfl⟩) I1 ru q
theorem pe_newK {te : TE} (c : ExvC X.prog X.w X.K X.mg X.base k C) (hr : Room (k + 1) X.A) (hg : Gl X x) (hm : X.mg x = some (.ref C)) (ha : PE X e te)
    (hdb : (x == ("__debug__" : Str)) = false := by decide)
    (hall : (backToKw pos (keywordEach [⟨some "value", e, kpos⟩] X.env)).all (·.1.isSome) = true := by rfl)
    (hks : (backToKw pos (keywordEach [⟨some "value", e, kpos⟩] X.env)).filterMap (·.1) = [("value" : Str)] := by rfl)
    (hpn : ((backTo pos (starEach [] X.env)).any (·.1) || (backToKw pos (keywordEach [⟨some "value", e, kpos⟩] X.env)).any (·.1.isNone)) = false := by rfl) :
    PE X (.Call (.Name x p) [] [⟨some "value", e, kpos⟩] pos) (tNewV C (tCons te tNil)) := by
  refine ⟨fun pins s σ H Q I h => ?_⟩
  refine wpAny_Call_Name_kw (ld_glob I hg hm ?_ hdb)
  refine PySem.W.callWith_KW0 (h₀ := X.base) I.ok.mod.kin c.T.kC hall ?_ hpn
  have hk : PK X [⟨some "value", e, kpos⟩] (tCons te tNil) := pk_cons ha pk_nil
  refine thn (hk.run pos pins s σ H _ I h) fun ws s1 ⟨zs, H1, I1, rz, v, ev, q⟩ => ⟨I1.kIn, ?_⟩
  subst ev
  rw [hks]
  cases rz with
  | cons ru rn =>
    cases rn
    exact run_exv c hr (.inr ⟨rfl, rfl⟩) I1 ru q
end
section
/-- what such a class must say, so that its instances can be looked at -/
structure ExvI (K : PySem.W.Frag) (C : Addr) : Prop where
  cl : (PySem.W.clsIn K C).isSome = true
  ga : PySem.W.findIn K (.ref C) "__getattribute__" = some (some (.builtin "BaseException.__getattribute__"))
  gg : PySem.W.findIn K (.ref C) "__getattr__" = some none
  be : PySem.W.subIn K (.ref C) (.type "BaseException") = some true
  hd : PySem.W.hasDictIn K C = true
  cc : PySem.W.findIn K (.ref C) "__class__" = some (some (.builtin "object.__class__"))
  gt : PySem.W.specialIn K (.builtin "object.__class__") "__get__" = some (some (.builtin "getset_descriptor.__get__"))
  tk : PySem.W.takesIn K (.builtin "object.__class__") = some true
  ob : PySem.W.mroIn K C (.type "object") = some true
theorem exv_inst {P : Program} {w : World} {H : Hp} {h : Heap} {a C d : Addr} {fs : List (Str × V)} (ok : HOk P w H h) (ea : H a = some (exo a C (some d))) (ed : H d = some (exd d fs)) :
    ∃ (ox od : Obj) (mA : Str → Option Value), PySem.W.InstAt h a ox C (some od) ∧ (∀ f, PySem.W.lookIn f od = some (mA f)) ∧ ∀ f, RelO (fs.lookup f) (mA f) := by
  obtain ⟨t1, ho⟩ := exo_at ok ea
  obtain ⟨mA, hns, rel⟩ := exd_at ok ed
  obtain ⟨od, hod, hl⟩ := lookIn_ns hns
  exact ⟨_, od, mA, ⟨ho, rfl, rfl, hod⟩, hl, rel⟩
/-- isinstance(e, c), e such an exception -/
def rIsV (K : PySem.W.Frag) : List V → Hp → VK → Prop := fun xs H Q => ∃ (a C : Addr) (fs : List (Str × V)) (c : V) (cv : Value) (b : Bool),
  xs = [.ref a, c] ∧ Exv H a C fs ∧ ExvI K C ∧ ClsV c cv ∧ PySem.W.kitOne K (.ref C) cv = some b ∧ Q (.bl b) H
theorem call_isV {X : Cx} : CallR X (.builtin "isinstance") (rIsV X.K) := by
  intro pins s σ H xs us Q I r h
  obtain ⟨a, C, fs, c, cv, b, rfl, ⟨d, ea, ed⟩, T, k, e, q⟩ := h
  obtain ⟨u1, u2, rfl, r1, r2⟩ := vals2 r
  have e2 := k.eq r2
  subst e2
  obtain rfl : u1 = Value.ref a := r1
  obtain ⟨ox, od, mA, J, _, _⟩ := exv_inst I.hok ea ed
  exact PySem.W.kia_one (PySem.W.kitx_exc T.cl T.ga T.gg T.be T.cc T.gt T.tk T.ob) I.kIn J e (fun z => nomatch z)
    fun tk => ⟨.bl b, H, I.tok tk, rfl, q⟩
/-- e.f, e such an exception -/
def tXv (K : PySem.W.Frag) (f : Str) (te : TE) : TE := fun σ H Q => te σ H fun x H1 => ∃ (a C : Addr) (fs : List (Str × V)) (v : V),
  x = .ref a ∧ Exv H1 a C fs ∧ ExvI K C ∧ PySem.W.findIn K (.ref C) f = some none ∧ fs.lookup f = some v ∧ Q v H1
theorem pe_xv {X : Cx} {e : Expr} {te : TE} {pos : Pos} {n : Str} (he : PE X e te)
    (hb : attributeBase e n X.env (eval e X.env) = eval e X.env := by rfl) : PE X (.Attribute e n pos) (tXv X.K n te) := by
  refine ⟨fun pins s σ H Q I h => ?_⟩
  refine attr_of hb (thn (he.run pins s σ H _ I h) fun u s1 hh => ?_)
  obtain ⟨x, H1, I1, rx, a, C, fs, v, ex, ⟨d, ea, ed⟩, T, no, l, q⟩ := hh
  subst ex
  obtain rfl : u = Value.ref a := rx
  obtain ⟨ox, od, mA, J, hl, rel⟩ := exv_inst I1.hok ea ed
  obtain ⟨u, hu, ru⟩ := RelO.some_of (v := v) (o := mA n) (by rw [← l]; exact rel n)
  exact HandSPX.exc_get I1.kIn J T.ga T.gg T.be (PySem.W.findObj_own T.hd no rfl (by rw [hl, hu])) (handed_of ru) ⟨v, H1, I1.tok _, ru, q⟩
end
end L2

namespace Gc
open PySem L2
abbrev sError : Stmt := top 13
abbrev sMade : Stmt := top 14
abbrev sLaw : Stmt := top 15
section
variable {P : Program} {w : World} {K : PySem.W.Frag} {mg : Str → Option Value} {base : Heap}
abbrev sI0 : Stmt := inClass (top 2) 0
theorem sc_I0 : FnScope ["self", "value"] ["self", "value"] (defScope sI0) := ⟨rfl, rfl, rfl, by decide +kernel, rfl, by decide +kernel, by decide +kernel⟩
theorem ok_I0 {f C : Addr} {fd : FuncData} (F : Fun K "__init__" "InvalidText.__init__" sI0 f fd) (T : OexC K C) (no : PySem.W.findIn K (.ref C) "value" = some none) : FnOk P w K mg base CX0 1 f fd ["self", "value"] (spInit C) := by
  refine F.ok sc_I0 (fun vs H Q E h => ?_) (fun cdv A outer s H vs Q E hr h => ?_)
  · obtain ⟨a, v, rfl, _⟩ := h
    rfl
  · obtain ⟨a, v, rfl, ha, k⟩ := h
    refine ⟨_, pss_one (ps_ost (pv 0) (pv 1)), ?_⟩
    exact ⟨_, rfl, _, rfl, a, C, rfl, T, no, .inl ⟨ha, fun dx hd ne => k dx hd ne⟩⟩
theorem exv_I0 {fI C : Addr} {fd : FuncData} (F : Fun K "__init__" "InvalidText.__init__" sI0 fI fd) (T : OexC K C) (no : PySem.W.findIn K (.ref C) "value" = some none)
    (iC : PySem.W.findIn K (.ref C) "__init__" = some (some (.ref fI))) (tI : PySem.W.typeIn K (.ref fI) = some (.type "function")) : ExvC P w K mg base 1 C := by
  have ok := ok_I0 (P := P) (w := w) (mg := mg) (base := base) F T no
  obtain ⟨oc, od, kV, doc, pm, an, cdv, ct, osl, rfl, lk, hcd⟩ := F.ex
  exact ⟨T, fI, _, iC, tI, ok, fun s u v _ => .of_eq rfl, fun s u v _ => .of_eq rfl⟩
abbrev sI1 : Stmt := inClass (top 3) 0
theorem sc_I1 : FnScope ["self", "value"] ["self", "value"] (defScope sI1) := ⟨rfl, rfl, rfl, by decide +kernel, rfl, by decide +kernel, by decide +kernel⟩
theorem ok_I1 {f C : Addr} {fd : FuncData} (F : Fun K "__init__" "InvalidCursor.__init__" sI1 f fd) (T : OexC K C) (no : PySem.W.findIn K (.ref C) "value" = some none) : FnOk P w K mg base CX0 1 f fd ["self", "value"] (spInit C) := by
  refine F.ok sc_I1 (fun vs H Q E h => ?_) (fun cdv A outer s H vs Q E hr h => ?_)
  · obtain ⟨a, v, rfl, _⟩ := h
    rfl
  · obtain ⟨a, v, rfl, ha, k⟩ := h
    refine ⟨_, pss_one (ps_ost (pv 0) (pv 1)), ?_⟩
    exact ⟨_, rfl, _, rfl, a, C, rfl, T, no, .inl ⟨ha, fun dx hd ne => k dx hd ne⟩⟩
theorem exv_I1 {fI C : Addr} {fd : FuncData} (F : Fun K "__init__" "InvalidCursor.__init__" sI1 fI fd) (T : OexC K C) (no : PySem.W.findIn K (.ref C) "value" = some none)
    (iC : PySem.W.findIn K (.ref C) "__init__" = some (some (.ref fI))) (tI : PySem.W.typeIn K (.ref fI) = some (.type "function")) : ExvC P w K mg base 1 C := by
  have ok := ok_I1 (P := P) (w := w) (mg := mg) (base := base) F T no
  obtain ⟨oc, od, kV, doc, pm, an, cdv, ct, osl, rfl, lk, hcd⟩ := F.ex
  exact ⟨T, fI, _, iC, tI, ok, fun s u v _ => .of_eq rfl, fun s u v _ => .of_eq rfl⟩
abbrev sI2 : Stmt := inClass (top 4) 0
theorem sc_I2 : FnScope ["self", "value"] ["self", "value"] (defScope sI2) := ⟨rfl, rfl, rfl, by decide +kernel, rfl, by decide +kernel, by decide +kernel⟩
theorem ok_I2 {f C : Addr} {fd : FuncData} (F : Fun K "__init__" "InvalidCommand.__init__" sI2 f fd) (T : OexC K C) (no : PySem.W.findIn K (.ref C) "value" = some none) : FnOk P w K mg base CX0 1 f fd ["self", "value"] (spInit C) := by
  refine F.ok sc_I2 (fun vs H Q E h => ?_) (fun cdv A outer s H vs Q E hr h => ?_)
  · obtain ⟨a, v, rfl, _⟩ := h
    rfl
  · obtain ⟨a, v, rfl, ha, k⟩ := h
    refine ⟨_, pss_one (ps_ost (pv 0) (pv 1)), ?_⟩
    exact ⟨_, rfl, _, rfl, a, C, rfl, T, no, .inl ⟨ha, fun dx hd ne => k dx hd ne⟩⟩
theorem exv_I2 {fI C : Addr} {fd : FuncData} (F : Fun K "__init__" "InvalidCommand.__init__" sI2 fI fd) (T : OexC K C) (no : PySem.W.findIn K (.ref C) "value" = some none)
    (iC : PySem.W.findIn K (.ref C) "__init__" = some (some (.ref fI))) (tI : PySem.W.typeIn K (.ref fI) = some (.type "function")) : ExvC P w K mg base 1 C := by
  have ok := ok_I2 (P := P) (w := w) (mg := mg) (base := base) F T no
  obtain ⟨oc, od, kV, doc, pm, an, cdv, ct, osl, rfl, lk, hcd⟩ := F.ex
  exact ⟨T, fI, _, iC, tI, ok, fun s u v _ => .of_eq rfl, fun s u v _ => .of_eq rfl⟩
abbrev sI3 : Stmt := inClass (top 5) 0
theorem sc_I3 : FnScope ["self", "value"] ["self", "value"] (defScope sI3) := ⟨rfl, rfl, rfl, by decide +kernel, rfl, by decide +kernel, by decide +kernel⟩
theorem ok_I3 {f C : Addr} {fd : FuncData} (F : Fun K "__init__" "Impossible.__init__" sI3 f fd) (T : OexC K C) (no : PySem.W.findIn K (.ref C) "value" = some none) : FnOk P w K mg base CX0 1 f fd ["self", "value"] (spInit C) := by
  refine F.ok sc_I3 (fun vs H Q E h => ?_) (fun cdv A outer s H vs Q E hr h => ?_)
  · obtain ⟨a, v, rfl, _⟩ := h
    rfl
  · obtain ⟨a, v, rfl, ha, k⟩ := h
    refine ⟨_, pss_one (ps_ost (pv 0) (pv 1)), ?_⟩
    exact ⟨_, rfl, _, rfl, a, C, rfl, T, no, .inl ⟨ha, fun dx hd ne => k dx hd ne⟩⟩
theorem exv_I3 {fI C : Addr} {fd : FuncData} (F : Fun K "__init__" "Impossible.__init__" sI3 fI fd) (T : OexC K C) (no : PySem.W.findIn K (.ref C) "value" = some none)
    (iC : PySem.W.findIn K (.ref C) "__init__" = some (some (.ref fI))) (tI : PySem.W.typeIn K (.ref fI) = some (.type "function")) : ExvC P w K mg base 1 C := by
  have ok := ok_I3 (P := P) (w := w) (mg := mg) (base := base) F T no
  obtain ⟨oc, od, kV, doc, pm, an, cdv, ct, osl, rfl, lk, hcd⟩ := F.ex
  exact ⟨T, fI, _, iC, tI, ok, fun s u v _ => .of_eq rfl, fun s u v _ => .of_eq rfl⟩
abbrev sI4 : Stmt := inClass (top 6) 0
theorem sc_I4 : FnScope ["self", "value"] ["self", "value"] (defScope sI4) := ⟨rfl, rfl, rfl, by decide +kernel, rfl, by decide +kernel, by decide +kernel⟩
theorem ok_I4 {f C : Addr} {fd : FuncData} (F : Fun K "__init__" "InvalidNumber.__init__" sI4 f fd) (T : OexC K C) (no : PySem.W.findIn K (.ref C) "value" = some none) : FnOk P w K mg base CX0 1 f fd ["self", "value"] (spInit C) := by
  refine F.ok sc_I4 (fun vs H Q E h => ?_) (fun cdv A outer s H vs Q E hr h => ?_)
  · obtain ⟨a, v, rfl, _⟩ := h
    rfl
  · obtain ⟨a, v, rfl, ha, k⟩ := h
    refine ⟨_, pss_one (ps_ost (pv 0) (pv 1)), ?_⟩
    exact ⟨_, rfl, _, rfl, a, C, rfl, T, no, .inl ⟨ha, fun dx hd ne => k dx hd ne⟩⟩
theorem exv_I4 {fI C : Addr} {fd : FuncData} (F : Fun K "__init__" "InvalidNumber.__init__" sI4 fI fd) (T : OexC K C) (no : PySem.W.findIn K (.ref C) "value" = some none)
    (iC : PySem.W.findIn K (.ref C) "__init__" = some (some (.ref fI))) (tI : PySem.W.typeIn K (.ref fI) = some (.type "function")) : ExvC P w K mg base 1 C := by
  have ok := ok_I4 (P := P) (w := w) (mg := mg) (base := base) F T no
  obtain ⟨oc, od, kV, doc, pm, an, cdv, ct, osl, rfl, lk, hcd⟩ := F.ex
  exact ⟨T, fI, _, iC, tI, ok, fun s u v _ => .of_eq rfl, fun s u v _ => .of_eq rfl⟩
abbrev sI5 : Stmt := inClass (top 7) 0
theorem sc_I5 : FnScope ["self", "value"] ["self", "value"] (defScope sI5) := ⟨rfl, rfl, rfl, by decide +kernel, rfl, by decide +kernel, by decide +kernel⟩
theorem ok_I5 {f C : Addr} {fd : FuncData} (F : Fun K "__init__" "NothingToUndo.__init__" sI5 f fd) (T : OexC K C) (no : PySem.W.findIn K (.ref C) "value" = some none) : FnOk P w K mg base CX0 1 f fd ["self", "value"] (spInit C) := by
  refine F.ok sc_I5 (fun vs H Q E h => ?_) (fun cdv A outer s H vs Q E hr h => ?_)
  · obtain ⟨a, v, rfl, _⟩ := h
    rfl
  · obtain ⟨a, v, rfl, ha, k⟩ := h
    refine ⟨_, pss_one (ps_ost (pv 0) (pv 1)), ?_⟩
    exact ⟨_, rfl, _, rfl, a, C, rfl, T, no, .inl ⟨ha, fun dx hd ne => k dx hd ne⟩⟩
theorem exv_I5 {fI C : Addr} {fd : FuncData} (F : Fun K "__init__" "NothingToUndo.__init__" sI5 fI fd) (T : OexC K C) (no : PySem.W.findIn K (.ref C) "value" = some none)
    (iC : PySem.W.findIn K (.ref C) "__init__" = some (some (.ref fI))) (tI : PySem.W.typeIn K (.ref fI) = some (.type "function")) : ExvC P w K mg base 1 C := by
  have ok := ok_I5 (P := P) (w := w) (mg := mg) (base := base) F T no
  obtain ⟨oc, od, kV, doc, pm, an, cdv, ct, osl, rfl, lk, hcd⟩ := F.ex
  exact ⟨T, fI, _, iC, tI, ok, fun s u v _ => .of_eq rfl, fun s u v _ => .of_eq rfl⟩
abbrev sI6 : Stmt := inClass (top 8) 0
theorem sc_I6 : FnScope ["self", "value"] ["self", "value"] (defScope sI6) := ⟨rfl, rfl, rfl, by decide +kernel, rfl, by decide +kernel, by decide +kernel⟩
theorem ok_I6 {f C : Addr} {fd : FuncData} (F : Fun K "__init__" "Unreadable.__init__" sI6 f fd) (T : OexC K C) (no : PySem.W.findIn K (.ref C) "value" = some none) : FnOk P w K mg base CX0 1 f fd ["self", "value"] (spInit C) := by
  refine F.ok sc_I6 (fun vs H Q E h => ?_) (fun cdv A outer s H vs Q E hr h => ?_)
  · obtain ⟨a, v, rfl, _⟩ := h
    rfl
  · obtain ⟨a, v, rfl, ha, k⟩ := h
    refine ⟨_, pss_one (ps_ost (pv 0) (pv 1)), ?_⟩
    exact ⟨_, rfl, _, rfl, a, C, rfl, T, no, .inl ⟨ha, fun dx hd ne => k dx hd ne⟩⟩
theorem exv_I6 {fI C : Addr} {fd : FuncData} (F : Fun K "__init__" "Unreadable.__init__" sI6 fI fd) (T : OexC K C) (no : PySem.W.findIn K (.ref C) "value" = some none)
    (iC : PySem.W.findIn K (.ref C) "__init__" = some (some (.ref fI))) (tI : PySem.W.typeIn K (.ref fI) = some (.type "function")) : ExvC P w K mg base 1 C := by
  have ok := ok_I6 (P := P) (w := w) (mg := mg) (base := base) F T no
  obtain ⟨oc, od, kV, doc, pm, an, cdv, ct, osl, rfl, lk, hcd⟩ := F.ex
  exact ⟨T, fI, _, iC, tI, ok, fun s u v _ => .of_eq rfl, fun s u v _ => .of_eq rfl⟩
end
/-- the seven classes of the errors, their base -/
structure Errs (P : Program) (w : World) (K : PySem.W.Frag) (mg : Str → Option Value) (base : Heap) (cs : Nat → Addr) (CE : Addr) : Prop where
  new : ∀ i, i < 7 → ExvC P w K mg base 1 (cs i)
  look : ∀ i, i < 7 → ExvI K (cs i)
  no : ∀ i, i < 7 → PySem.W.findIn K (.ref (cs i)) "value" = some none
  kit : ∀ i j, i < 7 → j < 7 → PySem.W.kitOne K (.ref (cs i)) (.ref (cs j)) = some (decide (i = j))
  kitE : ∀ i, i < 7 → PySem.W.kitOne K (.ref (cs i)) (.ref CE) = some true
  kitV : ∀ i, i < 7 → PySem.W.kitOne K (.ref (cs i)) (.type "ValueError") = some true
  g0 : mg "InvalidText" = some (.ref (cs 0))
  g1 : mg "InvalidCursor" = some (.ref (cs 1))
  g2 : mg "InvalidCommand" = some (.ref (cs 2))
  g3 : mg "Impossible" = some (.ref (cs 3))
  g4 : mg "InvalidNumber" = some (.ref (cs 4))
  g5 : mg "NothingToUndo" = some (.ref (cs 5))
  g6 : mg "Unreadable" = some (.ref (cs 6))
  gE : mg "CursorError" = some (.ref CE)
  isinstance : mg "isinstance" = none
  ValueError : mg "ValueError" = none
def nm : Nat → Str
  | 0 => "InvalidText"
  | 1 => "InvalidCursor"
  | 2 => "InvalidCommand"
  | 3 => "Impossible"
  | 4 => "InvalidNumber"
  | 5 => "NothingToUndo"
  | _ => "Unreadable"
def spMade (cs : Nat → Addr) : Sp := fun vs H Q _ => ∃ (i : Nat) (what : V) (b : Bool), vs = [.int (i : Int), what, .bl b] ∧ i < 7 ∧
  ∀ a H', H a = none → Same H H' → Exv H' a (cs i) [("value", what)] → Q (.ref a) H'
def spError (cs : Nat → Addr) : Sp := fun vs H Q _ => ∃ (a : Addr) (i : Nat) (what : V), vs = [.ref a] ∧ i < 7 ∧ Exv H a (cs i) [("value", what)] ∧
  ∀ q H', Same H H' → H' q = some (.lst [.str (nm i), what, .bl true]) → Q (.ref q) H'
section
variable {P : Program} {w : World} {K : PySem.W.Frag} {mg : Str → Option Value} {base : Heap} {cs : Nat → Addr} {CE : Addr}
theorem sc_law_made : FnScope ["door", "what", "by_name"] ["door", "what", "by_name"] (defScope sMade) := ⟨rfl, rfl, rfl, by decide +kernel, rfl, by decide +kernel, by decide +kernel⟩
theorem ok_made {f : Addr} {fd : FuncData} (F : Fun K "_law_made" "_law_made" sMade f fd) (T : Errs P w K mg base cs CE) : FnOk P w K mg base CX0 3 f fd ["door", "what", "by_name"] (spMade cs) := by
  refine F.ok sc_law_made (fun vs H Q E h => ?_) (fun cdv A outer s H vs Q E hr h => ?_)
  · obtain ⟨i, what, b, rfl, _⟩ := h
    rfl
  · obtain ⟨i, what, b, rfl, hi, k⟩ := h
    refine ⟨_, (pss_cons (ps_if (pt_cmpR op_eq (pv 0) pe_int (nomark _)) (pss_one (ps_ret (pe_ifExp (pt_val (pv 2)) (pe_newK (T.new 0 (by decide)) hr (by rfl) T.g0 (pv 1)) (pe_new (T.new 0 (by decide)) hr (by rfl) T.g0 (pa_cons (pv 1) pa_nil))))) pss_nil)
      (pss_cons (ps_if (pt_cmpR op_eq (pv 0) pe_int (nomark _)) (pss_one (ps_ret (pe_ifExp (pt_val (pv 2)) (pe_newK (T.new 1 (by decide)) hr (by rfl) T.g1 (pv 1)) (pe_new (T.new 1 (by decide)) hr (by rfl) T.g1 (pa_cons (pv 1) pa_nil))))) pss_nil)
      (pss_cons (ps_if (pt_cmpR op_eq (pv 0) pe_int (nomark _)) (pss_one (ps_ret (pe_ifExp (pt_val (pv 2)) (pe_newK (T.new 2 (by decide)) hr (by rfl) T.g2 (pv 1)) (pe_new (T.new 2 (by decide)) hr (by rfl) T.g2 (pa_cons (pv 1) pa_nil))))) pss_nil)
      (pss_cons (ps_if (pt_cmpR op_eq (pv 0) pe_int (nomark _)) (pss_one (ps_ret (pe_ifExp (pt_val (pv 2)) (pe_newK (T.new 3 (by decide)) hr (by rfl) T.g3 (pv 1)) (pe_new (T.new 3 (by decide)) hr (by rfl) T.g3 (pa_cons (pv 1) pa_nil))))) pss_nil)
      (pss_cons (ps_if (pt_cmpR op_eq (pv 0) pe_int (nomark _)) (pss_one (ps_ret (pe_ifExp (pt_val (pv 2)) (pe_newK (T.new 4 (by decide)) hr (by rfl) T.g4 (pv 1)) (pe_new (T.new 4 (by decide)) hr (by rfl) T.g4 (pa_cons (pv 1) pa_nil))))) pss_nil)
      (pss_cons (ps_if (pt_cmpR op_eq (pv 0) pe_int (nomark _)) (pss_one (ps_ret (pe_ifExp (pt_val (pv 2)) (pe_newK (T.new 5 (by decide)) hr (by rfl) T.g5 (pv 1)) (pe_new (T.new 5 (by decide)) hr (by rfl) T.g5 (pa_cons (pv 1) pa_nil))))) pss_nil)
      (pss_one (ps_ret (pe_ifExp (pt_val (pv 2)) (pe_newK (T.new 6 (by decide)) hr (by rfl) T.g6 (pv 1)) (pe_new (T.new 6 (by decide)) hr (by rfl) T.g6 (pa_cons (pv 1) pa_nil))))))))))), ?_⟩
    match i, hi, k with
    | 0, hi, k =>
      refine ⟨_, rfl, rfl, _, rfl, iteT ?_⟩
      refine ⟨_, rfl, _, rfl, ?_⟩
      cases b with
      | true => exact iteT ⟨_, rfl, _, rfl, fun a H2 ha e x => k a H2 ha e x⟩
      | false => exact iteF ⟨_, rfl, _, rfl, fun a H2 ha e x => k a H2 ha e x⟩
    | 1, hi, k =>
      refine ⟨_, rfl, rfl, _, rfl, iteF ?_⟩
      refine ⟨_, rfl, rfl, _, rfl, iteT ?_⟩
      refine ⟨_, rfl, _, rfl, ?_⟩
      cases b with
      | true => exact iteT ⟨_, rfl, _, rfl, fun a H2 ha e x => k a H2 ha e x⟩
      | false => exact iteF ⟨_, rfl, _, rfl, fun a H2 ha e x => k a H2 ha e x⟩
    | 2, hi, k =>
      refine ⟨_, rfl, rfl, _, rfl, iteF ?_⟩
      refine ⟨_, rfl, rfl, _, rfl, iteF ?_⟩
      refine ⟨_, rfl, rfl, _, rfl, iteT ?_⟩
      refine ⟨_, rfl, _, rfl, ?_⟩
      cases b with
      | true => exact iteT ⟨_, rfl, _, rfl, fun a H2 ha e x => k a H2 ha e x⟩
      | false => exact iteF ⟨_, rfl, _, rfl, fun a H2 ha e x => k a H2 ha e x⟩
    | 3, hi, k =>
      refine ⟨_, rfl, rfl, _, rfl, iteF ?_⟩
      refine ⟨_, rfl, rfl, _, rfl, iteF ?_⟩
      refine ⟨_, rfl, rfl, _, rfl, iteF ?_⟩
      refine ⟨_, rfl, rfl, _, rfl, iteT ?_⟩
      refine ⟨_, rfl, _, rfl, ?_⟩
      cases b with
      | true => exact iteT ⟨_, rfl, _, rfl, fun a H2 ha e x => k a H2 ha e x⟩
      | false => exact iteF ⟨_, rfl, _, rfl, fun a H2 ha e x => k a H2 ha e x⟩
    | 4, hi, k =>
      refine ⟨_, rfl, rfl, _, rfl, iteF ?_⟩
      refine ⟨_, rfl, rfl, _, rfl, iteF ?_⟩
      refine ⟨_, rfl, rfl, _, rfl, iteF ?_⟩
      refine ⟨_, rfl, rfl, _, rfl, iteF ?_⟩
      refine ⟨_, rfl, rfl, _, rfl, iteT ?_⟩
      refine ⟨_, rfl, _, rfl, ?_⟩
      cases b with
      | true => exact iteT ⟨_, rfl, _, rfl, fun a H2 ha e x => k a H2 ha e x⟩
      | false => exact iteF ⟨_, rfl, _, rfl, fun a H2 ha e x => k a H2 ha e x⟩
    | 5, hi, k =>
      refine ⟨_, rfl, rfl, _, rfl, iteF ?_⟩
      refine ⟨_, rfl, rfl, _, rfl, iteF ?_⟩
      refine ⟨_, rfl, rfl, _, rfl, iteF ?_⟩
      refine ⟨_, rfl, rfl, _, rfl, iteF ?_⟩
      refine ⟨_, rfl, rfl, _, rfl, iteF ?_⟩
      refine ⟨_, rfl, rfl, _, rfl, iteT ?_⟩
      refine ⟨_, rfl, _, rfl, ?_⟩
      cases b with
      | true => exact iteT ⟨_, rfl, _, rfl, fun a H2 ha e x => k a H2 ha e x⟩
      | false => exact iteF ⟨_, rfl, _, rfl, fun a H2 ha e x => k a H2 ha e x⟩
    | 6, hi, k =>
      refine ⟨_, rfl, rfl, _, rfl, iteF ?_⟩
      refine ⟨_, rfl, rfl, _, rfl, iteF ?_⟩
      refine ⟨_, rfl, rfl, _, rfl, iteF ?_⟩
      refine ⟨_, rfl, rfl, _, rfl, iteF ?_⟩
      refine ⟨_, rfl, rfl, _, rfl, iteF ?_⟩
      refine ⟨_, rfl, rfl, _, rfl, iteF ?_⟩
      refine ⟨_, rfl, _, rfl, ?_⟩
      cases b with
      | true => exact iteT ⟨_, rfl, _, rfl, fun a H2 ha e x => k a H2 ha e x⟩
      | false => exact iteF ⟨_, rfl, _, rfl, fun a H2 ha e x => k a H2 ha e x⟩
    | n + 7, hi, _ => exact absurd hi (by omega)
theorem sc_law_error : FnScope ["e", "held", "names", "name", "is_one"] ["e"] (defScope sError) := ⟨rfl, rfl, rfl, by decide +kernel, rfl, by decide +kernel, by decide +kernel⟩
theorem ok_error {f : Addr} {fd : FuncData} (F : Fun K "_law_error" "_law_error" sError f fd) (T : Errs P w K mg base cs CE) : FnOk P w K mg base CX0 1 f fd ["e"] (spError cs) := by
  refine F.ok sc_law_error (fun vs H Q E h => ?_) (fun cdv A outer s H vs Q E hr h => ?_)
  · obtain ⟨a, i, what, rfl, _⟩ := h
    rfl
  · obtain ⟨a, i, what, rfl, hi, x, k⟩ := h
    refine ⟨_, (pss_cons (ps_set (i := 1) sc_law_error.nd rfl (Or.inl rfl) (pe_lst (pa_cons (pe_tup (pa_cons pe_str (pa_cons (pe_callB call_isV (by rfl) T.isinstance (by decide +kernel) (pa_cons (pv 0) (pa_cons (pe_glob (v := .ref (cs 0)) (by rfl) T.g0 rfl) pa_nil))) pa_nil))) (pa_cons (pe_tup (pa_cons pe_str (pa_cons (pe_callB call_isV (by rfl) T.isinstance (by decide +kernel) (pa_cons (pv 0) (pa_cons (pe_glob (v := .ref (cs 1)) (by rfl) T.g1 rfl) pa_nil))) pa_nil))) pa_nil))))
      (pss_cons (ps_set (i := 1) sc_law_error.nd rfl (Or.inl rfl) (pe_op op_cat (pv 1) (pe_lst (pa_cons (pe_tup (pa_cons pe_str (pa_cons (pe_callB call_isV (by rfl) T.isinstance (by decide +kernel) (pa_cons (pv 0) (pa_cons (pe_glob (v := .ref (cs 2)) (by rfl) T.g2 rfl) pa_nil))) pa_nil))) (pa_cons (pe_tup (pa_cons pe_str (pa_cons (pe_callB call_isV (by rfl) T.isinstance (by decide +kernel) (pa_cons (pv 0) (pa_cons (pe_glob (v := .ref (cs 3)) (by rfl) T.g3 rfl) pa_nil))) pa_nil))) pa_nil)))))
      (pss_cons (ps_set (i := 1) sc_law_error.nd rfl (Or.inl rfl) (pe_op op_cat (pv 1) (pe_lst (pa_cons (pe_tup (pa_cons pe_str (pa_cons (pe_callB call_isV (by rfl) T.isinstance (by decide +kernel) (pa_cons (pv 0) (pa_cons (pe_glob (v := .ref (cs 4)) (by rfl) T.g4 rfl) pa_nil))) pa_nil))) (pa_cons (pe_tup (pa_cons pe_str (pa_cons (pe_callB call_isV (by rfl) T.isinstance (by decide +kernel) (pa_cons (pv 0) (pa_cons (pe_glob (v := .ref (cs 5)) (by rfl) T.g5 rfl) pa_nil))) pa_nil))) pa_nil)))))
      (pss_cons (ps_setLc (i := 2) (own := [("name", 3), ("is_one", 4)]) rfl sc_law_error.nd rfl rfl (sw_true rfl rfl rfl (by decide +kernel)) (pi_list (pe_op op_cat (pv 1) (pe_lst (pa_cons (pe_tup (pa_cons pe_str (pa_cons (pe_callB call_isV (by rfl) T.isinstance (by decide +kernel) (pa_cons (pv 0) (pa_cons (pe_glob (v := .ref (cs 6)) (by rfl) T.g6 rfl) pa_nil))) pa_nil))) pa_nil)))) (blkOk_by (N := ["e", "held", "names", "name", "is_one"]) (sc := defScope sError) (by decide +kernel)) (fun _ _ _ _ _ => (show PG _ _ (gTup K 2 _) from pg_tup rfl (pgs_cons (pg_name (i := 3) sc_law_error.nd rfl (Or.inl rfl)) (pgs_cons (pg_name (i := 4) sc_law_error.nd rfl (Or.inl rfl)) pgs_nil)))) (fun _ _ _ _ _ => (pts_one (pt_val (pv 4)))) (fun _ _ _ _ _ => (pv 3)))
      (pss_one (ps_ret (pe_op op_cat (pv 2) (pe_lst (pa_cons (pe_xv (pv 0)) (pa_cons (pe_and (pe_callB call_isV (by rfl) T.isinstance (by decide +kernel) (pa_cons (pv 0) (pa_cons (pe_glob (v := .ref CE) (by rfl) T.gE rfl) pa_nil))) (pe_one (pe_callB call_isV (by rfl) T.isinstance (by decide +kernel) (pa_cons (pv 0) (pa_cons (pe_bltn (v := .ty "ValueError") (u := .type "ValueError") (by rfl) T.ValueError (by decide +kernel) rfl) pa_nil))))) pa_nil)))))))))), ?_⟩
    have e : Same H H := Same.refl H
    refine ⟨_, rfl, _, _, _, _, _, _, rfl, x.same e, T.look i hi, .own _, T.kit i 0 hi (by decide), (by show 2 ≤ sizeLine; decide), fun t0 n0 => ?_⟩
    generalize hg0 : upd H t0 (.tup [.str "InvalidText", .bl (decide (i = 0))]) = H0
    have s0 : Same H H0 := by rw [← hg0]; exact same_upd (Same.refl _) n0
    have f0 : H0 t0 = some (.tup [.str (nm 0), .bl (decide (i = 0))]) := by rw [← hg0]; exact upd_same
    replace e := e.trans s0
    refine ⟨_, rfl, _, _, _, _, _, _, rfl, x.same e, T.look i hi, .own _, T.kit i 1 hi (by decide), (by show 2 ≤ sizeLine; decide), fun t1 n1 => ?_⟩
    generalize hg1 : upd H0 t1 (.tup [.str "InvalidCursor", .bl (decide (i = 1))]) = H1
    have s1 : Same H0 H1 := by rw [← hg1]; exact same_upd (Same.refl _) n1
    have f1 : H1 t1 = some (.tup [.str (nm 1), .bl (decide (i = 1))]) := by rw [← hg1]; exact upd_same
    replace e := e.trans s1
    replace f0 := s1 _ _ f0
    refine ⟨(by show 2 ≤ sizeLine; decide), fun la0 ma0 => ?_⟩
    generalize hla0 : upd H1 la0 (.lst [.ref t0, .ref t1]) = Ga0
    have sla0 : Same H1 Ga0 := by rw [← hla0]; exact same_upd (Same.refl _) ma0
    have fla0 : Ga0 la0 = some (.lst [.ref t0, .ref t1]) := by rw [← hla0]; exact upd_same
    replace e := e.trans sla0
    replace f0 := sla0 _ _ f0
    replace f1 := sla0 _ _ f1
    refine ⟨_, rfl, ?_⟩
    refine ⟨_, rfl, _, _, _, _, _, _, rfl, x.same e, T.look i hi, .own _, T.kit i 2 hi (by decide), (by show 2 ≤ sizeLine; decide), fun t2 n2 => ?_⟩
    generalize hg2 : upd Ga0 t2 (.tup [.str "InvalidCommand", .bl (decide (i = 2))]) = H2
    have s2 : Same Ga0 H2 := by rw [← hg2]; exact same_upd (Same.refl _) n2
    have f2 : H2 t2 = some (.tup [.str (nm 2), .bl (decide (i = 2))]) := by rw [← hg2]; exact upd_same
    replace e := e.trans s2
    replace f0 := s2 _ _ f0
    replace f1 := s2 _ _ f1
    replace fla0 := s2 _ _ fla0
    refine ⟨_, rfl, _, _, _, _, _, _, rfl, x.same e, T.look i hi, .own _, T.kit i 3 hi (by decide), (by show 2 ≤ sizeLine; decide), fun t3 n3 => ?_⟩
    generalize hg3 : upd H2 t3 (.tup [.str "Impossible", .bl (decide (i = 3))]) = H3
    have s3 : Same H2 H3 := by rw [← hg3]; exact same_upd (Same.refl _) n3
    have f3 : H3 t3 = some (.tup [.str (nm 3), .bl (decide (i = 3))]) := by rw [← hg3]; exact upd_same
    replace e := e.trans s3
    replace f0 := s3 _ _ f0
    replace f1 := s3 _ _ f1
    replace fla0 := s3 _ _ fla0
    replace f2 := s3 _ _ f2
    refine ⟨(by show 2 ≤ sizeLine; decide), fun la1 ma1 => ?_⟩
    generalize hla1 : upd H3 la1 (.lst [.ref t2, .ref t3]) = Ga1
    have sla1 : Same H3 Ga1 := by rw [← hla1]; exact same_upd (Same.refl _) ma1
    have fla1 : Ga1 la1 = some (.lst [.ref t2, .ref t3]) := by rw [← hla1]; exact upd_same
    replace e := e.trans sla1
    replace f0 := sla1 _ _ f0
    replace f1 := sla1 _ _ f1
    replace fla0 := sla1 _ _ fla0
    replace f2 := sla1 _ _ f2
    replace f3 := sla1 _ _ f3
    refine ⟨_, _, _, _, rfl, rfl, fla0, fla1, (by show 4 ≤ sizeLine; decide), fun lb1 mb1 => ?_⟩
    generalize hb1 : upd Ga1 lb1 (.lst ([.ref t0, .ref t1] ++ [.ref t2, .ref t3])) = B1
    have sb1 : Same Ga1 B1 := by rw [← hb1]; exact same_upd (Same.refl _) mb1
    have fb1 : B1 lb1 = some (.lst [.ref t0, .ref t1, .ref t2, .ref t3]) := by rw [← hb1]; exact upd_same
    replace e := e.trans sb1
    replace f0 := sb1 _ _ f0
    replace f1 := sb1 _ _ f1
    replace fla0 := sb1 _ _ fla0
    replace f2 := sb1 _ _ f2
    replace f3 := sb1 _ _ f3
    replace fla1 := sb1 _ _ fla1
    refine ⟨_, rfl, ?_⟩
    refine ⟨_, rfl, _, _, _, _, _, _, rfl, x.same e, T.look i hi, .own _, T.kit i 4 hi (by decide), (by show 2 ≤ sizeLine; decide), fun t4 n4 => ?_⟩
    generalize hg4 : upd B1 t4 (.tup [.str "InvalidNumber", .bl (decide (i = 4))]) = H4
    have s4 : Same B1 H4 := by rw [← hg4]; exact same_upd (Same.refl _) n4
    have f4 : H4 t4 = some (.tup [.str (nm 4), .bl (decide (i = 4))]) := by rw [← hg4]; exact upd_same
    replace e := e.trans s4
    replace f0 := s4 _ _ f0
    replace f1 := s4 _ _ f1
    replace fla0 := s4 _ _ fla0
    replace f2 := s4 _ _ f2
    replace f3 := s4 _ _ f3
    replace fla1 := s4 _ _ fla1
    replace fb1 := s4 _ _ fb1
    refine ⟨_, rfl, _, _, _, _, _, _, rfl, x.same e, T.look i hi, .own _, T.kit i 5 hi (by decide), (by show 2 ≤ sizeLine; decide), fun t5 n5 => ?_⟩
    generalize hg5 : upd H4 t5 (.tup [.str "NothingToUndo", .bl (decide (i = 5))]) = H5
    have s5 : Same H4 H5 := by rw [← hg5]; exact same_upd (Same.refl _) n5
    have f5 : H5 t5 = some (.tup [.str (nm 5), .bl (decide (i = 5))]) := by rw [← hg5]; exact upd_same
    replace e := e.trans s5
    replace f0 := s5 _ _ f0
    replace f1 := s5 _ _ f1
    replace fla0 := s5 _ _ fla0
    replace f2 := s5 _ _ f2
    replace f3 := s5 _ _ f3
    replace fla1 := s5 _ _ fla1
    replace fb1 := s5 _ _ fb1
    replace f4 := s5 _ _ f4
    refine ⟨(by show 2 ≤ sizeLine; decide), fun la2 ma2 => ?_⟩
    generalize hla2 : upd H5 la2 (.lst [.ref t4, .ref t5]) = Ga2
    have sla2 : Same H5 Ga2 := by rw [← hla2]; exact same_upd (Same.refl _) ma2
    have fla2 : Ga2 la2 = some (.lst [.ref t4, .ref t5]) := by rw [← hla2]; exact upd_same
    replace e := e.trans sla2
    replace f0 := sla2 _ _ f0
    replace f1 := sla2 _ _ f1
    replace fla0 := sla2 _ _ fla0
    replace f2 := sla2 _ _ f2
    replace f3 := sla2 _ _ f3
    replace fla1 := sla2 _ _ fla1
    replace fb1 := sla2 _ _ fb1
    replace f4 := sla2 _ _ f4
    replace f5 := sla2 _ _ f5
    refine ⟨_, _, _, _, rfl, rfl, fb1, fla2, (by show 6 ≤ sizeLine; decide), fun lb2 mb2 => ?_⟩
    generalize hb2 : upd Ga2 lb2 (.lst ([.ref t0, .ref t1, .ref t2, .ref t3] ++ [.ref t4, .ref t5])) = B2
    have sb2 : Same Ga2 B2 := by rw [← hb2]; exact same_upd (Same.refl _) mb2
    have fb2 : B2 lb2 = some (.lst [.ref t0, .ref t1, .ref t2, .ref t3, .ref t4, .ref t5]) := by rw [← hb2]; exact upd_same
    replace e := e.trans sb2
    replace f0 := sb2 _ _ f0
    replace f1 := sb2 _ _ f1
    replace fla0 := sb2 _ _ fla0
    replace f2 := sb2 _ _ f2
    replace f3 := sb2 _ _ f3
    replace fla1 := sb2 _ _ fla1
    replace fb1 := sb2 _ _ fb1
    replace f4 := sb2 _ _ f4
    replace f5 := sb2 _ _ f5
    replace fla2 := sb2 _ _ fla2
    refine ⟨_, rfl, ?_⟩
    refine ⟨_, rfl, _, _, _, _, _, _, rfl, x.same e, T.look i hi, .own _, T.kit i 6 hi (by decide), (by show 2 ≤ sizeLine; decide), fun t6 n6 => ?_⟩
    generalize hg6 : upd B2 t6 (.tup [.str "Unreadable", .bl (decide (i = 6))]) = H6
    have s6 : Same B2 H6 := by rw [← hg6]; exact same_upd (Same.refl _) n6
    have f6 : H6 t6 = some (.tup [.str (nm 6), .bl (decide (i = 6))]) := by rw [← hg6]; exact upd_same
    replace e := e.trans s6
    replace f0 := s6 _ _ f0
    replace f1 := s6 _ _ f1
    replace fla0 := s6 _ _ fla0
    replace f2 := s6 _ _ f2
    replace f3 := s6 _ _ f3
    replace fla1 := s6 _ _ fla1
    replace fb1 := s6 _ _ fb1
    replace f4 := s6 _ _ f4
    replace f5 := s6 _ _ f5
    replace fla2 := s6 _ _ fla2
    replace fb2 := s6 _ _ fb2
    refine ⟨(by show 1 ≤ sizeLine; decide), fun la3 ma3 => ?_⟩
    generalize hla3 : upd H6 la3 (.lst [.ref t6]) = Ga3
    have sla3 : Same H6 Ga3 := by rw [← hla3]; exact same_upd (Same.refl _) ma3
    have fla3 : Ga3 la3 = some (.lst [.ref t6]) := by rw [← hla3]; exact upd_same
    replace e := e.trans sla3
    replace f0 := sla3 _ _ f0
    replace f1 := sla3 _ _ f1
    replace fla0 := sla3 _ _ fla0
    replace f2 := sla3 _ _ f2
    replace f3 := sla3 _ _ f3
    replace fla1 := sla3 _ _ fla1
    replace fb1 := sla3 _ _ fb1
    replace f4 := sla3 _ _ f4
    replace f5 := sla3 _ _ f5
    replace fla2 := sla3 _ _ fla2
    replace fb2 := sla3 _ _ fb2
    replace f6 := sla3 _ _ f6
    refine ⟨_, _, _, _, rfl, rfl, fb2, fla3, (by show 7 ≤ sizeLine; decide), fun lb3 mb3 => ?_⟩
    generalize hb3 : upd Ga3 lb3 (.lst ([.ref t0, .ref t1, .ref t2, .ref t3, .ref t4, .ref t5] ++ [.ref t6])) = B3
    have sb3 : Same Ga3 B3 := by rw [← hb3]; exact same_upd (Same.refl _) mb3
    have fb3 : B3 lb3 = some (.lst [.ref t0, .ref t1, .ref t2, .ref t3, .ref t4, .ref t5, .ref t6]) := by rw [← hb3]; exact upd_same
    replace e := e.trans sb3
    replace f0 := sb3 _ _ f0
    replace f1 := sb3 _ _ f1
    replace fla0 := sb3 _ _ fla0
    replace f2 := sb3 _ _ f2
    replace f3 := sb3 _ _ f3
    replace fla1 := sb3 _ _ fla1
    replace fb1 := sb3 _ _ fb1
    replace f4 := sb3 _ _ f4
    replace f5 := sb3 _ _ f5
    replace fla2 := sb3 _ _ fla2
    replace fb2 := sb3 _ _ fb2
    replace f6 := sb3 _ _ f6
    replace fla3 := sb3 _ _ fla3
    refine ⟨_, rfl, ⟨_, SqL.of fb3⟩, fun D hD => lc_list (K := K) (a := lb3) (xs := [.ref t0, .ref t1, .ref t2, .ref t3, .ref t4, .ref t5, .ref t6])
      (fun j H' => Same B3 H' ∧ H' D = some (.lst (if i < j then [V.str (nm i)] else [])))
      ⟨same_upd (Same.refl _) hD, upd_same⟩ (fun j H' _ h => h.1.seq (SqL.of fb3)) (fun j y H' hj h => ?_) (fun H' h => ?_)⟩
    · obtain ⟨e', eD⟩ := h
      match j, hj with
      | 0, hj =>
        obtain rfl : V.ref t0 = y := Option.some.inj hj
        refine ⟨t0, _, rfl, SqT.of (e' _ _ f0), rfl, _, _, rfl, _, _, rfl, rfl, rfl, _, rfl, _, rfl, ?_⟩
        refine ite2 (fun c => ?_) (fun c => ?_)
        · have c' : i = 0 := of_decide_eq_true c
          subst c'
          exact ⟨_, rfl, _, eD, by decide, fun b o hb => by rw [upd_ne (ne_of_none hb hD)]; exact e' b o hb, upd_same⟩
        · have c' : ¬ i = 0 := fun z => c (decide_eq_true z)
          refine ⟨e', ?_⟩
          rw [eD]
          by_cases l : i < 0
          · rw [if_pos l, if_pos (by omega)]
          · rw [if_neg l, if_neg (by omega)]
      | 1, hj =>
        obtain rfl : V.ref t1 = y := Option.some.inj hj
        refine ⟨t1, _, rfl, SqT.of (e' _ _ f1), rfl, _, _, rfl, _, _, rfl, rfl, rfl, _, rfl, _, rfl, ?_⟩
        refine ite2 (fun c => ?_) (fun c => ?_)
        · have c' : i = 1 := of_decide_eq_true c
          subst c'
          exact ⟨_, rfl, _, eD, by decide, fun b o hb => by rw [upd_ne (ne_of_none hb hD)]; exact e' b o hb, upd_same⟩
        · have c' : ¬ i = 1 := fun z => c (decide_eq_true z)
          refine ⟨e', ?_⟩
          rw [eD]
          by_cases l : i < 1
          · rw [if_pos l, if_pos (by omega)]
          · rw [if_neg l, if_neg (by omega)]
      | 2, hj =>
        obtain rfl : V.ref t2 = y := Option.some.inj hj
        refine ⟨t2, _, rfl, SqT.of (e' _ _ f2), rfl, _, _, rfl, _, _, rfl, rfl, rfl, _, rfl, _, rfl, ?_⟩
        refine ite2 (fun c => ?_) (fun c => ?_)
        · have c' : i = 2 := of_decide_eq_true c
          subst c'
          exact ⟨_, rfl, _, eD, by decide, fun b o hb => by rw [upd_ne (ne_of_none hb hD)]; exact e' b o hb, upd_same⟩
        · have c' : ¬ i = 2 := fun z => c (decide_eq_true z)
          refine ⟨e', ?_⟩
          rw [eD]
          by_cases l : i < 2
          · rw [if_pos l, if_pos (by omega)]
          · rw [if_neg l, if_neg (by omega)]
      | 3, hj =>
        obtain rfl : V.ref t3 = y := Option.some.inj hj
        refine ⟨t3, _, rfl, SqT.of (e' _ _ f3), rfl, _, _, rfl, _, _, rfl, rfl, rfl, _, rfl, _, rfl, ?_⟩
        refine ite2 (fun c => ?_) (fun c => ?_)
        · have c' : i = 3 := of_decide_eq_true c
          subst c'
          exact ⟨_, rfl, _, eD, by decide, fun b o hb => by rw [upd_ne (ne_of_none hb hD)]; exact e' b o hb, upd_same⟩
        · have c' : ¬ i = 3 := fun z => c (decide_eq_true z)
          refine ⟨e', ?_⟩
          rw [eD]
          by_cases l : i < 3
          · rw [if_pos l, if_pos (by omega)]
          · rw [if_neg l, if_neg (by omega)]
      | 4, hj =>
        obtain rfl : V.ref t4 = y := Option.some.inj hj
        refine ⟨t4, _, rfl, SqT.of (e' _ _ f4), rfl, _, _, rfl, _, _, rfl, rfl, rfl, _, rfl, _, rfl, ?_⟩
        refine ite2 (fun c => ?_) (fun c => ?_)
        · have c' : i = 4 := of_decide_eq_true c
          subst c'
          exact ⟨_, rfl, _, eD, by decide, fun b o hb => by rw [upd_ne (ne_of_none hb hD)]; exact e' b o hb, upd_same⟩
        · have c' : ¬ i = 4 := fun z => c (decide_eq_true z)
          refine ⟨e', ?_⟩
          rw [eD]
          by_cases l : i < 4
          · rw [if_pos l, if_pos (by omega)]
          · rw [if_neg l, if_neg (by omega)]
      | 5, hj =>
        obtain rfl : V.ref t5 = y := Option.some.inj hj
        refine ⟨t5, _, rfl, SqT.of (e' _ _ f5), rfl, _, _, rfl, _, _, rfl, rfl, rfl, _, rfl, _, rfl, ?_⟩
        refine ite2 (fun c => ?_) (fun c => ?_)
        · have c' : i = 5 := of_decide_eq_true c
          subst c'
          exact ⟨_, rfl, _, eD, by decide, fun b o hb => by rw [upd_ne (ne_of_none hb hD)]; exact e' b o hb, upd_same⟩
        · have c' : ¬ i = 5 := fun z => c (decide_eq_true z)
          refine ⟨e', ?_⟩
          rw [eD]
          by_cases l : i < 5
          · rw [if_pos l, if_pos (by omega)]
          · rw [if_neg l, if_neg (by omega)]
      | 6, hj =>
        obtain rfl : V.ref t6 = y := Option.some.inj hj
        refine ⟨t6, _, rfl, SqT.of (e' _ _ f6), rfl, _, _, rfl, _, _, rfl, rfl, rfl, _, rfl, _, rfl, ?_⟩
        refine ite2 (fun c => ?_) (fun c => ?_)
        · have c' : i = 6 := of_decide_eq_true c
          subst c'
          exact ⟨_, rfl, _, eD, by decide, fun b o hb => by rw [upd_ne (ne_of_none hb hD)]; exact e' b o hb, upd_same⟩
        · have c' : ¬ i = 6 := fun z => c (decide_eq_true z)
          refine ⟨e', ?_⟩
          rw [eD]
          by_cases l : i < 6
          · rw [if_pos l, if_pos (by omega)]
          · rw [if_neg l, if_neg (by omega)]
      | n + 7, hj => cases hj
    · obtain ⟨e', eD⟩ := h
      rw [if_pos (show i < [V.ref t0, .ref t1, .ref t2, .ref t3, .ref t4, .ref t5, .ref t6].length from hi)] at eD
      replace e := e.trans e'
      refine ⟨_, rfl, _, rfl, a, _, _, _, rfl, x.same e, T.look i hi, T.no i hi, rfl, ?_⟩
      refine ⟨_, rfl, _, _, _, _, _, _, rfl, x.same e, T.look i hi, .own _, T.kitE i hi, _, rfl, iteT ?_⟩
      refine ⟨_, rfl, _, _, _, _, _, _, rfl, x.same e, T.look i hi, .ty _, T.kitV i hi, ?_⟩
      refine ⟨(by show 2 ≤ sizeLine; decide), fun p hp => ?_⟩
      refine ⟨D, p, _, _, rfl, rfl, (by rw [upd_ne (ne_of_none eD hp)]; exact eD), upd_same, (by show 3 ≤ sizeLine; decide), fun q hq => ?_⟩
      exact k q _ (same_upd (same_upd e hp) hq) upd_same
end
end Gc

namespace Gc
open PySem L2
structure TxtL (mg : Str → Option Value) : Prop where
  range : mg "range" = none
  min : mg "min" = none
  len : mg "len" = none
def spLaw (K : PySem.W.Frag) : Sp := fun vs H Q _ => ∃ (a : Addr) (ns : List Int), vs = [.ref a] ∧ SqL K H a (ns.map V.int) ∧ ns.length ≤ 63 ∧ ∀ H', Q (.bl true) H'
def nmL : List V := [.str "InvalidText", .str "InvalidCursor", .str "InvalidCommand", .str "Impossible", .str "InvalidNumber", .str "NothingToUndo", .str "Unreadable"]
theorem nmL_at : ∀ i, i < 7 → nmL[i]? = some (.str (nm i))
  | 0, _ => rfl
  | 1, _ => rfl
  | 2, _ => rfl
  | 3, _ => rfl
  | 4, _ => rfl
  | 5, _ => rfl
  | 6, _ => rfl
  | n + 7, h => absurd h (by omega)
theorem log9 {x : Int} {a : Nat} (h : x.natAbs < 2 ^ a) (ha : a < 9000) : x.natAbs.log2 < 9000 :=
  Nat.lt_of_le_of_lt (Nat.le_of_lt_succ (PySem.Flt.log2_lt_of (k := a + 1) (Nat.succ_pos _) (Nat.lt_trans h (Nat.pow_lt_pow_right (by decide) (Nat.lt_succ_self a))))) ha
theorem src_same {H H' : Hp} {a d : Addr} {n : Nat} (e : Same H H') (h : Src H a d n) : Src H' a d n := by
  obtain ⟨ds, cur, mix, cnt, h1, h2, h3⟩ := h
  exact ⟨ds, cur, mix, cnt, e _ _ h1, e _ _ h2, h3⟩
section
variable {P : Program} {w : World} {K : PySem.W.Frag} {mg : Str → Option Value} {base : Heap} {cs : Nat → Addr} {CE : Addr}
theorem sc_law : FnScope ["script", "source", "names", "k", "far", "what", "door", "by_name"] ["script"] (defScope sLaw) := ⟨rfl, rfl, rfl, by decide +kernel, rfl, by decide +kernel, by decide +kernel⟩
theorem ok_law {f : Addr} {fd : FuncData} (F : Fun K "law" "law" sLaw f fd) (T : TxtL mg) (cSrc : Cal P w K mg base 1 "_law_source" (spSource K)) (cDraw : Cal P w K mg base 1 "_law_draw" spDraw)
    (cMade : Cal P w K mg base 3 "_law_made" (spMade cs)) (cErr : Cal P w K mg base 1 "_law_error" (spError cs)) (cSame : Cal P w K mg base 4 "_law_same" (spSame K 3)) : FnOk P w K mg base CX0 5 f fd ["script"] (spLaw K) := by
  refine F.ok sc_law (fun vs H Q E h => ?_) (fun cdv A outer s H vs Q E hr h => ?_)
  · obtain ⟨a, ns, rfl, _⟩ := h
    rfl
  · obtain ⟨a, ns, rfl, hS, hlen, k⟩ := h
    refine ⟨_, (pss_cons (ps_set (i := 1) sc_law.nd rfl (Or.inl rfl) (pe_cal cSrc hr (by decide) (by rfl) (pa_cons (pv 0) pa_nil)))
      (pss_cons (ps_set (i := 2) sc_law.nd rfl (Or.inl rfl) (pe_lst (pa_cons pe_str (pa_cons pe_str (pa_cons pe_str (pa_cons pe_str (pa_cons pe_str (pa_cons pe_str pa_nil))))))))
      (pss_cons (ps_expr (pe_bm PySem.F.plainAttrs_list PySem.F.slot_list_append PySem.F.type_list_append mt_append (pv 2) (pa_cons pe_str pa_nil)))
      (pss_cons (ps_for PassesOwn.never rfl (pi_range1 rfl T.range (pa_cons (pe_op op_add pe_int (pe_callB (call_min2 rfl) (by rfl) T.min (by decide +kernel) (pa_cons pe_int (pa_cons (pe_callB call_len_seq (by rfl) T.len (by decide +kernel) (pa_cons (pv 0) pa_nil)) pa_nil)))) pa_nil)) (pg_name (i := 3) sc_law.nd rfl (Or.inl rfl)) (pss_cons (ps_set (i := 4) sc_law.nd rfl (Or.inl rfl) (pe_cal cDraw hr (by decide) (by rfl) (pa_cons (pv 1) (pa_cons (pe_op op_pow pe_int pe_int) pa_nil))))
      (pss_one (ps_for PassesOwn.never rfl (pi_list (pe_lst (pa_cons pe_int (pa_cons (pv 4) (pa_cons (pe_op op_sub pe_int (pv 4)) (pa_cons pe_non (pa_cons pe_str (pa_cons pe_str (pa_cons (pe_tup (pa_cons (pv 4) (pa_cons pe_non pa_nil))) (pa_cons (pe_lst (pa_cons (pv 4) pa_nil)) pa_nil)))))))))) (pg_name (i := 5) sc_law.nd rfl (Or.inl rfl)) (pss_one (ps_for PassesOwn.never rfl (pi_range1 rfl T.range (pa_cons pe_int pa_nil)) (pg_name (i := 6) sc_law.nd rfl (Or.inl rfl)) (pss_one (ps_for PassesOwn.never rfl (pi_list (pe_lst (pa_cons pe_bl (pa_cons pe_bl pa_nil)))) (pg_name (i := 7) sc_law.nd rfl (Or.inl rfl)) (pss_one (ps_if (pt_not (pt_val (pe_cal cSame hr (by decide) (by rfl) (pa_cons (pe_cal cErr hr (by decide) (by rfl) (pa_cons (pe_cal cMade hr (by decide) (by rfl) (pa_cons (pv 6) (pa_cons (pv 5) (pa_cons (pv 7) pa_nil)))) pa_nil)) (pa_cons (pe_lst (pa_cons (pe_ix ix_list (pv 2) (pv 6) (fun _ _ => rfl)) (pa_cons (pv 5) (pa_cons pe_bl pa_nil)))) pa_nil))))) (pss_one (ps_ret pe_bl)) pss_nil))))))))))
      (pss_one (ps_ret pe_bl)))))), ?_⟩
    -- source = _law_source(script)
    refine ⟨_, rfl, a, ns, rfl, hS, hlen, fun H1 p d e1 np nd src => ?_⟩
    -- names = [..]; names.append('Unreadable')
    refine ⟨(by show 6 ≤ sizeLine; decide), fun l hl => ?_⟩
    have nlp : l ≠ p := fun z => by
      obtain ⟨_, _, _, _, h1, _⟩ := src
      rw [z, h1] at hl
      cases hl
    have nld : l ≠ d := fun z => by
      obtain ⟨_, _, _, _, _, h1, _⟩ := src
      rw [z, h1] at hl
      cases hl
    refine ⟨_, rfl, .inl ⟨rfl, _, SqL.of upd_same⟩, l, _, _, rfl, rfl, upd_same, (by show 6 < sizeLine; decide), ?_⟩
    rw [upd_upd]
    -- for k in range(3 + min(8, len(script)))
    refine ⟨_, rfl, a, _, rfl, .inl ((same_upd e1 hl).seq hS), _, _, rfl, _, _, rfl, rfl, _, rfl, ?_, ?_, ?_⟩
    · omega
    · omega
    refine for_range (lo := 0) (fun i σ H' => ∃ v3 v4 v5 v6 v7 : Option V, σ = [some (.ref a), some (.ref p), some (.ref l), v3, v4, v5, v6, v7] ∧ Src H' p d i ∧ H' l = some (.lst nmL))
      ⟨none, none, none, none, none, rfl, src_same (same_upd (Same.refl H1) hl) src, upd_same⟩ (fun i σ H2 hi h => ?_) (fun σ H2 h => ?_)
    · obtain ⟨v3, v4, v5, v6, v7, rfl, src2, hN⟩ := h
      have hi' : i < 2 ^ 40 := by
        rw [List.length_map] at hi
        omega
      -- far = _law_draw(source, 10 ** 30)
      refine ⟨_, rfl, _, _, rfl, rfl, cpow (by decide), p, d, i, _, rfl, src2, hi', by decide, log9 (a := 100) (by decide) (by decide), fun H3 r kp src3 r0 r1 => ?_⟩
      have hN3 : H3 l = some (.lst nmL) := kp _ _ nlp nld hN
      -- for what in [0, far, 0 - far, None, '', '1D H', (far, None), [far]]
      refine ⟨_, rfl, _, rfl, _, _, rfl, rfl, _, rfl, (by show 2 ≤ sizeLine; decide), fun tp hp => ?_⟩
      generalize g4 : upd H3 tp (.tup [.int r, .non]) = H4
      have e4 : Same H3 H4 := by rw [← g4]; exact same_upd (Same.refl _) hp
      have f4 : H4 tp = some (.tup [.int r, .non]) := by rw [← g4]; exact upd_same
      refine ⟨_, rfl, (by show 1 ≤ sizeLine; decide), fun lp hlp => ?_⟩
      generalize g5 : upd H4 lp (.lst [.int r]) = H5
      have e5 : Same H4 H5 := by rw [← g5]; exact same_upd (Same.refl _) hlp
      have f5 : H5 lp = some (.lst [.int r]) := by rw [← g5]; exact upd_same
      refine ⟨(by show 8 ≤ sizeLine; decide), fun L hL => ?_⟩
      generalize g6 : upd H5 L (.lst [.int 0, .int r, .int (0 - r), .non, .str "", .str "1D H", .ref tp, .ref lp]) = H6
      have e6 : Same H5 H6 := by rw [← g6]; exact same_upd (Same.refl _) hL
      have f6 : H6 L = some (.lst [.int 0, .int r, .int (0 - r), .non, .str "", .str "1D H", .ref tp, .ref lp]) := by rw [← g6]; exact upd_same
      have e36 : Same H3 H6 := (e4.trans e5).trans e6
      have hN6 := e36 _ _ hN3
      have dat : ∀ (j : Nat) (y : V), [V.int 0, .int r, .int (0 - r), .non, .str "", .str "1D H", .ref tp, .ref lp][j]? = some y → ∃ dy, Dp K H6 y dy ∧ dy.depth ≤ 1 ∧ wid dy ≤ 2 := by
        intro j y hj
        match j, hj with
        | 0, hj => obtain rfl := Option.some.inj hj; exact ⟨_, .int _, by decide, by decide⟩
        | 1, hj => obtain rfl := Option.some.inj hj; exact ⟨_, .int _, Nat.zero_le _, Nat.zero_le _⟩
        | 2, hj => obtain rfl := Option.some.inj hj; exact ⟨_, .int _, Nat.zero_le _, Nat.zero_le _⟩
        | 3, hj => obtain rfl := Option.some.inj hj; exact ⟨_, .non, by decide, by decide⟩
        | 4, hj => obtain rfl := Option.some.inj hj; exact ⟨_, .str _, Nat.zero_le _, Nat.zero_le _⟩
        | 5, hj => obtain rfl := Option.some.inj hj; exact ⟨_, .str _, Nat.zero_le _, Nat.zero_le _⟩
        | 6, hj =>
          obtain rfl := Option.some.inj hj
          exact ⟨.tuple [.int r, .none], .tup (SqT.of ((e5.trans e6) _ _ f4)) (.cons (.int r) (.cons .non .nil)), by simp [PyData.depth, PyData.depthAll], by simp [wid, widAll]⟩
        | 7, hj =>
          obtain rfl := Option.some.inj hj
          exact ⟨.list [.int r], .lst (SqL.of (e6 _ _ f5)) (.cons (.int r) .nil), by simp [PyData.depth, PyData.depthAll], by simp [wid, widAll]⟩
        | n + 8, hj => cases hj
      refine ⟨_, rfl, ⟨_, SqL.of f6⟩, for_list (K := K) (a := L) (xs := [.int 0, .int r, .int (0 - r), .non, .str "", .str "1D H", .ref tp, .ref lp])
        (fun j σ H' => ∃ v5 v6 v7 : Option V, σ = [some (.ref a), some (.ref p), some (.ref l), some (.int (0 + (i : Int))), some (.int r), v5, v6, v7] ∧ Same H6 H')
        ⟨v5, v6, v7, rfl, Same.refl H6⟩ (fun j σ H' _ ⟨_, _, _, _, e⟩ => e.seq (SqL.of f6)) (fun j y σ H7 hj h => ?_) (fun σ H7 h => ?_)⟩
      · obtain ⟨w5, w6, w7, rfl, e7⟩ := h
        obtain ⟨dy, dy1, dy2, dy3⟩ := dat j y hj
        -- for door in range(7)
        refine ⟨_, rfl, by decide, by decide, for_range (lo := 0) (n := 7)
          (fun m σ H' => ∃ v6 v7 : Option V, σ = [some (.ref a), some (.ref p), some (.ref l), some (.int (0 + (i : Int))), some (.int r), some y, v6, v7] ∧ Same H6 H')
          ⟨w6, w7, rfl, e7⟩ (fun m σ H8 hm h => ?_) (fun σ H8 h => ?_)⟩
        · obtain ⟨x6, x7, rfl, e8⟩ := h
          -- for by_name in [False, True]
          refine ⟨(by show 2 ≤ sizeLine; decide), fun B hB => ?_⟩
          generalize g9 : upd H8 B (.lst [.bl false, .bl true]) = H9
          have e9 : Same H8 H9 := by rw [← g9]; exact same_upd (Same.refl _) hB
          have f9 : H9 B = some (.lst [.bl false, .bl true]) := by rw [← g9]; exact upd_same
          refine ⟨_, rfl, ⟨_, SqL.of f9⟩, for_list (K := K) (a := B) (xs := [.bl false, .bl true])
            (fun q σ H' => ∃ v7 : Option V, σ = [some (.ref a), some (.ref p), some (.ref l), some (.int (0 + (i : Int))), some (.int r), some y, some (.int (0 + (m : Int))), v7] ∧ Same H9 H')
            ⟨x7, rfl, Same.refl H9⟩ (fun q σ H' _ ⟨_, _, e⟩ => e.seq (SqL.of f9)) (fun q z σ H10 hq h => ?_) (fun σ H10 h => ?_)⟩
          · obtain ⟨y7, rfl, e10⟩ := h
            have e610 : Same H6 H10 := (e8.trans e9).trans e10
            obtain ⟨b, rfl⟩ : ∃ b, z = V.bl b := by
              match q, hq with
              | 0, hq => exact ⟨false, (Option.some.inj hq).symm⟩
              | 1, hq => exact ⟨true, (Option.some.inj hq).symm⟩
              | n + 2, hq => cases hq
            refine ⟨_, rfl, _, rfl, _, rfl, m, y, b, (by show [V.int (0 + (m : Int)), y, V.bl b] = _; rw [Int.zero_add]), hm, fun ex H11 hex e11 hx => ?_⟩
            refine ⟨ex, m, y, rfl, hm, hx, fun q1 H12 e12 h12 => ?_⟩
            have e612 : Same H6 H12 := (e610.trans e11).trans e12
            refine ⟨_, rfl, _, rfl, l, _, _, _, rfl, rfl, SqL.of (e612 _ _ hN6), at_of (j := m) (Int.zero_add _) (nmL_at m hm), _, rfl, (by show 3 ≤ sizeLine; decide), fun q2 h2 => ?_⟩
            generalize g13 : upd H12 q2 (.lst [.str (nm m), y, .bl true]) = H13
            have e13 : Same H12 H13 := by rw [← g13]; exact same_upd (Same.refl _) h2
            have f13 : H13 q2 = some (.lst [.str (nm m), y, .bl true]) := by rw [← g13]; exact upd_same
            have dyy : Dp K H13 y dy := dp_same (e612.trans e13) _ _ dy1
            refine ⟨.ref q1, .ref q2, .list [.str (nm m), dy, .bool true], rfl, .lst (SqL.of (e13 _ _ h12)) (.cons (.str _) (.cons dyy (.cons (.bl true) .nil))), .lst (SqL.of f13) (.cons (.str _) (.cons dyy (.cons (.bl true) .nil))), ?_, ?_, fun H14 e14 => ⟨_, rfl, iteF ?_⟩⟩
            · simp only [PyData.depth, PyData.depthAll]
              omega
            · simp only [wid, widAll, List.length_cons, List.length_nil]
              omega
            · exact ⟨_, rfl, (((e10.trans e11).trans e12).trans e13).trans e14⟩
          · obtain ⟨y7, rfl, e10⟩ := h
            exact ⟨_, _, rfl, (e8.trans e9).trans e10⟩
        · obtain ⟨x6, x7, rfl, e8⟩ := h
          exact ⟨_, _, _, rfl, e8⟩
      · obtain ⟨w5, w6, w7, rfl, e7⟩ := h
        exact ⟨_, _, _, _, _, rfl, src_same (e36.trans e7) src3, e7 _ _ hN6⟩
    · obtain ⟨v3, v4, v5, v6, v7, rfl, _, _⟩ := h
      exact k H2
end
end Gc

namespace Gc
open PySem L2
theorem kit_own {K : PySem.W.Frag} {C D : Addr} {b : Bool} (h1 : PySem.W.isClsIn K D = true) (h2 : PySem.W.typeIn K (.ref D) = some (.type "type"))
    (h3 : PySem.W.subIn K (.ref C) (.ref D) = some b) (hr : PySem.W.subIn K (.ref C) (.ref C) = some true) : PySem.W.kitOne K (.ref C) (.ref D) = some b := by
  unfold PySem.W.kitOne
  split
  · rename_i e
    have z : C = D := Value.ref.inj (beq_iff_eq.mp e)
    subst z
    exact hr.symm.trans h3
  · show (if ((PySem.W.clsIn K D).isSome && PySem.W.typeIn K (.ref D) == some (.type "type")) = true then PySem.W.subIn K (.ref C) (.ref D) else none) = some b
    have h1' : (PySem.W.clsIn K D).isSome = true := h1
    rw [h1', h2]
    exact h3
theorem kit_bl {K : PySem.W.Frag} {C : Addr} {T : String} {b : Bool} (hm : PySem.W.kitMeta T = true) (h : PySem.W.subIn K (.ref C) (.type T) = some b) : PySem.W.kitOne K (.ref C) (.type T) = some b := by
  unfold PySem.W.kitOne
  rw [if_neg (by intro e; cases beq_iff_eq.mp e)]
  show (if PySem.W.kitMeta T = true then PySem.W.subIn K (.ref C) (.type T) else none) = some b
  rw [if_pos hm]
  exact h
theorem all_mk {l : PySem.W.OpenLaw} {w : World} {K : PySem.W.Frag} {h : Heap} {mg : Str → Option Value} {fa : Addr} (X : K.In h) (G : h.Ns mainGlobals mg) (hfa : mg "law" = some (.ref fa))
    {CE : Addr}
    {C0 f0 N0 : Addr} {nm0 q0 : Str} {bs0 : List Value} {sn0 : List Str} {sub0 : List Value} {ab0 : Bool} {col0 : Option Bool} {dd0 : Option Addr} {p0_0 p0_1 p0_2 p0_3 p0_5 : Option Value}
    {oc0 kV0 dc0 pm0 cd0 ct0 : Value} {od0 an0 : Option Addr} {sl0 : Array (Option Value)}
    {C1 f1 N1 : Addr} {nm1 q1 : Str} {bs1 : List Value} {sn1 : List Str} {sub1 : List Value} {ab1 : Bool} {col1 : Option Bool} {dd1 : Option Addr} {p1_0 p1_1 p1_2 p1_3 p1_5 : Option Value}
    {oc1 kV1 dc1 pm1 cd1 ct1 : Value} {od1 an1 : Option Addr} {sl1 : Array (Option Value)}
    {C2 f2 N2 : Addr} {nm2 q2 : Str} {bs2 : List Value} {sn2 : List Str} {sub2 : List Value} {ab2 : Bool} {col2 : Option Bool} {dd2 : Option Addr} {p2_0 p2_1 p2_2 p2_3 p2_5 : Option Value}
    {oc2 kV2 dc2 pm2 cd2 ct2 : Value} {od2 an2 : Option Addr} {sl2 : Array (Option Value)}
    {C3 f3 N3 : Addr} {nm3 q3 : Str} {bs3 : List Value} {sn3 : List Str} {sub3 : List Value} {ab3 : Bool} {col3 : Option Bool} {dd3 : Option Addr} {p3_0 p3_1 p3_2 p3_3 p3_5 : Option Value}
    {oc3 kV3 dc3 pm3 cd3 ct3 : Value} {od3 an3 : Option Addr} {sl3 : Array (Option Value)}
    {C4 f4 N4 : Addr} {nm4 q4 : Str} {bs4 : List Value} {sn4 : List Str} {sub4 : List Value} {ab4 : Bool} {col4 : Option Bool} {dd4 : Option Addr} {p4_0 p4_1 p4_2 p4_3 p4_5 : Option Value}
    {oc4 kV4 dc4 pm4 cd4 ct4 : Value} {od4 an4 : Option Addr} {sl4 : Array (Option Value)}
    {C5 f5 N5 : Addr} {nm5 q5 : Str} {bs5 : List Value} {sn5 : List Str} {sub5 : List Value} {ab5 : Bool} {col5 : Option Bool} {dd5 : Option Addr} {p5_0 p5_1 p5_2 p5_3 p5_5 : Option Value}
    {oc5 kV5 dc5 pm5 cd5 ct5 : Value} {od5 an5 : Option Addr} {sl5 : Array (Option Value)}
    {C6 f6 N6 : Addr} {nm6 q6 : Str} {bs6 : List Value} {sn6 : List Str} {sub6 : List Value} {ab6 : Bool} {col6 : Option Bool} {dd6 : Option Addr} {p6_0 p6_1 p6_2 p6_3 p6_5 : Option Value}
    {oc6 kV6 dc6 pm6 cd6 ct6 : Value} {od6 an6 : Option Addr} {sl6 : Array (Option Value)}
    {f_src : Addr} {oc_src kV_src dc_src pm_src cd_src ct_src : Value} {od_src an_src : Option Addr} {sl_src : Array (Option Value)}
    {f_draw : Addr} {oc_draw kV_draw dc_draw pm_draw cd_draw ct_draw : Value} {od_draw an_draw : Option Addr} {sl_draw : Array (Option Value)}
    {f_same : Addr} {oc_same kV_same dc_same pm_same cd_same ct_same : Value} {od_same an_same : Option Addr} {sl_same : Array (Option Value)}
    {f_err : Addr} {oc_err kV_err dc_err pm_err cd_err ct_err : Value} {od_err an_err : Option Addr} {sl_err : Array (Option Value)}
    {f_made : Addr} {oc_made kV_made dc_made pm_made cd_made ct_made : Value} {od_made an_made : Option Addr} {sl_made : Array (Option Value)}
    {f_law : Addr} {oc_law kV_law dc_law pm_law cd_law ct_law : Value} {od_law an_law : Option Addr} {sl_law : Array (Option Value)}
    (aE : PySem.W.nsIn K mainGlobals "CursorError" = some (some (.ref CE)))
    (iE : PySem.W.isClsIn K CE = true)
    (yE : PySem.W.typeIn K (.ref CE) = some (.type "type"))
    (gt : PySem.W.specialIn K (.builtin "object.__class__") "__get__" = some (some (.builtin "getset_descriptor.__get__")))
    (tk : PySem.W.takesIn K (.builtin "object.__class__") = some true)
    (a0 : PySem.W.nsIn K mainGlobals "InvalidText" = some (some (.ref C0)))
    (x0 : K.lookup C0 = some (excClassObj nm0 q0 C0 N0 bs0 [.ref CE, .type "ValueError", .type "Exception", .type "BaseException", .type "object"] true sn0 sub0 ab0 col0 dd0 p0_0 p0_1 p0_2 p0_3 p0_5 "ValueError.__new__"))
    (sa0 : PySem.W.findIn K (.ref C0) "__setattr__" = some (some (.builtin "object.__setattr__")))
    (ga0 : PySem.W.findIn K (.ref C0) "__getattribute__" = some (some (.builtin "BaseException.__getattribute__")))
    (gg0 : PySem.W.findIn K (.ref C0) "__getattr__" = some none)
    (no0 : PySem.W.findIn K (.ref C0) "value" = some none)
    (cc0 : PySem.W.findIn K (.ref C0) "__class__" = some (some (.builtin "object.__class__")))
    (in0 : PySem.W.findIn K (.ref C0) "__init__" = some (some (.ref f0)))
    (ti0 : PySem.W.typeIn K (.ref f0) = some (.type "function"))
    (l0 : K.lookup f0 = some ⟨oc0, od0, .func (PySem.W.fnOf "__init__" "InvalidText.__init__" (defArgs sI0) (defBody sI0) (defScope sI0) .none kV0 dc0 pm0 an0 cd0 ct0), sl0⟩)
    (c0 : PySem.W.codeIn K cd0 "InvalidText.__init__" = true)
    (k0 : PySem.W.keepIn K (.ref f0) = true)
    (kc0 : PySem.W.keepIn K (.ref C0) = true)
    (be0 : PySem.W.subIn K (.ref C0) (.type "BaseException") = some true)
    (ve0 : PySem.W.subIn K (.ref C0) (.type "ValueError") = some true)
    (ty0 : PySem.W.typeIn K (.ref C0) = some (.type "type"))
    (hd0 : PySem.W.hasDictIn K C0 = true)
    (ic0 : PySem.W.isClsIn K C0 = true)
    (mo0 : PySem.W.mroIn K C0 (.type "object") = some true)
    (se0 : PySem.W.subIn K (.ref C0) (.ref CE) = some true)
    (a1 : PySem.W.nsIn K mainGlobals "InvalidCursor" = some (some (.ref C1)))
    (x1 : K.lookup C1 = some (excClassObj nm1 q1 C1 N1 bs1 [.ref CE, .type "ValueError", .type "Exception", .type "BaseException", .type "object"] true sn1 sub1 ab1 col1 dd1 p1_0 p1_1 p1_2 p1_3 p1_5 "ValueError.__new__"))
    (sa1 : PySem.W.findIn K (.ref C1) "__setattr__" = some (some (.builtin "object.__setattr__")))
    (ga1 : PySem.W.findIn K (.ref C1) "__getattribute__" = some (some (.builtin "BaseException.__getattribute__")))
    (gg1 : PySem.W.findIn K (.ref C1) "__getattr__" = some none)
    (no1 : PySem.W.findIn K (.ref C1) "value" = some none)
    (cc1 : PySem.W.findIn K (.ref C1) "__class__" = some (some (.builtin "object.__class__")))
    (in1 : PySem.W.findIn K (.ref C1) "__init__" = some (some (.ref f1)))
    (ti1 : PySem.W.typeIn K (.ref f1) = some (.type "function"))
    (l1 : K.lookup f1 = some ⟨oc1, od1, .func (PySem.W.fnOf "__init__" "InvalidCursor.__init__" (defArgs sI1) (defBody sI1) (defScope sI1) .none kV1 dc1 pm1 an1 cd1 ct1), sl1⟩)
    (c1 : PySem.W.codeIn K cd1 "InvalidCursor.__init__" = true)
    (k1 : PySem.W.keepIn K (.ref f1) = true)
    (kc1 : PySem.W.keepIn K (.ref C1) = true)
    (be1 : PySem.W.subIn K (.ref C1) (.type "BaseException") = some true)
    (ve1 : PySem.W.subIn K (.ref C1) (.type "ValueError") = some true)
    (ty1 : PySem.W.typeIn K (.ref C1) = some (.type "type"))
    (hd1 : PySem.W.hasDictIn K C1 = true)
    (ic1 : PySem.W.isClsIn K C1 = true)
    (mo1 : PySem.W.mroIn K C1 (.type "object") = some true)
    (se1 : PySem.W.subIn K (.ref C1) (.ref CE) = some true)
    (a2 : PySem.W.nsIn K mainGlobals "InvalidCommand" = some (some (.ref C2)))
    (x2 : K.lookup C2 = some (excClassObj nm2 q2 C2 N2 bs2 [.ref CE, .type "ValueError", .type "Exception", .type "BaseException", .type "object"] true sn2 sub2 ab2 col2 dd2 p2_0 p2_1 p2_2 p2_3 p2_5 "ValueError.__new__"))
    (sa2 : PySem.W.findIn K (.ref C2) "__setattr__" = some (some (.builtin "object.__setattr__")))
    (ga2 : PySem.W.findIn K (.ref C2) "__getattribute__" = some (some (.builtin "BaseException.__getattribute__")))
    (gg2 : PySem.W.findIn K (.ref C2) "__getattr__" = some none)
    (no2 : PySem.W.findIn K (.ref C2) "value" = some none)
    (cc2 : PySem.W.findIn K (.ref C2) "__class__" = some (some (.builtin "object.__class__")))
    (in2 : PySem.W.findIn K (.ref C2) "__init__" = some (some (.ref f2)))
    (ti2 : PySem.W.typeIn K (.ref f2) = some (.type "function"))
    (l2 : K.lookup f2 = some ⟨oc2, od2, .func (PySem.W.fnOf "__init__" "InvalidCommand.__init__" (defArgs sI2) (defBody sI2) (defScope sI2) .none kV2 dc2 pm2 an2 cd2 ct2), sl2⟩)
    (c2 : PySem.W.codeIn K cd2 "InvalidCommand.__init__" = true)
    (k2 : PySem.W.keepIn K (.ref f2) = true)
    (kc2 : PySem.W.keepIn K (.ref C2) = true)
    (be2 : PySem.W.subIn K (.ref C2) (.type "BaseException") = some true)
    (ve2 : PySem.W.subIn K (.ref C2) (.type "ValueError") = some true)
    (ty2 : PySem.W.typeIn K (.ref C2) = some (.type "type"))
    (hd2 : PySem.W.hasDictIn K C2 = true)
    (ic2 : PySem.W.isClsIn K C2 = true)
    (mo2 : PySem.W.mroIn K C2 (.type "object") = some true)
    (se2 : PySem.W.subIn K (.ref C2) (.ref CE) = some true)
    (a3 : PySem.W.nsIn K mainGlobals "Impossible" = some (some (.ref C3)))
    (x3 : K.lookup C3 = some (excClassObj nm3 q3 C3 N3 bs3 [.ref CE, .type "ValueError", .type "Exception", .type "BaseException", .type "object"] true sn3 sub3 ab3 col3 dd3 p3_0 p3_1 p3_2 p3_3 p3_5 "ValueError.__new__"))
    (sa3 : PySem.W.findIn K (.ref C3) "__setattr__" = some (some (.builtin "object.__setattr__")))
    (ga3 : PySem.W.findIn K (.ref C3) "__getattribute__" = some (some (.builtin "BaseException.__getattribute__")))
    (gg3 : PySem.W.findIn K (.ref C3) "__getattr__" = some none)
    (no3 : PySem.W.findIn K (.ref C3) "value" = some none)
    (cc3 : PySem.W.findIn K (.ref C3) "__class__" = some (some (.builtin "object.__class__")))
    (in3 : PySem.W.findIn K (.ref C3) "__init__" = some (some (.ref f3)))
    (ti3 : PySem.W.typeIn K (.ref f3) = some (.type "function"))
    (l3 : K.lookup f3 = some ⟨oc3, od3, .func (PySem.W.fnOf "__init__" "Impossible.__init__" (defArgs sI3) (defBody sI3) (defScope sI3) .none kV3 dc3 pm3 an3 cd3 ct3), sl3⟩)
    (c3 : PySem.W.codeIn K cd3 "Impossible.__init__" = true)
    (k3 : PySem.W.keepIn K (.ref f3) = true)
    (kc3 : PySem.W.keepIn K (.ref C3) = true)
    (be3 : PySem.W.subIn K (.ref C3) (.type "BaseException") = some true)
    (ve3 : PySem.W.subIn K (.ref C3) (.type "ValueError") = some true)
    (ty3 : PySem.W.typeIn K (.ref C3) = some (.type "type"))
    (hd3 : PySem.W.hasDictIn K C3 = true)
    (ic3 : PySem.W.isClsIn K C3 = true)
    (mo3 : PySem.W.mroIn K C3 (.type "object") = some true)
    (se3 : PySem.W.subIn K (.ref C3) (.ref CE) = some true)
    (a4 : PySem.W.nsIn K mainGlobals "InvalidNumber" = some (some (.ref C4)))
    (x4 : K.lookup C4 = some (excClassObj nm4 q4 C4 N4 bs4 [.ref CE, .type "ValueError", .type "Exception", .type "BaseException", .type "object"] true sn4 sub4 ab4 col4 dd4 p4_0 p4_1 p4_2 p4_3 p4_5 "ValueError.__new__"))
    (sa4 : PySem.W.findIn K (.ref C4) "__setattr__" = some (some (.builtin "object.__setattr__")))
    (ga4 : PySem.W.findIn K (.ref C4) "__getattribute__" = some (some (.builtin "BaseException.__getattribute__")))
    (gg4 : PySem.W.findIn K (.ref C4) "__getattr__" = some none)
    (no4 : PySem.W.findIn K (.ref C4) "value" = some none)
    (cc4 : PySem.W.findIn K (.ref C4) "__class__" = some (some (.builtin "object.__class__")))
    (in4 : PySem.W.findIn K (.ref C4) "__init__" = some (some (.ref f4)))
    (ti4 : PySem.W.typeIn K (.ref f4) = some (.type "function"))
    (l4 : K.lookup f4 = some ⟨oc4, od4, .func (PySem.W.fnOf "__init__" "InvalidNumber.__init__" (defArgs sI4) (defBody sI4) (defScope sI4) .none kV4 dc4 pm4 an4 cd4 ct4), sl4⟩)
    (c4 : PySem.W.codeIn K cd4 "InvalidNumber.__init__" = true)
    (k4 : PySem.W.keepIn K (.ref f4) = true)
    (kc4 : PySem.W.keepIn K (.ref C4) = true)
    (be4 : PySem.W.subIn K (.ref C4) (.type "BaseException") = some true)
    (ve4 : PySem.W.subIn K (.ref C4) (.type "ValueError") = some true)
    (ty4 : PySem.W.typeIn K (.ref C4) = some (.type "type"))
    (hd4 : PySem.W.hasDictIn K C4 = true)
    (ic4 : PySem.W.isClsIn K C4 = true)
    (mo4 : PySem.W.mroIn K C4 (.type "object") = some true)
    (se4 : PySem.W.subIn K (.ref C4) (.ref CE) = some true)
    (a5 : PySem.W.nsIn K mainGlobals "NothingToUndo" = some (some (.ref C5)))
    (x5 : K.lookup C5 = some (excClassObj nm5 q5 C5 N5 bs5 [.ref CE, .type "ValueError", .type "Exception", .type "BaseException", .type "object"] true sn5 sub5 ab5 col5 dd5 p5_0 p5_1 p5_2 p5_3 p5_5 "ValueError.__new__"))
    (sa5 : PySem.W.findIn K (.ref C5) "__setattr__" = some (some (.builtin "object.__setattr__")))
    (ga5 : PySem.W.findIn K (.ref C5) "__getattribute__" = some (some (.builtin "BaseException.__getattribute__")))
    (gg5 : PySem.W.findIn K (.ref C5) "__getattr__" = some none)
    (no5 : PySem.W.findIn K (.ref C5) "value" = some none)
    (cc5 : PySem.W.findIn K (.ref C5) "__class__" = some (some (.builtin "object.__class__")))
    (in5 : PySem.W.findIn K (.ref C5) "__init__" = some (some (.ref f5)))
    (ti5 : PySem.W.typeIn K (.ref f5) = some (.type "function"))
    (l5 : K.lookup f5 = some ⟨oc5, od5, .func (PySem.W.fnOf "__init__" "NothingToUndo.__init__" (defArgs sI5) (defBody sI5) (defScope sI5) .none kV5 dc5 pm5 an5 cd5 ct5), sl5⟩)
    (c5 : PySem.W.codeIn K cd5 "NothingToUndo.__init__" = true)
    (k5 : PySem.W.keepIn K (.ref f5) = true)
    (kc5 : PySem.W.keepIn K (.ref C5) = true)
    (be5 : PySem.W.subIn K (.ref C5) (.type "BaseException") = some true)
    (ve5 : PySem.W.subIn K (.ref C5) (.type "ValueError") = some true)
    (ty5 : PySem.W.typeIn K (.ref C5) = some (.type "type"))
    (hd5 : PySem.W.hasDictIn K C5 = true)
    (ic5 : PySem.W.isClsIn K C5 = true)
    (mo5 : PySem.W.mroIn K C5 (.type "object") = some true)
    (se5 : PySem.W.subIn K (.ref C5) (.ref CE) = some true)
    (a6 : PySem.W.nsIn K mainGlobals "Unreadable" = some (some (.ref C6)))
    (x6 : K.lookup C6 = some (excClassObj nm6 q6 C6 N6 bs6 [.ref CE, .type "ValueError", .type "Exception", .type "BaseException", .type "object"] true sn6 sub6 ab6 col6 dd6 p6_0 p6_1 p6_2 p6_3 p6_5 "ValueError.__new__"))
    (sa6 : PySem.W.findIn K (.ref C6) "__setattr__" = some (some (.builtin "object.__setattr__")))
    (ga6 : PySem.W.findIn K (.ref C6) "__getattribute__" = some (some (.builtin "BaseException.__getattribute__")))
    (gg6 : PySem.W.findIn K (.ref C6) "__getattr__" = some none)
    (no6 : PySem.W.findIn K (.ref C6) "value" = some none)
    (cc6 : PySem.W.findIn K (.ref C6) "__class__" = some (some (.builtin "object.__class__")))
    (in6 : PySem.W.findIn K (.ref C6) "__init__" = some (some (.ref f6)))
    (ti6 : PySem.W.typeIn K (.ref f6) = some (.type "function"))
    (l6 : K.lookup f6 = some ⟨oc6, od6, .func (PySem.W.fnOf "__init__" "Unreadable.__init__" (defArgs sI6) (defBody sI6) (defScope sI6) .none kV6 dc6 pm6 an6 cd6 ct6), sl6⟩)
    (c6 : PySem.W.codeIn K cd6 "Unreadable.__init__" = true)
    (k6 : PySem.W.keepIn K (.ref f6) = true)
    (kc6 : PySem.W.keepIn K (.ref C6) = true)
    (be6 : PySem.W.subIn K (.ref C6) (.type "BaseException") = some true)
    (ve6 : PySem.W.subIn K (.ref C6) (.type "ValueError") = some true)
    (ty6 : PySem.W.typeIn K (.ref C6) = some (.type "type"))
    (hd6 : PySem.W.hasDictIn K C6 = true)
    (ic6 : PySem.W.isClsIn K C6 = true)
    (mo6 : PySem.W.mroIn K C6 (.type "object") = some true)
    (se6 : PySem.W.subIn K (.ref C6) (.ref CE) = some true)
    (s0_0 : PySem.W.subIn K (.ref C0) (.ref C0) = some true)
    (s0_1 : PySem.W.subIn K (.ref C0) (.ref C1) = some false)
    (s0_2 : PySem.W.subIn K (.ref C0) (.ref C2) = some false)
    (s0_3 : PySem.W.subIn K (.ref C0) (.ref C3) = some false)
    (s0_4 : PySem.W.subIn K (.ref C0) (.ref C4) = some false)
    (s0_5 : PySem.W.subIn K (.ref C0) (.ref C5) = some false)
    (s0_6 : PySem.W.subIn K (.ref C0) (.ref C6) = some false)
    (s1_0 : PySem.W.subIn K (.ref C1) (.ref C0) = some false)
    (s1_1 : PySem.W.subIn K (.ref C1) (.ref C1) = some true)
    (s1_2 : PySem.W.subIn K (.ref C1) (.ref C2) = some false)
    (s1_3 : PySem.W.subIn K (.ref C1) (.ref C3) = some false)
    (s1_4 : PySem.W.subIn K (.ref C1) (.ref C4) = some false)
    (s1_5 : PySem.W.subIn K (.ref C1) (.ref C5) = some false)
    (s1_6 : PySem.W.subIn K (.ref C1) (.ref C6) = some false)
    (s2_0 : PySem.W.subIn K (.ref C2) (.ref C0) = some false)
    (s2_1 : PySem.W.subIn K (.ref C2) (.ref C1) = some false)
    (s2_2 : PySem.W.subIn K (.ref C2) (.ref C2) = some true)
    (s2_3 : PySem.W.subIn K (.ref C2) (.ref C3) = some false)
    (s2_4 : PySem.W.subIn K (.ref C2) (.ref C4) = some false)
    (s2_5 : PySem.W.subIn K (.ref C2) (.ref C5) = some false)
    (s2_6 : PySem.W.subIn K (.ref C2) (.ref C6) = some false)
    (s3_0 : PySem.W.subIn K (.ref C3) (.ref C0) = some false)
    (s3_1 : PySem.W.subIn K (.ref C3) (.ref C1) = some false)
    (s3_2 : PySem.W.subIn K (.ref C3) (.ref C2) = some false)
    (s3_3 : PySem.W.subIn K (.ref C3) (.ref C3) = some true)
    (s3_4 : PySem.W.subIn K (.ref C3) (.ref C4) = some false)
    (s3_5 : PySem.W.subIn K (.ref C3) (.ref C5) = some false)
    (s3_6 : PySem.W.subIn K (.ref C3) (.ref C6) = some false)
    (s4_0 : PySem.W.subIn K (.ref C4) (.ref C0) = some false)
    (s4_1 : PySem.W.subIn K (.ref C4) (.ref C1) = some false)
    (s4_2 : PySem.W.subIn K (.ref C4) (.ref C2) = some false)
    (s4_3 : PySem.W.subIn K (.ref C4) (.ref C3) = some false)
    (s4_4 : PySem.W.subIn K (.ref C4) (.ref C4) = some true)
    (s4_5 : PySem.W.subIn K (.ref C4) (.ref C5) = some false)
    (s4_6 : PySem.W.subIn K (.ref C4) (.ref C6) = some false)
    (s5_0 : PySem.W.subIn K (.ref C5) (.ref C0) = some false)
    (s5_1 : PySem.W.subIn K (.ref C5) (.ref C1) = some false)
    (s5_2 : PySem.W.subIn K (.ref C5) (.ref C2) = some false)
    (s5_3 : PySem.W.subIn K (.ref C5) (.ref C3) = some false)
    (s5_4 : PySem.W.subIn K (.ref C5) (.ref C4) = some false)
    (s5_5 : PySem.W.subIn K (.ref C5) (.ref C5) = some true)
    (s5_6 : PySem.W.subIn K (.ref C5) (.ref C6) = some false)
    (s6_0 : PySem.W.subIn K (.ref C6) (.ref C0) = some false)
    (s6_1 : PySem.W.subIn K (.ref C6) (.ref C1) = some false)
    (s6_2 : PySem.W.subIn K (.ref C6) (.ref C2) = some false)
    (s6_3 : PySem.W.subIn K (.ref C6) (.ref C3) = some false)
    (s6_4 : PySem.W.subIn K (.ref C6) (.ref C4) = some false)
    (s6_5 : PySem.W.subIn K (.ref C6) (.ref C5) = some false)
    (s6_6 : PySem.W.subIn K (.ref C6) (.ref C6) = some true)
    (a_src : PySem.W.nsIn K mainGlobals "_law_source" = some (some (.ref f_src)))
    (l_src : K.lookup f_src = some ⟨oc_src, od_src, .func (PySem.W.fnOf "_law_source" "_law_source" (defArgs sSource) (defBody sSource) (defScope sSource) .none kV_src dc_src pm_src an_src cd_src ct_src), sl_src⟩)
    (c_src : PySem.W.codeIn K cd_src "_law_source" = true)
    (k_src : PySem.W.keepIn K (.ref f_src) = true)
    (a_draw : PySem.W.nsIn K mainGlobals "_law_draw" = some (some (.ref f_draw)))
    (l_draw : K.lookup f_draw = some ⟨oc_draw, od_draw, .func (PySem.W.fnOf "_law_draw" "_law_draw" (defArgs sDraw) (defBody sDraw) (defScope sDraw) .none kV_draw dc_draw pm_draw an_draw cd_draw ct_draw), sl_draw⟩)
    (c_draw : PySem.W.codeIn K cd_draw "_law_draw" = true)
    (k_draw : PySem.W.keepIn K (.ref f_draw) = true)
    (a_same : PySem.W.nsIn K mainGlobals "_law_same" = some (some (.ref f_same)))
    (l_same : K.lookup f_same = some ⟨oc_same, od_same, .func (PySem.W.fnOf "_law_same" "_law_same" (defArgs sSame) (defBody sSame) (defScope sSame) .none kV_same dc_same pm_same an_same cd_same ct_same), sl_same⟩)
    (c_same : PySem.W.codeIn K cd_same "_law_same" = true)
    (k_same : PySem.W.keepIn K (.ref f_same) = true)
    (a_err : PySem.W.nsIn K mainGlobals "_law_error" = some (some (.ref f_err)))
    (l_err : K.lookup f_err = some ⟨oc_err, od_err, .func (PySem.W.fnOf "_law_error" "_law_error" (defArgs sError) (defBody sError) (defScope sError) .none kV_err dc_err pm_err an_err cd_err ct_err), sl_err⟩)
    (c_err : PySem.W.codeIn K cd_err "_law_error" = true)
    (k_err : PySem.W.keepIn K (.ref f_err) = true)
    (a_made : PySem.W.nsIn K mainGlobals "_law_made" = some (some (.ref f_made)))
    (l_made : K.lookup f_made = some ⟨oc_made, od_made, .func (PySem.W.fnOf "_law_made" "_law_made" (defArgs sMade) (defBody sMade) (defScope sMade) .none kV_made dc_made pm_made an_made cd_made ct_made), sl_made⟩)
    (c_made : PySem.W.codeIn K cd_made "_law_made" = true)
    (k_made : PySem.W.keepIn K (.ref f_made) = true)
    (a_law : PySem.W.nsIn K mainGlobals "law" = some (some (.ref f_law)))
    (l_law : K.lookup f_law = some ⟨oc_law, od_law, .func (PySem.W.fnOf "law" "law" (defArgs sLaw) (defBody sLaw) (defScope sLaw) .none kV_law dc_law pm_law an_law cd_law ct_law), sl_law⟩)
    (c_law : PySem.W.codeIn K cd_law "law" = true)
    (k_law : PySem.W.keepIn K (.ref f_law) = true)
    (z_max : PySem.W.nsIn K mainGlobals "max" = some none)
    (z_min : PySem.W.nsIn K mainGlobals "min" = some none)
    (z_len : PySem.W.nsIn K mainGlobals "len" = some none)
    (z_range : PySem.W.nsIn K mainGlobals "range" = some none)
    (z_isinstance : PySem.W.nsIn K mainGlobals "isinstance" = some none)
    (z_bool : PySem.W.nsIn K mainGlobals "bool" = some none)
    (z_int : PySem.W.nsIn K mainGlobals "int" = some none)
    (z_str : PySem.W.nsIn K mainGlobals "str" = some none)
    (z_list : PySem.W.nsIn K mainGlobals "list" = some none)
    (z_tuple : PySem.W.nsIn K mainGlobals "tuple" = some none)
    (z_ValueError : PySem.W.nsIn K mainGlobals "ValueError" = some none) :
    ∃ fd : FuncData, (∀ (s : Shared) (v : Value), BindsTo s fd ⟨[v], []⟩ [("script", v)]) ∧ ∀ base : Heap, K.In base → base.Ns mainGlobals mg → FnOk l.prog w K mg base CX0 5 fa fd ["script"] (spLaw K) := by
  have e := hfa.symm.trans (PySem.W.mg_of X G a_law)
  cases e
  have T0 : OexC K C0 := { cls := ⟨nm0, q0, N0, bs0, _, sn0, sub0, ab0, col0, dd0, p0_0, p0_1, p0_2, p0_3, p0_5, x0, by show PySem.HandSPX.refsVE [.type "ValueError", .type "Exception", .type "BaseException", .type "object"] = true; decide +kernel⟩, sa := sa0, exC := be0, tyC := ty0, kC := kc0 }
  have V0 : ExvI K C0 := { cl := ic0, ga := ga0, gg := gg0, be := be0, hd := hd0, cc := cc0, gt := gt, tk := tk, ob := mo0 }
  have F0 := fun_mk (st := sI0) l0 c0 k0
  have T1 : OexC K C1 := { cls := ⟨nm1, q1, N1, bs1, _, sn1, sub1, ab1, col1, dd1, p1_0, p1_1, p1_2, p1_3, p1_5, x1, by show PySem.HandSPX.refsVE [.type "ValueError", .type "Exception", .type "BaseException", .type "object"] = true; decide +kernel⟩, sa := sa1, exC := be1, tyC := ty1, kC := kc1 }
  have V1 : ExvI K C1 := { cl := ic1, ga := ga1, gg := gg1, be := be1, hd := hd1, cc := cc1, gt := gt, tk := tk, ob := mo1 }
  have F1 := fun_mk (st := sI1) l1 c1 k1
  have T2 : OexC K C2 := { cls := ⟨nm2, q2, N2, bs2, _, sn2, sub2, ab2, col2, dd2, p2_0, p2_1, p2_2, p2_3, p2_5, x2, by show PySem.HandSPX.refsVE [.type "ValueError", .type "Exception", .type "BaseException", .type "object"] = true; decide +kernel⟩, sa := sa2, exC := be2, tyC := ty2, kC := kc2 }
  have V2 : ExvI K C2 := { cl := ic2, ga := ga2, gg := gg2, be := be2, hd := hd2, cc := cc2, gt := gt, tk := tk, ob := mo2 }
  have F2 := fun_mk (st := sI2) l2 c2 k2
  have T3 : OexC K C3 := { cls := ⟨nm3, q3, N3, bs3, _, sn3, sub3, ab3, col3, dd3, p3_0, p3_1, p3_2, p3_3, p3_5, x3, by show PySem.HandSPX.refsVE [.type "ValueError", .type "Exception", .type "BaseException", .type "object"] = true; decide +kernel⟩, sa := sa3, exC := be3, tyC := ty3, kC := kc3 }
  have V3 : ExvI K C3 := { cl := ic3, ga := ga3, gg := gg3, be := be3, hd := hd3, cc := cc3, gt := gt, tk := tk, ob := mo3 }
  have F3 := fun_mk (st := sI3) l3 c3 k3
  have T4 : OexC K C4 := { cls := ⟨nm4, q4, N4, bs4, _, sn4, sub4, ab4, col4, dd4, p4_0, p4_1, p4_2, p4_3, p4_5, x4, by show PySem.HandSPX.refsVE [.type "ValueError", .type "Exception", .type "BaseException", .type "object"] = true; decide +kernel⟩, sa := sa4, exC := be4, tyC := ty4, kC := kc4 }
  have V4 : ExvI K C4 := { cl := ic4, ga := ga4, gg := gg4, be := be4, hd := hd4, cc := cc4, gt := gt, tk := tk, ob := mo4 }
  have F4 := fun_mk (st := sI4) l4 c4 k4
  have T5 : OexC K C5 := { cls := ⟨nm5, q5, N5, bs5, _, sn5, sub5, ab5, col5, dd5, p5_0, p5_1, p5_2, p5_3, p5_5, x5, by show PySem.HandSPX.refsVE [.type "ValueError", .type "Exception", .type "BaseException", .type "object"] = true; decide +kernel⟩, sa := sa5, exC := be5, tyC := ty5, kC := kc5 }
  have V5 : ExvI K C5 := { cl := ic5, ga := ga5, gg := gg5, be := be5, hd := hd5, cc := cc5, gt := gt, tk := tk, ob := mo5 }
  have F5 := fun_mk (st := sI5) l5 c5 k5
  have T6 : OexC K C6 := { cls := ⟨nm6, q6, N6, bs6, _, sn6, sub6, ab6, col6, dd6, p6_0, p6_1, p6_2, p6_3, p6_5, x6, by show PySem.HandSPX.refsVE [.type "ValueError", .type "Exception", .type "BaseException", .type "object"] = true; decide +kernel⟩, sa := sa6, exC := be6, tyC := ty6, kC := kc6 }
  have V6 : ExvI K C6 := { cl := ic6, ga := ga6, gg := gg6, be := be6, hd := hd6, cc := cc6, gt := gt, tk := tk, ob := mo6 }
  have F6 := fun_mk (st := sI6) l6 c6 k6
  have F_src := fun_mk (st := sSource) l_src c_src k_src
  have F_draw := fun_mk (st := sDraw) l_draw c_draw k_draw
  have F_same := fun_mk (st := sSame) l_same c_same k_same
  have F_err := fun_mk (st := sError) l_err c_err k_err
  have F_made := fun_mk (st := sMade) l_made c_made k_made
  have F_law := fun_mk (st := sLaw) l_law c_law k_law
  have b_src := F_src.binds (ps := ["script"]) fun _ _ _ _ _ _ us hl => match us, hl with | [_], _ => rfl
  have b_draw := F_draw.binds (ps := ["source", "many"]) fun _ _ _ _ _ _ us hl => match us, hl with | [_, _], _ => rfl
  have b_same := F_same.binds (ps := ["found", "wanted"]) fun _ _ _ _ _ _ us hl => match us, hl with | [_, _], _ => rfl
  have b_err := F_err.binds (ps := ["e"]) fun _ _ _ _ _ _ us hl => match us, hl with | [_], _ => rfl
  have b_made := F_made.binds (ps := ["door", "what", "by_name"]) fun _ _ _ _ _ _ us hl => match us, hl with | [_, _, _], _ => rfl
  let cs : Nat → Addr := fun i => match i with
    | 0 => C0
    | 1 => C1
    | 2 => C2
    | 3 => C3
    | 4 => C4
    | 5 => C5
    | _ => C6
  refine ⟨PySem.W.fnOf "law" "law" (defArgs sLaw) (defBody sLaw) (defScope sLaw) .none kV_law dc_law pm_law an_law cd_law ct_law, fun s v => .of_eq rfl, fun base hb gb => ?_⟩
  have T : Errs l.prog w K mg base cs CE := {
    new := fun i hi => match i, hi with
      | 0, _ => exv_I0 F0 T0 no0 in0 ti0
      | 1, _ => exv_I1 F1 T1 no1 in1 ti1
      | 2, _ => exv_I2 F2 T2 no2 in2 ti2
      | 3, _ => exv_I3 F3 T3 no3 in3 ti3
      | 4, _ => exv_I4 F4 T4 no4 in4 ti4
      | 5, _ => exv_I5 F5 T5 no5 in5 ti5
      | 6, _ => exv_I6 F6 T6 no6 in6 ti6
      | n + 7, z => absurd z (by omega)
    look := fun i hi => match i, hi with
      | 0, _ => V0
      | 1, _ => V1
      | 2, _ => V2
      | 3, _ => V3
      | 4, _ => V4
      | 5, _ => V5
      | 6, _ => V6
      | n + 7, z => absurd z (by omega)
    no := fun i hi => match i, hi with
      | 0, _ => no0
      | 1, _ => no1
      | 2, _ => no2
      | 3, _ => no3
      | 4, _ => no4
      | 5, _ => no5
      | 6, _ => no6
      | n + 7, z => absurd z (by omega)
    kit := fun i j hi hj => match i, j, hi, hj with
      | 0, 0, _, _ => kit_own ic0 ty0 s0_0 s0_0
      | 0, 1, _, _ => kit_own ic1 ty1 s0_1 s0_0
      | 0, 2, _, _ => kit_own ic2 ty2 s0_2 s0_0
      | 0, 3, _, _ => kit_own ic3 ty3 s0_3 s0_0
      | 0, 4, _, _ => kit_own ic4 ty4 s0_4 s0_0
      | 0, 5, _, _ => kit_own ic5 ty5 s0_5 s0_0
      | 0, 6, _, _ => kit_own ic6 ty6 s0_6 s0_0
      | 1, 0, _, _ => kit_own ic0 ty0 s1_0 s1_1
      | 1, 1, _, _ => kit_own ic1 ty1 s1_1 s1_1
      | 1, 2, _, _ => kit_own ic2 ty2 s1_2 s1_1
      | 1, 3, _, _ => kit_own ic3 ty3 s1_3 s1_1
      | 1, 4, _, _ => kit_own ic4 ty4 s1_4 s1_1
      | 1, 5, _, _ => kit_own ic5 ty5 s1_5 s1_1
      | 1, 6, _, _ => kit_own ic6 ty6 s1_6 s1_1
      | 2, 0, _, _ => kit_own ic0 ty0 s2_0 s2_2
      | 2, 1, _, _ => kit_own ic1 ty1 s2_1 s2_2
      | 2, 2, _, _ => kit_own ic2 ty2 s2_2 s2_2
      | 2, 3, _, _ => kit_own ic3 ty3 s2_3 s2_2
      | 2, 4, _, _ => kit_own ic4 ty4 s2_4 s2_2
      | 2, 5, _, _ => kit_own ic5 ty5 s2_5 s2_2
      | 2, 6, _, _ => kit_own ic6 ty6 s2_6 s2_2
      | 3, 0, _, _ => kit_own ic0 ty0 s3_0 s3_3
      | 3, 1, _, _ => kit_own ic1 ty1 s3_1 s3_3
      | 3, 2, _, _ => kit_own ic2 ty2 s3_2 s3_3
      | 3, 3, _, _ => kit_own ic3 ty3 s3_3 s3_3
      | 3, 4, _, _ => kit_own ic4 ty4 s3_4 s3_3
      | 3, 5, _, _ => kit_own ic5 ty5 s3_5 s3_3
      | 3, 6, _, _ => kit_own ic6 ty6 s3_6 s3_3
      | 4, 0, _, _ => kit_own ic0 ty0 s4_0 s4_4
      | 4, 1, _, _ => kit_own ic1 ty1 s4_1 s4_4
      | 4, 2, _, _ => kit_own ic2 ty2 s4_2 s4_4
      | 4, 3, _, _ => kit_own ic3 ty3 s4_3 s4_4
      | 4, 4, _, _ => kit_own ic4 ty4 s4_4 s4_4
      | 4, 5, _, _ => kit_own ic5 ty5 s4_5 s4_4
      | 4, 6, _, _ => kit_own ic6 ty6 s4_6 s4_4
      | 5, 0, _, _ => kit_own ic0 ty0 s5_0 s5_5
      | 5, 1, _, _ => kit_own ic1 ty1 s5_1 s5_5
      | 5, 2, _, _ => kit_own ic2 ty2 s5_2 s5_5
      | 5, 3, _, _ => kit_own ic3 ty3 s5_3 s5_5
      | 5, 4, _, _ => kit_own ic4 ty4 s5_4 s5_5
      | 5, 5, _, _ => kit_own ic5 ty5 s5_5 s5_5
      | 5, 6, _, _ => kit_own ic6 ty6 s5_6 s5_5
      | 6, 0, _, _ => kit_own ic0 ty0 s6_0 s6_6
      | 6, 1, _, _ => kit_own ic1 ty1 s6_1 s6_6
      | 6, 2, _, _ => kit_own ic2 ty2 s6_2 s6_6
      | 6, 3, _, _ => kit_own ic3 ty3 s6_3 s6_6
      | 6, 4, _, _ => kit_own ic4 ty4 s6_4 s6_6
      | 6, 5, _, _ => kit_own ic5 ty5 s6_5 s6_6
      | 6, 6, _, _ => kit_own ic6 ty6 s6_6 s6_6
      | n + 7, _, z, _ => absurd z (by omega)
      | _, n + 7, _, z => absurd z (by omega)
    kitE := fun i hi => match i, hi with
      | 0, _ => kit_own iE yE se0 s0_0
      | 1, _ => kit_own iE yE se1 s1_1
      | 2, _ => kit_own iE yE se2 s2_2
      | 3, _ => kit_own iE yE se3 s3_3
      | 4, _ => kit_own iE yE se4 s4_4
      | 5, _ => kit_own iE yE se5 s5_5
      | 6, _ => kit_own iE yE se6 s6_6
      | n + 7, z => absurd z (by omega)
    kitV := fun i hi => match i, hi with
      | 0, _ => kit_bl (by decide +kernel) ve0
      | 1, _ => kit_bl (by decide +kernel) ve1
      | 2, _ => kit_bl (by decide +kernel) ve2
      | 3, _ => kit_bl (by decide +kernel) ve3
      | 4, _ => kit_bl (by decide +kernel) ve4
      | 5, _ => kit_bl (by decide +kernel) ve5
      | 6, _ => kit_bl (by decide +kernel) ve6
      | n + 7, z => absurd z (by omega)
    g0 := PySem.W.mg_of X G a0
    g1 := PySem.W.mg_of X G a1
    g2 := PySem.W.mg_of X G a2
    g3 := PySem.W.mg_of X G a3
    g4 := PySem.W.mg_of X G a4
    g5 := PySem.W.mg_of X G a5
    g6 := PySem.W.mg_of X G a6
    gE := PySem.W.mg_of X G aE
    isinstance := PySem.W.mg_none_of X G z_isinstance
    ValueError := PySem.W.mg_none_of X G z_ValueError }
  have TS : TxtS mg := ⟨PySem.W.mg_none_of X G z_isinstance, PySem.W.mg_none_of X G z_bool, PySem.W.mg_none_of X G z_int, PySem.W.mg_none_of X G z_str, PySem.W.mg_none_of X G z_list, PySem.W.mg_none_of X G z_tuple, PySem.W.mg_none_of X G z_len, PySem.W.mg_none_of X G z_range⟩
  have TL : TxtL mg := ⟨PySem.W.mg_none_of X G z_range, PySem.W.mg_none_of X G z_min, PySem.W.mg_none_of X G z_len⟩
  have cS : Cal l.prog w K mg base 1 "_law_source" (spSource K) := ⟨_, _, _, ok_source F_src ⟨PySem.W.mg_none_of X G z_max⟩, PySem.W.mg_of X G a_src, k_src, b_src⟩
  have cD : Cal l.prog w K mg base 1 "_law_draw" spDraw := ⟨_, _, _, ok_draw F_draw, PySem.W.mg_of X G a_draw, k_draw, b_draw⟩
  have cM : Cal l.prog w K mg base 3 "_law_made" (spMade cs) := ⟨_, _, _, ok_made F_made T, PySem.W.mg_of X G a_made, k_made, b_made⟩
  have cE : Cal l.prog w K mg base 1 "_law_error" (spError cs) := ⟨_, _, _, ok_error F_err T, PySem.W.mg_of X G a_err, k_err, b_err⟩
  have c0 : Cal l.prog w K mg base 1 "_law_same" (spSame K 0) := ⟨_, _, _, ok_same0 F_same, PySem.W.mg_of X G a_same, k_same, b_same⟩
  have c1 : Cal l.prog w K mg base 2 "_law_same" (spSame K 1) := ⟨_, _, _, ok_sameS F_same TS c0, PySem.W.mg_of X G a_same, k_same, b_same⟩
  have c2 : Cal l.prog w K mg base 3 "_law_same" (spSame K 2) := ⟨_, _, _, ok_sameS F_same TS c1, PySem.W.mg_of X G a_same, k_same, b_same⟩
  have c3 : Cal l.prog w K mg base 4 "_law_same" (spSame K 3) := ⟨_, _, _, ok_sameS F_same TS c2, PySem.W.mg_of X G a_same, k_same, b_same⟩
  exact ok_law F_law TL cS cD cM cE c3
theorem walk {l : PySem.W.OpenLaw} {q : Program} {loose : List Str} {XP : (Str → Option Value) → Heap → Prop} {YP : World → Heap → Prop} {d : DefRec} {K : Params → PySem.W.Frag} (hn : l.most = some 63) (hdf : d.params.defaults = [])
    (hY : ∀ (w : World) (h : Heap), YP w h → (K w.params).In h)
    (F : ∀ (w : World) (mg : Str → Option Value) (fa : Addr) (h : Heap), (K w.params).In h → h.Ns mainGlobals mg → mg d.name = some (.ref fa) →
      ∃ fd : FuncData, (∀ (s : Shared) (u : Value), BindsTo s fd ⟨[u], []⟩ [("script", u)]) ∧ ∀ base : Heap, (K w.params).In base → base.Ns mainGlobals mg → FnOk l.prog w (K w.params) mg base CX0 5 fa fd ["script"] (spLaw (K w.params))) :
    PySem.W.WalkO q loose XP YP l.row.toRowW d [] (fun f vs => PySem.call f vs) :=
  L2.walk_of (n := 63) (k := 5) (x := "script") (CX := fun _ => CX0) (sp := fun w => spLaw (K w.params)) hn (by decide) hdf ⟨rfl, by decide, by decide⟩ hY F (fun _ _ a ns hl _ hS => ⟨a, ns, rfl, hS, hl, fun _ => rfl⟩) fun _ _ _ _ _ z => z
end Gc

open PySem PySem.W PyProof.Rows in
set_option maxRecDepth 100000 in
set_option maxHeartbeats 0 in
theorem PySem.Challenge.cw_goalcolumn_k01_errors_and_their_values_holds : PySem.Challenge.rw_goalcolumn_k01_errors_and_their_values.Holds := by
  w_on; o_law; k_head; (case hw => w_witness2)
  k_fill
  refine Gc.walk (l := PySem.Challenge.rw_goalcolumn_k01_errors_and_their_values) rfl rfl (fun w h Y => PySem.W.kIn_of Y) ?F
  case F =>
    intro w mg fa h KX G hmg
    refine' Gc.all_mk KX G hmg ?aE ?iE ?yE ?gt ?tk ?a0 ?x0 ?sa0 ?ga0 ?gg0 ?no0 ?cc0 ?in0 ?ti0 ?l0 ?c0 ?k0 ?kc0 ?be0 ?ve0 ?ty0 ?hd0 ?ic0 ?mo0 ?se0 ?a1 ?x1 ?sa1 ?ga1 ?gg1 ?no1 ?cc1 ?in1 ?ti1 ?l1 ?c1 ?k1 ?kc1 ?be1 ?ve1 ?ty1 ?hd1 ?ic1 ?mo1 ?se1 ?a2 ?x2 ?sa2 ?ga2 ?gg2 ?no2 ?cc2 ?in2 ?ti2 ?l2 ?c2 ?k2 ?kc2 ?be2 ?ve2 ?ty2 ?hd2 ?ic2 ?mo2 ?se2 ?a3 ?x3 ?sa3 ?ga3 ?gg3 ?no3 ?cc3 ?in3 ?ti3 ?l3 ?c3 ?k3 ?kc3 ?be3 ?ve3 ?ty3 ?hd3 ?ic3 ?mo3 ?se3 ?a4 ?x4 ?sa4 ?ga4 ?gg4 ?no4 ?cc4 ?in4 ?ti4 ?l4 ?c4 ?k4 ?kc4 ?be4 ?ve4 ?ty4 ?hd4 ?ic4 ?mo4 ?se4 ?a5 ?x5 ?sa5 ?ga5 ?gg5 ?no5 ?cc5 ?in5 ?ti5 ?l5 ?c5 ?k5 ?kc5 ?be5 ?ve5 ?ty5 ?hd5 ?ic5 ?mo5 ?se5 ?a6 ?x6 ?sa6 ?ga6 ?gg6 ?no6 ?cc6 ?in6 ?ti6 ?l6 ?c6 ?k6 ?kc6 ?be6 ?ve6 ?ty6 ?hd6 ?ic6 ?mo6 ?se6 ?s0_0 ?s0_1 ?s0_2 ?s0_3 ?s0_4 ?s0_5 ?s0_6 ?s1_0 ?s1_1 ?s1_2 ?s1_3 ?s1_4 ?s1_5 ?s1_6 ?s2_0 ?s2_1 ?s2_2 ?s2_3 ?s2_4 ?s2_5 ?s2_6 ?s3_0 ?s3_1 ?s3_2 ?s3_3 ?s3_4 ?s3_5 ?s3_6 ?s4_0 ?s4_1 ?s4_2 ?s4_3 ?s4_4 ?s4_5 ?s4_6 ?s5_0 ?s5_1 ?s5_2 ?s5_3 ?s5_4 ?s5_5 ?s5_6 ?s6_0 ?s6_1 ?s6_2 ?s6_3 ?s6_4 ?s6_5 ?s6_6 ?a_src ?l_src ?c_src ?k_src ?a_draw ?l_draw ?c_draw ?k_draw ?a_same ?l_same ?c_same ?k_same ?a_err ?l_err ?c_err ?k_err ?a_made ?l_made ?c_made ?k_made ?a_law ?l_law ?c_law ?k_law ?z_max ?z_min ?z_len ?z_range ?z_isinstance ?z_bool ?z_int ?z_str ?z_list ?z_tuple ?z_ValueError
    (case aE => k_is)
    (case iE => k_is)
    (case yE => k_is)
    (case gt => k_is)
    (case tk => k_is)
    (case a0 => k_is)
    (case x0 => k_is)
    (case sa0 => k_is)
    (case ga0 => k_is)
    (case gg0 => k_is)
    (case no0 => k_is)
    (case cc0 => k_is)
    (case in0 => k_is)
    (case ti0 => k_is)
    (case l0 => k_is)
    (case c0 => k_is)
    (case k0 => k_is)
    (case kc0 => k_is)
    (case be0 => k_is)
    (case ve0 => k_is)
    (case ty0 => k_is)
    (case hd0 => k_is)
    (case ic0 => k_is)
    (case mo0 => k_is)
    (case se0 => k_is)
    (case a1 => k_is)
    (case x1 => k_is)
    (case sa1 => k_is)
    (case ga1 => k_is)
    (case gg1 => k_is)
    (case no1 => k_is)
    (case cc1 => k_is)
    (case in1 => k_is)
    (case ti1 => k_is)
    (case l1 => k_is)
    (case c1 => k_is)
    (case k1 => k_is)
    (case kc1 => k_is)
    (case be1 => k_is)
    (case ve1 => k_is)
    (case ty1 => k_is)
    (case hd1 => k_is)
    (case ic1 => k_is)
    (case mo1 => k_is)
    (case se1 => k_is)
    (case a2 => k_is)
    (case x2 => k_is)
    (case sa2 => k_is)
    (case ga2 => k_is)
    (case gg2 => k_is)
    (case no2 => k_is)
    (case cc2 => k_is)
    (case in2 => k_is)
    (case ti2 => k_is)
    (case l2 => k_is)
    (case c2 => k_is)
    (case k2 => k_is)
    (case kc2 => k_is)
    (case be2 => k_is)
    (case ve2 => k_is)
    (case ty2 => k_is)
    (case hd2 => k_is)
    (case ic2 => k_is)
    (case mo2 => k_is)
    (case se2 => k_is)
    (case a3 => k_is)
    (case x3 => k_is)
    (case sa3 => k_is)
    (case ga3 => k_is)
    (case gg3 => k_is)
    (case no3 => k_is)
    (case cc3 => k_is)
    (case in3 => k_is)
    (case ti3 => k_is)
    (case l3 => k_is)
    (case c3 => k_is)
    (case k3 => k_is)
    (case kc3 => k_is)
    (case be3 => k_is)
    (case ve3 => k_is)
    (case ty3 => k_is)
    (case hd3 => k_is)
    (case ic3 => k_is)
    (case mo3 => k_is)
    (case se3 => k_is)
    (case a4 => k_is)
    (case x4 => k_is)
    (case sa4 => k_is)
    (case ga4 => k_is)
    (case gg4 => k_is)
    (case no4 => k_is)
    (case cc4 => k_is)
    (case in4 => k_is)
    (case ti4 => k_is)
    (case l4 => k_is)
    (case c4 => k_is)
    (case k4 => k_is)
    (case kc4 => k_is)
    (case be4 => k_is)
    (case ve4 => k_is)
    (case ty4 => k_is)
    (case hd4 => k_is)
    (case ic4 => k_is)
    (case mo4 => k_is)
    (case se4 => k_is)
    (case a5 => k_is)
    (case x5 => k_is)
    (case sa5 => k_is)
    (case ga5 => k_is)
    (case gg5 => k_is)
    (case no5 => k_is)
    (case cc5 => k_is)
    (case in5 => k_is)
    (case ti5 => k_is)
    (case l5 => k_is)
    (case c5 => k_is)
    (case k5 => k_is)
    (case kc5 => k_is)
    (case be5 => k_is)
    (case ve5 => k_is)
    (case ty5 => k_is)
    (case hd5 => k_is)
    (case ic5 => k_is)
    (case mo5 => k_is)
    (case se5 => k_is)
    (case a6 => k_is)
    (case x6 => k_is)
    (case sa6 => k_is)
    (case ga6 => k_is)
    (case gg6 => k_is)
    (case no6 => k_is)
    (case cc6 => k_is)
    (case in6 => k_is)
    (case ti6 => k_is)
    (case l6 => k_is)
    (case c6 => k_is)
    (case k6 => k_is)
    (case kc6 => k_is)
    (case be6 => k_is)
    (case ve6 => k_is)
    (case ty6 => k_is)
    (case hd6 => k_is)
    (case ic6 => k_is)
    (case mo6 => k_is)
    (case se6 => k_is)
    (case s0_0 => k_is)
    (case s0_1 => k_is)
    (case s0_2 => k_is)
    (case s0_3 => k_is)
    (case s0_4 => k_is)
    (case s0_5 => k_is)
    (case s0_6 => k_is)
    (case s1_0 => k_is)
    (case s1_1 => k_is)
    (case s1_2 => k_is)
    (case s1_3 => k_is)
    (case s1_4 => k_is)
    (case s1_5 => k_is)
    (case s1_6 => k_is)
    (case s2_0 => k_is)
    (case s2_1 => k_is)
    (case s2_2 => k_is)
    (case s2_3 => k_is)
    (case s2_4 => k_is)
    (case s2_5 => k_is)
    (case s2_6 => k_is)
    (case s3_0 => k_is)
    (case s3_1 => k_is)
    (case s3_2 => k_is)
    (case s3_3 => k_is)
    (case s3_4 => k_is)
    (case s3_5 => k_is)
    (case s3_6 => k_is)
    (case s4_0 => k_is)
    (case s4_1 => k_is)
    (case s4_2 => k_is)
    (case s4_3 => k_is)
    (case s4_4 => k_is)
    (case s4_5 => k_is)
    (case s4_6 => k_is)
    (case s5_0 => k_is)
    (case s5_1 => k_is)
    (case s5_2 => k_is)
    (case s5_3 => k_is)
    (case s5_4 => k_is)
    (case s5_5 => k_is)
    (case s5_6 => k_is)
    (case s6_0 => k_is)
    (case s6_1 => k_is)
    (case s6_2 => k_is)
    (case s6_3 => k_is)
    (case s6_4 => k_is)
    (case s6_5 => k_is)
    (case s6_6 => k_is)
    (case a_src => k_is)
    (case l_src => k_is)
    (case c_src => k_is)
    (case k_src => k_is)
    (case a_draw => k_is)
    (case l_draw => k_is)
    (case c_draw => k_is)
    (case k_draw => k_is)
    (case a_same => k_is)
    (case l_same => k_is)
    (case c_same => k_is)
    (case k_same => k_is)
    (case a_err => k_is)
    (case l_err => k_is)
    (case c_err => k_is)
    (case k_err => k_is)
    (case a_made => k_is)
    (case l_made => k_is)
    (case c_made => k_is)
    (case k_made => k_is)
    (case a_law => k_is)
    (case l_law => k_is)
    (case c_law => k_is)
    (case k_law => k_is)
    (case z_max => k_is)
    (case z_min => k_is)
    (case z_len => k_is)
    (case z_range => k_is)
    (case z_isinstance => k_is)
    (case z_bool => k_is)
    (case z_int => k_is)
    (case z_str => k_is)
    (case z_list => k_is)
    (case z_tuple => k_is)
    (case z_ValueError => k_is)
