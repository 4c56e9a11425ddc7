import PyProof.Rows.All
import Wide.All
import OpenK.AllK
import Wide.FinOn
import HandS.Comp
import HandS.Iter
import HandS.Dict
import HandS.Flow
import HandS.Rev
import HandS.Walk
import HandS.WordsList
import HandS.WordsDict
import HandS.IsInst
import HandS.Wide
import HandS.Codes
import HandS.Style
import KE.SortData
import HandS.Base
import HandS.Call
import HandS.List
import HandS.Words
import HandS.DictTup
import PyProof.RulesMatch
import HandS.Text
import HandS.StrMore
import HandS.Exc
import HandS.ExcOwn
import HandS.ExcInit
import HandS.ExcField
import HandS.WordsExc
import HandS.GenBody
import HandS.GenYield
import HandS.GenCall
import HandS.GenList
import HandS.ForMost
import PyProof.EnumMake
import PyProof.TupleIter
import PyProof.WalksMore
import HandS.HotCalls
import KE.KIsAll
import KE.KExcIs
import HandS.Property
import HandS.Defaults
import HandS.TryOnly
import PyProof.EnumIter
import HandS.Star
import HandS.SetFor
import HandS.More
import HandS.Deep
import HandS.ClsMeth
import HandS.OwnEq
import HandS.SlotsOwn
import PyProof.InstNe
import PyProof.EqKinds
import HandS.Zip
import HandS.ExcIs
import PySem.Challenge.RW_goalcolumn_k23_editors_copy
set_option Elab.async false
set_option linter.all false
set_option maxRecDepth 100000
set_option maxHeartbeats 4000000
namespace Gc
open PySem PyProof.Rows L2
/-! ### heaps: all that stood but at two places -/
def Keep (a d : Addr) (H H' : Hp) : Prop := ∀ b o, b ≠ a → b ≠ d → H b = some o → H' b = some o
theorem Keep.refl {a d : Addr} (H : Hp) : Keep a d H H := fun _ _ _ _ h => h
theorem Keep.trans {a d : Addr} {H H1 H2 : Hp} (x : Keep a d H H1) (y : Keep a d H1 H2) : Keep a d H H2 := fun b o h1 h2 h => y b o h1 h2 (x b o h1 h2 h)
theorem Keep.of {a d : Addr} {H H' : Hp} (e : Same H H') : Keep a d H H' := fun b o _ _ h => e b o h
theorem same_upd {H H' : Hp} {p : Addr} {o : HO} (e : Same H H') (h : H' p = none) : Same H (upd H' p o) := fun b u hb => by
  rw [upd_ne (ne_of_none (e b u hb) h)]
  exact e b u hb
theorem Keep.upd1 {a d : Addr} {H H' : Hp} {o : HO} (e : Keep a d H H') : Keep a d H (upd H' a o) := fun b u h1 h2 h => by
  rw [upd_ne h1]
  exact e b u h1 h2 h
theorem Keep.upd2 {a d : Addr} {H H' : Hp} {o : HO} (e : Keep a d H H') : Keep a d H (upd H' d o) := fun b u h1 h2 h => by
  rw [upd_ne h2]
  exact e b u h1 h2 h
theorem Keep.new {a d p : Addr} {H H' : Hp} {o : HO} (e : Keep a d H H') (h : H' p = none) : Keep a d H (upd H' p o) := fun b u h1 h2 hb => by
  rw [upd_ne (ne_of_none (e b u h1 h2 hb) h)]
  exact e b u h1 h2 hb

theorem cpow {i j : Int} (h : (decide (0 ≤ j) && (decide (j ≤ 1000000) && decide (i.natAbs < 2 ^ 64))) = true) : CPow i j := by
  rw [Bool.and_eq_true, Bool.and_eq_true] at h
  exact ⟨of_decide_eq_true h.1, of_decide_eq_true h.2.1, of_decide_eq_true h.2.2⟩
theorem pow_small {x : Int} {a k b : Nat} (h : x.natAbs < 2 ^ a) (hb : a * k < b) : (x ^ k).natAbs < 2 ^ b := by
  rw [Int.natAbs_pow]
  have h1 : x.natAbs ^ k ≤ (2 ^ a) ^ k := Nat.pow_le_pow_left (Nat.le_of_lt h) k
  rw [← Nat.pow_mul] at h1
  exact Nat.lt_of_le_of_lt h1 (Nat.pow_lt_pow_right (by decide) hb)
theorem int_at {ns : List Int} {i : Nat} {y : V} (h : (ns.map V.int)[i]? = some y) : ∃ u, y = V.int u := by
  rw [List.getElem?_map] at h
  cases e : ns[i]? with
  | none =>
    rw [e] at h
    cases h
  | some u =>
    rw [e] at h
    exact ⟨u, (Option.some.inj h).symm⟩
theorem dp_ints {K : PySem.W.Frag} {H : Hp} : ∀ ns : List Int, DpAll K H (ns.map V.int) (ns.map PyData.int)
  | [] => .nil
  | x :: r => .cons (.int x) (dp_ints r)
/-- a def that is called by its name and lets nothing out -/
structure Cal (P : Program) (w : World) (K : PySem.W.Frag) (mg : Str → Option Value) (base : Heap) (k : Nat) (x : Str) (sp : Sp) : Prop where
  ex : ∃ (f : Addr) (fd : FuncData) (ps : List Str), FnOk P w K mg base CX0 k f fd ps sp ∧
    mg x = some (.ref f) ∧ PySem.W.keepIn K (.ref f) = true ∧ Binds K fd ps []
theorem pe_cal {X : Cx} {k j : Nat} {x : Str} {sp : Sp} {p pos : Pos} {e : Expr} {es : List Expr} {t : TA}
    (c : Cal X.prog X.w X.K X.mg X.base k x sp) (hr : Room j X.A) (hk : k ≤ j) (hg : Gl X x) (ha : PA X (e :: es) t)
    (hdb : (x == ("__debug__" : Str)) = false := by decide)
    (he : starEach (e :: es) X.env = (false, eval e X.env) :: starEach es X.env := by rfl)
    (hpl : (backTo pos (starEach es X.env)).any (·.1) = false := by rfl) :
    PE X (.Call (.Name x p) (e :: es) [] pos) (tCall sp [] E0 t) := by
  obtain ⟨f, fd, ps, F, hm, kp, b⟩ := c.ex
  exact pe_call F (hr.mono hk) hg hm kp b .nil pass0 ha hdb he hpl

/-! ### data carried along -/
theorem seq_t {K : PySem.W.Frag} {H H' : Hp} {a : Addr} {xs : List V} (e : Same H H') (h : SqT K H a xs) : SqT K H' a xs := by
  rcases h with (h | ⟨o, h⟩) | h
  · exact .inl (.inl (e _ _ h))
  · exact .inl (.inr ⟨o, e _ _ h⟩)
  · exact .inr h
mutual
theorem dp_same {K : PySem.W.Frag} {H H' : Hp} (e : Same H H') : ∀ (d : PyData) (v : V), Dp K H v d → Dp K H' v d
  | .none, _, h => by cases h; exact .non
  | .bool b, _, h => by cases h; exact .bl b
  | .int i, _, h => by cases h; exact .int i
  | .str x, _, h => by cases h; exact .str x
  | .list ds, _, h => by
    cases h with
    | lst q r => exact .lst (e.seq q) (dps_same e ds _ r)
  | .tuple ds, _, h => by
    cases h with
    | tup q r => exact .tup (seq_t e q) (dps_same e ds _ r)
  | .dict _, _, h => by cases h
theorem dps_same {K : PySem.W.Frag} {H H' : Hp} (e : Same H H') : ∀ (ds : List PyData) (vs : List V), DpAll K H vs ds → DpAll K H' vs ds
  | [], _, h => by cases h; exact .nil
  | d :: ds, _, h => by
    cases h with
    | cons a b => exact .cons (dp_same e d _ a) (dps_same e ds _ b)
end
theorem dps_len {K : PySem.W.Frag} {H : Hp} : ∀ {vs : List V} {ds : List PyData}, DpAll K H vs ds → vs.length = ds.length
  | [], _, h => by cases h; rfl
  | _ :: vs, _, h => by
    cases h with
    | cons a b => rw [List.length_cons, List.length_cons, dps_len b]
theorem dps_at {K : PySem.W.Frag} {H : Hp} : ∀ {vs : List V} {ds : List PyData} {i : Nat}, DpAll K H vs ds → i < ds.length → ∃ v d, vs[i]? = some v ∧ ds[i]? = some d ∧ Dp K H v d
  | _, _, 0, h, l => by
    cases h with
    | nil => exact absurd l (by decide)
    | cons a b => exact ⟨_, _, rfl, rfl, a⟩
  | _, _, i + 1, h, l => by
    cases h with
    | nil => exact absurd l (Nat.not_lt_zero _)
    | cons a b => exact dps_at (i := i) b (Nat.lt_of_succ_lt_succ l)
theorem depth_at : ∀ {ds : List PyData} {i : Nat} {d : PyData}, ds[i]? = some d → d.depth ≤ PyData.depthAll ds
  | [], i, d, h => by simp at h
  | x :: r, 0, d, h => by
    have e : x = d := Option.some.inj h
    subst e
    simp only [PyData.depthAll]
    exact Nat.le_max_left _ _
  | x :: r, i + 1, d, h => by
    have ih := depth_at (ds := r) (i := i) (d := d) h
    simp only [PyData.depthAll]
    exact Nat.le_trans ih (Nat.le_max_right _ _)
theorem ty_l {K : PySem.W.Frag} {H : Hp} {a : Addr} {xs : List V} (h : SqL K H a xs) : TyX K H (.ref a) (.type "list") := by
  rcases h with (h | ⟨o, h⟩) | h
  · exact .base (.lst h)
  · exact .base (.frz h)
  · obtain ⟨o, its, n, e, c, _⟩ := h
    exact .kList e c
theorem ty_t {K : PySem.W.Frag} {H : Hp} {a : Addr} {xs : List V} (h : SqT K H a xs) : TyX K H (.ref a) (.type "tuple") := by
  rcases h with (h | ⟨o, h⟩) | h
  · exact .base (.tup h)
  · exact .fTuple h
  · obtain ⟨o, its, n, e, c, _⟩ := h
    exact .kTuple e c
theorem isi_q {K : PySem.W.Frag} {H : Hp} {x : V} {t n : String} {b : Bool} {Q : VK} (ty : TyX K H x (.type t)) (k : kitB t n = some b) (q : Q (.bl b) H) : rIsi K [x, .ty n] H Q :=
  ⟨x, .ty n, .type t, .type n, b, rfl, .ty n, ty, kit_ty k, q⟩
theorem log9 {x : Int} {a : Nat} (h : x.natAbs < 2 ^ a) (ha : a < 9000) : x.natAbs.log2 < 9000 :=
  Nat.lt_of_le_of_lt (Nat.le_of_lt_succ (PySem.Flt.log2_lt_of (k := a + 1) (Nat.succ_pos _) (Nat.lt_trans h (Nat.pow_lt_pow_right (by decide) (Nat.lt_succ_self a))))) ha
/-- a power of any whole number, its size told -/
def CPowW (i j : Int) : Prop := 0 ≤ j ∧ j ≤ 64 ∧ i.natAbs.log2 < 100000
theorem op_powW {X : Cx} : OpR X (binaryOp .Pow) (rI CPowW fun i j => .int (i ^ j.toNat)) := opI fun i j _ _ _ _ _ hc q => by
  refine pow_int hc.1 ?_ q
  have h1 : Builtin.Int.intBits i ≤ i.natAbs.log2 + 1 := by
    unfold Builtin.Int.intBits
    split <;> omega
  have h2 := hc.2.1
  have h3 := hc.2.2
  have h4 : (Builtin.Int.intBits i : Int) ≤ 100000 := by omega
  calc (Builtin.Int.intBits i : Int) * j ≤ 100000 * 64 := Int.mul_le_mul h4 h2 hc.1 (by decide)
    _ ≤ 2 ^ 27 := by decide
theorem cpowW {i j : Int} {a : Nat} (hj : 0 ≤ j) (hj2 : j ≤ 64) (h : i.natAbs < 2 ^ a) (ha : a < 100000) : CPowW i j :=
  ⟨hj, hj2, Nat.lt_of_le_of_lt (Nat.le_of_lt_succ (PySem.Flt.log2_lt_of (k := a + 1) (Nat.succ_pos _) (Nat.lt_trans h (Nat.pow_lt_pow_right (by decide) (Nat.lt_succ_self a))))) ha⟩
def rLenQ (K : PySem.W.Frag) : List V → Hp → VK → Prop := fun xs H Q => ∃ p ys, xs = [.ref p] ∧ (SqL K H p ys ∨ SqT K H p ys) ∧ Q (.int ys.length) H
end Gc

/-! boxes of lists of commands: what the program reckons, over plain lists; and the laws of it -/
namespace Gc
inductive Cmd where
  | down (n : Int) | up (n : Int) | right (n : Int) | left (n : Int) | home | stop
  deriving DecidableEq
def Cmd.dv : Cmd → Int
  | .down n => n
  | .up n => -n
  | _ => 0
def Cmd.ok : Cmd → Prop
  | .down n => 1 ≤ n
  | .up n => 1 ≤ n
  | .right n => 1 ≤ n
  | .left n => 1 ≤ n
  | _ => True
def last (cs : List Cmd) : Int := (cs.map Cmd.dv).sum
abbrev Ps := List (Int × Int)
def leK (p q : Int × Int) : Bool := decide (p.1 < q.1 ∨ (p.1 = q.1 ∧ p.2 ≤ q.2))
def look (b : Ps) (k : Int) : Option Int := (b.find? fun q => q.1 = k).map (·.2)
def put (b : Ps) (k v : Int) : Ps := if b.any (fun q => q.1 = k) then b.map (fun q => if q.1 = k then (q.1, v) else q) else b ++ [(k, v)]
def mx (i j : Int) : Int := if j > i then j else i
def req (b : Ps) (o v : Int) : Ps := put b o (mx v ((look b o).getD v))
def go : List Cmd → Int → Int → Ps → Option (Option Int × Ps)
  | [], _, need, b => some (some need, b)
  | .home :: _, _, _, _ => none
  | .stop :: _, _, _, b => some (none, b)
  | .right n :: r, off, need, b => if need > n then go r off (need - n) (req b off need) else some (none, req b off need)
  | .left n :: r, off, need, b => go r off (need + n) (req b off (need + n))
  | .down n :: r, off, need, b => go r (off - n) need b
  | .up n :: r, off, need, b => go r (off + n) need b
def srt (x : Option Int × Ps) : Option Int × Ps := (x.1, x.2.mergeSort leK)
def boxM (cs : List Cmd) (goal : Int) : Option (Option Int × Ps) := (go cs.reverse (last cs) goal []).map srt

/-! ### association lists as functions -/
def val (b : Ps) (k : Int) : Int := (look b k).getD 0
def keys (b : Ps) : List Int := b.map (·.1)
structure Good (b : Ps) : Prop where
  nd : (keys b).Nodup
  pos : ∀ q ∈ b, 1 ≤ q.2
theorem good_nil : Good [] := ⟨List.nodup_nil, fun _ h => nomatch h⟩
theorem look_nil (k : Int) : look [] k = none := rfl
theorem look_cons (q : Int × Int) (b : Ps) (k : Int) : look (q :: b) k = if q.1 = k then some q.2 else look b k := by
  unfold look
  rw [List.find?_cons]
  by_cases h : q.1 = k
  · simp [h]
  · simp [h]
theorem look_none {b : Ps} {k : Int} : look b k = none ↔ k ∉ keys b := by
  induction b with
  | nil => simp [look, keys]
  | cons q b ih =>
    rw [look_cons]
    by_cases h : q.1 = k
    · rw [if_pos h]
      simp [keys, h]
    · rw [if_neg h, ih]
      simp only [keys, List.map_cons, List.mem_cons, not_or]
      exact ⟨fun x => ⟨fun e => h e.symm, x⟩, fun x => x.2⟩
theorem look_mem {b : Ps} {k v : Int} (h : look b k = some v) : (k, v) ∈ b := by
  induction b with
  | nil => cases h
  | cons q b ih =>
    rw [look_cons] at h
    by_cases e : q.1 = k
    · rw [if_pos e] at h
      have e2 := Option.some.inj h
      rw [← e, ← e2]
      exact List.mem_cons_self
    · rw [if_neg e] at h
      exact List.mem_cons_of_mem _ (ih h)
theorem mem_look {b : Ps} {q : Int × Int} (n : (keys b).Nodup) (h : q ∈ b) : look b q.1 = some q.2 := by
  induction b with
  | nil => cases h
  | cons p b ih =>
    have n' : p.1 ∉ keys b ∧ (keys b).Nodup := List.nodup_cons.mp n
    rw [look_cons]
    rcases List.mem_cons.mp h with e | h
    · rw [e, if_pos rfl]
    · have ne : p.1 ≠ q.1 := fun e => n'.1 (by rw [e]; exact List.mem_map.mpr ⟨q, h, rfl⟩)
      rw [if_neg ne]
      exact ih n'.2 h
theorem any_key (b : Ps) (k : Int) : b.any (fun q => q.1 = k) = true ↔ k ∈ keys b := by
  simp [keys, List.any_eq_true]
theorem look_put (b : Ps) (k v j : Int) : look (put b k v) j = if k = j then some v else look b j := by
  unfold put
  by_cases h : b.any (fun q => q.1 = k) = true
  · rw [if_pos h]
    induction b with
    | nil => simp at h
    | cons q b ih =>
      rw [List.map_cons, look_cons, look_cons]
      by_cases e : q.1 = k
      · rw [if_pos e]
        by_cases e2 : k = j
        · simp [e, e2]
        · simp only [e, e2, if_false]
          by_cases hb : b.any (fun q => q.1 = k) = true
          · rw [ih hb, if_neg e2]
          · have nm : ∀ p ∈ b, ¬ p.1 = k := fun p hp z => hb (List.any_eq_true.mpr ⟨p, hp, by simpa using z⟩)
            have em : b.map (fun q => if q.1 = k then (q.1, v) else q) = b := by
              conv => rhs; rw [← List.map_id b]
              exact List.map_congr_left fun p hp => by simp [nm p hp]
            rw [em]
      · rw [if_neg e]
        have hb : b.any (fun q => q.1 = k) = true := by
          rw [List.any_cons] at h
          simpa [e] using h
        by_cases e2 : q.1 = j
        · have e3 : ¬ k = j := fun z => e (e2.trans z.symm)
          simp [e2, e3]
        · simp only [e2, if_false]
          exact ih hb
  · rw [if_neg h]
    have nk : k ∉ keys b := fun z => h ((any_key b k).mpr z)
    clear h
    induction b with
    | nil =>
      show look [(k, v)] j = _
      rw [look_cons]
    | cons q b ih =>
      have n1 : ¬ q.1 = k := fun z => nk (by simp [keys, z])
      have n2 : k ∉ keys b := fun z => nk (List.mem_cons_of_mem _ z)
      rw [List.cons_append, look_cons, look_cons]
      by_cases e2 : q.1 = j
      · have e3 : ¬ k = j := fun z => n1 (e2.trans z.symm)
        simp [e2, e3]
      · simp only [e2, if_false]
        exact ih n2
theorem keys_put (b : Ps) (k v : Int) : keys (put b k v) = if k ∈ keys b then keys b else keys b ++ [k] := by
  unfold put
  by_cases h : b.any (fun q => q.1 = k) = true
  · rw [if_pos h, if_pos ((any_key b k).mp h)]
    unfold keys
    rw [List.map_map]
    refine List.map_congr_left fun p _ => ?_
    show (if p.1 = k then (p.1, v) else p).1 = p.1
    split <;> rfl
  · rw [if_neg h, if_neg fun z => h ((any_key b k).mpr z)]
    simp [keys]
theorem good_put {b : Ps} {k v : Int} (g : Good b) (hv : 1 ≤ v) : Good (put b k v) := by
  have nd : (keys (put b k v)).Nodup := by
    rw [keys_put]
    split
    · exact g.nd
    · rename_i h
      rw [List.nodup_append]
      exact ⟨g.nd, by simp, fun a ha c hc => by
        rw [List.mem_singleton.mp hc]
        intro z
        exact h (z ▸ ha)⟩
  refine ⟨nd, fun q hq => ?_⟩
  have e := mem_look nd hq
  rw [look_put] at e
  split at e
  · rw [← Option.some.inj e]
    exact hv
  · exact g.pos (q.1, q.2) (look_mem e)
theorem val_nonneg {b : Ps} (g : Good b) (k : Int) : 0 ≤ val b k := by
  unfold val
  cases e : look b k with
  | none => exact Int.le_refl 0
  | some v =>
    have := g.pos _ (look_mem e)
    show 0 ≤ v
    have h : 1 ≤ v := this
    omega
theorem val_put (b : Ps) (k v j : Int) : val (put b k v) j = if k = j then v else val b j := by
  unfold val
  rw [look_put]
  split <;> rfl
/-- require, on functions -/
def reqF (f : Int → Int) (o v : Int) : Int → Int := fun k => if o = k then max v (f k) else f k
theorem val_req {b : Ps} (g : Good b) {o v : Int} (hv : 1 ≤ v) : val (req b o v) = reqF (val b) o v := by
  funext k
  unfold req reqF
  rw [val_put]
  by_cases h : o = k
  · subst h
    rw [if_pos rfl, if_pos rfl]
    unfold val mx
    cases e : look b o with
    | none =>
      show (if v > v then v else v) = max v 0
      rw [if_neg (by omega)]
      omega
    | some x =>
      show (if x > v then x else v) = max v x
      split <;> omega
  · rw [if_neg h, if_neg h]
theorem good_req {b : Ps} (g : Good b) {o v : Int} (hv : 1 ≤ v) : Good (req b o v) := by
  refine good_put g ?_
  unfold mx
  split <;> omega

/-! ### the walk, on functions -/
def goF : List Cmd → Int → Int → (Int → Int) → Option (Option Int × (Int → Int))
  | [], _, need, f => some (some need, f)
  | .home :: _, _, _, _ => none
  | .stop :: _, _, _, f => some (none, f)
  | .right n :: r, off, need, f => if need > n then goF r off (need - n) (reqF f off need) else some (none, reqF f off need)
  | .left n :: r, off, need, f => goF r off (need + n) (reqF f off (need + n))
  | .down n :: r, off, need, f => goF r (off - n) need f
  | .up n :: r, off, need, f => goF r (off + n) need f
def AllOk (cs : List Cmd) : Prop := ∀ c ∈ cs, c.ok
theorem go_goF : ∀ {r : List Cmd} {off need : Int} {b : Ps}, AllOk r → Good b → 1 ≤ need →
    (go r off need b = none ∧ goF r off need (val b) = none) ∨ ∃ st b', go r off need b = some (st, b') ∧ Good b' ∧ goF r off need (val b) = some (st, val b') ∧ ∀ n, st = some n → 1 ≤ n
  | [], off, need, b, _, g, hn => .inr ⟨_, _, rfl, g, rfl, fun n e => by rw [← Option.some.inj e]; exact hn⟩
  | .home :: r, off, need, b, _, g, hn => .inl ⟨rfl, rfl⟩
  | .stop :: r, off, need, b, _, g, hn => .inr ⟨_, _, rfl, g, rfl, fun n e => nomatch e⟩
  | .right n :: r, off, need, b, hk, g, hn => by
    have hk' : AllOk r := fun c hc => hk c (List.mem_cons_of_mem _ hc)
    simp only [go, goF]
    by_cases h : need > n
    · rw [if_pos h, if_pos h, ← val_req g hn]
      exact go_goF hk' (good_req g hn) (by omega)
    · rw [if_neg h, if_neg h, ← val_req g hn]
      exact .inr ⟨_, _, rfl, good_req g hn, rfl, fun n e => nomatch e⟩
  | .left n :: r, off, need, b, hk, g, hn => by
    have hk' : AllOk r := fun c hc => hk c (List.mem_cons_of_mem _ hc)
    have h1 : 1 ≤ n := hk _ List.mem_cons_self
    simp only [go, goF]
    rw [← val_req g (by omega)]
    exact go_goF hk' (good_req g (by omega)) (by omega)
  | .down n :: r, off, need, b, hk, g, hn => go_goF (r := r) (fun c hc => hk c (List.mem_cons_of_mem _ hc)) g hn
  | .up n :: r, off, need, b, hk, g, hn => go_goF (r := r) (fun c hc => hk c (List.mem_cons_of_mem _ hc)) g hn

/-! ### ascending lists are told by their functions -/
def Asc (b : Ps) : Prop := b.Pairwise fun p q => p.1 < q.1
theorem asc_nd {b : Ps} (h : Asc b) : (keys b).Nodup := by
  unfold keys
  rw [List.nodup_iff_pairwise_ne, List.pairwise_map]
  exact h.imp fun h => Int.ne_of_lt h
theorem leK_trans (a b c : Int × Int) (h1 : leK a b = true) (h2 : leK b c = true) : leK a c = true := by
  unfold leK at *
  have a1 := of_decide_eq_true h1
  have a2 := of_decide_eq_true h2
  exact decide_eq_true (by omega)
theorem leK_total (a b : Int × Int) : (leK a b || leK b a) = true := by
  unfold leK
  by_cases h : a.1 < b.1 ∨ (a.1 = b.1 ∧ a.2 ≤ b.2)
  · rw [decide_eq_true h]
    rfl
  · rw [decide_eq_true (show b.1 < a.1 ∨ (b.1 = a.1 ∧ b.2 ≤ a.2) by omega), Bool.or_true]
theorem asc_sort {b : Ps} (g : Good b) : Asc (b.mergeSort leK) := by
  have p := List.pairwise_mergeSort (le := leK) leK_trans leK_total b
  have pm := List.mergeSort_perm b leK
  have nd : (keys (b.mergeSort leK)).Nodup := (pm.map (fun q : Int × Int => q.1)).nodup_iff.mpr g.nd
  unfold keys at nd
  rw [List.nodup_iff_pairwise_ne, List.pairwise_map] at nd
  refine (p.and nd).imp fun h => ?_
  have a := of_decide_eq_true h.1
  have c := h.2
  omega
theorem good_perm {b c : Ps} (g : Good b) (p : c.Perm b) : Good c := ⟨(p.map (fun q : Int × Int => q.1)).nodup_iff.mpr g.nd, fun q hq => g.pos q (p.mem_iff.mp hq)⟩
theorem look_perm {b c : Ps} (g : Good b) (p : c.Perm b) (k : Int) : look c k = look b k := by
  have g' := good_perm g p
  cases e : look b k with
  | none =>
    rw [look_none] at e ⊢
    exact fun z => e ((p.map (fun q : Int × Int => q.1)).mem_iff.mp z)
  | some v => exact mem_look g'.nd (p.mem_iff.mpr (look_mem e))
theorem val_perm {b c : Ps} (g : Good b) (p : c.Perm b) : val c = val b := by
  funext k
  unfold val
  rw [look_perm g p]
theorem look_val {b c : Ps} (gb : Good b) (gc : Good c) (h : val b = val c) (k : Int) : look b k = look c k := by
  have e := congrFun h k
  unfold val at e
  cases e1 : look b k with
  | none =>
    cases e2 : look c k with
    | none => rfl
    | some v =>
      rw [e1, e2] at e
      have : 1 ≤ v := gc.pos _ (look_mem e2)
      have e' : (0 : Int) = v := e
      omega
  | some u =>
    cases e2 : look c k with
    | none =>
      rw [e1, e2] at e
      have : 1 ≤ u := gb.pos _ (look_mem e1)
      have e' : u = (0 : Int) := e
      omega
    | some v =>
      rw [e1, e2] at e
      have e' : u = v := e
      rw [e']
theorem asc_ext : ∀ {b c : Ps}, Asc b → Asc c → (∀ k, look b k = look c k) → b = c
  | [], [], _, _, _ => rfl
  | [], q :: c, _, _, h => by
    have e := h q.1
    rw [look_cons, if_pos rfl] at e
    cases e
  | q :: b, [], _, _, h => by
    have e := h q.1
    rw [look_cons, if_pos rfl] at e
    cases e
  | p :: b, q :: c, hb, hc, h => by
    have hb' := List.pairwise_cons.mp hb
    have hc' := List.pairwise_cons.mp hc
    have e1 := h p.1
    rw [look_cons, if_pos rfl, look_cons] at e1
    have e2 := h q.1
    rw [look_cons, look_cons, if_pos rfl] at e2
    have key : p.1 = q.1 := by
      by_cases x : q.1 = p.1
      · exact x.symm
      · rw [if_neg x] at e1
        rw [if_neg fun z => x z.symm] at e2
        have m1 := hc'.1 _ (look_mem e1.symm)
        have m2 := hb'.1 _ (look_mem e2)
        have m1' : q.1 < p.1 := m1
        have m2' : p.1 < q.1 := m2
        omega
    rw [if_pos key.symm] at e1
    have hpq : p = q := Prod.ext key (Option.some.inj e1)
    subst hpq
    rw [asc_ext hb'.2 hc'.2 fun k => ?_]
    have e := h k
    rw [look_cons, look_cons] at e
    by_cases x : p.1 = k
    · have n1 : look b k = none := look_none.mpr fun z => by
        obtain ⟨r, hr, er⟩ := List.mem_map.mp z
        have := hb'.1 r hr
        omega
      have n2 : look c k = none := look_none.mpr fun z => by
        obtain ⟨r, hr, er⟩ := List.mem_map.mp z
        have := hc'.1 r hr
        omega
      rw [n1, n2]
    · rw [if_neg x, if_neg x] at e
      exact e
theorem sort_ext {b c : Ps} (gb : Good b) (gc : Good c) (h : val b = val c) : b.mergeSort leK = c.mergeSort leK :=
  asc_ext (asc_sort gb) (asc_sort gc) fun k => by
    rw [look_perm gb (List.mergeSort_perm b leK), look_perm gc (List.mergeSort_perm c leK)]
    exact look_val gb gc h k
end Gc

/-! laws of boxes: joined lists, greater goals, multiplied moves -/
namespace Gc
abbrev BF := Option (Option Int × (Int → Int))
def boxF (cs : List Cmd) (goal : Int) : BF := goF cs.reverse (last cs) goal fun _ => 0
theorem val_nil : val [] = fun _ => 0 := rfl
theorem allOk_rev {cs : List Cmd} (h : AllOk cs) : AllOk cs.reverse := fun c hc => h c (List.mem_reverse.mp hc)
theorem box_spec {cs : List Cmd} {goal : Int} (h : AllOk cs) (hg : 1 ≤ goal) :
    (boxM cs goal = none ∧ boxF cs goal = none) ∨ ∃ st b, boxM cs goal = some (st, b.mergeSort leK) ∧ Good b ∧ boxF cs goal = some (st, val b) ∧ ∀ n, st = some n → 1 ≤ n := by
  unfold boxM boxF
  rw [← val_nil]
  rcases go_goF (off := last cs) (allOk_rev h) good_nil hg with ⟨e1, e2⟩ | ⟨st, b, e1, g, e2, p⟩
  · exact .inl ⟨by rw [e1]; rfl, e2⟩
  · exact .inr ⟨st, b, by rw [e1]; rfl, g, e2, p⟩
def thenF (x : BF) (k : Int → (Int → Int) → BF) : BF := match x with
  | none => none
  | some (none, g) => some (none, g)
  | some (some n, g) => k n g
theorem goF_app : ∀ (a b : List Cmd) (off need : Int) (f : Int → Int), goF (a ++ b) off need f = thenF (goF a off need f) fun n g => goF b (off - (a.map Cmd.dv).sum) n g
  | [], b, off, need, f => by
    show goF b off need f = goF b (off - 0) need f
    rw [Int.sub_zero]
  | .home :: a, b, off, need, f => rfl
  | .stop :: a, b, off, need, f => rfl
  | .right n :: a, b, off, need, f => by
    have e : off - (((Cmd.right n :: a).map Cmd.dv).sum) = off - (a.map Cmd.dv).sum := by
      rw [List.map_cons, List.sum_cons]
      show off - (0 + _) = _
      omega
    rw [e, List.cons_append]
    simp only [goF]
    by_cases h : need > n
    · rw [if_pos h, if_pos h]
      exact goF_app a b off (need - n) _
    · rw [if_neg h, if_neg h]
      rfl
  | .left n :: a, b, off, need, f => by
    have e : off - (((Cmd.left n :: a).map Cmd.dv).sum) = off - (a.map Cmd.dv).sum := by
      rw [List.map_cons, List.sum_cons]
      show off - (0 + _) = _
      omega
    rw [e, List.cons_append]
    exact goF_app a b off (need + n) _
  | .down n :: a, b, off, need, f => by
    have e : off - (((Cmd.down n :: a).map Cmd.dv).sum) = off - n - (a.map Cmd.dv).sum := by
      rw [List.map_cons, List.sum_cons]
      show off - (n + _) = _
      omega
    rw [e, List.cons_append]
    exact goF_app a b (off - n) need f
  | .up n :: a, b, off, need, f => by
    have e : off - (((Cmd.up n :: a).map Cmd.dv).sum) = off + n - (a.map Cmd.dv).sum := by
      rw [List.map_cons, List.sum_cons]
      show off - (-n + _) = _
      omega
    rw [e, List.cons_append]
    exact goF_app a b (off + n) need f
theorem goF_shift (d : Int) : ∀ (r : List Cmd) (off need : Int) (f : Int → Int), goF r (off + d) need (fun k => f (k - d)) = (goF r off need f).map fun x => (x.1, fun k => x.2 (k - d))
  | [], off, need, f => rfl
  | .home :: r, off, need, f => rfl
  | .stop :: r, off, need, f => rfl
  | .right n :: r, off, need, f => by
    have e : reqF (fun k => f (k - d)) (off + d) need = fun k => reqF f off need (k - d) := by
      funext k
      unfold reqF
      by_cases h : off + d = k
      · rw [if_pos h, if_pos (by omega)]
      · rw [if_neg h, if_neg (by omega)]
    simp only [goF]
    rw [e]
    by_cases h : need > n
    · rw [if_pos h, if_pos h]
      exact goF_shift d r off (need - n) _
    · rw [if_neg h, if_neg h]
      rfl
  | .left n :: r, off, need, f => by
    have e : reqF (fun k => f (k - d)) (off + d) (need + n) = fun k => reqF f off (need + n) (k - d) := by
      funext k
      unfold reqF
      by_cases h : off + d = k
      · rw [if_pos h, if_pos (by omega)]
      · rw [if_neg h, if_neg (by omega)]
    simp only [goF]
    rw [e]
    exact goF_shift d r off (need + n) _
  | .down n :: r, off, need, f => by
    simp only [goF]
    rw [show off + d - n = off - n + d by omega]
    exact goF_shift d r (off - n) need f
  | .up n :: r, off, need, f => by
    simp only [goF]
    rw [show off + d + n = off + n + d by omega]
    exact goF_shift d r (off + n) need f
theorem goF_max (h : Int → Int) : ∀ (r : List Cmd) (off need : Int) (f : Int → Int), goF r off need (fun k => max (f k) (h k)) = (goF r off need f).map fun x => (x.1, fun k => max (x.2 k) (h k))
  | [], off, need, f => rfl
  | .home :: r, off, need, f => rfl
  | .stop :: r, off, need, f => rfl
  | .right n :: r, off, need, f => by
    have e : reqF (fun k => max (f k) (h k)) off need = fun k => max (reqF f off need k) (h k) := by
      funext k
      unfold reqF
      show (if _ then _ else _) = _
      by_cases q : off = k
      · simp only [q, if_true]
        rw [Int.max_assoc]
      · simp only [q, if_false]
    simp only [goF]
    rw [e]
    by_cases c : need > n
    · rw [if_pos c, if_pos c]
      exact goF_max h r off (need - n) _
    · rw [if_neg c, if_neg c]
      rfl
  | .left n :: r, off, need, f => by
    have e : reqF (fun k => max (f k) (h k)) off (need + n) = fun k => max (reqF f off (need + n) k) (h k) := by
      funext k
      unfold reqF
      show (if _ then _ else _) = _
      by_cases q : off = k
      · simp only [q, if_true]
        rw [Int.max_assoc]
      · simp only [q, if_false]
    simp only [goF]
    rw [e]
    exact goF_max h r off (need + n) _
  | .down n :: r, off, need, f => goF_max h r (off - n) need f
  | .up n :: r, off, need, f => goF_max h r (off + n) need f
theorem last_app (a b : List Cmd) : last (a ++ b) = last a + last b := by
  unfold last
  rw [List.map_append, List.sum_append]
theorem sum_rev (l : List Int) : l.reverse.sum = l.sum := by
  induction l with
  | nil => rfl
  | cons a l ih =>
    rw [List.reverse_cons, List.sum_append, ih, List.sum_cons]
    simp
    omega
theorem boxF_app (early late : List Cmd) (aim : Int) (pos : ∀ st g, boxF late aim = some (st, g) → ∀ k, 0 ≤ g k) :
    boxF (early ++ late) aim = match boxF late aim with
      | none => none
      | some (none, g) => some (none, fun k => g (k - last early))
      | some (some n, g) => (boxF early n).map fun x => (x.1, fun k => max (x.2 k) (g (k - last early))) := by
  unfold boxF
  rw [List.reverse_append, goF_app, last_app, Int.add_comm (last early)]
  have sh : goF late.reverse (last late + last early) aim (fun _ => 0) = (goF late.reverse (last late) aim fun _ => 0).map fun x => (x.1, fun k => x.2 (k - last early)) :=
    goF_shift (last early) late.reverse (last late) aim fun _ => 0
  rw [sh]
  have pos' := pos
  unfold boxF at pos'
  cases e : goF late.reverse (last late) aim (fun _ => 0) with
  | none => rfl
  | some x =>
    obtain ⟨st, g⟩ := x
    cases st with
    | none => rfl
    | some n =>
      show goF early.reverse (last late + last early - (late.reverse.map Cmd.dv).sum) n (fun k => g (k - last early)) = _
      have es : (late.reverse.map Cmd.dv).sum = last late := by
        rw [List.map_reverse, sum_rev]
        rfl
      rw [es, show last late + last early - last late = last early by omega]
      have em : (fun k => g (k - last early)) = fun k => max ((fun _ => 0 : Int → Int) k) (g (k - last early)) := by
        funext k
        have := pos' _ _ e (k - last early)
        show g (k - last early) = max 0 (g (k - last early))
        omega
      rw [em, goF_max]

/-! ### the law's own joining -/
def shiftK (d : Int) (b : Ps) : Ps := b.map fun q => (q.1 + d, q.2)
def addAll (b : Ps) (l : Ps) : Ps := l.foldl (fun b q => put b q.1 (mx q.2 ((look b q.1).getD 0))) b
def joinedM (early late : List Cmd) (gone aim : Int) : Option (Option Int × Ps) := match boxM late aim with
  | none => none
  | some (none, l) => some (none, (shiftK gone l).mergeSort leK)
  | some (some n, l) => match boxM early n with
    | none => none
    | some (st, m) => some (st, (addAll (shiftK gone l) m).mergeSort leK)
theorem look_shift (d : Int) : ∀ (b : Ps) (k : Int), look (shiftK d b) k = look b (k - d)
  | [], _ => rfl
  | q :: b, k => by
    show look ((q.1 + d, q.2) :: shiftK d b) k = _
    rw [look_cons, look_cons, look_shift d b]
    by_cases h : q.1 + d = k
    · rw [if_pos h, if_pos (by omega)]
    · rw [if_neg h, if_neg (by omega)]
theorem good_shift (d : Int) {b : Ps} (g : Good b) : Good (shiftK d b) := by
  refine ⟨?_, fun q hq => ?_⟩
  · have e : keys (shiftK d b) = (keys b).map (· + d) := by
      unfold keys shiftK
      rw [List.map_map, List.map_map]
      rfl
    rw [e, List.nodup_iff_pairwise_ne, List.pairwise_map]
    exact (List.nodup_iff_pairwise_ne.mp g.nd).imp fun h => by omega
  · obtain ⟨p, hp, rfl⟩ := List.mem_map.mp hq
    exact g.pos p hp
theorem val_shift (d : Int) (b : Ps) : val (shiftK d b) = fun k => val b (k - d) := by
  funext k
  unfold val
  rw [look_shift]
theorem val_cons (q : Int × Int) (b : Ps) (k : Int) : val (q :: b) k = if q.1 = k then q.2 else val b k := by
  unfold val
  rw [look_cons]
  split <;> rfl
theorem val_out {b : Ps} {k : Int} (h : k ∉ keys b) : val b k = 0 := by
  unfold val
  rw [look_none.mpr h]
  rfl
theorem addAll_good : ∀ {l b : Ps}, Good b → Good l → Good (addAll b l) ∧ ∀ k, val (addAll b l) k = max (val l k) (val b k)
  | [], b, gb, _ => ⟨gb, fun k => by
      have := val_nonneg gb k
      show val b k = max 0 (val b k)
      omega⟩
  | q :: l, b, gb, gl => by
    have nq : q.1 ∉ keys l ∧ (keys l).Nodup := List.nodup_cons.mp gl.nd
    have p1 : 1 ≤ q.2 := gl.pos q List.mem_cons_self
    have gl' : Good l := ⟨nq.2, fun p hp => gl.pos p (List.mem_cons_of_mem _ hp)⟩
    have hv : 1 ≤ mx q.2 ((look b q.1).getD 0) := by
      unfold mx
      split <;> omega
    obtain ⟨g, v⟩ := addAll_good (b := put b q.1 (mx q.2 ((look b q.1).getD 0))) (good_put gb hv) gl'
    refine ⟨g, fun k => ?_⟩
    show val (addAll (put b q.1 (mx q.2 ((look b q.1).getD 0))) l) k = _
    rw [v k, val_put, val_cons]
    by_cases h : q.1 = k
    · subst h
      rw [if_pos rfl, if_pos rfl, val_out nq.1]
      have : mx q.2 ((look b q.1).getD 0) = max q.2 (val b q.1) := by
        unfold mx val
        split <;> omega
      rw [this]
      omega
    · rw [if_neg h, if_neg h]
theorem joined (early late : List Cmd) {aim : Int} (he : AllOk early) (hl : AllOk late) (ha : 1 ≤ aim) : boxM (early ++ late) aim = joinedM early late (last early) aim := by
  have hw : AllOk (early ++ late) := fun c hc => (List.mem_append.mp hc).elim (he c) (hl c)
  have srtd : ∀ {b c : Ps}, Good b → Good c → val b = val c → b.mergeSort leK = c.mergeSort leK := fun gb gc h => sort_ext gb gc h
  rcases box_spec hl ha with ⟨e1, e2⟩ | ⟨st, b, e1, gb, e2, pb⟩
  · have f := boxF_app early late aim fun st g h => by rw [e2] at h; cases h
    rw [e2] at f
    rcases box_spec hw ha with ⟨w1, _⟩ | ⟨_, _, _, _, w2, _⟩
    · rw [w1]
      unfold joinedM
      rw [e1]
    · rw [w2] at f
      cases f
  · have f := boxF_app early late aim fun st g h => by
      rw [e2] at h
      cases h
      exact val_nonneg gb
    rw [e2] at f
    have gs : Good (b.mergeSort leK) := good_perm gb (List.mergeSort_perm b leK)
    have vs : val (b.mergeSort leK) = val b := val_perm gb (List.mergeSort_perm b leK)
    cases st with
    | none =>
      rcases box_spec hw ha with ⟨_, w2⟩ | ⟨st', c, w1, gc, w2, _⟩
      · rw [w2] at f
        cases f
      · rw [w2] at f
        have f' := Option.some.inj f
        have f1 : st' = none := congrArg Prod.fst f'
        have f2 : val c = fun k => val b (k - last early) := congrArg Prod.snd f'
        rw [w1, f1]
        unfold joinedM
        rw [e1]
        show some ((none : Option Int), c.mergeSort leK) = some (none, (shiftK (last early) (b.mergeSort leK)).mergeSort leK)
        rw [srtd gc (good_shift _ gs) (by rw [f2, val_shift, vs])]
    | some n =>
      have hn := pb n rfl
      rcases box_spec he hn with ⟨x1, x2⟩ | ⟨st2, m, x1, gm, x2, _⟩
      · have f' : boxF (early ++ late) aim = (boxF early n).map fun x => (x.1, fun k => max (x.2 k) (val b (k - last early))) := f
        rw [x2] at f'
        rcases box_spec hw ha with ⟨w1, _⟩ | ⟨_, _, _, _, w2, _⟩
        · rw [w1]
          unfold joinedM
          rw [e1]
          show none = match boxM early n with | none => none | some (st, m) => _
          rw [x1]
        · rw [w2] at f'
          cases f'
      · have f' : boxF (early ++ late) aim = (boxF early n).map fun x => (x.1, fun k => max (x.2 k) (val b (k - last early))) := f
        rw [x2] at f'
        rcases box_spec hw ha with ⟨_, w2⟩ | ⟨st', c, w1, gc, w2, _⟩
        · rw [w2] at f'
          cases f'
        · rw [w2] at f'
          have f3 := Option.some.inj f'
          have f1 : st' = st2 := congrArg Prod.fst f3
          have f2 : val c = fun k => max (val m k) (val b (k - last early)) := congrArg Prod.snd f3
          rw [w1, f1]
          unfold joinedM
          rw [e1]
          show some (st2, c.mergeSort leK) = match boxM early n with | none => none | some (st, m) => _
          rw [x1]
          show some (st2, c.mergeSort leK) = some (st2, (addAll (shiftK (last early) (b.mergeSort leK)) (m.mergeSort leK)).mergeSort leK)
          have gms : Good (m.mergeSort leK) := good_perm gm (List.mergeSort_perm m leK)
          obtain ⟨ga, va⟩ := addAll_good (good_shift (last early) gs) gms
          rw [srtd gc ga (by
            funext k
            rw [f2, va k, val_perm gm (List.mergeSort_perm m leK), val_shift, vs])]

/-! ### a greater goal -/
theorem reqF_mono {f g : Int → Int} {o v u : Int} (h : ∀ k, f k ≤ g k) (hv : v ≤ u) (k : Int) : reqF f o v k ≤ reqF g o u k := by
  have := h k
  unfold reqF
  split <;> omega
theorem reqF_ge (f : Int → Int) (o v k : Int) : f k ≤ reqF f o v k := by
  unfold reqF
  split <;> omega
theorem goF_ge : ∀ {r : List Cmd} {off need : Int} {f : Int → Int} {st : Option Int} {g : Int → Int}, goF r off need f = some (st, g) → ∀ k, f k ≤ g k
  | [], off, need, f, st, g, h, k => by cases h; exact Int.le_refl _
  | .home :: r, off, need, f, st, g, h, k => by cases h
  | .stop :: r, off, need, f, st, g, h, k => by cases h; exact Int.le_refl _
  | .right n :: r, off, need, f, st, g, h, k => by
    simp only [goF] at h
    by_cases c : need > n
    · rw [if_pos c] at h
      exact Int.le_trans (reqF_ge f off need k) (goF_ge h k)
    · rw [if_neg c] at h
      cases h
      exact reqF_ge f off need k
  | .left n :: r, off, need, f, st, g, h, k => Int.le_trans (reqF_ge f off (need + n) k) (goF_ge (r := r) h k)
  | .down n :: r, off, need, f, st, g, h, k => goF_ge (r := r) h k
  | .up n :: r, off, need, f, st, g, h, k => goF_ge (r := r) h k
def Less (x y : BF) : Prop := y = none ∨ ∃ st g st' g', x = some (st, g) ∧ y = some (st', g') ∧ (∀ n, st = some n → ∃ n', st' = some n' ∧ n ≤ n') ∧ ∀ k, g k ≤ g' k
theorem goF_mono : ∀ {r : List Cmd} {off need need' : Int} {f f' : Int → Int}, need ≤ need' → (∀ k, f k ≤ f' k) → Less (goF r off need f) (goF r off need' f')
  | [], off, need, need', f, f', h, hf => .inr ⟨_, _, _, _, rfl, rfl, fun n e => ⟨need', rfl, by rw [← Option.some.inj e]; exact h⟩, hf⟩
  | .home :: r, off, need, need', f, f', h, hf => .inl rfl
  | .stop :: r, off, need, need', f, f', h, hf => .inr ⟨_, _, _, _, rfl, rfl, (fun n e => nomatch e), hf⟩
  | .right n :: r, off, need, need', f, f', h, hf => by
    simp only [goF]
    have m := reqF_mono (o := off) hf h
    by_cases c : need > n
    · rw [if_pos c, if_pos (by omega)]
      exact goF_mono (by omega) m
    · rw [if_neg c]
      by_cases c' : need' > n
      · rw [if_pos c']
        cases e : goF r off (need' - n) (reqF f' off need') with
        | none => exact .inl rfl
        | some x => exact .inr ⟨_, _, x.1, x.2, rfl, rfl, (fun n e => nomatch e), fun k => Int.le_trans (m k) (goF_ge e k)⟩
      · rw [if_neg c']
        exact .inr ⟨_, _, _, _, rfl, rfl, (fun n e => nomatch e), m⟩
  | .left n :: r, off, need, need', f, f', h, hf => goF_mono (r := r) (by omega) (reqF_mono (o := off) hf (by omega))
  | .down n :: r, off, need, need', f, f', h, hf => goF_mono (r := r) h hf
  | .up n :: r, off, need, need', f, f', h, hf => goF_mono (r := r) h hf
theorem box_mono {cs : List Cmd} {aim more : Int} (h : AllOk cs) (ha : 1 ≤ aim) (hm : aim ≤ more) :
    boxM cs more = none ∨ ∃ st l st' l', boxM cs aim = some (st, l) ∧ boxM cs more = some (st', l') ∧ (∀ n, st = some n → ∃ n', st' = some n' ∧ n ≤ n') ∧ ∀ q ∈ l, q.2 ≤ val l' q.1 := by
  have m : Less (boxF cs aim) (boxF cs more) := goF_mono hm fun _ => Int.le_refl _
  rcases box_spec h (show 1 ≤ more by omega) with ⟨e1, _⟩ | ⟨st', b', e1, g', e2, _⟩
  · exact .inl e1
  · rcases m with m | ⟨st, g, st2, g2, m1, m2, m3, m4⟩
    · rw [e2] at m
      cases m
    · rw [e2] at m2
      cases m2
      rcases box_spec h ha with ⟨_, x2⟩ | ⟨st3, b, x1, gb, x2, _⟩
      · rw [x2] at m1
        cases m1
      · rw [x2] at m1
        cases m1
        refine .inr ⟨st, _, st', _, x1, e1, m3, fun q hq => ?_⟩
        have gs : Good (b.mergeSort leK) := good_perm gb (List.mergeSort_perm b leK)
        have v : val (b.mergeSort leK) q.1 = q.2 := by
          unfold val
          rw [mem_look gs.nd hq]
          rfl
        rw [val_perm gb (List.mergeSort_perm b leK)] at v
        rw [val_perm g' (List.mergeSort_perm b' leK), ← v]
        exact m4 q.1

/-! ### moves multiplied -/
def Cmd.mul (F : Int) : Cmd → Cmd
  | .down n => .down (n * F)
  | .up n => .up (n * F)
  | c => c
def mulK (F : Int) (b : Ps) : Ps := b.map fun q => (q.1 * F, q.2)
theorem mul_inj {F a b : Int} (hF : 1 ≤ F) : a * F = b * F ↔ a = b := ⟨fun h => Int.eq_of_mul_eq_mul_right (by omega) h, fun h => by rw [h]⟩
theorem look_mul {F : Int} (hF : 1 ≤ F) : ∀ (b : Ps) (k : Int), look (mulK F b) (k * F) = look b k
  | [], _ => rfl
  | q :: b, k => by
    show look ((q.1 * F, q.2) :: mulK F b) (k * F) = _
    rw [look_cons, look_cons, look_mul hF b]
    by_cases h : q.1 = k
    · rw [if_pos h, if_pos (by rw [h])]
    · rw [if_neg h, if_neg fun z => h ((mul_inj hF).mp z)]
theorem put_mul {F : Int} (hF : 1 ≤ F) (b : Ps) (k v : Int) : put (mulK F b) (k * F) v = mulK F (put b k v) := by
  unfold put
  have ea : (mulK F b).any (fun q => decide (q.1 = k * F)) = b.any (fun q => decide (q.1 = k)) := by
    unfold mulK
    rw [List.any_map]
    congr 1
    funext q
    show decide (q.1 * F = k * F) = decide (q.1 = k)
    exact decide_eq_decide.mpr (mul_inj hF)
  rw [ea]
  by_cases h : b.any (fun q => decide (q.1 = k)) = true
  · rw [if_pos h, if_pos h]
    unfold mulK
    rw [List.map_map, List.map_map]
    refine List.map_congr_left fun q _ => ?_
    show (if q.1 * F = k * F then (q.1 * F, v) else (q.1 * F, q.2)) = ((if q.1 = k then (q.1, v) else q).1 * F, (if q.1 = k then (q.1, v) else q).2)
    by_cases e : q.1 = k
    · rw [if_pos e, if_pos (by rw [e])]
    · rw [if_neg e, if_neg fun z => e ((mul_inj hF).mp z)]
  · rw [if_neg h, if_neg h]
    unfold mulK
    rw [List.map_append]
    rfl
theorem req_mul {F : Int} (hF : 1 ≤ F) (b : Ps) (o v : Int) : req (mulK F b) (o * F) v = mulK F (req b o v) := by
  unfold req
  rw [look_mul hF, put_mul hF]
theorem go_mul {F : Int} (hF : 1 ≤ F) : ∀ (r : List Cmd) (off need : Int) (b : Ps), go (r.map (Cmd.mul F)) (off * F) need (mulK F b) = (go r off need b).map fun x => (x.1, mulK F x.2)
  | [], off, need, b => rfl
  | .home :: r, off, need, b => rfl
  | .stop :: r, off, need, b => rfl
  | .right n :: r, off, need, b => by
    show (if need > n then go (r.map (Cmd.mul F)) (off * F) (need - n) (req (mulK F b) (off * F) need) else some (none, req (mulK F b) (off * F) need)) = (if need > n then go r off (need - n) (req b off need) else some (none, req b off need)).map _
    rw [req_mul hF]
    by_cases c : need > n
    · rw [if_pos c, if_pos c]
      exact go_mul hF r off (need - n) _
    · rw [if_neg c, if_neg c]
      rfl
  | .left n :: r, off, need, b => by
    show go (r.map (Cmd.mul F)) (off * F) (need + n) (req (mulK F b) (off * F) (need + n)) = _
    rw [req_mul hF]
    exact go_mul hF r off (need + n) _
  | .down n :: r, off, need, b => by
    show go (r.map (Cmd.mul F)) (off * F - n * F) need (mulK F b) = _
    rw [← Int.sub_mul]
    exact go_mul hF r (off - n) need b
  | .up n :: r, off, need, b => by
    show go (r.map (Cmd.mul F)) (off * F + n * F) need (mulK F b) = _
    rw [← Int.add_mul]
    exact go_mul hF r (off + n) need b
theorem last_mul (F : Int) : ∀ cs : List Cmd, last (cs.map (Cmd.mul F)) = last cs * F
  | [] => by show (0 : Int) = 0 * F; omega
  | c :: cs => by
    have e : ∀ (c : Cmd) (cs : List Cmd), last (c :: cs) = c.dv + last cs := fun _ _ => rfl
    have d : (c.mul F).dv = c.dv * F := by
      cases c with
      | up n =>
        show -(n * F) = -n * F
        rw [Int.neg_mul]
      | down n => rfl
      | right n => show (0 : Int) = 0 * F; omega
      | left n => show (0 : Int) = 0 * F; omega
      | home => show (0 : Int) = 0 * F; omega
      | stop => show (0 : Int) = 0 * F; omega
    rw [List.map_cons, e, e, last_mul F cs, d, Int.add_mul]
theorem good_mul {F : Int} (hF : 1 ≤ F) {b : Ps} (g : Good b) : Good (mulK F b) := by
  refine ⟨?_, fun q hq => ?_⟩
  · have e : keys (mulK F b) = (keys b).map (· * F) := by
      unfold keys mulK
      rw [List.map_map, List.map_map]
      rfl
    rw [e, List.nodup_iff_pairwise_ne, List.pairwise_map]
    exact (List.nodup_iff_pairwise_ne.mp g.nd).imp fun h z => h ((mul_inj hF).mp z)
  · obtain ⟨p, hp, rfl⟩ := List.mem_map.mp hq
    exact g.pos p hp
theorem asc_mul {F : Int} (hF : 1 ≤ F) {b : Ps} (h : Asc b) : Asc (mulK F b) := by
  unfold Asc mulK
  rw [List.pairwise_map]
  exact h.imp fun h => Int.mul_lt_mul_of_pos_right h (by omega)
theorem box_mul {F : Int} (hF : 1 ≤ F) {cs : List Cmd} {goal : Int} (h : AllOk cs) (hg : 1 ≤ goal) :
    boxM (cs.map (Cmd.mul F)) goal = (boxM cs goal).map fun x => (x.1, mulK F x.2) := by
  unfold boxM
  rw [last_mul, ← List.map_reverse]
  have e := go_mul hF cs.reverse (last cs) goal []
  have e' : go (cs.reverse.map (Cmd.mul F)) (last cs * F) goal [] = (go cs.reverse (last cs) goal []).map fun x => (x.1, mulK F x.2) := e
  rw [e']
  rcases go_goF (off := last cs) (allOk_rev h) good_nil hg with ⟨e1, _⟩ | ⟨st, b, e1, g, _, _⟩
  · rw [e1]
    rfl
  · rw [e1]
    show some (st, (mulK F b).mergeSort leK) = some (st, mulK F (b.mergeSort leK))
    have gm := good_mul hF g
    have key : (mulK F b).mergeSort leK = mulK F (b.mergeSort leK) := by
      have p : (mulK F (b.mergeSort leK)).Perm (mulK F b) := (List.mergeSort_perm b leK).map _
      refine asc_ext (asc_sort gm) (asc_mul hF (asc_sort g)) fun k => ?_
      rw [look_perm gm (List.mergeSort_perm _ leK), look_perm gm p]
    rw [key]
def Cmd.vert : Cmd → Bool
  | .down _ => true
  | .up _ => true
  | _ => false
theorem go_plain : ∀ (r : List Cmd) (off need : Int) (b : Ps), (∀ c ∈ r, c.vert = true) → go r off need b = some (some need, b)
  | [], _, _, _, _ => rfl
  | .down n :: r, off, need, b, h => go_plain r (off - n) need b fun c hc => h c (List.mem_cons_of_mem _ hc)
  | .up n :: r, off, need, b, h => go_plain r (off + n) need b fun c hc => h c (List.mem_cons_of_mem _ hc)
  | .right n :: r, _, _, _, h => nomatch h _ List.mem_cons_self
  | .left n :: r, _, _, _, h => nomatch h _ List.mem_cons_self
  | .home :: r, _, _, _, h => nomatch h _ List.mem_cons_self
  | .stop :: r, _, _, _, h => nomatch h _ List.mem_cons_self
theorem box_plain (cs : List Cmd) (goal : Int) (h : ∀ c ∈ cs, c.vert = true) : boxM cs goal = some (some goal, []) := by
  unfold boxM
  rw [go_plain cs.reverse (last cs) goal [] fun c hc => h c (List.mem_reverse.mp hc)]
  show some (some goal, ([] : Ps).mergeSort leK) = _
  rw [List.mergeSort_nil]
end Gc

/-! sorted(d.items()), d a dict of ints by ints -/
namespace Gc
open PySem PySem.Spec PyProof.Rows L2
/-- what such a dict holds -/
def dkI (ps : List (Int × Int)) : List (L2.Key × V) := ps.map fun q => (Sum.inl q.1, V.int q.2)
def encP (q : Int × Int) : PyData := .tuple [.int q.1, .int q.2]
def leP (p q : Int × Int) : Bool := decide (p.1 < q.1 ∨ (p.1 = q.1 ∧ p.2 ≤ q.2))
theorem dkI_at {ps : List (Int × Int)} {j : Nat} {kv : L2.Key × V} (h : (dkI ps)[j]? = some kv) : ∃ q, ps[j]? = some q ∧ kv = (Sum.inl q.1, V.int q.2) := by
  unfold dkI at h
  rw [List.getElem?_map] at h
  cases e : ps[j]? with
  | none =>
    rw [e] at h
    cases h
  | some q =>
    rw [e] at h
    exact ⟨q, rfl, (Option.some.inj h).symm⟩
theorem pairs_at {P : Program} {w : World} : ∀ {es : List DictEntry} {vs : List (L2.Key × Value)} {j : Nat} {e : DictEntry}, Pairs (mixKind P w) es vs → es[j]? = some e →
    ∃ kv, vs[j]? = some kv ∧ keyIs kv.1 e.key = true ∧ e.val = kv.2
  | _, _, 0, e, .cons h1 h2 _, h => by
    obtain rfl := Option.some.inj h
    exact ⟨_, rfl, h1, h2⟩
  | _, _, j + 1, e, .cons _ _ t, h => pairs_at (j := j) t h
theorem pairs_len {P : Program} {w : World} : ∀ {es : List DictEntry} {vs : List (L2.Key × Value)}, Pairs (mixKind P w) es vs → es.length = vs.length
  | _, _, .nil => rfl
  | _, _, .cons _ _ t => by
    rw [List.length_cons, List.length_cons, pairs_len t]
def rSortItI : V → Hp → VK → Prop := fun x H Q => ∃ (d : Addr) (ps : List (Int × Int)), x = .ref d ∧ H d = some (.dK (dkI ps)) ∧
  ∀ (H' : Hp) (l : Addr) (ts : List Addr), Same H H' → H l = none → H' l = some (.lst (ts.map V.ref)) →
    Paired (fun (t : Addr) (q : Int × Int) => H' t = some (.tup [.int q.1, .int q.2])) ts (ps.mergeSort leP) → Q (.ref l) H'
theorem each_paired {R : Value → Int × Int → Prop} {F : Addr → Int × Int → Prop} (hR : ∀ v q, R v q → ∃ t, v = .ref t ∧ F t q) : ∀ {vs : List Value} {qs : List (Int × Int)}, PySem.W.EachIs R vs qs →
    ∃ ts : List Addr, vs = ts.map Value.ref ∧ Paired F ts qs
  | _, _, .nil => ⟨[], rfl, .nil⟩
  | _, _, .cons h t => by
    obtain ⟨t0, e0, f0⟩ := hR _ _ h
    obtain ⟨ts, e1, f1⟩ := each_paired hR t
    exact ⟨t0 :: ts, by rw [e0, e1]; rfl, .cons f0 f1⟩
theorem vals_refs : ∀ as : List Addr, Vals (as.map V.ref) (as.map Value.ref)
  | [] => .nil
  | _ :: as => .cons rfl (vals_refs as)
section
variable {X : Cx}
theorem sort_items_run {pins : List (Addr × Obj)} {σ : L2.St} {H : Hp} {s : Shared} {Q : VK} {p d : Addr} {ps : List (Int × Int)} (I : Inv X pins σ H s) (hh : X.A.handled = none)
    (hu : X.A.units + 64 < cLine) (hd : H d = some (.dK (dkI ps))) (view : s.heap.IsItemsView p d)
    (q : ∀ (H' : Hp) (l : Addr) (ts : List Addr), Same H H' → H l = none → H' l = some (.lst (ts.map V.ref)) →
      Paired (fun (t : Addr) (q : Int × Int) => H' t = some (.tup [.int q.1, .int q.2])) ts (ps.mergeSort leP) → Q (.ref l) H') :
    wpAny (model X.prog X.w) X.A (call (.builtin "sorted") [.ref p]) (EP X pins σ Q) X.xe s := by
  obtain ⟨hz, hs0, vs, kv, o, es, ep, ho, hx, hdat, hko, hpr, hnd⟩ := (show ObjOk X.prog X.w H s.heap d (.dK (dkI ps)) from I.hok d _ hd)
  have l1 : (dkI ps).length = vs.length := Paired.length kv
  have l2 : es.toList.length = vs.length := pairs_len hpr
  have l3 : (dkI ps).length = ps.length := List.length_map ..
  have l4 : es.toList.length = es.size := by simp
  have ent : ∀ (j : Nat) (e : DictEntry), es[j]? = some e → ∃ (q : Int × Int) (t1 t2 : Tok), ps[j]? = some q ∧ e.key = .int q.1 t1 ∧ e.val = .int q.2 t2 := by
    intro j e he
    obtain ⟨kv', e1, e2, e3⟩ := pairs_at hpr (show es.toList[j]? = some e by simpa using he)
    obtain ⟨y, f1, f2, f3⟩ := L2.DX.pget kv e1
    obtain ⟨q, g1, rfl⟩ := dkI_at f1
    have f2' : Sum.inl q.1 = kv'.1 := f2
    rw [← f2'] at e2
    obtain ⟨t1, k1⟩ := Value.isInt_shape (k := q.1) (v := e.key) e2
    obtain ⟨t2, k2⟩ : ∃ t, kv'.2 = Value.int q.2 t := f3
    exact ⟨q, t1, t2, g1, k1, e3.trans k2⟩
  refine DT.sortedI (es := es) (ep := ep) hh view ⟨o, ho, hx, hdat⟩ (by omega) fun h' tk as hk hlt hl hG => ?_
  have nd : as.Nodup := List.Pairwise.imp (fun h => Nat.ne_of_lt h) hG.rise
  have lap : as.length = ps.length := by omega
  have pr : ∀ (j : Nat) (b : Addr), as[j]? = some b → ∃ (q : Int × Int) (t1 t2 : Tok), ps[j]? = some q ∧
      h'.get? b = some { cls := .type "tuple", data := .seq #[Value.int q.1 t1, Value.int q.2 t2] } := by
    intro j b hj
    obtain ⟨e, he, hg⟩ := hG.pairs j b hj
    obtain ⟨q, t1, t2, e1, e2, e3⟩ := ent j e he
    rw [e2, e3] at hg
    exact ⟨q, t1, t2, e1, hg⟩
  have hob : (h'.push { cls := .type "list", data := .seq (as.map Value.ref).toArray }).get? h'.objs.size = some (seqObj "list" (as.map Value.ref).toArray 0) := Heap.get?_push_size _ rfl
  have ne0 : ∀ b o, h'.get? b = some o → b ≠ h'.objs.size := fun b o e => Nat.ne_of_lt (Heap.lt_size e)
  have ka : ∀ b o, h'.get? b = some o → (h'.push { cls := .type "list", data := .seq (as.map Value.ref).toArray }).get? b = some o := fun b o e => Heap.get?_push_of_some _ e
  generalize hh2 : h'.push { cls := .type "list", data := .seq (as.map Value.ref).toArray } = h2 at hob ka ⊢
  have kb : ∀ b o, s.heap.get? b = some o → h2.get? b = some o := fun b o e => ka b o (hk b o e)
  have zipR : ∀ z, z ∈ (as.map Value.ref).zip ps → ∃ (j : Nat) (t : Addr), z.1 = Value.ref t ∧ as[j]? = some t ∧ ps[j]? = some z.2 := by
    intro z hz'
    obtain ⟨j, hj⟩ := List.mem_iff_getElem?.mp hz'
    obtain ⟨j1, j2⟩ := List.getElem?_zip_eq_some.mp hj
    rw [List.getElem?_map] at j1
    cases e : as[j]? with
    | none =>
      rw [e] at j1
      cases j1
    | some t =>
      rw [e] at j1
      exact ⟨j, t, (Option.some.inj j1).symm, e, j2⟩
  have eR : PySem.W.EachIs (fun v (q : Int × Int) => ∃ (j : Nat) (t : Addr), v = Value.ref t ∧ as[j]? = some t ∧ ps[j]? = some q) (as.map Value.ref) ps :=
    PySem.W.EachIs.of_zip (by rw [List.length_map]; exact lap) zipR
  have er : PySem.W.EachIs (fun v (q : Int × Int) => ∃ bs, Reads h2 v (encP q) bs ∧ h'.objs.size ∉ bs) (as.map Value.ref) ps := by
    refine eR.mono fun v q h => ?_
    obtain ⟨j, t, rfl, e1, e2⟩ := h
    obtain ⟨q', t1, t2, g1, g2⟩ := pr j t e1
    obtain rfl : q' = q := Option.some.inj (g1.symm.trans e2)
    exact ⟨_, .tuple (ka _ _ g2) rfl rfl (.cons (.int _ _) (.cons (.int _ _) .nil)), by simp⟩
  refine PySem.W.list_sort_data (s := { s with heap := h2, toks := tk }) (A := X.A.in1) (enc := encP) (bs := ps) (vs := as.map Value.ref) hob eR er
    (PySem.W.AllAlike.of fun b b' => by simp [encP, PySem.W.alike, PySem.W.alikeAll]) (PySem.W.Sortable.tuples fun b => ⟨_, _, rfl⟩) (by omega)
    (fun b _ => by show X.A.units + 1 + 1 + 1 < cLine; omega) fun out ol oe => ?_
  have le_eq : PySem.W.dataLe false encP = leP := PySem.W.dataLe_ii (fun q : Int × Int => q.1) (fun q => q.2)
  rw [le_eq] at oe
  show EP X pins σ Q (.ref h'.objs.size) { s with heap := sortedHeap h2 h'.objs.size (as.map Value.ref) out.toArray, toks := tk }
  obtain ⟨ts, rfl, tp⟩ := each_paired (F := fun t q => ∃ j : Nat, as[j]? = some t ∧ ps[j]? = some q) (fun v q h => by
    obtain ⟨j, t, e1, e2, e3⟩ := h
    exact ⟨t, e1, j, e2, e3⟩) oe
  have kF : ∀ b o, b ≠ h'.objs.size → h2.get? b = some o → (sortedHeap h2 h'.objs.size (as.map Value.ref) (ts.map Value.ref).toArray).get? b = some o :=
    fun b o hb e => (PyProof.Rows.sortedHeap_old hb (Heap.lt_size e)).trans e
  have kS : ∀ b o, s.heap.get? b = some o → (sortedHeap h2 h'.objs.size (as.map Value.ref) (ts.map Value.ref).toArray).get? b = some o :=
    fun b o e => kF b o (ne0 _ _ (hk b o e)) (kb b o e)
  obtain ⟨eF, heF⟩ := PyProof.Rows.sortedHeap_at (vs := as.map Value.ref) (out := (ts.map Value.ref).toArray) hob
  generalize sortedHeap h2 h'.objs.size (as.map Value.ref) (ts.map Value.ref).toArray = hF at kF kS heF ⊢
  have I1 : Inv X pins σ H { s with heap := hF, toks := tk } := I.kept (t' := tk) kS
  have hn0 : H h'.objs.size = none := I.hok.fresh (Nat.le_of_lt hlt)
  have tl : ts.length = ps.length := by
    rw [← ol, List.length_map]
  have I2 : Inv X pins σ (upd H h'.objs.size (.lst (ts.map V.ref))) { s with heap := hF, toks := tk } :=
    I1.take (h' := hF) (t' := tk) (fun b ob _ e => e) (I.fpOk (Nat.le_of_lt hlt) hn0) ⟨by rw [List.length_map]; omega, ts.map Value.ref, eF, vals_refs ts, heF⟩
  obtain ⟨H2, I3, g, qt⟩ := L2.DX.takeT (P := fun b vs => ∃ (j : Nat) (q : Int × Int), as[j]? = some b ∧ ps[j]? = some q ∧ vs = [.int q.1, .int q.2]) I as _ I2 nd fun b hb => by
    obtain ⟨j, hj⟩ := List.mem_iff_getElem?.mp hb
    obtain ⟨q, t1, t2, e1, e2⟩ := pr j b hj
    have old : s.heap.objs.size ≤ b := Nat.le_of_lt (hG.above b hb)
    refine ⟨old, ?_, [.int q.1, .int q.2], ⟨j, q, hj, e1, rfl⟩, fun H3 => ⟨by show 2 ≤ sizeLine; decide, [Value.int q.1 t1, Value.int q.2 t2], .cons ⟨_, rfl⟩ (.cons ⟨_, rfl⟩ .nil), ⟨_, kF _ _ (ne0 _ _ e2) (ka _ _ e2), rfl, 0, rfl⟩⟩⟩
    rw [upd_ne (ne0 _ _ e2)]
    exact I.hok.fresh old
  refine ⟨.ref h'.objs.size, H2, I3, rfl, q H2 h'.objs.size ts (fun b o e => g b o (by rw [upd_ne (ne_of_none e hn0)]; exact e)) hn0 (g _ _ upd_same) ?_⟩
  refine Paired.mapP tp fun t q h => ?_
  obtain ⟨j, j1, j2⟩ := h
  obtain ⟨vs', ⟨i, q', i1, i2, ev⟩, hH⟩ := qt t (List.mem_of_getElem? j1)
  have eij : i = j := (List.getElem?_inj (List.getElem?_eq_some_iff.mp i1).1 nd).mp (i1.trans j1.symm)
  subst eij
  obtain rfl : q' = q := Option.some.inj (i2.symm.trans j2)
  rw [ev] at hH
  exact hH
def tSortItems (te : TE) : TE := fun σ H Q => te σ H fun x H1 => rSortItI x H1 Q
variable {e : Expr} {te : TE} {p apos cpos pos : Pos}
theorem pe_sortItems (hc : X.calm = true) (hu : X.A.units + 64 < cLine) (he : PE X e te) (hg : Gl X "sorted") (hm : X.mg "sorted" = none)
    (hv : bootBuiltins "sorted" = some (.builtin "sorted"))
    (hbase : attributeBase e "items" X.env (eval e X.env) = eval e X.env := by rfl) (hline : (apos.endLine == cpos.line) = true := by rfl)
    (hs : starEach [.Call (.Attribute e "items" apos) [] [] cpos] X.env = (false, eval (.Call (.Attribute e "items" apos) [] [] cpos) X.env) :: starEach [] X.env := by rfl) :
    PE X (.Call (.Name "sorted" p) [.Call (.Attribute e "items" apos) [] [] cpos] [] pos) (tSortItems te) := by
  refine ⟨fun pins s σ H Q I hq => ?_⟩
  refine wpAny_Call_Name_kw (ld_blt I hg hm hv ?_)
  refine PyProof.Rows.callWith_builtin1 ?_ hs rfl
  rw [hs]
  show wpAny _ _ (spliced ((false, eval (.Call (.Attribute e "items" apos) [] [] cpos) X.env) :: backTo pos (starEach [] X.env))) _ _ s
  refine Calls.spliced_cons ?_
  refine wpAny_Call_method (T := "dict") (id := "dict.items") hbase rfl hline F.plainAttrs_dict F.slot_dict_items F.type_dict_items
    (thn (he.run pins s σ H _ I hq) fun u s1 ⟨x, H1, I1, rx, d, ps, ex, hd, q⟩ => ?_)
  subst ex
  obtain rfl : u = Value.ref d := rx
  obtain ⟨hz, hs0, vs, kv, hdo⟩ := I1.hok d _ hd
  have I2 : Inv X pins σ H1 { s1 with heap := s1.heap.push { cls := .type "dict_items", data := .fields #[.ref d] } } :=
    I1.kept (t' := s1.toks) fun b ob z => Heap.get?_push_of_some _ z
  refine ⟨hdo.typeIs, hdo.mapOf.noDict, ?_⟩
  show wpAny _ _ (callWith cpos (.builtin "dict.items") [.ref d] [] []) _ X.xe s1
  refine method_meetsIn F.slot_dict_items F.entry_dict_items rfl (PySem.evalArgs_none ⟨rfl, hdo.typeIs, F.args_dict_items_1 _, _, meets_dict_items (mixKind X.prog X.w) d hs0, ⟨vs, hdo⟩, ?_⟩)
  refine Calls.spliced_nil ?_
  exact sort_items_run I2 (I1.ok.hd hc) hu hd ⟨_, Heap.get?_push_size _ rfl, rfl, rfl⟩ q
end
end Gc

/-! match over written texts, with a last case for the rest -/
namespace Gc
open PySem L2
/-- what is wanted of the cases, by the subject's value -/
abbrev TM := V → TS
structure MC (X : Cx) (cs : List MatchCase) (t : TM) : Prop where
  run : ∀ (first : Bool) (pins : List (Addr × Obj)) (s : Shared) (σ : L2.St) (H : Hp) (D : Ends) (x : V) (v : Value),
    Inv X pins σ H s → RelV x v → t x D σ H →
    wpAny (model X.prog X.w) X.A (matchCases cs X.env v first) (fun f s' => SP X pins D f s') X.xe s
def mNil : TM := fun _ D σ H => D.nx σ H
/-- case 'z': .. -/
def mStr (z : Str) (tb : TS) (r : TM) : TM := fun x D σ H => ∃ y, x = .str y ∧ if decide (y = z) = true then tb D σ H else r x D σ H
/-- case _: .. -/
def mAny (tb : TS) : TM := fun _ D σ H => tb D σ H
section
variable {X : Cx} {rest : List MatchCase} {body : List Stmt} {tb : TS} {r : TM} {z : Str} {k : Nat} {p1 p2 pos : Pos} {e : Expr} {te : TE}
theorem mc_nil : MC X [] mNil := ⟨fun _ pins s σ H D x v I _ h => wpAny_matchCases_nil ⟨σ, H, I, h⟩⟩
theorem mc_str (hb : PSs X body tb) (hr : MC X rest r) :
    MC X (⟨.MatchValue (.Constant (.str z) k p1) p2, none, body⟩ :: rest) (mStr z tb r) := by
  refine ⟨fun first pins s σ H D x v I rx h => ?_⟩
  obtain ⟨y, rfl, h⟩ := h
  refine wpAny_matchCases_cons (wpAny_matchPattern_Value ?_)
  have hq : PE X (.Constant (.str z) k p1) (tC (.str z)) := pe_str
  refine wpAny_mono (hq.run pins s σ H (fun w H' => w = .str z ∧ H' = H) I ⟨rfl, rfl⟩) (fun u s1 hu => ?_) fun _ _ q => q
  obtain ⟨w, H1, I1, rw1, rfl, rfl⟩ := hu
  refine wpAny_mono ((op_eq (X := X)) pins s1 σ _ (.str y) (.str z) v u (fun w H' => w = .bl (decide (y = z)) ∧ H' = _) I1 rx rw1 ⟨rfl, ?_, rfl⟩) (fun c s2 hc => ?_) fun _ _ q => q
  · by_cases q : y = z
    · subst q
      rw [decide_eq_true (Eq.refl _), decide_eq_true (Eq.refl _)]
    · rw [decide_eq_false q, decide_eq_false fun e => q (V.str.inj e)]
  · obtain ⟨w, H2, I2, rw2, rfl, rfl⟩ := hc
    obtain rfl : c = Value.bool (decide (y = z)) := rw2
    refine wpAny_pure ?_
    by_cases q : y = z
    · rw [decide_eq_true q] at h ⊢
      show wpAny _ _ (assignInOrder [] []) _ _ _
      refine wpAny_assignInOrder_none ?_
      exact hb.run pins s2 σ _ D I2 h
    · rw [decide_eq_false q] at h ⊢
      exact hr.run false pins s2 σ _ D (.str y) v I2 rx h
theorem mc_any (hb : PSs X body tb) : MC X (⟨.MatchAs none none p2, none, body⟩ :: rest) (mAny tb) := by
  refine ⟨fun first pins s σ H D x v I rx h => ?_⟩
  refine wpAny_matchCases_cons (wpAny_matchPattern_Capture ?_)
  show wpAny _ _ (assignInOrder [] []) _ _ _
  exact wpAny_assignInOrder_none (hb.run pins s σ H D I h)
def tMatch (te : TE) (t : TM) : TS := fun D σ H => te σ H fun x H1 => t x D σ H1
theorem ps_match {cs : List MatchCase} {t : TM} (he : PE X e te) (hc : MC X cs t) : PS X (.Match e cs pos) (tMatch te t) := by
  refine ⟨fun pins s σ H D I h => ?_⟩
  refine wpAny_Match (wpAny_mono (he.run pins s σ H _ I h) (fun v s1 hv => ?_) fun _ _ q => q)
  obtain ⟨x, H1, I1, rx, q⟩ := hv
  exact hc.run true pins s1 σ H1 D x v I1 rx q
end
end Gc

namespace Gc
open PySem PyProof.Rows L2
/-! ### commands as tuples -/
def encC : Cmd → List V
  | .down n => [.str "down", .int n]
  | .up n => [.str "up", .int n]
  | .right n => [.str "right", .int n]
  | .left n => [.str "left", .int n]
  | .home => [.str "home"]
  | .stop => [.str "end"]
def CmdAt (K : PySem.W.Frag) (H : Hp) (v : V) (c : Cmd) : Prop := ∃ a, v = .ref a ∧ SqT K H a (encC c)
def CmdsOf (K : PySem.W.Frag) (H : Hp) (xs : List V) (cs : List Cmd) : Prop := Paired (CmdAt K H) xs cs
theorem CmdAt.same {K : PySem.W.Frag} {H H' : Hp} {v : V} {c : Cmd} (e : Same H H') (h : CmdAt K H v c) : CmdAt K H' v c := by
  obtain ⟨a, e1, h1⟩ := h
  exact ⟨a, e1, seq_t e h1⟩
theorem CmdsOf.same {K : PySem.W.Frag} {H H' : Hp} {xs : List V} {cs : List Cmd} (e : Same H H') (h : CmdsOf K H xs cs) : CmdsOf K H' xs cs := Paired.mapP h fun _ _ q => q.same e
theorem CmdsOf.len {K : PySem.W.Frag} {H : Hp} {xs : List V} {cs : List Cmd} (h : CmdsOf K H xs cs) : xs.length = cs.length := Paired.length h
theorem paired_at {α β : Type} {F : α → β → Prop} : ∀ {xs : List α} {ys : List β} {i : Nat} {x : α}, Paired F xs ys → xs[i]? = some x → ∃ y, ys[i]? = some y ∧ F x y
  | _, _, _, _, .nil, h => by simp at h
  | _, _, 0, x, .cons f _, h => by
    obtain rfl := Option.some.inj h
    exact ⟨_, rfl, f⟩
  | _, _, i + 1, x, .cons _ t, h => paired_at (i := i) t h
/-! ### dicts of ints by ints -/
theorem valV_dkI : ∀ (b : Ps) (k : Int), valV (dkI b) (Sum.inl k : L2.Key) = (look b k).map V.int
  | [], k => rfl
  | q :: b, k => by
    show valV (((Sum.inl q.1 : L2.Key), V.int q.2) :: dkI b) (Sum.inl k : L2.Key) = _
    rw [look_cons]
    by_cases h : q.1 = k
    · rw [if_pos h, valV_pos (by show (Sum.inl q.1 : L2.Key) = Sum.inl k; rw [h])]
      rfl
    · rw [if_neg h, valV_neg (by intro z; exact h (Sum.inl.inj z))]
      exact valV_dkI b k
theorem putK_dkI (b : Ps) (k v : Int) : putK (dkI b) (Sum.inl k : L2.Key) (V.int v) = dkI (put b k v) := by
  have ea : ((dkI b).any fun kv => decide (kv.1 = (Sum.inl k : L2.Key))) = b.any fun q => decide (q.1 = k) := by
    unfold dkI
    rw [List.any_map]
    congr 1
    funext q
    show decide ((Sum.inl q.1 : L2.Key) = Sum.inl k) = decide (q.1 = k)
    exact decide_eq_decide.mpr ⟨Sum.inl.inj, fun h => by rw [h]⟩
  unfold putK put
  rw [ea]
  by_cases h : (b.any fun q => decide (q.1 = k)) = true
  · rw [if_pos h, if_pos h]
    unfold dkI
    rw [List.map_map, List.map_map]
    refine List.map_congr_left fun q _ => ?_
    show (if (Sum.inl q.1 : L2.Key) = Sum.inl k then ((Sum.inl q.1 : L2.Key), V.int v) else (Sum.inl q.1, V.int q.2)) = (Sum.inl (if q.1 = k then (q.1, v) else q).1, V.int (if q.1 = k then (q.1, v) else q).2)
    by_cases e : q.1 = k
    · rw [if_pos e, if_pos (by rw [e])]
    · rw [if_neg e, if_neg fun z => e (Sum.inl.inj z)]
  · rw [if_neg h, if_neg h]
    unfold dkI
    rw [List.map_append]
    rfl
theorem put_len (b : Ps) (k v : Int) : (put b k v).length ≤ b.length + 1 := by
  unfold put
  split
  · rw [List.length_map]
    exact Nat.le_succ _
  · rw [List.length_append]
    exact Nat.le_refl _
theorem req_len (b : Ps) (o v : Int) : (req b o v).length ≤ b.length + 1 := put_len b o _
end Gc

namespace Gc
open PySem L2
def top (i : Nat) : Stmt := PySem.Challenge.pw_goalcolumn_k23_editors_copy.main.body.getD i (.Pass ⟨0, 0, 0, 0⟩)
abbrev s_is_count : Stmt := top 14
abbrev s_is_command : Stmt := top 13
abbrev s_check_commands : Stmt := top 12
abbrev s_row_change : Stmt := top 19
structure TxtB (K : PySem.W.Frag) (mg : Str → Option Value) (wo wn : Addr) : Prop where
  g_WITHOUT_NUMBER : mg "WITHOUT_NUMBER" = some (.ref wo)
  g_WITH_NUMBER : mg "WITH_NUMBER" = some (.ref wn)
  tWO : ∀ H, SqT K H wo [.str "home", .str "end"]
  tWN : ∀ H, SqT K H wn [.str "down", .str "up", .str "right", .str "left"]
  isinstance : mg "isinstance" = none
  int : mg "int" = none
  bool : mg "bool" = none
  len : mg "len" = none
  enumerate : mg "enumerate" = none
  reversed : mg "reversed" = none
  sorted : mg "sorted" = none
  max : mg "max" = none
  min : mg "min" = none
def spCount : Sp := fun vs H Q _ => ∃ n : Int, vs = [.int n] ∧ 1 ≤ n ∧ Q (.bl true) H
def spIsCmd (K : PySem.W.Frag) : Sp := fun vs H Q _ => ∃ (v : V) (c : Cmd), vs = [v] ∧ CmdAt K H v c ∧ c.ok ∧ ∀ H', Same H H' → Q (.bl true) H'
def spCheck (K : PySem.W.Frag) : Sp := fun vs H Q _ => ∃ (l : Addr) (xs : List V) (cs : List Cmd), vs = [.ref l] ∧ SqL K H l xs ∧ CmdsOf K H xs cs ∧ AllOk cs ∧ cs.length ≤ 10000 ∧ ∀ H', Same H H' → Q .non H'
def spRow (K : PySem.W.Frag) : Sp := fun vs H Q _ => ∃ (v : V) (c : Cmd), vs = [v] ∧ CmdAt K H v c ∧ Q (.int c.dv) H
theorem q_in {H : Hp} {Q : VK} {x : V} {xs : List V} (h : inV x xs = true) (k : Q (.bl true) H) : Q (.bl (if (false : Bool) = true then !inV x xs else inV x xs)) H := by
  rw [if_neg Bool.false_ne_true, h]
  exact k
theorem take_snoc {α : Type} : ∀ {l : List α} {i : Nat} {x : α}, l[i]? = some x → l.take (i + 1) = l.take i ++ [x]
  | [], i, x, h => by simp at h
  | a :: l, 0, x, h => by
    obtain rfl := Option.some.inj h
    rfl
  | a :: l, i + 1, x, h => by
    have ih := take_snoc (l := l) (i := i) (x := x) h
    show a :: l.take (i + 1) = a :: l.take i ++ [x]
    rw [ih]
    rfl
def optV : Option Int → V
  | none => .non
  | some n => .int n
theorem m_no {y z : Str} {tb : TS} {r : TM} {D : Ends} {σ : L2.St} {H : Hp} (h : decide (y = z) = false) (q : r (.str y) D σ H) : mStr z tb r (.str y) D σ H := ⟨y, rfl, by rw [h]; exact iteF q⟩
theorem m_yes {y z : Str} {tb : TS} {r : TM} {D : Ends} {σ : L2.St} {H : Hp} (h : decide (y = z) = true) (q : tb D σ H) : mStr z tb r (.str y) D σ H := ⟨y, rfl, by rw [h]; exact iteT q⟩
section
variable {P : Program} {w : World} {K : PySem.W.Frag} {mg : Str → Option Value} {base : Heap} {wo wn : Addr}
theorem sc_is_count : FnScope ["number"] ["number"] (defScope s_is_count) := ⟨rfl, rfl, rfl, by decide +kernel, rfl, by decide +kernel, by decide +kernel⟩
theorem ok_is_count {f : Addr} {fd : FuncData} (F : Fun K "is_count" "is_count" s_is_count f fd) (T : TxtB K mg wo wn) : FnOk P w K mg base CX0 1 f fd ["number"] spCount := by
  refine F.ok sc_is_count (fun vs H Q E h => ?_) (fun cdv A outer s H vs Q E hr h => ?_)
  · obtain ⟨n, rfl, _⟩ := h
    rfl
  · obtain ⟨n, rfl, hn, k⟩ := h
    refine ⟨_, (pss_one (ps_ret (pe_and (pe_callB call_isi (by rfl) T.isinstance (by decide +kernel) (pa_cons (pv 0) (pa_cons (pe_bltn (v := .ty "int") (u := .type "int") (by rfl) T.int (by decide +kernel) rfl) pa_nil))) (pe_and (pe_not (pe_callB call_isi (by rfl) T.isinstance (by decide +kernel) (pa_cons (pv 0) (pa_cons (pe_bltn (v := .ty "bool") (u := .type "bool") (by rfl) T.bool (by decide +kernel) rfl) pa_nil)))) (pe_one (pe_cmpR op_ge (pv 0) pe_int (nomark _))))))), ?_⟩
    refine ⟨_, rfl, _, _, _, _, _, rfl, .ty "int", .base (.int n), kit_ty (show kitB "int" "int" = some true by decide +kernel), _, rfl, iteT ?_⟩
    refine ⟨_, rfl, _, _, _, _, _, rfl, .ty "bool", .base (.int n), kit_ty (show kitB "int" "bool" = some false by decide +kernel), _, rfl, _, rfl, iteT ?_⟩
    refine ⟨_, rfl, _, _, rfl, rfl, ?_⟩
    show Q (.bl (decide (1 ≤ n))) H
    rw [decide_eq_true hn]
    exact k
theorem sc_is_command : FnScope ["command"] ["command"] (defScope s_is_command) := ⟨rfl, rfl, rfl, by decide +kernel, rfl, by decide +kernel, by decide +kernel⟩
theorem ok_is_command {f : Addr} {fd : FuncData} (F : Fun K "is_command" "is_command" s_is_command f fd) (T : TxtB K mg wo wn) (c_is_count : Cal P w K mg base 1 "is_count" spCount) : FnOk P w K mg base CX0 2 f fd ["command"] (spIsCmd K) := by
  refine F.ok sc_is_command (fun vs H Q E h => ?_) (fun cdv A outer s H vs Q E hr h => ?_)
  · obtain ⟨v, c, rfl, _⟩ := h
    rfl
  · obtain ⟨v, c, rfl, ⟨a, rfl, ha⟩, hc, k⟩ := h
    refine ⟨_, (pss_cons (ps_if (pt_cmpR op_eq (pe_callB call_len_seq (by rfl) T.len (by decide +kernel) (pa_cons (pv 0) pa_nil)) pe_int (nomark _)) (pss_one (ps_ret (pe_cmpR op_in_seq (pe_ix ix_tup (pv 0) pe_int (fun _ _ => rfl)) (pe_glob (v := .ref wo) (by rfl) T.g_WITHOUT_NUMBER rfl) (by rfl)))) pss_nil)
      (pss_one (ps_ret (pe_and (pe_cmpR op_eq (pe_callB call_len_seq (by rfl) T.len (by decide +kernel) (pa_cons (pv 0) pa_nil)) pe_int (nomark _)) (pe_and (pe_cmpR op_in_seq (pe_ix ix_tup (pv 0) pe_int (fun _ _ => rfl)) (pe_glob (v := .ref wn) (by rfl) T.g_WITH_NUMBER rfl) (by rfl)) (pe_one (pe_cal c_is_count hr (by decide) (by rfl) (pa_cons (pe_ix ix_tup (pv 0) pe_int (fun _ _ => rfl)) pa_nil)))))))), ?_⟩
    have k0 := k H (Same.refl H)
    cases c with
    | down n =>
      refine ⟨_, rfl, a, _, rfl, .inr ha, rfl, _, rfl, iteF ?_⟩
      refine ⟨_, rfl, a, _, rfl, .inr ha, rfl, _, rfl, iteT ?_⟩
      refine ⟨_, rfl, a, _, 0, _, rfl, rfl, ha, rfl, wn, _, rfl, .inr (T.tWN _), rfl, rfl, true, by decide +kernel, iteT ?_⟩
      exact ⟨_, rfl, a, _, 1, _, rfl, rfl, ha, rfl, n, rfl, hc, k0⟩
    | up n =>
      refine ⟨_, rfl, a, _, rfl, .inr ha, rfl, _, rfl, iteF ?_⟩
      refine ⟨_, rfl, a, _, rfl, .inr ha, rfl, _, rfl, iteT ?_⟩
      refine ⟨_, rfl, a, _, 0, _, rfl, rfl, ha, rfl, wn, _, rfl, .inr (T.tWN _), rfl, rfl, true, by decide +kernel, iteT ?_⟩
      exact ⟨_, rfl, a, _, 1, _, rfl, rfl, ha, rfl, n, rfl, hc, k0⟩
    | right n =>
      refine ⟨_, rfl, a, _, rfl, .inr ha, rfl, _, rfl, iteF ?_⟩
      refine ⟨_, rfl, a, _, rfl, .inr ha, rfl, _, rfl, iteT ?_⟩
      refine ⟨_, rfl, a, _, 0, _, rfl, rfl, ha, rfl, wn, _, rfl, .inr (T.tWN _), rfl, rfl, true, by decide +kernel, iteT ?_⟩
      exact ⟨_, rfl, a, _, 1, _, rfl, rfl, ha, rfl, n, rfl, hc, k0⟩
    | left n =>
      refine ⟨_, rfl, a, _, rfl, .inr ha, rfl, _, rfl, iteF ?_⟩
      refine ⟨_, rfl, a, _, rfl, .inr ha, rfl, _, rfl, iteT ?_⟩
      refine ⟨_, rfl, a, _, 0, _, rfl, rfl, ha, rfl, wn, _, rfl, .inr (T.tWN _), rfl, rfl, true, by decide +kernel, iteT ?_⟩
      exact ⟨_, rfl, a, _, 1, _, rfl, rfl, ha, rfl, n, rfl, hc, k0⟩
    | home =>
      refine ⟨_, rfl, a, _, rfl, .inr ha, rfl, _, rfl, iteT ?_⟩
      refine ⟨_, rfl, a, _, 0, _, rfl, rfl, ha, rfl, wo, _, rfl, .inr (T.tWO _), rfl, rfl, ?_⟩
      exact q_in (by decide +kernel) k0
    | stop =>
      refine ⟨_, rfl, a, _, rfl, .inr ha, rfl, _, rfl, iteT ?_⟩
      refine ⟨_, rfl, a, _, 0, _, rfl, rfl, ha, rfl, wo, _, rfl, .inr (T.tWO _), rfl, rfl, ?_⟩
      exact q_in (by decide +kernel) k0
theorem sc_row_change : FnScope ["command"] ["command"] (defScope s_row_change) := ⟨rfl, rfl, rfl, by decide +kernel, rfl, by decide +kernel, by decide +kernel⟩
theorem ok_row_change {f : Addr} {fd : FuncData} (F : Fun K "row_change" "row_change" s_row_change f fd) : FnOk P w K mg base CX0 1 f fd ["command"] (spRow K) := by
  refine F.ok sc_row_change (fun vs H Q E h => ?_) (fun cdv A outer s H vs Q E hr h => ?_)
  · obtain ⟨v, c, rfl, _⟩ := h
    rfl
  · obtain ⟨v, c, rfl, ⟨a, rfl, ha⟩, k⟩ := h
    refine ⟨_, (pss_cons (ps_if (pt_cmpR op_eq (pe_ix ix_tup (pv 0) pe_int (fun _ _ => rfl)) pe_str (nomark _)) (pss_one (ps_ret (pe_ix ix_tup (pv 0) pe_int (fun _ _ => rfl)))) pss_nil)
      (pss_cons (ps_if (pt_cmpR op_eq (pe_ix ix_tup (pv 0) pe_int (fun _ _ => rfl)) pe_str (nomark _)) (pss_one (ps_ret (pe_un un_neg (pe_ix ix_tup (pv 0) pe_int (fun _ _ => rfl))))) pss_nil)
      (pss_one (ps_ret pe_int)))), ?_⟩
    cases c with
    | down n =>
      refine ⟨_, rfl, a, _, 0, _, rfl, rfl, ha, rfl, rfl, true, by decide +kernel, iteT ?_⟩
      exact ⟨_, rfl, a, _, 1, _, rfl, rfl, ha, rfl, k⟩
    | up n =>
      refine ⟨_, rfl, a, _, 0, _, rfl, rfl, ha, rfl, rfl, false, by decide +kernel, iteF ?_⟩
      refine ⟨_, rfl, a, _, 0, _, rfl, rfl, ha, rfl, rfl, true, by decide +kernel, iteT ?_⟩
      exact ⟨_, rfl, a, _, 1, _, rfl, rfl, ha, rfl, n, rfl, k⟩
    | right n =>
      refine ⟨_, rfl, a, _, 0, _, rfl, rfl, ha, rfl, rfl, false, by decide +kernel, iteF ?_⟩
      refine ⟨_, rfl, a, _, 0, _, rfl, rfl, ha, rfl, rfl, false, by decide +kernel, iteF ?_⟩
      exact k
    | left n =>
      refine ⟨_, rfl, a, _, 0, _, rfl, rfl, ha, rfl, rfl, false, by decide +kernel, iteF ?_⟩
      refine ⟨_, rfl, a, _, 0, _, rfl, rfl, ha, rfl, rfl, false, by decide +kernel, iteF ?_⟩
      exact k
    | home =>
      refine ⟨_, rfl, a, _, 0, _, rfl, rfl, ha, rfl, rfl, false, by decide +kernel, iteF ?_⟩
      refine ⟨_, rfl, a, _, 0, _, rfl, rfl, ha, rfl, rfl, false, by decide +kernel, iteF ?_⟩
      exact k
    | stop =>
      refine ⟨_, rfl, a, _, 0, _, rfl, rfl, ha, rfl, rfl, false, by decide +kernel, iteF ?_⟩
      refine ⟨_, rfl, a, _, 0, _, rfl, rfl, ha, rfl, rfl, false, by decide +kernel, iteF ?_⟩
      exact k
theorem sc_check_commands : FnScope ["commands", "index", "command"] ["commands"] (defScope s_check_commands) := ⟨rfl, rfl, rfl, by decide +kernel, rfl, by decide +kernel, by decide +kernel⟩
theorem ok_check_commands {f : Addr} {fd : FuncData} (F : Fun K "check_commands" "check_commands" s_check_commands f fd) (T : TxtB K mg wo wn) (c_is_command : Cal P w K mg base 2 "is_command" (spIsCmd K)) : FnOk P w K mg base CX0 3 f fd ["commands"] (spCheck K) := by
  refine F.ok sc_check_commands (fun vs H Q E h => ?_) (fun cdv A outer s H vs Q E hr h => ?_)
  · obtain ⟨l, xs, cs, rfl, _⟩ := h
    rfl
  · obtain ⟨l, xs, cs, rfl, hl, hcs, hk, hn, k⟩ := h
    refine ⟨_, (pss_one (ps_for PassesOwn.never rfl (pi_enum (by rfl) T.enumerate (pa_cons (pv 0) pa_nil)) (pg_tup rfl (pgs_cons (pg_name (i := 1) sc_check_commands.nd rfl (Or.inl rfl)) (pgs_cons (pg_name (i := 2) sc_check_commands.nd rfl (Or.inl rfl)) pgs_nil))) (pss_one (ps_if (pt_not (pt_val (pe_cal c_is_command hr (by decide) (by rfl) (pa_cons (pv 2) pa_nil)))) (pss_one ps_never) pss_nil)))), ?_⟩
    refine ⟨_, rfl, l, xs, rfl, hl, for_it (walk_enum (K := K) (a := l) (xs := xs)) (fun i σ H' => ∃ v1 v2 : Option V, σ = [some (.ref l), v1, v2] ∧ Same H H')
      ⟨none, none, rfl, Same.refl H⟩ (fun i σ H' _ ⟨_, _, _, e⟩ => e.seq hl) (fun i x σ H1 H2 hi h y => ?_) (fun σ H1 h => ?_)⟩
    · obtain ⟨v1, v2, rfl, e⟩ := h
      obtain ⟨T1, x1, y1, rfl, nT, rfl, e1, e2⟩ := y
      obtain ⟨c, hc, hca⟩ := paired_at hcs e2
      have eT : Same H (upd H1 T1 (.tup [x1, y1])) := same_upd e nT
      refine ⟨T1, _, rfl, SqT.of upd_same, rfl, _, _, rfl, _, _, rfl, rfl, ?_⟩
      refine ⟨_, rfl, y1, c, rfl, hca.same eT, hk c (List.mem_of_getElem? hc), fun H3 e3 => ⟨_, rfl, iteF ?_⟩⟩
      exact ⟨_, _, rfl, eT.trans e3⟩
    · obtain ⟨v1, v2, rfl, e⟩ := h
      exact k _ e
end
end Gc

/-! heaps, lengths of boxes, dicts out of pairs -/
namespace Gc
open PySem L2
theorem same_freeU {H H' : Hp} {d : Addr} {o : HO} (e : Same H H') (h : H d = none) : Same H (upd H' d o) := fun b u hb => by
  rw [upd_ne (ne_of_none hb h)]
  exact e b u hb
theorem go_len : ∀ {r : List Cmd} {off need : Int} {b : Ps} {st : Option Int} {b' : Ps}, go r off need b = some (st, b') → b'.length ≤ b.length + r.length
  | [], _, _, b, _, _, h => by cases h; exact Nat.le_refl _
  | .home :: r, _, _, b, _, _, h => by cases h
  | .stop :: r, _, _, b, _, _, h => by cases h; exact Nat.le_add_right _ _
  | .right n :: r, off, need, b, st, b', h => by
    have q := req_len b off need
    rw [List.length_cons]
    simp only [go] at h
    split at h
    · have := go_len h
      omega
    · cases h
      omega
  | .left n :: r, off, need, b, st, b', h => by
    have q := req_len b off (need + n)
    rw [List.length_cons]
    simp only [go] at h
    have := go_len h
    omega
  | .down n :: r, off, need, b, st, b', h => by
    rw [List.length_cons]
    simp only [go] at h
    have := go_len h
    omega
  | .up n :: r, off, need, b, st, b', h => by
    rw [List.length_cons]
    simp only [go] at h
    have := go_len h
    omega
theorem box_len {cs : List Cmd} {goal : Int} {st : Option Int} {L : Ps} (h : boxM cs goal = some (st, L)) : L.length ≤ cs.length := by
  unfold boxM at h
  cases e : go cs.reverse (last cs) goal [] with
  | none =>
    rw [e] at h
    cases h
  | some x =>
    rw [e] at h
    obtain ⟨st', b'⟩ := x
    have q := go_len e
    have h' : (st', b'.mergeSort leK) = (st, L) := Option.some.inj h
    cases h'
    rw [List.length_mergeSort]
    rw [List.length_reverse, List.length_nil] at q
    omega
theorem merge_dkI : ∀ (b acc : Ps), (keys acc ++ keys b).Nodup → mergeK (dkI acc) (dkI b) = dkI (acc ++ b)
  | [], acc, _ => by rw [List.append_nil]; rfl
  | q :: b, acc, h => by
    have nq : q.1 ∉ keys acc := fun z => by
      have := (List.nodup_append.mp h).2.2 q.1 z q.1 List.mem_cons_self
      exact this rfl
    show mergeK (putK (dkI acc) (Sum.inl q.1 : L2.Key) (.int q.2)) (dkI b) = _
    rw [putK_dkI]
    have e : put acc q.1 q.2 = acc ++ [q] := by
      unfold put
      rw [if_neg fun z => nq ((any_key acc q.1).mp z)]
    rw [e, merge_dkI b (acc ++ [q]) (by
      have e2 : keys (acc ++ [q]) ++ keys b = keys acc ++ keys (q :: b) := by
        unfold keys
        simp
      rw [e2]
      exact h), List.append_assoc]
    rfl
theorem paired_dkI {K : PySem.W.Frag} {H : Hp} : ∀ {ps : List Addr} {qs : Ps}, Paired (fun (p : Addr) (q : Int × Int) => H p = some (.tup [.int q.1, .int q.2])) ps qs → Paired (fun (p : Addr) (kv : L2.Key × V) => SqT K H p [kV kv.1, kv.2]) ps (dkI qs)
  | _, _, .nil => .nil
  | _, _, .cons h t => .cons (SqT.of h) (paired_dkI t)
theorem ref_at {ts : List Addr} {i : Nat} {x : V} (h : (ts.map V.ref)[i]? = some x) : ∃ t, ts[i]? = some t ∧ x = .ref t := by
  rw [List.getElem?_map] at h
  cases e : ts[i]? with
  | none =>
    rw [e] at h
    cases h
  | some t =>
    rw [e] at h
    exact ⟨t, rfl, (Option.some.inj h).symm⟩
theorem dki_len (b : Ps) : (dkI b).length = b.length := List.length_map ..
end Gc

/-! what repr wants of the data that the laws show -/
namespace Gc
open PySem PySem.Spec PyProof.Rows L2
def Sml (x : Int) : Prop := x.natAbs < 2 ^ 120
theorem sml_log {x : Int} (h : Sml x) : x.natAbs.log2 < 121 := Nat.lt_of_lt_of_le (PySem.Flt.log2_lt_of (k := 121) (by decide) (Nat.lt_trans h (by decide))) (Nat.le_refl _)
theorem sml_show {x : Int} (h : Sml x) : (PyData.int x).showable = true := by
  have := sml_log h
  simp only [PyData.showable, decide_eq_true_eq]
  omega
theorem sml_short {x : Int} (h : Sml x) : (PyData.int x).leavesShort 130 = true := by
  have e := int_text_length_le (k := 121) (by decide) (sml_log h)
  have e' : (PyData.shown (.int x)).length ≤ 130 := by
    have e2 : (PyData.shown (.int x)).length = (toString x).length := by
      show (Str.ofString (toString x)).length = _
      rw [PySem.ofString_length]
    omega
  simpa only [PyData.leavesShort, decide_eq_true_eq] using e'
theorem sml_weight {x : Int} (h : Sml x) : (PyData.int x).weight ≤ 122 := by
  have := sml_log h
  simp only [PyData.weight]
  split <;> omega
def Ok0 (d : PyData) : Prop := d.showable = true ∧ d.hasDict = false ∧ d.leavesShort 130 = true
def Ok0s (ds : List PyData) : Prop := PyData.showableAll ds = true ∧ PyData.hasDictAll ds = false ∧ PyData.leavesShortAll 130 ds = true
theorem ok0_int {x : Int} (h : Sml x) : Ok0 (.int x) := ⟨sml_show h, by simp only [PyData.hasDict], sml_short h⟩
theorem ok0_nil : Ok0s [] := ⟨by simp only [PyData.showableAll], by simp only [PyData.hasDictAll], by simp only [PyData.leavesShortAll]⟩
theorem ok0_cons {d : PyData} {ds : List PyData} (h : Ok0 d) (t : Ok0s ds) : Ok0s (d :: ds) := by
  obtain ⟨a1, a2, a3⟩ := h
  obtain ⟨b1, b2, b3⟩ := t
  refine ⟨?_, ?_, ?_⟩
  · simp only [PyData.showableAll, a1, b1, Bool.and_self]
  · simp only [PyData.hasDictAll, a2, b2, Bool.or_self]
  · simp only [PyData.leavesShortAll, a3, b3, Bool.and_self]
theorem ok0_list {ds : List PyData} (h : Ok0s ds) : Ok0 (.list ds) := by
  obtain ⟨b1, b2, b3⟩ := h
  refine ⟨?_, ?_, ?_⟩
  · simpa only [PyData.showable] using b1
  · simpa only [PyData.hasDict] using b2
  · simpa only [PyData.leavesShort] using b3
theorem ok0_tup {ds : List PyData} (h : Ok0s ds) : Ok0 (.tuple ds) := by
  obtain ⟨b1, b2, b3⟩ := h
  refine ⟨?_, ?_, ?_⟩
  · simpa only [PyData.showable] using b1
  · simpa only [PyData.hasDict] using b2
  · simpa only [PyData.leavesShort] using b3
theorem ok0_len {d : PyData} (h : Ok0 d) (w : d.weight ≤ 100000) : d.shown.length ≤ sizeLine := by
  have e := PyData.shown_le 130 (by decide) d h.2.2
  rw [sizeLine_eq]
  have : (130 + 2) * d.weight ≤ (130 + 2) * 100000 := Nat.mul_le_mul_left _ w
  omega
theorem ok0_ints : ∀ {T : List Int}, (∀ x ∈ T, Sml x) → Ok0s (T.map PyData.int)
  | [], _ => ok0_nil
  | x :: T, h => ok0_cons (ok0_int (h x List.mem_cons_self)) (ok0_ints fun y hy => h y (List.mem_cons_of_mem _ hy))
theorem weight_ints : ∀ {T : List Int}, (∀ x ∈ T, Sml x) → PyData.weightAll (T.map PyData.int) ≤ 123 * T.length
  | [], _ => by simp [PyData.weightAll]
  | x :: T, h => by
    have a := sml_weight (h x List.mem_cons_self)
    have b := weight_ints (T := T) fun y hy => h y (List.mem_cons_of_mem _ hy)
    simp only [List.map_cons, PyData.weightAll, List.length_cons]
    omega
theorem deep_ints : ∀ T : List Int, PyData.depthAll (T.map PyData.int) = 0
  | [] => by simp [PyData.depthAll]
  | x :: T => by simp [PyData.depthAll, PyData.depth, deep_ints T]
/-- a text and a cursor -/
def textD (T : List Int) (r a : Int) : PyData := .tuple [.list (T.map PyData.int), .tuple [.int r, .int a]]
theorem textD_ok {T : List Int} {r a : Int} (hT : ∀ x ∈ T, Sml x) (hr : Sml r) (ha : Sml a) (l : T.length ≤ 500) : (textD T r a).showable = true ∧ (textD T r a).hasDict = false ∧ (textD T r a).depth ≤ 60 ∧ (textD T r a).shown.length ≤ sizeLine := by
  have o : Ok0 (textD T r a) := ok0_tup (ok0_cons (ok0_list (ok0_ints hT)) (ok0_cons (ok0_tup (ok0_cons (ok0_int hr) (ok0_cons (ok0_int ha) ok0_nil))) ok0_nil))
  refine ⟨o.1, o.2.1, ?_, ok0_len o ?_⟩
  · simp only [textD, PyData.depth, PyData.depthAll, deep_ints]
    omega
  · have a1 := weight_ints hT
    have a2 := sml_weight hr
    have a3 := sml_weight ha
    simp only [PyData.weight] at a2 a3
    simp only [textD, PyData.weight, PyData.weightAll]
    omega
/-! ### commands as data -/
def cmdD : Cmd → PyData
  | .down n => .tuple [.str "down", .int n]
  | .up n => .tuple [.str "up", .int n]
  | .right n => .tuple [.str "right", .int n]
  | .left n => .tuple [.str "left", .int n]
  | .home => .tuple [.str "home"]
  | .stop => .tuple [.str "end"]
theorem CmdAt.dp {K : PySem.W.Frag} {H : Hp} {v : V} {c : Cmd} (h : CmdAt K H v c) : Dp K H v (cmdD c) := by
  obtain ⟨a, rfl, h⟩ := h
  cases c with
  | down n => exact .tup h (.cons (.str _) (.cons (.int n) .nil))
  | up n => exact .tup h (.cons (.str _) (.cons (.int n) .nil))
  | right n => exact .tup h (.cons (.str _) (.cons (.int n) .nil))
  | left n => exact .tup h (.cons (.str _) (.cons (.int n) .nil))
  | home => exact .tup h (.cons (.str _) .nil)
  | stop => exact .tup h (.cons (.str _) .nil)
theorem CmdsOf.dp {K : PySem.W.Frag} {H : Hp} : ∀ {xs : List V} {cs : List Cmd}, CmdsOf K H xs cs → DpAll K H xs (cs.map cmdD)
  | _, _, .nil => .nil
  | _, _, .cons h t => .cons h.dp (CmdsOf.dp t)
def CSml : Cmd → Prop
  | .down n => Sml n
  | .up n => Sml n
  | .right n => Sml n
  | .left n => Sml n
  | _ => True
theorem ok0_str {x : Str} (h : (PyData.str x).leavesShort 130 = true) : Ok0 (.str x) := ⟨by simp only [PyData.showable], by simp only [PyData.hasDict], h⟩
theorem cmdD_ok {c : Cmd} (h : CSml c) : Ok0 (cmdD c) ∧ (cmdD c).weight ≤ 200 ∧ (cmdD c).depth ≤ 5 := by
  cases c with
  | down n =>
    have w := sml_weight h
    refine ⟨ok0_tup (ok0_cons (ok0_str (by decide +kernel)) (ok0_cons (ok0_int h) ok0_nil)), ?_, by simp [cmdD, PyData.depth, PyData.depthAll]⟩
    have e : (PyData.str "down").weight = 4 := by decide +kernel
    simp only [cmdD, PyData.weight, PyData.weightAll] at w e ⊢
    omega
  | up n =>
    have w := sml_weight h
    refine ⟨ok0_tup (ok0_cons (ok0_str (by decide +kernel)) (ok0_cons (ok0_int h) ok0_nil)), ?_, by simp [cmdD, PyData.depth, PyData.depthAll]⟩
    have e : (PyData.str "up").weight = 2 := by decide +kernel
    simp only [cmdD, PyData.weight, PyData.weightAll] at w e ⊢
    omega
  | right n =>
    have w := sml_weight h
    refine ⟨ok0_tup (ok0_cons (ok0_str (by decide +kernel)) (ok0_cons (ok0_int h) ok0_nil)), ?_, by simp [cmdD, PyData.depth, PyData.depthAll]⟩
    have e : (PyData.str "right").weight = 5 := by decide +kernel
    simp only [cmdD, PyData.weight, PyData.weightAll] at w e ⊢
    omega
  | left n =>
    have w := sml_weight h
    refine ⟨ok0_tup (ok0_cons (ok0_str (by decide +kernel)) (ok0_cons (ok0_int h) ok0_nil)), ?_, by simp [cmdD, PyData.depth, PyData.depthAll]⟩
    have e : (PyData.str "left").weight = 4 := by decide +kernel
    simp only [cmdD, PyData.weight, PyData.weightAll] at w e ⊢
    omega
  | home => exact ⟨ok0_tup (ok0_cons (ok0_str (by decide +kernel)) ok0_nil), by decide +kernel, by simp [cmdD, PyData.depth, PyData.depthAll]⟩
  | stop => exact ⟨ok0_tup (ok0_cons (ok0_str (by decide +kernel)) ok0_nil), by decide +kernel, by simp [cmdD, PyData.depth, PyData.depthAll]⟩
theorem cmds_ok0 : ∀ {cs : List Cmd}, (∀ c ∈ cs, CSml c) → Ok0s (cs.map cmdD) ∧ PyData.weightAll (cs.map cmdD) ≤ 201 * cs.length ∧ PyData.depthAll (cs.map cmdD) ≤ 5
  | [], _ => ⟨ok0_nil, by simp [PyData.weightAll], by simp [PyData.depthAll]⟩
  | c :: cs, h => by
    obtain ⟨a1, a2, a3⟩ := cmdD_ok (h c List.mem_cons_self)
    obtain ⟨b1, b2, b3⟩ := cmds_ok0 (cs := cs) fun d hd => h d (List.mem_cons_of_mem _ hd)
    refine ⟨ok0_cons a1 b1, ?_, ?_⟩
    · simp only [List.map_cons, PyData.weightAll, List.length_cons]
      omega
    · simp only [List.map_cons, PyData.depthAll]
      omega
theorem cmds_ok {cs : List Cmd} (h : ∀ c ∈ cs, CSml c) (l : cs.length ≤ 300) : (PyData.list (cs.map cmdD)).showable = true ∧ (PyData.list (cs.map cmdD)).hasDict = false ∧ (PyData.list (cs.map cmdD)).depth ≤ 60 ∧ (PyData.list (cs.map cmdD)).shown.length ≤ sizeLine := by
  obtain ⟨a1, a2, a3⟩ := cmds_ok0 h
  have o := ok0_list a1
  refine ⟨o.1, o.2.1, ?_, ok0_len o ?_⟩
  · simp only [PyData.depth]
    omega
  · simp only [PyData.weight]
    omega
/-! ### boxes as data -/
def optD : Option Int → PyData
  | none => .none
  | some n => .int n
def pairD (q : Int × Int) : PyData := .tuple [.int q.1, .int q.2]
def boxD : Option (Option Int × Ps) → PyData
  | none => .none
  | some x => .tuple [optD x.1, .list (x.2.map pairD)]
def BSml : Option (Option Int × Ps) → Prop
  | none => True
  | some x => (∀ n, x.1 = some n → Sml n) ∧ ∀ q ∈ x.2, Sml q.1 ∧ Sml q.2
theorem ok0_none : Ok0 .none := ⟨by simp only [PyData.showable], by simp only [PyData.hasDict], by simp only [PyData.leavesShort]⟩
theorem pairs_ok0 : ∀ {L : Ps}, (∀ q ∈ L, Sml q.1 ∧ Sml q.2) → Ok0s (L.map pairD) ∧ PyData.weightAll (L.map pairD) ≤ 247 * L.length ∧ PyData.depthAll (L.map pairD) ≤ 5
  | [], _ => ⟨ok0_nil, by simp [PyData.weightAll], by simp [PyData.depthAll]⟩
  | q :: L, h => by
    obtain ⟨a, b⟩ := h q List.mem_cons_self
    obtain ⟨c1, c2, c3⟩ := pairs_ok0 (L := L) fun p hp => h p (List.mem_cons_of_mem _ hp)
    have wa := sml_weight a
    have wb := sml_weight b
    refine ⟨ok0_cons (ok0_tup (ok0_cons (ok0_int a) (ok0_cons (ok0_int b) ok0_nil))) c1, ?_, ?_⟩
    · simp only [PyData.weight] at wa wb
      simp only [List.map_cons, pairD, PyData.weight, PyData.weightAll, List.length_cons] at c2 ⊢
      omega
    · simp only [List.map_cons, pairD, PyData.depth, PyData.depthAll] at c3 ⊢
      omega
theorem boxD_ok0 {o : Option (Option Int × Ps)} {n : Nat} (h : BSml o) (l : ∀ x, o = some x → x.2.length ≤ n) : Ok0 (boxD o) ∧ (boxD o).weight ≤ 247 * n + 200 ∧ (boxD o).depth ≤ 10 := by
  cases o with
  | none => exact ⟨ok0_none, by simp [boxD, PyData.weight], by simp [boxD, PyData.depth]⟩
  | some x =>
    obtain ⟨st, L⟩ := x
    obtain ⟨h1, h2⟩ := h
    have h2' : ∀ q ∈ L, Sml q.1 ∧ Sml q.2 := h2
    obtain ⟨c1, c2, c3⟩ := pairs_ok0 h2'
    have ln : L.length ≤ n := l _ rfl
    have o1 : Ok0 (optD st) ∧ (optD st).weight ≤ 122 ∧ (optD st).depth = 0 := by
      cases st with
      | none => exact ⟨ok0_none, by simp [optD, PyData.weight], by simp [optD, PyData.depth]⟩
      | some n => exact ⟨ok0_int (h1 n rfl), sml_weight (h1 n rfl), by simp [optD, PyData.depth]⟩
    obtain ⟨d1, d2, d3⟩ := o1
    refine ⟨ok0_tup (ok0_cons d1 (ok0_cons (ok0_list c1) ok0_nil)), ?_, ?_⟩
    · have m : 247 * L.length ≤ 247 * n := Nat.mul_le_mul_left _ ln
      simp only [boxD, PyData.weight, PyData.weightAll]
      omega
    · simp only [boxD, PyData.depth, PyData.depthAll]
      omega
theorem boxes_ok0 {n : Nat} : ∀ {os : List (Option (Option Int × Ps))}, (∀ o ∈ os, BSml o ∧ ∀ x, o = some x → x.2.length ≤ n) → Ok0s (os.map boxD) ∧ PyData.weightAll (os.map boxD) ≤ (247 * n + 201) * os.length ∧ PyData.depthAll (os.map boxD) ≤ 10
  | [], _ => ⟨ok0_nil, by simp [PyData.weightAll], by simp [PyData.depthAll]⟩
  | o :: os, h => by
    obtain ⟨a, b⟩ := h o List.mem_cons_self
    obtain ⟨c1, c2, c3⟩ := boxD_ok0 a b
    obtain ⟨d1, d2, d3⟩ := boxes_ok0 (os := os) fun p hp => h p (List.mem_cons_of_mem _ hp)
    refine ⟨ok0_cons c1 d1, ?_, ?_⟩
    · rw [List.map_cons, List.length_cons, Nat.mul_succ]
      simp only [PyData.weightAll]
      omega
    · simp only [List.map_cons, PyData.depthAll]
      omega
/-- a list of at most ten boxes of at most thirty lines each -/
theorem boxes_ok {os : List (Option (Option Int × Ps))} (h : ∀ o ∈ os, BSml o ∧ ∀ x, o = some x → x.2.length ≤ 30) (l : os.length ≤ 10) :
    (PyData.list (os.map boxD)).showable = true ∧ (PyData.list (os.map boxD)).hasDict = false ∧ (PyData.list (os.map boxD)).depth ≤ 60 ∧ (PyData.list (os.map boxD)).shown.length ≤ sizeLine := by
  obtain ⟨a1, a2, a3⟩ := boxes_ok0 h
  have o := ok0_list a1
  refine ⟨o.1, o.2.1, ?_, ok0_len o ?_⟩
  · simp only [PyData.depth]
    omega
  · have m : (247 * 30 + 201) * os.length ≤ (247 * 30 + 201) * 10 := Nat.mul_le_mul_left _ l
    simp only [PyData.weight]
    omega
end Gc

/-! small pieces that many laws use -/
namespace Gc
open PySem L2
theorem lt_line {n : Nat} (h : n ≤ 100000) : n < sizeLine := by
  rw [sizeLine_eq]
  omega
theorem tru_seq {K : PySem.W.Frag} {H : Hp} {l : Addr} {xs : List V} (h : SqL K H l xs) : TruV K (.ref l) H (!xs.isEmpty) := .inl ⟨xs, h, rfl⟩
theorem takeS {α : Type} : ∀ {l : List α} {i : Nat} {x : α}, l[i]? = some x → l.take (i + 1) = l.take i ++ [x]
  | [], i, x, h => by simp at h
  | a :: l, 0, x, h => by
    obtain rfl := Option.some.inj h
    rfl
  | a :: l, i + 1, x, h => by
    have ih := takeS (l := l) (i := i) (x := x) h
    show a :: l.take (i + 1) = a :: l.take i ++ [x]
    rw [ih]
    rfl
theorem pairS {α β : Type} {F : α → β → Prop} : ∀ {xs : List α} {ys : List β} {x : α} {y : β}, Paired F xs ys → F x y → Paired F (xs ++ [x]) (ys ++ [y])
  | _, _, _, _, .nil, h => .cons h .nil
  | _, _, _, _, .cons f t, h => .cons f (pairS t h)
/-- a new object, told apart -/
theorem new_same {H : Hp} {p : Addr} {o : HO} (h : H p = none) : Same H (upd H p o) := fun b u hb => by
  rw [upd_ne (ne_of_none hb h)]
  exact hb
/-- a list is written; commands stand -/
theorem CmdsOf.atL {K : PySem.W.Frag} {H : Hp} {l : Addr} {ys zs : List V} {xs : List V} {cs : List Cmd} (hl : H l = some (.lst ys)) (h : CmdsOf K H xs cs) : CmdsOf K (upd H l (.lst zs)) xs cs := Paired.mapP h fun _ _ q => by
  obtain ⟨a, e1, h1⟩ := q
  refine ⟨a, e1, ?_⟩
  rcases h1 with (z | ⟨o, z⟩) | z
  · exact .inl (.inl (by rw [upd_ne (ne_of z hl (by intro q; cases q))]; exact z))
  · exact .inl (.inr ⟨o, by rw [upd_ne (ne_of z hl (by intro q; cases q))]; exact z⟩)
  · exact .inr z
end Gc
namespace Gc
open PySem L2
def nameC : Cmd → Str
  | .down _ => "down"
  | .up _ => "up"
  | .right _ => "right"
  | .left _ => "left"
  | .home => "home"
  | .stop => "end"
theorem enc_at (c : Cmd) : atI (encC c) 0 = some (.str (nameC c)) := by cases c <;> rfl
theorem getK {H : Hp} {p : Addr} {kvs : List (L2.Key × V)} {k : Str} {v : V} (h : H p = some (.dK kvs)) (e : valV kvs (.inr k : L2.Key) = some v) : DGet H p (.str k) (some v) := e ▸ DGet.k (k := .inr k) h
end Gc
namespace Gc
open PySem L2
/-! slices by places -/
theorem cutHi {xs : List V} {n : Nat} {z : Int} (e : z = (n : Int)) (h : n ≤ xs.length) : cutV xs none (some z) = xs.take n := by
  subst e
  unfold cutV
  rw [HT.sIx_none, HT.sIx_nat, List.drop_zero, Nat.sub_zero]
  congr 1
  omega
theorem cutLo {xs : List V} {n : Nat} {z : Int} (e : z = (n : Int)) : cutV xs (some z) none = xs.drop n := by
  subst e
  unfold cutV
  rw [HT.sIx_none, HT.sIx_nat]
  by_cases h : n ≤ xs.length
  · rw [Nat.min_eq_left h]
    exact List.take_of_length_le (by rw [List.length_drop]; exact Nat.le_refl _)
  · rw [Nat.min_eq_right (by omega), List.drop_eq_nil_of_le (Nat.le_refl _), List.take_nil, List.drop_eq_nil_of_le (by omega)]
theorem cutOne {xs : List V} {n m : Nat} {z y : Int} (e : z = (n : Int)) (e2 : y = (m : Int)) (hn : n ≤ xs.length) (hm : n ≤ m) : cutV xs (some z) (some y) = (xs.drop n).take (m - n) := by
  subst e e2
  unfold cutV
  rw [HT.sIx_nat, HT.sIx_nat, Nat.min_eq_left hn]
  by_cases h : m ≤ xs.length
  · rw [Nat.min_eq_left h]
  · rw [Nat.min_eq_right (by omega)]
    rw [List.take_of_length_le (l := xs.drop n) (by rw [List.length_drop]; exact Nat.le_refl _), List.take_of_length_le (by rw [List.length_drop]; omega)]
theorem paired_take {α β : Type} {F : α → β → Prop} : ∀ (n : Nat) {xs : List α} {ys : List β}, Paired F xs ys → Paired F (xs.take n) (ys.take n)
  | 0, _, _, _ => .nil
  | n + 1, _, _, .nil => .nil
  | n + 1, _, _, .cons h t => .cons h (paired_take n t)
theorem paired_drop {α β : Type} {F : α → β → Prop} : ∀ (n : Nat) {xs : List α} {ys : List β}, Paired F xs ys → Paired F (xs.drop n) (ys.drop n)
  | 0, _, _, h => h
  | n + 1, _, _, .nil => .nil
  | n + 1, _, _, .cons _ t => paired_drop n t
theorem paired_app {α β : Type} {F : α → β → Prop} : ∀ {xs xs' : List α} {ys ys' : List β}, Paired F xs ys → Paired F xs' ys' → Paired F (xs ++ xs') (ys ++ ys')
  | _, _, _, _, .nil, h => h
  | _, _, _, _, .cons h t, g => .cons h (paired_app t g)
end Gc

/-! the P family's source of numbers (laws k15 to k24) -/
namespace Gc
open PySem L2
abbrev s_pool : Stmt := top 25
abbrev s_draw : Stmt := top 26
/-- the source: what is left of the script's number, a mix, a count -/
def Rng (H : Hp) (a : Addr) (n : Nat) : Prop := ∃ g s c : Int, H a = some (.lst [.int g, .int s, .int c]) ∧ 0 ≤ s ∧ s < 2 ^ 62 ∧ 0 ≤ c ∧ c ≤ n
theorem Rng.same {H H' : Hp} {a : Addr} {n : Nat} (e : Same H H') (h : Rng H a n) : Rng H' a n := by
  obtain ⟨g, s, c, h1, h2⟩ := h
  exact ⟨g, s, c, e _ _ h1, h2⟩
theorem Rng.more {H : Hp} {a : Addr} {n m : Nat} (h : Rng H a n) (l : n ≤ m) : Rng H a m := by
  obtain ⟨g, s, c, h1, h2, h3, h4, h5⟩ := h
  exact ⟨g, s, c, h1, h2, h3, h4, by omega⟩
theorem Rng.off {H : Hp} {r p : Addr} {n : Nat} (B : Rng H r n) (h : H p = none) : p ≠ r := by
  obtain ⟨_, _, _, z, _⟩ := B
  exact (ne_of_none z h).symm
theorem Rng.tupK {H H' : Hp} {r : Addr} {n : Nat} (rg : Rng H r n) (kp : Keep r r H H') : ∀ t xs, H t = some (.tup xs) → H' t = some (.tup xs) := fun t xs q => by
  obtain ⟨_, _, _, z, _⟩ := rg
  exact kp _ _ (ne_of q z (by intro y; cases y)) (ne_of q z (by intro y; cases y)) q
theorem Rng.tup {K : PySem.W.Frag} {H H' : Hp} {r p : Addr} {n : Nat} {ys : List V} (B : Rng H r n) (k : Keep r r H H') (h : SqT K H p ys) : SqT K H' p ys := by
  obtain ⟨_, _, _, z, _⟩ := B
  rcases h with (q | ⟨o, q⟩) | q
  · exact .inl (.inl (k _ _ (ne_of q z (by intro y; cases y)) (ne_of q z (by intro y; cases y)) q))
  · exact .inl (.inr ⟨o, k _ _ (ne_of q z (by intro y; cases y)) (ne_of q z (by intro y; cases y)) q⟩)
  · exact .inr q
theorem Rng.cmds {K : PySem.W.Frag} {H H' : Hp} {r : Addr} {n : Nat} {xs : List V} {cs : List Cmd} (B : Rng H r n) (k : Keep r r H H') (h : CmdsOf K H xs cs) : CmdsOf K H' xs cs := Paired.mapP h fun _ _ q => by
  obtain ⟨b, e, z⟩ := q
  exact ⟨b, e, B.tup k z⟩
theorem Keep.freeU {a l : Addr} {H H' : Hp} {o : HO} (e : Keep a a H H') (h : H l = none) : Keep a a H (upd H' l o) := fun b u h1 h2 hb => by
  rw [upd_ne (ne_of_none hb h)]
  exact e b u h1 h2 hb
theorem Keep.freeK {a l : Addr} {H H' : Hp} (e : Keep a a H H') (n : l ≠ a) (h : H' l = none) : H l = none := by
  cases q : H l with
  | none => rfl
  | some o =>
    rw [e _ _ n n q] at h
    cases h
theorem rng_upd {H : Hp} {r D : Addr} {n : Nat} {o : HO} (h : Rng H r n) (d : D ≠ r) : Rng (upd H D o) r n := by
  obtain ⟨g, s, c, h1, h2⟩ := h
  exact ⟨g, s, c, by rw [upd_ne (Ne.symm d)]; exact h1, h2⟩
theorem Keep.same1 {r : Addr} {H H1 H2 : Hp} (k : Keep r r H H1) (e : Same H1 H2) : Keep r r H H2 := k.trans (Keep.of e)
structure TxtPl (mg : Str → Option Value) : Prop where
  len : mg "len" = none
  max : mg "max" = none
  abs : mg "abs" = none
def spPool (K : PySem.W.Frag) : Sp := fun vs H Q _ => ∃ (a : Addr) (ns : List Int) (i : Nat), vs = [.ref a, .int (i : Nat)] ∧ SqL K H a (ns.map V.int) ∧ ns.length ≤ 63 ∧ i ≤ 63 ∧ ∀ (H' : Hp) (p : Addr), Same H H' → H p = none → Rng H' p 0 → Q (.ref p) H'
def spDraw : Sp := fun vs H Q _ => ∃ (a : Addr) (n : Nat) (many : Int), vs = [.ref a, .int many] ∧ Rng H a n ∧ n < 2 ^ 40 ∧ 0 < many ∧ many.natAbs.log2 < 9000 ∧
  ∀ (H' : Hp) (r : Int), Keep a a H H' → Rng H' a (n + 1) → 0 ≤ r → r < many → Q (.int r) H'
section
variable {P : Program} {w : World} {K : PySem.W.Frag} {mg : Str → Option Value} {base : Heap}
theorem sc_law_pool : FnScope ["script", "at", "cell"] ["script", "at"] (defScope s_pool) := ⟨rfl, rfl, rfl, by decide +kernel, rfl, by decide +kernel, by decide +kernel⟩
theorem ok_pool {f : Addr} {fd : FuncData} (F : Fun K "_law_pool" "_law_pool" s_pool f fd) (T : TxtPl mg) : FnOk P w K mg base CX0 1 f fd ["script", "at"] (spPool K) := by
  refine F.ok sc_law_pool (fun vs H Q E h => ?_) (fun cdv A outer s H vs Q E hr h => ?_)
  · obtain ⟨a, ns, i, rfl, _⟩ := h
    rfl
  · obtain ⟨a, ns, i, rfl, hS, hn, hi, k⟩ := h
    refine ⟨_, (pss_cons (ps_set (i := 2) sc_law_pool.nd rfl (Or.inl rfl) pe_int)
      (C8.pss_cut (ps_if (pt_cmpR op_lt (pv 1) (pe_callB call_len_seq (by rfl) T.len (by decide +kernel) (pa_cons (pv 0) pa_nil)) (nomark _)) (pss_one (ps_set (i := 2) sc_law_pool.nd rfl (Or.inl rfl) (pe_ix ix_list (pv 0) (pv 1) (fun _ _ => rfl)))) pss_nil)
      (pss_one (ps_ret (pe_lst (pa_cons (pe_callB (call_max2 rfl) (by rfl) T.max (by decide +kernel) (pa_cons pe_int (pa_cons (pe_op op_sub (pe_callB call_abs (by rfl) T.abs (by decide +kernel) (pa_cons (pv 2) pa_nil)) (pe_op op_pow pe_int pe_int)) pa_nil))) (pa_cons (pe_op op_add (pe_op op_mod (pv 2) pe_int) (pe_op op_mulW pe_int (pe_op op_add (pv 1) pe_int))) (pa_cons pe_int pa_nil)))))))), ?_⟩
    refine ⟨fun σ H' => ∃ cell : Int, σ = [some (.ref a), some (.int (i : Nat)), some (.int cell)] ∧ H' = H, ?_, ?_⟩
    · refine ⟨_, rfl, _, rfl, a, _, rfl, .inl hS, _, _, rfl, rfl, _, rfl, ite2 (fun c => ?_) (fun c => ?_)⟩
      · have c' : (i : Int) < ((ns.map V.int).length : Int) := of_decide_eq_true c
        rw [List.length_map] at c'
        have hi' : i < ns.length := by omega
        exact ⟨_, rfl, _, rfl, a, _, _, .int ns[i], rfl, rfl, hS, at_of (j := i) rfl (by rw [List.getElem?_map, List.getElem?_eq_getElem hi']; rfl), _, rfl, rfl⟩
      · exact ⟨0, rfl, rfl⟩
    · rintro σ H' ⟨cell, rfl, rfl⟩
      have m1 := Int.emod_nonneg cell (show (2305843009213693951 : Int) ≠ 0 by decide)
      have m2 := Int.emod_lt_of_pos cell (show (0 : Int) < 2305843009213693951 by decide)
      refine ⟨_, rfl, _, rfl, _, _, rfl, rfl, cpow (by decide), _, _, rfl, rfl, _, _, rfl, ?_⟩
      refine ⟨_, rfl, _, _, rfl, rfl, (show (0 : Int) < 2305843009213693951 by decide), _, rfl, _, _, rfl, rfl, _, _, rfl, rfl, wide_mul (a := 61) (b := 61) (by decide) (by omega) (by decide) (by decide) (by decide), _, _, rfl, rfl, (by show 3 ≤ sizeLine; decide), fun p np => ?_⟩
      exact k _ p (new_same np) np ⟨_, _, 0, upd_same, by show 0 ≤ cell % 2305843009213693951 + 1500450271 * ((i : Int) + 1); omega, by show cell % 2305843009213693951 + 1500450271 * ((i : Int) + 1) < 2 ^ 62; omega, by decide, by decide⟩
theorem sc_law_draw : FnScope ["pool", "many", "drawn", "mixed"] ["pool", "many"] (defScope s_draw) := ⟨rfl, rfl, rfl, by decide +kernel, rfl, by decide +kernel, by decide +kernel⟩
theorem ok_draw {f : Addr} {fd : FuncData} (F : Fun K "_law_draw" "_law_draw" s_draw f fd) : FnOk P w K mg base CX0 1 f fd ["pool", "many"] spDraw := by
  refine F.ok sc_law_draw (fun vs H Q E h => ?_) (fun cdv A outer s H vs Q E hr h => ?_)
  · obtain ⟨a, n, many, rfl, _⟩ := h
    rfl
  · obtain ⟨a, n, many, rfl, hs, hn, m0, mb, k⟩ := h
    obtain ⟨g, sd, c, hA, s0, s1, c0, c1⟩ := hs
    refine ⟨_, (pss_cons (ps_if (pt_cmpR op_gt (pe_ix ix_list (pv 0) pe_int (fun _ _ => rfl)) pe_int (nomark _)) (pss_cons (ps_set (i := 2) sc_law_draw.nd rfl (Or.inl rfl) (pe_op op_mod (pe_ix ix_list (pv 0) pe_int (fun _ _ => rfl)) (pv 1)))
      (pss_cons (ps_asg (pe_op op_fdivW (pe_ix ix_list (pv 0) pe_int (fun _ _ => rfl)) (pv 1)) (pg_sub (pv 0) pe_int set_list))
      (pss_one (ps_ret (pv 2))))) pss_nil)
      (pss_cons (ps_asg (pe_op op_add (pe_ix ix_list (pv 0) pe_int (fun _ _ => rfl)) pe_int) (pg_sub (pv 0) pe_int set_list))
      (pss_cons (ps_set (i := 3) sc_law_draw.nd rfl (Or.inl rfl) (pe_op op_mod (pe_op op_powW (pe_op op_add (pe_ix ix_list (pv 0) pe_int (fun _ _ => rfl)) (pe_op op_mulW pe_int (pe_ix ix_list (pv 0) pe_int (fun _ _ => rfl)))) pe_int) pe_int))
      (pss_cons (ps_set (i := 3) sc_law_draw.nd rfl (Or.inl rfl) (pe_op op_mod (pe_op op_powW (pe_op op_add (pv 3) (pe_op op_mulW pe_int (pe_ix ix_list (pv 0) pe_int (fun _ _ => rfl)))) pe_int) pe_int))
      (pss_one (ps_ret (pe_op op_mod (pe_op op_fdivW (pv 3) pe_int) (pv 1)))))))), ?_⟩
    refine ⟨_, rfl, a, _, 0, _, rfl, rfl, SqL.of hA, rfl, _, _, rfl, rfl, _, rfl, ?_⟩
    refine ite2 (fun z => ?_) (fun z => ?_)
    · refine ⟨_, rfl, a, _, 0, _, rfl, rfl, SqL.of hA, rfl, _, rfl, _, _, rfl, rfl, m0, ?_⟩
      refine ⟨_, rfl, a, _, 0, _, rfl, rfl, SqL.of hA, rfl, _, rfl, _, _, rfl, rfl, ⟨m0, mb⟩, ?_⟩
      refine ⟨_, rfl, a, _, 0, 0, rfl, rfl, hA, rfl, ?_⟩
      exact ⟨_, rfl, k _ _ (Keep.refl H).upd1 ⟨_, sd, c, upd_same, s0, s1, c0, by omega⟩ (Int.emod_nonneg _ (by omega)) (Int.emod_lt_of_pos _ m0)⟩
    · refine ⟨_, rfl, a, _, 2, _, rfl, rfl, SqL.of hA, rfl, _, _, rfl, rfl, ?_⟩
      refine ⟨_, rfl, a, _, 2, 2, rfl, rfl, hA, rfl, ?_⟩
      have c2 : c + 1 < 2 ^ 41 := by omega
      generalize hH1 : upd H a (.lst ([V.int g, .int sd, .int c].set 2 (.int (c + 1)))) = H1
      have hA1 : H1 a = some (.lst [.int g, .int sd, .int (c + 1)]) := by rw [← hH1]; exact upd_same
      have kp : Keep a a H H1 := by rw [← hH1]; exact (Keep.refl H).upd1
      have mul1 : CMulW 15488981 (c + 1) := wide_mul (a := 61) (b := 61) (by decide) (by omega) (by decide) (by decide) (by decide)
      refine ⟨_, rfl, a, _, 1, _, rfl, rfl, SqL.of hA1, rfl, _, rfl, a, _, 2, _, rfl, rfl, SqL.of hA1, rfl, _, _, rfl, rfl, mul1, _, _, rfl, rfl, _, _, rfl, rfl, cpowW (a := 80) (by decide) (by decide) (by omega) (by decide), _, _, rfl, rfl, (show (0 : Int) < 162259276829213363391578010288127 by decide), ?_⟩
      have n1 := Int.emod_nonneg ((sd + 15488981 * (c + 1)) ^ (3 : Int).toNat) (show (162259276829213363391578010288127 : Int) ≠ 0 by decide)
      have n2 := Int.emod_lt_of_pos ((sd + 15488981 * (c + 1)) ^ (3 : Int).toNat) (show (0 : Int) < 162259276829213363391578010288127 by decide)
      generalize (sd + 15488981 * (c + 1)) ^ (3 : Int).toNat % 162259276829213363391578010288127 = mx1 at n1 n2 ⊢
      have mul2 : CMulW 32453119 (c + 1) := wide_mul (a := 61) (b := 61) (by decide) (by omega) (by decide) (by decide) (by decide)
      refine ⟨_, rfl, _, rfl, a, _, 2, _, rfl, rfl, SqL.of hA1, rfl, _, _, rfl, rfl, mul2, _, _, rfl, rfl, _, _, rfl, rfl, cpowW (a := 120) (by decide) (by decide) (by omega) (by decide), _, _, rfl, rfl, (show (0 : Int) < 170141183460469231731687303715884105727 by decide), ?_⟩
      generalize (mx1 + 32453119 * (c + 1)) ^ (5 : Int).toNat % 170141183460469231731687303715884105727 = mx2
      refine ⟨_, rfl, _, _, rfl, rfl, ⟨by decide, by decide⟩, _, rfl, _, _, rfl, rfl, m0, ?_⟩
      exact k _ _ kp ⟨g, sd, c + 1, hA1, s0, s1, by omega, by omega⟩ (Int.emod_nonneg _ (by omega)) (Int.emod_lt_of_pos _ m0)
end
end Gc

/-! commands as texts: what is written, and that it can be read back -/
namespace Gc
open PySem PyProof.Rows L2 TL
def mkS (l : List Nat) : Str := ⟨l.toArray⟩
theorem tl_mkS (l : List Nat) : tl (mkS l) = l := rfl
theorem mkS_app (l m : List Nat) : mkS l ++ mkS m = mkS (l ++ m) := ext_tl (by rw [tl_append]; rfl)
theorem mkS_len (l : List Nat) : (mkS l).length = l.length := by rw [len_tl]; rfl
theorem mkS_inj {l m : List Nat} (h : mkS l = mkS m) : l = m := by
  have e := congrArg tl h
  exact e
/-- the number of a command -/
def numC : Cmd → Int
  | .down n => n
  | .up n => n
  | .right n => n
  | .left n => n
  | _ => 0
def letC : Cmd → Nat
  | .down _ => 68
  | .up _ => 85
  | .right _ => 82
  | .left _ => 76
  | .home => 72
  | .stop => 69
/-- the digits that stand ahead of the letter -/
def digC : Cmd → List Nat
  | .down n => numL n.toNat
  | .up n => numL n.toNat
  | .right n => numL n.toNat
  | .left n => numL n.toNat
  | _ => []
def cw (c : Cmd) : List Nat := digC c ++ [letC c]
def noneL : List Nat := [110, 111, 110, 101]
def shownL (cs : List Cmd) : List Nat := if cs = [] then noneL else joinL [32] (cs.map cw)
def shownS (cs : List Cmd) : Str := mkS (shownL cs)
theorem digC_digits (c : Cmd) : NumText.AllDigits (digC c) := by
  cases c with
  | down n => exact numL_digits _
  | up n => exact numL_digits _
  | right n => exact numL_digits _
  | left n => exact numL_digits _
  | home => exact fun _ h => nomatch h
  | stop => exact fun _ h => nomatch h
theorem letC_ge (c : Cmd) : 65 ≤ letC c ∧ letC c ≤ 90 := by cases c <;> simp [letC]
theorem cw_free (c : Cmd) : 32 ∉ cw c := fun h => by
  rcases List.mem_append.mp h with h | h
  · have := digC_digits c 32 h
    omega
  · have e := List.mem_singleton.mp h
    have := letC_ge c
    omega
theorem cw_ne (c : Cmd) : cw c ≠ [] := by simp [cw]
theorem cw_inj {c d : Cmd} (hc : c.ok) (hd : d.ok) (h : cw c = cw d) : c = d := by
  have e1 := congrArg List.getLast? h
  have e2 := congrArg List.dropLast h
  unfold cw at e1 e2
  rw [List.getLast?_concat, List.getLast?_concat] at e1
  rw [List.dropLast_concat, List.dropLast_concat] at e2
  have e3 := Option.some.inj e1
  have key : ∀ {n m : Int}, 1 ≤ n → 1 ≤ m → numL n.toNat = numL m.toNat → n = m := fun h1 h2 z => by
    have := numL_inj z
    omega
  cases c <;> cases d <;> simp only [letC] at e3 <;> first
    | rfl
    | exact absurd e3 (by decide)
    | rw [key hc hd e2]
theorem cws_inj : ∀ {cs ds : List Cmd}, AllOk cs → AllOk ds → cs.map cw = ds.map cw → cs = ds
  | [], [], _, _, _ => rfl
  | [], _ :: _, _, _, h => by cases h
  | _ :: _, [], _, _, h => by cases h
  | c :: cs, d :: ds, h1, h2, h => by
    rw [List.map_cons, List.map_cons] at h
    injection h with e1 e2
    rw [cw_inj (h1 c List.mem_cons_self) (h2 d List.mem_cons_self) e1, cws_inj (fun x hx => h1 x (List.mem_cons_of_mem _ hx)) (fun x hx => h2 x (List.mem_cons_of_mem _ hx)) e2]
theorem join_words {cs : List Cmd} (h : cs ≠ []) : spl [32] 0 [] (joinL [32] (cs.map cw)) = cs.map cw :=
  spl_join (fun e => h (List.map_eq_nil_iff.mp e)) fun p hp => by
    obtain ⟨c, _, rfl⟩ := List.mem_map.mp hp
    exact cw_free c
theorem none_words : spl [32] 0 [] noneL = [noneL] := by decide +kernel
theorem none_no {cs : List Cmd} (h : cs ≠ []) : joinL [32] (cs.map cw) ≠ noneL := fun e => by
  have z := join_words h
  rw [e, none_words] at z
  cases cs with
  | nil => exact h rfl
  | cons c cs =>
    rw [List.map_cons] at z
    injection z with z1 z2
    have z3 := congrArg List.getLast? z1
    unfold cw at z3
    rw [List.getLast?_concat] at z3
    have z4 : (101 : Nat) = letC c := Option.some.inj z3
    have := letC_ge c
    omega
theorem shownL_inj {cs ds : List Cmd} (h1 : AllOk cs) (h2 : AllOk ds) (h : shownL cs = shownL ds) : cs = ds := by
  unfold shownL at h
  by_cases c : cs = []
  · by_cases d : ds = []
    · rw [c, d]
    · rw [if_pos c, if_neg d] at h
      exact absurd h.symm (none_no d)
  · by_cases d : ds = []
    · rw [if_neg c, if_pos d] at h
      exact absurd h (none_no c)
    · rw [if_neg c, if_neg d] at h
      have z1 := join_words c
      rw [h, join_words d] at z1
      exact (cws_inj h2 h1 z1).symm
theorem shownS_inj {cs ds : List Cmd} (h1 : AllOk cs) (h2 : AllOk ds) (h : shownS cs = shownS ds) : cs = ds := shownL_inj h1 h2 (mkS_inj h)
/-! lengths -/
theorem digC_len {c : Cmd} (h : numC c < 10 ^ 40) : (digC c).length ≤ 40 := by
  have key : ∀ n : Int, n < 10 ^ 40 → (numL n.toNat).length ≤ 40 := fun n hn => numL_len (k := 40) (by decide) (by omega)
  cases c with
  | down n => exact key n h
  | up n => exact key n h
  | right n => exact key n h
  | left n => exact key n h
  | home => exact Nat.zero_le _
  | stop => exact Nat.zero_le _
theorem cw_len {c : Cmd} (h : numC c < 10 ^ 40) : (cw c).length ≤ 41 := by
  unfold cw
  rw [List.length_append, List.length_singleton]
  have := digC_len h
  omega
theorem joinL_len {k : Nat} : ∀ {ps : List (List Nat)}, (∀ p ∈ ps, p.length ≤ k) → (joinL [32] ps).length ≤ (k + 1) * ps.length
  | [], _ => Nat.zero_le _
  | [p], h => by
    have := h p (List.mem_singleton.mpr rfl)
    show p.length ≤ (k + 1) * 1
    omega
  | p :: q :: r, h => by
    have h1 := h p List.mem_cons_self
    have h2 := joinL_len (ps := q :: r) fun x hx => h x (List.mem_cons_of_mem _ hx)
    show (p ++ ([32] ++ joinL [32] (q :: r))).length ≤ _
    rw [List.length_append, List.length_append, List.length_singleton, List.length_cons (a := p), Nat.mul_succ]
    omega
theorem shownL_len {cs : List Cmd} (h : ∀ c ∈ cs, numC c < 10 ^ 40) : (shownL cs).length ≤ 42 * cs.length + 4 := by
  unfold shownL
  by_cases c : cs = []
  · rw [if_pos c]
    exact Nat.le_add_left _ _
  · rw [if_neg c]
    have := joinL_len (k := 41) (ps := cs.map cw) fun p hp => by
      obtain ⟨d, hd, rfl⟩ := List.mem_map.mp hp
      exact cw_len (h d hd)
    rw [List.length_map] at this
    omega
/-- one more word behind -/
theorem joinL_snoc : ∀ {ps : List (List Nat)} {p : List Nat}, ps ≠ [] → joinL [32] (ps ++ [p]) = joinL [32] ps ++ ([32] ++ p)
  | [], _, h => absurd rfl h
  | [q], p, _ => rfl
  | q :: r :: s, p, _ => by
    show q ++ ([32] ++ joinL [32] ((r :: s) ++ [p])) = (q ++ ([32] ++ joinL [32] (r :: s))) ++ ([32] ++ p)
    rw [joinL_snoc (by simp)]
    simp [List.append_assoc]
theorem joinL_nil_iff : ∀ {ps : List (List Nat)}, (∀ p ∈ ps, p ≠ []) → (joinL [32] ps = [] ↔ ps = [])
  | [], _ => ⟨fun _ => rfl, fun _ => rfl⟩
  | [p], h => ⟨fun e => absurd e (h p (List.mem_singleton.mpr rfl)), fun e => nomatch e⟩
  | p :: q :: r, h => ⟨fun e => by
      have e2 : p ++ ([32] ++ joinL [32] (q :: r)) = [] := e
      simp at e2, fun e => nomatch e⟩
/-! equal lists of commands, as data -/
theorem eqv_cmd (c d : Cmd) : PyData.eqv (cmdD c) (cmdD d) = decide (c = d) := by
  cases c <;> cases d <;> simp [cmdD, PyData.eqv, PyData.eqvAll]
  all_goals first
    | decide +kernel
    | rw [Bool.eq_iff_iff, beq_iff_eq, decide_eq_true_eq]
    | (intro h; exact absurd h (by decide +kernel))
theorem eqvAll_cmds : ∀ cs ds : List Cmd, PyData.eqvAll (cs.map cmdD) (ds.map cmdD) = decide (cs = ds)
  | [], [] => by simp [PyData.eqvAll]
  | [], _ :: _ => by simp [PyData.eqvAll]
  | _ :: _, [] => by simp [PyData.eqvAll]
  | c :: cs, d :: ds => by
    rw [List.map_cons, List.map_cons, PyData.eqvAll, eqv_cmd, eqvAll_cmds cs ds]
    simp
theorem eqv_cmds (cs ds : List Cmd) : PyData.eqv (.list (cs.map cmdD)) (.list (ds.map cmdD)) = decide (cs = ds) := by
  rw [PyData.eqv]
  exact eqvAll_cmds cs ds
end Gc
namespace Gc
open PySem PyProof.Rows L2 TL
theorem depth_cmds : ∀ cs : List Cmd, PyData.depthAll (cs.map cmdD) ≤ 1
  | [] => by simp [PyData.depthAll]
  | c :: cs => by
    have := depth_cmds cs
    cases c <;> simp [PyData.depthAll, PyData.depth, cmdD, this]
theorem lay_cmds : ∀ cs : List Cmd, PyData.canLayAll0 (cs.map cmdD) = true
  | [] => by simp [PyData.canLayAll0]
  | c :: cs => by
    have h1 : PyData.strOk "down" = true := by decide +kernel
    have h2 : PyData.strOk "up" = true := by decide +kernel
    have h3 : PyData.strOk "right" = true := by decide +kernel
    have h4 : PyData.strOk "left" = true := by decide +kernel
    have h5 : PyData.strOk "home" = true := by decide +kernel
    have h6 : PyData.strOk "end" = true := by decide +kernel
    cases c <;> simp [PyData.canLayAll0, PyData.canLay0, cmdD, lay_cmds cs, h1, h2, h3, h4, h5, h6]
theorem shaped_cmds (cs : List Cmd) : SeqAt.shaped (.list (cs.map cmdD)) = true := by
  have h2 := depth_cmds cs
  have hd : (PyData.list (cs.map cmdD)).depth ≤ 64 := by
    simp only [PyData.depth]
    omega
  unfold SeqAt.shaped
  rw [decide_eq_true hd]
  simp [PyData.canLay0, lay_cmds cs]
/-- one more word of what is written -/
theorem shown_step (cs : List Cmd) (i : Nat) (c : Cmd) (h : cs[i]? = some c) :
    joinL [32] ((cs.take (i + 1)).map cw) = joinL [32] ((cs.take i).map cw) ++ (if i = 0 then [] else [32]) ++ digC c ++ [letC c] := by
  have e : cs.take (i + 1) = cs.take i ++ [c] := by
    rw [List.take_add_one, h]
    rfl
  rw [e, List.map_append, List.map_singleton]
  by_cases z : i = 0
  · subst z
    simp [joinL, cw]
  · have ne : (cs.take i).map cw ≠ [] := by
      intro q
      have q2 := congrArg List.length q
      have li := (List.getElem?_eq_some_iff.mp h).1
      rw [List.length_map, List.length_take, List.length_nil] at q2
      omega
    rw [joinL_snoc ne, if_neg z]
    simp [cw, List.append_assoc]
theorem shown_nil (cs : List Cmd) (i : Nat) (c : Cmd) (h : cs[i]? = some c) : joinL [32] ((cs.take i).map cw) = [] ↔ i = 0 := by
  rw [joinL_nil_iff (fun p hp => by
    obtain ⟨c, _, rfl⟩ := List.mem_map.mp hp
    exact cw_ne c)]
  have li := (List.getElem?_eq_some_iff.mp h).1
  constructor
  · intro q
    have q2 := congrArg List.length q
    rw [List.length_map, List.length_take, List.length_nil] at q2
    omega
  · intro q
    subst q
    rfl
end Gc

/-! the P family's keys, lines and cursors -/
namespace Gc
open PySem L2
abbrev s_number : Stmt := top 27
abbrev s_key : Stmt := top 28
abbrev s_keys : Stmt := top 29
abbrev s_lines : Stmt := top 30
abbrev s_spot : Stmt := top 31
structure TxtK (mg : Str → Option Value) : Prop where
  range : mg "range" = none
  len : mg "len" = none
def far2 (far : Int) : Int := max 60 far
def KeyB (B : Int) (c : Cmd) : Prop := c.ok ∧ numC c ≤ B ∧ c.dv.natAbs ≤ 3
def spNumber (K : PySem.W.Frag) : Sp := fun vs H Q _ => ∃ (a : Addr) (n : Nat) (far : Int), vs = [.ref a, .int far] ∧ Rng H a n ∧ n < 2 ^ 39 ∧ 1 ≤ far ∧ far ≤ 10 ^ 31 ∧ ∀ (H' : Hp) (v : Int), Keep a a H H' → Rng H' a (n + 2) → 1 ≤ v → v ≤ far2 far → Q (.int v) H'
def spKey (K : PySem.W.Frag) : Sp := fun vs H Q _ => ∃ (a : Addr) (n : Nat) (far : Int), vs = [.ref a, .int far] ∧ Rng H a n ∧ n < 2 ^ 38 ∧ 1 ≤ far ∧ far ≤ 10 ^ 31 ∧ ∀ (H' : Hp) (p : Addr) (c : Cmd), Keep a a H H' → Rng H' a (n + 3) → H' p = some (.tup (encC c)) → KeyB (far2 far) c → Q (.ref p) H'
def spKeys (K : PySem.W.Frag) : Sp := fun vs H Q _ => ∃ (a : Addr) (n : Nat) (most far : Int), vs = [.ref a, .int most, .int far] ∧ Rng H a n ∧ n < 2 ^ 37 ∧ 0 ≤ most ∧ most ≤ 60 ∧ 1 ≤ far ∧ far ≤ 10 ^ 31 ∧
  ∀ (H' : Hp) (p : Addr) (xs : List V) (cs : List Cmd), Keep a a H H' → Rng H' a (n + 200) → p ≠ a → H p = none → H' p = some (.lst xs) → CmdsOf K H' xs cs → (∀ c ∈ cs, KeyB (far2 far) c) → (cs.length : Int) ≤ most → Q (.ref p) H'
def spLines (K : PySem.W.Frag) : Sp := fun vs H Q _ => ∃ (a : Addr) (n : Nat) (most far : Int), vs = [.ref a, .int most, .int far] ∧ Rng H a n ∧ n < 2 ^ 37 ∧ 1 ≤ most ∧ most ≤ 60 ∧ 1 ≤ far ∧ far ≤ 10 ^ 31 ∧
  ∀ (H' : Hp) (p : Addr) (T : List Int), Keep a a H H' → Rng H' a (n + 200) → p ≠ a → H p = none → H' p = some (.lst (T.map V.int)) → (∀ x ∈ T, 0 ≤ x ∧ x < max 40 far) → 1 ≤ T.length → (T.length : Int) ≤ most → Q (.ref p) H'
def spSpot (K : PySem.W.Frag) : Sp := fun vs H Q _ => ∃ (a l : Addr) (n : Nat) (T : List Int) (far : Int), vs = [.ref a, .ref l, .int far] ∧ Rng H a n ∧ n < 2 ^ 37 ∧ H l = some (.lst (T.map V.int)) ∧ l ≠ a ∧ 1 ≤ T.length ∧ T.length ≤ 100 ∧ 1 ≤ far ∧ far ≤ 10 ^ 31 ∧
  ∀ (H' : Hp) (p : Addr) (r : Int) (g : Option Int), Keep a a H H' → Rng H' a (n + 10) → H' p = some (.tup [.int r, optV g]) → 0 ≤ r → r < T.length → (∀ x, g = some x → 0 ≤ x ∧ x < max 50 far) → Q (.ref p) H'
section
variable {P : Program} {w : World} {K : PySem.W.Frag} {mg : Str → Option Value} {base : Heap}
theorem sc_law_number : FnScope ["pool", "far"] ["pool", "far"] (defScope s_number) := ⟨rfl, rfl, rfl, by decide +kernel, rfl, by decide +kernel, by decide +kernel⟩
theorem ok_number {f : Addr} {fd : FuncData} (F : Fun K "_law_number" "_law_number" s_number f fd) (c_law_draw : Cal P w K mg base 1 "_law_draw" spDraw) : FnOk P w K mg base CX0 2 f fd ["pool", "far"] (spNumber K) := by
  refine F.ok sc_law_number (fun vs H Q E h => ?_) (fun cdv A outer s H vs Q E hr h => ?_)
  · obtain ⟨a, n, far, rfl, _⟩ := h
    rfl
  · obtain ⟨a, n, far, rfl, rg, hn, f1, f2, k⟩ := h
    refine ⟨_, (pss_one (ps_ret (pe_op op_add pe_int (pe_cal c_law_draw hr (by decide) (by rfl) (pa_cons (pv 0) (pa_cons (pe_ix ix_list (pe_lst (pa_cons pe_int (pa_cons pe_int (pa_cons pe_int (pa_cons (pv 1) pa_nil))))) (pe_cal c_law_draw hr (by decide) (by rfl) (pa_cons (pv 0) (pa_cons pe_int pa_nil))) (fun _ _ => rfl)) pa_nil)))))), ?_⟩
    refine ⟨_, rfl, _, rfl, (by show 4 ≤ sizeLine; decide), fun q nq => ?_⟩
    have qr := rg.off nq
    have e_H1 : Same H (upd H q (.lst [V.int 3, .int 9, .int 60, .int far])) := new_same nq
    have h_q : (upd H q (.lst [V.int 3, .int 9, .int 60, .int far])) q = some (.lst [V.int 3, .int 9, .int 60, .int far]) := upd_same
    generalize upd H q (.lst [V.int 3, .int 9, .int 60, .int far]) = H1 at e_H1 h_q ⊢
    replace rg := rg.same e_H1
    refine ⟨_, rfl, a, _, 4, rfl, rg, by omega, by decide, by decide, fun H2 d kp2 rg2 d0 d1 => ?_⟩
    replace h_q := kp2 _ _ qr qr h_q
    obtain ⟨v, hv, v0, v1⟩ : ∃ v : Int, atI [V.int 3, .int 9, .int 60, .int far] d = some (.int v) ∧ 1 ≤ v ∧ v ≤ far2 far := by
      unfold far2
      rcases (show d = 0 ∨ d = 1 ∨ d = 2 ∨ d = 3 by omega) with rfl | rfl | rfl | rfl
      · exact ⟨_, rfl, by decide, by omega⟩
      · exact ⟨_, rfl, by decide, by omega⟩
      · exact ⟨_, rfl, by decide, by omega⟩
      · exact ⟨_, rfl, f1, by omega⟩
    have fb : far2 far ≤ 10 ^ 31 := by unfold far2; omega
    refine ⟨q, _, _, _, rfl, rfl, SqL.of h_q, hv, a, _, v, rfl, rg2, by omega, by omega, log9 (a := 110) (by omega) (by decide), fun H3 d2 kp3 rg3 d20 d21 => ⟨_, _, rfl, rfl, ?_⟩⟩
    exact k _ _ ((Keep.of e_H1).trans (kp2.trans kp3)) rg3 (by omega) (by omega)
theorem sc_law_key : FnScope ["pool", "far", "way"] ["pool", "far"] (defScope s_key) := ⟨rfl, rfl, rfl, by decide +kernel, rfl, by decide +kernel, by decide +kernel⟩
theorem ok_key {f : Addr} {fd : FuncData} (F : Fun K "_law_key" "_law_key" s_key f fd) (c_law_draw : Cal P w K mg base 1 "_law_draw" spDraw) (c_law_number : Cal P w K mg base 2 "_law_number" (spNumber K)) : FnOk P w K mg base CX0 3 f fd ["pool", "far"] (spKey K) := by
  refine F.ok sc_law_key (fun vs H Q E h => ?_) (fun cdv A outer s H vs Q E hr h => ?_)
  · obtain ⟨a, n, far, rfl, _⟩ := h
    rfl
  · obtain ⟨a, n, far, rfl, rg, hn, f1, f2, k⟩ := h
    refine ⟨_, (pss_cons (ps_set (i := 2) sc_law_key.nd rfl (Or.inl rfl) (pe_cal c_law_draw hr (by decide) (by rfl) (pa_cons (pv 0) (pa_cons pe_int pa_nil))))
      (pss_cons (ps_if (pt_cmpR op_lt (pv 2) pe_int (nomark _)) (pss_one (ps_ret (pe_ix ix_list (pe_lst (pa_cons (pe_tup (pa_cons pe_str pa_nil)) (pa_cons (pe_tup (pa_cons pe_str pa_nil)) pa_nil))) (pv 2) (fun _ _ => rfl)))) pss_nil)
      (pss_cons (ps_if (pt_cmpR op_lt (pv 2) pe_int (nomark _)) (pss_one (ps_ret (pe_tup (pa_cons (pe_ix ix_list (pe_lst (pa_cons pe_str (pa_cons pe_str pa_nil))) (pe_op op_mod (pv 2) pe_int) (fun _ _ => rfl)) (pa_cons (pe_op op_add pe_int (pe_cal c_law_draw hr (by decide) (by rfl) (pa_cons (pv 0) (pa_cons pe_int pa_nil)))) pa_nil))))) pss_nil)
      (pss_one (ps_ret (pe_tup (pa_cons (pe_ix ix_list (pe_lst (pa_cons pe_str (pa_cons pe_str pa_nil))) (pe_op op_mod (pv 2) pe_int) (fun _ _ => rfl)) (pa_cons (pe_cal c_law_number hr (by decide) (by rfl) (pa_cons (pv 0) (pa_cons (pv 1) pa_nil))) pa_nil)))))))), ?_⟩
    have fb : 60 ≤ far2 far := by unfold far2; omega
    refine ⟨_, rfl, a, _, 12, rfl, rg, by omega, by decide, by decide, fun H1 d kp1 rg1 d0 d1 => ?_⟩
    refine ⟨_, rfl, _, _, rfl, rfl, _, rfl, ite2 (fun c => ?_) (fun c => ?_)⟩
    · have c' : d < 2 := of_decide_eq_true c
      refine ⟨(by show 1 ≤ sizeLine; decide), fun t1 n1 => ?_⟩
      have e_H2 : Same H1 (upd H1 t1 (.tup [.str "home"])) := new_same n1
      have h_t1 : (upd H1 t1 (.tup [.str "home"])) t1 = some (.tup [.str "home"]) := upd_same
      generalize upd H1 t1 (.tup [.str "home"]) = H2 at e_H2 h_t1 ⊢
      replace rg1 := rg1.same e_H2
      refine ⟨(by show 1 ≤ sizeLine; decide), fun t2 n2 => ?_⟩
      have e_H3 : Same H2 (upd H2 t2 (.tup [.str "end"])) := new_same n2
      have h_t2 : (upd H2 t2 (.tup [.str "end"])) t2 = some (.tup [.str "end"]) := upd_same
      generalize upd H2 t2 (.tup [.str "end"]) = H3 at e_H3 h_t2 ⊢
      replace rg1 := rg1.same e_H3
      replace h_t1 := e_H3 _ _ h_t1
      refine ⟨(by show 2 ≤ sizeLine; decide), fun t3 n3 => ?_⟩
      have e_H4 : Same H3 (upd H3 t3 (.lst [.ref t1, .ref t2])) := new_same n3
      have h_t3 : (upd H3 t3 (.lst [.ref t1, .ref t2])) t3 = some (.lst [.ref t1, .ref t2]) := upd_same
      generalize upd H3 t3 (.lst [.ref t1, .ref t2]) = H4 at e_H4 h_t3 ⊢
      replace rg1 := rg1.same e_H4
      replace h_t1 := e_H4 _ _ h_t1
      replace h_t2 := e_H4 _ _ h_t2
      have kp4 := kp1.trans (Keep.of (e_H2.trans (e_H3.trans e_H4)))
      rcases (show d = 0 ∨ d = 1 by omega) with rfl | rfl
      · exact ⟨_, rfl, t3, _, _, _, rfl, rfl, SqL.of h_t3, rfl, k _ t1 .home kp4 (rg1.more (by omega)) h_t1 ⟨trivial, by show (0 : Int) ≤ _; omega, by decide⟩⟩
      · exact ⟨_, rfl, t3, _, _, _, rfl, rfl, SqL.of h_t3, rfl, k _ t2 .stop kp4 (rg1.more (by omega)) h_t2 ⟨trivial, by show (0 : Int) ≤ _; omega, by decide⟩⟩
    · have c' : ¬ d < 2 := fun z => c (decide_eq_true z)
      refine ⟨_, rfl, _, _, rfl, rfl, _, rfl, ite2 (fun e => ?_) (fun e => ?_)⟩
      · have e' : d < 7 := of_decide_eq_true e
        refine ⟨(by show 2 ≤ sizeLine; decide), fun q nq => ?_⟩
        have qr := rg1.off nq
        have e_H2 : Same H1 (upd H1 q (.lst [V.str "up", .str "down"])) := new_same nq
        have h_q : (upd H1 q (.lst [V.str "up", .str "down"])) q = some (.lst [V.str "up", .str "down"]) := upd_same
        generalize upd H1 q (.lst [V.str "up", .str "down"]) = H2 at e_H2 h_q ⊢
        replace rg1 := rg1.same e_H2
        have k2 := kp1.trans (Keep.of e_H2)
        rcases (show d % 2 = 0 ∨ d % 2 = 1 by omega) with hd | hd
        · refine ⟨_, rfl, _, _, rfl, rfl, (by decide : (0 : Int) < 2), q, _, _, .str "up", rfl, rfl, SqL.of h_q, (by rw [hd]; rfl), ?_⟩
          refine ⟨_, rfl, a, _, 3, rfl, rg1, by omega, by decide, by decide, fun H3 d3 kp3 rg3 d30 d31 => ⟨_, _, rfl, rfl, (by show 2 ≤ sizeLine; decide), fun p np => ?_⟩⟩
          exact k _ p (.up (1 + d3)) ((k2.trans kp3).trans (Keep.of (new_same np))) ((rg3.same (new_same np)).more (by omega)) upd_same ⟨by show 1 ≤ 1 + d3; omega, by show 1 + d3 ≤ _; omega, by show (-(1 + d3)).natAbs ≤ 3; omega⟩
        · refine ⟨_, rfl, _, _, rfl, rfl, (by decide : (0 : Int) < 2), q, _, _, .str "down", rfl, rfl, SqL.of h_q, (by rw [hd]; rfl), ?_⟩
          refine ⟨_, rfl, a, _, 3, rfl, rg1, by omega, by decide, by decide, fun H3 d3 kp3 rg3 d30 d31 => ⟨_, _, rfl, rfl, (by show 2 ≤ sizeLine; decide), fun p np => ?_⟩⟩
          exact k _ p (.down (1 + d3)) ((k2.trans kp3).trans (Keep.of (new_same np))) ((rg3.same (new_same np)).more (by omega)) upd_same ⟨by show 1 ≤ 1 + d3; omega, by show 1 + d3 ≤ _; omega, by show (1 + d3).natAbs ≤ 3; omega⟩
      · have e' : ¬ d < 7 := fun z => e (decide_eq_true z)
        refine ⟨(by show 2 ≤ sizeLine; decide), fun q nq => ?_⟩
        have qr := rg1.off nq
        have e_H2 : Same H1 (upd H1 q (.lst [V.str "right", .str "left"])) := new_same nq
        have h_q : (upd H1 q (.lst [V.str "right", .str "left"])) q = some (.lst [V.str "right", .str "left"]) := upd_same
        generalize upd H1 q (.lst [V.str "right", .str "left"]) = H2 at e_H2 h_q ⊢
        replace rg1 := rg1.same e_H2
        have k2 := kp1.trans (Keep.of e_H2)
        rcases (show d % 2 = 0 ∨ d % 2 = 1 by omega) with hd | hd
        · refine ⟨_, rfl, _, _, rfl, rfl, (by decide : (0 : Int) < 2), q, _, _, .str "right", rfl, rfl, SqL.of h_q, (by rw [hd]; rfl), ?_⟩
          refine ⟨_, rfl, _, rfl, a, _, far, rfl, rg1, by omega, f1, f2, fun H3 v kp3 rg3 v0 v1 => ⟨(by show 2 ≤ sizeLine; decide), fun p np => ?_⟩⟩
          exact k _ p (.right v) ((k2.trans kp3).trans (Keep.of (new_same np))) ((rg3.same (new_same np)).more (by omega)) upd_same ⟨v0, v1, by show (0 : Int).natAbs ≤ 3; decide⟩
        · refine ⟨_, rfl, _, _, rfl, rfl, (by decide : (0 : Int) < 2), q, _, _, .str "left", rfl, rfl, SqL.of h_q, (by rw [hd]; rfl), ?_⟩
          refine ⟨_, rfl, _, rfl, a, _, far, rfl, rg1, by omega, f1, f2, fun H3 v kp3 rg3 v0 v1 => ⟨(by show 2 ≤ sizeLine; decide), fun p np => ?_⟩⟩
          exact k _ p (.left v) ((k2.trans kp3).trans (Keep.of (new_same np))) ((rg3.same (new_same np)).more (by omega)) upd_same ⟨v0, v1, by show (0 : Int).natAbs ≤ 3; decide⟩
theorem sc_law_keys : FnScope ["pool", "most", "far", "turn"] ["pool", "most", "far"] (defScope s_keys) := ⟨rfl, rfl, rfl, by decide +kernel, rfl, by decide +kernel, by decide +kernel⟩
theorem ok_keys {f : Addr} {fd : FuncData} (F : Fun K "_law_keys" "_law_keys" s_keys f fd) (T : TxtK mg) (c_law_draw : Cal P w K mg base 1 "_law_draw" spDraw) (c_law_key : Cal P w K mg base 3 "_law_key" (spKey K)) : FnOk P w K mg base CX0 4 f fd ["pool", "most", "far"] (spKeys K) := by
  refine F.ok sc_law_keys (fun vs H Q E h => ?_) (fun cdv A outer s H vs Q E hr h => ?_)
  · obtain ⟨a, n, most, far, rfl, _⟩ := h
    rfl
  · obtain ⟨a, n, most, far, rfl, rg, hn, m0, m1, f1, f2, k⟩ := h
    refine ⟨_, (pss_one (ps_ret (pe_lc (own := [("turn", 3)]) rfl sc_law_keys.nd (pi_range1 rfl T.range (pa_cons (pe_cal c_law_draw hr (by decide) (by rfl) (pa_cons (pv 0) (pa_cons (pe_op op_add (pv 1) pe_int) pa_nil))) pa_nil)) (blkOk_by (N := ["pool", "most", "far", "turn"]) (sc := defScope s_keys) (by decide +kernel)) (fun _ _ _ _ _ => (pg_name (i := 3) sc_law_keys.nd rfl (Or.inl rfl))) (fun _ _ _ _ _ => pts_nil) (fun _ _ _ _ _ => (pe_cal c_law_key hr (by decide) (by rfl) (pa_cons (pv 0) (pa_cons (pv 2) pa_nil))))))), ?_⟩
    refine ⟨_, rfl, _, rfl, _, _, rfl, rfl, a, _, _, rfl, rg, by omega, by omega, log9 (a := 10) (by omega) (by decide), fun H1 d kp1 rg1 d0 d1 => ?_⟩
    refine ⟨_, rfl, by omega, by omega, fun D hD => ?_⟩
    have Da := rg1.off hD
    have D0 : H D = none := by
      cases z : H D with
      | none => rfl
      | some o =>
        have q := kp1 _ _ Da Da z
        rw [hD] at q
        cases q
    refine lc_range (lo := 0) (fun i H' => ∃ (xs : List V) (cs : List Cmd), Keep a a H1 H' ∧ Rng H' a (n + 1 + 3 * i) ∧ H' D = some (.lst xs) ∧ CmdsOf K H' xs cs ∧ (∀ c ∈ cs, KeyB (far2 far) c) ∧ cs.length = i)
      ⟨[], [], Keep.of (new_same hD), rg1.same (new_same hD), upd_same, .nil, fun _ z => (nomatch z), rfl⟩ (fun i H2 hi h => ?_) (fun H2 h => ?_)
    · obtain ⟨xs, cs, kp, rg2, hd, hc, kb, cl⟩ := h
      have hi' : i < 61 := by omega
      refine ⟨rfl, _, rfl, _, rfl, a, _, far, rfl, rg2, by omega, f1, f2, fun H3 p c kp3 rg3 hp hk => ?_⟩
      replace hc := rg2.cmds kp3 hc
      replace hd := kp3 _ _ Da Da hd
      replace kp := kp.trans kp3
      have xl := hc.len
      refine ⟨_, hd, lt_line (by omega), xs ++ [.ref p], cs ++ [c], kp.freeU hD, (rng_upd rg3 Da).more (by omega), upd_same, ?_, fun x hx => ?_, by rw [List.length_append, cl]; rfl⟩
      · exact paired_app (CmdsOf.atL hd hc) (CmdsOf.atL hd (xs := [.ref p]) (cs := [c]) (.cons ⟨p, rfl, SqT.of hp⟩ .nil))
      · rcases List.mem_append.mp hx with z | z
        · exact kb x z
        · rw [List.mem_singleton.mp z]
          exact hk
    · obtain ⟨xs, cs, kp, rg2, hd, hc, kb, cl⟩ := h
      exact k _ D xs cs (kp1.trans kp) (rg2.more (by omega)) Da D0 hd hc kb (by omega)
theorem sc_law_lines : FnScope ["pool", "most", "far", "many", "turn"] ["pool", "most", "far"] (defScope s_lines) := ⟨rfl, rfl, rfl, by decide +kernel, rfl, by decide +kernel, by decide +kernel⟩
theorem ok_lines {f : Addr} {fd : FuncData} (F : Fun K "_law_lines" "_law_lines" s_lines f fd) (T : TxtK mg) (c_law_draw : Cal P w K mg base 1 "_law_draw" spDraw) : FnOk P w K mg base CX0 2 f fd ["pool", "most", "far"] (spLines K) := by
  refine F.ok sc_law_lines (fun vs H Q E h => ?_) (fun cdv A outer s H vs Q E hr h => ?_)
  · obtain ⟨a, n, most, far, rfl, _⟩ := h
    rfl
  · obtain ⟨a, n, most, far, rfl, rg, hn, m0, m1, f1, f2, k⟩ := h
    refine ⟨_, (pss_cons (ps_set (i := 3) sc_law_lines.nd rfl (Or.inl rfl) (pe_op op_add pe_int (pe_cal c_law_draw hr (by decide) (by rfl) (pa_cons (pv 0) (pa_cons (pv 1) pa_nil)))))
      (pss_one (ps_ret (pe_lc (own := [("turn", 4)]) rfl sc_law_lines.nd (pi_range1 rfl T.range (pa_cons (pv 3) pa_nil)) (blkOk_by (N := ["pool", "most", "far", "many", "turn"]) (sc := defScope s_lines) (by decide +kernel)) (fun _ _ _ _ _ => (pg_name (i := 4) sc_law_lines.nd rfl (Or.inl rfl))) (fun _ _ _ _ _ => pts_nil) (fun _ _ _ _ _ => (pe_cal c_law_draw hr (by decide) (by rfl) (pa_cons (pv 0) (pa_cons (pe_ix (show IxR _ (rIxL K) from ix_list) (pe_lst (pa_cons pe_int (pa_cons pe_int (pa_cons pe_int (pa_cons (pv 2) pa_nil))))) (pe_cal c_law_draw hr (by decide) (by rfl) (pa_cons (pv 0) (pa_cons pe_int pa_nil))) (fun _ _ => rfl)) pa_nil)))))))), ?_⟩
    refine ⟨_, rfl, _, rfl, a, _, most, rfl, rg, by omega, by omega, log9 (a := 10) (by omega) (by decide), fun H1 d kp1 rg1 d0 d1 => ⟨_, _, rfl, rfl, ?_⟩⟩
    refine ⟨_, rfl, _, rfl, by omega, by omega, fun D hD => ?_⟩
    have Da := rg1.off hD
    have D0 : H D = none := by
      cases z : H D with
      | none => rfl
      | some o =>
        have q := kp1 _ _ Da Da z
        rw [hD] at q
        cases q
    refine lc_range (lo := 0) (fun i H' => ∃ tx : List Int, Keep a a H1 H' ∧ Rng H' a (n + 1 + 2 * i) ∧ H' D = some (.lst (tx.map V.int)) ∧ (∀ x ∈ tx, 0 ≤ x ∧ x < max 40 far) ∧ tx.length = i)
      ⟨[], Keep.of (new_same hD), rg1.same (new_same hD), upd_same, fun _ z => (nomatch z), rfl⟩ (fun i H2 hi h => ?_) (fun H2 h => ?_)
    · obtain ⟨tx, kp, rg2, hd, it, tl⟩ := h
      have hi' : i < 61 := by omega
      refine ⟨rfl, _, rfl, _, rfl, (by show 4 ≤ sizeLine; decide), fun q nq => ?_⟩
      have qr := rg2.off nq
      have e_H3 : Same H2 (upd H2 q (.lst [V.int 2, .int 8, .int 40, .int far])) := new_same nq
      have h_q : (upd H2 q (.lst [V.int 2, .int 8, .int 40, .int far])) q = some (.lst [V.int 2, .int 8, .int 40, .int far]) := upd_same
      generalize upd H2 q (.lst [V.int 2, .int 8, .int 40, .int far]) = H3 at e_H3 h_q ⊢
      replace rg2 := rg2.same e_H3
      replace hd := e_H3 _ _ hd
      replace kp := kp.same1 e_H3
      refine ⟨_, rfl, a, _, 4, rfl, rg2, by omega, by decide, by decide, fun H4 d2 kp4 rg4 d20 d21 => ?_⟩
      replace h_q := kp4 _ _ qr qr h_q
      replace hd := kp4 _ _ Da Da hd
      replace kp := kp.trans kp4
      obtain ⟨v, hv, v0, v1⟩ : ∃ v : Int, atI [V.int 2, .int 8, .int 40, .int far] d2 = some (.int v) ∧ 1 ≤ v ∧ v ≤ max 40 far := by
        rcases (show d2 = 0 ∨ d2 = 1 ∨ d2 = 2 ∨ d2 = 3 by omega) with rfl | rfl | rfl | rfl
        · exact ⟨_, rfl, by decide, by omega⟩
        · exact ⟨_, rfl, by decide, by omega⟩
        · exact ⟨_, rfl, by decide, by omega⟩
        · exact ⟨_, rfl, f1, by omega⟩
      refine ⟨q, _, _, _, rfl, rfl, SqL.of h_q, hv, a, _, v, rfl, rg4, by omega, by omega, log9 (a := 110) (by omega) (by decide), fun H5 x5 kp5 rg5 x50 x51 => ?_⟩
      replace hd := kp5 _ _ Da Da hd
      replace kp := kp.trans kp5
      refine ⟨_, hd, lt_line (by rw [List.length_map]; omega), tx ++ [x5], kp.freeU hD, (rng_upd rg5 Da).more (by omega), by rw [upd_same, List.map_append]; rfl, fun x hx => ?_, by rw [List.length_append, tl]; rfl⟩
      rcases List.mem_append.mp hx with z | z
      · exact it x z
      · rw [List.mem_singleton.mp z]
        omega
    · obtain ⟨tx, kp, rg2, hd, it, tl⟩ := h
      exact k _ D tx (kp1.trans kp) (rg2.more (by omega)) Da D0 hd it (by omega) (by omega)
end
end Gc

/-! running commands over plain texts: the goal is reached exactly if the box is fulfilled -/
namespace Gc
def seen (t : Int) : Option Int → Int
  | none => t
  | some a => min a t
/-- the goal of the cursor after one command in a row of length t -/
def aim1 (t : Int) (a : Option Int) : Cmd → Option Int
  | .down _ => a
  | .up _ => a
  | .right n => some (min (seen t a + n) t)
  | .left n => some (max 0 (seen t a - n))
  | .home => some 0
  | .stop => none
def aimF (T : Int → Int) : Int → Option Int → List Cmd → Option Int
  | _, a, [] => a
  | r, a, c :: cs => aimF T (r + c.dv) (aim1 (T r) a c) cs
theorem aimF_app (T : Int → Int) : ∀ (xs ys : List Cmd) (r : Int) (a : Option Int), aimF T r a (xs ++ ys) = aimF T (r + last xs) (aimF T r a xs) ys
  | [], ys, r, a => by
    show aimF T r a ys = aimF T (r + 0) a ys
    rw [Int.add_zero]
  | c :: xs, ys, r, a => by
    show aimF T (r + c.dv) (aim1 (T r) a c) (xs ++ ys) = aimF T (r + (c.dv + last xs)) _ ys
    rw [aimF_app T xs ys, Int.add_assoc]
    rfl
theorem aimF_snoc (T : Int → Int) (cs : List Cmd) (c : Cmd) (r : Int) (a : Option Int) : aimF T r a (cs ++ [c]) = aim1 (T (r + last cs)) (aimF T r a cs) c := aimF_app T cs [c] r a
def ge (a : Option Int) (n : Int) : Prop := ∀ x, a = some x → n ≤ x
theorem ge_none (n : Int) : ge none n := fun _ h => nomatch h
theorem ge_some {x n : Int} : ge (some x) n ↔ n ≤ x := ⟨fun h => h x rfl, fun h y e => by rw [← Option.some.inj e]; exact h⟩
theorem seen_ge {t n : Int} {a : Option Int} : n ≤ seen t a ↔ n ≤ t ∧ ge a n := by
  cases a with
  | none => exact ⟨fun h => ⟨h, ge_none n⟩, fun h => h.1⟩
  | some x =>
    rw [ge_some]
    show n ≤ min x t ↔ _
    omega
theorem aim1_nn {t : Int} {a : Option Int} {c : Cmd} (ht : 0 ≤ t) (ha : ge a 0) (ok : c.ok) : ge (aim1 t a c) 0 := by
  have hs : 0 ≤ seen t a := seen_ge.mpr ⟨ht, ha⟩
  cases c with
  | down n => exact ha
  | up n => exact ha
  | right n =>
    have o : 1 ≤ n := ok
    refine ge_some.mpr ?_
    omega
  | left n =>
    refine ge_some.mpr ?_
    omega
  | home => exact ge_some.mpr (Int.le_refl 0)
  | stop => exact ge_none 0
theorem aimF_nn {T : Int → Int} (hT : ∀ k, 0 ≤ T k) : ∀ {cs : List Cmd} {r : Int} {a : Option Int}, AllOk cs → ge a 0 → ge (aimF T r a cs) 0
  | [], _, _, _, h => h
  | c :: cs, r, a, ok, h => aimF_nn hT (cs := cs) (fun d hd => ok d (List.mem_cons_of_mem _ hd)) (aim1_nn (hT r) h (ok c List.mem_cons_self))
theorem last_snoc (cs : List Cmd) (c : Cmd) : last (cs ++ [c]) = last cs + c.dv := by
  rw [last_app]
  show _ + (c.dv + 0) = _
  omega
theorem reqF_le {f : Int → Int} {o v : Int} {T : Int → Int} {r : Int} : (∀ k, reqF f o v k ≤ T (r + k)) ↔ (∀ k, f k ≤ T (r + k)) ∧ v ≤ T (r + o) := by
  constructor
  · intro h
    refine ⟨fun k => Int.le_trans (reqF_ge f o v k) (h k), ?_⟩
    have := h o
    unfold reqF at this
    rw [if_pos rfl] at this
    omega
  · rintro ⟨h1, h2⟩ k
    unfold reqF
    have := h1 k
    split
    · rename_i e
      subst e
      omega
    · exact this
/-- the box's walk, and the run -/
theorem go_char {T : Int → Int} (hT : ∀ k, 0 ≤ T k) {r : Int} {a : Option Int} (ha : ge a 0) : ∀ (rs : List Cmd) (need : Int) (f : Int → Int), AllOk rs → 1 ≤ need →
    ((∃ st g, goF rs (last rs.reverse) need f = some (st, g) ∧ (∀ n, st = some n → ge a n) ∧ ∀ k, g k ≤ T (r + k)) ↔ (∀ k, f k ≤ T (r + k)) ∧ ge (aimF T r a rs.reverse) need)
  | [], need, f, _, _ => by
    constructor
    · rintro ⟨st, g, e, h1, h2⟩
      cases e
      exact ⟨h2, h1 need rfl⟩
    · rintro ⟨h1, h2⟩
      exact ⟨_, _, rfl, fun n e => by rw [← Option.some.inj e]; exact h2, h1⟩
  | .home :: rs, need, f, ok, hn => by
    rw [List.reverse_cons, aimF_snoc]
    constructor
    · rintro ⟨st, g, e, _⟩
      cases e
    · rintro ⟨_, h2⟩
      have : need ≤ 0 := ge_some.mp h2
      omega
  | .stop :: rs, need, f, ok, hn => by
    rw [List.reverse_cons, aimF_snoc]
    constructor
    · rintro ⟨st, g, e, _, h2⟩
      cases e
      exact ⟨h2, ge_none _⟩
    · rintro ⟨h1, _⟩
      exact ⟨_, _, rfl, (fun n e => nomatch e), h1⟩
  | .down n :: rs, need, f, ok, hn => by
    rw [List.reverse_cons, aimF_snoc, last_snoc]
    have ih := go_char hT (r := r) ha rs need f (fun d hd => ok d (List.mem_cons_of_mem _ hd)) hn
    have e : last rs.reverse + (Cmd.down n).dv - n = last rs.reverse := by
      show last rs.reverse + n - n = _
      omega
    simp only [goF]
    rw [e]
    exact ih
  | .up n :: rs, need, f, ok, hn => by
    rw [List.reverse_cons, aimF_snoc, last_snoc]
    have ih := go_char hT (r := r) ha rs need f (fun d hd => ok d (List.mem_cons_of_mem _ hd)) hn
    have e : last rs.reverse + (Cmd.up n).dv + n = last rs.reverse := by
      show last rs.reverse + -n + n = _
      omega
    simp only [goF]
    rw [e]
    exact ih
  | .left n :: rs, need, f, ok, hn => by
    have o : 1 ≤ n := ok _ List.mem_cons_self
    rw [List.reverse_cons, aimF_snoc, last_snoc]
    have ih := go_char hT (r := r) ha rs (need + n) (reqF f (last rs.reverse) (need + n)) (fun d hd => ok d (List.mem_cons_of_mem _ hd)) (by omega)
    have e : last rs.reverse + (Cmd.left n).dv = last rs.reverse := Int.add_zero _
    simp only [goF]
    rw [e, ih, reqF_le]
    have s : ge (aim1 (T (r + last rs.reverse)) (aimF T r a rs.reverse) (.left n)) need ↔ need + n ≤ T (r + last rs.reverse) ∧ ge (aimF T r a rs.reverse) (need + n) := by
      rw [← seen_ge]
      show ge (some _) need ↔ _
      rw [ge_some]
      omega
    rw [s]
    exact ⟨fun h => ⟨h.1.1, h.1.2, h.2⟩, fun h => ⟨⟨h.1, h.2.1⟩, h.2.2⟩⟩
  | .right n :: rs, need, f, ok, hn => by
    have o : 1 ≤ n := ok _ List.mem_cons_self
    have okr : AllOk rs := fun d hd => ok d (List.mem_cons_of_mem _ hd)
    rw [List.reverse_cons, aimF_snoc, last_snoc]
    have e : last rs.reverse + (Cmd.right n).dv = last rs.reverse := Int.add_zero _
    have nn : 0 ≤ seen (T (r + last rs.reverse)) (aimF T r a rs.reverse) := seen_ge.mpr ⟨hT _, aimF_nn hT (fun d hd => okr d (List.mem_reverse.mp hd)) ha⟩
    simp only [goF]
    rw [e]
    have s : ge (aim1 (T (r + last rs.reverse)) (aimF T r a rs.reverse) (.right n)) need ↔ need ≤ T (r + last rs.reverse) ∧ need - n ≤ seen (T (r + last rs.reverse)) (aimF T r a rs.reverse) := by
      show ge (some _) need ↔ _
      rw [ge_some]
      omega
    rw [s]
    by_cases c : need > n
    · rw [if_pos c]
      have ih := go_char hT (r := r) ha rs (need - n) (reqF f (last rs.reverse) need) okr (by omega)
      rw [ih, reqF_le, seen_ge]
      exact ⟨fun h => ⟨h.1.1, h.1.2, by omega, h.2⟩, fun h => ⟨⟨h.1, h.2.1⟩, h.2.2.2⟩⟩
    · rw [if_neg c]
      constructor
      · rintro ⟨st, g, e, _, h2⟩
        cases e
        have h3 := reqF_le.mp h2
        exact ⟨h3.1, h3.2, by omega⟩
      · rintro ⟨h1, h2, _⟩
        exact ⟨_, _, rfl, (fun n e => nomatch e), reqF_le.mpr ⟨h1, h2⟩⟩
/-- the goal is reached exactly if the start fulfils the box -/
theorem box_char {T : Int → Int} (hT : ∀ k, 0 ≤ T k) {r : Int} {a : Option Int} (ha : ge a 0) {cs : List Cmd} {goal : Int} (ok : AllOk cs) (hg : 1 ≤ goal) :
    ge (aimF T r a cs) goal ↔ ∃ st L, boxM cs goal = some (st, L) ∧ (∀ n, st = some n → ge a n) ∧ ∀ k, val L k ≤ T (r + k) := by
  have h := go_char hT (r := r) ha cs.reverse goal (fun _ => 0) (allOk_rev ok) hg
  rw [List.reverse_reverse] at h
  have h0 : (∀ k : Int, (fun _ : Int => (0 : Int)) k ≤ T (r + k)) := fun k => hT _
  have h' : (∃ st g, boxF cs goal = some (st, g) ∧ (∀ n, st = some n → ge a n) ∧ ∀ k, g k ≤ T (r + k)) ↔ ge (aimF T r a cs) goal := h.trans ⟨fun x => x.2, fun x => ⟨h0, x⟩⟩
  rw [← h']
  rcases box_spec ok hg with ⟨e1, e2⟩ | ⟨st, b, e1, gb, e2, _⟩
  · rw [e1, e2]
    constructor
    · rintro ⟨_, _, z, _⟩
      cases z
    · rintro ⟨_, _, z, _⟩
      cases z
  · rw [e1, e2]
    have vp := val_perm gb (List.mergeSort_perm b leK)
    constructor
    · rintro ⟨st', g, z, h1, h2⟩
      cases z
      exact ⟨_, _, rfl, h1, fun k => by rw [vp]; exact h2 k⟩
    · rintro ⟨st', L, z, h1, h2⟩
      cases z
      exact ⟨_, _, rfl, h1, fun k => by rw [← vp]; exact h2 k⟩
end Gc

/-! rows that are visited; the least text -/
namespace Gc
def Within (cs : List Cmd) (lo hi : Int) : Prop := ∀ i, lo ≤ last (cs.take i) ∧ last (cs.take i) ≤ hi
theorem Within.tail {c : Cmd} {cs : List Cmd} {lo hi : Int} (h : Within (c :: cs) lo hi) : Within cs (lo - c.dv) (hi - c.dv) := fun i => by
  have q := h (i + 1)
  have e : last ((c :: cs).take (i + 1)) = c.dv + last (cs.take i) := rfl
  rw [e] at q
  omega
theorem Within.init {cs : List Cmd} {c : Cmd} {lo hi : Int} (h : Within (cs ++ [c]) lo hi) : Within cs lo hi := fun i => by
  by_cases l : i ≤ cs.length
  · have q := h i
    rw [List.take_append_of_le_length l] at q
    exact q
  · have q := h cs.length
    rw [List.take_append_of_le_length (Nat.le_refl _)] at q
    rw [List.take_of_length_le (by omega)]
    rw [List.take_length] at q
    exact q
theorem Within.whole {cs : List Cmd} {lo hi : Int} (h : Within cs lo hi) : lo ≤ last cs ∧ last cs ≤ hi := by
  have q := h cs.length
  rw [List.take_length] at q
  exact q
theorem Within.zero {cs : List Cmd} {lo hi : Int} (h : Within cs lo hi) : lo ≤ 0 ∧ 0 ≤ hi := h 0
theorem keys_req' {b : Ps} {o v k : Int} (h : k ∈ keys (req b o v)) : k = o ∨ k ∈ keys b := by
  unfold req at h
  rw [keys_put] at h
  split at h
  · exact .inr h
  · rcases List.mem_append.mp h with q | q
    · exact .inr q
    · exact .inl (List.mem_singleton.mp q)
/-- the offsets of a box are rows that are visited -/
theorem go_within {lo hi : Int} : ∀ {rs : List Cmd} {need : Int} {b : Ps} {st : Option Int} {b' : Ps}, go rs (last rs.reverse) need b = some (st, b') → Within rs.reverse lo hi → (∀ k ∈ keys b, lo ≤ k ∧ k ≤ hi) → ∀ k ∈ keys b', lo ≤ k ∧ k ≤ hi
  | [], need, b, st, b', h, _, hb => by cases h; exact hb
  | .home :: rs, need, b, st, b', h, _, _ => by cases h
  | .stop :: rs, need, b, st, b', h, _, hb => by cases h; exact hb
  | .down n :: rs, need, b, st, b', h, w, hb => by
    rw [List.reverse_cons] at h w
    rw [last_snoc] at h
    have e : last rs.reverse + (Cmd.down n).dv - n = last rs.reverse := by
      show last rs.reverse + n - n = _
      omega
    simp only [go] at h
    rw [e] at h
    exact go_within h w.init hb
  | .up n :: rs, need, b, st, b', h, w, hb => by
    rw [List.reverse_cons] at h w
    rw [last_snoc] at h
    have e : last rs.reverse + (Cmd.up n).dv + n = last rs.reverse := by
      show last rs.reverse + -n + n = _
      omega
    simp only [go] at h
    rw [e] at h
    exact go_within h w.init hb
  | .left n :: rs, need, b, st, b', h, w, hb => by
    rw [List.reverse_cons] at h w
    rw [last_snoc, show last rs.reverse + (Cmd.left n).dv = last rs.reverse from Int.add_zero _] at h
    simp only [go] at h
    refine go_within h w.init fun k hk => ?_
    rcases keys_req' hk with q | q
    · rw [q]
      exact w.init.whole
    · exact hb k q
  | .right n :: rs, need, b, st, b', h, w, hb => by
    rw [List.reverse_cons] at h w
    rw [last_snoc, show last rs.reverse + (Cmd.right n).dv = last rs.reverse from Int.add_zero _] at h
    have hr : ∀ k ∈ keys (req b (last rs.reverse) need), lo ≤ k ∧ k ≤ hi := fun k hk => by
      rcases keys_req' hk with q | q
      · rw [q]
        exact w.init.whole
      · exact hb k q
    simp only [go] at h
    split at h
    · exact go_within h w.init hr
    · cases h
      exact hr
theorem box_within {lo hi : Int} {cs : List Cmd} {goal : Int} {st : Option Int} {L : Ps} (h : boxM cs goal = some (st, L)) (w : Within cs lo hi) : ∀ q ∈ L, lo ≤ q.1 ∧ q.1 ≤ hi := by
  unfold boxM at h
  cases e : go cs.reverse (last cs) goal [] with
  | none =>
    rw [e] at h
    cases h
  | some x =>
    rw [e] at h
    obtain ⟨st', b'⟩ := x
    have h' : (st', b'.mergeSort leK) = (st, L) := Option.some.inj h
    cases h'
    have k := go_within (rs := cs.reverse) (lo := lo) (hi := hi) (by rw [List.reverse_reverse]; exact e) (by rw [List.reverse_reverse]; exact w) (fun k hk => by cases hk)
    intro q hq
    exact k q.1 (List.mem_map.mpr ⟨q, (List.mergeSort_perm b' leK).mem_iff.mp hq, rfl⟩)
/-! ### a text from a box -/
def setAll (lo : Int) (T : List Int) (L : Ps) : List Int := L.foldl (fun T q => T.set (q.1 - lo).toNat q.2) T
theorem setAll_len (lo : Int) : ∀ (L : Ps) (T : List Int), (setAll lo T L).length = T.length
  | [], _ => rfl
  | q :: L, T => by
    show (setAll lo (T.set (q.1 - lo).toNat q.2) L).length = _
    rw [setAll_len lo L, List.length_set]
theorem setAll_get {lo : Int} : ∀ {L : Ps} {T : List Int} {k : Int}, (keys L).Nodup → (∀ q ∈ L, lo ≤ q.1 ∧ q.1 - lo < T.length) → lo ≤ k → k - lo < T.length →
    (setAll lo T L).getD (k - lo).toNat 0 = match look L k with | some v => v | none => T.getD (k - lo).toNat 0
  | [], T, k, _, _, _, _ => rfl
  | q :: L, T, k, nd, hq, h0, h1 => by
    have nd' : q.1 ∉ keys L ∧ (keys L).Nodup := List.nodup_cons.mp nd
    have q0 := hq q List.mem_cons_self
    show (setAll lo (T.set (q.1 - lo).toNat q.2) L).getD (k - lo).toNat 0 = _
    rw [setAll_get (L := L) nd'.2 (fun p hp => by rw [List.length_set]; exact hq p (List.mem_cons_of_mem _ hp)) h0 (by rw [List.length_set]; exact h1), look_cons]
    by_cases e : q.1 = k
    · subst e
      rw [if_pos rfl, look_none.mpr nd'.1]
      show (T.set (q.1 - lo).toNat q.2).getD (q.1 - lo).toNat 0 = q.2
      rw [List.getD_eq_getElem?_getD, List.getElem?_set_self (by omega)]
      rfl
    · rw [if_neg e]
      cases look L k with
      | some v => rfl
      | none =>
        show (T.set (q.1 - lo).toNat q.2).getD (k - lo).toNat 0 = T.getD (k - lo).toNat 0
        rw [List.getD_eq_getElem?_getD, List.getD_eq_getElem?_getD, List.getElem?_set_ne (by omega)]
/-! ### the run over a list of lengths -/
def lenAt (T : List Int) (r : Int) : Int := T.getD r.toNat 0
/-- the run over a text: the row must stand -/
def afterL (T : List Int) : Int → Option Int → List Cmd → Option (Int × Option Int)
  | r, a, [] => some (r, a)
  | r, a, c :: cs => if c.vert = true then (if 0 ≤ r + c.dv ∧ r + c.dv < T.length then afterL T (r + c.dv) a cs else none) else afterL T r (aim1 (lenAt T r) a c) cs
theorem Within.le {cs : List Cmd} {lo hi lo' hi' : Int} (h : Within cs lo hi) (h1 : lo' ≤ lo) (h2 : hi ≤ hi') : Within cs lo' hi' := fun i => by
  have := h i
  omega
theorem afterL_in {T : List Int} : ∀ {cs : List Cmd} {r : Int} {a : Option Int}, Within cs (-r) (T.length - 1 - r) → afterL T r a cs = some (r + last cs, aimF (lenAt T) r a cs)
  | [], r, a, _ => by
    show some (r, a) = some (r + 0, a)
    rw [Int.add_zero]
  | c :: cs, r, a, w => by
    have w1 := w 1
    have e1 : last ((c :: cs).take 1) = c.dv + 0 := rfl
    rw [e1] at w1
    have wt : Within cs (-(r + c.dv)) (T.length - 1 - (r + c.dv)) := w.tail.le (by omega) (by omega)
    have ih := afterL_in (a := aim1 (lenAt T r) a c) wt
    have el : last (c :: cs) = c.dv + last cs := rfl
    have ea : aimF (lenAt T) r a (c :: cs) = aimF (lenAt T) (r + c.dv) (aim1 (lenAt T r) a c) cs := rfl
    rw [ea, el, ← Int.add_assoc]
    by_cases v : c.vert = true
    · have ia : aim1 (lenAt T r) a c = a := by
        cases c with
        | down n => rfl
        | up n => rfl
        | right n => cases v
        | left n => cases v
        | home => cases v
        | stop => cases v
      rw [ia] at ih ⊢
      simp only [afterL]
      rw [if_pos v, if_pos ⟨by omega, by omega⟩, ih]
    · have d0 : c.dv = 0 := by
        cases c with
        | down n => exact absurd rfl v
        | up n => exact absurd rfl v
        | right n => rfl
        | left n => rfl
        | home => rfl
        | stop => rfl
      simp only [afterL]
      rw [if_neg v]
      rw [d0, Int.add_zero] at ih ⊢
      exact ih
theorem lenAt_nn {T : List Int} (h : ∀ x ∈ T, 0 ≤ x) (r : Int) : 0 ≤ lenAt T r := by
  unfold lenAt
  rw [List.getD_eq_getElem?_getD]
  cases e : T[r.toNat]? with
  | none => exact Int.le_refl 0
  | some x => exact h x (List.mem_of_getElem? e)
/-- over a text whose rows are all there: the goal is reached exactly if the box is fulfilled -/
theorem after_char {T : List Int} (hT : ∀ x ∈ T, 0 ≤ x) {r : Int} {a : Option Int} (ha : ge a 0) {cs : List Cmd} {goal : Int} (ok : AllOk cs) (hg : 1 ≤ goal) (w : Within cs (-r) (T.length - 1 - r)) :
    ∃ a', afterL T r a cs = some (r + last cs, a') ∧ ge a' 0 ∧ (ge a' goal ↔ ∃ st L, boxM cs goal = some (st, L) ∧ (∀ n, st = some n → ge a n) ∧ ∀ k, val L k ≤ lenAt T (r + k)) :=
  ⟨_, afterL_in w, aimF_nn (lenAt_nn hT) ok ha, box_char (lenAt_nn hT) ha ok hg⟩
/-! ### the least text -/
def textM (lo hi : Int) (L : Ps) : List Int := setAll lo (List.replicate (hi - lo + 1).toNat 0) L
theorem textM_len {lo hi : Int} (h : lo ≤ hi) (L : Ps) : ((textM lo hi L).length : Int) = hi - lo + 1 := by
  unfold textM
  rw [setAll_len, List.length_replicate]
  omega
theorem textM_at {lo hi : Int} {L : Ps} (g : Good L) (hL : ∀ q ∈ L, lo ≤ q.1 ∧ q.1 ≤ hi) {k : Int} (h0 : lo ≤ k) (h1 : k ≤ hi) : lenAt (textM lo hi L) (k - lo) = val L k := by
  unfold lenAt textM
  have hr : ((List.replicate (hi - lo + 1).toNat (0 : Int)).length : Int) = hi - lo + 1 := by
    rw [List.length_replicate]
    omega
  rw [setAll_get g.nd (fun q hq => by have := hL q hq; omega) h0 (by omega)]
  unfold val
  cases look L k with
  | some v => rfl
  | none =>
    show (List.replicate _ (0 : Int)).getD _ 0 = 0
    rw [List.getD_eq_getElem?_getD, List.getElem?_replicate]
    split <;> rfl
theorem val_off {lo hi : Int} {L : Ps} (hL : ∀ q ∈ L, lo ≤ q.1 ∧ q.1 ≤ hi) {k : Int} (h : ¬ (lo ≤ k ∧ k ≤ hi)) : val L k = 0 := by
  refine val_out fun z => ?_
  obtain ⟨q, hq, e⟩ := List.mem_map.mp z
  rw [← e] at h
  exact h (hL q hq)
theorem textM_nn {lo hi : Int} {L : Ps} (g : Good L) (hL : ∀ q ∈ L, lo ≤ q.1 ∧ q.1 ≤ hi) : ∀ x ∈ textM lo hi L, 0 ≤ x := by
  intro x hx
  obtain ⟨i, hi'⟩ := List.mem_iff_getElem?.mp hx
  have l := (List.getElem?_eq_some_iff.mp hi').1
  have l2 : (textM lo hi L).length = (hi - lo + 1).toNat := by
    unfold textM
    rw [setAll_len, List.length_replicate]
  have e := textM_at g hL (k := i + lo) (by omega) (by omega)
  unfold lenAt at e
  rw [show ((i : Int) + lo - lo).toNat = i by omega, List.getD_eq_getElem?_getD, hi'] at e
  have e' : x = val L (i + lo) := e
  rw [e']
  exact val_nonneg g _
section
variable {cs : List Cmd} {goal lo hi : Int} {st : Option Int} {L : Ps}
/-- from it, and just its goal, the goal is reached -/
theorem least_gets (g : Good L) (w : Within cs lo hi) (ok : AllOk cs) (hg : 1 ≤ goal) (e : boxM cs goal = some (st, L)) (pos : ∀ n, st = some n → 1 ≤ n) :
    ∃ a', afterL (textM lo hi L) (-lo) (some (st.getD 0)) cs = some (-lo + last cs, a') ∧ ge a' goal := by
  have hL := box_within e w
  have z := w.zero
  have tl := textM_len (lo := lo) (hi := hi) (by omega) L
  have a0 : ge (some (st.getD 0)) 0 := ge_some.mpr (by
    cases st with
    | none => exact Int.le_refl 0
    | some n =>
      have := pos n rfl
      show 0 ≤ n
      omega)
  obtain ⟨a', h1, _, h2⟩ := after_char (textM_nn g hL) a0 ok hg (w.le (show -(-lo) ≤ lo by omega) (show hi ≤ (textM lo hi L).length - 1 - (-lo) by omega))
  refine ⟨a', h1, h2.mpr ⟨st, L, e, fun n en => ge_some.mpr (by rw [en]; exact Int.le_refl n), fun k => ?_⟩⟩
  by_cases h : lo ≤ k ∧ k ≤ hi
  · rw [show -lo + k = k - lo by omega, textM_at g hL h.1 h.2]
    exact Int.le_refl _
  · rw [val_off hL h]
    exact lenAt_nn (textM_nn g hL) _
/-- with a goal less by one it is not -/
theorem least_goal (g : Good L) (w : Within cs lo hi) (ok : AllOk cs) (hg : 1 ≤ goal) (e : boxM cs goal = some (st, L)) {n : Int} (es : st = some n) (hn : 1 ≤ n) :
    ∃ a', afterL (textM lo hi L) (-lo) (some (n - 1)) cs = some (-lo + last cs, a') ∧ ¬ ge a' goal := by
  have hL := box_within e w
  have z := w.zero
  have tl := textM_len (lo := lo) (hi := hi) (by omega) L
  obtain ⟨a', h1, _, h2⟩ := after_char (textM_nn g hL) (ge_some.mpr (show 0 ≤ n - 1 by omega)) ok hg (w.le (show -(-lo) ≤ lo by omega) (show hi ≤ (textM lo hi L).length - 1 - (-lo) by omega))
  refine ⟨a', h1, fun x => ?_⟩
  obtain ⟨st', L', e', h3, _⟩ := h2.mp x
  rw [e] at e'
  cases e'
  have := ge_some.mp (h3 n es)
  omega
/-- with a length less by one it is not -/
theorem least_row (g : Good L) (w : Within cs lo hi) (ok : AllOk cs) (hg : 1 ≤ goal) (e : boxM cs goal = some (st, L)) (pos : ∀ n, st = some n → 1 ≤ n) {i : Nat} (li : i < (textM lo hi L).length) (h : 0 < lenAt (textM lo hi L) i) :
    ∃ a', afterL ((textM lo hi L).set i (lenAt (textM lo hi L) i - 1)) (-lo) (some (st.getD 0)) cs = some (-lo + last cs, a') ∧ ¬ ge a' goal := by
  have hL := box_within e w
  have z := w.zero
  have tl := textM_len (lo := lo) (hi := hi) (by omega) L
  have a0 : ge (some (st.getD 0)) 0 := ge_some.mpr (by
    cases st with
    | none => exact Int.le_refl 0
    | some n =>
      have := pos n rfl
      show 0 ≤ n
      omega)
  have nn : ∀ x ∈ (textM lo hi L).set i (lenAt (textM lo hi L) i - 1), 0 ≤ x := fun x hx => by
    rcases List.mem_or_eq_of_mem_set hx with q | q
    · exact textM_nn g hL x q
    · omega
  obtain ⟨a', h1, _, h2⟩ := after_char (r := -lo) nn a0 ok hg (w.le (show -(-lo) ≤ lo by omega) (by rw [List.length_set]; omega))
  refine ⟨a', h1, fun x => ?_⟩
  obtain ⟨st', L', e', _, h4⟩ := h2.mp x
  rw [e] at e'
  cases e'
  have q := h4 (i + lo)
  rw [show -lo + (i + lo) = (i : Int) by omega] at q
  have ev := textM_at g hL (k := i + lo) (by omega) (by omega)
  rw [show (i : Int) + lo - lo = i by omega] at ev
  rw [← ev] at q
  have es : lenAt ((textM lo hi L).set i (lenAt (textM lo hi L) i - 1)) i = lenAt (textM lo hi L) i - 1 := by
    conv => lhs; unfold lenAt
    rw [Int.toNat_natCast, List.getD_eq_getElem?_getD, List.getElem?_set_self li]
    rfl
  rw [es] at q
  omega
end
end Gc

/-! what a list of commands does to all goals on one text: a number added, kept between two bounds -/
namespace Gc
/-- the goal None is the greatest -/
def chg1 : Cmd → Int
  | .right n => n
  | .left n => -n
  | _ => 0
def chg : List Cmd → Int
  | [] => 0
  | c :: cs => chg1 c + chg cs
theorem chg_snoc (cs : List Cmd) (c : Cmd) : chg (cs ++ [c]) = chg cs + chg1 c := by
  induction cs with
  | nil => show chg1 c + 0 = 0 + chg1 c; omega
  | cons d cs ih => show chg1 d + chg (cs ++ [c]) = chg1 d + chg cs + chg1 c; rw [ih]; omega
/-- where the goal x goes, if 0 goes to lo, None to hi, and d is added -/
def Clamp (lo hi : Option Int) (d x : Int) (g : Option Int) : Prop := match lo, hi, g with
  | none, none, none => True
  | some l, none, some y => y = max l (x + d)
  | some l, some h, some y => l ≤ h ∧ y = max l (min h (x + d))
  | _, _, _ => False
theorem clamp1 {t : Int} (ht : 0 ≤ t) {lo hi : Option Int} {d x : Int} {g : Option Int} (h : Clamp lo hi d x g) (c : Cmd) (ok : c.ok) : Clamp (aim1 t lo c) (aim1 t hi c) (d + chg1 c) x (aim1 t g c) := by
  unfold Clamp at h
  cases c with
  | down n =>
    show Clamp lo hi (d + 0) x g
    rw [Int.add_zero]
    exact h
  | up n =>
    show Clamp lo hi (d + 0) x g
    rw [Int.add_zero]
    exact h
  | home => exact ⟨Int.le_refl 0, by omega⟩
  | stop => trivial
  | right n =>
    have o : 1 ≤ n := ok
    match lo, hi, g, h with
    | none, none, none, _ =>
      show min (t + n) t ≤ min (t + n) t ∧ min (t + n) t = max (min (t + n) t) (min (min (t + n) t) (x + (d + n)))
      omega
    | some l, none, some y, h =>
      have h' : y = max l (x + d) := h
      show min (min l t + n) t ≤ min (t + n) t ∧ min (min y t + n) t = max (min (min l t + n) t) (min (min (t + n) t) (x + (d + n)))
      omega
    | some l, some e, some y, h =>
      obtain ⟨h1, h2⟩ : l ≤ e ∧ y = max l (min e (x + d)) := h
      show min (min l t + n) t ≤ min (min e t + n) t ∧ min (min y t + n) t = max (min (min l t + n) t) (min (min (min e t + n) t) (x + (d + n)))
      omega
  | left n =>
    have o : 1 ≤ n := ok
    match lo, hi, g, h with
    | none, none, none, _ =>
      show max 0 (t - n) ≤ max 0 (t - n) ∧ max 0 (t - n) = max (max 0 (t - n)) (min (max 0 (t - n)) (x + (d + -n)))
      omega
    | some l, none, some y, h =>
      have h' : y = max l (x + d) := h
      show max 0 (min l t - n) ≤ max 0 (t - n) ∧ max 0 (min y t - n) = max (max 0 (min l t - n)) (min (max 0 (t - n)) (x + (d + -n)))
      omega
    | some l, some e, some y, h =>
      obtain ⟨h1, h2⟩ : l ≤ e ∧ y = max l (min e (x + d)) := h
      show max 0 (min l t - n) ≤ max 0 (min e t - n) ∧ max 0 (min y t - n) = max (max 0 (min l t - n)) (min (max 0 (min e t - n)) (x + (d + -n)))
      omega
theorem clampF {T : Int → Int} (hT : ∀ k, 0 ≤ T k) {x : Int} (x0 : 0 ≤ x) : ∀ {cs : List Cmd} {r : Int} {lo hi : Option Int} {d : Int} {g : Option Int}, AllOk cs → Clamp lo hi d x g → Clamp (aimF T r lo cs) (aimF T r hi cs) (d + chg cs) x (aimF T r g cs)
  | [], r, lo, hi, d, g, _, h => by
    show Clamp lo hi (d + 0) x g
    rw [Int.add_zero]
    exact h
  | c :: cs, r, lo, hi, d, g, ok, h => by
    have q := clampF hT x0 (cs := cs) (r := r + c.dv) (fun e he => ok e (List.mem_cons_of_mem _ he)) (clamp1 (hT r) h c (ok c List.mem_cons_self))
    rw [show d + chg (c :: cs) = d + chg1 c + chg cs from by show d + (chg1 c + chg cs) = _; omega]
    exact q
theorem clamp_all {T : Int → Int} (hT : ∀ k, 0 ≤ T k) {cs : List Cmd} (ok : AllOk cs) (r : Int) {x : Int} (x0 : 0 ≤ x) : Clamp (aimF T r (some 0) cs) (aimF T r none cs) (chg cs) x (aimF T r (some x) cs) := by
  have q := clampF hT x0 (cs := cs) (r := r) (lo := some 0) (hi := none) (d := 0) (g := some x) ok (by show x = max 0 (x + 0); omega)
  rw [Int.zero_add] at q
  exact q
/-- from a goal of at least all lines on, it is as from None, if that leads to a column -/
theorem aimF_far {T : Int → Int} {B : Int} (hB : ∀ k, T k ≤ B) {x : Int} (hx : B ≤ x) : ∀ {cs : List Cmd} {r : Int}, (aimF T r (some x) cs = aimF T r none cs) ∨ (aimF T r (some x) cs = some x ∧ aimF T r none cs = none ∧ chg cs = 0)
  | [], r => .inr ⟨rfl, rfl, rfl⟩
  | c :: cs, r => by
    have same : ∀ a : Option Int, aim1 (T r) (some x) c = a → aim1 (T r) none c = a → (aimF T r (some x) (c :: cs) = aimF T r none (c :: cs)) := fun a e1 e2 => by
      show aimF T (r + c.dv) (aim1 (T r) (some x) c) cs = aimF T (r + c.dv) (aim1 (T r) none c) cs
      rw [e1, e2]
    have sx : seen (T r) (some x) = seen (T r) none := by
      have := hB r
      show min x (T r) = T r
      omega
    cases c with
    | right n => exact .inl (same _ rfl (by show some (min (seen (T r) none + n) (T r)) = some (min (seen (T r) (some x) + n) (T r)); rw [sx]))
    | left n => exact .inl (same _ rfl (by show some (max 0 (seen (T r) none - n)) = some (max 0 (seen (T r) (some x) - n)); rw [sx]))
    | home => exact .inl (same _ rfl rfl)
    | stop => exact .inl (same _ rfl rfl)
    | down n =>
      rcases aimF_far hB hx (cs := cs) (r := r + n) with e | ⟨e1, e2, e3⟩
      · exact .inl e
      · exact .inr ⟨e1, e2, by show 0 + chg cs = 0; omega⟩
    | up n =>
      rcases aimF_far hB hx (cs := cs) (r := r + -n) with e | ⟨e1, e2, e3⟩
      · exact .inl e
      · exact .inr ⟨e1, e2, by show 0 + chg cs = 0; omega⟩
end Gc

/-! commands repeated in a row: one run, the bounds and the change tell them all -/
namespace Gc
def iterA (f : Option Int → Option Int) : Nat → Option Int → Option Int
  | 0, g => g
  | k + 1, g => iterA f k (f g)
/-- the goal behind m further runs, told by the first one's goal -/
def tellM (lo hi : Option Int) (d : Int) (m : Nat) : Option Int → Option Int
  | none => none
  | some y => match hi with
    | none => some (max (y + m * d) (lo.getD 0))
    | some h => some (min (max (y + m * d) (lo.getD 0)) h)
/-- a goal that a run may leave -/
def Img (lo hi : Option Int) : Option Int → Prop
  | none => hi = none
  | some y => ∃ l, lo = some l ∧ l ≤ y ∧ ∀ h, hi = some h → y ≤ h ∧ l ≤ h
theorem clamp_img {lo hi : Option Int} {d x : Int} {g : Option Int} (h : Clamp lo hi d x g) : Img lo hi g := by
  unfold Clamp at h
  split at h
  · rfl
  · exact ⟨_, rfl, by omega, fun _ z => nomatch z⟩
  · obtain ⟨h1, h2⟩ := h
    exact ⟨_, rfl, by omega, fun _ z => by cases z; omega⟩
  · exact h.elim
theorem tell_iter {f : Option Int → Option Int} {d : Int} {lo hi : Option Int} (fn : f none = hi) (hc : ∀ x, 0 ≤ x → Clamp lo hi d x (f (some x))) (l0 : ∀ l, lo = some l → 0 ≤ l) : ∀ (m : Nat) (g : Option Int), Img lo hi g → iterA f m g = tellM lo hi d m g
  | 0, g, hg => by
    show g = tellM lo hi d 0 g
    cases g with
    | none => rfl
    | some y =>
      obtain ⟨l, rfl, ly, hh⟩ := hg
      cases hi with
      | none =>
        show some y = some (max (y + ((0 : Nat) : Int) * d) l)
        rw [show ((0 : Nat) : Int) * d = 0 by simp]
        congr 1
        omega
      | some h =>
        have := hh h rfl
        show some y = some (min (max (y + ((0 : Nat) : Int) * d) l) h)
        rw [show ((0 : Nat) : Int) * d = 0 by simp]
        congr 1
        omega
  | m + 1, g, hg => by
    show iterA f m (f g) = tellM lo hi d (m + 1) g
    cases g with
    | none =>
      have hn : hi = none := hg
      rw [fn, hn, tell_iter (by rw [fn]; exact hn.symm ▸ rfl) (hn ▸ hc) l0 m none rfl]
      rfl
    | some y =>
      obtain ⟨l, rfl, ly, hh⟩ := hg
      have y0 : 0 ≤ y := Int.le_trans (l0 l rfl) ly
      have c := hc y y0
      rw [tell_iter fn hc l0 m _ (clamp_img c)]
      have md : ((m + 1 : Nat) : Int) * d = m * d + d := by rw [Int.natCast_add, Int.add_mul]; simp
      have up : 0 ≤ d → 0 ≤ (m : Int) * d := fun q => Int.mul_nonneg (Int.natCast_nonneg m) q
      have dn : d ≤ 0 → (m : Int) * d ≤ 0 := fun q => Int.mul_nonpos_of_nonneg_of_nonpos (Int.natCast_nonneg m) q
      cases e : f (some y) with
      | none =>
        rw [e] at c
        unfold Clamp at c
        cases hi <;> exact c.elim
      | some y' =>
        rw [e] at c
        cases hi with
        | none =>
          have c' : y' = max l (y + d) := c
          show some (max (y' + (m : Int) * d) l) = some (max (y + ((m + 1 : Nat) : Int) * d) l)
          rw [md]
          generalize (m : Int) * d = t at up dn ⊢
          congr 1
          omega
        | some h =>
          obtain ⟨c1, c2⟩ : l ≤ h ∧ y' = max l (min h (y + d)) := c
          have yh := (hh h rfl).1
          show some (min (max (y' + (m : Int) * d) l) h) = some (min (max (y + ((m + 1 : Nat) : Int) * d) l) h)
          rw [md]
          generalize (m : Int) * d = t at up dn ⊢
          congr 1
          omega
end Gc

/-! running key by key, where it fails, and again and again -/
namespace Gc
/-- one key -/
def stepP (T : List Int) (r : Int) (g : Option Int) (c : Cmd) : Option (Int × Option Int) := if c.vert = true then (if 0 ≤ r + c.dv ∧ r + c.dv < T.length then some (r + c.dv, g) else none) else some (r, aim1 (lenAt T r) g c)
theorem afterL_step (T : List Int) (r : Int) (g : Option Int) (c : Cmd) (cs : List Cmd) : afterL T r g (c :: cs) = (stepP T r g c).bind fun x => afterL T x.1 x.2 cs := by
  unfold stepP
  simp only [afterL]
  by_cases cv : c.vert = true
  · rw [if_pos cv, if_pos cv]
    split <;> rfl
  · rw [if_neg cv, if_neg cv]
    rfl
/-- the index of the first key that leaves the text -/
def failAt (T : List Int) : Int → Option Int → List Cmd → Option Nat
  | _, _, [] => none
  | r, g, c :: cs => match stepP T r g c with
    | none => some 0
    | some x => (failAt T x.1 x.2 cs).map (· + 1)
theorem fail_step (T : List Int) (r : Int) (g : Option Int) (c : Cmd) (cs : List Cmd) : failAt T r g (c :: cs) = match stepP T r g c with
    | none => some 0
    | some x => (failAt T x.1 x.2 cs).map (· + 1) := rfl
theorem step_row {T : List Int} {r : Int} {g : Option Int} {c : Cmd} {x : Int × Option Int} (r0 : 0 ≤ r) (r1 : r < T.length) (h : stepP T r g c = some x) : 0 ≤ x.1 ∧ x.1 < T.length := by
  unfold stepP at h
  split at h
  · split at h
    · rename_i q
      cases h
      exact q
    · cases h
  · cases h
    exact ⟨r0, r1⟩
theorem fail_none {T : List Int} : ∀ {cs : List Cmd} {r : Int} {g : Option Int}, failAt T r g cs = none ↔ afterL T r g cs ≠ none
  | [], r, g => ⟨fun _ z => (nomatch z), fun _ => rfl⟩
  | c :: cs, r, g => by
    rw [afterL_step]
    unfold failAt
    cases stepP T r g c with
    | none => simp
    | some x =>
      have ih := fail_none (T := T) (cs := cs) (r := x.1) (g := x.2)
      show (failAt T x.1 x.2 cs).map (· + 1) = none ↔ afterL T x.1 x.2 cs ≠ none
      rw [Option.map_eq_none_iff]
      exact ih
def repP (T : List Int) (cs : List Cmd) : Nat → Int → Option Int → Nat ⊕ (Int × Option Int)
  | 0, r, g => .inr (r, g)
  | k + 1, r, g => match failAt T r g cs with
    | some n => .inl n
    | none => match afterL T r g cs with
      | some x => repP T cs k x.1 x.2
      | none => .inl 0
theorem repP_step (T : List Int) (cs : List Cmd) (k : Nat) (r : Int) (g : Option Int) : repP T cs (k + 1) r g = match failAt T r g cs with
    | some n => .inl n
    | none => match afterL T r g cs with
      | some x => repP T cs k x.1 x.2
      | none => .inl 0 := rfl
theorem after_row {T : List Int} : ∀ {cs : List Cmd} {r : Int} {g : Option Int} {x : Int × Option Int}, 0 ≤ r → r < T.length → afterL T r g cs = some x → 0 ≤ x.1 ∧ x.1 < T.length
  | [], r, g, x, h0, h1, h => by
    cases h
    exact ⟨h0, h1⟩
  | c :: cs, r, g, x, h0, h1, h => by
    rw [afterL_step] at h
    cases e : stepP T r g c with
    | none =>
      rw [e] at h
      cases h
    | some y =>
      rw [e] at h
      obtain ⟨a, b⟩ := step_row h0 h1 e
      exact after_row a b h
theorem after_nn {T : List Int} (hT : ∀ x ∈ T, 0 ≤ x) : ∀ {cs : List Cmd} {r : Int} {g : Option Int} {x : Int × Option Int}, AllOk cs → ge g 0 → afterL T r g cs = some x → ge x.2 0
  | [], r, g, x, _, hg, h => by
    cases h
    exact hg
  | c :: cs, r, g, x, ok, hg, h => by
    rw [afterL_step] at h
    cases e : stepP T r g c with
    | none =>
      rw [e] at h
      cases h
    | some y =>
      rw [e] at h
      refine after_nn hT (fun d hd => ok d (List.mem_cons_of_mem _ hd)) ?_ h
      unfold stepP at e
      split at e
      · split at e
        · cases e
          exact hg
        · cases e
      · cases e
        have q := aimF_nn (T := lenAt T) (lenAt_nn hT) (cs := [c]) (r := r) (a := g) (fun d hd => by rw [List.mem_singleton.mp hd]; exact ok c List.mem_cons_self) hg
        exact q
/-- possible exactly within -/
theorem after_within {T : List Int} : ∀ {cs : List Cmd} {r : Int} {g : Option Int}, 0 ≤ r → r < T.length → afterL T r g cs ≠ none → Within cs (-r) (T.length - 1 - r)
  | [], r, g, h0, h1, _, i => by
    rw [List.take_nil]
    show -r ≤ 0 ∧ 0 ≤ _
    omega
  | c :: cs, r, g, h0, h1, h, i => by
    rw [afterL_step] at h
    cases e : stepP T r g c with
    | none =>
      rw [e] at h
      exact absurd rfl h
    | some y =>
      rw [e] at h
      obtain ⟨a, b⟩ := step_row h0 h1 e
      have ih := after_within (T := T) (cs := cs) (r := y.1) (g := y.2) a b h
      have ey : y.1 = r + c.dv := by
        unfold stepP at e
        split at e
        · split at e
          · cases e
            rfl
          · cases e
        · rename_i cv
          cases e
          show r = r + c.dv
          have : c.dv = 0 := by cases c <;> first | rfl | exact absurd rfl cv
          omega
      cases i with
      | zero =>
        show -r ≤ 0 ∧ 0 ≤ _
        omega
      | succ i =>
        have q := ih i
        have e2 : last ((c :: cs).take (i + 1)) = c.dv + last (cs.take i) := rfl
        rw [e2]
        omega
theorem fail_in {T : List Int} {cs : List Cmd} {r : Int} {g : Option Int} (h0 : 0 ≤ r) (h1 : r < T.length) (h : failAt T r g cs = none) : Within cs (-r) (T.length - 1 - r) := after_within h0 h1 (fail_none.mp h)
/-- commands that come back to their row -/
theorem repP_row {T : List Int} {cs : List Cmd} {r : Int} (w : Within cs (-r) (T.length - 1 - r)) (l0 : last cs = 0) : ∀ (m : Nat) (g : Option Int), repP T cs m r g = .inr (r, iterA (fun g => aimF (lenAt T) r g cs) m g)
  | 0, g => rfl
  | m + 1, g => by
    have e := afterL_in (a := g) w
    rw [repP_step, fail_none.mpr (by rw [e]; exact fun z => nomatch z), e, l0, Int.add_zero]
    exact repP_row w l0 m _
end Gc

/-! the P family's own running, one key at a time -/
namespace Gc
open PySem L2
abbrev s_after1 : Stmt := top 32
structure TxtO (mg : Str → Option Value) : Prop where
  int : mg "int" = none
  len : mg "len" = none
  min : mg "min" = none
  max : mg "max" = none
theorem at_tP {u v : V} {b : Bool} (h : b = true) : atI [u, v] (if b = true then (1 : Int) else 0) = some v := by
  subst h
  rfl
theorem at_fP {u v : V} {b : Bool} (h : b = false) : atI [u, v] (if b = true then (1 : Int) else 0) = some u := by
  subst h
  rfl
theorem at_lenP {T : List Int} {r : Int} (h0 : 0 ≤ r) (h1 : r < T.length) : atI (T.map V.int) r = some (.int (lenAt T r)) := by
  have e : r = (r.toNat : Int) := by omega
  refine at_of (j := r.toNat) e ?_
  have l : r.toNat < T.length := by omega
  unfold lenAt
  rw [List.getElem?_map, List.getD_eq_getElem?_getD, List.getElem?_eq_getElem l]
  rfl
def spAfter1 (K : PySem.W.Frag) : Sp := fun vs H Q _ => ∃ (t b : Addr) (v : V) (T : List Int) (r : Int) (g : Option Int) (c : Cmd), vs = [.ref t, .ref b, v] ∧ SqL K H t (T.map V.int) ∧ SqT K H b [.int r, optV g] ∧ CmdAt K H v c ∧ 0 ≤ r ∧ r < T.length ∧ c.ok ∧ numC c < 10 ^ 40 ∧
  (stepP T r g c = none → ∀ H', Same H H' → Q .non H') ∧ ∀ r' g', stepP T r g c = some (r', g') → ∀ (H' : Hp) (p : Addr), Same H H' → H p = none → H' p = some (.tup [.int r', optV g']) → Q (.ref p) H'
section
variable {P : Program} {w : World} {K : PySem.W.Frag} {mg : Str → Option Value} {base : Heap}
theorem sc_law_after : FnScope ["lengths", "spot", "key", "row", "goal", "seen"] ["lengths", "spot", "key"] (defScope s_after1) := ⟨rfl, rfl, rfl, by decide +kernel, rfl, by decide +kernel, by decide +kernel⟩
theorem ok_after1 {f : Addr} {fd : FuncData} (F : Fun K "_law_after" "_law_after" s_after1 f fd) (T : TxtO mg) : FnOk P w K mg base CX0 1 f fd ["lengths", "spot", "key"] (spAfter1 K) := by
  refine F.ok sc_law_after (fun vs H Q E h => ?_) (fun cdv A outer s H vs Q E hr h => ?_)
  · obtain ⟨t, b, v, tx, r, g, c, rfl, _⟩ := h
    rfl
  · obtain ⟨t, b, v, tx, r, g, c, rfl, ht, hb, ⟨ka, rfl, hk⟩, r0, r1, hcok, nb, kn, ks⟩ := h
    refine ⟨_, (pss_cons (ps_asg (pv 1) (pg_tup rfl (pgs_cons (pg_name (i := 3) sc_law_after.nd rfl (Or.inl rfl)) (pgs_cons (pg_name (i := 4) sc_law_after.nd rfl (Or.inl rfl)) pgs_nil))))
      (pss_cons (ps_if (pt_cmpR op_eq (pe_ix ix_tup (pv 2) pe_int (fun _ _ => rfl)) pe_str (nomark _)) (pss_one (ps_ret (pe_tup (pa_cons (pv 3) (pa_cons pe_int pa_nil))))) pss_nil)
      (pss_cons (ps_if (pt_cmpR op_eq (pe_ix ix_tup (pv 2) pe_int (fun _ _ => rfl)) pe_str (nomark _)) (pss_one (ps_ret (pe_tup (pa_cons (pv 3) (pa_cons pe_non pa_nil))))) pss_nil)
      (pss_cons (ps_if (pt_cmpR op_in_seq (pe_ix ix_tup (pv 2) pe_int (fun _ _ => rfl)) (pe_lst (pa_cons pe_str (pa_cons pe_str pa_nil))) (by rfl)) (pss_cons (ps_set (i := 3) sc_law_after.nd rfl (Or.inl rfl) (pe_op op_add (pv 3) (pe_op op_mulW (pe_ix ix_tup (pv 2) pe_int (fun _ _ => rfl)) (pe_ix ix_list (pe_lst (pa_cons pe_int (pa_cons (pe_un un_neg pe_int) pa_nil))) (pe_callTy call_int1 (by rfl) T.int (by decide +kernel) (pa_cons (pe_cmpR op_eq (pe_ix ix_tup (pv 2) pe_int (fun _ _ => rfl)) pe_str (nomark _)) pa_nil)) (fun _ _ => rfl)))))
      (pss_one (ps_ret (pe_ifExp (pt_chain op_le op_lt pe_int (pv 3) (pe_callB call_len_seq (by rfl) T.len (by decide +kernel) (pa_cons (pv 0) pa_nil))) (pe_tup (pa_cons (pv 3) (pa_cons (pv 4) pa_nil))) pe_non)))) pss_nil)
      (pss_cons (ps_set (i := 5) sc_law_after.nd rfl (Or.inl rfl) (pe_ifExp (pt_cmpR op_isN (pv 4) pe_non (nomark _)) (pe_ix ix_list (pv 0) (pv 3) (fun _ _ => rfl)) (pe_callB (call_min2 rfl) (by rfl) T.min (by decide +kernel) (pa_cons (pv 4) (pa_cons (pe_ix ix_list (pv 0) (pv 3) (fun _ _ => rfl)) pa_nil)))))
      (pss_one (ps_ret (pe_tup (pa_cons (pv 3) (pa_cons (pe_ifExp (pt_cmpR op_eq (pe_ix ix_tup (pv 2) pe_int (fun _ _ => rfl)) pe_str (nomark _)) (pe_callB (call_min2 rfl) (by rfl) T.min (by decide +kernel) (pa_cons (pe_op op_add (pv 5) (pe_ix ix_tup (pv 2) pe_int (fun _ _ => rfl))) (pa_cons (pe_ix ix_list (pv 0) (pv 3) (fun _ _ => rfl)) pa_nil))) (pe_callB (call_max2 rfl) (by rfl) T.max (by decide +kernel) (pa_cons pe_int (pa_cons (pe_op op_sub (pv 5) (pe_ix ix_tup (pv 2) pe_int (fun _ _ => rfl))) pa_nil)))) pa_nil)))))))))), ?_⟩
    refine ⟨_, rfl, b, _, rfl, hb, rfl, _, _, rfl, _, _, rfl, rfl, ?_⟩
    cases c with
    | home =>
      refine ⟨_, rfl, ka, _, 0, _, rfl, rfl, hk, rfl, rfl, true, by decide +kernel, iteT ?_⟩
      exact ⟨_, rfl, (by show 2 ≤ sizeLine; decide), fun p np => ks r (some 0) rfl _ p (new_same np) np upd_same⟩
    | stop =>
      refine ⟨_, rfl, ka, _, 0, _, rfl, rfl, hk, rfl, rfl, false, by decide +kernel, iteF ?_⟩
      refine ⟨_, rfl, ka, _, 0, _, rfl, rfl, hk, rfl, rfl, true, by decide +kernel, iteT ?_⟩
      exact ⟨_, rfl, (by show 2 ≤ sizeLine; decide), fun p np => ks r none rfl _ p (new_same np) np upd_same⟩
    | down n =>
      have nb' : n < 10 ^ 40 := nb
      refine ⟨_, rfl, ka, _, 0, _, rfl, rfl, hk, rfl, rfl, false, by decide +kernel, iteF ?_⟩
      refine ⟨_, rfl, ka, _, 0, _, rfl, rfl, hk, rfl, rfl, false, by decide +kernel, iteF ?_⟩
      refine ⟨_, rfl, ka, _, 0, _, rfl, rfl, hk, rfl, (by show 2 ≤ sizeLine; decide), fun p1 np1 => ?_⟩
      have e_H1 : Same H (upd H p1 (.lst [V.str "down", .str "up"])) := new_same np1
      have h_p1 : (upd H p1 (.lst [V.str "down", .str "up"])) p1 = some (.lst [V.str "down", .str "up"]) := upd_same
      generalize upd H p1 (.lst [V.str "down", .str "up"]) = H1 at e_H1 h_p1 ⊢
      replace hk := seq_t e_H1 hk
      replace ht := e_H1.seq ht
      refine ⟨p1, _, rfl, .inl (SqL.of h_p1), rfl, rfl, true, by decide +kernel, iteT ?_⟩
      refine ⟨_, rfl, _, rfl, ka, _, 1, _, rfl, rfl, hk, rfl, _, rfl, (by show 2 ≤ sizeLine; decide), fun p2 np2 => ?_⟩
      have e_H2 : Same H1 (upd H1 p2 (.lst [V.int 1, .int (-1)])) := new_same np2
      have h_p2 : (upd H1 p2 (.lst [V.int 1, .int (-1)])) p2 = some (.lst [V.int 1, .int (-1)]) := upd_same
      generalize upd H1 p2 (.lst [V.int 1, .int (-1)]) = H2 at e_H2 h_p2 ⊢
      replace hk := seq_t e_H2 hk
      replace ht := e_H2.seq ht
      refine ⟨_, rfl, ka, _, 0, _, rfl, rfl, hk, rfl, rfl, .inr ⟨_, rfl, p2, _, _, _, rfl, rfl, SqL.of h_p2, at_fP (by decide +kernel), _, _, rfl, rfl, ?_⟩⟩
      have e12 := e_H1.trans e_H2
      have okc := hcok
      have n1 : 1 ≤ n := okc
      refine ⟨wide_mul (a := 134) (b := 2) (by omega) (by decide) (by decide) (by decide) (by decide), _, _, rfl, rfl, ?_⟩
      obtain ⟨r2, hr2, hd⟩ : ∃ r2, r + n * (if false = true then -1 else 1) = r2 ∧ r2 = r + (Cmd.down n).dv := ⟨_, rfl, by show r + n * (if false = true then -1 else 1) = r + n; simp⟩
      have hin : 0 ≤ r2 → r2 < tx.length → stepP tx r g (.down n) = some (r2, g) := fun h1 h2 => by
        unfold stepP
        rw [if_pos (show (Cmd.down n).vert = true from rfl), ← hd, if_pos ⟨h1, h2⟩]
      have hout : ¬ (0 ≤ r2 ∧ r2 < tx.length) → stepP tx r g (.down n) = none := fun h1 => by
        unfold stepP
        rw [if_pos (show (Cmd.down n).vert = true from rfl), ← hd, if_neg h1]
      show gName 3 (V.int (r + n * (if false = true then -1 else 1))) _ H2 _
      rw [hr2]
      refine ⟨_, rfl, _, _, rfl, rfl, _, rfl, ite2 (fun c0 => ?_) (fun c0 => ?_)⟩
      · have c0' : 0 ≤ r2 := of_decide_eq_true c0
        refine ⟨_, rfl, t, _, rfl, .inl ht, _, _, rfl, rfl, _, rfl, ite2 (fun c1 => ?_) (fun c1 => ?_)⟩
        · have c1' : r2 < ((tx.map V.int).length : Int) := of_decide_eq_true c1
          rw [List.length_map] at c1'
          exact ⟨_, rfl, _, rfl, (by show 2 ≤ sizeLine; decide), fun p np => ks r2 g (hin c0' c1') _ p (e12.trans (new_same np)) (e12.free np) upd_same⟩
        · have c1' : ¬ r2 < ((tx.map V.int).length : Int) := fun z => c1 (decide_eq_true z)
          rw [List.length_map] at c1'
          exact kn (hout fun z => c1' z.2) _ e12
      · have c0' : ¬ 0 ≤ r2 := fun z => c0 (decide_eq_true z)
        exact ⟨_, rfl, iteF (kn (hout fun z => c0' z.1) _ e12)⟩
    | up n =>
      have nb' : n < 10 ^ 40 := nb
      refine ⟨_, rfl, ka, _, 0, _, rfl, rfl, hk, rfl, rfl, false, by decide +kernel, iteF ?_⟩
      refine ⟨_, rfl, ka, _, 0, _, rfl, rfl, hk, rfl, rfl, false, by decide +kernel, iteF ?_⟩
      refine ⟨_, rfl, ka, _, 0, _, rfl, rfl, hk, rfl, (by show 2 ≤ sizeLine; decide), fun p1 np1 => ?_⟩
      have e_H1 : Same H (upd H p1 (.lst [V.str "down", .str "up"])) := new_same np1
      have h_p1 : (upd H p1 (.lst [V.str "down", .str "up"])) p1 = some (.lst [V.str "down", .str "up"]) := upd_same
      generalize upd H p1 (.lst [V.str "down", .str "up"]) = H1 at e_H1 h_p1 ⊢
      replace hk := seq_t e_H1 hk
      replace ht := e_H1.seq ht
      refine ⟨p1, _, rfl, .inl (SqL.of h_p1), rfl, rfl, true, by decide +kernel, iteT ?_⟩
      refine ⟨_, rfl, _, rfl, ka, _, 1, _, rfl, rfl, hk, rfl, _, rfl, (by show 2 ≤ sizeLine; decide), fun p2 np2 => ?_⟩
      have e_H2 : Same H1 (upd H1 p2 (.lst [V.int 1, .int (-1)])) := new_same np2
      have h_p2 : (upd H1 p2 (.lst [V.int 1, .int (-1)])) p2 = some (.lst [V.int 1, .int (-1)]) := upd_same
      generalize upd H1 p2 (.lst [V.int 1, .int (-1)]) = H2 at e_H2 h_p2 ⊢
      replace hk := seq_t e_H2 hk
      replace ht := e_H2.seq ht
      refine ⟨_, rfl, ka, _, 0, _, rfl, rfl, hk, rfl, rfl, .inr ⟨_, rfl, p2, _, _, _, rfl, rfl, SqL.of h_p2, at_tP (by decide +kernel), _, _, rfl, rfl, ?_⟩⟩
      have e12 := e_H1.trans e_H2
      have okc := hcok
      have n1 : 1 ≤ n := okc
      refine ⟨wide_mul (a := 134) (b := 2) (by omega) (by decide) (by decide) (by decide) (by decide), _, _, rfl, rfl, ?_⟩
      obtain ⟨r2, hr2, hd⟩ : ∃ r2, r + n * (if true = true then -1 else 1) = r2 ∧ r2 = r + (Cmd.up n).dv := ⟨_, rfl, by show r + n * (if true = true then -1 else 1) = r + -n; simp⟩
      have hin : 0 ≤ r2 → r2 < tx.length → stepP tx r g (.up n) = some (r2, g) := fun h1 h2 => by
        unfold stepP
        rw [if_pos (show (Cmd.up n).vert = true from rfl), ← hd, if_pos ⟨h1, h2⟩]
      have hout : ¬ (0 ≤ r2 ∧ r2 < tx.length) → stepP tx r g (.up n) = none := fun h1 => by
        unfold stepP
        rw [if_pos (show (Cmd.up n).vert = true from rfl), ← hd, if_neg h1]
      show gName 3 (V.int (r + n * (if true = true then -1 else 1))) _ H2 _
      rw [hr2]
      refine ⟨_, rfl, _, _, rfl, rfl, _, rfl, ite2 (fun c0 => ?_) (fun c0 => ?_)⟩
      · have c0' : 0 ≤ r2 := of_decide_eq_true c0
        refine ⟨_, rfl, t, _, rfl, .inl ht, _, _, rfl, rfl, _, rfl, ite2 (fun c1 => ?_) (fun c1 => ?_)⟩
        · have c1' : r2 < ((tx.map V.int).length : Int) := of_decide_eq_true c1
          rw [List.length_map] at c1'
          exact ⟨_, rfl, _, rfl, (by show 2 ≤ sizeLine; decide), fun p np => ks r2 g (hin c0' c1') _ p (e12.trans (new_same np)) (e12.free np) upd_same⟩
        · have c1' : ¬ r2 < ((tx.map V.int).length : Int) := fun z => c1 (decide_eq_true z)
          rw [List.length_map] at c1'
          exact kn (hout fun z => c1' z.2) _ e12
      · have c0' : ¬ 0 ≤ r2 := fun z => c0 (decide_eq_true z)
        exact ⟨_, rfl, iteF (kn (hout fun z => c0' z.1) _ e12)⟩
    | right n =>
      have nb' : n < 10 ^ 40 := nb
      have st : stepP tx r g (.right n) = some (r, aim1 (lenAt tx r) g (.right n)) := rfl
      have al := at_lenP r0 r1
      refine ⟨_, rfl, ka, _, 0, _, rfl, rfl, hk, rfl, rfl, false, by decide +kernel, iteF ?_⟩
      refine ⟨_, rfl, ka, _, 0, _, rfl, rfl, hk, rfl, rfl, false, by decide +kernel, iteF ?_⟩
      refine ⟨_, rfl, ka, _, 0, _, rfl, rfl, hk, rfl, (by show 2 ≤ sizeLine; decide), fun p1 np1 => ?_⟩
      have e_H1 : Same H (upd H p1 (.lst [V.str "down", .str "up"])) := new_same np1
      have h_p1 : (upd H p1 (.lst [V.str "down", .str "up"])) p1 = some (.lst [V.str "down", .str "up"]) := upd_same
      generalize upd H p1 (.lst [V.str "down", .str "up"]) = H1 at e_H1 h_p1 ⊢
      replace hk := seq_t e_H1 hk
      replace ht := e_H1.seq ht
      refine ⟨p1, _, rfl, .inl (SqL.of h_p1), rfl, rfl, false, by decide +kernel, iteF ?_⟩
      cases g with
      | none =>
        refine ⟨_, rfl, rfl, true, by rfl, iteT ⟨_, rfl, _, rfl, t, _, _, _, rfl, rfl, ht, al, ?_⟩⟩
        refine ⟨_, rfl, ?_⟩
        refine ⟨_, rfl, ka, _, 0, _, rfl, rfl, hk, rfl, rfl, true, by decide +kernel, iteT ?_⟩
        refine ⟨_, rfl, _, rfl, ka, _, 1, _, rfl, rfl, hk, rfl, _, _, rfl, rfl, _, rfl, _, rfl, t, _, _, _, rfl, rfl, ht, al, _, _, rfl, (by show 2 ≤ sizeLine; decide), fun p np => ?_⟩
        have e : (if lenAt tx r < lenAt tx r + n then lenAt tx r else lenAt tx r + n) = min (seen (lenAt tx r) none + n) (lenAt tx r) := by
          show _ = min (lenAt tx r + n) (lenAt tx r)
          split <;> omega
        exact ks r _ st _ p (e_H1.trans (new_same np)) (e_H1.free np) (upd_same.trans (by rw [e]; rfl))
      | some x =>
        refine ⟨_, rfl, rfl, false, by rfl, iteF ⟨_, rfl, _, rfl, _, rfl, t, _, _, _, rfl, rfl, ht, al, _, _, rfl, ?_⟩⟩
        refine ⟨_, rfl, ?_⟩
        refine ⟨_, rfl, ka, _, 0, _, rfl, rfl, hk, rfl, rfl, true, by decide +kernel, iteT ?_⟩
        refine ⟨_, rfl, _, rfl, ka, _, 1, _, rfl, rfl, hk, rfl, _, _, rfl, rfl, _, rfl, _, rfl, t, _, _, _, rfl, rfl, ht, al, _, _, rfl, (by show 2 ≤ sizeLine; decide), fun p np => ?_⟩
        have e : (if lenAt tx r < (if lenAt tx r < x then lenAt tx r else x) + n then lenAt tx r else (if lenAt tx r < x then lenAt tx r else x) + n) = min (seen (lenAt tx r) (some x) + n) (lenAt tx r) := by
          show _ = min (min x (lenAt tx r) + n) (lenAt tx r)
          split <;> (split <;> omega)
        exact ks r _ st _ p (e_H1.trans (new_same np)) (e_H1.free np) (upd_same.trans (by rw [e]; rfl))
    | left n =>
      have nb' : n < 10 ^ 40 := nb
      have st : stepP tx r g (.left n) = some (r, aim1 (lenAt tx r) g (.left n)) := rfl
      have al := at_lenP r0 r1
      refine ⟨_, rfl, ka, _, 0, _, rfl, rfl, hk, rfl, rfl, false, by decide +kernel, iteF ?_⟩
      refine ⟨_, rfl, ka, _, 0, _, rfl, rfl, hk, rfl, rfl, false, by decide +kernel, iteF ?_⟩
      refine ⟨_, rfl, ka, _, 0, _, rfl, rfl, hk, rfl, (by show 2 ≤ sizeLine; decide), fun p1 np1 => ?_⟩
      have e_H1 : Same H (upd H p1 (.lst [V.str "down", .str "up"])) := new_same np1
      have h_p1 : (upd H p1 (.lst [V.str "down", .str "up"])) p1 = some (.lst [V.str "down", .str "up"]) := upd_same
      generalize upd H p1 (.lst [V.str "down", .str "up"]) = H1 at e_H1 h_p1 ⊢
      replace hk := seq_t e_H1 hk
      replace ht := e_H1.seq ht
      refine ⟨p1, _, rfl, .inl (SqL.of h_p1), rfl, rfl, false, by decide +kernel, iteF ?_⟩
      cases g with
      | none =>
        refine ⟨_, rfl, rfl, true, by rfl, iteT ⟨_, rfl, _, rfl, t, _, _, _, rfl, rfl, ht, al, ?_⟩⟩
        refine ⟨_, rfl, ?_⟩
        refine ⟨_, rfl, ka, _, 0, _, rfl, rfl, hk, rfl, rfl, false, by decide +kernel, iteF ?_⟩
        refine ⟨_, rfl, _, rfl, ka, _, 1, _, rfl, rfl, hk, rfl, _, _, rfl, rfl, _, _, rfl, (by show 2 ≤ sizeLine; decide), fun p np => ?_⟩
        have e : (if lenAt tx r - n > 0 then lenAt tx r - n else 0) = max 0 (seen (lenAt tx r) none - n) := by
          show _ = max 0 (lenAt tx r - n)
          split <;> omega
        exact ks r _ st _ p (e_H1.trans (new_same np)) (e_H1.free np) (upd_same.trans (by rw [e]; rfl))
      | some x =>
        refine ⟨_, rfl, rfl, false, by rfl, iteF ⟨_, rfl, _, rfl, _, rfl, t, _, _, _, rfl, rfl, ht, al, _, _, rfl, ?_⟩⟩
        refine ⟨_, rfl, ?_⟩
        refine ⟨_, rfl, ka, _, 0, _, rfl, rfl, hk, rfl, rfl, false, by decide +kernel, iteF ?_⟩
        refine ⟨_, rfl, _, rfl, ka, _, 1, _, rfl, rfl, hk, rfl, _, _, rfl, rfl, _, _, rfl, (by show 2 ≤ sizeLine; decide), fun p np => ?_⟩
        have e : (if (if lenAt tx r < x then lenAt tx r else x) - n > 0 then (if lenAt tx r < x then lenAt tx r else x) - n else 0) = max 0 (seen (lenAt tx r) (some x) - n) := by
          show _ = max 0 (min x (lenAt tx r) - n)
          split <;> (split <;> omega)
        exact ks r _ st _ p (e_H1.trans (new_same np)) (e_H1.free np) (upd_same.trans (by rw [e]; rfl))
end
end Gc

/-! the P family's own running, and its cursors -/
namespace Gc
open PySem L2
structure TxtN (mg : Str → Option Value) : Prop where
  enumerate : mg "enumerate" = none
def spRan (K : PySem.W.Frag) : Sp := fun vs H Q _ => ∃ (t b l : Addr) (T : List Int) (r : Int) (g : Option Int) (xs : List V) (cs : List Cmd), vs = [.ref t, .ref b, .ref l] ∧ SqL K H t (T.map V.int) ∧ SqT K H b [.int r, optV g] ∧ SqL K H l xs ∧ CmdsOf K H xs cs ∧ 0 ≤ r ∧ r < T.length ∧ AllOk cs ∧ (∀ c ∈ cs, numC c < 10 ^ 40) ∧
  (∀ n, failAt T r g cs = some n → ∀ (H' : Hp) (p : Addr), Same H H' → H p = none → H' p = some (.lst [.non, .int (n : Nat)]) → Q (.ref p) H') ∧
  ∀ r' g', afterL T r g cs = some (r', g') → ∀ (H' : Hp) (p q : Addr), Same H H' → H p = none → H' p = some (.lst [.ref q, .non]) → SqT K H' q [.int r', optV g'] → Q (.ref p) H'
section
variable {P : Program} {w : World} {K : PySem.W.Frag} {mg : Str → Option Value} {base : Heap}
theorem sc_law_spot : FnScope ["pool", "lengths", "far", "goals"] ["pool", "lengths", "far"] (defScope s_spot) := ⟨rfl, rfl, rfl, by decide +kernel, rfl, by decide +kernel, by decide +kernel⟩
theorem ok_spot {f : Addr} {fd : FuncData} (F : Fun K "_law_spot" "_law_spot" s_spot f fd) (T : TxtK mg) (c_law_draw : Cal P w K mg base 1 "_law_draw" spDraw) : FnOk P w K mg base CX0 2 f fd ["pool", "lengths", "far"] (spSpot K) := by
  refine F.ok sc_law_spot (fun vs H Q E h => ?_) (fun cdv A outer s H vs Q E hr h => ?_)
  · obtain ⟨a, l, n, tx, far, rfl, _⟩ := h
    rfl
  · obtain ⟨a, l, n, tx, far, rfl, rg, hn, hl, la, t1, t2, f1, f2, k⟩ := h
    refine ⟨_, (pss_cons (ps_set (i := 3) sc_law_spot.nd rfl (Or.inl rfl) (pe_lst (pa_cons (pe_cal c_law_draw hr (by decide) (by rfl) (pa_cons (pv 0) (pa_cons pe_int pa_nil))) (pa_cons (pe_cal c_law_draw hr (by decide) (by rfl) (pa_cons (pv 0) (pa_cons pe_int pa_nil))) (pa_cons (pe_cal c_law_draw hr (by decide) (by rfl) (pa_cons (pv 0) (pa_cons (pv 2) pa_nil))) (pa_cons pe_non pa_nil))))))
      (pss_one (ps_ret (pe_tup (pa_cons (pe_cal c_law_draw hr (by decide) (by rfl) (pa_cons (pv 0) (pa_cons (pe_callB call_len_seq (by rfl) T.len (by decide +kernel) (pa_cons (pv 1) pa_nil)) pa_nil))) (pa_cons (pe_ix ix_list (pv 3) (pe_cal c_law_draw hr (by decide) (by rfl) (pa_cons (pv 0) (pa_cons pe_int pa_nil))) (fun _ _ => rfl)) pa_nil)))))), ?_⟩
    have k0 : Keep a a H H := Keep.refl H
    refine ⟨_, rfl, a, _, 6, rfl, rg, by omega, by decide, by decide, fun H1 d1 kp1 rg1 d10 d11 => ?_⟩
    replace hl := kp1 _ _ la la hl
    replace k0 := k0.trans kp1
    refine ⟨_, rfl, a, _, 50, rfl, rg1, by omega, by decide, by decide, fun H2 d2 kp2 rg2 d20 d21 => ?_⟩
    replace hl := kp2 _ _ la la hl
    replace k0 := k0.trans kp2
    refine ⟨_, rfl, _, rfl, a, _, far, rfl, rg2, by omega, by omega, log9 (a := 110) (by omega) (by decide), fun H3 d3 kp3 rg3 d30 d31 => ?_⟩
    replace hl := kp3 _ _ la la hl
    replace k0 := k0.trans kp3
    refine ⟨(by show 4 ≤ sizeLine; decide), fun q nq => ?_⟩
    have qa := rg3.off nq
    have e_H4 : Same H3 (upd H3 q (.lst [V.int d1, .int d2, .int d3, .non])) := new_same nq
    have h_q : (upd H3 q (.lst [V.int d1, .int d2, .int d3, .non])) q = some (.lst [V.int d1, .int d2, .int d3, .non]) := upd_same
    generalize upd H3 q (.lst [V.int d1, .int d2, .int d3, .non]) = H4 at e_H4 h_q ⊢
    replace rg3 := rg3.same e_H4
    replace hl := e_H4 _ _ hl
    replace k0 := k0.same1 e_H4
    refine ⟨_, rfl, _, rfl, l, _, rfl, .inl (SqL.of hl), a, _, _, rfl, rg3, by omega, by rw [List.length_map]; omega, ?_, fun H5 d5 kp5 rg5 d50 d51 => ?_⟩
    · rw [List.length_map]
      exact log9 (a := 10) (by omega) (by decide)
    rw [List.length_map] at d51
    replace h_q := kp5 _ _ qa qa h_q
    replace k0 := k0.trans kp5
    refine ⟨_, rfl, _, rfl, a, _, 4, rfl, rg5, by omega, by decide, by decide, fun H6 d6 kp6 rg6 d60 d61 => ?_⟩
    replace h_q := kp6 _ _ qa qa h_q
    replace k0 := k0.trans kp6
    obtain ⟨g, hg, g1⟩ : ∃ g : Option Int, atI [V.int d1, .int d2, .int d3, .non] d6 = some (optV g) ∧ ∀ x, g = some x → 0 ≤ x ∧ x < max 50 far := by
      rcases (show d6 = 0 ∨ d6 = 1 ∨ d6 = 2 ∨ d6 = 3 by omega) with rfl | rfl | rfl | rfl
      · exact ⟨some d1, rfl, fun x z => by cases z; omega⟩
      · exact ⟨some d2, rfl, fun x z => by cases z; omega⟩
      · exact ⟨some d3, rfl, fun x z => by cases z; omega⟩
      · exact ⟨none, rfl, fun x z => nomatch z⟩
    refine ⟨q, _, _, _, rfl, rfl, SqL.of h_q, hg, (by show 2 ≤ sizeLine; decide), fun p np => ?_⟩
    exact k _ p d5 g (k0.trans (Keep.of (new_same np))) ((rg6.same (new_same np)).more (by omega)) upd_same d50 d51 g1
end
end Gc

/-! running, where nothing is raised -/
namespace Gc
open PySem L2
abbrev s_check_text : Stmt := top 10
abbrev s_check_cursor : Stmt := top 11
abbrev s_run : Stmt := top 16
abbrev s_shown_column : Stmt := top 18
abbrev s_moved : Stmt := top 20
abbrev s_new_goal : Stmt := top 21
theorem at_len' {T : List Int} {r : Int} (h0 : 0 ≤ r) (h1 : r < T.length) : atI (T.map V.int) r = some (.int (lenAt T r)) := by
  have e : r = (r.toNat : Int) := by omega
  refine at_of (j := r.toNat) e ?_
  have l : r.toNat < T.length := by omega
  unfold lenAt
  rw [List.getElem?_map, List.getD_eq_getElem?_getD, List.getElem?_eq_getElem l]
  rfl
theorem minI (i j : Int) : (if j < i then j else i) = min i j := by split <;> omega
theorem maxI (i j : Int) : (if j > i then j else i) = max i j := by split <;> omega
theorem iteN1 {c A B : Prop} [Decidable c] (hc : c) (h : B) : if (!decide c) = true then A else B := by
  rw [decide_eq_true hc]
  exact iteF h
theorem iteN0 {c A B : Prop} [Decidable c] (hc : ¬ c) (h : A) : if (!decide c) = true then A else B := by
  rw [decide_eq_false hc]
  exact iteT h
def spText (K : PySem.W.Frag) : Sp := fun vs H Q _ => ∃ (t : Addr) (T : List Int), vs = [.ref t] ∧ SqL K H t (T.map V.int) ∧ T ≠ [] ∧ (∀ x ∈ T, 0 ≤ x) ∧ ∀ H', Same H H' → Q .non H'
def spCursor (K : PySem.W.Frag) : Sp := fun vs H Q _ => ∃ (n r : Int) (g : Option Int) (c : Addr), vs = [.int n, .ref c] ∧ SqT K H c [.int r, optV g] ∧ 0 ≤ r ∧ r < n ∧ ge g 0 ∧ Q .non H
def spShown : Sp := fun vs H Q _ => ∃ (t : Int) (g : Option Int), vs = [.int t, optV g] ∧ Q (.int (seen t g)) H
def spGoal (K : PySem.W.Frag) : Sp := fun vs H Q _ => ∃ (t : Int) (g : Option Int) (v : V) (c : Cmd), vs = [.int t, optV g, v] ∧ CmdAt K H v c ∧ Q (optV (aim1 t g c)) H
/-- one command: None, or the new cursor -/
def step1 (T : List Int) (r : Int) (g : Option Int) (c : Cmd) : Option (Int × Option Int) := if 0 ≤ r + c.dv ∧ r + c.dv < T.length then some (r + c.dv, aim1 (lenAt T (r + c.dv)) g c) else none
def spMoved (K : PySem.W.Frag) : Sp := fun vs H Q _ => ∃ (t b : Addr) (T : List Int) (r : Int) (g : Option Int) (v : V) (c : Cmd), vs = [.ref t, .ref b, v] ∧ SqL K H t (T.map V.int) ∧ SqT K H b [.int r, optV g] ∧ CmdAt K H v c ∧
  (step1 T r g c = none → Q .non H) ∧ ∀ r' g', step1 T r g c = some (r', g') → ∀ p, H p = none → Q (.ref p) (upd H p (.tup [.int r', optV g']))
def spRun (K : PySem.W.Frag) : Sp := fun vs H Q _ => ∃ (t b l : Addr) (T : List Int) (r : Int) (g : Option Int) (xs : List V) (cs : List Cmd) (r' : Int) (g' : Option Int), vs = [.ref t, .ref b, .ref l] ∧ SqL K H t (T.map V.int) ∧ SqT K H b [.int r, optV g] ∧ SqL K H l xs ∧ CmdsOf K H xs cs ∧
  (∀ x ∈ T, 0 ≤ x) ∧ 0 ≤ r ∧ r < T.length ∧ ge g 0 ∧ AllOk cs ∧ cs.length ≤ 10000 ∧ afterL T r g cs = some (r', g') ∧ ∀ (H' : Hp) (p : Addr), Same H H' → SqT K H' p [.int r', optV g'] → Q (.ref p) H'
theorem aim1_vert {t t' : Int} {g : Option Int} {c : Cmd} (h : c.vert = true) : aim1 t g c = g := by cases c <;> first | rfl | cases h
theorem dv_flat {c : Cmd} (h : ¬ c.vert = true) : c.dv = 0 := by cases c <;> first | rfl | exact absurd rfl h
theorem afterL_cons {T : List Int} {r : Int} {g : Option Int} {c : Cmd} {cs : List Cmd} (h0 : 0 ≤ r) (h1 : r < T.length) : afterL T r g (c :: cs) = (step1 T r g c).bind fun q => afterL T q.1 q.2 cs := by
  unfold step1
  simp only [afterL]
  by_cases v : c.vert = true
  · rw [if_pos v]
    by_cases i : 0 ≤ r + c.dv ∧ r + c.dv < T.length
    · rw [if_pos i, if_pos i, aim1_vert (t' := 0) v]
      rfl
    · rw [if_neg i, if_neg i]
      rfl
  · rw [if_neg v, dv_flat v, Int.add_zero, if_pos ⟨h0, h1⟩]
    rfl
theorem step1_in {T : List Int} {r r' : Int} {g g' : Option Int} {c : Cmd} (h : step1 T r g c = some (r', g')) : 0 ≤ r' ∧ r' < T.length := by
  unfold step1 at h
  split at h
  · rename_i i
    cases h
    exact i
  · cases h
section
variable {P : Program} {w : World} {K : PySem.W.Frag} {mg : Str → Option Value} {base : Heap} {wo wn : Addr}
theorem sc_check_text : FnScope ["text", "index", "length"] ["text"] (defScope s_check_text) := ⟨rfl, rfl, rfl, by decide +kernel, rfl, by decide +kernel, by decide +kernel⟩
theorem ok_check_text {f : Addr} {fd : FuncData} (F : Fun K "check_text" "check_text" s_check_text f fd) (T : TxtB K mg wo wn) : FnOk P w K mg base CX0 1 f fd ["text"] (spText K) := by
  refine F.ok sc_check_text (fun vs H Q E h => ?_) (fun cdv A outer s H vs Q E hr h => ?_)
  · obtain ⟨t, T, rfl, _⟩ := h
    rfl
  · obtain ⟨t, tx, rfl, ht, ne, nn, k⟩ := h
    refine ⟨_, (pss_cons (ps_if (pt_not (pt_truth (pv 0) (fun _ => rfl))) (pss_one ps_never) pss_nil)
      (pss_one (ps_for PassesOwn.never rfl (pi_enum (by rfl) T.enumerate (pa_cons (pv 0) pa_nil)) (pg_tup rfl (pgs_cons (pg_name (i := 1) sc_check_text.nd rfl (Or.inl rfl)) (pgs_cons (pg_name (i := 2) sc_check_text.nd rfl (Or.inl rfl)) pgs_nil))) (pss_one (ps_if (pt_cmpR op_lt (pv 2) pe_int (nomark _)) (pss_one ps_never) pss_nil))))), ?_⟩
    refine ⟨_, rfl, true, .inl ⟨_, ht, ?_⟩, iteF ?_⟩
    · cases tx with
      | nil => exact absurd rfl ne
      | cons x r => rfl
    refine ⟨_, rfl, t, _, rfl, ht, for_it (walk_enum (K := K) (a := t) (xs := tx.map V.int)) (fun i σ H' => ∃ v1 v2 : Option V, σ = [some (.ref t), v1, v2] ∧ Same H H')
      ⟨none, none, rfl, Same.refl H⟩ (fun i σ H' _ ⟨_, _, _, e⟩ => e.seq ht) (fun i x σ H1 H2 hi h y => ?_) (fun σ H1 h => ?_)⟩
    · obtain ⟨v1, v2, rfl, e⟩ := h
      obtain ⟨T1, x1, y1, rfl, nT, rfl, e1, e2⟩ := y
      obtain ⟨z, hz, rfl⟩ : ∃ z, tx[i]? = some z ∧ y1 = .int z := by
        have e3 : (tx.map V.int)[i]? = some y1 := e2
        rw [List.getElem?_map] at e3
        cases q : tx[i]? with
        | none =>
          rw [q] at e3
          cases e3
        | some z =>
          rw [q] at e3
          exact ⟨z, rfl, (Option.some.inj e3).symm⟩
      have z0 := nn z (List.mem_of_getElem? hz)
      refine ⟨T1, _, rfl, SqT.of upd_same, rfl, _, _, rfl, _, _, rfl, rfl, ?_⟩
      refine ⟨_, rfl, _, _, rfl, rfl, _, rfl, ite2 (fun c => absurd (of_decide_eq_true c) (by omega)) (fun _ => ?_)⟩
      exact ⟨_, _, rfl, same_upd e nT⟩
    · obtain ⟨v1, v2, rfl, e⟩ := h
      exact k _ e
theorem sc_check_cursor : FnScope ["lines", "cursor", "row", "goal"] ["lines", "cursor"] (defScope s_check_cursor) := ⟨rfl, rfl, rfl, by decide +kernel, rfl, by decide +kernel, by decide +kernel⟩
theorem ok_check_cursor {f : Addr} {fd : FuncData} (F : Fun K "check_cursor" "check_cursor" s_check_cursor f fd) : FnOk P w K mg base CX0 1 f fd ["lines", "cursor"] (spCursor K) := by
  refine F.ok sc_check_cursor (fun vs H Q E h => ?_) (fun cdv A outer s H vs Q E hr h => ?_)
  · obtain ⟨n, r, g, c, rfl, _⟩ := h
    rfl
  · obtain ⟨n, r, g, c, rfl, hc, r0, r1, g0, k⟩ := h
    refine ⟨_, (pss_cons (ps_asg (pv 1) (pg_tup rfl (pgs_cons (pg_name (i := 2) sc_check_cursor.nd rfl (Or.inl rfl)) (pgs_cons (pg_name (i := 3) sc_check_cursor.nd rfl (Or.inl rfl)) pgs_nil))))
      (pss_one (ps_if (PW.pt (pw_or (pt_not (pt_chain op_le op_lt pe_int (pv 2) (pv 0))) (pw_or1 (PW.pt (pw_and (pt_cmpR op_notN (pv 3) pe_non (nomark _)) (pw_and1 (pt_cmpR op_lt (pv 3) pe_int (nomark _)))))))) (pss_one ps_never) pss_nil))), ?_⟩
    refine ⟨_, rfl, c, _, rfl, hc, rfl, _, _, rfl, _, _, rfl, rfl, ?_⟩
    refine ⟨_, rfl, _, _, rfl, rfl, _, rfl, ite2 (fun _ => ?_) (fun c => absurd (decide_eq_true r0) c)⟩
    refine ⟨_, rfl, _, _, rfl, rfl, _, rfl, ?_⟩
    refine iteN1 r1 ?_
    cases g with
    | none => exact ⟨_, rfl, rfl, _, rfl, iteF (iteF k)⟩
    | some y =>
      have y0 := ge_some.mp g0
      refine ⟨_, rfl, rfl, _, rfl, iteT ?_⟩
      refine ⟨_, rfl, _, _, rfl, rfl, _, rfl, ite2 (fun c => absurd (of_decide_eq_true c) (by omega)) (fun _ => k)⟩
theorem sc_shown_column : FnScope ["length", "goal"] ["length", "goal"] (defScope s_shown_column) := ⟨rfl, rfl, rfl, by decide +kernel, rfl, by decide +kernel, by decide +kernel⟩
theorem ok_shown_column {f : Addr} {fd : FuncData} (F : Fun K "shown_column" "shown_column" s_shown_column f fd) (T : TxtB K mg wo wn) : FnOk P w K mg base CX0 1 f fd ["length", "goal"] spShown := by
  refine F.ok sc_shown_column (fun vs H Q E h => ?_) (fun cdv A outer s H vs Q E hr h => ?_)
  · obtain ⟨t, g, rfl, _⟩ := h
    rfl
  · obtain ⟨t, g, rfl, k⟩ := h
    refine ⟨_, (pss_one (ps_ret (pe_ifExp (pt_cmpR op_isN (pv 1) pe_non (nomark _)) (pv 0) (pe_callB (call_min2 rfl) (by rfl) T.min (by decide +kernel) (pa_cons (pv 1) (pa_cons (pv 0) pa_nil)))))), ?_⟩
    cases g with
    | none => exact ⟨_, rfl, rfl, _, rfl, iteT ⟨_, rfl, k⟩⟩
    | some y =>
      refine ⟨_, rfl, rfl, _, rfl, iteF ?_⟩
      refine ⟨_, rfl, _, rfl, _, _, rfl, ?_⟩
      show Q (.int (if t < y then t else y)) H
      rw [minI]
      exact k
theorem sc_new_goal : FnScope ["length", "goal", "command"] ["length", "goal", "command"] (defScope s_new_goal) := ⟨rfl, rfl, rfl, by decide +kernel, rfl, by decide +kernel, by decide +kernel⟩
theorem ok_new_goal {f : Addr} {fd : FuncData} (F : Fun K "new_goal" "new_goal" s_new_goal f fd) (T : TxtB K mg wo wn) (c_shown_column : Cal P w K mg base 1 "shown_column" spShown) : FnOk P w K mg base CX0 2 f fd ["length", "goal", "command"] (spGoal K) := by
  refine F.ok sc_new_goal (fun vs H Q E h => ?_) (fun cdv A outer s H vs Q E hr h => ?_)
  · obtain ⟨t, g, v, c, rfl, _⟩ := h
    rfl
  · obtain ⟨t, g, v, c, rfl, ⟨a, rfl, hc⟩, k⟩ := h
    refine ⟨_, (pss_one (ps_match (pe_ix ix_tup (pv 2) pe_int (fun _ _ => rfl)) (mc_str (pss_one (ps_ret pe_int)) (mc_str (pss_one (ps_ret pe_non)) (mc_str (pss_one (ps_ret (pe_callB (call_min2 rfl) (by rfl) T.min (by decide +kernel) (pa_cons (pe_op op_add (pe_cal c_shown_column hr (by decide) (by rfl) (pa_cons (pv 0) (pa_cons (pv 1) pa_nil))) (pe_ix ix_tup (pv 2) pe_int (fun _ _ => rfl))) (pa_cons (pv 0) pa_nil))))) (mc_str (pss_one (ps_ret (pe_callB (call_max2 rfl) (by rfl) T.max (by decide +kernel) (pa_cons (pe_op op_sub (pe_cal c_shown_column hr (by decide) (by rfl) (pa_cons (pv 0) (pa_cons (pv 1) pa_nil))) (pe_ix ix_tup (pv 2) pe_int (fun _ _ => rfl))) (pa_cons pe_int pa_nil))))) (mc_any (pss_one (ps_ret (pv 1)))))))))), ?_⟩
    cases c with
    | home => exact ⟨_, rfl, a, _, 0, _, rfl, rfl, hc, rfl, m_yes (by decide +kernel) k⟩
    | stop => exact ⟨_, rfl, a, _, 0, _, rfl, rfl, hc, rfl, m_no (by decide +kernel) (m_yes (by decide +kernel) k)⟩
    | right n =>
      refine ⟨_, rfl, a, _, 0, _, rfl, rfl, hc, rfl, m_no (by decide +kernel) (m_no (by decide +kernel) (m_yes (by decide +kernel) ?_))⟩
      refine ⟨_, rfl, _, rfl, t, g, rfl, _, rfl, a, _, 1, _, rfl, rfl, hc, rfl, _, _, rfl, rfl, _, rfl, _, _, rfl, ?_⟩
      show Q (.int (if t < seen t g + n then t else seen t g + n)) H
      rw [minI]
      exact k
    | left n =>
      refine ⟨_, rfl, a, _, 0, _, rfl, rfl, hc, rfl, m_no (by decide +kernel) (m_no (by decide +kernel) (m_no (by decide +kernel) (m_yes (by decide +kernel) ?_)))⟩
      refine ⟨_, rfl, _, rfl, t, g, rfl, _, rfl, a, _, 1, _, rfl, rfl, hc, rfl, _, _, rfl, rfl, _, _, rfl, ?_⟩
      show Q (.int (if 0 > seen t g - n then 0 else seen t g - n)) H
      rw [maxI, Int.max_comm]
      exact k
    | down n => exact ⟨_, rfl, a, _, 0, _, rfl, rfl, hc, rfl, m_no (by decide +kernel) (m_no (by decide +kernel) (m_no (by decide +kernel) (m_no (by decide +kernel) ⟨_, rfl, k⟩)))⟩
    | up n => exact ⟨_, rfl, a, _, 0, _, rfl, rfl, hc, rfl, m_no (by decide +kernel) (m_no (by decide +kernel) (m_no (by decide +kernel) (m_no (by decide +kernel) ⟨_, rfl, k⟩)))⟩
theorem sc_moved : FnScope ["text", "cursor", "command", "row"] ["text", "cursor", "command"] (defScope s_moved) := ⟨rfl, rfl, rfl, by decide +kernel, rfl, by decide +kernel, by decide +kernel⟩
theorem ok_moved {f : Addr} {fd : FuncData} (F : Fun K "moved" "moved" s_moved f fd) (T : TxtB K mg wo wn) (c_row_change : Cal P w K mg base 1 "row_change" (spRow K)) (c_new_goal : Cal P w K mg base 2 "new_goal" (spGoal K)) : FnOk P w K mg base CX0 3 f fd ["text", "cursor", "command"] (spMoved K) := by
  refine F.ok sc_moved (fun vs H Q E h => ?_) (fun cdv A outer s H vs Q E hr h => ?_)
  · obtain ⟨t, b, tx, r, g, v, c, rfl, _⟩ := h
    rfl
  · obtain ⟨t, b, tx, r, g, v, c, rfl, ht, hb, hv, kn, ks⟩ := h
    refine ⟨_, (pss_cons (ps_set (i := 3) sc_moved.nd rfl (Or.inl rfl) (pe_op op_add (pe_ix ix_tup (pv 1) pe_int (fun _ _ => rfl)) (pe_cal c_row_change hr (by decide) (by rfl) (pa_cons (pv 2) pa_nil))))
      (pss_cons (ps_if (pt_not (pt_chain op_le op_lt pe_int (pv 3) (pe_callB call_len_seq (by rfl) T.len (by decide +kernel) (pa_cons (pv 0) pa_nil)))) (pss_one (ps_ret pe_non)) pss_nil)
      (pss_one (ps_ret (pe_tup (pa_cons (pv 3) (pa_cons (pe_cal c_new_goal hr (by decide) (by rfl) (pa_cons (pe_ix ix_list (pv 0) (pv 3) (fun _ _ => rfl)) (pa_cons (pe_ix ix_tup (pv 1) pe_int (fun _ _ => rfl)) (pa_cons (pv 2) pa_nil)))) pa_nil))))))), ?_⟩
    refine ⟨_, rfl, b, _, 0, _, rfl, rfl, hb, rfl, _, rfl, v, c, rfl, hv, _, _, rfl, rfl, ?_⟩
    have out : ¬ (0 ≤ r + c.dv ∧ r + c.dv < tx.length) → Q .non H := fun z => kn (by unfold step1; rw [if_neg z])
    refine ⟨_, rfl, _, _, rfl, rfl, _, rfl, ite2 (fun c0 => ?_) (fun c0 => ?_)⟩
    · have c0' : 0 ≤ r + c.dv := of_decide_eq_true c0
      refine ⟨_, rfl, t, _, rfl, .inl ht, _, _, rfl, rfl, _, rfl, ?_⟩
      by_cases c1 : r + c.dv < tx.length
      · refine iteN1 (by rw [List.length_map]; exact c1) ?_
        refine ⟨_, rfl, _, rfl, _, rfl, t, _, _, _, rfl, rfl, ht, at_len' c0' c1, _, rfl, b, _, 1, _, rfl, rfl, hb, rfl, _, rfl, lenAt tx (r + c.dv), g, v, c, rfl, hv, (by show 2 ≤ sizeLine; decide), fun p hp => ?_⟩
        exact ks _ _ (by unfold step1; rw [if_pos ⟨c0', c1⟩]) p hp
      · refine iteN0 (by rw [List.length_map]; exact c1) ?_
        exact out fun z => c1 z.2
    · refine ⟨_, rfl, ?_⟩
      refine iteT (B := _) ?_
      exact out fun z => c0 (decide_eq_true z.1)
theorem sc_run : FnScope ["text", "cursor", "commands", "place", "index", "command"] ["text", "cursor", "commands"] (defScope s_run) := ⟨rfl, rfl, rfl, by decide +kernel, rfl, by decide +kernel, by decide +kernel⟩
theorem ok_run {f : Addr} {fd : FuncData} (F : Fun K "run" "run" s_run f fd) (T : TxtB K mg wo wn) (c_check_text : Cal P w K mg base 1 "check_text" (spText K)) (c_check_cursor : Cal P w K mg base 1 "check_cursor" (spCursor K))
    (c_check_commands : Cal P w K mg base 3 "check_commands" (spCheck K)) (c_moved : Cal P w K mg base 3 "moved" (spMoved K)) : FnOk P w K mg base CX0 4 f fd ["text", "cursor", "commands"] (spRun K) := by
  refine F.ok sc_run (fun vs H Q E h => ?_) (fun cdv A outer s H vs Q E hr h => ?_)
  · obtain ⟨t, b, l, tx, r, g, xs, cs, r', g', rfl, _⟩ := h
    rfl
  · obtain ⟨t, b, l, tx, r, g, xs, cs, r', g', rfl, ht, hb, hl, hcs, nn, r0, r1, g0, ok, ln, hrun, k⟩ := h
    refine ⟨_, (pss_cons (ps_expr (pe_cal c_check_text hr (by decide) (by rfl) (pa_cons (pv 0) pa_nil)))
      (pss_cons (ps_expr (pe_cal c_check_cursor hr (by decide) (by rfl) (pa_cons (pe_callB call_len_seq (by rfl) T.len (by decide +kernel) (pa_cons (pv 0) pa_nil)) (pa_cons (pv 1) pa_nil))))
      (pss_cons (ps_expr (pe_cal c_check_commands hr (by decide) (by rfl) (pa_cons (pv 2) pa_nil)))
      (pss_cons (ps_set (i := 3) sc_run.nd rfl (Or.inl rfl) (pv 1))
      (pss_cons (ps_for PassesOwn.never rfl (pi_enum (by rfl) T.enumerate (pa_cons (pv 2) pa_nil)) (pg_tup rfl (pgs_cons (pg_name (i := 4) sc_run.nd rfl (Or.inl rfl)) (pgs_cons (pg_name (i := 5) sc_run.nd rfl (Or.inl rfl)) pgs_nil))) (pss_cons (ps_set (i := 3) sc_run.nd rfl (Or.inl rfl) (pe_cal c_moved hr (by decide) (by rfl) (pa_cons (pv 0) (pa_cons (pv 3) (pa_cons (pv 5) pa_nil)))))
      (pss_one (ps_if (pt_cmpR op_isN (pv 3) pe_non (nomark _)) (pss_one ps_never) pss_nil))))
      (pss_one (ps_ret (pv 3)))))))), ?_⟩
    refine ⟨_, rfl, t, tx, rfl, ht, (by intro z; subst z; simp at r1; omega), nn, fun H1 e1 => ?_⟩
    refine ⟨_, rfl, t, _, rfl, .inl (e1.seq ht), _, rfl, (tx.map V.int).length, r, g, b, rfl, seq_t e1 hb, r0, by rw [List.length_map]; exact r1, g0, ?_⟩
    refine ⟨_, rfl, l, xs, cs, rfl, e1.seq hl, hcs.same e1, ok, ln, fun H2 e2 => ?_⟩
    have e12 := e1.trans e2
    refine ⟨_, rfl, ?_⟩
    refine ⟨_, rfl, l, _, rfl, e12.seq hl, for_it (walk_enum (K := K) (a := l) (xs := xs)) (fun i σ H' => ∃ (p : Addr) (rr : Int) (gg : Option Int) (v1 v2 : Option V), σ = [some (.ref t), some (.ref b), some (.ref l), some (.ref p), v1, v2] ∧ Same H H' ∧ SqT K H' p [.int rr, optV gg] ∧ 0 ≤ rr ∧ rr < tx.length ∧ afterL tx rr gg (cs.drop i) = some (r', g'))
      ⟨b, r, g, none, none, rfl, e12, seq_t e12 hb, r0, r1, hrun⟩ (fun i σ H' _ ⟨_, _, _, _, _, _, e, _⟩ => e.seq hl) (fun i x σ H3 H4 hi h y => ?_) (fun σ H3 h => ?_)⟩
    · obtain ⟨p, rr, gg, v1, v2, rfl, e3, hp, q0, q1, hgo⟩ := h
      obtain ⟨T1, x1, y1, rfl, nT, rfl, ex1, ex2⟩ := y
      obtain ⟨c, hc, hca⟩ := paired_at hcs ex2
      have hdrop : cs.drop i = c :: cs.drop (i + 1) := by
        obtain ⟨h1, h2⟩ := List.getElem?_eq_some_iff.mp hc
        rw [List.drop_eq_getElem_cons h1, h2]
      rw [hdrop, afterL_cons q0 q1] at hgo
      have eT : Same H3 (upd H3 T1 (.tup [x1, y1])) := same_upd (Same.refl _) nT
      have eHT := e3.trans eT
      obtain ⟨⟨r2, g2⟩, hst, hrest⟩ := Option.bind_eq_some_iff.mp hgo
      have hin := step1_in hst
      refine ⟨T1, _, rfl, SqT.of upd_same, rfl, _, _, rfl, _, _, rfl, rfl, ?_⟩
      refine ⟨_, rfl, _, rfl, _, rfl, t, p, tx, rr, gg, y1, c, rfl, eHT.seq ht, seq_t eT hp, hca.same eHT, (fun z => by rw [hst] at z; cases z), fun r3 g3 z p3 np3 => ?_⟩
      rw [hst] at z
      cases z
      have e4 : Same (upd H3 T1 (.tup [x1, y1])) (upd (upd H3 T1 (.tup [x1, y1])) p3 (.tup [.int r2, optV g2])) := same_upd (Same.refl _) np3
      refine ⟨_, rfl, rfl, _, rfl, iteF ?_⟩
      exact ⟨p3, r2, g2, _, _, rfl, eHT.trans e4, SqT.of upd_same, hin.1, hin.2, hrest⟩
    · obtain ⟨p, rr, gg, v1, v2, rfl, e3, hp, q0, q1, hgo⟩ := h
      rw [hcs.len, List.drop_length] at hgo
      have z : (rr, gg) = (r', g') := Option.some.inj hgo
      cases z
      exact ⟨_, rfl, k _ p e3 hp⟩
end
end Gc

/-! raising the program's own errors: classes whose __init__ keeps one value; calls of defs that may raise -/
namespace L2
open PySem PySem.Spec PyProof.Rows
/-- def __init__(self, value): self.value = value, on a new exception of the class at C -/
def spKeep (C : Addr) : Sp := fun vs H Q _ => ∃ (a : Addr) (v : V), vs = [.ref a, v] ∧ H a = some (exo a C none) ∧
  ∀ dx, H dx = none → dx ≠ a → Q .non (upd (upd H dx (exd dx [("value", v)])) a (exo a C (some dx)))
/-- the error class x of the program, at C -/
structure ErrC (P : Program) (w : World) (K : PySem.W.Frag) (mg : Str → Option Value) (base : Heap) (x : Str) (C : Addr) : Prop where
  T : OexC K C
  g : mg x = some (.ref C)
  no : PySem.W.findIn K (.ref C) "value" = some none
  ex : ∃ (fI : Addr) (fd : FuncData), PySem.W.findIn K (.ref C) "__init__" = some (some (.ref fI)) ∧ PySem.W.typeIn K (.ref fI) = some (.type "function") ∧
    FnOk P w K mg base CX0 1 fI fd ["self", "value"] (spKeep C) ∧ Binds K fd ["self", "value"] []
/-- x(e) in a raise: the new error's class, its dict, the heap with that dict -/
def rRaise (C : Addr) (Q : XK) (v : V) (H1 : Hp) : Prop := [v].length ≤ 1000 ∧ ∀ a, H1 a = none → spKeep C (.ref a :: ([v] ++ [])) (upd H1 a (exo a C none))
  (fun u H2 => u = .non ∧ ∃ (d : Addr) (fs : List (Str × V)), H2 a = some (exo a C (some d)) ∧ H2 d = some (exd d fs) ∧ H1 d = none ∧ Q (.ref C) (some d) (upd (del H2 a) d (.xd fs))) (fun _ _ _ => False)
theorem ask_raise {C : Addr} {Q : XK} {v : V} {H : Hp} (h : ∀ d, H d = none → Q (.ref C) (some d) (upd H d (.xd [("value", v)]))) : rRaise C Q v H := by
  refine ⟨(by show 1 ≤ 1000; decide), fun a ha => ⟨a, v, rfl, upd_same, fun dx hd ne => ⟨rfl, dx, [("value", v)], upd_same, ?_, ?_, ?_⟩⟩⟩
  · rw [upd_ne ne, upd_same]
  · rw [upd_ne ne] at hd
    exact hd
  · have hd' : H dx = none := by
      rw [upd_ne ne] at hd
      exact hd
    have e : upd (del (upd (upd (upd H a (exo a C none)) dx (exd dx [("value", v)])) a (exo a C (some dx))) a) dx (.xd [("value", v)]) = upd H dx (.xd [("value", v)]) := by
      funext b
      by_cases hb : b = dx
      · rw [hb, upd_same, upd_same]
      · rw [upd_ne hb, upd_ne hb]
        by_cases ha' : b = a
        · rw [ha', del_same, ha]
        · rw [del_ne ha', upd_ne ha', upd_ne hb, upd_ne ha']
    rw [e]
    exact h dx hd'
section
variable {X : Cx} {k j : Nat} {x : Str} {sp : Sp} {p pos pos2 : Pos} {e : Expr} {es : List Expr} {t : TA} {te : TE} {W : WX} {C : Addr}
def tRaiseE (C : Addr) (W : WX) (te : TE) : TS := fun _ σ H => te σ H fun v H1 => rRaise C (fun cls d H' => W cls d σ H') v H1
theorem ps_raiseE (hc : X.calm = true) (c : ErrC X.prog X.w X.K X.mg X.base x C) (hr : Room j X.A) (hj : 2 ≤ j) (tk : Takes X W) (he : PE X e te) (hg : Gl X x)
    (hdb : (x == ("__debug__" : Str)) = false := by decide)
    (hs : starEach (e :: []) X.env = (false, eval e X.env) :: starEach [] X.env := by rfl) (hpl : (backTo pos (starEach [] X.env)).any (·.1) = false := by rfl) :
    PS X (.Raise (some (.Call (.Name x p) [e] [] pos)) none pos2) (tRaiseE C W te) := by
  obtain ⟨T, g, no, fI, fd, iC, tI, F, b⟩ := c
  exact ps_raise hc tk (pmk_oex (dvs := []) T iC tI F (hr.mono hj) b .nil pass0 hg g (pa_cons he pa_nil hs) hdb hs hpl)
/-- a def that is called by its name and may let an error out -/
structure CalX (P : Program) (w : World) (K : PySem.W.Frag) (mg : Str → Option Value) (base : Heap) (k : Nat) (x : Str) (sp : Sp) : Prop where
  ex : ∃ (f : Addr) (fd : FuncData) (ps : List Str), FnOk P w K mg base (L2.CX P w) k f fd ps sp ∧
    mg x = some (.ref f) ∧ PySem.W.keepIn K (.ref f) = true ∧ Binds K fd ps []
theorem pe_calX (tk : Takes X W) (c : CalX X.prog X.w X.K X.mg X.base k x sp) (hr : Room j X.A) (hk : k ≤ j) (hg : Gl X x) (ha : PA X (e :: es) t)
    (hdb : (x == ("__debug__" : Str)) = false := by decide)
    (he : starEach (e :: es) X.env = (false, eval e X.env) :: starEach es X.env := by rfl)
    (hpl : (backTo pos (starEach es X.env)).any (·.1) = false := by rfl) :
    PE X (.Call (.Name x p) (e :: es) [] pos) (tCallS sp (WE W) t) := by
  obtain ⟨f, fd, ps, F, hm, kp, b⟩ := c.ex
  exact pe_callS F (hr.mono hk) hg hm kp b (fun σ => passAt tk σ) ha hdb he hpl
end
end L2

/-! an error that is let out -/
namespace Gc
open PySem L2
/-- an error of the class at C that carries v is let out: its dict is new, all else is as it was -/
def Err (E : XK) (C : Addr) (v : V) (H : Hp) : Prop := ∀ (H' : Hp) (d : Addr), Same H H' → H' d = none → E (.ref C) (some d) (upd H' d (.xd [("value", v)]))
theorem Err.same {E : XK} {C : Addr} {v : V} {H H' : Hp} (e : Same H H') (h : Err E C v H) : Err E C v H' := fun H2 d s n => h H2 d (e.trans s) n
theorem Err.ask {E : XK} {C : Addr} {v : V} {H H' : Hp} (e : Same H H') (h : Err E C v H) : rRaise C E v H' := ask_raise fun d hd => h H' d e hd
end Gc

/-! the program's checks, where they may raise -/
namespace Gc
open PySem L2
/-- a tuple that may be no command -/
inductive Raw where
  | nil
  | one (n : Str)
  | two (n : Str) (k : Int)
  | three (n : Str) (k j : Int)
def encR : Raw → List V
  | .nil => []
  | .one n => [.str n]
  | .two n k => [.str n, .int k]
  | .three n k j => [.str n, .int k, .int j]
def withN : List V := [.str "down", .str "up", .str "right", .str "left"]
def withoutN : List V := [.str "home", .str "end"]
def Raw.good : Raw → Bool
  | .one n => inV (.str n) withoutN
  | .two n k => inV (.str n) withN && decide (1 ≤ k)
  | _ => false
def Raw.cmd : Raw → Cmd
  | .one n => if n = "home" then .home else .stop
  | .two n k => if n = "down" then .down k else if n = "up" then .up k else if n = "right" then .right k else .left k
  | _ => .home
theorem in_two {n : Str} (h : inV (.str n) withoutN = true) : n = "home" ∨ n = "end" := by
  simp only [inV, withoutN, List.any_cons, List.any_nil, eqV, Bool.or_false, Bool.or_eq_true, beq_iff_eq] at h
  rcases h with h | h
  · exact .inl h.symm
  · exact .inr h.symm
theorem in_four {n : Str} (h : inV (.str n) withN = true) : n = "down" ∨ n = "up" ∨ n = "right" ∨ n = "left" := by
  simp only [inV, withN, List.any_cons, List.any_nil, eqV, Bool.or_false, Bool.or_eq_true, beq_iff_eq] at h
  rcases h with h | h | h | h
  · exact .inl h.symm
  · exact .inr (.inl h.symm)
  · exact .inr (.inr (.inl h.symm))
  · exact .inr (.inr (.inr h.symm))
theorem Raw.enc {r : Raw} (h : r.good = true) : encR r = encC r.cmd ∧ r.cmd.ok := by
  cases r with
  | nil => cases h
  | one n =>
    rcases in_two h with e | e <;> subst e
    · exact ⟨rfl, trivial⟩
    · exact ⟨rfl, trivial⟩
  | two n k =>
    obtain ⟨h1, h2⟩ := Bool.and_eq_true_iff.mp h
    have hk := of_decide_eq_true h2
    rcases in_four h1 with e | e | e | e <;> subst e
    · exact ⟨rfl, hk⟩
    · exact ⟨rfl, hk⟩
    · exact ⟨rfl, hk⟩
    · exact ⟨rfl, hk⟩
  | three n k j => cases h
def RawAt (K : PySem.W.Frag) (H : Hp) (v : V) (r : Raw) : Prop := ∃ a, v = .ref a ∧ SqT K H a (encR r)
def RawsOf (K : PySem.W.Frag) (H : Hp) (xs : List V) (rs : List Raw) : Prop := Paired (RawAt K H) xs rs
theorem RawAt.same {K : PySem.W.Frag} {H H' : Hp} {v : V} {r : Raw} (e : Same H H') (h : RawAt K H v r) : RawAt K H' v r := by
  obtain ⟨a, rfl, h⟩ := h
  exact ⟨a, rfl, seq_t e h⟩
theorem RawsOf.same {K : PySem.W.Frag} {H H' : Hp} {xs : List V} {rs : List Raw} (e : Same H H') (h : RawsOf K H xs rs) : RawsOf K H' xs rs := Paired.mapP h fun _ _ q => q.same e
/-- the index of the first tuple that is no command -/
def badAt (rs : List Raw) : Option Nat := rs.findIdx? fun r => !r.good
theorem bad_at {rs : List Raw} {i : Nat} {r : Raw} (h : rs[i]? = some r) (g : r.good = false) (b : ∀ j r, j < i → rs[j]? = some r → r.good = true) : badAt rs = some i := by
  unfold badAt
  rw [List.findIdx?_eq_some_iff_getElem]
  obtain ⟨hi, e⟩ := List.getElem?_eq_some_iff.mp h
  refine ⟨hi, by rw [e, g]; rfl, fun j hj => ?_⟩
  have := b j rs[j] hj (List.getElem?_eq_getElem (by omega))
  rw [this]
  decide
theorem bad_none {rs : List Raw} (b : ∀ j r, j < rs.length → rs[j]? = some r → r.good = true) : badAt rs = none := by
  unfold badAt
  rw [List.findIdx?_eq_none_iff]
  intro r hr
  obtain ⟨j, hj, e⟩ := List.mem_iff_getElem.mp hr
  rw [b j r hj (by rw [List.getElem?_eq_getElem hj, e])]
  rfl
theorem bad_good {rs : List Raw} (h : badAt rs = none) : ∀ r ∈ rs, r.good = true := by
  unfold badAt at h
  rw [List.findIdx?_eq_none_iff] at h
  intro r hr
  have := h r hr
  cases e : r.good with
  | true => rfl
  | false =>
    rw [e] at this
    cases this
theorem raws_cmds {K : PySem.W.Frag} {H : Hp} : ∀ {xs : List V} {rs : List Raw}, RawsOf K H xs rs → (∀ r ∈ rs, r.good = true) → CmdsOf K H xs (rs.map Raw.cmd) ∧ AllOk (rs.map Raw.cmd)
  | [], [], _, _ => ⟨.nil, fun _ h => nomatch h⟩
  | _ :: _, r :: rs, .cons ⟨a, e, h⟩ q, g => by
    obtain ⟨h1, h2⟩ := raws_cmds q fun r hr => g r (List.mem_cons_of_mem _ hr)
    obtain ⟨e1, e2⟩ := Raw.enc (g r List.mem_cons_self)
    refine ⟨.cons ⟨a, e, e1 ▸ h⟩ h1, fun c hc => ?_⟩
    rcases List.mem_cons.mp hc with z | z
    · rw [z]
      exact e2
    · exact h2 c z
def negAt (T : List Int) : Option Nat := T.findIdx? fun x => decide (x < 0)
theorem neg_at {T : List Int} {i : Nat} {x : Int} (h : T[i]? = some x) (g : x < 0) (b : ∀ j x, j < i → T[j]? = some x → 0 ≤ x) : negAt T = some i := by
  unfold negAt
  rw [List.findIdx?_eq_some_iff_getElem]
  obtain ⟨hi, e⟩ := List.getElem?_eq_some_iff.mp h
  refine ⟨hi, by rw [e]; exact decide_eq_true g, fun j hj => ?_⟩
  have := b j T[j] hj (List.getElem?_eq_getElem (by omega))
  simp only [decide_eq_true_eq]
  omega
theorem neg_none {T : List Int} (b : ∀ j x, j < T.length → T[j]? = some x → 0 ≤ x) : negAt T = none := by
  unfold negAt
  rw [List.findIdx?_eq_none_iff]
  intro x hx
  obtain ⟨j, hj, e⟩ := List.mem_iff_getElem.mp hx
  have := b j x hj (by rw [List.getElem?_eq_getElem hj, e])
  exact decide_eq_false (by omega)
theorem neg_nn {T : List Int} (h : negAt T = none) : ∀ x ∈ T, 0 ≤ x := by
  unfold negAt at h
  rw [List.findIdx?_eq_none_iff] at h
  intro x hx
  have := of_decide_eq_false (h x hx)
  omega
def spCountX : Sp := fun vs H Q _ => ∃ n : Int, vs = [.int n] ∧ Q (.bl (decide (1 ≤ n))) H
def spIsRaw (K : PySem.W.Frag) : Sp := fun vs H Q _ => ∃ (v : V) (r : Raw), vs = [v] ∧ RawAt K H v r ∧ Q (.bl r.good) H
def spCheckX (K : PySem.W.Frag) (CM : Addr) : Sp := fun vs H Q E => ∃ (l : Addr) (xs : List V) (rs : List Raw), vs = [.ref l] ∧ SqL K H l xs ∧ RawsOf K H xs rs ∧
  (∀ i, badAt rs = some i → Err E CM (.int i) H) ∧ (badAt rs = none → ∀ H', Same H H' → Q .non H')
def spTextX (K : PySem.W.Frag) (CT : Addr) : Sp := fun vs H Q E => ∃ (t : Addr) (T : List Int), vs = [.ref t] ∧ SqL K H t (T.map V.int) ∧ (T = [] → Err E CT .non H) ∧ (T ≠ [] → ∀ i, negAt T = some i → Err E CT (.int i) H) ∧
  (T ≠ [] → negAt T = none → ∀ H', Same H H' → Q .non H')
def CurOk (n r : Int) (g : Option Int) : Prop := 0 ≤ r ∧ r < n ∧ ge g 0
def spCursorX (K : PySem.W.Frag) (CC : Addr) : Sp := fun vs H Q E => ∃ (n r : Int) (g : Option Int) (c : Addr), vs = [.int n, .ref c] ∧ SqT K H c [.int r, optV g] ∧ (¬ CurOk n r g → Err E CC (.ref c) H) ∧ (CurOk n r g → Q .non H)
def spNumX (CN : Addr) : Sp := fun vs H Q E => ∃ n k : Int, vs = [.int n, .int k] ∧ (n < k → Err E CN (.int n) H) ∧ (k ≤ n → Q .non H)
section
variable {P : Program} {w : World} {K : PySem.W.Frag} {mg : Str → Option Value} {base : Heap} {wo wn CT CC CM CN : Addr}
theorem ok_is_countX {f : Addr} {fd : FuncData} (F : Fun K "is_count" "is_count" s_is_count f fd) (T : TxtB K mg wo wn) : FnOk P w K mg base CX0 1 f fd ["number"] spCountX := by
  refine F.ok sc_is_count (fun vs H Q E h => ?_) (fun cdv A outer s H vs Q E hr h => ?_)
  · obtain ⟨n, rfl, _⟩ := h
    rfl
  · obtain ⟨n, rfl, k⟩ := h
    refine ⟨_, (pss_one (ps_ret (pe_and (pe_callB call_isi (by rfl) T.isinstance (by decide +kernel) (pa_cons (pv 0) (pa_cons (pe_bltn (v := .ty "int") (u := .type "int") (by rfl) T.int (by decide +kernel) rfl) pa_nil))) (pe_and (pe_not (pe_callB call_isi (by rfl) T.isinstance (by decide +kernel) (pa_cons (pv 0) (pa_cons (pe_bltn (v := .ty "bool") (u := .type "bool") (by rfl) T.bool (by decide +kernel) rfl) pa_nil)))) (pe_one (pe_cmpR op_ge (pv 0) pe_int (nomark _))))))), ?_⟩
    refine ⟨_, rfl, _, _, _, _, _, rfl, .ty "int", .base (.int n), kit_ty (show kitB "int" "int" = some true by decide +kernel), _, rfl, iteT ?_⟩
    refine ⟨_, rfl, _, _, _, _, _, rfl, .ty "bool", .base (.int n), kit_ty (show kitB "int" "bool" = some false by decide +kernel), _, rfl, _, rfl, iteT ?_⟩
    exact ⟨_, rfl, _, _, rfl, rfl, k⟩
theorem ok_is_commandX {f : Addr} {fd : FuncData} (F : Fun K "is_command" "is_command" s_is_command f fd) (T : TxtB K mg wo wn) (c_is_count : Cal P w K mg base 1 "is_count" spCountX) : FnOk P w K mg base CX0 2 f fd ["command"] (spIsRaw K) := by
  refine F.ok sc_is_command (fun vs H Q E h => ?_) (fun cdv A outer s H vs Q E hr h => ?_)
  · obtain ⟨v, c, rfl, _⟩ := h
    rfl
  · obtain ⟨v, r, rfl, ⟨a, rfl, ha⟩, k⟩ := h
    refine ⟨_, (pss_cons (ps_if (pt_cmpR op_eq (pe_callB call_len_seq (by rfl) T.len (by decide +kernel) (pa_cons (pv 0) pa_nil)) pe_int (nomark _)) (pss_one (ps_ret (pe_cmpR op_in_seq (pe_ix ix_tup (pv 0) pe_int (fun _ _ => rfl)) (pe_glob (v := .ref wo) (by rfl) T.g_WITHOUT_NUMBER rfl) (by rfl)))) pss_nil)
      (pss_one (ps_ret (pe_and (pe_cmpR op_eq (pe_callB call_len_seq (by rfl) T.len (by decide +kernel) (pa_cons (pv 0) pa_nil)) pe_int (nomark _)) (pe_and (pe_cmpR op_in_seq (pe_ix ix_tup (pv 0) pe_int (fun _ _ => rfl)) (pe_glob (v := .ref wn) (by rfl) T.g_WITH_NUMBER rfl) (by rfl)) (pe_one (pe_cal c_is_count hr (by decide) (by rfl) (pa_cons (pe_ix ix_tup (pv 0) pe_int (fun _ _ => rfl)) pa_nil)))))))), ?_⟩
    cases r with
    | nil =>
      refine ⟨_, rfl, a, _, rfl, .inr ha, rfl, _, rfl, iteF ?_⟩
      exact ⟨_, rfl, a, _, rfl, .inr ha, rfl, _, rfl, iteF k⟩
    | one n =>
      refine ⟨_, rfl, a, _, rfl, .inr ha, rfl, _, rfl, iteT ?_⟩
      refine ⟨_, rfl, a, _, 0, _, rfl, rfl, ha, rfl, wo, _, rfl, .inr (T.tWO _), rfl, rfl, ?_⟩
      rw [if_neg Bool.false_ne_true]
      exact k
    | two n j =>
      refine ⟨_, rfl, a, _, rfl, .inr ha, rfl, _, rfl, iteF ?_⟩
      refine ⟨_, rfl, a, _, rfl, .inr ha, rfl, _, rfl, iteT ?_⟩
      refine ⟨_, rfl, a, _, 0, _, rfl, rfl, ha, rfl, wn, _, rfl, .inr (T.tWN _), rfl, rfl, inV (.str n) withN, rfl, ?_⟩
      cases hb : inV (.str n) withN with
      | true =>
        refine iteT ⟨_, rfl, a, _, 1, _, rfl, rfl, ha, rfl, j, rfl, ?_⟩
        have e : Raw.good (.two n j) = decide (1 ≤ j) := by
          show (inV (.str n) withN && decide (1 ≤ j)) = _
          rw [hb, Bool.true_and]
        rw [e] at k
        exact k
      | false =>
        refine iteF ?_
        have e : Raw.good (.two n j) = false := by
          show (inV (.str n) withN && decide (1 ≤ j)) = _
          rw [hb, Bool.false_and]
        rw [e] at k
        exact k
    | three n j i =>
      refine ⟨_, rfl, a, _, rfl, .inr ha, rfl, _, rfl, iteF ?_⟩
      exact ⟨_, rfl, a, _, rfl, .inr ha, rfl, _, rfl, iteF k⟩
theorem ok_check_commandsX {f : Addr} {fd : FuncData} (F : Fun K "check_commands" "check_commands" s_check_commands f fd) (T : TxtB K mg wo wn) (c_is_command : Cal P w K mg base 2 "is_command" (spIsRaw K))
    (e_InvalidCommand : ErrC P w K mg base "InvalidCommand" CM) : FnOk P w K mg base (L2.CX P w) 3 f fd ["commands"] (spCheckX K CM) := by
  refine F.okX sc_check_commands (fun vs H Q E h => ?_) (fun cdv A outer s H vs Q E hr h => ?_)
  · obtain ⟨l, xs, rs, rfl, _⟩ := h
    rfl
  · obtain ⟨l, xs, rs, rfl, hl, hrs, kb, kg⟩ := h
    refine ⟨_, (pss_one (ps_for (passes_of rfl) rfl (pi_enum (by rfl) T.enumerate (pa_cons (pv 0) pa_nil)) (pg_tup rfl (pgs_cons (pg_name (i := 1) sc_check_commands.nd rfl (Or.inl rfl)) (pgs_cons (pg_name (i := 2) sc_check_commands.nd rfl (Or.inl rfl)) pgs_nil))) (pss_one (ps_if (pt_not (pt_val (pe_cal c_is_command hr (by decide) (by rfl) (pa_cons (pv 2) pa_nil)))) (pss_one (ps_raiseE rfl e_InvalidCommand hr (by decide) (takes_of rfl rfl rfl rfl) (pv 1) (by rfl))) pss_nil)))), ?_⟩
    refine ⟨_, rfl, l, xs, rfl, hl, for_it (walk_enum (K := K) (a := l) (xs := xs)) (fun i σ H' => ∃ v1 v2 : Option V, σ = [some (.ref l), v1, v2] ∧ Same H H' ∧ ∀ j r, j < i → rs[j]? = some r → r.good = true)
      ⟨none, none, rfl, Same.refl H, fun j r h => absurd h (Nat.not_lt_zero _)⟩ (fun i σ H' _ ⟨_, _, _, e, _⟩ => e.seq hl) (fun i x σ H1 H2 hi h y => ?_) (fun σ H1 h => ?_)⟩
    · obtain ⟨v1, v2, rfl, e, gd⟩ := h
      obtain ⟨T1, x1, y1, rfl, nT, rfl, e1, e2⟩ := y
      obtain rfl : V.int (i : Nat) = x1 := Option.some.inj e1
      obtain ⟨r, hr1, hra⟩ := paired_at hrs e2
      have eT : Same H (upd H1 T1 (.tup [.int (i : Nat), y1])) := same_upd e nT
      refine ⟨T1, _, rfl, SqT.of upd_same, rfl, _, _, rfl, _, _, rfl, rfl, ?_⟩
      refine ⟨_, rfl, y1, r, rfl, hra.same eT, _, rfl, ?_⟩
      cases hg : r.good with
      | true =>
        refine iteF ⟨_, _, rfl, eT, fun j r' hj hr' => ?_⟩
        by_cases z : j = i
        · rw [z, hr1] at hr'
          cases hr'
          exact hg
        · exact gd j r' (by omega) hr'
      | false =>
        refine iteT ⟨_, rfl, Err.ask eT ?_⟩
        have := kb i (bad_at hr1 hg gd)
        exact this
    · obtain ⟨v1, v2, rfl, e, gd⟩ := h
      refine kg (bad_none fun j r hj hr' => gd j r ?_ hr') _ e
      rw [Paired.length hrs]
      exact hj
theorem ok_check_textX {f : Addr} {fd : FuncData} (F : Fun K "check_text" "check_text" s_check_text f fd) (T : TxtB K mg wo wn) (e_InvalidText : ErrC P w K mg base "InvalidText" CT) : FnOk P w K mg base (L2.CX P w) 3 f fd ["text"] (spTextX K CT) := by
  refine F.okX sc_check_text (fun vs H Q E h => ?_) (fun cdv A outer s H vs Q E hr h => ?_)
  · obtain ⟨t, T, rfl, _⟩ := h
    rfl
  · obtain ⟨t, tx, rfl, ht, k0, kn, kg⟩ := h
    refine ⟨_, (pss_cons (ps_if (pt_not (pt_truth (pv 0) (fun _ => rfl))) (pss_one (ps_raiseE rfl e_InvalidText hr (by decide) (takes_of rfl rfl rfl rfl) pe_non (by rfl))) pss_nil)
      (pss_one (ps_for (passes_of rfl) rfl (pi_enum (by rfl) T.enumerate (pa_cons (pv 0) pa_nil)) (pg_tup rfl (pgs_cons (pg_name (i := 1) sc_check_text.nd rfl (Or.inl rfl)) (pgs_cons (pg_name (i := 2) sc_check_text.nd rfl (Or.inl rfl)) pgs_nil))) (pss_one (ps_if (pt_cmpR op_lt (pv 2) pe_int (nomark _)) (pss_one (ps_raiseE rfl e_InvalidText hr (by decide) (takes_of rfl rfl rfl rfl) (pv 1) (by rfl))) pss_nil))))), ?_⟩
    cases tx with
    | nil =>
      refine ⟨_, rfl, false, .inl ⟨_, ht, rfl⟩, iteT ?_⟩
      exact Err.ask (Same.refl H) (k0 rfl)
    | cons z0 zs =>
      have kn' := kn (by simp)
      have kg' := kg (by simp)
      generalize hT : z0 :: zs = tx at *
      refine ⟨_, rfl, true, .inl ⟨_, ht, by rw [← hT]; rfl⟩, iteF ?_⟩
      refine ⟨_, rfl, t, _, rfl, ht, for_it (walk_enum (K := K) (a := t) (xs := tx.map V.int)) (fun i σ H' => ∃ v1 v2 : Option V, σ = [some (.ref t), v1, v2] ∧ Same H H' ∧ ∀ j x, j < i → tx[j]? = some x → 0 ≤ x)
        ⟨none, none, rfl, Same.refl H, fun j r h => absurd h (Nat.not_lt_zero _)⟩ (fun i σ H' _ ⟨_, _, _, e, _⟩ => e.seq ht) (fun i x σ H1 H2 hi h y => ?_) (fun σ H1 h => ?_)⟩
      · obtain ⟨v1, v2, rfl, e, gd⟩ := h
        obtain ⟨T1, x1, y1, rfl, nT, rfl, e1, e2⟩ := y
        obtain rfl : V.int (i : Nat) = x1 := Option.some.inj e1
        obtain ⟨z, hz, rfl⟩ : ∃ z, tx[i]? = some z ∧ y1 = .int z := by
          have e3 : (tx.map V.int)[i]? = some y1 := e2
          rw [List.getElem?_map] at e3
          cases q : tx[i]? with
          | none =>
            rw [q] at e3
            cases e3
          | some z =>
            rw [q] at e3
            exact ⟨z, rfl, (Option.some.inj e3).symm⟩
        have eT : Same H (upd H1 T1 (.tup [.int i, .int z])) := same_upd e nT
        refine ⟨T1, _, rfl, SqT.of upd_same, rfl, _, _, rfl, _, _, rfl, rfl, ?_⟩
        refine ⟨_, rfl, _, _, rfl, rfl, _, rfl, ite2 (fun c => ?_) (fun c => ?_)⟩
        · exact ⟨_, rfl, Err.ask eT (kn' i (neg_at hz (of_decide_eq_true c) gd))⟩
        · refine ⟨_, _, rfl, eT, fun j x hj hx => ?_⟩
          by_cases q : j = i
          · rw [q, hz] at hx
            cases hx
            have : ¬ z < 0 := fun l => c (decide_eq_true l)
            omega
          · exact gd j x (by omega) hx
      · obtain ⟨v1, v2, rfl, e, gd⟩ := h
        refine kg' (neg_none fun j x hj hx => gd j x ?_ hx) _ e
        rw [List.length_map]
        exact hj
theorem ok_check_cursorX {f : Addr} {fd : FuncData} (F : Fun K "check_cursor" "check_cursor" s_check_cursor f fd) (e_InvalidCursor : ErrC P w K mg base "InvalidCursor" CC) : FnOk P w K mg base (L2.CX P w) 3 f fd ["lines", "cursor"] (spCursorX K CC) := by
  refine F.okX sc_check_cursor (fun vs H Q E h => ?_) (fun cdv A outer s H vs Q E hr h => ?_)
  · obtain ⟨n, r, g, c, rfl, _⟩ := h
    rfl
  · obtain ⟨n, r, g, c, rfl, hc, kb, kg⟩ := h
    refine ⟨_, (pss_cons (ps_asg (pv 1) (pg_tup rfl (pgs_cons (pg_name (i := 2) sc_check_cursor.nd rfl (Or.inl rfl)) (pgs_cons (pg_name (i := 3) sc_check_cursor.nd rfl (Or.inl rfl)) pgs_nil))))
      (pss_one (ps_if (PW.pt (pw_or (pt_not (pt_chain op_le op_lt pe_int (pv 2) (pv 0))) (pw_or1 (PW.pt (pw_and (pt_cmpR op_notN (pv 3) pe_non (nomark _)) (pw_and1 (pt_cmpR op_lt (pv 3) pe_int (nomark _)))))))) (pss_one (ps_raiseE rfl e_InvalidCursor hr (by decide) (takes_of rfl rfl rfl rfl) (pv 1) (by rfl))) pss_nil))), ?_⟩
    have bad : ¬ CurOk n r g → rRaise CC E (.ref c) H := fun z => Err.ask (Same.refl H) (kb z)
    refine ⟨_, rfl, c, _, rfl, hc, rfl, _, _, rfl, _, _, rfl, rfl, ?_⟩
    refine ⟨_, rfl, _, _, rfl, rfl, _, rfl, ite2 (fun c0 => ?_) (fun c0 => ?_)⟩
    · refine ⟨_, rfl, _, _, rfl, rfl, _, rfl, ?_⟩
      by_cases c1 : r < n
      · refine iteN1 c1 ?_
        cases g with
        | none => exact ⟨_, rfl, rfl, _, rfl, iteF (iteF (kg ⟨of_decide_eq_true c0, c1, ge_none 0⟩))⟩
        | some y =>
          refine ⟨_, rfl, rfl, _, rfl, iteT ?_⟩
          refine ⟨_, rfl, _, _, rfl, rfl, _, rfl, ite2 (fun c2 => ?_) (fun c2 => ?_)⟩
          · refine ⟨_, rfl, bad fun z => ?_⟩
            have := ge_some.mp z.2.2
            have := of_decide_eq_true c2
            omega
          · have c2' : ¬ y < 0 := fun l => c2 (decide_eq_true l)
            exact kg ⟨of_decide_eq_true c0, c1, ge_some.mpr (by omega)⟩
      · refine iteN0 c1 ?_
        exact ⟨_, rfl, bad fun z => c1 z.2.1⟩
    · refine ⟨_, rfl, ?_⟩
      refine iteT (B := _) ?_
      exact ⟨_, rfl, bad fun z => c0 (decide_eq_true z.1)⟩
end
end Gc

/-! run of valid arguments: where it fails, Impossible -/
namespace Gc
open PySem L2
theorem step_eq {T : List Int} {r : Int} {g : Option Int} {c : Cmd} (h0 : 0 ≤ r) (h1 : r < T.length) : step1 T r g c = stepP T r g c := by
  unfold step1 stepP
  by_cases cv : c.vert = true
  · rw [if_pos cv, aim1_vert (t' := 0) cv]
  · rw [if_neg cv, dv_flat cv, Int.add_zero, if_pos ⟨h0, h1⟩]
def spRunI (K : PySem.W.Frag) (CO : Addr) : Sp := fun vs H Q E => ∃ (t b l : Addr) (T : List Int) (r : Int) (g : Option Int) (xs : List V) (cs : List Cmd), vs = [.ref t, .ref b, .ref l] ∧ SqL K H t (T.map V.int) ∧ SqT K H b [.int r, optV g] ∧ SqL K H l xs ∧ CmdsOf K H xs cs ∧
  (∀ x ∈ T, 0 ≤ x) ∧ 0 ≤ r ∧ r < T.length ∧ ge g 0 ∧ AllOk cs ∧ cs.length ≤ 10000 ∧ (∀ n, failAt T r g cs = some n → Err E CO (.int (n : Nat)) H) ∧
  ∀ r' g', afterL T r g cs = some (r', g') → ∀ (H' : Hp) (p : Addr), Same H H' → SqT K H' p [.int r', optV g'] → Q (.ref p) H'
@[irreducible] def zRunI (K : PySem.W.Frag) (CO : Addr) : Sp := spRunI K CO
theorem zRunI_eq (K : PySem.W.Frag) (CO : Addr) : zRunI K CO = spRunI K CO := by unfold zRunI; rfl
theorem ask_runI {K : PySem.W.Frag} {CO : Addr} {H : Hp} {Q : VK} {E : XK} {t b l : Addr} {T : List Int} {r : Int} {g : Option Int} {xs : List V} {cs : List Cmd} (ht : SqL K H t (T.map V.int)) (hb : SqT K H b [.int r, optV g]) (hl : SqL K H l xs) (hc : CmdsOf K H xs cs)
    (nn : ∀ x ∈ T, 0 ≤ x) (r0 : 0 ≤ r) (r1 : r < T.length) (g0 : ge g 0) (ok : AllOk cs) (ln : cs.length ≤ 10000) (kf : ∀ n, failAt T r g cs = some n → Err E CO (.int (n : Nat)) H)
    (k : ∀ r' g', afterL T r g cs = some (r', g') → ∀ (H' : Hp) (p : Addr), Same H H' → SqT K H' p [.int r', optV g'] → Q (.ref p) H') : zRunI K CO [.ref t, .ref b, .ref l] H Q E := by
  rw [zRunI_eq]
  exact ⟨t, b, l, T, r, g, xs, cs, rfl, ht, hb, hl, hc, nn, r0, r1, g0, ok, ln, kf, k⟩
section
variable {P : Program} {w : World} {K : PySem.W.Frag} {mg : Str → Option Value} {base : Heap} {wo wn CO : Addr}
theorem ok_runI {f : Addr} {fd : FuncData} (F : Fun K "run" "run" s_run f fd) (T : TxtB K mg wo wn) (c_check_text : Cal P w K mg base 1 "check_text" (spText K)) (c_check_cursor : Cal P w K mg base 1 "check_cursor" (spCursor K))
    (c_check_commands : Cal P w K mg base 3 "check_commands" (spCheck K)) (c_moved : Cal P w K mg base 3 "moved" (spMoved K)) (e_Impossible : ErrC P w K mg base "Impossible" CO) : FnOk P w K mg base (L2.CX P w) 4 f fd ["text", "cursor", "commands"] (spRunI K CO) := by
  refine F.okX sc_run (fun vs H Q E h => ?_) (fun cdv A outer s H vs Q E hr h => ?_)
  · obtain ⟨t, b, l, tx, r, g, xs, cs, rfl, _⟩ := h
    rfl
  · obtain ⟨t, b, l, tx, r, g, xs, cs, rfl, ht, hb, hl, hcs, nn, r0, r1, g0, ok, ln, kf, k⟩ := h
    refine ⟨_, (pss_cons (ps_expr (pe_cal c_check_text hr (by decide) (by rfl) (pa_cons (pv 0) pa_nil)))
      (pss_cons (ps_expr (pe_cal c_check_cursor hr (by decide) (by rfl) (pa_cons (pe_callB call_len_seq (by rfl) T.len (by decide +kernel) (pa_cons (pv 0) pa_nil)) (pa_cons (pv 1) pa_nil))))
      (pss_cons (ps_expr (pe_cal c_check_commands hr (by decide) (by rfl) (pa_cons (pv 2) pa_nil)))
      (pss_cons (ps_set (i := 3) sc_run.nd rfl (Or.inl rfl) (pv 1))
      (pss_cons (ps_for (passes_of rfl) rfl (pi_enum (by rfl) T.enumerate (pa_cons (pv 2) pa_nil)) (pg_tup rfl (pgs_cons (pg_name (i := 4) sc_run.nd rfl (Or.inl rfl)) (pgs_cons (pg_name (i := 5) sc_run.nd rfl (Or.inl rfl)) pgs_nil))) (pss_cons (ps_set (i := 3) sc_run.nd rfl (Or.inl rfl) (pe_cal c_moved hr (by decide) (by rfl) (pa_cons (pv 0) (pa_cons (pv 3) (pa_cons (pv 5) pa_nil)))))
      (pss_one (ps_if (pt_cmpR op_isN (pv 3) pe_non (nomark _)) (pss_one (ps_raiseE rfl e_Impossible hr (by decide) (takes_of rfl rfl rfl rfl) (pv 4) (by rfl))) pss_nil))))
      (pss_one (ps_ret (pv 3)))))))), ?_⟩
    refine ⟨_, rfl, t, tx, rfl, ht, (by intro z; subst z; simp at r1; omega), nn, fun H1 e1 => ?_⟩
    refine ⟨_, rfl, t, _, rfl, .inl (e1.seq ht), _, rfl, (tx.map V.int).length, r, g, b, rfl, seq_t e1 hb, r0, by rw [List.length_map]; exact r1, g0, ?_⟩
    refine ⟨_, rfl, l, xs, cs, rfl, e1.seq hl, hcs.same e1, ok, ln, fun H2 e2 => ?_⟩
    have e12 := e1.trans e2
    refine ⟨_, rfl, ?_⟩
    refine ⟨_, rfl, l, _, rfl, e12.seq hl, for_it (walk_enum (K := K) (a := l) (xs := xs)) (fun i σ H' => ∃ (p : Addr) (rr : Int) (gg : Option Int) (v1 v2 : Option V), σ = [some (.ref t), some (.ref b), some (.ref l), some (.ref p), v1, v2] ∧ Same H H' ∧ SqT K H' p [.int rr, optV gg] ∧ 0 ≤ rr ∧ rr < tx.length ∧
        afterL tx r g cs = afterL tx rr gg (cs.drop i) ∧ failAt tx r g cs = (failAt tx rr gg (cs.drop i)).map (· + i))
      ⟨b, r, g, none, none, rfl, e12, seq_t e12 hb, r0, r1, rfl, by rw [List.drop_zero]; simp⟩ (fun i σ H' _ ⟨_, _, _, _, _, _, e, _⟩ => e.seq hl) (fun i x σ H3 H4 hi h y => ?_) (fun σ H3 h => ?_)⟩
    · obtain ⟨p, rr, gg, v1, v2, rfl, e3, hp, q0, q1, ha, hf⟩ := h
      obtain ⟨T1, x1, y1, rfl, nT, rfl, ex1, ex2⟩ := y
      obtain rfl : V.int (i : Nat) = x1 := Option.some.inj ex1
      obtain ⟨c, hc, hca⟩ := paired_at hcs ex2
      have hdrop : cs.drop i = c :: cs.drop (i + 1) := by
        obtain ⟨h1, h2⟩ := List.getElem?_eq_some_iff.mp hc
        rw [List.drop_eq_getElem_cons h1, h2]
      rw [hdrop] at ha hf
      rw [afterL_step] at ha
      rw [fail_step] at hf
      have eT : Same H3 (upd H3 T1 (.tup [.int (i : Nat), y1])) := same_upd (Same.refl _) nT
      have eHT := e3.trans eT
      refine ⟨T1, _, rfl, SqT.of upd_same, rfl, _, _, rfl, _, _, rfl, rfl, ?_⟩
      refine ⟨_, rfl, _, rfl, _, rfl, t, p, tx, rr, gg, y1, c, rfl, eHT.seq ht, seq_t eT hp, hca.same eHT, (fun z => ?_), fun r3 g3 z p3 np3 => ?_⟩
      · rw [step_eq q0 q1] at z
        rw [z] at hf
        refine ⟨_, rfl, rfl, _, rfl, iteT ⟨_, rfl, ?_⟩⟩
        refine Err.ask eHT (kf i ?_)
        rw [hf]
        simp
      · rw [step_eq q0 q1] at z
        rw [z] at ha hf
        have e4 : Same (upd H3 T1 (.tup [.int (i : Nat), y1])) (upd (upd H3 T1 (.tup [.int (i : Nat), y1])) p3 (.tup [.int r3, optV g3])) := same_upd (Same.refl _) np3
        obtain ⟨a0, a1⟩ := step_row q0 q1 z
        refine ⟨_, rfl, rfl, _, rfl, iteF ?_⟩
        refine ⟨p3, r3, g3, _, _, rfl, eHT.trans e4, SqT.of upd_same, a0, a1, ha, ?_⟩
        rw [hf, Option.map_map]
        show (failAt tx r3 g3 (cs.drop (i + 1))).map _ = _
        congr 1
        funext n
        show n + 1 + i = n + (i + 1)
        omega
    · obtain ⟨p, rr, gg, v1, v2, rfl, e3, hp, q0, q1, ha, hf⟩ := h
      rw [hcs.len, List.drop_length] at ha
      exact ⟨_, rfl, k rr gg ha _ p e3 hp⟩
end
end Gc

/-! a generator's for loop -/
namespace Gc
open PySem PySem.Spec PyProof.Rows GenW L2
section
variable {X : Cx}
/-- as tFor; the list: what is out so far -/
def tGFor (wi : TI) (g : TG) (tb : TGn) : TGn := fun D ys σ H => wi σ H fun J H1 => ∃ W : Nat → Nat → List V → L2.St → Hp → Prop, (∃ m, W 0 m ys σ H1) ∧ ∀ i m ys σ H, W i m ys σ H →
  (J.stop i H ∧ D.nx ys σ H) ∨ (J.go i H ∧ ∃ N : List V → L2.St → Hp → Prop, (∀ ys' σ' H', N ys' σ' H' → ∃ m', m' < m ∧ W (i + 1) m' ys' σ' H') ∧ ∀ x H', J.yld i H x H' → g x σ H' fun σ2 H2 => tb { D with nx := N, ct := N, bk := D.nx } ys σ2 H2)
theorem gs_for {iter tg : Expr} {body : List Stmt} {wi : TI} {g : TG} {tb : TGn} {pos : Pos} (hp : PassesOwn (model X.prog X.w) X.A X.env X.xe) (hc : X.calm = true) (hi : PI X tg iter wi) (hg : PG X tg g) (hb : GSs X body tb)
    (hs : ∀ x, foldedSetIterable iter X.env x = pure x := by intro _; rfl) : GS X (.For tg iter body [] pos) (tGFor wi g tb) := by
  refine ⟨fun A S ip R n ys s₀ c fs K J gd lv s σ H D gc hn k hI ht => ?_⟩
  rw [exec_For]
  refine seg_bind_wrap (wpAny_standAt ?_)
  obtain ⟨acc, cc, r, I⟩ := hI
  refine seg_bind_wrap ?_
  rw [gc.over]
  refine wpAny_mono (hi.run _ s σ H _ I ht) (fun v s1 h1 => ?_) fun x s' hx => k.exc n s₀ x s' hx
  refine seg_bind_wrap ?_
  rw [gc.over]
  refine wpAny_of_eq (hs v) ?_
  refine seg_bind_wrap (wpAny_standAt ?_)
  refine seg_bind_wrap ?_
  rw [gc.over]
  refine wpAny_holding (wpAny_mono h1 (fun itv s2 h2 => ?_) fun x s' hx => k.exc n s₀ x s' hx)
  obtain ⟨it, fp, tn, It0, H2, e, I2, T, st2, f2, W, ⟨m0, w0⟩, turn⟩ := h2
  subst e
  refine seg_call fun p => ?_
  have gl := fun (kk : Result → Sem PySem.Fin) => gc_loop (k := kk) (c' := .forLoop tg (.ref it) body [] X.env) (l := lv []) (kp := []) (p := p) gc rfl rfl
  have gl2 := fun (kk : Result → Sem PySem.Fin) => gc_loop (k := kk) (c' := .block [] X.env) (l := lv []) (kp := []) (p := p) gc rfl rfl
  have stat : ∀ {acc' : Array Value} {c' : Nat} {H' : Hp}, (∀ b ∈ fp, H' b = none) → ∀ b ∈ fp, FpOk X ((S, lstObj acc' c') :: ip) H' b := fun hn b hb => by
    obtain ⟨f0, f1, f2', f3, f4, f5⟩ := f2 b hb
    refine ⟨hn b hb, f1, f2', f3, f4, fun p hp => ?_⟩
    rcases List.mem_append.mp hp with q | q
    · exact f5 p (List.mem_append_left _ q)
    · rcases List.mem_cons.mp q with q | q
      · rw [q]
        exact f5 (S, lstObj acc cc) (List.mem_append_right _ List.mem_cons_self)
      · exact f5 p (List.mem_append_right _ (List.mem_cons_of_mem _ q))
  have fS : ∀ b ∈ fp, b ≠ S := fun b hb z => (f2 b hb).2.2.2.2.2 (S, lstObj acc cc) (List.mem_append_right _ List.mem_cons_self) z.symm
  have loop : ∀ (m i n : Nat) (ys : List V) (s₀ s : Shared) (σ : L2.St) (H : Hp), n + ys.length = sizeLine → W i m ys σ H → GI X S ip ys σ H s → tn i s.heap → (∀ b ∈ fp, H b = none) →
      Seg (model X.prog X.w) A R (GY X S) n s₀ (.forLoop tg (.ref it) body [] X.env) ((model X.prog X.w).den (.forLoop tg (.ref it) body [] X.env))
        (.ret (fun r => ((match r with | .ok f => (.pure f : Sem Flow) | .error e => .raise e).onRaise (cameBack X.env)).wrap K J gd lv) none (gd false) (lv []) c p [] :: fs) s := by
    intro m
    induction m using Nat.strongRecOn with
    | ind m ih =>
      intro i n ys s₀ s σ H hn w hI hst hfr
      have ee : ∀ (n : Nat) (s₀ : Shared) (x : Value) (s' : Shared), X.xe x s' → Seg (model X.prog X.w) A R (GY X S) n s₀ (.forLoop tg (.ref it) body [] X.env)
          ((do noteFrame x X.env; theTreesLotGoes x : Sem Unit).bind fun _ => .raise x)
          (.ret (fun r => ((match r with | .ok f => (.pure f : Sem Flow) | .error e => .raise e).onRaise (cameBack X.env)).wrap K J gd lv) none (gd false) (lv []) c p [] :: fs) s' := fun n s₀ x s' hx => by
        rw [Sem.bind_eq_wrap]
        refine seg_wrap ?_
        rw [(gl _).over]
        refine wpAny_bind (wpAny_mono (hp x s' hx) (fun _ s'' hcb => wpAny_theTreesLotGoes ?_) fun y s'' hcb => ?_)
        · exact seg_leaf (.error x) (seg_cameBack gc k hcb)
        · exact seg_leaf (.error y) (seg_cameBack gc k hcb)
      show Seg _ _ _ _ _ _ _ ((forTurn tg (.ref it) body [] X.env).onRaise (fun x => do noteFrame x X.env; theTreesLotGoes x)) _ _
      rw [Sem.onRaise_eq_wrap]
      simp only [forTurn]
      refine seg_bind_wrap (wpAny_standAt ?_)
      refine seg_bind_wrap ?_
      rw [(gl _).over]
      obtain ⟨acc, cc, r, I⟩ := hI
      rcases turn i m ys σ H w with ⟨stop, qn⟩ | ⟨go, N, hN, step⟩
      · refine wpAny_onRaise (wpAny_mono (T.done X rfl rfl rfl hc i _ s σ H X.xe I (stat hfr) hst stop) (fun a s4 ⟨ha, I4⟩ => ?_) fun x s4 hx => wpAny_standAt (ee n s₀ x s4 hx))
        subst ha
        refine seg_again rfl ?_
        show Seg _ _ _ _ _ _ _ (((execs [] X.env).onRaise (fun x => do noteFrame x X.env; theTreesLotGoes x)).bind fun f => .pure (.done f)) _ _
        exact seg_leaf (.ok .next) (k.ok n ys s₀ s4 .next hn ⟨σ, H, ⟨acc, cc, r, I4⟩, qn⟩)
      · refine wpAny_onRaise (wpAny_mono (T.item X rfl rfl rfl hc i _ s σ H X.xe I (stat hfr) hst go) (fun a s4 ⟨u, ha, h4⟩ => ?_) fun x s4 hx => wpAny_standAt (ee n s₀ x s4 hx))
        subst ha
        refine seg_bind_wrap ?_
        rw [(gl _).over]
        refine wpAny_mono h4 (fun _ s5 ⟨x, H5, I5, r5, y5, st5, fr5⟩ => ?_) fun x s' hx => ee n s₀ x s' hx
        have I5' := I5.pinned (stat fr5) (T.obj _ _ st5)
        refine seg_bind_wrap ?_
        rw [(gl _).over]
        refine wpAny_mono (hg.run _ s5 σ H5 x u _ I5' r5 (step x H5 y5)) (fun _ s6 ⟨σ6, H6, I6, q6⟩ => ?_) fun x s' hx => ee n s₀ x s' hx
        rw [Sem.bind_eq_wrap', Sem.wrap_wrap]
        have g6 := gl fun (r : Result) => ((match r with | .ok f => (.pure f : Sem Flow) | .error e => .raise e).onRaise (cameBack X.env)).wrap K J gd lv
        have G6 : GI X S (ip ++ pinsAt fp s5.heap) ys σ6 H6 s6 := ⟨acc, cc, r, I6⟩
        have gc6 : GC X S (ip ++ pinsAt fp s5.heap) A (.forLoop tg (.ref it) body [] X.env) _ id := { g6 with ip := fun p hp => (List.mem_append.mp hp).elim (gc.ip p) fun z => fS _ (of_pinsAt z).1 }
        have again : ∀ {n' : Nat} {ys7 : List V} {s₀7 s7 : Shared} {σ7 : L2.St} {H7 : Hp}, n' + ys7.length = sizeLine → GI X S (ip ++ pinsAt fp s5.heap) ys7 σ7 H7 s7 → N ys7 σ7 H7 →
            Seg (model X.prog X.w) A R (GY X S) n' s₀7 (.forLoop tg (.ref it) body [] X.env) (.pure (.again (.forLoop tg (.ref it) body [] X.env)))
              (.ret (fun r => ((match r with | .ok f => (.pure f : Sem Flow) | .error e => .raise e).onRaise (cameBack X.env)).wrap K J gd lv) none (gd false) (lv []) c p [] :: fs) s7 := fun {n' ys7 s₀7 s7 σ7 H7} hn7 G7 n7 => by
          obtain ⟨m', hm, w7⟩ := hN _ _ _ n7
          obtain ⟨acc7, cc7, r7, I7⟩ := G7
          have pin7 : ∀ b ∈ fp, ∀ o, s5.heap.get? b = some o → s7.heap.get? b = some o ∧ H7 b = none := fun b hb o e => by
            obtain ⟨z1, z2, _⟩ := I7.pin (b, o) (List.mem_append_right _ (List.mem_cons_of_mem _ (List.mem_append_right _ (mem_pinsAt hb e))))
            exact ⟨z1, z2⟩
          refine seg_again rfl (ih m' hm (i + 1) n' ys7 s₀7 s7 σ7 H7 hn7 w7 ⟨acc7, cc7, r7, I7.pins_of fun p hp => I7.pin p ?_⟩ (T.keep _ _ _ st5 fun b hb o e => (pin7 b hb o e).1) fun b hb => ?_)
          · rcases List.mem_append.mp (show p ∈ X.pn ++ ((S, lstObj acc7 cc7) :: ip) by first | exact List.mem_append_right _ hp | exact hp) with q | q
            · exact List.mem_append_left _ q
            · rcases List.mem_cons.mp q with q | q
              · exact List.mem_append_right _ (q ▸ List.mem_cons_self)
              · exact List.mem_append_right _ (List.mem_cons_of_mem _ (List.mem_append_left _ q))
          · obtain ⟨o, e, d⟩ := T.obj _ _ st5 b hb
            exact (pin7 b hb o e).2
        refine hb.run A S _ R n ys s₀ _ _ _ _ id id s6 σ6 H6 { D with nx := N, ct := N, bk := D.nx } gc6 hn ⟨fun n' ys' s₀' s3 f hn' hs => ?_, fun n' s₀' x s3 hx => ee n' s₀' x s3 hx⟩ G6 q6
        have un : ∀ {ys' : List V} {σ3 : L2.St} {H3 : Hp}, GI X S (ip ++ pinsAt fp s5.heap) ys' σ3 H3 s3 → GI X S ip ys' σ3 H3 s3 := fun {ys' σ3 H3} G3 => by
          obtain ⟨acc7, cc7, r7, I7⟩ := G3
          refine ⟨acc7, cc7, r7, I7.pins_of fun p hp => I7.pin p ?_⟩
          rcases List.mem_append.mp (show p ∈ X.pn ++ ((S, lstObj acc7 cc7) :: ip) by first | exact List.mem_append_right _ hp | exact hp) with q | q
          · exact List.mem_append_left _ q
          · rcases List.mem_cons.mp q with q | q
            · exact List.mem_append_right _ (q ▸ List.mem_cons_self)
            · exact List.mem_append_right _ (List.mem_cons_of_mem _ (List.mem_append_left _ q))
        cases f with
        | next =>
          obtain ⟨σ3, H3, I3, n3⟩ := hs
          exact again hn' I3 n3
        | cont =>
          obtain ⟨σ3, H3, I3, n3⟩ := hs
          exact again hn' I3 n3
        | brk =>
          obtain ⟨σ3, H3, I3, n3⟩ := hs
          exact seg_leaf (.ok .next) (k.ok n' ys' s₀' s3 .next hn' ⟨σ3, H3, un I3, n3⟩)
        | ret v =>
          obtain ⟨x, σ3, H3, I3, r3, n3⟩ := hs
          exact seg_leaf (.ok (.ret v)) (k.ok n' ys' s₀' s3 (.ret v) hn' ⟨x, σ3, H3, un I3, r3, n3⟩)
  exact loop m0 0 n ys s₀ s2 σ H2 hn w0 ⟨acc, cc, r, I2⟩ st2 fun b hb => (f2 b hb).1
end
/-- the turns of a generator's for over a walk -/
theorem gfor_it {J : It} {n : Nat} {G : Hp → Prop} {Y : Nat → Hp → V → Hp → Prop} (w : Walk J n G Y) {g : TG} {tb : TGn} {D : GEnds} {ys : List V} {σ : L2.St} {H : Hp} (Pv : Nat → List V → L2.St → Hp → Prop) (h0 : Pv 0 ys σ H) (hG : ∀ i ys σ H, i ≤ n → Pv i ys σ H → G H)
    (hs : ∀ i x ys σ H H', i < n → Pv i ys σ H → Y i H x H' → g x σ H' fun σ2 H2 => tb { D with nx := Pv (i + 1), ct := Pv (i + 1), bk := D.nx } ys σ2 H2) (hd : ∀ ys σ H, Pv n ys σ H → D.nx ys σ H) :
    ∃ W : Nat → Nat → List V → L2.St → Hp → Prop, (∃ m, W 0 m ys σ H) ∧ ∀ i m ys σ H, W i m ys σ H →
      (J.stop i H ∧ D.nx ys σ H) ∨ (J.go i H ∧ ∃ N : List V → L2.St → Hp → Prop, (∀ ys' σ' H', N ys' σ' H' → ∃ m', m' < m ∧ W (i + 1) m' ys' σ' H') ∧ ∀ x H', J.yld i H x H' → g x σ H' fun σ2 H2 => tb { D with nx := N, ct := N, bk := D.nx } ys σ2 H2) := by
  refine ⟨fun i m ys σ H => m = n - i ∧ i ≤ n ∧ Pv i ys σ H, ⟨n, by simp, Nat.zero_le _, h0⟩, ?_⟩
  rintro i m ys σ H ⟨rfl, hi, p⟩
  have q := hG i ys σ H hi p
  by_cases hlt : i < n
  · exact .inr ⟨w.goes i H hlt q, Pv (i + 1), fun ys' σ' H' p' => ⟨n - (i + 1), by omega, rfl, hlt, p'⟩, fun x H' y => hs i x ys σ H H' hlt p (w.yields i H x H' hlt q y)⟩
  · have e : i = n := by omega
    subst e
    exact .inl ⟨w.stops H q, hd ys σ H p⟩
end Gc

/-! calls by names alone, the names in the other order: f(b=.., a=..) of def f(a, b) -/
namespace Gc
open PySem PySem.Spec PyProof.Rows L2
def gRev {α : Type} (us ws : List α) : List α := us ++ ws.reverse
theorem vals_rev : ∀ {vs : List V} {us : List Value}, Vals vs us → Vals vs.reverse us.reverse
  | _, _, .nil => .nil
  | v :: vs, u :: us, .cons h t => by
    rw [List.reverse_cons, List.reverse_cons]
    exact (vals_rev t).append (.cons h .nil)
structure CalK (P : Program) (w : World) (K : PySem.W.Frag) (mg : Str → Option Value) (base : Heap) (k : Nat) (x : Str) (ks : List Str) (sp : Sp) : Prop where
  ex : ∃ (f : Addr) (fd : FuncData) (ps : List Str), FnOk P w K mg base CX0 k f fd ps sp ∧ mg x = some (.ref f) ∧ PySem.W.keepIn K (.ref f) = true ∧ KBinds K fd ps ks gRev gRev
/-- how it binds: h is «fun _ _ _ _ _ _ us ws hl => match us, ws, hl with | [], [_, _], _ => rfl | [_], [_], _ => rfl | [_, _], [], _ => rfl» -/
theorem bindsK {K : PySem.W.Frag} {x qual : Str} {st : Stmt} {f : Addr} {fd : FuncData} {ps ks : List Str} (F : Fun K x qual st f fd)
    (h : ∀ (kV doc pm : Value) (an : Option Addr) (cdv ct : Value) (us ws : List Value), (gRev us ws).length = ps.length → bindArgs (PySem.W.fnOf x qual (defArgs st) (defBody st) (defScope st) .none kV doc pm an cdv ct) ⟨us, ks.zip ws⟩ = pure (ps.zip (gRev us ws))) : KBinds K fd ps ks gRev gRev := by
  obtain ⟨oc, od, kV, doc, pm, an, cdv, ct, osl, rfl, lk, hcd⟩ := F.ex
  exact ⟨fun s us ws _ hl => .of_eq (h kV doc pm an cdv ct us ws hl), fun a b => a.append (vals_rev b)⟩
theorem pe_calK {X : Cx} {k j : Nat} {x : Str} {ks : List Str} {sp : Sp} {p pos : Pos} {kws : List Keyword} {tk : TA} (c : CalK X.prog X.w X.K X.mg X.base k x ks sp) (hr : Room j X.A) (hk : k ≤ j) (hg : Gl X x) (hkw : PK X kws tk)
    (hdb : (x == ("__debug__" : Str)) = false := by decide) (hall : (backToKw pos (keywordEach kws X.env)).all (·.1.isSome) = true := by rfl) (hks : (backToKw pos (keywordEach kws X.env)).filterMap (·.1) = ks := by rfl)
    (hpn : ((backTo pos (starEach [] X.env)).any (·.1) || (backToKw pos (keywordEach kws X.env)).any (·.1.isNone)) = false := by rfl) :
    PE X (.Call (.Name x p) [] kws pos) (tCallK sp gRev E0 tNil tk) := by
  obtain ⟨f, fd, ps, F, hm, kp, b⟩ := c.ex
  refine ⟨fun pins s σ H Q I h => ?_⟩
  refine wpAny_Call_Name_kw (ld_glob I hg hm ?_ hdb)
  refine PySem.W.callWith_KW0 (h₀ := X.base) I.ok.mod.kin kp hall ?_ hpn
  refine thn (hkw.run pos pins s σ H _ I h) fun ws s1 ⟨zs, H1, I1, rz, q⟩ => ⟨I1.kIn, ?_⟩
  rw [hks]
  exact run_fnk (us := []) (vs := []) F (hr.mono hk) b pass0 I1 .nil rz q
end Gc

/-! generator defs: their rule, list(g(..)) -/
namespace Gc
open PySem PySem.Spec PyProof.Rows GenW L2
/-- a generator def, by its body -/
theorem gen_ok {P : Program} {w : World} {K : PySem.W.Frag} {mg : Str → Option Value} {base : Heap} {x qual : Str} {st : Stmt} {f : Addr} {fd : FuncData} {N ps : List Str} {k : Nat} {sp : SpG} (F : L2.Fun K x qual st f fd) (S : GScope N ps (defScope st)) (len : ∀ vs H Q E, sp vs H Q E → vs.length = ps.length)
    (hbody : ∀ (cdv : Value) (A : Around) (outer : List Env) (s : Shared) (H : Hp) (vs : List V) (Q : List V → Hp → Prop) (E : XK) (pn : List (Addr × Obj)), Room k (A.deeper (envOfC qual (defScope st) s.heap.objs.size f cdv)) → sp vs H Q E →
      ∃ t, GSs (gcxOf P w K mg base N qual (defScope st) f cdv A outer s H E pn) (defBody st) t ∧ t { nx := fun ys _ H' => Q ys H', rt := fun ys v H' => v = .non ∧ Q ys H' } [] (start N vs) H) : GFn P w K mg base (k + 1) f fd ps sp := by
  obtain ⟨oc, od, kV, doc, pm, an, cdv, ct, osl, rfl, lk, hcd⟩ := F.ex
  exact gfn_of lk hcd S len fun A outer s H vs Q E pn hr hsp => hbody cdv A outer s H vs Q E pn hr hsp
structure GCal (P : Program) (w : World) (K : PySem.W.Frag) (mg : Str → Option Value) (base : Heap) (k : Nat) (x : Str) (sp : SpG) : Prop where
  ex : ∃ (f : Addr) (fd : FuncData) (ps : List Str), GFn P w K mg base k f fd ps sp ∧ mg x = some (.ref f) ∧ PySem.W.keepIn K (.ref f) = true ∧ Binds K fd ps []
theorem gfn_mono {P : Program} {w : World} {K : PySem.W.Frag} {mg : Str → Option Value} {base : Heap} {j k : Nat} {f : Addr} {fd : FuncData} {ps : List Str} {sp : SpG} (F : GFn P w K mg base k f fd ps sp) : GFn P w K mg base k f fd ps sp := F
theorem noStop0 {K : PySem.W.Frag} : NoStop K E0 := fun _ _ _ h => h.elim
theorem passE0 {X : Cx} : Passes (CX X.prog X.w) X E0 := fun _ _ _ _ _ _ _ ⟨_, _, _, _, _, _, _, _, _, _, _, _, h⟩ => h.elim
section
variable {X : Cx} {k : Nat} {x : Str} {sp : SpG} {p p0 pos pos' : Pos} {e : Expr} {es : List Expr} {t : TA}
/-- list(g(..)), where nothing is raised -/
theorem pe_listGC (c : GCal X.prog X.w X.K X.mg X.base k x sp) (hr : Room (k + 3) X.A) (hg : Gl X x) (ha : PA X (e :: es) t) (hgl : Gl X "list") (hml : X.mg "list" = none)
    (hdb : (x == ("__debug__" : Str)) = false := by decide) (he : starEach (e :: es) X.env = (false, eval e X.env) :: starEach es X.env := by rfl) (hpl : (backTo pos' (starEach es X.env)).any (·.1) = false := by rfl)
    (he2 : starEach [.Call (.Name x p) (e :: es) [] pos'] X.env = (false, eval (.Call (.Name x p) (e :: es) [] pos') X.env) :: starEach [] X.env := by rfl) :
    PE X (.Call (.Name "list" p0) [.Call (.Name x p) (e :: es) [] pos'] [] pos) (tListG (tCallG sp [] E0 t)) := by
  obtain ⟨f, fd, ps, F, hm, kp, b⟩ := c.ex
  exact pe_listG (pgen_call F (hr.mono (by omega)) hg hm kp b .nil ha hdb he hpl) passE0 noStop0 hr hgl hml (by decide +kernel) (by decide) (by decide) he2
end
structure GCalK (P : Program) (w : World) (K : PySem.W.Frag) (mg : Str → Option Value) (base : Heap) (k : Nat) (x : Str) (ks : List Str) (sp : SpG) : Prop where
  ex : ∃ (f : Addr) (fd : FuncData) (ps : List Str), GFn P w K mg base k f fd ps sp ∧ mg x = some (.ref f) ∧ PySem.W.keepIn K (.ref f) = true ∧ KBinds K fd ps ks gRev gRev
def tCallGK (sp : SpG) (E : XK) (tk : TA) : TGen := fun σ H cont => tk σ H fun zs H2 => sp (gRev [] zs) H2 cont E
section
variable {X : Cx} {k : Nat} {x : Str} {ks : List Str} {sp : SpG} {p p0 pos pos' : Pos} {kws : List Keyword} {tk : TA}
theorem pgen_callK {E : XK} (c : GCalK X.prog X.w X.K X.mg X.base k x ks sp) (hr : Room k X.A) (hg : Gl X x) (hkw : PK X kws tk)
    (hdb : (x == ("__debug__" : Str)) = false := by decide) (hall : (backToKw pos (keywordEach kws X.env)).all (·.1.isSome) = true := by rfl) (hks : (backToKw pos (keywordEach kws X.env)).filterMap (·.1) = ks := by rfl)
    (hpn : ((backTo pos (starEach [] X.env)).any (·.1) || (backToKw pos (keywordEach kws X.env)).any (·.1.isNone)) = false := by rfl) :
    PGen X k (.Call (.Name x p) [] kws pos) (tCallGK sp E tk) E := by
  obtain ⟨f, fd, ps, F, hm, kp, b⟩ := c.ex
  refine ⟨fun pins s σ H cont I h => ?_⟩
  refine wpAny_Call_Name_kw (ld_glob I hg hm ?_ hdb)
  refine PySem.W.callWith_KW0 (h₀ := X.base) I.ok.mod.kin kp hall ?_ hpn
  refine thn (hkw.run pos pins s σ H _ I h) fun ws s1 ⟨zs, H1, I1, rz, q⟩ => ⟨I1.kIn, ?_⟩
  rw [hks]
  have r2 := b.rel (us := []) (vs := []) .nil rz
  have hl : (gRev [] ws).length = ps.length := by rw [← r2.length]; exact F.len _ _ _ _ q
  refine wpAny_call (codeAny_mono (F.run X.A X.stack s1 H1 ⟨[], ks.zip ws⟩ (gRev [] ws) (gRev [] zs) cont E hr I1.env0 (b.to s1 [] ws I1.kIn hl) r2 q) fun r s' hq => ?_)
  cases r with
  | error e => exact False.elim hq
  | ok fl =>
    cases fl with
    | ret u => exact ⟨H1, s1, [], I1, .nil, hq⟩
    | next => exact False.elim hq
    | brk => exact False.elim hq
    | cont => exact False.elim hq
theorem pe_listGK (c : GCalK X.prog X.w X.K X.mg X.base k x ks sp) (hr : Room (k + 3) X.A) (hg : Gl X x) (hkw : PK X kws tk) (hgl : Gl X "list") (hml : X.mg "list" = none)
    (hdb : (x == ("__debug__" : Str)) = false := by decide) (hall : (backToKw pos' (keywordEach kws X.env)).all (·.1.isSome) = true := by rfl) (hks : (backToKw pos' (keywordEach kws X.env)).filterMap (·.1) = ks := by rfl)
    (hpn : ((backTo pos' (starEach [] X.env)).any (·.1) || (backToKw pos' (keywordEach kws X.env)).any (·.1.isNone)) = false := by rfl)
    (he2 : starEach [.Call (.Name x p) [] kws pos'] X.env = (false, eval (.Call (.Name x p) [] kws pos') X.env) :: starEach [] X.env := by rfl) :
    PE X (.Call (.Name "list" p0) [.Call (.Name x p) [] kws pos'] [] pos) (tListG (tCallGK sp E0 tk)) :=
  pe_listG (pgen_callK c (hr.mono (by omega)) hg hkw hdb hall hks hpn) passE0 noStop0 hr hgl hml (by decide +kernel) (by decide) (by decide) he2
end
end Gc

/-! places: a generator -/
namespace Gc
open PySem L2
abbrev s_places : Stmt := top 17
/-- where the commands lead, one by one -/
def trailL (T : List Int) : Int → Option Int → List Cmd → List (Int × Option Int)
  | _, _, [] => []
  | r, g, c :: cs => match step1 T r g c with
    | none => []
    | some q => q :: trailL T q.1 q.2 cs
theorem trail_step {T : List Int} {r : Int} {g : Option Int} {c : Cmd} {cs : List Cmd} {q : Int × Option Int} (h : step1 T r g c = some q) : trailL T r g (c :: cs) = q :: trailL T q.1 q.2 cs := by
  show (match step1 T r g c with | none => [] | some q => q :: trailL T q.1 q.2 cs) = _
  rw [h]
def SpotAt (K : PySem.W.Frag) (H : Hp) (v : V) (q : Int × Option Int) : Prop := ∃ p, v = .ref p ∧ SqT K H p [.int q.1, optV q.2]
def SpotsOf (K : PySem.W.Frag) (H : Hp) (vs : List V) (qs : List (Int × Option Int)) : Prop := Paired (SpotAt K H) vs qs
theorem SpotsOf.same {K : PySem.W.Frag} {H H' : Hp} {vs : List V} {qs : List (Int × Option Int)} (h : SpotsOf K H vs qs) (e : Same H H') : SpotsOf K H' vs qs := Paired.mapP h fun _ _ ⟨p, z, q⟩ => ⟨p, z, seq_t e q⟩
theorem SpotsOf.len {K : PySem.W.Frag} {H : Hp} : ∀ {vs : List V} {qs : List (Int × Option Int)}, SpotsOf K H vs qs → vs.length = qs.length
  | _, _, .nil => rfl
  | _, _, .cons _ t => congrArg (· + 1) (SpotsOf.len t)
theorem trail_len {T : List Int} : ∀ {cs : List Cmd} {r : Int} {g : Option Int}, (trailL T r g cs).length ≤ cs.length
  | [], _, _ => Nat.le_refl _
  | c :: cs, r, g => by
    unfold trailL
    cases step1 T r g c with
    | none => exact Nat.zero_le _
    | some q => exact Nat.succ_le_succ trail_len
/-- places of valid arguments that are possible -/
def spPlaces (K : PySem.W.Frag) : SpG := fun vs H Q _ => ∃ (t b l : Addr) (T : List Int) (r : Int) (g : Option Int) (xs : List V) (cs : List Cmd) (r' : Int) (g' : Option Int), vs = [.ref t, .ref b, .ref l] ∧ SqL K H t (T.map V.int) ∧ SqT K H b [.int r, optV g] ∧ SqL K H l xs ∧ CmdsOf K H xs cs ∧
  (∀ x ∈ T, 0 ≤ x) ∧ 0 ≤ r ∧ r < T.length ∧ ge g 0 ∧ AllOk cs ∧ cs.length ≤ 10000 ∧ afterL T r g cs = some (r', g') ∧ ∀ (H' : Hp) (ys : List V), Same H H' → SpotsOf K H' ys ((r, g) :: trailL T r g cs) → Q ys H'
section
variable {P : Program} {w : World} {K : PySem.W.Frag} {mg : Str → Option Value} {base : Heap}
theorem sc_places : GScope ["text", "cursor", "commands", "place", "command"] ["text", "cursor", "commands"] (defScope s_places) := ⟨rfl, rfl, rfl, by decide +kernel, rfl, by decide +kernel, by decide +kernel⟩
theorem ok_places {f : Addr} {fd : FuncData} (F : Fun K "places" "places" s_places f fd) (c_run : Cal P w K mg base 4 "run" (spRun K)) (c_moved : Cal P w K mg base 3 "moved" (spMoved K)) : GFn P w K mg base 5 f fd ["text", "cursor", "commands"] (spPlaces K) := by
  refine gen_ok F sc_places (fun vs H Q E h => ?_) (fun cdv A outer s H vs Q E pn hr h => ?_)
  · obtain ⟨t, b, l, T, r, g, xs, cs, r', g', rfl, _⟩ := h
    rfl
  · obtain ⟨t, b, l, tx, r, g, xs, cs, r', g', rfl, ht, hb, hl, hcs, nn, r0, r1, g0, ok, ln, hrun, k⟩ := h
    refine ⟨_, (gss_cons (gs_ps (ps_expr (pe_cal c_run hr (by decide) (by rfl) (pa_cons (pv 0) (pa_cons (pv 1) (pa_cons (pv 2) pa_nil))))))
      (gss_cons (gs_ps (ps_set (i := 3) sc_places.nd rfl (Or.inl rfl) (pv 1)))
      (gss_cons (gs_yield (pv 3))
      (gss_cons (gs_for owns_gcx rfl (pi_list (pv 2)) (pg_name (i := 4) sc_places.nd rfl (Or.inl rfl)) (gss_cons (gs_ps (ps_set (i := 3) sc_places.nd rfl (Or.inl rfl) (pe_cal c_moved hr (by decide) (by rfl) (pa_cons (pv 0) (pa_cons (pv 3) (pa_cons (pv 4) pa_nil))))))
      (gss_cons (gs_yield (pv 3))
      gss_nil)))
      gss_nil)))), ?_⟩
    refine ⟨_, rfl, _, rfl, _, rfl, t, b, l, tx, r, g, xs, cs, r', g', rfl, ht, hb, hl, hcs, nn, r0, r1, g0, ok, ln, hrun, fun H1 p1 e1 _ => ?_⟩
    refine ⟨_, rfl, ?_⟩
    refine ⟨Nat.zero_lt_of_lt (lt_line (n := 1) (by decide)), _, rfl, ?_⟩
    refine ⟨_, rfl, l, rfl, ⟨_, e1.seq hl⟩, ?_⟩
    refine gfor_it (walk_list (K := K) (a := l) (xs := xs)) (fun i ys σ H' => ∃ (p : Addr) (rr : Int) (gg : Option Int) (v4 : Option V) (qs : List (Int × Option Int)), σ = [some (.ref t), some (.ref b), some (.ref l), some (.ref p), v4] ∧ Same H H' ∧ SqT K H' p [.int rr, optV gg] ∧ 0 ≤ rr ∧ rr < tx.length ∧
        afterL tx rr gg (cs.drop i) = some (r', g') ∧ SpotsOf K H' ys qs ∧ qs.length = i + 1 ∧ (r, g) :: trailL tx r g cs = qs ++ trailL tx rr gg (cs.drop i))
      ⟨b, r, g, none, [(r, g)], rfl, e1, seq_t e1 hb, r0, r1, hrun, .cons ⟨b, rfl, seq_t e1 hb⟩ .nil, rfl, rfl⟩ (fun i ys σ H' _ ⟨_, _, _, _, _, _, e, _⟩ => e.seq hl) (fun i x ys σ H2 H3 hi h y => ?_) (fun ys σ H2 h => ?_)
    · obtain ⟨p, rr, gg, v4, qs, rfl, e, hp, q0, q1, hgo, hys, hq, htr⟩ := h
      obtain ⟨rfl, ex⟩ := y
      obtain ⟨c, hc, hca⟩ := paired_at hcs ex
      have hdrop : cs.drop i = c :: cs.drop (i + 1) := by
        obtain ⟨h1, h2⟩ := List.getElem?_eq_some_iff.mp hc
        rw [List.drop_eq_getElem_cons h1, h2]
      rw [hdrop, afterL_cons q0 q1] at hgo
      obtain ⟨⟨r2, g2⟩, hst, hrest⟩ := Option.bind_eq_some_iff.mp hgo
      have hin := step1_in hst
      rw [hdrop, trail_step hst] at htr
      refine ⟨_, rfl, _, rfl, _, rfl, t, p, tx, rr, gg, x, c, rfl, e.seq ht, hp, hca.same e, (fun z => by rw [hst] at z; cases z), fun r3 g3 z p3 np3 => ?_⟩
      rw [hst] at z
      cases z
      have e4 := new_same (o := HO.tup [.int r2, optV g2]) np3
      have yl := SpotsOf.len hys
      have xl := hcs.len
      refine ⟨lt_line (by omega), _, rfl, ?_⟩
      refine ⟨p3, r2, g2, _, qs ++ [(r2, g2)], rfl, e.trans e4, SqT.of upd_same, hin.1, hin.2, hrest, ?_, by rw [List.length_append, hq]; rfl, ?_⟩
      · exact paired_app (hys.same e4) (.cons ⟨p3, rfl, SqT.of upd_same⟩ .nil)
      · rw [htr]
        simp
    · obtain ⟨p, rr, gg, v4, qs, rfl, e, hp, q0, q1, hgo, hys, hq, htr⟩ := h
      rw [hcs.len, List.drop_length] at htr
      have hq2 : (r, g) :: trailL tx r g cs = qs := by rw [htr]; exact List.append_nil qs
      refine k _ ys e ?_
      rw [hq2]
      exact hys
end
end Gc

/-! list(g(..)) where the generator may raise ahead of its first value -/
namespace Gc
open PySem PySem.Spec PyProof.Rows GenW L2
/-- the errors of E that end no iterator -/
def EN (K : PySem.W.Frag) (E : XK) : XK := fun cls d H => PySem.W.subIn K cls (.type "StopIteration") = some false ∧ E cls d H
theorem en_stop {K : PySem.W.Frag} {E : XK} : NoStop K (EN K E) := fun _ _ _ h => h.1
def tListGX (K : PySem.W.Frag) (W : WX) (tg : XK → TGen) : TE := fun σ H Q => tListG (tg (EN K (WE W σ))) σ H Q
section
variable {X : Cx} {k : Nat} {W : WX} {tg : XK → TGen} {e : Expr} {nm : Str} {p pos : Pos}
theorem pe_listX (h : ∀ E, PGen X k e (tg E) E) (tk : Takes X W) (hr : Room (k + 3) X.A) (hg : Gl X nm) (hmg : X.mg nm = none) (hv : bootBuiltins nm = some (.type "list")) (hnm : nm ≠ "__name__" := by decide) (hdb : (nm == ("__debug__" : Str)) = false := by decide)
    (he : starEach [e] X.env = (false, eval e X.env) :: starEach [] X.env := by rfl) : PE X (.Call (.Name nm p) [e] [] pos) (tListGX X.K W tg) := by
  constructor
  intro pins s σ H Q I hq
  apply wpAny_Call_Name_kw
  apply ld_blt I hg hmg hv _ hnm hdb
  apply PyProof.Rows.callWith_type1 _ he rfl
  rw [he]
  change wpAny _ _ (spliced ((false, eval e X.env) :: backTo pos (starEach [] X.env))) _ _ s
  apply Calls.spliced_cons
  refine thn ((h (EN X.K (WE W σ))).run pins s σ H _ I hq) ?_
  rintro u s1 ⟨H1, sc, ex, I1, hex, made⟩
  apply Calls.spliced_nil
  have size1 : sc.heap.objs.size ≤ s1.heap.objs.size := by
    rcases made with ⟨a, g, c, _, below, above, _⟩
    exact Nat.le_trans below (Nat.le_of_lt above)
  apply call_list_new hr I1.ok.frames made
  · intro S s' acc c H' ys q0 q1 q2 q3 q4 q5 q6 q7 q8 q9
    refine ⟨.ref S, upd H' S (.lst ys), ?_, rfl, q9 S q8⟩
    exact I1.drained (by omega) q3 q1 q2 hex q4 q5 q6 q7 q8
  · intro e s' g c
    have there : X.K.In s'.heap := by
      rcases id c with ⟨a, B, H', cls, d, _, fl, _, ground, _⟩
      apply I1.ok.mod.kin.keeps
      intro b o at_b
      have old := I1.bs b o at_b
      apply fl.1 b o
      apply ground.keep b o old.1 old.2
      intro inF
      rcases List.mem_cons.mp (I1.stkSub b inF) with z | z
      · have l1 := Heap.lt_size at_b
        have l2 := I1.ok.bsz
        have l3 := I1.ok.above
        rw [z] at l1
        have l4 := Nat.lt_of_lt_of_le l1 (Nat.le_trans l2 l3)
        exact absurd l4 (Nat.lt_irrefl _)
      · exact absurd z (I1.ok.nofr at_b)
    refine ⟨notStop_of en_stop there c, ?_⟩
    apply tk
    apply XE.of_call I1 (E := EN X.K (WE W σ)) (fun _ _ _ z => z.2)
    rcases c with ⟨a, B, H', cls, d, z1, fl, z2, ground, z3, z4, z5, z6⟩
    exact ⟨a, B, H', cls, d, z1, fl, z2, ground, z3, z4, allBare_setGen z5 rfl, z6⟩
end
section
variable {X : Cx} {k : Nat} {W : WX} {x : Str} {sp : SpG} {p p0 pos pos' : Pos} {e : Expr} {es : List Expr} {t : TA}
/-- list(g(..)) within a try -/
theorem pe_listGX (tk : Takes X W) (c : GCal X.prog X.w X.K X.mg X.base k x sp) (hr : Room (k + 3) X.A) (hg : Gl X x) (ha : PA X (e :: es) t) (hgl : Gl X "list") (hml : X.mg "list" = none)
    (hdb : (x == ("__debug__" : Str)) = false := by decide) (he : starEach (e :: es) X.env = (false, eval e X.env) :: starEach es X.env := by rfl) (hpl : (backTo pos' (starEach es X.env)).any (·.1) = false := by rfl)
    (he2 : starEach [.Call (.Name x p) (e :: es) [] pos'] X.env = (false, eval (.Call (.Name x p) (e :: es) [] pos') X.env) :: starEach [] X.env := by rfl) :
    PE X (.Call (.Name "list" p0) [.Call (.Name x p) (e :: es) [] pos'] [] pos) (tListGX X.K W fun E => tCallG sp [] E t) := by
  obtain ⟨f, fd, ps, F, hm, kp, b⟩ := c.ex
  exact pe_listX (fun E => pgen_call F (hr.mono (by omega)) hg hm kp b .nil ha hdb he hpl) tk hr hgl hml (by decide +kernel) (by decide) (by decide) he2
end
end Gc

/-! enumerate of a tuple -/
namespace PySem
open Sem (wp)
open AutoSeq1 (wpAny_loadPart')
abbrev tItO (t : Addr) : Obj := ⟨.type "tuple_iterator", none, .fields #[.ref t, .int 0 0], #[]⟩
abbrev tEnO (it : Addr) : Obj := ⟨.type "enumerate", none, .fields #[.none, .bool false, .ref it, rawInt 0, .none, .none], #[]⟩
theorem enumT_new (l : Addr) (ys : Array Value) (n : Nat) (dc : Option Addr) (sl : Array (Option Value)) :
    Meets (Builtin.«enumerate.__new__» ⟨[.type "enumerate", .ref l], []⟩) (fun _ R s =>
      s.heap.get? l = some ⟨.type "tuple", dc, .seq ys n, sl⟩ ∧
        R (.ok (.ret (.ref (s.heap.push (tItO l)).objs.size))) { s with heap := (s.heap.push (tItO l)).push (tEnO s.heap.objs.size) }) := by
  apply Meets.of_wp
  intro prog w A R s hh
  obtain ⟨hp, gs, dp, tok, oo⟩ := s
  obtain ⟨at_l, goal⟩ := hh
  have subE := sub_enumerate
  have isT : Heap.IsTuple (Shared.heap ⟨hp, gs, dp, tok, oo⟩) l ys := ⟨_, at_l, rfl, n, rfl⟩
  wp_walk using wpAny_loadPart' at_l
  apply wpAny_stack_any
  intro st
  apply wpAny_pure
  split
  · rename_i c _ _ _ _ _
    cases (c == Value.type "enumerate")
    all_goals
      wp_walk using wpAny_loadPart' at_l, wpAny_pyIter_tuple isT
      exact ⟨_, rfl, goal⟩
  · wp_walk using wpAny_loadPart' at_l, wpAny_pyIter_tuple isT
    exact ⟨_, rfl, goal⟩
section
variable {prog : Program} {w : World} {A : Around} {E : Value → Shared → Prop} {s : Shared}
theorem enumT_call {l : Addr} {ys : Array Value} {Q : Value → Shared → Prop} (isT : s.heap.IsTuple l ys)
    (goal : ∀ hp, IsEnum hp (s.heap.objs.size + 1) s.heap.objs.size 0 .none → hp.IsTupleIter s.heap.objs.size l 0 → hp.objs.size = s.heap.objs.size + 2 →
      (∀ b o, s.heap.get? b = some o → hp.get? b = some o) → Q (.ref (s.heap.objs.size + 1)) { s with heap := hp }) :
    wpAny (model prog w) A (call (.type "enumerate") [.ref l]) Q E s := by
  obtain ⟨⟨c, dc, dt, sl⟩, at_l, ec, n, ed⟩ := isT
  change c = .type "tuple" at ec
  change dt = .seq ys n at ed
  subst ec ed
  apply callType_new F.called_enumerate (by decide) (F.typeCall_enumerate_1 _) (F.newCall_enumerate_1 _) (fun obj => F.args_object_init_2 obj _) F.entry_enumerate_new (enumT_new l ys n dc sl)
  refine ⟨at_l, ?_⟩
  have sz : (s.heap.push (tItO l)).objs.size = s.heap.objs.size + 1 := Heap.size_push ..
  change _ ∧ _
  rw [sz]
  have isE : IsEnum ((s.heap.push (tItO l)).push (tEnO s.heap.objs.size)) (s.heap.objs.size + 1) s.heap.objs.size 0 .none := by
    have z := Heap.get?_push_size (s.heap.push (tItO l)) (o := tEnO s.heap.objs.size) rfl
    rw [sz] at z
    exact z
  refine ⟨⟨_, isE, rfl⟩, goal _ isE ⟨_, Heap.get?_push_of_some _ (Heap.get?_push_size _ rfl), rfl, rfl⟩ (by rw [Heap.size_push, sz]) ?_⟩
  intro b o z
  exact Heap.get?_push_of_some _ (Heap.get?_push_of_some _ z)
/-- nextOf of a tuple's iterator, an item -/
theorem nextOfT_item {it t : Addr} {i : Nat} {ys : Array Value} {x : Value} {Q : Value → Shared → Prop} (isI : s.heap.IsTupleIter it t i) (isT : s.heap.IsTuple t ys) (at_i : ys[i]? = some x)
    (goal : ∀ hp, hp.IsTupleIter it t (i + 1) → Heap.SameBut it s.heap hp → Q x { s with heap := hp }) :
    wpAny (model prog w) A (Builtin.SmallTypes.nextOf (.ref it)) Q E s := by
  obtain ⟨oi, at_it, ci, di⟩ := id isI
  obtain ⟨ot, at_t, _, nt, dt⟩ := isT
  unfold Builtin.SmallTypes.nextOf
  apply wpAny_bind
  apply wpAny_callSpecial?_slot (name := Str.ofString "__next__") isI.typeIs F.slot_tuple_iterator_next
  refine wpAny_call_entry F.slot_tuple_iterator_next isI.typeIs F.entry_tuple_iterator_next ?_ (F.args_tuple_iterator_next_1 _)
  change wpAny _ _ (field (.ref it) 0 >>= _) _ _ _
  refine wpAny_bind (wpAny_field at_it di (x := .ref t) rfl ?_)
  change wpAny _ _ (if (Value.ref t == Value.none) = true then _ else _) _ _ _
  rw [if_neg (show ¬ (Value.ref t == Value.none) = true from Bool.false_ne_true)]
  change wpAny _ _ (field (.ref it) 1 >>= _) _ _ _
  refine wpAny_bind (wpAny_field at_it di (x := .int i 0) rfl ?_)
  change wpAny _ _ (seqItems? (.ref t) >>= _) _ _ _
  refine wpAny_bind (wpAny_seqItems at_t dt ?_)
  simp only [Int.toNat_natCast, at_i]
  refine wpAny_bind (wpAny_setField at_it di (by simp) (wpAny_pure ⟨x, rfl, wpAny_pure (goal _ ?_ (Heap.SameBut.update ..))⟩))
  refine ⟨_, Heap.get?_update_self _ at_it (Obj.isFreed_of_fields (Obj.data_mapFields di _)), (Obj.cls_mapFields ..).trans ci, ?_⟩
  rw [Obj.data_mapFields di]
  simp [rawInt]
theorem nextOfT_end {it t : Addr} {i : Nat} {ys : Array Value} {Q : Value → Shared → Prop} (calm : A.handled = none) (isI : s.heap.IsTupleIter it t i) (isT : s.heap.IsTuple t ys) (at_i : ys[i]? = none)
    (goal : ∀ hp e, Heap.ExtBut it s.heap hp → (∃ o, hp.get? e = some o ∧ o.cls = .type "StopIteration") → E (.ref e) { s with heap := hp }) :
    wpAny (model prog w) A (Builtin.SmallTypes.nextOf (.ref it)) Q E s := by
  obtain ⟨oi, at_it, ci, di⟩ := id isI
  obtain ⟨ot, at_t, _, nt, dt⟩ := isT
  unfold Builtin.SmallTypes.nextOf
  apply wpAny_bind
  apply wpAny_callSpecial?_slot (name := Str.ofString "__next__") isI.typeIs F.slot_tuple_iterator_next
  refine wpAny_call_entry F.slot_tuple_iterator_next isI.typeIs F.entry_tuple_iterator_next ?_ (F.args_tuple_iterator_next_1 _)
  change wpAny _ _ (field (.ref it) 0 >>= _) _ _ _
  refine wpAny_bind (wpAny_field at_it di (x := .ref t) rfl ?_)
  change wpAny _ _ (if (Value.ref t == Value.none) = true then _ else _) _ _ _
  rw [if_neg (show ¬ (Value.ref t == Value.none) = true from Bool.false_ne_true)]
  change wpAny _ _ (field (.ref it) 1 >>= _) _ _ _
  refine wpAny_bind (wpAny_field at_it di (x := .int i 0) rfl ?_)
  change wpAny _ _ (seqItems? (.ref t) >>= _) _ _ _
  refine wpAny_bind (wpAny_seqItems at_t dt ?_)
  simp only [Int.toNat_natCast, at_i]
  refine wpAny_bind (wpAny_rule (wpAny_bind (wpAny_setField at_it di (by simp) ?_)))
  change wpAny _ _ (newExc (.type "StopIteration") [] >>= _) _ _ _
  apply wpAny_bind
  simp only [newExc, newTuple]
  apply wpAny_bind
  refine wpAny_newObj_type ?_ (by size_fits)
  apply wpAny_bind (m := firstArgMember _ _)
  refine wpAny_of_eq (a := Value.none) (by first | rfl | (simp only [firstArgMember]; rfl)) ?_
  refine wpAny_newObj_type ?_ (by size_fits)
  simp only [raiseNew]
  apply wpAny_bind
  apply wpAny_handled
  rw [show A.in1.handled = none from calm]
  refine wpAny_throw ?_
  exact goal _ _ (((Heap.SameBut.update ..).extBut.push _).push _) ⟨_, Heap.get?_push_size _ rfl, rfl⟩
theorem enumT_item {e it l : Addr} {i : Nat} {ys : Array Value} {x old : Value} {Q : Value → Shared → Prop} (isE : IsEnum s.heap e it i old) (isI : s.heap.IsTupleIter it l i) (isT : s.heap.IsTuple l ys) (at_i : ys[i]? = some x) (ne : e ≠ it)
    (goal : ∀ hp, IsEnumOut hp e it ((i : Int) + 1) x s.heap.objs.size → hp.IsTupleIter it l (i + 1) →
      hp.get? s.heap.objs.size = some ⟨.type "tuple", none, .seq #[.int i s.toks, x], #[]⟩ → hp.objs.size = s.heap.objs.size + 1 →
      (∀ b o, b ≠ e → b ≠ it → s.heap.get? b = some o → hp.get? b = some o) → Q (.ref s.heap.objs.size) { s with heap := hp, toks := s.toks + 1 }) :
    wpAny (model prog w) A (Builtin.«enumerate.__next__» ⟨[.ref e], []⟩) (fun fin s' => ∃ v, fin = .done (.ret v) ∧ Q v s') E s := by
  obtain ⟨h0, gs, dp, tk, oo⟩ := s
  change wpAny _ _ (field (.ref e) 2 >>= _) _ _ _
  refine wpAny_bind (wpAny_field isE rfl (x := .ref it) rfl ?_)
  apply wpAny_bind
  apply nextOfT_item isI isT at_i
  intro h1 isI1 sb1
  change Heap.SameBut it h0 h1 at sb1
  have isE1 : IsEnum h1 e it i old := (sb1.2 e ne).trans isE
  change wpAny _ _ (field (.ref e) 3 >>= _) _ _ (Shared.mk h1 gs dp tk oo)
  refine wpAny_bind (wpAny_field isE1 rfl (x := rawInt i) rfl ?_)
  change wpAny _ _ (field (.ref e) 4 >>= _) _ _ (Shared.mk h1 gs dp tk oo)
  refine wpAny_bind (wpAny_field isE1 rfl (x := .none) rfl ?_)
  change wpAny _ _ (mkInt i >>= _) _ _ (Shared.mk h1 gs dp tk oo)
  apply wpAny_bind
  apply wpAny_mkInt
  change wpAny _ _ (setField (.ref e) 3 (rawInt ((i : Int) + 1)) >>= _) _ _ (Shared.mk h1 gs dp (tk + 1) oo)
  apply wpAny_bind
  apply wpAny_setField_rec isE1 (by simp)
  intro h2 isE2 sb2
  change Heap.SameBut e h1 h2 at sb2
  change IsEnum h2 e it ((i : Int) + 1) old at isE2
  change wpAny _ _ (setField (.ref e) 4 .none >>= _) _ _ (Shared.mk h2 gs dp (tk + 1) oo)
  apply wpAny_bind
  apply wpAny_setField_rec isE2 (by simp)
  intro h3 isE3 sb3
  change Heap.SameBut e h2 h3 at sb3
  change IsEnum h3 e it ((i : Int) + 1) old at isE3
  change wpAny _ _ (newTuple [.int i tk, x] >>= _) _ _ (Shared.mk h3 gs dp (tk + 1) oo)
  apply wpAny_bind
  refine wpAny_newTuple ?_
  have isE4 : IsEnum (h3.push ⟨.type "tuple", none, .seq #[.int i tk, x], #[]⟩) e it ((i : Int) + 1) old := Heap.get?_push_of_some _ isE3
  generalize eh4 : h3.push ⟨.type "tuple", none, .seq #[.int i tk, x], #[]⟩ = h4 at isE4
  have size3 : h3.objs.size = h0.objs.size := by rw [sb3.1, sb2.1, sb1.1]
  have e_old : e < h0.objs.size := Heap.lt_size isE
  have tup4 : h4.get? h0.objs.size = some ⟨.type "tuple", none, .seq #[.int i tk, x], #[]⟩ := by
    rw [← eh4, ← size3]
    exact Heap.get?_push_size _ rfl
  have size4 : h4.objs.size = h0.objs.size + 1 := by rw [← eh4, Heap.size_push, size3]
  have kept4 : ∀ b o, b ≠ e → b ≠ it → h0.get? b = some o → h4.get? b = some o := by
    intro b o b_e b_it at_b
    rw [← eh4]
    exact Heap.get?_push_of_some _ (sb3.extBut b o b_e (sb2.extBut b o b_e (sb1.extBut b o b_it at_b)))
  have isI4 : h4.IsTupleIter it l (i + 1) := by
    rw [← eh4]
    obtain ⟨o, at_o, rest⟩ := (isI1.extBut sb2.extBut ne.symm).extBut sb3.extBut ne.symm
    exact ⟨o, Heap.get?_push_of_some _ at_o, rest⟩
  change wpAny _ _ (Builtin.SmallTypes.ownedTupleIsFree (.ref e) >>= _) _ _ (Shared.mk h4 gs dp (tk + 1) oo)
  rw [size3]
  clear eh4 isE3 sb3 isE2 sb2 isE1 sb1 isI1 size3 h3 h2 h1
  apply wpAny_bind
  unfold Builtin.SmallTypes.ownedTupleIsFree
  refine wpAny_bind (wpAny_field isE4 rfl (x := .none) rfl (wpAny_pure ?_))
  simp only [if_true]
  apply wpAny_bind
  apply wpAny_rule
  refine wpAny_bind (wpAny_field isE4 rfl (x := old) rfl ?_)
  apply wpAny_bind
  apply wpAny_setField_rec isE4 (by simp)
  intro h5 isE5 sb5
  change Heap.SameBut e h4 h5 at sb5
  change IsEnum h5 e it ((i : Int) + 1) x at isE5
  change wpAny _ _ (Builtin.SmallTypes.ownedTupleHandOut (.ref e) (.ref h0.objs.size) >>= _) _ _ (Shared.mk h5 gs dp (tk + 1) oo)
  apply wpAny_bind
  unfold Builtin.SmallTypes.ownedTupleHandOut
  apply wpAny_bind
  apply wpAny_setField_rec isE5 (by simp)
  intro h6 isE6 sb6
  change Heap.SameBut e h5 h6 at sb6
  change IsEnumOut h6 e it ((i : Int) + 1) x h0.objs.size at isE6
  apply wpAny_setField_rec isE6 (by simp)
  intro h7 isE7 sb7
  change Heap.SameBut e h6 h7 at sb7
  change IsEnumOut h7 e it ((i : Int) + 1) x h0.objs.size at isE7
  apply wpAny_bind
  apply wpAny_letGo
  apply wpAny_pure
  refine ⟨_, rfl, goal h7 isE7 ?_ ?_ ?_ ?_⟩
  · exact ((isI4.extBut sb5.extBut ne.symm).extBut sb6.extBut ne.symm).extBut sb7.extBut ne.symm
  · have n1 : h0.objs.size ≠ e := Nat.ne_of_gt e_old
    exact sb7.extBut _ _ n1 (sb6.extBut _ _ n1 (sb5.extBut _ _ n1 tup4))
  · rw [sb7.1, sb6.1, sb5.1, size4]
  · intro b o b_e b_it at_b
    exact sb7.extBut b o b_e (sb6.extBut b o b_e (sb5.extBut b o b_e (kept4 b o b_e b_it at_b)))
theorem enumT_next {e it l : Addr} {i : Nat} {ys : Array Value} {x old : Value} {Q : Option Value → Shared → Prop} (isE : IsEnum s.heap e it i old) (isI : s.heap.IsTupleIter it l i) (isT : s.heap.IsTuple l ys) (at_i : ys[i]? = some x) (ne : e ≠ it)
    (goal : ∀ hp, IsEnumOut hp e it ((i : Int) + 1) x s.heap.objs.size → hp.IsTupleIter it l (i + 1) →
      hp.get? s.heap.objs.size = some ⟨.type "tuple", none, .seq #[.int i s.toks, x], #[]⟩ → hp.objs.size = s.heap.objs.size + 1 →
      (∀ b o, b ≠ e → b ≠ it → s.heap.get? b = some o → hp.get? b = some o) → Q (some (.ref s.heap.objs.size)) { s with heap := hp, toks := s.toks + 1 }) :
    wpAny (model prog w) A (pyNext (.ref e)) Q E s := by
  have ty : s.TypeIs (.ref e) "enumerate" := ⟨_, isE, rfl⟩
  unfold pyNext
  apply wpAny_bind
  apply wpAny_attempt
  apply wpAny_callSpecial?_slot (name := Str.ofString "__next__") ty F.slot_enumerate_next
  refine wpAny_call_entry F.slot_enumerate_next ty F.entry_enumerate_next ?_ (F.args_enumerate_next_1 _)
  exact enumT_item isE isI isT at_i ne fun hp q1 q2 q3 q4 q5 => wpAny_pure (goal hp q1 q2 q3 q4 q5)
theorem enumT_end {e it l : Addr} {i : Nat} {ys : Array Value} {old : Value} {Q : Option Value → Shared → Prop} (calm : A.handled = none) (isE : IsEnum s.heap e it i old) (isI : s.heap.IsTupleIter it l i) (isT : s.heap.IsTuple l ys) (at_i : ys[i]? = none)
    (goal : ∀ hp, Heap.ExtBut it s.heap hp → Q none { s with heap := hp }) : wpAny (model prog w) A (pyNext (.ref e)) Q E s := by
  have ty : s.TypeIs (.ref e) "enumerate" := ⟨_, isE, rfl⟩
  unfold pyNext
  apply wpAny_bind
  apply wpAny_attempt
  apply wpAny_callSpecial?_slot (name := Str.ofString "__next__") ty F.slot_enumerate_next
  refine wpAny_call_entry F.slot_enumerate_next ty F.entry_enumerate_next ?_ (F.args_enumerate_next_1 _)
  change wpAny _ _ (field (.ref e) 2 >>= _) _ _ _
  refine wpAny_bind (wpAny_field isE rfl (x := .ref it) rfl ?_)
  apply wpAny_bind
  refine nextOfT_end (A := A.in1) calm isI isT at_i ?_
  rintro hp x eb ⟨o, at_o, co⟩
  refine wpAny_bind (wpAny_isInstance (T := "StopIteration") (b := true) ⟨o, at_o, co⟩ isSubtype_stop ?_)
  exact wpAny_pure (goal _ eb)
end
end PySem
namespace L2
open PySem PySem.Spec PyProof.Rows
/-- the tuple at a, each item in a new pair -/
def IteT (K : PySem.W.Frag) (a : Addr) : It :=
  ⟨fun i H => ∃ (xs : List V) (x : V), SqT K H a xs ∧ xs[i]? = some x,
    fun i H v H' => ∃ p x, v = .ref p ∧ H p = none ∧ H' = upd H p (.tup [.int (i : Nat), x]) ∧ ∀ xs, SqT K H a xs → xs[i]? = some x,
    fun i H => ∃ xs : List V, SqT K H a xs ∧ xs.length ≤ i⟩
theorem turnT_enum {P : Program} {w : World} {K : PySem.W.Frag} {elts : List Expr} {kk : Nat} {tpos : Pos} (a e it : Addr) :
    Turn P w K (.Tuple elts kk tpos) (IteT K a) [e, it] e (fun i h => (∃ old, IsEnum h e it ((i : Nat) : Int) old) ∧ h.IsTupleIter it a i ∧ e ≠ it) := by
  constructor
  · simp
  · rintro i h ⟨⟨old, he⟩, ⟨o, ho, hc, hd⟩, _⟩ b hb
    rcases (show b = e ∨ b = it by simpa using hb) with z | z
    · rw [z]
      exact ⟨_, he, fun v q => nomatch q⟩
    · rw [z]
      exact ⟨o, ho, fun v q => by rw [hd] at q; cases q⟩
  · rintro i h h' ⟨⟨old, he⟩, hi, hne⟩ k
    exact ⟨⟨old, k e (by simp) _ he⟩, hi.at fun o q => k it (by simp) o q, hne⟩
  · intro X hP hw hK hc i pins s σ H E I hf st hg
    subst hP hw hK
    rcases st with ⟨⟨old, isE⟩, isI, hne⟩
    rcases hg with ⟨xs, x, hq, hx⟩
    rcases I.tuple hq with ⟨its, rv, isT, hz⟩
    rcases rv.get hx with ⟨u, hu, ru⟩
    have el : e < s.heap.objs.size := Heap.lt_size isE
    have il : it < s.heap.objs.size := by
      obtain ⟨_, q, _⟩ := isI
      exact Heap.lt_size q
    refine enumT_next isE isI (show s.heap.IsTuple a its.toArray from isT) (x := u) (by simpa using hu) hne fun h1 out isI1 tup1 size1 kept1 => ?_
    refine ⟨_, rfl, wpAny_letOwnedTupleGo_enum (s := { s with heap := h1, toks := s.toks + 1 }) out fun h2 isE2 sb => ?_⟩
    have tup2 : h2.get? s.heap.objs.size = some ⟨.type "tuple", none, .seq #[.int i s.toks, u], #[]⟩ := (sb.2 _ (Nat.ne_of_gt el)).trans tup1
    have new : ObjOk X.prog X.w (upd H s.heap.objs.size (.tup [.int (i : Nat), x])) h2 s.heap.objs.size (.tup [.int (i : Nat), x]) :=
      ⟨by show 2 ≤ sizeLine; decide, [.int i s.toks, u], .cons ⟨_, rfl⟩ (.cons ru .nil), ⟨_, tup2, rfl, _, rfl⟩⟩
    have I1 : Inv X pins σ (upd H s.heap.objs.size (.tup [.int (i : Nat), x])) { s with heap := h2, toks := s.toks + 1 } := by
      refine I.turnedNew (ch := [e, it]) (fun b ob hb q => ?_) hf (Nat.le_refl _) new
      have b_e : b ≠ e := fun z => hb (by simp [z])
      have b_it : b ≠ it := fun z => hb (by simp [z])
      exact (sb.2 b b_e).trans (kept1 b ob b_e b_it q)
    refine ⟨.ref s.heap.objs.size, _, I1, rfl, ⟨_, x, rfl, I.hok.fresh (Nat.le_refl _), rfl, fun ys hy => by rw [I.tuple_inj hy hq]; exact hx⟩, ⟨⟨u, ?_⟩, isI1.at fun o q => (sb.2 it (Ne.symm hne)).trans q, hne⟩, fun b hb => ?_⟩
    · have z : ((i + 1 : Nat) : Int) = (i : Int) + 1 := by omega
      rw [z]
      exact isE2
    · have old_b : b < s.heap.objs.size := by
        rcases (show b = e ∨ b = it by simpa using hb) with z | z
        · rw [z]; exact el
        · rw [z]; exact il
      rw [upd_ne (Nat.ne_of_lt old_b)]
      exact (hf b hb).1
  · intro X hP hw hK hc i pins s σ H E I hf st hg
    subst hP hw hK
    rcases st with ⟨⟨old, isE⟩, isI, hne⟩
    rcases hg with ⟨xs, hq, hx⟩
    rcases I.tuple hq with ⟨its, rv, isT, hz⟩
    rcases hf it (by simp) with ⟨f0, f1, f2, f3, f4, f5⟩
    have hl := rv.length
    refine enumT_end (I.ok.hd hc) isE isI (show s.heap.IsTuple a its.toArray from isT) (by simp; omega) fun h1 eb => ⟨rfl, ?_⟩
    exact I.turned (t' := s.toks) (fun b o hb q => eb b o hb q) f0 f1 f3 f4 f5
  · rintro A i s Q E ⟨⟨_, isE⟩, _⟩ h
    exact wpAny_pyIter_enum isE h
def iEnumT (K : PySem.W.Frag) (ta : TA) : TI := fun σ H R => ta σ H fun vs H1 => ∃ a xs, vs = [.ref a] ∧ SqT K H1 a xs ∧ R (IteT K a) H1
/-- enumerate(t), t a tuple -/
theorem pi_enumT {X : Cx} {e : Expr} {ta : TA} {p pos tpos : Pos} {elts : List Expr} {kk : Nat} (hg : Gl X "enumerate") (hm : X.mg "enumerate" = none) (ha : PA X [e] ta) (hs : starEach [e] X.env = [(false, eval e X.env)] := by rfl) :
    PI X (.Tuple elts kk tpos) (.Call (.Name "enumerate" p) [e] [] pos) (iEnumT X.K ta) := by
  constructor
  intro pins s σ H R I h
  refine Call_ ?_
  refine ld_blt I hg hm boot_enumerate ?_
  refine PyProof.Rows.callWith_type1 (thn (ha.run pos pins s σ H _ I h) ?_) hs rfl
  rintro us s1 ⟨vs, H1, I1, r1, a, xs, rfl, hq, q⟩
  cases r1 with
  | cons r rr =>
    cases rr
    cases r
    rcases I1.tuple hq with ⟨its, rv, isT, hz⟩
    refine enumT_call (show s1.heap.IsTuple a its.toArray from isT) fun h1 isE isI hsz hk => wpAny_pyIter_enum isE ?_
    have I2 : Inv X pins σ H1 { s1 with heap := h1 } := I1.kept (t' := s1.toks) hk
    refine ⟨s1.heap.objs.size + 1, [s1.heap.objs.size + 1, s1.heap.objs.size], _, _, H1, rfl, I2, turnT_enum a (s1.heap.objs.size + 1) s1.heap.objs.size, ⟨⟨.none, isE⟩, isI, Nat.succ_ne_self _⟩, fun b hb => ?_, q⟩
    have new_b : s1.heap.objs.size ≤ b := by
      rcases (show b = s1.heap.objs.size + 1 ∨ b = s1.heap.objs.size by simpa using hb) with z | z
      · rw [z]; exact Nat.le_add_right _ _
      · rw [z]; exact Nat.le_refl _
    exact I1.fpOk new_b (I1.hok.fresh new_b)
theorem walkT_enum {K : PySem.W.Frag} {a : Addr} {xs : List V} : Walk (IteT K a) xs.length (fun H => SqT K H a xs) (YPair (fun i => some (.int (i : Nat))) (fun i => xs[i]?)) := by
  refine ⟨fun i _ hi q => ⟨xs, xs[i], q, by simp [hi]⟩, fun _ q => ⟨xs, q, Nat.le_refl _⟩, fun i H v H' _ q y => ?_⟩
  obtain ⟨p, x, h1, h2, h3, h4⟩ := y
  exact ⟨p, .int (i : Nat), x, h1, h2, h3, rfl, h4 xs q⟩
end L2

/-! commands in a tuple: checked, run, the places -/
namespace Gc
open PySem L2
def spCheckT (K : PySem.W.Frag) (CM : Addr) : Sp := fun vs H Q E => ∃ (l : Addr) (xs : List V) (rs : List Raw), vs = [.ref l] ∧ SqT K H l xs ∧ RawsOf K H xs rs ∧
  (∀ i, badAt rs = some i → Err E CM (.int (i : Nat)) H) ∧ (badAt rs = none → ∀ H', Same H H' → Q .non H')
def spRunT (K : PySem.W.Frag) (cs : Nat → Addr) : Sp := fun vs H Q E => ∃ (t b l : Addr) (T : List Int) (r : Int) (g : Option Int) (xs : List V) (rs : List Raw), vs = [.ref t, .ref b, .ref l] ∧ SqL K H t (T.map V.int) ∧ SqT K H b [.int r, optV g] ∧ SqT K H l xs ∧ RawsOf K H xs rs ∧
  (∀ x ∈ T, 0 ≤ x) ∧ 0 ≤ r ∧ r < T.length ∧ ge g 0 ∧ rs.length ≤ 10000 ∧ (∀ i, badAt rs = some i → Err E (cs 2) (.int (i : Nat)) H) ∧ (badAt rs = none → ∀ n, failAt T r g (rs.map Raw.cmd) = some n → Err E (cs 3) (.int (n : Nat)) H) ∧
  (badAt rs = none → ∀ r' g', afterL T r g (rs.map Raw.cmd) = some (r', g') → ∀ (H' : Hp) (p : Addr), Same H H' → SqT K H' p [.int r', optV g'] → Q (.ref p) H')
@[irreducible] def zRunT (K : PySem.W.Frag) (cs : Nat → Addr) : Sp := spRunT K cs
theorem zRunT_eq (K : PySem.W.Frag) (cs : Nat → Addr) : zRunT K cs = spRunT K cs := by unfold zRunT; rfl
theorem ask_runT {K : PySem.W.Frag} {cs : Nat → Addr} {H : Hp} {Q : VK} {E : XK} {t b l : Addr} {T : List Int} {r : Int} {g : Option Int} {xs : List V} {rs : List Raw} (ht : SqL K H t (T.map V.int)) (hb : SqT K H b [.int r, optV g]) (hl : SqT K H l xs) (hc : RawsOf K H xs rs)
    (nn : ∀ x ∈ T, 0 ≤ x) (r0 : 0 ≤ r) (r1 : r < T.length) (g0 : ge g 0) (ln : rs.length ≤ 10000) (kb : ∀ i, badAt rs = some i → Err E (cs 2) (.int (i : Nat)) H) (kf : badAt rs = none → ∀ n, failAt T r g (rs.map Raw.cmd) = some n → Err E (cs 3) (.int (n : Nat)) H)
    (k : badAt rs = none → ∀ r' g', afterL T r g (rs.map Raw.cmd) = some (r', g') → ∀ (H' : Hp) (p : Addr), Same H H' → SqT K H' p [.int r', optV g'] → Q (.ref p) H') : zRunT K cs [.ref t, .ref b, .ref l] H Q E := by
  rw [zRunT_eq]
  exact ⟨t, b, l, T, r, g, xs, rs, rfl, ht, hb, hl, hc, nn, r0, r1, g0, ln, kb, kf, k⟩
def spPlacesT (K : PySem.W.Frag) (cs : Nat → Addr) : SpG := fun vs H Q E => ∃ (t b l : Addr) (T : List Int) (r : Int) (g : Option Int) (xs : List V) (rs : List Raw), vs = [.ref t, .ref b, .ref l] ∧ SqL K H t (T.map V.int) ∧ SqT K H b [.int r, optV g] ∧ SqT K H l xs ∧ RawsOf K H xs rs ∧
  (∀ x ∈ T, 0 ≤ x) ∧ 0 ≤ r ∧ r < T.length ∧ ge g 0 ∧ rs.length ≤ 10000 ∧ (∀ i, badAt rs = some i → Err E (cs 2) (.int (i : Nat)) H) ∧ (badAt rs = none → ∀ n, failAt T r g (rs.map Raw.cmd) = some n → Err E (cs 3) (.int (n : Nat)) H) ∧
  ∀ (H' : Hp) (zs : List V), badAt rs = none → failAt T r g (rs.map Raw.cmd) = none → Same H H' → SpotsOf K H' zs (trailL T r g (rs.map Raw.cmd)) → Q (.ref b :: zs) H'
section
variable {P : Program} {w : World} {K : PySem.W.Frag} {mg : Str → Option Value} {base : Heap} {wo wn CM : Addr} {cs : Nat → Addr}
theorem ok_check_commandsT {f : Addr} {fd : FuncData} (F : Fun K "check_commands" "check_commands" s_check_commands f fd) (T : TxtB K mg wo wn) (c_is_command : Cal P w K mg base 2 "is_command" (spIsRaw K))
    (e_InvalidCommand : ErrC P w K mg base "InvalidCommand" CM) : FnOk P w K mg base (L2.CX P w) 3 f fd ["commands"] (spCheckT K CM) := by
  refine F.okX sc_check_commands (fun vs H Q E h => ?_) (fun cdv A outer s H vs Q E hr h => ?_)
  · obtain ⟨l, xs, rs, rfl, _⟩ := h
    rfl
  · obtain ⟨l, xs, rs, rfl, hl, hrs, kb, kg⟩ := h
    refine ⟨_, (pss_one (ps_for (passes_of rfl) rfl (pi_enumT (by rfl) T.enumerate (pa_cons (pv 0) pa_nil)) (pg_tup rfl (pgs_cons (pg_name (i := 1) sc_check_commands.nd rfl (Or.inl rfl)) (pgs_cons (pg_name (i := 2) sc_check_commands.nd rfl (Or.inl rfl)) pgs_nil))) (pss_one (ps_if (pt_not (pt_val (pe_cal c_is_command hr (by decide) (by rfl) (pa_cons (pv 2) pa_nil)))) (pss_one (ps_raiseE rfl e_InvalidCommand hr (by decide) (takes_of rfl rfl rfl rfl) (pv 1) (by rfl))) pss_nil)))), ?_⟩
    refine ⟨_, rfl, l, xs, rfl, hl, for_it (walkT_enum (K := K) (a := l) (xs := xs)) (fun i σ H' => ∃ v1 v2 : Option V, σ = [some (.ref l), v1, v2] ∧ Same H H' ∧ ∀ j r, j < i → rs[j]? = some r → r.good = true)
      ⟨none, none, rfl, Same.refl H, fun j r h => absurd h (Nat.not_lt_zero _)⟩ (fun i σ H' _ ⟨_, _, _, e, _⟩ => seq_t e hl) (fun i x σ H1 H2 hi h y => ?_) (fun σ H1 h => ?_)⟩
    · obtain ⟨v1, v2, rfl, e, gd⟩ := h
      obtain ⟨T1, x1, y1, rfl, nT, rfl, e1, e2⟩ := y
      obtain rfl : V.int (i : Nat) = x1 := Option.some.inj e1
      obtain ⟨r, hr1, hra⟩ := paired_at hrs e2
      have eT : Same H (upd H1 T1 (.tup [.int (i : Nat), y1])) := same_upd e nT
      refine ⟨T1, _, rfl, SqT.of upd_same, rfl, _, _, rfl, _, _, rfl, rfl, ?_⟩
      refine ⟨_, rfl, y1, r, rfl, hra.same eT, _, rfl, ?_⟩
      cases hg : r.good with
      | true =>
        refine iteF ⟨_, _, rfl, eT, fun j r' hj hr' => ?_⟩
        by_cases z : j = i
        · rw [z, hr1] at hr'
          cases hr'
          exact hg
        · exact gd j r' (by omega) hr'
      | false =>
        refine iteT ⟨_, rfl, Err.ask eT ?_⟩
        have := kb i (bad_at hr1 hg gd)
        exact this
    · obtain ⟨v1, v2, rfl, e, gd⟩ := h
      refine kg (bad_none fun j r hj hr' => gd j r ?_ hr') _ e
      rw [Paired.length hrs]
      exact hj
theorem ok_runT {f : Addr} {fd : FuncData} (F : Fun K "run" "run" s_run f fd) (T : TxtB K mg wo wn) (c_check_text : Cal P w K mg base 1 "check_text" (spText K)) (c_check_cursor : Cal P w K mg base 1 "check_cursor" (spCursor K))
    (c_check_commands : CalX P w K mg base 3 "check_commands" (spCheckT K (cs 2))) (c_moved : Cal P w K mg base 3 "moved" (spMoved K)) (e_Impossible : ErrC P w K mg base "Impossible" (cs 3)) : FnOk P w K mg base (L2.CX P w) 4 f fd ["text", "cursor", "commands"] (spRunT K cs) := by
  refine F.okX sc_run (fun vs H Q E h => ?_) (fun cdv A outer s H vs Q E hr h => ?_)
  · obtain ⟨t, b, l, tx, r, g, xs, rs, rfl, _⟩ := h
    rfl
  · obtain ⟨t, b, l, tx, r, g, xs, rs, rfl, ht, hb, hl, hrs, nn, r0, r1, g0, ln, kb, kf, k⟩ := h
    refine ⟨_, (pss_cons (ps_expr (pe_cal c_check_text hr (by decide) (by rfl) (pa_cons (pv 0) pa_nil)))
      (pss_cons (ps_expr (pe_cal c_check_cursor hr (by decide) (by rfl) (pa_cons (pe_callB call_len_seq (by rfl) T.len (by decide +kernel) (pa_cons (pv 0) pa_nil)) (pa_cons (pv 1) pa_nil))))
      (pss_cons (ps_expr (pe_calX (takes_of rfl rfl rfl rfl) c_check_commands hr (by decide) (by rfl) (pa_cons (pv 2) pa_nil)))
      (pss_cons (ps_set (i := 3) sc_run.nd rfl (Or.inl rfl) (pv 1))
      (pss_cons (ps_for (passes_of rfl) rfl (pi_enumT (by rfl) T.enumerate (pa_cons (pv 2) pa_nil)) (pg_tup rfl (pgs_cons (pg_name (i := 4) sc_run.nd rfl (Or.inl rfl)) (pgs_cons (pg_name (i := 5) sc_run.nd rfl (Or.inl rfl)) pgs_nil))) (pss_cons (ps_set (i := 3) sc_run.nd rfl (Or.inl rfl) (pe_cal c_moved hr (by decide) (by rfl) (pa_cons (pv 0) (pa_cons (pv 3) (pa_cons (pv 5) pa_nil)))))
      (pss_one (ps_if (pt_cmpR op_isN (pv 3) pe_non (nomark _)) (pss_one (ps_raiseE rfl e_Impossible hr (by decide) (takes_of rfl rfl rfl rfl) (pv 4) (by rfl))) pss_nil))))
      (pss_one (ps_ret (pv 3)))))))), ?_⟩
    refine ⟨_, rfl, t, tx, rfl, ht, (by intro z; subst z; simp at r1; omega), nn, fun H1 e1 => ?_⟩
    refine ⟨_, rfl, t, _, rfl, .inl (e1.seq ht), _, rfl, (tx.map V.int).length, r, g, b, rfl, seq_t e1 hb, r0, by rw [List.length_map]; exact r1, g0, ?_⟩
    refine ⟨_, rfl, l, xs, rs, rfl, seq_t e1 hl, RawsOf.same e1 hrs, (fun i hi => Err.same e1 (kb i hi)), fun good H2 e2 => ?_⟩
    replace kf := kf good
    replace k := k good
    obtain ⟨hcs, ok⟩ := raws_cmds hrs (bad_good good)
    have ln2 : (rs.map Raw.cmd).length ≤ 10000 := by rw [List.length_map]; exact ln
    generalize rs.map Raw.cmd = cs' at hcs ok kf k ln2
    have e12 := e1.trans e2
    refine ⟨_, rfl, ?_⟩
    refine ⟨_, rfl, l, _, rfl, seq_t e12 hl, for_it (walkT_enum (K := K) (a := l) (xs := xs)) (fun i σ H' => ∃ (p : Addr) (rr : Int) (gg : Option Int) (v1 v2 : Option V), σ = [some (.ref t), some (.ref b), some (.ref l), some (.ref p), v1, v2] ∧ Same H H' ∧ SqT K H' p [.int rr, optV gg] ∧ 0 ≤ rr ∧ rr < tx.length ∧
        afterL tx r g cs' = afterL tx rr gg (cs'.drop i) ∧ failAt tx r g cs' = (failAt tx rr gg (cs'.drop i)).map (· + i))
      ⟨b, r, g, none, none, rfl, e12, seq_t e12 hb, r0, r1, rfl, by rw [List.drop_zero]; simp⟩ (fun i σ H' _ ⟨_, _, _, _, _, _, e, _⟩ => seq_t e hl) (fun i x σ H3 H4 hi h y => ?_) (fun σ H3 h => ?_)⟩
    · obtain ⟨p, rr, gg, v1, v2, rfl, e3, hp, q0, q1, ha, hf⟩ := h
      obtain ⟨T1, x1, y1, rfl, nT, rfl, ex1, ex2⟩ := y
      obtain rfl : V.int (i : Nat) = x1 := Option.some.inj ex1
      obtain ⟨c, hc, hca⟩ := paired_at hcs ex2
      have hdrop : cs'.drop i = c :: cs'.drop (i + 1) := by
        obtain ⟨h1, h2⟩ := List.getElem?_eq_some_iff.mp hc
        rw [List.drop_eq_getElem_cons h1, h2]
      rw [hdrop] at ha hf
      rw [afterL_step] at ha
      rw [fail_step] at hf
      have eT : Same H3 (upd H3 T1 (.tup [.int (i : Nat), y1])) := same_upd (Same.refl _) nT
      have eHT := e3.trans eT
      refine ⟨T1, _, rfl, SqT.of upd_same, rfl, _, _, rfl, _, _, rfl, rfl, ?_⟩
      refine ⟨_, rfl, _, rfl, _, rfl, t, p, tx, rr, gg, y1, c, rfl, eHT.seq ht, seq_t eT hp, hca.same eHT, (fun z => ?_), fun r3 g3 z p3 np3 => ?_⟩
      · rw [step_eq q0 q1] at z
        rw [z] at hf
        refine ⟨_, rfl, rfl, _, rfl, iteT ⟨_, rfl, ?_⟩⟩
        refine Err.ask eHT (kf i ?_)
        rw [hf]
        simp
      · rw [step_eq q0 q1] at z
        rw [z] at ha hf
        have e4 : Same (upd H3 T1 (.tup [.int (i : Nat), y1])) (upd (upd H3 T1 (.tup [.int (i : Nat), y1])) p3 (.tup [.int r3, optV g3])) := same_upd (Same.refl _) np3
        obtain ⟨a0, a1⟩ := step_row q0 q1 z
        refine ⟨_, rfl, rfl, _, rfl, iteF ?_⟩
        refine ⟨p3, r3, g3, _, _, rfl, eHT.trans e4, SqT.of upd_same, a0, a1, ha, ?_⟩
        rw [hf, Option.map_map]
        show (failAt tx r3 g3 (cs'.drop (i + 1))).map _ = _
        congr 1
        funext n
        show n + 1 + i = n + (i + 1)
        omega
    · obtain ⟨p, rr, gg, v1, v2, rfl, e3, hp, q0, q1, ha, hf⟩ := h
      rw [hcs.len, List.drop_length] at ha
      exact ⟨_, rfl, k rr gg ha _ p e3 hp⟩
theorem ok_placesT {f : Addr} {fd : FuncData} (F : Fun K "places" "places" s_places f fd) (c_run : CalX P w K mg base 4 "run" (zRunT K cs)) (c_moved : Cal P w K mg base 3 "moved" (spMoved K)) : GFn P w K mg base 5 f fd ["text", "cursor", "commands"] (spPlacesT K cs) := by
  refine gen_ok F sc_places (fun vs H Q E h => ?_) (fun cdv A outer s H vs Q E pn hr h => ?_)
  · obtain ⟨t, b, l, T, r, g, xs, rs, rfl, _⟩ := h
    rfl
  · obtain ⟨t, b, l, tx, r, g, xs, rs, rfl, ht, hb, hl, hrs, nn, r0, r1, g0, ln, kb, kf, k⟩ := h
    refine ⟨_, (gss_cons (gs_ps (ps_expr (pe_calX takes_gcx c_run hr (by decide) (by rfl) (pa_cons (pv 0) (pa_cons (pv 1) (pa_cons (pv 2) pa_nil))))))
      (gss_cons (gs_ps (ps_set (i := 3) sc_places.nd rfl (Or.inl rfl) (pv 1)))
      (gss_cons (gs_yield (pv 3))
      (gss_cons (gs_for owns_gcx rfl (pi_tup (pv 2)) (pg_name (i := 4) sc_places.nd rfl (Or.inl rfl)) (gss_cons (gs_ps (ps_set (i := 3) sc_places.nd rfl (Or.inl rfl) (pe_cal c_moved hr (by decide) (by rfl) (pa_cons (pv 0) (pa_cons (pv 3) (pa_cons (pv 4) pa_nil))))))
      (gss_cons (gs_yield (pv 3))
      gss_nil)))
      gss_nil)))), ?_⟩
    refine ⟨_, rfl, _, rfl, _, rfl, ask_runT ht hb hl hrs nn r0 r1 g0 ln kb kf fun good r' g' hrun H1 p1 e1 _ => ?_⟩
    obtain ⟨hcs, ok⟩ := raws_cmds hrs (bad_good good)
    have ln2 : (rs.map Raw.cmd).length ≤ 10000 := by rw [List.length_map]; exact ln
    have nof : failAt tx r g (rs.map Raw.cmd) = none := fail_none.mpr (by rw [hrun]; exact fun z => nomatch z)
    replace k := fun H' zs => k H' zs good nof
    generalize rs.map Raw.cmd = cs' at hcs ok hrun nof k ln2
    refine ⟨_, rfl, ?_⟩
    refine ⟨Nat.zero_lt_of_lt (lt_line (n := 1) (by decide)), _, rfl, ?_⟩
    refine ⟨_, rfl, l, rfl, ⟨_, seq_t e1 hl⟩, ?_⟩
    refine gfor_it (walk_tup (K := K) (a := l) (xs := xs)) (fun i ys σ H' => ∃ (p : Addr) (rr : Int) (gg : Option Int) (v4 : Option V) (zs : List V) (qs : List (Int × Option Int)), σ = [some (.ref t), some (.ref b), some (.ref l), some (.ref p), v4] ∧ Same H H' ∧ SqT K H' p [.int rr, optV gg] ∧ 0 ≤ rr ∧ rr < tx.length ∧
        afterL tx rr gg (cs'.drop i) = some (r', g') ∧ ys = .ref b :: zs ∧ SpotsOf K H' zs qs ∧ qs.length = i ∧ trailL tx r g cs' = qs ++ trailL tx rr gg (cs'.drop i))
      ⟨b, r, g, none, [], [], rfl, e1, seq_t e1 hb, r0, r1, hrun, rfl, .nil, rfl, rfl⟩ (fun i ys σ H' _ ⟨_, _, _, _, _, _, _, e, _⟩ => seq_t e hl) (fun i x ys σ H2 H3 hi h y => ?_) (fun ys σ H2 h => ?_)
    · obtain ⟨p, rr, gg, v4, zs, qs, rfl, e, hp, q0, q1, hgo, rfl, hys, hq, htr⟩ := h
      obtain ⟨rfl, ex⟩ := y
      obtain ⟨c, hc, hca⟩ := paired_at hcs ex
      have hdrop : cs'.drop i = c :: cs'.drop (i + 1) := by
        obtain ⟨h1, h2⟩ := List.getElem?_eq_some_iff.mp hc
        rw [List.drop_eq_getElem_cons h1, h2]
      rw [hdrop, afterL_cons q0 q1] at hgo
      obtain ⟨⟨r2, g2⟩, hst, hrest⟩ := Option.bind_eq_some_iff.mp hgo
      have hin := step1_in hst
      rw [hdrop, trail_step hst] at htr
      refine ⟨_, rfl, _, rfl, _, rfl, t, p, tx, rr, gg, x, c, rfl, e.seq ht, hp, hca.same e, (fun z => by rw [hst] at z; cases z), fun r3 g3 z p3 np3 => ?_⟩
      rw [hst] at z
      cases z
      have e4 := new_same (o := HO.tup [.int r2, optV g2]) np3
      have yl := SpotsOf.len hys
      have xl := hcs.len
      refine ⟨lt_line (by rw [List.length_cons]; omega), _, rfl, ?_⟩
      refine ⟨p3, r2, g2, _, zs ++ [.ref p3], qs ++ [(r2, g2)], rfl, e.trans e4, SqT.of upd_same, hin.1, hin.2, hrest, rfl, ?_, by rw [List.length_append, hq]; rfl, ?_⟩
      · exact paired_app (hys.same e4) (.cons ⟨p3, rfl, SqT.of upd_same⟩ .nil)
      · rw [htr]
        simp
    · obtain ⟨p, rr, gg, v4, zs, qs, rfl, e, hp, q0, q1, hgo, rfl, hys, hq, htr⟩ := h
      rw [hcs.len, List.drop_length] at htr
      have hq2 : trailL tx r g cs' = qs := by rw [htr]; exact List.append_nil qs
      refine k _ zs e ?_
      rw [hq2]
      exact hys
end
end Gc

/-! a caught error that is looked at: handed to a def within the except suite, its classes, its field -/
namespace L2
open PySem PySem.Spec PyProof.Rows
/-- what a def promises that is handed the error of the suite: at a, of the class at C, with the dict d -/
structure FnE (P : Program) (w : World) (K : PySem.W.Frag) (mg : Str → Option Value) (base : Heap) (k : Nat) (f : Addr) (fd : FuncData) (ps : List Str) (sp : Addr → Addr → Addr → Sp) : Prop where
  many : ∀ a C d vs H Q E, sp a C d vs H Q E → vs.length = ps.length
  go : ∀ (A : Around) (below : List Env) (s : Shared) (H : Hp) (given : Args) (us : List Value) (vs : List V) (Q : VK) (E : XK) (q : Addr × Obj) (C d : Addr), L2H.RoomH k A → L2H.PinOk below H s q → Zc (.ref C) (some d) q.2 → (∃ ws, q.2.data = .fields ws) →
    Env0 P w K mg base A below s H → BindsTo s fd given (ps.zip us) → Vals vs us → sp q.1 C d vs H Q E → codeAny (model P w) A (.call (.ref f) given) (CR CX0 below P w H s Q E) s
/-- the context that such a def's body runs in -/
abbrev cxE (P : Program) (w : World) (K : PySem.W.Frag) (mg : Str → Option Value) (base : Heap) (N : List Str) (qual : Str) (sc : Scope) (f : Addr) (cd : Value) (A : Around) (below : List Env) (s : Shared) (H : Hp) (E : XK) (q : Addr × Obj) : Cx :=
  L2H.cxH CX0 P w K mg base N qual sc f cd A below s H E q
theorem Fun.okE {P : Program} {w : World} {K : PySem.W.Frag} {mg : Str → Option Value} {base : Heap} {x qual : Str} {st : Stmt} {f : Addr} {fd : FuncData} {N ps : List Str} {k : Nat} {sp : Addr → Addr → Addr → Sp} (F : Fun K x qual st f fd) (S : FnScope N ps (defScope st))
    (many : ∀ a C d vs H Q E, sp a C d vs H Q E → vs.length = ps.length)
    (body : ∀ (cdv : Value) (A : Around) (below : List Env) (s : Shared) (H : Hp) (vs : List V) (Q : VK) (E : XK) (q : Addr × Obj) (C d : Addr), L2H.RoomH k (A.deeper (envOfC qual (defScope st) s.heap.objs.size f cdv)) → Zc (.ref C) (some d) q.2 → (∃ ws, q.2.data = .fields ws) → sp q.1 C d vs H Q E →
      ∃ t, PSs (cxE P w K mg base N qual (defScope st) f cdv A below s H E q) (defBody st) t ∧ t { nx := fun _ H' => Q .non H', rt := Q } (start N vs) H) : FnE P w K mg base (k + 1) f fd ps sp := by
  obtain ⟨oc, od, kV, doc, pm, an, cdv, ct, osl, rfl, lk, code⟩ := F.ex
  refine ⟨many, fun A below s H given us vs Q E q C d room pin hz hf env bnd rel want => ?_⟩
  have size := many _ _ _ _ _ _ _ want
  have inK : K.In s.heap := env.mod.kin.keeps fun b o z => (env.bs b o z).1
  have free : s.heap.NoLimit := env.mod.nolimit.keeps fun b o z => (env.bs b o z).1
  refine codeAny_call_function room.depth (inK _ _ lk) rfl S.co S.gen rfl (PySem.W.codeRec_of inK code) (bnd _ _ _ _ ?_)
  refine wpAny_newFunctionEnv_cells S.kind (fun ⟨n, v⟩ there => (S.par n (List.of_mem_zip there).1).elim .inl fun z => .inr ⟨z, PySem.W.cellsFrom_some _ _ _ (.inl z)⟩) fun env2 same s1 call => ?_
  subst same
  refine ⟨free.keeps call.toInCall.keep, codeAny_func ?_⟩
  obtain ⟨t, holds, ask⟩ := body cdv A below s H vs Q E q C d (room.deeper _) hz hf want
  refine wpAny_mono (holds.run [] s1 (start N vs) H _ (L2H.inv_startH S pin env size rel call) ask) (fun how s2 end_ => ?_) fun e s2 end_ => end_
  cases how with
  | ret u =>
    obtain ⟨v, τ, G, J, rv, z⟩ := end_
    exact ⟨v, G, J.os, J.bare, J.base, J.hok, rv, z⟩
  | next =>
    obtain ⟨τ, G, J, z⟩ := end_
    exact ⟨V.non, G, J.os, J.bare, J.base, J.hok, rfl, z⟩
  | brk => exact end_.elim fun _ z => z.elim fun _ y => y.2.elim
  | cont => exact end_.elim fun _ z => z.elim fun _ y => y.2.elim
/-- such a def, called by its name -/
structure CalE (P : Program) (w : World) (K : PySem.W.Frag) (mg : Str → Option Value) (base : Heap) (k : Nat) (x : Str) (sp : Addr → Addr → Addr → Sp) : Prop where
  ex : ∃ (f : Addr) (fd : FuncData) (ps : List Str), FnE P w K mg base k f fd ps sp ∧ mg x = some (.ref f) ∧ PySem.W.keepIn K (.ref f) = true ∧ Binds K fd ps []
def tCallE (a : Addr) (cls : Value) (d : Option Addr) (sp : Addr → Addr → Addr → Sp) (t : TA) : TE := fun σ H Q => t σ H fun vs H1 => ∃ C dd : Addr, cls = .ref C ∧ d = some dd ∧ sp a C dd vs H1 Q E0
section
variable {X : Cx} {k j : Nat} {x : Str} {sp : Addr → Addr → Addr → Sp} {p pos : Pos} {e : Expr} {es : List Expr} {t : TA} {te : TE} {a : Addr} {oe : Obj} {cls : Value} {d : Option Addr} {pn : List (Addr × Obj)}
theorem pe_callE (c : CalE X.prog X.w X.K X.mg X.base k x sp) (hr : Room j X.A) (hk : k ≤ j) (hz : Zc cls d oe) (hf : ∃ vs, oe.data = .fields vs) (hg : Gl (X.suite a ((a, oe) :: pn)) x) (ha : PA (X.suite a ((a, oe) :: pn)) (e :: es) t)
    (hdb : (x == ("__debug__" : Str)) = false := by decide)
    (he : starEach (e :: es) X.env = (false, eval e X.env) :: starEach es X.env := by rfl)
    (hpl : (backTo pos (starEach es X.env)).any (·.1) = false := by rfl) :
    PE (X.suite a ((a, oe) :: pn)) (.Call (.Name x p) (e :: es) [] pos) (tCallE a cls d sp t) := by
  obtain ⟨f, fd, ps, F, hm, kp, b⟩ := c.ex
  refine ⟨fun pins s σ H Q I h => ?_⟩
  refine wpAny_Call_Name_kw (ld_glob I hg hm ?_ hdb)
  refine PySem.W.callWith_K (h₀ := X.base) I.ok.mod.kin kp (thn (ha.run pos pins s σ H _ I h) fun us s1 ⟨vs, H1, I1, r, C, dd, ec, ed, q⟩ => ⟨I1.kIn, ?_⟩) he hpl
  subst ec
  subst ed
  have size : us.length = ps.length := by rw [← r.length]; exact F.many _ _ _ _ _ _ _ q
  have bnd := b s1 us I1.kIn (by rw [List.append_nil]; exact size)
  rw [List.append_nil] at bnd
  obtain ⟨p1, p2, p3, p4, p5⟩ := I1.pin (a, oe) (List.mem_append_left _ List.mem_cons_self)
  have pin : L2H.PinOk (X.suite a ((a, oe) :: pn)).stack H1 s1 (a, oe) := ⟨p1, p2, fun z => (List.mem_cons.mp (I1.stkSub a z)).elim p3 p4, p5⟩
  refine wpAny_call (codeAny_mono (F.go _ _ s1 H1 ⟨us, []⟩ us vs Q E0 (a, oe) C dd ((⟨hr.dp, hr.un⟩ : L2H.RoomH j (X.suite a ((a, oe) :: pn)).A).mono hk) pin hz hf I1.env0 bnd r q) fun how s2 end_ => ?_)
  cases how with
  | error u => exact False.elim end_
  | ok fl =>
    cases fl with
    | ret u => exact I1.after end_
    | next => exact False.elim end_
    | brk => exact False.elim end_
    | cont => exact False.elim end_
/-- what an error class must say, so that its instances can be looked at -/
structure ErrI (K : PySem.W.Frag) (C : Addr) : Prop where
  cl : (PySem.W.clsIn K C).isSome = true
  ga : PySem.W.findIn K (.ref C) "__getattribute__" = some (some (.builtin "BaseException.__getattribute__"))
  gg : PySem.W.findIn K (.ref C) "__getattr__" = some none
  be : PySem.W.subIn K (.ref C) (.type "BaseException") = some true
  hd : PySem.W.hasDictIn K C = true
  cc : PySem.W.findIn K (.ref C) "__class__" = some (some (.builtin "object.__class__"))
  gt : PySem.W.specialIn K (.builtin "object.__class__") "__get__" = some (some (.builtin "getset_descriptor.__get__"))
  tk : PySem.W.takesIn K (.builtin "object.__class__") = some true
  ob : PySem.W.mroIn K C (.type "object") = some true
  no : PySem.W.findIn K (.ref C) "value" = some none
theorem pin_inst {pins : List (Addr × Obj)} {s : Shared} {σ : St} {H : Hp} {C dd : Addr} {fs : List (Str × V)} (I : Inv X pins σ H s) (hp : (a, oe) ∈ X.pn) (hz : Zc (.ref C) (some dd) oe) (hf : ∃ vs, oe.data = .fields vs) (ed : H dd = some (.xd fs)) :
    ∃ (od : Obj) (mA : Str → Option Value), PySem.W.InstAt s.heap a oe C (some od) ∧ (∀ f, PySem.W.lookIn f od = some (mA f)) ∧ ∀ f, RelO (fs.lookup f) (mA f) := by
  obtain ⟨p1, _⟩ := I.pin (a, oe) (List.mem_append_left _ hp)
  obtain ⟨vs, hd⟩ := hf
  obtain ⟨mA, hns, rel⟩ := (show ObjOk X.prog X.w H s.heap dd (.xd fs) from I.hok dd _ ed)
  obtain ⟨od, ho, hl⟩ := lookIn_ns hns
  exact ⟨od, mA, ⟨p1, hz.1, by unfold PySem.W.notCls; rw [hd] <;> rfl, by rw [hz.2]; exact ho⟩, hl, rel⟩
/-- isinstance(e, c), e the error -/
def rIsX (K : PySem.W.Frag) (a C dd : Addr) : List V → Hp → VK → Prop := fun xs H Q => ∃ (fs : List (Str × V)) (c : V) (cv : Value) (b : Bool), xs = [.ref a, c] ∧ H dd = some (.xd fs) ∧ ErrI K C ∧ ClsV c cv ∧ PySem.W.kitOne K (.ref C) cv = some b ∧ Q (.bl b) H
theorem call_isX {C dd : Addr} (hp : (a, oe) ∈ X.pn) (hz : Zc (.ref C) (some dd) oe) (hf : ∃ vs, oe.data = .fields vs) : CallR X (.builtin "isinstance") (rIsX X.K a C dd) := by
  intro pins s σ H xs us Q I r h
  obtain ⟨fs, c, cv, b, rfl, ed, T, k, e, q⟩ := h
  obtain ⟨u1, u2, rfl, r1, r2⟩ := vals2 r
  have e2 := k.eq r2
  subst e2
  obtain rfl : u1 = Value.ref a := r1
  obtain ⟨od, mA, J, _, _⟩ := pin_inst I hp hz hf ed
  exact PySem.W.kia_one (PySem.W.kitx_exc T.cl T.ga T.gg T.be T.cc T.gt T.tk T.ob) I.kIn J e (fun z => nomatch z) fun tk => ⟨.bl b, H, I.tok tk, rfl, q⟩
/-- isinstance(e, (c1, c2, ..)) -/
def rIsXT (K : PySem.W.Frag) (a C dd : Addr) : List V → Hp → VK → Prop := fun xs H Q => ∃ (fs : List (Str × V)) (tp : Addr) (cs : List V) (us : List Value) (b : Bool), xs = [.ref a, .ref tp] ∧ H dd = some (.xd fs) ∧ ErrI K C ∧ H tp = some (.tup cs) ∧ Paired ClsV cs us ∧
  PySem.W.kitAny K (.ref C) us = some b ∧ Q (.bl b) H
theorem call_isXT {C dd : Addr} (hp : (a, oe) ∈ X.pn) (hz : Zc (.ref C) (some dd) oe) (hf : ∃ vs, oe.data = .fields vs) : CallR X (.builtin "isinstance") (rIsXT X.K a C dd) := by
  intro pins s σ H xs us Q I r h
  obtain ⟨fs, tp, cs, ws, b, rfl, ed, T, hT, k, e, q⟩ := h
  obtain ⟨u1, u2, rfl, r1, r2⟩ := vals2 r
  obtain rfl : u1 = Value.ref a := r1
  obtain rfl : u2 = Value.ref tp := r2
  obtain ⟨od, mA, J, _, _⟩ := pin_inst I hp hz hf ed
  obtain ⟨_, its, rv, o, g1, g2, n, g3⟩ := (show ObjOk X.prog X.w H s.heap tp (.tup cs) from I.hok tp _ hT)
  have e3 := ClsV.all k rv
  subst e3
  obtain ⟨oc, o2, dt, sl⟩ := o
  simp only at g2 g3
  subst g2 g3
  exact PySem.W.kia_tup (PySem.W.kitx_exc T.cl T.ga T.gg T.be T.cc T.gt T.tk T.ob) I.kIn J g1 e (fun z => nomatch z) fun tk => ⟨.bl b, H, I.tok tk, rfl, q⟩
/-- e.value -/
def tXfA (K : PySem.W.Frag) (a : Addr) (cls : Value) (d : Option Addr) (te : TE) : TE := fun σ H Q => te σ H fun x H1 => x = .ref a ∧ ∃ (C dd : Addr) (v : V), cls = .ref C ∧ d = some dd ∧ ErrI K C ∧ H1 dd = some (.xd [("value", v)]) ∧ Q v H1
theorem pe_xfA (hz : Zc cls d oe) (hf : ∃ vs, oe.data = .fields vs) (he : PE (X.suite a ((a, oe) :: pn)) e te) (hb : attributeBase e "value" X.env (eval e X.env) = eval e X.env := by rfl) :
    PE (X.suite a ((a, oe) :: pn)) (.Attribute e "value" pos) (tXfA X.K a cls d te) := by
  refine ⟨fun pins s σ H Q I h => ?_⟩
  refine attr_of hb (thn (he.run pins s σ H _ I h) fun u s1 hh => ?_)
  obtain ⟨x, H1, I1, rx, ex, C, dd, v, ec, ed, T, hd, q⟩ := hh
  subst ex
  obtain rfl : u = Value.ref a := rx
  subst ec
  subst ed
  obtain ⟨od, mA, J, hl, rel⟩ := pin_inst I1 List.mem_cons_self hz hf hd
  obtain ⟨u, hu, ru⟩ := RelO.some_of (v := v) (o := mA "value") (by
    have z := rel "value"
    rw [show List.lookup ("value" : Str) [(("value" : Str), v)] = some v by simp [List.lookup]] at z
    exact z)
  exact HandSPX.exc_get I1.kIn J T.ga T.gg T.be (PySem.W.findObj_own T.hd T.no rfl (by rw [hl, hu])) (handed_of ru) ⟨v, H1, I1.tok _, ru, q⟩
end
end L2
namespace Gc
open PySem PySem.Spec PyProof.Rows L2
/-- a def that may let an error out, called by names alone -/
structure CalKX (P : Program) (w : World) (K : PySem.W.Frag) (mg : Str → Option Value) (base : Heap) (k : Nat) (x : Str) (ks : List Str) (sp : Sp) : Prop where
  ex : ∃ (f : Addr) (fd : FuncData) (ps : List Str), FnOk P w K mg base (L2.CX P w) k f fd ps sp ∧ mg x = some (.ref f) ∧ PySem.W.keepIn K (.ref f) = true ∧ KBinds K fd ps ks gRev gRev
def tCallKX (sp : Sp) (W : WX) (tk : TA) : TE := fun σ H Q => tk σ H fun zs H2 => sp (gRev [] zs) H2 Q (WE W σ)
theorem pe_calKX {X : Cx} {W : WX} {k j : Nat} {x : Str} {ks : List Str} {sp : Sp} {p pos : Pos} {kws : List Keyword} {t : TA} (tk : Takes X W) (c : CalKX X.prog X.w X.K X.mg X.base k x ks sp) (hr : Room j X.A) (hk : k ≤ j) (hg : Gl X x) (hkw : PK X kws t)
    (hdb : (x == ("__debug__" : Str)) = false := by decide) (hall : (backToKw pos (keywordEach kws X.env)).all (·.1.isSome) = true := by rfl) (hks : (backToKw pos (keywordEach kws X.env)).filterMap (·.1) = ks := by rfl)
    (hpn : ((backTo pos (starEach [] X.env)).any (·.1) || (backToKw pos (keywordEach kws X.env)).any (·.1.isNone)) = false := by rfl) :
    PE X (.Call (.Name x p) [] kws pos) (tCallKX sp W t) := by
  obtain ⟨f, fd, ps, F, hm, kp, b⟩ := c.ex
  refine ⟨fun pins s σ H Q I h => ?_⟩
  refine wpAny_Call_Name_kw (ld_glob I hg hm ?_ hdb)
  refine PySem.W.callWith_KW0 (h₀ := X.base) I.ok.mod.kin kp hall ?_ hpn
  refine thn (hkw.run pos pins s σ H _ I h) fun ws s1 ⟨zs, H1, I1, rz, q⟩ => ⟨I1.kIn, ?_⟩
  rw [hks]
  have r2 := b.rel (us := []) (vs := []) .nil rz
  have size : (gRev [] ws).length = ps.length := by rw [← r2.length]; exact F.len _ _ _ _ q
  refine wpAny_call (codeAny_mono (F.run X.A X.stack s1 H1 ⟨[], ks.zip ws⟩ (gRev [] ws) (gRev [] zs) Q (WE W σ) (hr.mono hk) I1.env0 (b.to s1 [] ws I1.kIn size) r2 q) fun how s2 end_ => ?_)
  cases how with
  | error u => exact passAt tk σ pins H1 s1 u s2 I1 end_
  | ok fl =>
    cases fl with
    | ret u => exact I1.after end_
    | next => exact False.elim end_
    | brk => exact False.elim end_
    | cont => exact False.elim end_
end Gc
namespace L2
open PySem PySem.Spec PyProof.Rows
theorem takesNone {X : Cx} : Takes X (fun _ _ _ _ => False) := fun _ _ x => by
  obtain ⟨_, _, _, _, _, _, _, _, _, _, _, _, _, _, _, _, z⟩ := x
  exact z.elim
end L2

/-! own classes: instances made, methods, properties; all of them may raise -/
namespace L2
open PySem PySem.Spec PyProof.Rows
/-- a method of the class at C -/
structure Mth (P : Program) (w : World) (K : PySem.W.Frag) (mg : Str → Option Value) (base : Heap) (CX : CXT) (k : Nat) (C : Addr) (m : Str) (sp : Sp) : Prop where
  cls : Cls K C
  ex : ∃ (f : Addr) (fd : FuncData) (ps : List Str), Meth K C m f ∧ FnOk P w K mg base CX k f fd ps sp ∧ Binds K fd ps []
/-- .. called by names alone -/
structure MthK (P : Program) (w : World) (K : PySem.W.Frag) (mg : Str → Option Value) (base : Heap) (CX : CXT) (k : Nat) (C : Addr) (m : Str) (ks : List Str) (sp : Sp) : Prop where
  cls : Cls K C
  ex : ∃ (f : Addr) (fd : FuncData) (ps : List Str), Meth K C m f ∧ FnOk P w K mg base CX k f fd ps sp ∧ KBn K fd ps 1 ks Gc.gRev Gc.gRev
/-- the class x, with its __init__ -/
structure Mak (P : Program) (w : World) (K : PySem.W.Frag) (mg : Str → Option Value) (base : Heap) (CX : CXT) (k : Nat) (x : Str) (C : Addr) (sp : Sp) : Prop where
  g : mg x = some (.ref C)
  ex : ∃ (f : Addr) (fd : FuncData) (ps : List Str), Mk K C f ∧ FnOk P w K mg base CX k f fd ps sp ∧ Binds K fd ps []
structure MakK (P : Program) (w : World) (K : PySem.W.Frag) (mg : Str → Option Value) (base : Heap) (CX : CXT) (k : Nat) (x : Str) (C : Addr) (ks : List Str) (sp : Sp) : Prop where
  g : mg x = some (.ref C)
  ex : ∃ (f : Addr) (fd : FuncData) (ps : List Str), Mk K C f ∧ FnOk P w K mg base CX k f fd ps sp ∧ KBn K fd ps 1 ks Gc.gRev Gc.gRev
/-- a property -/
structure Prp (P : Program) (w : World) (K : PySem.W.Frag) (mg : Str → Option Value) (base : Heap) (k : Nat) (C : Addr) (m : Str) (sp : Sp) : Prop where
  cls : Cls K C
  ex : ∃ (p f : Addr) (fd : FuncData) (ps : List Str), PropOf K C m p f ∧ FnOk P w K mg base CX0 k f fd ps sp ∧ Binds K fd ps []
theorem bindsN {K : PySem.W.Frag} {x qual : Str} {st : Stmt} {f : Addr} {fd : FuncData} {ps ks : List Str} {n : Nat} (F : Fun K x qual st f fd)
    (h : ∀ (kV doc pm : Value) (an : Option Addr) (cdv ct : Value) (us ws : List Value), us.length = n → ws.length = ks.length → bindArgs (PySem.W.fnOf x qual (defArgs st) (defBody st) (defScope st) .none kV doc pm an cdv ct) ⟨us, ks.zip ws⟩ = pure (ps.zip (Gc.gRev us ws))) : KBn K fd ps n ks Gc.gRev Gc.gRev := by
  obtain ⟨oc, od, kV, doc, pm, an, cdv, ct, osl, rfl, lk, hcd⟩ := F.ex
  exact ⟨fun s us ws _ h1 h2 => .of_eq (h kV doc pm an cdv ct us ws h1 h2), fun a b => a.append (Gc.vals_rev b)⟩
section
variable {X : Cx} {k j : Nat} {f C : Addr} {fd : FuncData} {ps ks : List Str} {sp : Sp} {W : WX} {x m : Str} {p pos apos : Pos} {e o : Expr} {es : List Expr} {kws : List Keyword} {ta : TE} {t tk : TA} {pl : Sem Bool}
def tMX (C : Addr) (m : Str) (sp : Sp) (W : WX) (ta : TE) (t : TA) : TE := fun σ H Q => ta σ H fun x H1 => ∃ a dx fs, x = .ref a ∧ H1 a = some (.ins C dx fs) ∧ fs.lookup m = none ∧ t σ H1 fun vs H2 => sp (x :: vs) H2 Q (WE W σ)
def tMKX (C : Addr) (m : Str) (n : Nat) (sp : Sp) (W : WX) (ta : TE) (t : TA) : TE := fun σ H Q => ta σ H fun x H1 => ∃ a dx fs, x = .ref a ∧ H1 a = some (.ins C dx fs) ∧ fs.lookup m = none ∧ t σ H1 fun zs H2 => zs.length = n ∧ sp (Gc.gRev [x] zs) H2 Q (WE W σ)
/-- o.m(e, ..), m may raise -/
theorem pe_mthX (tk : Takes X W) (c : Mth X.prog X.w X.K X.mg X.base (L2.CX X.prog X.w) k C m sp) (hr : Room j X.A) (hk : k ≤ j) (he : PE X o ta) (ha : PA X (e :: es) t)
    (hst : starEach (e :: es) X.env = (false, eval e X.env) :: starEach es X.env := by rfl) (hpl : (backTo pos (starEach es X.env)).any (·.1) = false := by rfl)
    (ht : eval (.Call (.Attribute o m apos) (e :: es) [] pos) X.env = (do
      let ov ← eval o X.env
      standAt apos.atName
      let (f, first) ← holding [ov] (getMethod ov m pl)
      callWith pos f first (backTo pos (starEach (e :: es) X.env)) (backToKw pos (keywordEach [] X.env))) := by rfl) :
    PE X (.Call (.Attribute o m apos) (e :: es) [] pos) (tMX C m sp W ta t) := by
  obtain ⟨cl, f, fd, ps, hm, F, hb⟩ := c
  refine ⟨fun pins s σ H Q I h => ?_⟩
  refine PySem.W.methodCall_KW (pl := pl) (thn (he.run pins s σ H _ I h) fun u s1 ⟨x, H1, I1, rx, a, dx, fs, ex, ea, l, q⟩ => ?_) ht
  subst ex
  obtain rfl : u = Value.ref a := rx
  refine getmeth_ok I1 ea cl hm l ?_
  refine PySem.W.callWith_K (first := [.ref a]) (h₀ := X.base) I.ok.mod.kin hm.kp (thn (ha.run pos pins s1 σ H1 _ I1 q) fun us s2 ⟨vs, H2, I2, r, q2⟩ => ⟨I2.kIn, ?_⟩) hst hpl
  exact run_fnS (us := .ref a :: us) (vs := .ref a :: vs) F (hr.mono hk) hb (passAt tk σ) I2 (.cons rfl r) q2
/-- o.m(), m may raise -/
theorem pe_mthX0 (tk : Takes X W) (c : Mth X.prog X.w X.K X.mg X.base (L2.CX X.prog X.w) k C m sp) (hr : Room j X.A) (hk : k ≤ j) (he : PE X o ta)
    (ht : eval (.Call (.Attribute o m apos) [] [] pos) X.env = (do
      let ov ← eval o X.env
      standAt apos.atName
      let (f, first) ← holding [ov] (getMethod ov m pl)
      callWith pos f first (backTo pos (starEach [] X.env)) (backToKw pos (keywordEach [] X.env))) := by rfl) :
    PE X (.Call (.Attribute o m apos) [] [] pos) (tMX C m sp W ta tNil) := by
  obtain ⟨cl, f, fd, ps, hm, F, hb⟩ := c
  refine ⟨fun pins s σ H Q I h => ?_⟩
  refine PySem.W.methodCall_KW (pl := pl) (thn (he.run pins s σ H _ I h) fun u s1 ⟨x, H1, I1, rx, a, dx, fs, ex, ea, l, q⟩ => ?_) ht
  subst ex
  obtain rfl : u = Value.ref a := rx
  refine getmeth_ok I1 ea cl hm l ?_
  exact PySem.W.callWith_K0 (first := [.ref a]) I1.kIn hm.kp (run_fnS (us := [.ref a]) (vs := [.ref a]) F (hr.mono hk) hb (passAt tk σ) I1 (.cons rfl .nil) q)
/-- o.m(k = v, ..), m may raise -/
theorem pe_mthKX (tk : Takes X W) (c : MthK X.prog X.w X.K X.mg X.base (L2.CX X.prog X.w) k C m ks sp) (hr : Room j X.A) (hk : k ≤ j) (he : PE X o ta) (hkw : PK X kws t)
    (hall : (backToKw pos (keywordEach kws X.env)).all (·.1.isSome) = true := by rfl) (hks : (backToKw pos (keywordEach kws X.env)).filterMap (·.1) = ks := by rfl)
    (hpn : ((backTo pos (starEach [] X.env)).any (·.1) || (backToKw pos (keywordEach kws X.env)).any (·.1.isNone)) = false := by rfl)
    (ht : eval (.Call (.Attribute o m apos) [] kws pos) X.env = (do
      let ov ← eval o X.env
      standAt apos.atName
      let (f, first) ← holding [ov] (getMethod ov m pl)
      callWith pos f first (backTo pos (starEach [] X.env)) (backToKw pos (keywordEach kws X.env))) := by rfl) :
    PE X (.Call (.Attribute o m apos) [] kws pos) (tMKX C m ks.length sp W ta t) := by
  obtain ⟨cl, f, fd, ps, hm, F, b⟩ := c
  refine ⟨fun pins s σ H Q I h => ?_⟩
  refine PySem.W.methodCall_KW (pl := pl) (thn (he.run pins s σ H _ I h) fun u s1 ⟨x, H1, I1, rx, a, dx, fs, ex, ea, l, q⟩ => ?_) ht
  subst ex
  obtain rfl : u = Value.ref a := rx
  refine getmeth_ok I1 ea cl hm l ?_
  refine PySem.W.callWith_KW0 (first := [.ref a]) (h₀ := X.base) I.ok.mod.kin hm.kp hall ?_ hpn
  refine thn (hkw.run pos pins s1 σ H1 _ I1 q) fun ws s2 ⟨zs, H2, I2, rz, lz, q2⟩ => ⟨I2.kIn, ?_⟩
  rw [hks]
  have r1 : Vals [V.ref a] [Value.ref a] := .cons rfl .nil
  have r2 := b.rel r1 rz
  refine wpAny_call (codeAny_mono (F.run X.A X.stack s2 H2 ⟨[.ref a], ks.zip ws⟩ (Gc.gRev [.ref a] ws) (Gc.gRev [.ref a] zs) Q (WE W σ) (hr.mono hk) I2.env0 (b.to s2 [.ref a] ws I2.kIn rfl (rz.length.symm.trans lz)) r2 q2) fun how s3 end_ => ?_)
  cases how with
  | error u => exact passAt tk σ pins H2 s2 u s3 I2 end_
  | ok fl =>
    cases fl with
    | ret u => exact I2.after end_
    | next => exact False.elim end_
    | brk => exact False.elim end_
    | cont => exact False.elim end_
def tMakX (C : Addr) (sp : Sp) (W : WX) (t : TA) : TE := fun σ H Q => t σ H fun vs H1 => ∀ x dx, H1 x = none → H1 dx = none → dx ≠ x →
  sp (.ref x :: vs) (upd (upd H1 dx (.own x)) x (.ins C dx [])) (fun v H2 => v = .non ∧ Q (.ref x) H2) (WE W σ)
def tMakKX (C : Addr) (m : Nat) (sp : Sp) (W : WX) (t : TA) : TE := fun σ H Q => t σ H fun zs H1 => zs.length = m ∧ ∀ x dx, H1 x = none → H1 dx = none → dx ≠ x →
  sp (Gc.gRev [.ref x] zs) (upd (upd H1 dx (.own x)) x (.ins C dx [])) (fun v H2 => v = .non ∧ Q (.ref x) H2) (WE W σ)
theorem madePass {X : Cx} {pins : List (Addr × Obj)} {σ : St} {H : Hp} {s : Shared} (tk : Takes X W) (I : Inv X pins σ H s) {u : Value} {s2 : Shared} (c : L2.CX X.prog X.w X.stack H s (WE W σ) u s2) : X.xe u s2 := passAt tk σ pins H s u s2 I c
/-- C(e, ..), __init__ may raise -/
theorem pe_makX (tk : Takes X W) (c : Mak X.prog X.w X.K X.mg X.base (L2.CX X.prog X.w) k x C sp) (hr : Room j X.A) (hk : k + 1 ≤ j) (hg : Gl X x) (ha : PA X (e :: es) t)
    (hdb : (x == ("__debug__" : Str)) = false := by decide) (he : starEach (e :: es) X.env = (false, eval e X.env) :: starEach es X.env := by rfl) (hpl : (backTo pos (starEach es X.env)).any (·.1) = false := by rfl) :
    PE X (.Call (.Name x p) (e :: es) [] pos) (tMakX C sp W t) := by
  obtain ⟨hm, f, fd, ps, M, F, hb⟩ := c
  refine ⟨fun pins s0 σ H0 Q I0 h0 => ?_⟩
  refine wpAny_Call_Name_kw (ld_glob I0 hg hm ?_ hdb)
  refine PySem.W.callWith_K (h₀ := X.base) I0.ok.mod.kin M.kp (thn (ha.run pos pins s0 σ H0 _ I0 h0) fun us s ⟨vs, H, I, r, h⟩ => ⟨I.kIn, ?_⟩) he hpl
  have hq := h (s.heap.objs.size + 1) s.heap.objs.size (I.hok.fresh (Nat.le_succ _)) (I.hok.fresh (Nat.le_refl _)) (Nat.ne_of_lt (Nat.lt_succ_self _))
  have I2 := Inv.made (C := C) I
  have r2 : Vals (V.ref (s.heap.objs.size + 1) :: vs) (Value.ref (s.heap.objs.size + 1) :: us) := .cons rfl r
  have hl : (Value.ref (s.heap.objs.size + 1) :: us ++ []).length = ps.length := by
    rw [List.append_nil, ← r2.length]
    exact F.len _ _ _ _ hq
  have b := hb _ (Value.ref (s.heap.objs.size + 1) :: us) I2.kIn hl
  rw [List.append_nil] at b
  refine wpAny_call (make_map (f := f) I.kIn M.makes M.init (beq_iff_eq.mp M.fn) (codeAny_mono (F.run _ X.stack _ _ ⟨Value.ref (s.heap.objs.size + 1) :: us, []⟩ (Value.ref (s.heap.objs.size + 1) :: us) _ _ (WE W σ) ((hr.mono hk).make C us [])
    (I2.env0.make C us []) b r2 hq) fun r s' hq' => ?_))
  cases r with
  | error e => exact madePass tk I2 hq'
  | ok fl =>
    cases fl with
    | ret u =>
      obtain ⟨v, H', I3, rv, ev, q3⟩ := I2.after hq'
      subst ev
      exact ⟨rv, ⟨V.ref (s.heap.objs.size + 1), H', I3, rfl, q3⟩⟩
    | next => exact False.elim hq'
    | brk => exact False.elim hq'
    | cont => exact False.elim hq'
/-- C(k = v, ..), __init__ may raise -/
theorem pe_makKX (tk : Takes X W) (c : MakK X.prog X.w X.K X.mg X.base (L2.CX X.prog X.w) k x C ks sp) (hr : Room j X.A) (hk : k + 1 ≤ j) (hg : Gl X x) (hkw : PK X kws t)
    (hdb : (x == ("__debug__" : Str)) = false := by decide) (hall : (backToKw pos (keywordEach kws X.env)).all (·.1.isSome) = true := by rfl) (hks : (backToKw pos (keywordEach kws X.env)).filterMap (·.1) = ks := by rfl)
    (hpl : ((backTo pos (starEach [] X.env)).any (·.1) || (backToKw pos (keywordEach kws X.env)).any (·.1.isNone)) = false := by rfl) :
    PE X (.Call (.Name x p) [] kws pos) (tMakKX C ks.length sp W t) := by
  obtain ⟨hm, f, fd, ps, M, F, hb⟩ := c
  refine ⟨fun pins s0 σ H0 Q I0 h0 => ?_⟩
  refine wpAny_Call_Name_kw (ld_glob I0 hg hm ?_ hdb)
  refine PySem.W.callWith_KW0 (h₀ := X.base) I0.ok.mod.kin M.kp hall ?_ hpl
  refine thn (hkw.run pos pins s0 σ H0 _ I0 h0) fun ws s ⟨zs, H, I, rz, l2, h⟩ => ⟨I.kIn, ?_⟩
  rw [hks]
  have hq := h (s.heap.objs.size + 1) s.heap.objs.size (I.hok.fresh (Nat.le_succ _)) (I.hok.fresh (Nat.le_refl _)) (Nat.ne_of_lt (Nat.lt_succ_self _))
  have I2 := Inv.made (C := C) I
  have r1 : Vals [V.ref (s.heap.objs.size + 1)] [Value.ref (s.heap.objs.size + 1)] := .cons rfl .nil
  have r2 := hb.rel r1 rz
  refine wpAny_call (make_map (f := f) I.kIn M.makes M.init (beq_iff_eq.mp M.fn) (codeAny_mono (F.run _ X.stack _ _ ⟨[Value.ref (s.heap.objs.size + 1)], ks.zip ws⟩ (Gc.gRev [Value.ref (s.heap.objs.size + 1)] ws) _ _ (WE W σ) ((hr.mono hk).make C [] (ks.zip ws))
    (I2.env0.make C [] (ks.zip ws)) (hb.to _ [Value.ref (s.heap.objs.size + 1)] ws I2.kIn rfl (rz.length.symm.trans l2)) r2 hq) fun r s' hq' => ?_))
  cases r with
  | error e => exact madePass tk I2 hq'
  | ok fl =>
    cases fl with
    | ret u =>
      obtain ⟨v, H', I3, rv, ev, q3⟩ := I2.after hq'
      subst ev
      exact ⟨rv, ⟨V.ref (s.heap.objs.size + 1), H', I3, rfl, q3⟩⟩
    | next => exact False.elim hq'
    | brk => exact False.elim hq'
    | cont => exact False.elim hq'
/-- o.m, a property -/
theorem pe_prp (c : Prp X.prog X.w X.K X.mg X.base k C m sp) (hr : Room j X.A) (hk : k + 1 ≤ j) (he : PE X o ta) (hab : attributeBase o m X.env (eval o X.env) = eval o X.env) : PE X (.Attribute o m pos) (tProp C sp [] E0 ta) := by
  obtain ⟨cl, p, f, fd, ps, hp, F, hb⟩ := c
  exact pe_prop he cl hp F (hr.mono hk) hb .nil pass0 hab
end
end L2

/-! a caught error that is kept behind its except suite: try: .. except X as e: kept = e -/
namespace Gc
open PySem PySem.Spec PyProof.Rows L2
def ExK (cls : Value) (d : Option Addr) (a : Addr) : HO := .ext fun h => ∃ (oe : Obj) (fl : Array Value), h.get? a = some oe ∧ Zc cls d oe ∧ oe.data = .fields fl
theorem exK_ok {P : Program} {w : World} {H : Hp} {h : Heap} {a : Addr} {cls : Value} {d : Option Addr} {oe : Obj} {fl : Array Value} (e : h.get? a = some oe) (z : Zc cls d oe) (f : oe.data = .fields fl) : ObjOk P w H h a (ExK cls d a) :=
  ⟨⟨oe, fl, e, z, f⟩, ⟨oe, e⟩, fun _ _ ⟨o, v, q, r⟩ k => ⟨o, v, k o q, r⟩⟩
theorem exK_at {P : Program} {w : World} {H : Hp} {h : Heap} {a : Addr} {cls : Value} {d : Option Addr} (ok : HOk P w H h) (e : H a = some (ExK cls d a)) : ∃ (oe : Obj) (fl : Array Value), h.get? a = some oe ∧ Zc cls d oe ∧ oe.data = .fields fl := by
  have z : ObjOk P w H h a (.ext fun h => ∃ (oe : Obj) (fl : Array Value), h.get? a = some oe ∧ Zc cls d oe ∧ oe.data = .fields fl) := ok a _ e
  exact z.1
section
variable {X : Cx} {pins : List (Addr × Obj)} {σ : L2.St} {H : Hp} {s : Shared} {a : Addr} {oe : Obj} {fl : Array Value} {cls : Value} {d : Option Addr}
/-- what was pinned is tracked from here on -/
theorem keepEx (I : Inv X ((a, oe) :: pins) σ H s) (z : Zc cls d oe) (f : oe.data = .fields fl) (n0 : X.s_0.heap.get? a = none) (np : ∀ p ∈ X.pn ++ pins, p.1 ≠ a) : Inv X pins σ (upd H a (ExK cls d a)) s := by
  obtain ⟨p1, p2, p3, p4, p5⟩ := I.pin (a, oe) (List.mem_append_right _ List.mem_cons_self)
  have off : ∀ {b : Addr} {o : Obj}, X.s_0.heap.get? b = some o → b ≠ a := fun {b o} q e => by
    rw [e, n0] at q
    cases q
  refine ⟨I.ok, I.os, I.bare, ⟨I.base.keep, I.base.slot, fun b o q n hx => ?_, I.base.there, fun b xs q => ?_, fun b o u q => ?_, fun b ps q => ?_⟩, I.loc, I.cell, ?_, fun x c q => ?_, fun p hp => ?_, fun b u q => ?_, I.len⟩
  · rw [upd_ne (off q)]
    exact I.base.free b o q n hx
  · have t := I.base.tups b xs q
    rw [upd_ne (ne_of_none t p2)]
    exact t
  · have t := I.base.frzs b o u q
    rw [upd_ne (ne_of_none t p2)]
    exact t
  · obtain ⟨more, t⟩ := I.base.tbls b ps q
    exact ⟨more, by rw [upd_ne (ne_of_none t p2)]; exact t⟩
  · rw [upd_ne (Ne.symm p3)]
    exact I.free
  · have ca : c ≠ a := fun e => by
      obtain ⟨v, o, ho, hd⟩ := I.cell x c q
      rw [e, p1] at ho
      cases ho
      exact p5 v hd
    rw [upd_ne ca]
    exact I.freeC x c q
  · obtain ⟨q1, q2, q3⟩ := I.pin p ((List.mem_append.mp hp).elim (fun y => List.mem_append_left _ y) fun y => List.mem_append_right _ (List.mem_cons_of_mem _ y))
    exact ⟨q1, by rw [upd_ne (np p hp)]; exact q2, q3⟩
  · by_cases hb : b = a
    · subst hb
      rw [upd_same] at q
      cases q
      exact exK_ok p1 z f
    · rw [upd_ne hb] at q
      refine (I.hok b u q).stay (fun c v _ y => y) (fun c y => ?_) fun c xs y => ?_
      · rw [upd_ne (ne_of_none y p2)]
        exact y
      · rw [upd_ne (ne_of_none y p2)]
        exact y
end
/-- what is wanted where the error is kept -/
def wKeep (K : PySem.W.Frag) (c : Value) (i : Nat) (ts : Addr → Value → Option Addr → TS) (Wo : WX) (D : Ends) : WX := fun cls d σ H =>
  ∃ b, PySem.W.exmOne K cls c = some b ∧ (b = true → ∀ a, H a = none → ts a cls d { nx := fun τ G => D.nx (τ.set i none) (upd G a (ExK cls d a)), rt := D.rt, bk := fun τ G => D.bk (τ.set i none) G, ct := fun τ G => D.ct (τ.set i none) G } (σ.set i (some (.ref a))) H) ∧
    (b = false → Wo cls d σ H)
section
variable {X : Cx} {x n : Str} {c : Value} {i : Nat} {body suite : List Stmt} {b0 : Stmt} {np pos pos' : Pos} {tb : WX → TS} {ts : Addr → Value → Option Addr → TS} {Wo : WX}
theorem ps_try_keep (hx : X.ex = []) (hs : X.stack = X.env :: X.outer) (hf : X.env.frame = some X.env.locals) (hN : X.N.Nodup) (hi : X.N[i]? = some n) (hln : X.env.kindOf n = some .local) (hc : Names X x c) (tk : Takes X Wo)
    (hb : ∀ (W : WX) (pn : List (Addr × Obj)) (xe : Value → Shared → Prop), Takes (X.tr pn xe) W → PassesOwn (model X.prog X.w) X.A X.env xe → PSs (X.tr pn xe) body (tb W))
    (hsu : ∀ (a : Addr) (oe : Obj) (cls : Value) (d : Option Addr) (pn : List (Addr × Obj)), Zc cls d oe → (∃ fl, oe.data = .fields fl) → PSs (X.suite a ((a, oe) :: pn)) (b0 :: suite) (ts a cls d)) :
    PS X (.Try body [.ExceptHandler (some (.Name x np)) (some n) (b0 :: suite) pos'] [] [] pos) (fun D σ H => tb (wKeep X.K c i ts Wo D) D σ H) := by
  refine ⟨fun pins s σ H D I want => ?_⟩
  have good := I.ok
  have fr : X.A.frames = some (X.env :: X.outer) := by rw [good.frames, hs]
  have nloc : Loc X.env.scope n := .inl hln
  refine wpAny_Try_except ?_
  refine wpAny_mono ((hb (wKeep X.K c i ts Wo D) (X.pn ++ pins) (fun er t => wpAny (model X.prog X.w) X.A (noteFrame er X.env) (fun _ t2 => wpAny (model X.prog X.w) X.A (setFlight er none) (fun _ t3 => wpAny (model X.prog X.w) X.A (handleBy er X.env [.ExceptHandler (some (.Name x np)) (some n) (b0 :: suite) pos']) (SP X pins D) X.xe t3) X.xe t2) X.xe t)
    (fun er t air => ?_) PassesOwn.looking).run [] s σ H D (I.toTry _) want) (fun how t end_ => ?_) (fun _ _ z => z)
  · obtain ⟨a, B, sI, pins2, τ, G, cls, d, rfl, K0, nb, up, sky, na, os, ag, b, told, yes, no⟩ := air
    have K1 : Inv X pins τ G sI := K0.ofTry good
    rw [show (X.tr (X.pn ++ pins) _).stack = X.env :: X.outer from hs] at sky
    show wpAny (model X.prog X.w) X.A (noteFrame (.ref a) X.env) _ _ _
    refine Sky.land Zc.steady fr hf sky fun h3 fl3 up3 => ?_
    have K3 : Inv X pins τ G { t with heap := h3 } := K1.landed nb fl3.1 (up.trans up3) os ag
    obtain ⟨o3, v3, e3, z3, d3⟩ := fl3.there
    have out : a ∉ frs (X.env :: X.outer) := fun hm => by
      obtain ⟨_, o', q, nf⟩ := fl3.2.2.1.mem hm
      rw [e3] at q
      cases q
      exact nf _ d3
    have offL : a ≠ X.env.locals := fun q => out (List.mem_filterMap.mpr ⟨X.env, List.mem_cons_self, by rw [hf, q]⟩)
    have offF : a ∉ X.fs := fun hm => by
      obtain ⟨e, he, q⟩ := List.mem_filterMap.mp hm
      exact out (List.mem_filterMap.mpr ⟨e, List.mem_cons_of_mem _ he, q⟩)
    -- the error is newer than all that stood
    have noB : B.get? a = none := fl3.2.1
    have n0 : X.s_0.heap.get? a = none := by
      cases q : X.s_0.heap.get? a with
      | none => rfl
      | some o =>
        obtain ⟨o', q'⟩ := K1.base.there a o q (by rw [hx]; exact fun y => nomatch y)
        have y := nb a o' q' (by rw [show (X.tr (X.pn ++ pins) _).stack = X.env :: X.outer from hs]; exact out)
        rw [noB] at y
        cases y
    have npin : ∀ p ∈ X.pn ++ pins, p.1 ≠ a := fun p hp q => by
      obtain ⟨q1, _, q3, q4, _⟩ := K1.pin p hp
      have y := nb p.1 p.2 q1 fun hm => (List.mem_cons.mp (K1.stkSub p.1 hm)).elim q3 q4
      rw [q, noB] at y
      cases y
    have S3 := K3.suite e3 d3 na offL offF
    refine wpAny_handleBy_cons (codeAny_handlers_test ?_) (by intro q; cases q)
    have LT : PySem.W.Looks (model X.prog X.w) h3 (typeOf (.ref a)) cls := fun A Q E s k q => wpAny_typeOf_ref (k _ _ e3) (by rw [z3.1]; exact q)
    have LM := PySem.W.exm_one (M := model X.prog X.w) (K3.kIn) LT told
    have test : ∀ {Q : Value → Shared → Prop} {E : Value → Shared → Prop}, Q c { t with heap := h3 } → wpAny (model X.prog X.w) (X.A.mark (some (.ref a))) (eval (.Name x np) X.env) Q E { t with heap := h3 } := fun {Q E} q => by
      obtain ⟨hg, hdb, hm | ⟨hm, hv, hnn⟩⟩ := hc
      · exact ld_glob (X := X.suite a ((a, o3) :: (X.pn ++ pins))) S3 hg hm q hdb
      · exact ld_blt (X := X.suite a ((a, o3) :: (X.pn ++ pins))) S3 hg hm hv q hnn hdb
    refine test (LM.here ?_)
    cases b with
    | true =>
      refine codeAny_handlers_suite_as ?_
      refine HandSPX.lands_againZ fl3 fun h4 fl4 up4 => ?_
      have K4 : Inv X pins τ G { t with heap := h4 } := K1.landed nb fl4.1 ((up.trans up3).trans up4) os ag
      obtain ⟨o4, v4, e4, z4, d4⟩ := fl4.there
      have S4 := K4.suite e4 d4 na offL offF
      refine store_ok (X := X.suite a ((a, o4) :: (X.pn ++ pins))) (v := .ref a) S4 hN hi nloc rfl (fun s5 S5 => ?_) (.inr hln)
      refine wpAny_mono ((hsu a o4 cls d (X.pn ++ pins) z4 ⟨_, d4⟩).run [] s5 _ G _ S5 (yes rfl a na)) (fun how s6 z6 => ?_) (fun _ _ z => False.elim z)
      have pass : ∀ {τ6 : L2.St} {G6 : Hp} {Q : Shared → Prop}, Inv (X.suite a ((a, o4) :: (X.pn ++ pins))) [] τ6 G6 s6 → (∀ s7, Inv X pins (τ6.set i none) G6 s7 → Q s7) →
          wpAny (model X.prog X.w) X.A (do bindName X.env n .none; unbindBehindTheSuite X.env n pos') (fun _ s7 => Q s7) X.xe s6 := fun {τ6 G6 Q} S6 hq => gone_ok (S6.unsuite good) hN hi hln hq
      cases how with
      | next =>
        obtain ⟨τ6, G6, S6, q6⟩ := z6
        have K6 : Inv X ((a, o4) :: pins) τ6 G6 s6 := ⟨good, S6.os, S6.bare, S6.base, S6.loc, S6.cell, S6.free, S6.freeC, fun p hp => S6.pin p (List.mem_append_left _ (by
          rcases List.mem_append.mp hp with y | y
          · exact List.mem_cons_of_mem _ (List.mem_append_left _ y)
          · rcases List.mem_cons.mp y with y | y
            · rw [y]
              exact List.mem_cons_self
            · exact List.mem_cons_of_mem _ (List.mem_append_right _ y))), S6.hok, S6.len⟩
        exact gone_ok K6 hN hi hln fun s7 K7 => ⟨_, _, keepEx K7 z4 d4 n0 npin, q6⟩
      | brk =>
        obtain ⟨τ6, G6, S6, q6⟩ := z6
        exact pass S6 fun s7 K7 => ⟨_, _, K7, q6⟩
      | cont =>
        obtain ⟨τ6, G6, S6, q6⟩ := z6
        exact pass S6 fun s7 K7 => ⟨_, _, K7, q6⟩
      | ret u =>
        obtain ⟨v6, τ6, G6, S6, r6, q6⟩ := z6
        exact pass S6 fun s7 K7 => ⟨_, _, _, K7, r6, q6⟩
    | false =>
      show wpAny _ X.A (handleBy (.ref a) X.env []) _ _ _
      refine wpAny_handleBy_nil ?_
      obtain ⟨k1, k2, k3, oe, vs, T0, oT, tsl, he, hz, hd, h1, hr⟩ := id fl3
      unfold PySem.passOn
      refine wpAny_bind (wpAny_field he hd h1 ?_)
      rw [if_neg (show ¬ ((Value.ref T0 == Value.none) = true) from by simp)]
      have last : wpAny (model X.prog X.w) X.A (setFlight (.ref a) X.env.frame) (fun _ s4 => wpAny (model X.prog X.w) X.A (throw (.ref a) : Sem Flow) (SP X pins D) X.xe s4) X.xe { t with heap := h3 } := by
        rw [hf]
        refine HandSPX.setFlight_upZ fl3 fun h4 held up4 => wpAny_throw (tk _ _ ?_)
        exact ⟨a, B, sI, pins, τ, G, cls, d, rfl, K1, nb, (up.trans up3).trans up4, .inr (.inr (by rw [hs]; exact held)), na, os, ag, no rfl⟩
      first
        | exact wpAny_bind (wpAny_pure (wpAny_bind last))
        | exact wpAny_bind last
  · cases how with
    | next =>
      obtain ⟨τ, G, K0, q⟩ := end_
      exact wpAny_execs_nil ⟨τ, G, K0.ofTry good, q⟩
    | brk =>
      obtain ⟨τ, G, K0, q⟩ := end_
      exact ⟨τ, G, K0.ofTry good, q⟩
    | cont =>
      obtain ⟨τ, G, K0, q⟩ := end_
      exact ⟨τ, G, K0.ofTry good, q⟩
    | ret u =>
      obtain ⟨v, τ, G, K0, r, q⟩ := end_
      exact ⟨v, τ, G, K0.ofTry good, r, q⟩
end
/-! ### the kept error, looked at -/
section
variable {X : Cx} {e : Expr} {te : TE} {pos : Pos}
/-- the error at a, of the class at C, its value v -/
def Held (H : Hp) (a C : Addr) (v : V) : Prop := ∃ dd : Addr, H a = some (ExK (.ref C) (some dd) a) ∧ H dd = some (.xd [("value", v)])
theorem Held.same {H H' : Hp} {a C : Addr} {v : V} (e : Same H H') (h : Held H a C v) : Held H' a C v := by
  obtain ⟨dd, h1, h2⟩ := h
  exact ⟨dd, e _ _ h1, e _ _ h2⟩
theorem held_inst {pins : List (Addr × Obj)} {s : Shared} {σ : L2.St} {H : Hp} {a C : Addr} {v : V} (I : Inv X pins σ H s) (h : Held H a C v) :
    ∃ (oe od : Obj) (mA : Str → Option Value), PySem.W.InstAt s.heap a oe C (some od) ∧ (∀ f, PySem.W.lookIn f od = some (mA f)) ∧ ∀ f, RelO (List.lookup f [(("value" : Str), v)]) (mA f) := by
  obtain ⟨dd, h1, h2⟩ := h
  obtain ⟨oe, fl, p1, hz, hd⟩ := exK_at I.hok h1
  obtain ⟨mA, hns, rel⟩ := (show ObjOk X.prog X.w H s.heap dd (.xd [("value", v)]) from I.hok dd _ h2)
  obtain ⟨od, ho, hl⟩ := lookIn_ns hns
  exact ⟨oe, od, mA, ⟨p1, hz.1, by unfold PySem.W.notCls; rw [hd] <;> rfl, by rw [hz.2]; exact ho⟩, hl, rel⟩
/-- isinstance(kept, c) -/
def rIsK (K : PySem.W.Frag) : List V → Hp → VK → Prop := fun xs H Q => ∃ (a C : Addr) (v c : V) (cv : Value) (b : Bool), xs = [.ref a, c] ∧ Held H a C v ∧ ErrI K C ∧ ClsV c cv ∧ PySem.W.kitOne K (.ref C) cv = some b ∧ Q (.bl b) H
theorem call_isK : CallR X (.builtin "isinstance") (rIsK X.K) := by
  intro pins s σ H xs us Q I r h
  obtain ⟨a, C, v, c, cv, b, rfl, hh, T, k, e, q⟩ := h
  obtain ⟨u1, u2, rfl, r1, r2⟩ := vals2 r
  have e2 := k.eq r2
  subst e2
  obtain rfl : u1 = Value.ref a := r1
  obtain ⟨oe, od, mA, J, _, _⟩ := held_inst I hh
  exact PySem.W.kia_one (PySem.W.kitx_exc T.cl T.ga T.gg T.be T.cc T.gt T.tk T.ob) I.kIn J e (fun z => nomatch z) fun tk => ⟨.bl b, H, I.tok tk, rfl, q⟩
/-- isinstance(kept, (c1, c2, ..)) -/
def rIsKT (K : PySem.W.Frag) : List V → Hp → VK → Prop := fun xs H Q => ∃ (a C : Addr) (v : V) (tp : Addr) (cs : List V) (us : List Value) (b : Bool), xs = [.ref a, .ref tp] ∧ Held H a C v ∧ ErrI K C ∧ H tp = some (.tup cs) ∧ Paired ClsV cs us ∧
  PySem.W.kitAny K (.ref C) us = some b ∧ Q (.bl b) H
theorem call_isKT : CallR X (.builtin "isinstance") (rIsKT X.K) := by
  intro pins s σ H xs us Q I r h
  obtain ⟨a, C, v, tp, cs, ws, b, rfl, hh, T, hT, k, e, q⟩ := h
  obtain ⟨u1, u2, rfl, r1, r2⟩ := vals2 r
  obtain rfl : u1 = Value.ref a := r1
  obtain rfl : u2 = Value.ref tp := r2
  obtain ⟨oe, od, mA, J, _, _⟩ := held_inst I hh
  obtain ⟨_, its, rv, o, g1, g2, n, g3⟩ := (show ObjOk X.prog X.w H s.heap tp (.tup cs) from I.hok tp _ hT)
  have e3 := ClsV.all k rv
  subst e3
  obtain ⟨oc, o2, dt, sl⟩ := o
  simp only at g2 g3
  subst g2 g3
  exact PySem.W.kia_tup (PySem.W.kitx_exc T.cl T.ga T.gg T.be T.cc T.gt T.tk T.ob) I.kIn J g1 e (fun z => nomatch z) fun tk => ⟨.bl b, H, I.tok tk, rfl, q⟩
/-- kept.value -/
def tXk (K : PySem.W.Frag) (te : TE) : TE := fun σ H Q => te σ H fun x H1 => ∃ (a C : Addr) (v : V), x = .ref a ∧ ErrI K C ∧ Held H1 a C v ∧ Q v H1
theorem pe_xk (he : PE X e te) (hb : attributeBase e "value" X.env (eval e X.env) = eval e X.env := by rfl) : PE X (.Attribute e "value" pos) (tXk X.K te) := by
  refine ⟨fun pins s σ H Q I h => ?_⟩
  refine attr_of hb (thn (he.run pins s σ H _ I h) fun u s1 hh => ?_)
  obtain ⟨x, H1, I1, rx, a, C, v, rfl, T, hd, q⟩ := hh
  obtain rfl : u = Value.ref a := rx
  obtain ⟨oe, od, mA, J, hl, rel⟩ := held_inst I1 hd
  obtain ⟨u, hu, ru⟩ := RelO.some_of (v := v) (o := mA "value") (by
    have z := rel "value"
    rw [show List.lookup ("value" : Str) [(("value" : Str), v)] = some v by simp [List.lookup]] at z
    exact z)
  exact HandSPX.exc_get I1.kIn J T.ga T.gg T.be (PySem.W.findObj_own T.hd T.no rfl (by rw [hl, hu])) (handed_of ru) ⟨v, H1, I1.tok _, ru, q⟩
end
end Gc

/-! the class Editor: made, read, taken back -/
namespace Gc
open PySem L2
abbrev s_ed_init : Stmt := inClass (top 23) 0
abbrev s_ed_text : Stmt := inClass (top 23) 2
abbrev s_ed_cursor : Stmt := inClass (top 23) 3
abbrev s_ed_column : Stmt := inClass (top 23) 4
abbrev s_ed_undo : Stmt := inClass (top 23) 6
structure TxtEd (K : PySem.W.Frag) (mg : Str → Option Value) (CD : Addr) : Prop where
  list : mg "list" = none
  len : mg "len" = none
  cl : Cls K CD
  n1 : NoAttr K CD "_text"
  n2 : NoAttr K CD "_cursors"
/-- an editor: the addresses of its lengths and of its cursors -/
def EdAt (H : Hp) (x CD dx tl cl : Addr) : Prop := H x = some (.ins CD dx [("_text", .ref tl), ("_cursors", .ref cl)])
/-- the class and the value of the error of an invalid text or cursor -/
inductive BadEd (b : Addr) (T : List Int) (r : Int) (g : Option Int) : Nat → V → Prop where
  | text0 : T = [] → BadEd b T r g 0 .non
  | text (i : Nat) : T ≠ [] → negAt T = some i → BadEd b T r g 0 (.int i)
  | cursor : T ≠ [] → negAt T = none → ¬ CurOk T.length r g → BadEd b T r g 1 (.ref b)
def spEdInit (K : PySem.W.Frag) (CD : Addr) (cs : Nat → Addr) : Sp := fun vs H Q E => ∃ (x dx t b : Addr) (T : List Int) (r : Int) (g : Option Int), vs = [.ref x, .ref t, .ref b] ∧ H x = some (.ins CD dx []) ∧ SqL K H t (T.map V.int) ∧ SqT K H b [.int r, optV g] ∧
  (∀ i v, BadEd b T r g i v → Err E (cs i) v H) ∧
  (T ≠ [] → negAt T = none → CurOk T.length r g → ∀ (H' : Hp) (tl cl : Addr), Keep x x H H' → H tl = none → H cl = none → tl ≠ cl → EdAt H' x CD dx tl cl → H' tl = some (.lst (T.map V.int)) → H' cl = some (.lst [.ref b]) → Q .non H')
def spEdText (K : PySem.W.Frag) (CD : Addr) : Sp := fun vs H Q _ => ∃ (x dx tl cl : Addr) (T : List Int), vs = [.ref x] ∧ EdAt H x CD dx tl cl ∧ H tl = some (.lst (T.map V.int)) ∧ ∀ (H' : Hp) (p : Addr), Same H H' → H p = none → H' p = some (.lst (T.map V.int)) → Q (.ref p) H'
def spEdCursor (CD : Addr) : Sp := fun vs H Q _ => ∃ (x dx tl cl : Addr) (ys : List V) (y : V), vs = [.ref x] ∧ EdAt H x CD dx tl cl ∧ H cl = some (.lst (ys ++ [y])) ∧ Q y H
def spEdColumn (K : PySem.W.Frag) (CD : Addr) : Sp := fun vs H Q _ => ∃ (x dx tl cl p : Addr) (T : List Int) (ys : List V) (r : Int) (g : Option Int), vs = [.ref x] ∧ EdAt H x CD dx tl cl ∧ H tl = some (.lst (T.map V.int)) ∧ H cl = some (.lst (ys ++ [.ref p])) ∧ SqT K H p [.int r, optV g] ∧ 0 ≤ r ∧ r < T.length ∧
  Q (.int (seen (lenAt T r) g)) H
def spEdUndo (CD CU : Addr) : Sp := fun vs H Q E => ∃ (x dx tl cl : Addr) (ys : List V) (y : V), vs = [.ref x] ∧ EdAt H x CD dx tl cl ∧ H cl = some (.lst (ys ++ [y])) ∧ ys.length ≤ 10000 ∧ (ys = [] → Err E CU (.int 0) H) ∧ (ys ≠ [] → Q .non (upd H cl (.lst ys)))
section
variable {P : Program} {w : World} {K : PySem.W.Frag} {mg : Str → Option Value} {base : Heap} {CD CU : Addr} {cs : Nat → Addr}
theorem sc_Editor___init__ : FnScope ["self", "text", "cursor"] ["self", "text", "cursor"] (defScope s_ed_init) := ⟨rfl, rfl, rfl, by decide +kernel, rfl, by decide +kernel, by decide +kernel⟩
theorem ok_ed_init {f : Addr} {fd : FuncData} (F : Fun K "__init__" "Editor.__init__" s_ed_init f fd) (T : TxtEd K mg CD) (c_check_text : CalX P w K mg base 3 "check_text" (spTextX K (cs 0))) (c_check_cursor : CalX P w K mg base 3 "check_cursor" (spCursorX K (cs 1))) :
    FnOk P w K mg base (L2.CX P w) 4 f fd ["self", "text", "cursor"] (spEdInit K CD cs) := by
  refine F.okX sc_Editor___init__ (fun vs H Q E h => ?_) (fun cdv A outer s H vs Q E hr h => ?_)
  · obtain ⟨x, dx, t, b, T, r, g, rfl, _⟩ := h
    rfl
  · obtain ⟨x, dx, t, b, tx, r, g, rfl, hx, ht, hb, kb, kg⟩ := h
    refine ⟨_, (pss_cons (ps_expr (pe_calX (takes_of rfl rfl rfl rfl) c_check_text hr (by decide) (by rfl) (pa_cons (pv 1) pa_nil)))
      (pss_cons (ps_expr (pe_calX (takes_of rfl rfl rfl rfl) c_check_cursor hr (by decide) (by rfl) (pa_cons (pe_callB call_len_seq (by rfl) T.len (by decide +kernel) (pa_cons (pv 1) pa_nil)) (pa_cons (pv 2) pa_nil))))
      (pss_cons (ps_fld (pv 0) (pe_callTy call_list_of (by rfl) T.list (by decide +kernel) (pa_cons (pv 1) pa_nil)) rfl)
      (pss_one (ps_fld (pv 0) (pe_lst (pa_cons (pv 2) pa_nil)) rfl))))), ?_⟩
    refine ⟨_, rfl, t, tx, rfl, ht, fun z => kb _ _ (.text0 z), fun z i hi => kb _ _ (.text i z hi), fun ne hn H1 e1 => ?_⟩
    refine ⟨_, rfl, t, _, rfl, .inl (e1.seq ht), _, rfl, (tx.map V.int).length, r, g, b, rfl, seq_t e1 hb, (fun z => ?_), fun hc => ?_⟩
    · rw [List.length_map] at z
      exact Err.same e1 (kb _ _ (.cursor ne hn z))
    rw [List.length_map] at hc
    replace kg := kg ne hn hc
    refine ⟨_, rfl, t, _, rfl, .inl (e1.seq ht), fun p np => ?_⟩
    have px : p ≠ x := fun z => by
      rw [z, e1 _ _ hx] at np
      cases np
    have hpn : H p = none := by
      cases q : H p with
      | none => rfl
      | some o =>
        rw [e1 _ _ q] at np
        cases np
    have k1 : Same H (upd H1 p (.lst (tx.map V.int))) := e1.trans (new_same np)
    have hp1 : (upd H1 p (.lst (tx.map V.int))) p = some (.lst (tx.map V.int)) := upd_same
    generalize upd H1 p (.lst (tx.map V.int)) = H2 at k1 hp1 ⊢
    refine ⟨_, rfl, x, CD, dx, [], rfl, k1 _ _ hx, T.cl, T.n1, by decide, ?_⟩
    refine ⟨_, rfl, (by show 1 ≤ sizeLine; decide), fun q nq => ?_⟩
    have qx : q ≠ x := fun z => by
      rw [z, upd_same] at nq
      cases nq
    rw [upd_ne qx] at nq
    have hqn : H q = none := by
      cases z : H q with
      | none => rfl
      | some o =>
        rw [k1 _ _ z] at nq
        cases nq
    have pq : p ≠ q := ne_of_none hp1 nq
    refine ⟨_, rfl, x, CD, dx, _, rfl, (by rw [upd_ne (Ne.symm qx)]; exact upd_same), T.cl, T.n2, (by show 1 < 1000; decide), ?_⟩
    refine kg _ p q (fun c o h1 h2 hc => ?_) hpn hqn pq upd_same ?_ ?_
    · have cq : c ≠ q := fun z => by rw [z, hqn] at hc; cases hc
      rw [upd_ne h1, upd_ne cq, upd_ne h1]
      exact k1 _ _ hc
    · rw [upd_ne px, upd_ne pq, upd_ne px]
      exact hp1
    · rw [upd_ne qx, upd_same]
theorem sc_Editor_text : FnScope ["self"] ["self"] (defScope s_ed_text) := ⟨rfl, rfl, rfl, by decide +kernel, rfl, by decide +kernel, by decide +kernel⟩
theorem ok_ed_text {f : Addr} {fd : FuncData} (F : Fun K "text" "Editor.text" s_ed_text f fd) (T : TxtEd K mg CD) : FnOk P w K mg base CX0 1 f fd ["self"] (spEdText K CD) := by
  refine F.ok sc_Editor_text (fun vs H Q E h => ?_) (fun cdv A outer s H vs Q E hr h => ?_)
  · obtain ⟨x, dx, tl, cl, T, rfl, _⟩ := h
    rfl
  · obtain ⟨x, dx, tl, cl, tx, rfl, hx, ht, k⟩ := h
    refine ⟨_, (pss_one (ps_ret (pe_callTy call_list_of (by rfl) T.list (by decide +kernel) (pa_cons (pe_fld (pv 0) rfl) pa_nil)))), ?_⟩
    exact ⟨_, rfl, x, CD, dx, _, _, rfl, hx, T.cl, T.n1, rfl, tl, _, rfl, .inl (SqL.of ht), fun p np => k _ p (new_same np) np upd_same⟩
theorem sc_Editor_cursor : FnScope ["self"] ["self"] (defScope s_ed_cursor) := ⟨rfl, rfl, rfl, by decide +kernel, rfl, by decide +kernel, by decide +kernel⟩
theorem ok_ed_cursor {f : Addr} {fd : FuncData} (F : Fun K "cursor" "Editor.cursor" s_ed_cursor f fd) (T : TxtEd K mg CD) : FnOk P w K mg base CX0 1 f fd ["self"] (spEdCursor CD) := by
  refine F.ok sc_Editor_cursor (fun vs H Q E h => ?_) (fun cdv A outer s H vs Q E hr h => ?_)
  · obtain ⟨x, dx, tl, cl, ys, y, rfl, _⟩ := h
    rfl
  · obtain ⟨x, dx, tl, cl, ys, y, rfl, hx, hc, k⟩ := h
    refine ⟨_, (pss_one (ps_ret (pe_ix ix_list (pe_fld (pv 0) rfl) (pe_un un_neg pe_int) (fun _ _ => rfl)))), ?_⟩
    exact ⟨_, rfl, x, CD, dx, _, _, rfl, hx, T.cl, T.n2, rfl, _, rfl, cl, _, _, y, rfl, rfl, SqL.of hc, atI_last _ _, k⟩
theorem sc_Editor_column : FnScope ["self", "row", "goal"] ["self"] (defScope s_ed_column) := ⟨rfl, rfl, rfl, by decide +kernel, rfl, by decide +kernel, by decide +kernel⟩
theorem ok_ed_column {f : Addr} {fd : FuncData} (F : Fun K "column" "Editor.column" s_ed_column f fd) (T : TxtEd K mg CD) (c_shown_column : Cal P w K mg base 1 "shown_column" spShown) : FnOk P w K mg base CX0 2 f fd ["self"] (spEdColumn K CD) := by
  refine F.ok sc_Editor_column (fun vs H Q E h => ?_) (fun cdv A outer s H vs Q E hr h => ?_)
  · obtain ⟨x, dx, tl, cl, p, T, ys, r, g, rfl, _⟩ := h
    rfl
  · obtain ⟨x, dx, tl, cl, p, tx, ys, r, g, rfl, hx, ht, hc, hp, r0, r1, k⟩ := h
    refine ⟨_, (pss_cons (ps_asg (pe_ix ix_list (pe_fld (pv 0) rfl) (pe_un un_neg pe_int) (fun _ _ => rfl)) (pg_tup rfl (pgs_cons (pg_name (i := 1) sc_Editor_column.nd rfl (Or.inl rfl)) (pgs_cons (pg_name (i := 2) sc_Editor_column.nd rfl (Or.inl rfl)) pgs_nil))))
      (pss_one (ps_ret (pe_cal c_shown_column hr (by decide) (by rfl) (pa_cons (pe_ix ix_list (pe_fld (pv 0) rfl) (pv 1) (fun _ _ => rfl)) (pa_cons (pv 2) pa_nil)))))), ?_⟩
    refine ⟨_, rfl, x, CD, dx, _, _, rfl, hx, T.cl, T.n2, rfl, _, rfl, cl, _, _, .ref p, rfl, rfl, SqL.of hc, atI_last _ _, ?_⟩
    refine ⟨p, _, rfl, hp, rfl, _, _, rfl, _, _, rfl, rfl, ?_⟩
    refine ⟨_, rfl, x, CD, dx, _, _, rfl, hx, T.cl, T.n1, rfl, _, rfl, tl, _, _, _, rfl, rfl, SqL.of ht, at_lenP r0 r1, _, rfl, _, g, rfl, k⟩
end
end Gc

/-! yield from a list -/
namespace L2
open PySem PySem.Spec PyProof.Rows
section
variable {prog : Program} {w : World} {A : Around} {E : Value → Shared → Prop} {s : Shared}
theorem special_list_item {it t : Addr} {i : Nat} {items : Array Value} {x : Value} {Q : Option Value → Shared → Prop} (hit : s.heap.IsListIter it t i) (ht : s.heap.IsList t items) (hx : items[i]? = some x)
    (hQ : ∀ h', h'.IsListIter it t (i + 1) → Heap.SameBut it s.heap h' → Q (some x) { s with heap := h' }) : wpAny (model prog w) A (callSpecial? (.ref it) "__next__") Q E s := by
  obtain ⟨o, ho, hc, hd⟩ := id hit
  obtain ⟨ol, hol, _, nl, hdl⟩ := ht
  refine wpAny_callSpecial?_slot (name := Str.ofString "__next__") hit.typeIs slot_listiter_next (wpAny_call_entry slot_listiter_next hit.typeIs entry_listiter_next ?_ (args_listiter_next _))
  show wpAny _ _ (field (.ref it) 0 >>= _) _ _ s
  refine wpAny_bind (wpAny_field ho hd (x := .ref t) rfl ?_)
  show wpAny _ _ (if (Value.ref t == Value.none) = true then _ else _) _ _ s
  rw [if_neg (show ¬ ((Value.ref t == Value.none) = true) from Bool.false_ne_true)]
  show wpAny _ _ (field (.ref it) 1 >>= _) _ _ s
  refine wpAny_bind (wpAny_field ho hd (x := .int i 0) rfl ?_)
  show wpAny _ _ (seqItems? (.ref t) >>= _) _ _ s
  refine wpAny_bind (wpAny_seqItems hol hdl ?_)
  simp only [Int.toNat_natCast, hx]
  refine wpAny_bind (wpAny_setField ho hd (by simp) (wpAny_pure ⟨x, rfl, hQ _ ?_ (Heap.SameBut.update ..)⟩))
  exact ⟨_, Heap.get?_update_self _ ho (Obj.isFreed_of_fields (Obj.data_mapFields hd _)), (Obj.cls_mapFields ..).trans hc, by
    rw [Obj.data_mapFields hd]; simp [rawInt]⟩
theorem special_list_end {it t : Addr} {i : Nat} {items : Array Value} {Q : Option Value → Shared → Prop} (hh : A.handled = none) (hit : s.heap.IsListIter it t i) (ht : s.heap.IsList t items) (hx : items[i]? = none)
    (hE : ∀ e h', StopX e h' → Heap.ExtBut it s.heap h' → E e { s with heap := h' }) : wpAny (model prog w) A (callSpecial? (.ref it) "__next__") Q E s := by
  obtain ⟨o, ho, hc, hd⟩ := id hit
  obtain ⟨ol, hol, _, nl, hdl⟩ := ht
  refine wpAny_callSpecial?_slot (name := Str.ofString "__next__") hit.typeIs slot_listiter_next (wpAny_call_entry slot_listiter_next hit.typeIs entry_listiter_next ?_ (args_listiter_next _))
  show wpAny _ _ (field (.ref it) 0 >>= _) _ _ s
  refine wpAny_bind (wpAny_field ho hd (x := .ref t) rfl ?_)
  show wpAny _ _ (if (Value.ref t == Value.none) = true then _ else _) _ _ s
  rw [if_neg (show ¬ ((Value.ref t == Value.none) = true) from Bool.false_ne_true)]
  show wpAny _ _ (field (.ref it) 1 >>= _) _ _ s
  refine wpAny_bind (wpAny_field ho hd (x := .int i 0) rfl ?_)
  show wpAny _ _ (seqItems? (.ref t) >>= _) _ _ s
  refine wpAny_bind (wpAny_seqItems hol hdl ?_)
  simp only [Int.toNat_natCast, hx]
  refine wpAny_bind (wpAny_rule (wpAny_bind (wpAny_setField ho hd (by simp) ?_)))
  show wpAny _ _ (newExc (.type "StopIteration") [] >>= _) _ _ _
  refine wpAny_bind ?_
  simp only [newExc, newTuple]
  refine wpAny_bind (wpAny_newObj_type ?_ (by size_fits))
  refine wpAny_bind (m := firstArgMember _ _) (wpAny_of_eq (a := Value.none) (by first | rfl | (simp only [firstArgMember]; rfl)) ?_)
  refine wpAny_newObj_type ?_ (by size_fits)
  simp only [raiseNew]
  refine wpAny_bind (wpAny_handled ?_)
  first | rw [show A.in1.handled = none from hh] | rw [hh]
  refine wpAny_bind (wpAny_pure (wpAny_throw ?_))
  refine hE _ _ ⟨_, _, _, rfl, Heap.get?_push_size _ rfl, rfl, rfl, ?_⟩ (((Heap.SameBut.update ..).extBut.push _).push _)
  first
    | rfl
    | (rw [Array.getElem?_append_left (by decide)]; rfl)
    | kernel_rfl
end
theorem close_list : typeLookup (.type "list_iterator") "close" = pure none := by rw [typeLookup_type, builtinLookup_eq_fast]; kernel_rfl
def tYfLst (K : PySem.W.Frag) (te : TE) : TYf := fun σ H Q => te σ H fun x H1 => ∃ a xs, x = .ref a ∧ H1 a = some (.lst xs) ∧ Q xs H1
section
variable {X : Cx} {e : Expr} {te : TE}
theorem yf_list (he : PE X e te) : YfE X e (tYfLst X.K te) := by
  refine ⟨fun pins s σ H Q I h => ?_⟩
  refine thn (he.run pins s σ H _ I h) fun v s1 ⟨x, H1, I1, r1, a, xs, ex, ha, hq⟩ => ?_
  subst ex
  obtain rfl : v = Value.ref a := r1
  obtain ⟨its, rits, ht', hz⟩ := I1.list (SqL.of ha)
  have ht : s1.heap.IsList a its.toArray := ht'.isList
  refine ⟨"list", ht.typeIs, by decide, wpAny_pyIter_list ht ?_⟩
  have ksz : ∀ b o, s1.heap.get? b = some o → b ≠ s1.heap.objs.size := fun b o e => Nat.ne_of_lt (Heap.lt_size e)
  have kp : ∀ b o, s1.heap.get? b = some o → (s1.heap.push { cls := .type "list_iterator", data := .fields #[.ref a, .int 0 0] }).get? b = some o := fun b o e => Heap.get?_push_of_some _ e
  have hat : ∀ {h h' : Heap}, h.IsList a its.toArray → (∀ o, h.get? a = some o → h'.get? a = some o) → h'.IsList a its.toArray := fun q k => q.at k
  refine ⟨s1.heap.objs.size, H1, xs, fun j h => h.IsListIter s1.heap.objs.size a j ∧ h.IsList a its.toArray, rfl, I1.kept (t' := s1.toks) kp, .inr I1.sz, Nat.ne_of_gt I1.lt, fun y c hy => ?_, I1.hok.fresh (Nat.le_refl _), fun p hp => ?_,
    ⟨⟨_, Heap.get?_push_size _ rfl, rfl, rfl⟩, hat ht fun o e => kp _ _ e⟩, ⟨⟨"list_iterator", fun j h q => ?_, close_list, by decide⟩, fun j h h' q hk => ?_, fun A' j x s2 Q' E' hA hx q hQ => ?_, fun A' s2 Q' E' hA q hE => ?_⟩, hq⟩
  · obtain ⟨v, o, ho, _⟩ := I1.cell y c hy
    exact ksz c o ho
  · exact ksz p.1 _ (I1.pin p hp).1
  · obtain ⟨⟨o, ho, hc, _⟩, _⟩ := q
    exact ⟨o, ho, hc⟩
  · obtain ⟨⟨o, ho, r⟩, o2, ho2, r2⟩ := q
    exact ⟨⟨o, hk _ o (.inl rfl) ho, r⟩, o2, hk _ o2 (.inr (by rw [ha]; exact fun z => by cases z)) ho2, r2⟩
  · obtain ⟨q1, q2⟩ := q
    obtain ⟨u, hu, ru⟩ := rits.get hx
    have hne : a ≠ s1.heap.objs.size := by
      obtain ⟨o, ho, _⟩ := ht
      exact ksz a o ho
    exact special_list_item q1 q2 (x := u) (by simpa using hu) fun h' q1' hs => hQ u h' s2.toks ru ⟨q1', hat q2 fun o e => hs.extBut _ _ hne e⟩ fun b o hb eb => hs.extBut b o hb eb
  · obtain ⟨q1, q2⟩ := q
    have hnone : its.toArray[xs.length]? = none := by
      have e := rits.length
      have e2 : its[xs.length]? = none := List.getElem?_eq_none_iff.mpr (by omega)
      simpa using e2
    exact special_list_end hA q1 q2 hnone fun e h' hS hk => hE e h' s2.toks hS fun b o hb eb => hk b o hb eb
end
end L2

/-! own classes: methods with *args, methods that are generators -/
namespace L2
open PySem PySem.Spec PyProof.Rows GenW
/-- a method that takes any number of arguments -/
structure MthR (P : Program) (w : World) (K : PySem.W.Frag) (mg : Str → Option Value) (base : Heap) (CX : CXT) (k : Nat) (C : Addr) (m : Str) (sp : Sp) : Prop where
  cls : Cls K C
  ex : ∃ f : Addr, Meth K C m f ∧ FnR P w K mg base CX k f sp
/-- a method that is a generator -/
structure GMth (P : Program) (w : World) (K : PySem.W.Frag) (mg : Str → Option Value) (base : Heap) (k : Nat) (C : Addr) (m : Str) (sp : SpG) : Prop where
  cls : Cls K C
  ex : ∃ (f : Addr) (fd : FuncData) (ps : List Str), Meth K C m f ∧ GFn P w K mg base k f fd ps sp ∧ Binds K fd ps []
section
variable {X : Cx} {k j : Nat} {f C : Addr} {sp : Sp} {W : WX} {m : Str} {pos apos : Pos} {e o : Expr} {es : List Expr} {ta : TE} {t : TA} {pl : Sem Bool}
theorem run_fnRX {pins : List (Addr × Obj)} {σ : L2.St} {H : Hp} {s : Shared} {Q : VK} {us : List Value} {vs : List V} (tk : Takes X W) (F : FnR X.prog X.w X.K X.mg X.base (L2.CX X.prog X.w) k f sp) (hr : Room k X.A) (I : Inv X pins σ H s) (r : Vals vs us)
    (h : sp vs H Q (WE W σ)) : wpAny (model X.prog X.w) X.A (call (.ref f) us) (EP X pins σ Q) X.xe s := by
  apply wpAny_call
  refine codeAny_mono (F X.A X.stack s H us vs Q (WE W σ) hr I.env0 r h) ?_
  rintro (u | fl) s1 z
  · exact passAt tk σ pins H s u s1 I z
  · cases fl with
    | ret u => exact I.after z
    | next => exact False.elim z
    | brk => exact False.elim z
    | cont => exact False.elim z
/-- o.m(e, ..) -/
theorem pe_mthR (tk : Takes X W) (c : MthR X.prog X.w X.K X.mg X.base (L2.CX X.prog X.w) k C m sp) (hr : Room j X.A) (hk : k ≤ j) (he : PE X o ta) (ha : PA X (e :: es) t)
    (hst : starEach (e :: es) X.env = (false, eval e X.env) :: starEach es X.env := by rfl) (hpl : (backTo pos (starEach es X.env)).any (·.1) = false := by rfl)
    (ht : eval (.Call (.Attribute o m apos) (e :: es) [] pos) X.env = (do
      let ov ← eval o X.env
      standAt apos.atName
      let (f, first) ← holding [ov] (getMethod ov m pl)
      callWith pos f first (backTo pos (starEach (e :: es) X.env)) (backToKw pos (keywordEach [] X.env))) := by rfl) :
    PE X (.Call (.Attribute o m apos) (e :: es) [] pos) (tMX C m sp W ta t) := by
  obtain ⟨cl, f, hm, F⟩ := c
  constructor
  intro pins s σ H Q I h
  refine PySem.W.methodCall_KW (pl := pl) (thn (he.run pins s σ H _ I h) ?_) ht
  rintro u s1 ⟨x, H1, I1, rx, a, dx, fs, rfl, ea, l, q⟩
  obtain rfl : u = Value.ref a := rx
  refine getmeth_ok I1 ea cl hm l ?_
  refine PySem.W.callWith_K (first := [.ref a]) (h₀ := X.base) I.ok.mod.kin hm.kp (thn (ha.run pos pins s1 σ H1 _ I1 q) ?_) hst hpl
  rintro us s2 ⟨vs, H2, I2, r, q2⟩
  exact ⟨I2.kIn, run_fnRX (us := .ref a :: us) (vs := .ref a :: vs) tk F (hr.mono hk) I2 (.cons rfl r) q2⟩
/-- o.m() -/
theorem pe_mthR0 (tk : Takes X W) (c : MthR X.prog X.w X.K X.mg X.base (L2.CX X.prog X.w) k C m sp) (hr : Room j X.A) (hk : k ≤ j) (he : PE X o ta)
    (ht : eval (.Call (.Attribute o m apos) [] [] pos) X.env = (do
      let ov ← eval o X.env
      standAt apos.atName
      let (f, first) ← holding [ov] (getMethod ov m pl)
      callWith pos f first (backTo pos (starEach [] X.env)) (backToKw pos (keywordEach [] X.env))) := by rfl) :
    PE X (.Call (.Attribute o m apos) [] [] pos) (tMX C m sp W ta tNil) := by
  obtain ⟨cl, f, hm, F⟩ := c
  constructor
  intro pins s σ H Q I h
  refine PySem.W.methodCall_KW (pl := pl) (thn (he.run pins s σ H _ I h) ?_) ht
  rintro u s1 ⟨x, H1, I1, rx, a, dx, fs, rfl, ea, l, q⟩
  obtain rfl : u = Value.ref a := rx
  refine getmeth_ok I1 ea cl hm l ?_
  exact PySem.W.callWith_K0 (first := [.ref a]) I1.kIn hm.kp (run_fnRX (us := [.ref a]) (vs := [.ref a]) tk F (hr.mono hk) I1 (.cons rfl .nil) q)
end
section
variable {X : Cx} {k j : Nat} {C : Addr} {m : Str} {sp : SpG} {p0 pos pos' apos : Pos} {o : Expr} {ta : TE} {pl : Sem Bool}
/-- list(o.m()), m a generator that raises nothing -/
theorem pe_listM (c : GMth X.prog X.w X.K X.mg X.base k C m sp) (hr : Room (k + 3) X.A) (he : PE X o ta) (hgl : Gl X "list") (hml : X.mg "list" = none)
    (ht : eval (.Call (.Attribute o m apos) [] [] pos') X.env = (do
      let ov ← eval o X.env
      standAt apos.atName
      let (f, first) ← holding [ov] (getMethod ov m pl)
      callWith pos' f first (backTo pos' (starEach [] X.env)) (backToKw pos' (keywordEach [] X.env))) := by rfl)
    (he2 : starEach [.Call (.Attribute o m apos) [] [] pos'] X.env = (false, eval (.Call (.Attribute o m apos) [] [] pos') X.env) :: starEach [] X.env := by rfl) :
    PE X (.Call (.Name "list" p0) [.Call (.Attribute o m apos) [] [] pos'] [] pos) (tListG (tMethG C m sp [] E0 ta tNil)) := by
  obtain ⟨cl, f, fd, ps, hm, F, b⟩ := c
  exact pe_listG (pgen_meth0 (pl := pl) he cl hm F (hr.mono (by omega)) b .nil ht) Gc.passE0 Gc.noStop0 hr hgl hml (by decide +kernel) (by decide) (by decide) he2
end
end L2

/-! a text with commands, as data; repetitions, as data -/
namespace Gc
open PySem L2
def bothD (T : List Int) (cs : List Cmd) : PyData := .list [.list (T.map PyData.int), .list (cs.map cmdD)]
theorem both_show {T : List Int} {cs : List Cmd} (hT : ∀ x ∈ T, Sml x) (hc : ∀ c ∈ cs, CSml c) (lT : T.length ≤ 200) (lc : cs.length ≤ 100) : (bothD T cs).showable = true ∧ (bothD T cs).hasDict = false ∧ (bothD T cs).depth ≤ 60 ∧ (bothD T cs).shown.length ≤ sizeLine := by
  obtain ⟨c1, c2, c3⟩ := cmds_ok0 hc
  have o : Ok0 (bothD T cs) := ok0_list (ok0_cons (ok0_list (ok0_ints hT)) (ok0_cons (ok0_list c1) ok0_nil))
  refine ⟨o.1, o.2.1, ?_, ok0_len o ?_⟩
  · simp only [bothD, PyData.depth, PyData.depthAll, deep_ints]
    omega
  · have w1 := weight_ints hT
    simp only [bothD, PyData.weight, PyData.weightAll]
    omega
theorem both_lay (T : List Int) (cs : List Cmd) : (bothD T cs).canLay0 = true := by
  have h1 : PyData.canLayAll0 (T.map PyData.int) = true := PySem.W.ke_canLayAll0 T
  simp [bothD, PyData.canLay0, PyData.canLayAll0, h1, lay_cmds cs]
theorem csml_of {c : Cmd} (ok : c.ok) (h : numC c < 10 ^ 32) : CSml c := by
  have key : ∀ n : Int, 1 ≤ n → n < 10 ^ 32 → n.natAbs < 2 ^ 120 := fun n h1 h => by omega
  cases c with
  | down n => exact key n ok h
  | up n => exact key n ok h
  | right n => exact key n ok h
  | left n => exact key n ok h
  | home => trivial
  | stop => trivial
theorem chg_le {B : Nat} : ∀ {cs : List Cmd}, (∀ c ∈ cs, c.ok ∧ numC c ≤ B) → (chg cs).natAbs ≤ B * cs.length
  | [], _ => Nat.le_refl _
  | c :: cs, h => by
    have ih := chg_le (B := B) (cs := cs) fun d hd => h d (List.mem_cons_of_mem _ hd)
    obtain ⟨ok, nb⟩ := h c List.mem_cons_self
    have h1 : (chg1 c).natAbs ≤ B := by
      cases c with
      | right n =>
        have o : 1 ≤ n := ok
        have q : n ≤ (B : Int) := nb
        show n.natAbs ≤ B
        omega
      | left n =>
        have o : 1 ≤ n := ok
        have q : n ≤ (B : Int) := nb
        show (-n).natAbs ≤ B
        omega
      | _ => exact Nat.zero_le _
    show (chg1 c + chg cs).natAbs ≤ B * (cs.length + 1)
    rw [Nat.mul_succ]
    omega
/-- a cursor, or the index of the impossible command in a list -/
def repD : Nat ⊕ (Int × Option Int) → PyData
  | .inl n => .list [.int n]
  | .inr x => .tuple [.int x.1, optD x.2]
theorem repD_lay (x : Nat ⊕ (Int × Option Int)) : (repD x).canLay0 = true := by
  rcases x with n | ⟨r, _ | g⟩ <;> rfl
theorem repD_shaped (x : Nat ⊕ (Int × Option Int)) : SeqAt.shaped (repD x) = true := by
  rcases x with n | ⟨r, _ | g⟩ <;> rfl
theorem repDs_shaped (x : Nat ⊕ (Int × Option Int)) : SeqAt.shaped (.list [repD x, repD x]) = true := by
  rcases x with n | ⟨r, _ | g⟩ <;> rfl
theorem repD_eqv (x : Nat ⊕ (Int × Option Int)) : PyData.eqv (repD x) (repD x) = true := SeqAt.eqv_refl _ (repD_lay x)
theorem repDs_eqv (x : Nat ⊕ (Int × Option Int)) : PyData.eqv (.list [repD x, repD x]) (.list [repD x, repD x]) = true := SeqAt.eqv_refl _ (by rcases x with n | ⟨r, _ | g⟩ <;> rfl)
theorem tup_atL {K : PySem.W.Frag} {H : Hp} {l a : Addr} {ys zs xs : List V} (hl : H l = some (.lst ys)) (h1 : SqT K H a xs) : SqT K (upd H l (.lst zs)) a xs := by
  rcases h1 with (z | ⟨o, z⟩) | z
  · exact .inl (.inl (by rw [upd_ne (ne_of z hl (by intro q; cases q))]; exact z))
  · exact .inl (.inr ⟨o, by rw [upd_ne (ne_of z hl (by intro q; cases q))]; exact z⟩)
  · exact .inr z
theorem paired_ins {α β : Type} {F : α → β → Prop} {xs : List α} {ys : List β} {x : α} {y : β} (h : Paired F xs ys) (h1 : F x y) (i : Nat) : Paired F (xs.take i ++ [x] ++ xs.drop i) (ys.take i ++ [y] ++ ys.drop i) :=
  paired_app (paired_app (paired_take i h) (.cons h1 .nil)) (paired_drop i h)
theorem mem_ins {α : Type} {ys : List α} {y z : α} {i : Nat} (h : z ∈ ys.take i ++ [y] ++ ys.drop i) : z = y ∨ z ∈ ys := by
  rcases List.mem_append.mp h with q | q
  · rcases List.mem_append.mp q with q | q
    · exact .inr (List.mem_of_mem_take q)
    · exact .inl (List.mem_singleton.mp q)
  · exact .inr (List.mem_of_mem_drop q)
theorem len_ins {α : Type} (ys : List α) (y : α) {i : Nat} (h : i ≤ ys.length) : (ys.take i ++ [y] ++ ys.drop i).length = ys.length + 1 := by
  rw [List.length_append, List.length_append, List.length_take, List.length_drop, List.length_singleton]
  omega
end Gc

/-! the class Editor: commands pressed, the trail -/
namespace Gc
open PySem L2
abbrev s_ed_press : Stmt := inClass (top 23) 5
abbrev s_ed_trail : Stmt := inClass (top 23) 7
def spTrail (CD : Addr) : SpG := fun vs H Q _ => ∃ (x dx tl cl : Addr) (ys : List V), vs = [.ref x] ∧ EdAt H x CD dx tl cl ∧ H cl = some (.lst ys) ∧ ys.length ≤ 50000 ∧ Q ys H
/-- press, its commands in a tuple -/
def spPressT (K : PySem.W.Frag) (CD : Addr) (cs : Nat → Addr) : Sp := fun vs H Q E => ∃ (x dx tl cl b p : Addr) (T : List Int) (r : Int) (g : Option Int) (ys xs : List V) (rs : List Raw), vs = [.ref x, .ref p] ∧ EdAt H x CD dx tl cl ∧ H tl = some (.lst (T.map V.int)) ∧ H cl = some (.lst (ys ++ [.ref b])) ∧ SqT K H b [.int r, optV g] ∧
  SqT K H p xs ∧ RawsOf K H xs rs ∧ (∀ x ∈ T, 0 ≤ x) ∧ 0 ≤ r ∧ r < T.length ∧ ge g 0 ∧ rs.length ≤ 10000 ∧ ys.length ≤ 10000 ∧ (∀ i, badAt rs = some i → Err E (cs 2) (.int (i : Nat)) H) ∧ (badAt rs = none → ∀ n, failAt T r g (rs.map Raw.cmd) = some n → Err E (cs 3) (.int (n : Nat)) H) ∧
  ∀ (H' : Hp) (zs : List V), badAt rs = none → failAt T r g (rs.map Raw.cmd) = none → Keep cl cl H H' → H' cl = some (.lst ((ys ++ [.ref b]) ++ zs)) → SpotsOf K H' zs (trailL T r g (rs.map Raw.cmd)) → Q .non H'
/-- press, its commands one by one -/
def spPress (K : PySem.W.Frag) (CD : Addr) (cs : Nat → Addr) : Sp := fun vs H Q E => ∃ (x dx tl cl b : Addr) (T : List Int) (r : Int) (g : Option Int) (ys xs : List V) (rs : List Raw), vs = .ref x :: xs ∧ EdAt H x CD dx tl cl ∧ H tl = some (.lst (T.map V.int)) ∧ H cl = some (.lst (ys ++ [.ref b])) ∧ SqT K H b [.int r, optV g] ∧
  RawsOf K H xs rs ∧ (∀ x ∈ T, 0 ≤ x) ∧ 0 ≤ r ∧ r < T.length ∧ ge g 0 ∧ rs.length ≤ 10000 ∧ ys.length ≤ 10000 ∧ (∀ i, badAt rs = some i → Err E (cs 2) (.int (i : Nat)) H) ∧ (badAt rs = none → ∀ n, failAt T r g (rs.map Raw.cmd) = some n → Err E (cs 3) (.int (n : Nat)) H) ∧
  ∀ (H' : Hp) (zs : List V), badAt rs = none → failAt T r g (rs.map Raw.cmd) = none → Keep cl cl H H' → H' cl = some (.lst ((ys ++ [.ref b]) ++ zs)) → SpotsOf K H' zs (trailL T r g (rs.map Raw.cmd)) → Q .non H'
theorem cut_one (x : V) (zs : List V) : cutV (x :: zs) (some 1) none = zs := by
  unfold cutV
  have h1 : HT.sIx (x :: zs).length 0 (some 1) = 1 := by
    unfold HT.sIx
    simp
    try omega
  have h2 : HT.sIx (x :: zs).length (x :: zs).length none = zs.length + 1 := rfl
  rw [h1, h2]
  simp
section
variable {P : Program} {w : World} {K : PySem.W.Frag} {mg : Str → Option Value} {base : Heap} {CD : Addr} {cs : Nat → Addr}
theorem sc_Editor_trail : GScope ["self"] ["self"] (defScope s_ed_trail) := ⟨rfl, rfl, rfl, by decide +kernel, rfl, by decide +kernel, by decide +kernel⟩
theorem ok_ed_trail {f : Addr} {fd : FuncData} (F : Fun K "trail" "Editor.trail" s_ed_trail f fd) (T : TxtEd K mg CD) : GFn P w K mg base 1 f fd ["self"] (spTrail CD) := by
  refine gen_ok F sc_Editor_trail (fun vs H Q E h => ?_) (fun cdv A outer s H vs Q E pn hr h => ?_)
  · obtain ⟨x, dx, tl, cl, ys, rfl, _⟩ := h
    rfl
  · obtain ⟨x, dx, tl, cl, ys, rfl, hx, hc, ln, k⟩ := h
    refine ⟨_, (gss_cons (gs_yieldFrom (yf_list (pe_fld (pv 0) rfl)) hr.hd)
      gss_nil), ?_⟩
    refine ⟨_, rfl, x, CD, dx, _, _, rfl, hx, T.cl, T.n2, rfl, cl, ys, rfl, hc, ?_, k⟩
    rw [List.length_nil, Nat.zero_add]
    exact Nat.le_of_lt (lt_line (by omega))
theorem sc_Editor_press : FnScope ["self", "commands", "passed"] (([("self" : Str)] : List Str) ++ [("commands" : Str)]) (defScope s_ed_press) := ⟨rfl, rfl, rfl, by decide +kernel, rfl, by decide +kernel, by decide +kernel⟩
theorem ok_ed_press {f : Addr} {fd : FuncData} (F : Fun K "press" "Editor.press" s_ed_press f fd) (T : TxtEd K mg CD) (c_cursor : Prp P w K mg base 1 CD "cursor" (spEdCursor CD)) (c_places : GCal P w K mg base 5 "places" (spPlacesT K cs))
    (ns : ∀ i, i = 2 ∨ i = 3 → PySem.W.subIn K (.ref (cs i)) (.type "StopIteration") = some false) : FnR P w K mg base (L2.CX P w) 9 f (spPress K CD cs) := by
  obtain ⟨oc, od, kV, doc, pm, an, cdv, ct, osl, rfl, lk, hcd⟩ := F.ex
  have key := StX.fn_star (ps := ["self"]) (pv := "commands") (sp := spPressT K CD cs) (CX := L2.CX P w) (P := P) (w := w) (mg := mg) (base := base) (k := 8) lk hcd sc_Editor_press StX.cxUp (fun us rest hl => by
    match us, hl with
    | [u], _ => cases rest <;> rfl) (fun A outer s H vs Q E hr h => ?_)
  · intro A outer s H us vs Q E hr e0 rv h
    refine key A outer s H us vs Q E hr e0 rv ?_
    obtain ⟨x, dx, tl, cl, b, tx, r, g, ys, xs, rs, rfl, hx, ht, hc, hb, hrs, nn, r0, r1, g0, ln, lny, kb, kf, kg⟩ := h
    have xl := Paired.length hrs
    refine ⟨[.ref x], xs, rfl, rfl, Nat.le_of_lt (lt_line (by omega)), fun p np => ?_⟩
    have e1 := new_same (o := HO.tup xs) np
    refine ⟨x, dx, tl, cl, b, p, tx, r, g, ys, xs, rs, rfl, e1 _ _ hx, e1 _ _ ht, e1 _ _ hc, seq_t e1 hb, SqT.of upd_same, RawsOf.same e1 hrs, nn, r0, r1, g0, ln, lny, (fun i hi => Err.same e1 (kb i hi)), (fun h1 n hn => Err.same e1 (kf h1 n hn)), fun H' zs h1 h2 kp hc' hz => kg H' zs h1 h2 (fun c o c1 c2 hco => kp _ _ c1 c2 (e1 _ _ hco)) hc' hz⟩
  · obtain ⟨x, dx, tl, cl, b, p, tx, r, g, ys, xs, rs, rfl, hx, ht, hc, hb, hp, hrs, nn, r0, r1, g0, ln, lny, kb, kf, kg⟩ := h
    refine ⟨_, (pss_cons (ps_set (i := 2) sc_Editor_press.nd rfl (Or.inl rfl) (pe_listGX (takes_of rfl rfl rfl rfl) c_places (hr.mono (by decide)) (by rfl) (pa_cons (pe_fld (pv 0) rfl) (pa_cons (pe_prp c_cursor hr (by decide) (pv 0) rfl) (pa_cons (pv 1) pa_nil))) (by rfl) T.list))
      (pss_one (ps_expr (pe_bm PySem.F.plainAttrs_list PySem.F.slot_list_extend PySem.F.type_list_extend mt_extend (pe_fld (pv 0) rfl) (pa_cons (pe_slice sl_list (pv 2) (po_some pe_int) po_none) pa_nil))))), ?_⟩
    refine ⟨_, rfl, x, CD, dx, _, _, rfl, hx, T.cl, T.n1, rfl, _, rfl, x, dx, _, rfl, hx, x, dx, tl, cl, ys, .ref b, rfl, hx, hc, _, rfl, tl, b, p, tx, r, g, xs, rs, rfl, SqL.of ht, hb, hp, hrs, nn, r0, r1, g0, ln, (fun i hi H' d e nd => ⟨ns 2 (.inl rfl), kb i hi H' d e nd⟩), (fun h1 n hn H' d e nd => ⟨ns 3 (.inr rfl), kf h1 n hn H' d e nd⟩), fun H1 zs h1 h2 e1 hz q nq => ?_⟩
    have e_H2 : Same H1 (upd H1 q (.lst (.ref b :: zs))) := new_same nq
    have h_q : (upd H1 q (.lst (.ref b :: zs))) q = some (.lst (.ref b :: zs)) := upd_same
    generalize upd H1 q (.lst (.ref b :: zs)) = H2 at e_H2 h_q ⊢
    replace e1 := e1.trans e_H2
    replace hz := hz.same e_H2
    refine ⟨_, rfl, x, CD, dx, _, _, rfl, e1 _ _ hx, T.cl, T.n2, rfl, .inl ⟨rfl, _, SqL.of (e1 _ _ hc)⟩, ?_⟩
    refine ⟨_, rfl, _, rfl, q, _, rfl, SqL.of h_q, fun p2 np2 => ?_⟩
    rw [cut_one]
    have e3 := new_same (o := HO.lst zs) np2
    have zl := hz.len
    have tl2 := trail_len (T := tx) (cs := rs.map Raw.cmd) (r := r) (g := g)
    rw [List.length_map] at tl2
    refine ⟨cl, p2, ys ++ [.ref b], zs, rfl, rfl, e3 _ _ (e1 _ _ hc), upd_same, Nat.le_of_lt (lt_line (by rw [List.length_append]; show ys.length + 1 + _ ≤ _; omega)), ?_⟩
    refine kg _ zs h1 h2 (fun c o c1 _ hco => ?_) upd_same (Paired.mapP hz fun _ _ ⟨p5, z5, q5⟩ => ⟨p5, z5, tup_atL (e3 _ _ (e1 _ _ hc)) (seq_t e3 q5)⟩)
    rw [upd_ne c1]
    exact e3 _ _ (e1 _ _ hco)
end
end Gc

/-! what is known of the error classes; R: which of them may be raised -/
namespace L2
open PySem PySem.Spec PyProof.Rows
/-- e.value in a def that was handed the caught error -/
theorem pe_xfE {X : Cx} {e : Expr} {te : TE} {a : Addr} {oe : Obj} {C dd : Addr} {pos : Pos} (hp : (a, oe) ∈ X.pn) (hz : Zc (.ref C) (some dd) oe) (hf : ∃ vs, oe.data = .fields vs) (he : PE X e te) (hb : attributeBase e "value" X.env (eval e X.env) = eval e X.env := by rfl) :
    PE X (.Attribute e "value" pos) (tXfA X.K a (.ref C) (some dd) te) := by
  refine ⟨fun pins s σ H Q I h => ?_⟩
  refine attr_of hb (thn (he.run pins s σ H _ I h) fun u s1 hh => ?_)
  obtain ⟨x, H1, I1, rx, ex, C', dd', v, ec, ed, T, hd, q⟩ := hh
  subst ex
  obtain rfl : u = Value.ref a := rx
  cases ec
  cases ed
  obtain ⟨od, mA, J, hl, rel⟩ := pin_inst I1 hp hz hf hd
  obtain ⟨u, hu, ru⟩ := RelO.some_of (v := v) (o := mA "value") (by
    have z := rel "value"
    rw [show List.lookup ("value" : Str) [(("value" : Str), v)] = some v by simp [List.lookup]] at z
    exact z)
  exact HandSPX.exc_get I1.kIn J T.ga T.gg T.be (PySem.W.findObj_own T.hd T.no rfl (by rw [hl, hu])) (handed_of ru) ⟨v, H1, I1.tok _, ru, q⟩
end L2
namespace Gc
open PySem L2
structure TxtE (K : PySem.W.Frag) (mg : Str → Option Value) (cs : Nat → Addr) (CE : Addr) (R : Nat → Prop) : Prop where
  g0 : mg "InvalidText" = some (.ref (cs 0))
  g1 : mg "InvalidCursor" = some (.ref (cs 1))
  g2 : mg "InvalidCommand" = some (.ref (cs 2))
  g3 : mg "Impossible" = some (.ref (cs 3))
  g4 : mg "InvalidNumber" = some (.ref (cs 4))
  g5 : mg "NothingToUndo" = some (.ref (cs 5))
  g6 : mg "Unreadable" = some (.ref (cs 6))
  gE : mg "CursorError" = some (.ref CE)
  lt : ∀ i, R i → i < 7
  kit : ∀ i j, R i → j < 7 → PySem.W.kitOne K (.ref (cs i)) (.ref (cs j)) = some (decide (i = j))
  kve : ∀ i, R i → PySem.W.kitOne K (.ref (cs i)) (.type "ValueError") = some true
  kce : ∀ i, R i → PySem.W.kitOne K (.ref (cs i)) (.ref CE) = some true
  ex : ∀ i, R i → PySem.W.exmOne K (.ref (cs i)) (.ref CE) = some true
  ei : ∀ i, R i → ErrI K (cs i)
  isinstance : mg "isinstance" = none
  ValueError : mg "ValueError" = none
def nmE : Nat → Str
  | 0 => "InvalidText"
  | 1 => "InvalidCursor"
  | 2 => "InvalidCommand"
  | 3 => "Impossible"
  | 4 => "InvalidNumber"
  | 5 => "NothingToUndo"
  | _ => "Unreadable"
end Gc

/-! list.count of plain values -/
namespace L2
open PySem PySem.Spec PyProof.Rows
section
variable {X : Cx}
def rCntF (K : PySem.W.Frag) : V → List V → Hp → VK → Prop := fun x xs H Q => ∃ (p : Addr) (ys : List V) (y : V), x = .ref p ∧ xs = [y] ∧ SqL K H p ys ∧ flatV y = true ∧ ys.all flatV = true ∧ Q (.int (ys.countP (fun z => eqV z y) : Nat)) H
theorem count_valsF {y : V} : ∀ {ys : List V} {us : List Value}, ys.all flatV = true → Vals ys us → us.countP (eqU y) = ys.countP (fun z => eqV z y)
  | [], _, _, h => by
    cases h
    rfl
  | a :: ys, _, f, h => by
    rw [List.all_cons, Bool.and_eq_true] at f
    cases h with
    | cons r t => rw [List.countP_cons, List.countP_cons, count_valsF f.2 t, eqU_of r f.1]
theorem mt_countF : MtR X "list.count" (rCntF X.K) := by
  intro pins s σ H x xs v us Q I rx rxs h
  obtain ⟨p, ys, y, rfl, rfl, hs, fy, fys, q⟩ := h
  cases rx
  cases rxs with
  | cons ry rt =>
    rename_i uy ut
    cases rt
    obtain ⟨its, rv, ⟨⟨cls, dd, data, sl⟩, n, ho, hc, hdn, hd⟩, hlen⟩ := I.list hs
    simp only at hc hd
    subst hc hd
    refine call_meets PySem.F.slot_list_count ⟨_, ho, rfl⟩ PySem.F.entry_list_count (PySem.F.args_list_count_2 _ _)
      (SeqAt.list_countAt p its.toArray n dd sl uy (eqU y)) ⟨ho, fun u hu => mem_eqAt ry fy rv fys u (by simpa using hu), ?_⟩
    have ec : its.toArray.toList.countP (eqU y) = ys.countP (fun z => eqV z y) := count_valsF fys rv
    refine ⟨.int (ys.countP (fun z => eqV z y) : Nat), H, I.tok _, ⟨s.toks, ?_⟩, q⟩
    show Value.int ((its.toArray.toList.countP (eqU y) : Nat) : Int) s.toks = _
    rw [ec]
end
end L2

/-! the word of a held error -/
namespace Gc
open PySem L2
abbrev s_kind : Stmt := top 9999
def kindW : Nat → Str
  | 0 => "text"
  | 1 => "cursor"
  | 2 => "command"
  | 3 => "impossible"
  | 4 => "number"
  | 5 => "undo"
  | _ => "read"
def spKindK (K : PySem.W.Frag) (cs : Nat → Addr) (R : Nat → Prop) : Sp := fun vs H Q _ => ∃ (a : Addr) (i : Nat) (v : V), vs = [.ref a] ∧ R i ∧ Held H a (cs i) v ∧ ∀ H', Same H H' → Q (.str (kindW i)) H'
def oneI (i : Nat) : List V := [.bl (decide (i = 0)), .bl (decide (i = 1)), .bl (decide (i = 2)), .bl (decide (i = 3)), .bl (decide (i = 4)), .bl (decide (i = 5)), .bl (decide (i = 6))]
theorem one_cnt {i : Nat} (h : i < 7) : (oneI i).countP (fun z => eqV z (.bl true)) = 1 := by
  match i, h with
  | 0, _ => rfl
  | 1, _ => rfl
  | 2, _ => rfl
  | 3, _ => rfl
  | 4, _ => rfl
  | 5, _ => rfl
  | 6, _ => rfl
theorem one_idx {i : Nat} (h : i < 7) : (oneI i)[i]? = some (.bl true) ∧ ∀ (m : Nat) (z : V), m < i → (oneI i)[m]? = some z → eqV z (.bl true) = false := by
  have key : ∀ i : Fin 7, (oneI i.val)[i.val]? = some (.bl true) ∧ ∀ m : Fin 7, m < i → ∃ z, (oneI i.val)[m.val]? = some z ∧ eqV z (.bl true) = false := by
    intro i
    match i with
    | 0 => exact ⟨rfl, fun m hm => absurd hm (by omega)⟩
    | 1 => exact ⟨rfl, fun m hm => by match m, hm with | 0, _ => exact ⟨_, rfl, rfl⟩⟩
    | 2 => exact ⟨rfl, fun m hm => by match m, hm with | 0, _ => exact ⟨_, rfl, rfl⟩ | 1, _ => exact ⟨_, rfl, rfl⟩⟩
    | 3 => exact ⟨rfl, fun m hm => by match m, hm with | 0, _ => exact ⟨_, rfl, rfl⟩ | 1, _ => exact ⟨_, rfl, rfl⟩ | 2, _ => exact ⟨_, rfl, rfl⟩⟩
    | 4 => exact ⟨rfl, fun m hm => by match m, hm with | 0, _ => exact ⟨_, rfl, rfl⟩ | 1, _ => exact ⟨_, rfl, rfl⟩ | 2, _ => exact ⟨_, rfl, rfl⟩ | 3, _ => exact ⟨_, rfl, rfl⟩⟩
    | 5 => exact ⟨rfl, fun m hm => by match m, hm with | 0, _ => exact ⟨_, rfl, rfl⟩ | 1, _ => exact ⟨_, rfl, rfl⟩ | 2, _ => exact ⟨_, rfl, rfl⟩ | 3, _ => exact ⟨_, rfl, rfl⟩ | 4, _ => exact ⟨_, rfl, rfl⟩⟩
    | 6 => exact ⟨rfl, fun m hm => by match m, hm with | 0, _ => exact ⟨_, rfl, rfl⟩ | 1, _ => exact ⟨_, rfl, rfl⟩ | 2, _ => exact ⟨_, rfl, rfl⟩ | 3, _ => exact ⟨_, rfl, rfl⟩ | 4, _ => exact ⟨_, rfl, rfl⟩ | 5, _ => exact ⟨_, rfl, rfl⟩⟩
  obtain ⟨k1, k2⟩ := key ⟨i, h⟩
  refine ⟨k1, fun m z hm hz => ?_⟩
  obtain ⟨z', h1, h2⟩ := k2 ⟨m, by omega⟩ hm
  have : some z = some z' := hz.symm.trans h1
  rw [Option.some.inj this]
  exact h2
end Gc

/-! editors as the laws use them: what they tell, commands pressed at once -/
namespace Gc
open PySem L2
abbrev s_told_right : Stmt := top 33
abbrev s_pressed : Stmt := top 34
abbrev Spot := Int × Option Int
/-- an editor in the heap: the lines, the cursors -/
structure EdSt (K : PySem.W.Frag) (H : Hp) (x CD dx tl cl : Addr) (T : List Int) (ys : List V) (qs : List Spot) : Prop where
  ed : EdAt H x CD dx tl cl
  ht : H tl = some (.lst (T.map V.int))
  hc : H cl = some (.lst ys)
  sp : SpotsOf K H ys qs
theorem EdSt.same {K : PySem.W.Frag} {H H' : Hp} {x CD dx tl cl : Addr} {T : List Int} {ys : List V} {qs : List Spot} (h : EdSt K H x CD dx tl cl T ys qs) (e : Same H H') : EdSt K H' x CD dx tl cl T ys qs := ⟨e _ _ h.ed, e _ _ h.ht, e _ _ h.hc, h.sp.same e⟩
theorem EdSt.ne {K : PySem.W.Frag} {H : Hp} {x CD dx tl cl : Addr} {T : List Int} {ys : List V} {qs : List Spot} (h : EdSt K H x CD dx tl cl T ys qs) (hq : qs ≠ []) : tl ≠ cl := fun z => by
  have h1 := h.ht
  have h2 := h.hc
  rw [z, h2] at h1
  have e := HO.lst.inj (Option.some.inj h1)
  have h3 := h.sp
  rw [e] at h3
  cases T with
  | nil =>
    cases h3
    exact hq rfl
  | cons a T =>
    cases h3 with
    | cons f _ =>
      obtain ⟨p, e2, _⟩ := f
      cases e2
theorem dp_intsE {K : PySem.W.Frag} {H : Hp} : ∀ T : List Int, DpAll K H (T.map V.int) (T.map PyData.int)
  | [] => .nil
  | x :: T => .cons (.int x) (dp_intsE T)
/-- a cursor on a line of the text -/
def SpotIn (T : List Int) (q : Spot) : Prop := 0 ≤ q.1 ∧ q.1 < T.length ∧ ge q.2 0
theorem step_nn {T : List Int} {r : Int} {g : Option Int} {c : Cmd} {x : Spot} (hT : ∀ x ∈ T, 0 ≤ x) (ok : c.ok) (hg : ge g 0) (h : stepP T r g c = some x) : ge x.2 0 := by
  refine after_nn hT (cs := [c]) (r := r) (g := g) (fun d hd => by rw [List.mem_singleton.mp hd]; exact ok) hg ?_
  rw [afterL_step, h]
  rfl
theorem trail_in {T : List Int} (hT : ∀ x ∈ T, 0 ≤ x) : ∀ {cs : List Cmd} {r : Int} {g : Option Int}, AllOk cs → SpotIn T (r, g) → ∀ q ∈ trailL T r g cs, SpotIn T q
  | [], _, _, _, _, q, h => nomatch h
  | c :: cs, r, g, ok, i, q, h => by
    obtain ⟨i0, i1, i2⟩ := i
    have i0' : 0 ≤ r := i0
    have i1' : r < T.length := i1
    unfold trailL at h
    rw [step_eq i0' i1'] at h
    cases e : stepP T r g c with
    | none =>
      rw [e] at h
      cases h
    | some y =>
      rw [e] at h
      have iy : SpotIn T y := by
        obtain ⟨a, b⟩ := step_row i0' i1' e
        exact ⟨a, b, step_nn hT (ok c List.mem_cons_self) i2 e⟩
      rcases List.mem_cons.mp h with z | z
      · rw [z]; exact iy
      · exact trail_in hT (fun d hd => ok d (List.mem_cons_of_mem _ hd)) iy q z
theorem spots_split {K : PySem.W.Frag} {H : Hp} {ys : List V} {qs : List Spot} {q : Spot} (h : SpotsOf K H ys (qs ++ [q])) : ∃ (zs : List V) (b : Addr), ys = zs ++ [.ref b] ∧ SpotsOf K H zs qs ∧ SqT K H b [.int q.1, optV q.2] := by
  induction qs generalizing ys with
  | nil =>
    cases h with
    | cons a t =>
      cases t
      obtain ⟨p, rfl, hp⟩ := a
      exact ⟨[], p, rfl, .nil, hp⟩
  | cons q0 qs ih =>
    cases h with
    | cons a t =>
      obtain ⟨zs, b, rfl, h1, h2⟩ := ih t
      exact ⟨_ :: zs, b, rfl, .cons a h1, h2⟩
theorem dp_optE {K : PySem.W.Frag} {H : Hp} (o : Option Int) : Dp K H (optV o) (optD o) := by
  cases o with
  | none => exact .non
  | some n => exact .int n
def spotD (q : Spot) : PyData := .tuple [.int q.1, optD q.2]
theorem spot_dp {K : PySem.W.Frag} {H : Hp} {b : Addr} {q : Spot} (h : SqT K H b [.int q.1, optV q.2]) : Dp K H (.ref b) (spotD q) := .tup h (.cons (.int _) (.cons (dp_optE _) .nil))
theorem spots_dpE {K : PySem.W.Frag} {H : Hp} : ∀ {vs : List V} {qs : List Spot}, SpotsOf K H vs qs → DpAll K H vs (qs.map spotD)
  | _, _, .nil => .nil
  | _, _, .cons ⟨p, e, h⟩ t => by
    subst e
    exact .cons (spot_dp h) (spots_dpE t)
theorem lay_spot (q : Spot) : (spotD q).canLay0 = true := by
  rcases q with ⟨r, _ | g⟩ <;> rfl
theorem deep_spot (q : Spot) : (spotD q).depth ≤ 2 := by
  rcases q with ⟨r, _ | g⟩ <;> simp [spotD, optD, PyData.depth, PyData.depthAll]
theorem lay_spotsE : ∀ qs : List Spot, PyData.canLayAll0 (qs.map spotD) = true
  | [] => by simp [PyData.canLayAll0]
  | q :: qs => by rw [List.map_cons, PyData.canLayAll0, lay_spotsE qs, lay_spot q]; rfl
theorem deep_spotsE : ∀ qs : List Spot, PyData.depthAll (qs.map spotD) ≤ 2
  | [] => by simp [PyData.depthAll]
  | q :: qs => by
    rw [List.map_cons, PyData.depthAll]
    exact Nat.max_le.mpr ⟨deep_spot q, deep_spotsE qs⟩
theorem lay_ints : ∀ T : List Int, PyData.canLayAll0 (T.map PyData.int) = true
  | [] => by simp [PyData.canLayAll0]
  | x :: T => by rw [List.map_cons, PyData.canLayAll0, lay_ints T]; rfl
theorem deep_intsE : ∀ T : List Int, PyData.depthAll (T.map PyData.int) ≤ 2
  | [] => by simp [PyData.depthAll]
  | x :: T => by
    rw [List.map_cons, PyData.depthAll]
    exact Nat.max_le.mpr ⟨by simp [PyData.depth], deep_intsE T⟩
theorem shaped_of {d : PyData} (h1 : d.canLay0 = true) (h2 : d.depth ≤ 64) : SeqAt.shaped d = true := by
  unfold SeqAt.shaped
  rw [h1, decide_eq_true h2]
  rfl
theorem shaped_spots (qs : List Spot) : SeqAt.shaped (.list (qs.map spotD)) = true := by
  refine shaped_of ?_ ?_
  · rw [PyData.canLay0]
    exact lay_spotsE qs
  · have := deep_spotsE qs
    simp only [PyData.depth]
    omega
def toldD (T : List Int) (q : Spot) : PyData := .list [.list (T.map PyData.int), spotD q, .int (seen (lenAt T q.1) q.2)]
theorem told_lay (T : List Int) (q : Spot) : (toldD T q).canLay0 = true := by
  simp only [toldD, PyData.canLay0, PyData.canLayAll0]
  rw [lay_ints T, show (spotD q).canLay0 = true from lay_spot q]
  rfl
theorem told_shaped (T : List Int) (q : Spot) : SeqAt.shaped (toldD T q) = true := by
  refine shaped_of (told_lay T q) ?_
  have h1 := deep_intsE T
  have h2 := deep_spot q
  simp only [toldD, PyData.depth, PyData.depthAll]
  omega
theorem spots_eqv (qs : List Spot) : PyData.eqv (.list (qs.map spotD)) (.list (qs.map spotD)) = true := SeqAt.eqv_refl _ (by rw [PyData.canLay0]; exact lay_spotsE qs)
structure TxtEL (mg : Str → Option Value) : Prop where
  list : mg "list" = none
  min : mg "min" = none
  len : mg "len" = none
def spToldR (K : PySem.W.Frag) (CD : Addr) : Sp := fun vs H Q _ => ∃ (x dx tl cl l t : Addr) (T : List Int) (ys zs : List V) (qs : List Spot) (q : Spot), vs = [.ref x, .ref l, .ref t] ∧ EdSt K H x CD dx tl cl T ys (qs ++ [q]) ∧ SqL K H l (T.map V.int) ∧ SqL K H t zs ∧ SpotsOf K H zs (qs ++ [q]) ∧ SpotIn T q ∧ qs.length ≤ 10000 ∧ ∀ H', Same H H' → Q (.bl true) H'
@[irreducible] def zToldR (K : PySem.W.Frag) (CD : Addr) : Sp := spToldR K CD
theorem zToldR_eq (K : PySem.W.Frag) (CD : Addr) : zToldR K CD = spToldR K CD := by unfold zToldR; rfl
theorem ask_toldR {K : PySem.W.Frag} {CD : Addr} {H : Hp} {Q : VK} {E : XK} {x dx tl cl l t : Addr} {T : List Int} {ys zs : List V} {qs : List Spot} (hx : EdSt K H x CD dx tl cl T ys qs) (hl : SqL K H l (T.map V.int)) (ht : SqL K H t zs) (hz : SpotsOf K H zs qs) (ne : qs ≠ []) (hin : ∀ q ∈ qs, SpotIn T q) (ln : qs.length ≤ 10000)
    (k : ∀ H', Same H H' → Q (.bl true) H') : zToldR K CD [.ref x, .ref l, .ref t] H Q E := by
  rw [zToldR_eq]
  obtain ⟨qs', q, rfl⟩ : ∃ qs' q, qs = qs' ++ [q] := ⟨_, _, (List.dropLast_concat_getLast ne).symm⟩
  rw [List.length_append] at ln
  exact ⟨x, dx, tl, cl, l, t, T, ys, zs, qs', q, rfl, hx, hl, ht, hz, hin q (by simp), by omega, k⟩
/-- an invalid command, an impossible one, or all of them run -/
def spPressed (K : PySem.W.Frag) (CD : Addr) (cs : Nat → Addr) : Sp := fun vs H Q E => ∃ (x dx tl cl s : Addr) (T : List Int) (r : Int) (g : Option Int) (ys xs : List V) (qs : List Spot) (rs : List Raw), vs = [.ref x, .ref s] ∧ EdSt K H x CD dx tl cl T ys (qs ++ [(r, g)]) ∧ SqL K H s xs ∧ RawsOf K H xs rs ∧ rs.length ≤ 4 ∧ (∀ x ∈ T, 0 ≤ x) ∧ SpotIn T (r, g) ∧ qs.length ≤ 9000 ∧
  (∀ i, badAt rs = some i → Err E (cs 2) (.int (i : Nat)) H) ∧ (badAt rs = none → ∀ n, failAt T r g (rs.map Raw.cmd) = some n → Err E (cs 3) (.int (n : Nat)) H) ∧
  ∀ (H' : Hp) (zs : List V), badAt rs = none → failAt T r g (rs.map Raw.cmd) = none → Keep cl cl H H' → EdSt K H' x CD dx tl cl T (ys ++ zs) ((qs ++ [(r, g)]) ++ trailL T r g (rs.map Raw.cmd)) → Q .non H'
@[irreducible] def zPressed (K : PySem.W.Frag) (CD : Addr) (cs : Nat → Addr) : Sp := spPressed K CD cs
theorem zPressed_eq (K : PySem.W.Frag) (CD : Addr) (cs : Nat → Addr) : zPressed K CD cs = spPressed K CD cs := by unfold zPressed; rfl
@[irreducible] def zPress (K : PySem.W.Frag) (CD : Addr) (cs : Nat → Addr) : Sp := spPress K CD cs
theorem zPress_eq (K : PySem.W.Frag) (CD : Addr) (cs : Nat → Addr) : zPress K CD cs = spPress K CD cs := by unfold zPress; rfl
/-- press, over an editor's state -/
theorem ask_press {K : PySem.W.Frag} {CD : Addr} {cs : Nat → Addr} {H : Hp} {Q : VK} {E : XK} {x dx tl cl : Addr} {T : List Int} {r : Int} {g : Option Int} {ys xs : List V} {qs : List Spot} {rs : List Raw} (hx : EdSt K H x CD dx tl cl T ys (qs ++ [(r, g)])) (hr : RawsOf K H xs rs) (ln : rs.length ≤ 10000) (nn : ∀ x ∈ T, 0 ≤ x) (hin : SpotIn T (r, g)) (lq : qs.length ≤ 9000)
    (ne : tl ≠ cl) (kb : ∀ i, badAt rs = some i → Err E (cs 2) (.int (i : Nat)) H) (kf : badAt rs = none → ∀ n, failAt T r g (rs.map Raw.cmd) = some n → Err E (cs 3) (.int (n : Nat)) H)
    (k : ∀ (H' : Hp) (zs : List V), badAt rs = none → failAt T r g (rs.map Raw.cmd) = none → Keep cl cl H H' → EdSt K H' x CD dx tl cl T (ys ++ zs) ((qs ++ [(r, g)]) ++ trailL T r g (rs.map Raw.cmd)) → Q .non H') : zPress K CD cs (.ref x :: xs) H Q E := by
  rw [zPress_eq]
  obtain ⟨h1, h2, h3, h4⟩ := hx
  obtain ⟨zs, b, rfl, h5, h6⟩ := spots_split h4
  have ly := h5.len
  refine ⟨x, dx, tl, cl, b, T, r, g, zs, xs, rs, rfl, h1, h2, h3, h6, hr, nn, hin.1, hin.2.1, hin.2.2, ln, by omega, kb, kf, fun H' us g1 g2 kp hc hu => ?_⟩
  have xc : x ≠ cl := ne_of h1 h3 (by intro q; cases q)
  refine k H' us g1 g2 kp ⟨kp _ _ xc xc h1, kp _ _ ne ne h2, hc, paired_app (Paired.mapP h4 fun _ _ ⟨p, e, q⟩ => ⟨p, e, ?_⟩) hu⟩
  rcases q with (z | ⟨o, z⟩) | z
  · have n := ne_of z h3 (by intro q; cases q)
    exact .inl (.inl (kp _ _ n n z))
  · have n := ne_of z h3 (by intro q; cases q)
    exact .inl (.inr ⟨o, kp _ _ n n z⟩)
  · exact .inr z
section
variable {P : Program} {w : World} {K : PySem.W.Frag} {mg : Str → Option Value} {base : Heap} {CD CE : Addr} {cs : Nat → Addr}
theorem sc_law_told_right : FnScope ["editor", "lengths", "trail", "row", "goal", "seen"] ["editor", "lengths", "trail"] (defScope s_told_right) := ⟨rfl, rfl, rfl, by decide +kernel, rfl, by decide +kernel, by decide +kernel⟩
theorem ok_told_right {f : Addr} {fd : FuncData} (F : Fun K "_law_told_right" "_law_told_right" s_told_right f fd) (T : TxtEL mg) (c_text : Prp P w K mg base 1 CD "text" (spEdText K CD)) (c_cursor : Prp P w K mg base 1 CD "cursor" (spEdCursor CD)) (c_column : Prp P w K mg base 2 CD "column" (spEdColumn K CD))
    (c_trail : GMth P w K mg base 1 CD "trail" (spTrail CD)) : FnOk P w K mg base CX0 5 f fd ["editor", "lengths", "trail"] (spToldR K CD) := by
  refine F.ok sc_law_told_right (fun vs H Q E h => ?_) (fun cdv A outer s H vs Q E hr h => ?_)
  · obtain ⟨x, dx, tl, cl, l, t, T, ys, zs, qs, q, rfl, _⟩ := h
    rfl
  · obtain ⟨x, dx, tl, cl, l, t, tx, ys, zs, qs, ⟨r, g⟩, rfl, hx, hl, ht, hz, hin, ln, k⟩ := h
    refine ⟨_, (pss_cons (ps_asg (pe_ix ix_list (pv 2) (pe_un un_neg pe_int) (fun _ _ => rfl)) (pg_tup rfl (pgs_cons (pg_name (i := 3) sc_law_told_right.nd rfl (Or.inl rfl)) (pgs_cons (pg_name (i := 4) sc_law_told_right.nd rfl (Or.inl rfl)) pgs_nil))))
      (C8.pss_cut (ps_set (i := 5) sc_law_told_right.nd rfl (Or.inl rfl) (pe_ifExp (pt_cmpR op_isN (pv 4) pe_non (nomark _)) (pe_ix ix_list (pv 1) (pv 3) (fun _ _ => rfl)) (pe_callB (call_min2 rfl) (by rfl) T.min (by decide +kernel) (pa_cons (pv 4) (pa_cons (pe_ix ix_list (pv 1) (pv 3) (fun _ _ => rfl)) pa_nil)))))
      (pss_cons (ps_if (pt_cmpR (op_neD hr.units) (pe_lst (pa_cons (pe_prp c_text hr (by decide) (pv 0) rfl) (pa_cons (pe_prp c_cursor hr (by decide) (pv 0) rfl) (pa_cons (pe_prp c_column hr (by decide) (pv 0) rfl) pa_nil)))) (pe_lst (pa_cons (pv 1) (pa_cons (pe_ix ix_list (pv 2) (pe_un un_neg pe_int) (fun _ _ => rfl)) (pa_cons (pv 5) pa_nil)))) (nomark _)) (pss_one (ps_ret pe_bl)) pss_nil)
      (pss_one (ps_ret (pe_cmpR (op_eqD hr.units) (pe_listM c_trail (hr.mono (by decide)) (pv 0) (by rfl) T.list) (pv 2) (nomark _))))))), ?_⟩
    obtain ⟨zs', b, rfl, hz1, hz2⟩ := spots_split hz
    obtain ⟨ys', b', rfl, hy1, hy2⟩ := spots_split hx.sp
    obtain ⟨r0, r1, g0⟩ := hin
    have r0' : 0 ≤ r := r0
    have r1' : r < tx.length := r1
    refine ⟨_, rfl, _, rfl, t, _, _, .ref b, rfl, rfl, ht, atI_last _ _, ?_⟩
    refine ⟨b, _, rfl, hz2, rfl, _, _, rfl, _, _, rfl, rfl, ?_⟩
    refine ⟨fun σ H' => σ = [some (.ref x), some (.ref l), some (.ref t), some (.int r), some (optV g), some (.int (seen (lenAt tx r) g))] ∧ H' = H, ?_, ?_⟩
    · cases g with
      | none => exact ⟨_, rfl, rfl, true, rfl, iteT ⟨_, rfl, _, rfl, l, _, r, _, rfl, rfl, hl, at_lenP r0' r1', rfl, rfl⟩⟩
      | some g =>
        refine ⟨_, rfl, rfl, false, by simp [optV], iteF ⟨_, rfl, _, rfl, _, rfl, l, _, r, _, rfl, rfl, hl, at_lenP r0' r1', _, _, rfl, ?_, rfl⟩⟩
        show _ = [some (V.ref x), some (.ref l), some (.ref t), some (.int r), some (.int g), some (.int (min g (lenAt tx r)))]
        have : (if lenAt tx r < g then lenAt tx r else g) = min g (lenAt tx r) := by
          split <;> omega
        rw [← this]
        rfl
    rintro σ H' ⟨rfl, rfl⟩
    have hxe := hx.ed
    have hxt := hx.ht
    have hxc := hx.hc
    refine ⟨_, rfl, x, dx, _, rfl, hxe, x, dx, tl, cl, tx, rfl, hxe, hxt, fun H1 p1 e1 np1 hp1 => ?_⟩
    refine ⟨_, rfl, x, dx, _, rfl, e1 _ _ hxe, x, dx, tl, cl, ys', .ref b', rfl, e1 _ _ hxe, e1 _ _ hxc, ?_⟩
    refine ⟨_, rfl, x, dx, _, rfl, e1 _ _ hxe, x, dx, tl, cl, b', tx, ys', r, g, rfl, e1 _ _ hxe, e1 _ _ hxt, e1 _ _ hxc, seq_t e1 hy2, r0', r1', ?_⟩
    refine ⟨(by show 3 ≤ sizeLine; decide), fun q nq => ?_⟩
    have e2 := new_same (o := HO.lst [V.ref p1, .ref b', .int (seen (lenAt tx r) g)]) nq
    have hq2 : (upd H1 q (.lst [V.ref p1, .ref b', .int (seen (lenAt tx r) g)])) q = some (.lst [V.ref p1, .ref b', .int (seen (lenAt tx r) g)]) := upd_same
    have e12 := e1.trans e2
    replace hp1 := e2 _ _ hp1
    generalize upd H1 q (.lst [V.ref p1, .ref b', .int (seen (lenAt tx r) g)]) = H2 at e2 hq2 e12 hp1 ⊢
    refine ⟨_, rfl, _, rfl, _, rfl, t, _, _, .ref b, rfl, rfl, e12.seq ht, atI_last _ _, _, rfl, (by show 3 ≤ sizeLine; decide), fun q2 nq2 => ?_⟩
    have e3 := new_same (o := HO.lst [V.ref l, .ref b, .int (seen (lenAt tx r) g)]) nq2
    have hq3 : (upd H2 q2 (.lst [V.ref l, .ref b, .int (seen (lenAt tx r) g)])) q2 = some (.lst [V.ref l, .ref b, .int (seen (lenAt tx r) g)]) := upd_same
    have e13 := e12.trans e3
    replace hp1 := e3 _ _ hp1
    replace hq2 := e3 _ _ hq2
    generalize upd H2 q2 (.lst [V.ref l, .ref b, .int (seen (lenAt tx r) g)]) = H3 at e3 hq3 e13 hp1 hq2 ⊢
    refine ⟨toldD tx (r, g), toldD tx (r, g), .lst (SqL.of hq2) (.cons (.lst (SqL.of hp1) (dp_intsE tx)) (.cons (spot_dp (q := (r, g)) (seq_t e13 hy2)) (.cons (.int _) .nil))),
      .lst (SqL.of hq3) (.cons (.lst (e13.seq hl) (dp_intsE tx)) (.cons (spot_dp (q := (r, g)) (seq_t e13 hz2)) (.cons (.int _) .nil))), told_shaped .., told_shaped .., false, by rw [SeqAt.eqv_refl _ (told_lay ..)]; rfl, iteF ?_⟩
    refine ⟨_, rfl, x, dx, _, rfl, e13 _ _ hxe, rfl, x, dx, tl, cl, _, rfl, e13 _ _ hxe, e13 _ _ hxc, ?_, fun p np => ?_⟩
    · have := hy1.len
      rw [List.length_append]
      show _ + 1 ≤ 50000
      omega
    · have e4 := e13.trans (new_same (o := HO.lst (ys' ++ [.ref b'])) np)
      refine ⟨_, rfl, .list ((qs ++ [(r, g)]).map spotD), .list ((qs ++ [(r, g)]).map spotD), .lst (SqL.of upd_same) (spots_dpE (hx.sp.same e4)), .lst (e4.seq ht) (spots_dpE (hz.same e4)), shaped_spots _, shaped_spots _, ?_⟩
      rw [spots_eqv]
      exact k _ e4
theorem sc_law_pressed : FnScope ["editor", "some"] ["editor", "some"] (defScope s_pressed) := ⟨rfl, rfl, rfl, by decide +kernel, rfl, by decide +kernel, by decide +kernel⟩
theorem ok_pressed {f : Addr} {fd : FuncData} (F : Fun K "_law_pressed" "_law_pressed" s_pressed f fd) (T : TxtEL mg) (m_press : MthR P w K mg base (L2.CX P w) 9 CD "press" (zPress K CD cs)) : FnOk P w K mg base (L2.CX P w) 10 f fd ["editor", "some"] (spPressed K CD cs) := by
  refine F.okX sc_law_pressed (fun vs H Q E h => ?_) (fun cdv A outer s H vs Q E hr h => ?_)
  · obtain ⟨x, dx, tl, cl, s, T, r, g, ys, xs, qs, rs, rfl, _⟩ := h
    rfl
  · obtain ⟨x, dx, tl, cl, s, tx, r, g, ys, xs, qs, rs, rfl, hx, hs, hrs, l4, nn, hin, lq, kb, kf, k⟩ := h
    refine ⟨_, (pss_cons (ps_if (pt_cmpR op_eq (pe_callB call_len_seq (by rfl) T.len (by decide +kernel) (pa_cons (pv 1) pa_nil)) pe_int (nomark _)) (pss_one (ps_ret (pe_mthR0 (takes_of rfl rfl rfl rfl) m_press hr (by decide) (pv 0)))) pss_nil)
      (pss_cons (ps_if (pt_cmpR op_eq (pe_callB call_len_seq (by rfl) T.len (by decide +kernel) (pa_cons (pv 1) pa_nil)) pe_int (nomark _)) (pss_one (ps_ret (pe_mthR (takes_of rfl rfl rfl rfl) m_press hr (by decide) (pv 0) (pa_cons (pe_ix ix_list (pv 1) pe_int (fun _ _ => rfl)) pa_nil)))) pss_nil)
      (pss_cons (ps_if (pt_cmpR op_eq (pe_callB call_len_seq (by rfl) T.len (by decide +kernel) (pa_cons (pv 1) pa_nil)) pe_int (nomark _)) (pss_one (ps_ret (pe_mthR (takes_of rfl rfl rfl rfl) m_press hr (by decide) (pv 0) (pa_cons (pe_ix ix_list (pv 1) pe_int (fun _ _ => rfl)) (pa_cons (pe_ix ix_list (pv 1) pe_int (fun _ _ => rfl)) pa_nil))))) pss_nil)
      (pss_cons (ps_if (pt_cmpR op_eq (pe_callB call_len_seq (by rfl) T.len (by decide +kernel) (pa_cons (pv 1) pa_nil)) pe_int (nomark _)) (pss_one (ps_ret (pe_mthR (takes_of rfl rfl rfl rfl) m_press hr (by decide) (pv 0) (pa_cons (pe_ix ix_list (pv 1) pe_int (fun _ _ => rfl)) (pa_cons (pe_ix ix_list (pv 1) pe_int (fun _ _ => rfl)) (pa_cons (pe_ix ix_list (pv 1) pe_int (fun _ _ => rfl)) pa_nil)))))) pss_nil)
      (pss_one (ps_ret (pe_mthR (takes_of rfl rfl rfl rfl) m_press hr (by decide) (pv 0) (pa_cons (pe_ix ix_list (pv 1) pe_int (fun _ _ => rfl)) (pa_cons (pe_ix ix_list (pv 1) pe_int (fun _ _ => rfl)) (pa_cons (pe_ix ix_list (pv 1) pe_int (fun _ _ => rfl)) (pa_cons (pe_ix ix_list (pv 1) pe_int (fun _ _ => rfl)) pa_nil))))))))))), ?_⟩
    have hne := hx.ne (by simp)
    have hxe := hx.ed
    have hl4 := Paired.length hrs
    rcases xs with _ | ⟨v1, xs1⟩
    · rcases rs with _ | ⟨u1, rs1⟩
      · refine ⟨_, rfl, s, _, rfl, .inl hs, rfl, _, rfl, ?_⟩
        rw [show decide (V.int (([] : List V).length : Nat) = V.int 0) = true from decide_eq_true rfl]
        refine iteT ?_
        exact ⟨_, rfl, x, dx, _, rfl, hxe, rfl, ask_press hx hrs (by simp) nn hin (by omega) hne kb kf k⟩
      · simp only [List.length_cons, List.length_nil] at hl4; omega
    rcases rs with _ | ⟨u1, rs1⟩
    · simp only [List.length_cons, List.length_nil] at hl4; omega
    rcases xs1 with _ | ⟨v2, xs2⟩
    · rcases rs1 with _ | ⟨u2, rs2⟩
      · refine ⟨_, rfl, s, _, rfl, .inl hs, rfl, _, rfl, ?_⟩
        rw [show decide (V.int (([v1] : List V).length : Nat) = V.int 0) = false from decide_eq_false (fun z => by have q := V.int.inj z; simp at q)]
        refine iteF ?_
        refine ⟨_, rfl, s, _, rfl, .inl hs, rfl, _, rfl, ?_⟩
        rw [show decide (V.int (([v1] : List V).length : Nat) = V.int 1) = true from decide_eq_true rfl]
        refine iteT ?_
        exact ⟨_, rfl, x, dx, _, rfl, hxe, rfl, _, rfl, s, _, _, v1, rfl, rfl, hs, rfl, ask_press hx hrs (by simp) nn hin (by omega) hne kb kf k⟩
      · simp only [List.length_cons, List.length_nil] at hl4; omega
    rcases rs1 with _ | ⟨u2, rs2⟩
    · simp only [List.length_cons, List.length_nil] at hl4; omega
    rcases xs2 with _ | ⟨v3, xs3⟩
    · rcases rs2 with _ | ⟨u3, rs3⟩
      · refine ⟨_, rfl, s, _, rfl, .inl hs, rfl, _, rfl, ?_⟩
        rw [show decide (V.int (([v1, v2] : List V).length : Nat) = V.int 0) = false from decide_eq_false (fun z => by have q := V.int.inj z; simp at q)]
        refine iteF ?_
        refine ⟨_, rfl, s, _, rfl, .inl hs, rfl, _, rfl, ?_⟩
        rw [show decide (V.int (([v1, v2] : List V).length : Nat) = V.int 1) = false from decide_eq_false (fun z => by have q := V.int.inj z; simp at q)]
        refine iteF ?_
        refine ⟨_, rfl, s, _, rfl, .inl hs, rfl, _, rfl, ?_⟩
        rw [show decide (V.int (([v1, v2] : List V).length : Nat) = V.int 2) = true from decide_eq_true rfl]
        refine iteT ?_
        exact ⟨_, rfl, x, dx, _, rfl, hxe, rfl, _, rfl, s, _, _, v1, rfl, rfl, hs, rfl, _, rfl, s, _, _, v2, rfl, rfl, hs, rfl, ask_press hx hrs (by simp) nn hin (by omega) hne kb kf k⟩
      · simp only [List.length_cons, List.length_nil] at hl4; omega
    rcases rs2 with _ | ⟨u3, rs3⟩
    · simp only [List.length_cons, List.length_nil] at hl4; omega
    rcases xs3 with _ | ⟨v4, xs4⟩
    · rcases rs3 with _ | ⟨u4, rs4⟩
      · refine ⟨_, rfl, s, _, rfl, .inl hs, rfl, _, rfl, ?_⟩
        rw [show decide (V.int (([v1, v2, v3] : List V).length : Nat) = V.int 0) = false from decide_eq_false (fun z => by have q := V.int.inj z; simp at q)]
        refine iteF ?_
        refine ⟨_, rfl, s, _, rfl, .inl hs, rfl, _, rfl, ?_⟩
        rw [show decide (V.int (([v1, v2, v3] : List V).length : Nat) = V.int 1) = false from decide_eq_false (fun z => by have q := V.int.inj z; simp at q)]
        refine iteF ?_
        refine ⟨_, rfl, s, _, rfl, .inl hs, rfl, _, rfl, ?_⟩
        rw [show decide (V.int (([v1, v2, v3] : List V).length : Nat) = V.int 2) = false from decide_eq_false (fun z => by have q := V.int.inj z; simp at q)]
        refine iteF ?_
        refine ⟨_, rfl, s, _, rfl, .inl hs, rfl, _, rfl, ?_⟩
        rw [show decide (V.int (([v1, v2, v3] : List V).length : Nat) = V.int 3) = true from decide_eq_true rfl]
        refine iteT ?_
        exact ⟨_, rfl, x, dx, _, rfl, hxe, rfl, _, rfl, s, _, _, v1, rfl, rfl, hs, rfl, _, rfl, s, _, _, v2, rfl, rfl, hs, rfl, _, rfl, s, _, _, v3, rfl, rfl, hs, rfl, ask_press hx hrs (by simp) nn hin (by omega) hne kb kf k⟩
      · simp only [List.length_cons, List.length_nil] at hl4; omega
    rcases rs3 with _ | ⟨u4, rs4⟩
    · simp only [List.length_cons, List.length_nil] at hl4; omega
    rcases xs4 with _ | ⟨v5, xs5⟩
    · rcases rs4 with _ | ⟨u5, rs5⟩
      · refine ⟨_, rfl, s, _, rfl, .inl hs, rfl, _, rfl, ?_⟩
        rw [show decide (V.int (([v1, v2, v3, v4] : List V).length : Nat) = V.int 0) = false from decide_eq_false (fun z => by have q := V.int.inj z; simp at q)]
        refine iteF ?_
        refine ⟨_, rfl, s, _, rfl, .inl hs, rfl, _, rfl, ?_⟩
        rw [show decide (V.int (([v1, v2, v3, v4] : List V).length : Nat) = V.int 1) = false from decide_eq_false (fun z => by have q := V.int.inj z; simp at q)]
        refine iteF ?_
        refine ⟨_, rfl, s, _, rfl, .inl hs, rfl, _, rfl, ?_⟩
        rw [show decide (V.int (([v1, v2, v3, v4] : List V).length : Nat) = V.int 2) = false from decide_eq_false (fun z => by have q := V.int.inj z; simp at q)]
        refine iteF ?_
        refine ⟨_, rfl, s, _, rfl, .inl hs, rfl, _, rfl, ?_⟩
        rw [show decide (V.int (([v1, v2, v3, v4] : List V).length : Nat) = V.int 3) = false from decide_eq_false (fun z => by have q := V.int.inj z; simp at q)]
        refine iteF ?_
        exact ⟨_, rfl, x, dx, _, rfl, hxe, rfl, _, rfl, s, _, _, v1, rfl, rfl, hs, rfl, _, rfl, s, _, _, v2, rfl, rfl, hs, rfl, _, rfl, s, _, _, v3, rfl, rfl, hs, rfl, _, rfl, s, _, _, v4, rfl, rfl, hs, rfl, ask_press hx hrs (by simp) nn hin (by omega) hne kb kf k⟩
      · simp only [List.length_cons, List.length_nil] at hl4; omega
    rcases rs4 with _ | ⟨u5, rs5⟩
    · simp only [List.length_cons, List.length_nil] at hl4; omega
    simp only [List.length_cons] at l4
    omega
end
end Gc

/-! editors: the errors of press and undo, the law's own trail -/
namespace Gc
open PySem L2
abbrev s_error : Stmt := top 9999
abbrev s_undone : Stmt := top 9999
abbrev s_on : Stmt := top 35
def spErrE (K : PySem.W.Frag) (CD : Addr) : Sp := fun vs H Q _ => ∃ (x dx tl cl s : Addr) (T : List Int) (r : Int) (g : Option Int) (ys xs : List V) (qs : List Spot) (rs : List Raw), vs = [.ref x, .ref s] ∧ EdSt K H x CD dx tl cl T ys (qs ++ [(r, g)]) ∧ SqL K H s xs ∧ RawsOf K H xs rs ∧ rs.length ≤ 4 ∧ (∀ x ∈ T, 0 ≤ x) ∧ SpotIn T (r, g) ∧ qs.length ≤ 9000 ∧
  (∀ i, badAt rs = some i → ∀ (H' : Hp) (p : Addr), Same H H' → H' p = some (.lst [.str "command", .int (i : Nat)]) → Q (.ref p) H') ∧ (badAt rs = none → ∀ n, failAt T r g (rs.map Raw.cmd) = some n → ∀ (H' : Hp) (p : Addr), Same H H' → H' p = some (.lst [.str "impossible", .int (n : Nat)]) → Q (.ref p) H') ∧
  ∀ (H' : Hp) (p : Addr) (zs : List V), badAt rs = none → failAt T r g (rs.map Raw.cmd) = none → Keep cl cl H H' → EdSt K H' x CD dx tl cl T (ys ++ zs) ((qs ++ [(r, g)]) ++ trailL T r g (rs.map Raw.cmd)) → H' p = some (.lst [.str "none", .non]) → Q (.ref p) H'
@[irreducible] def zErrE (K : PySem.W.Frag) (CD : Addr) : Sp := spErrE K CD
theorem zErrE_eq (K : PySem.W.Frag) (CD : Addr) : zErrE K CD = spErrE K CD := by unfold zErrE; rfl
def spUndone (K : PySem.W.Frag) (CD : Addr) : Sp := fun vs H Q _ => ∃ (x dx tl cl : Addr) (T : List Int) (ys : List V) (qs : List Spot) (q : Spot), vs = [.ref x] ∧ EdSt K H x CD dx tl cl T ys (qs ++ [q]) ∧ qs.length ≤ 9000 ∧
  (qs = [] → ∀ (H' : Hp) (p : Addr), Same H H' → H' p = some (.lst [.str "undo", .int 0]) → Q (.ref p) H') ∧
  (qs ≠ [] → ∀ (H' : Hp) (p : Addr) (ys' : List V), Keep cl cl H H' → EdSt K H' x CD dx tl cl T ys' qs → H' p = some (.lst [.str "none", .non]) → Q (.ref p) H')
def spOn (K : PySem.W.Frag) : Sp := fun vs H Q _ => ∃ (t l s : Addr) (T : List Int) (r : Int) (g : Option Int) (zs xs : List V) (qs : List Spot) (cs : List Cmd), vs = [.ref t, .ref l, .ref s] ∧ SqL K H t (T.map V.int) ∧ SqL K H l zs ∧ SpotsOf K H zs (qs ++ [(r, g)]) ∧ SqL K H s xs ∧ CmdsOf K H xs cs ∧ 0 ≤ r ∧ r < T.length ∧ AllOk cs ∧ (∀ c ∈ cs, numC c < 10 ^ 40) ∧ qs.length ≤ 9000 ∧ cs.length ≤ 60 ∧
  (∀ n, failAt T r g cs = some n → ∀ H', Same H H' → Q (.int (n : Nat)) H') ∧
  (failAt T r g cs = none → ∀ (H' : Hp) (p : Addr) (us : List V), Same H H' → H p = none → H' p = some (.lst us) → SpotsOf K H' us ((qs ++ [(r, g)]) ++ trailL T r g cs) → Q (.ref p) H')
structure TxtON (mg : Str → Option Value) : Prop where
  list : mg "list" = none
  enumerate : mg "enumerate" = none
section
variable {P : Program} {w : World} {K : PySem.W.Frag} {mg : Str → Option Value} {base : Heap} {CD CE : Addr} {cs : Nat → Addr} {R : Nat → Prop}
theorem sc_law_on : FnScope ["lengths", "trail", "keys", "found", "at", "key", "later"] ["lengths", "trail", "keys"] (defScope s_on) := ⟨rfl, rfl, rfl, by decide +kernel, rfl, by decide +kernel, by decide +kernel⟩
theorem ok_on {f : Addr} {fd : FuncData} (F : Fun K "_law_on" "_law_on" s_on f fd) (T : TxtON mg) (c_law_after : Cal P w K mg base 1 "_law_after" (spAfter1 K)) : FnOk P w K mg base CX0 2 f fd ["lengths", "trail", "keys"] (spOn K) := by
  refine F.ok sc_law_on (fun vs H Q E h => ?_) (fun cdv A outer s H vs Q E hr h => ?_)
  · obtain ⟨t, l, s, T, r, g, zs, xs, qs, cs, rfl, _⟩ := h
    rfl
  · obtain ⟨t, l, s, tx, r, g, zs, xs, qs, cs, rfl, ht, hl, hz, hs, hc, r0, r1, ok, nb, lq, lc, kf, k⟩ := h
    refine ⟨_, (pss_cons (ps_set (i := 3) sc_law_on.nd rfl (Or.inl rfl) (pe_callTy call_list_of (by rfl) T.list (by decide +kernel) (pa_cons (pv 1) pa_nil)))
      (pss_cons (ps_for PassesOwn.never rfl (pi_enum (by rfl) T.enumerate (pa_cons (pv 2) pa_nil)) (pg_tup rfl (pgs_cons (pg_name (i := 4) sc_law_on.nd rfl (Or.inl rfl)) (pgs_cons (pg_name (i := 5) sc_law_on.nd rfl (Or.inl rfl)) pgs_nil))) (pss_cons (ps_set (i := 6) sc_law_on.nd rfl (Or.inl rfl) (pe_cal c_law_after hr (by decide) (by rfl) (pa_cons (pv 0) (pa_cons (pe_ix ix_list (pv 3) (pe_un un_neg pe_int) (fun _ _ => rfl)) (pa_cons (pv 5) pa_nil)))))
      (pss_cons (ps_if (pt_cmpR op_isN (pv 6) pe_non (nomark _)) (pss_one (ps_ret (pv 4))) pss_nil)
      (pss_one (ps_expr (pe_bm PySem.F.plainAttrs_list PySem.F.slot_list_append PySem.F.type_list_append mt_append (pv 3) (pa_cons (pv 6) pa_nil)))))))
      (pss_one (ps_ret (pv 3))))), ?_⟩
    refine ⟨_, rfl, l, zs, rfl, .inl hl, fun p np => ?_⟩
    have e0 := new_same (o := HO.lst zs) np
    have hp0 : (upd H p (.lst zs)) p = some (.lst zs) := upd_same
    generalize upd H p (.lst zs) = H1 at e0 hp0 ⊢
    refine ⟨_, rfl, s, xs, rfl, e0.seq hs, for_it (walk_enum (K := K) (a := s) (xs := xs)) (fun i σ H' => ∃ (rr : Int) (gg : Option Int) (v4 v5 v6 : Option V) (us : List V) (pre : List Spot), σ = [some (.ref t), some (.ref l), some (.ref s), some (.ref p), v4, v5, v6] ∧ Same H H' ∧ H' p = some (.lst us) ∧ SpotsOf K H' us (pre ++ [(rr, gg)]) ∧
        pre.length = qs.length + i ∧ 0 ≤ rr ∧ rr < tx.length ∧ failAt tx r g cs = (failAt tx rr gg (cs.drop i)).map (· + i) ∧ (pre ++ [(rr, gg)]) ++ trailL tx rr gg (cs.drop i) = (qs ++ [(r, g)]) ++ trailL tx r g cs)
      ⟨r, g, none, none, none, zs, qs, rfl, e0, hp0, hz.same e0, rfl, r0, r1, by rw [List.drop_zero]; simp, rfl⟩ (fun i σ H' _ ⟨_, _, _, _, _, _, _, _, e, _⟩ => e.seq hs) (fun i x σ H2 H3 hi h y => ?_) (fun σ H2 h => ?_)⟩
    · obtain ⟨rr, gg, v4, v5, v6, us, pre, rfl, e, hp, hus, lp, q0, q1, hf, htr⟩ := h
      obtain ⟨T1, x1, y1, rfl, nT, rfl, ex1, ex2⟩ := y
      obtain rfl : V.int (i : Nat) = x1 := Option.some.inj ex1
      obtain ⟨c, hci, hca⟩ := paired_at hc ex2
      have li := (List.getElem?_eq_some_iff.mp hci).1
      have hdrop : cs.drop i = c :: cs.drop (i + 1) := by
        obtain ⟨h1, h2⟩ := List.getElem?_eq_some_iff.mp hci
        rw [List.drop_eq_getElem_cons h1, h2]
      rw [hdrop] at hf htr
      rw [fail_step] at hf
      have eT := new_same (o := HO.tup [.int (i : Nat), y1]) nT
      have hTT : (upd H2 T1 (.tup [.int (i : Nat), y1])) T1 = some (.tup [.int (i : Nat), y1]) := upd_same
      have eHT := e.trans eT
      replace hp := eT _ _ hp
      replace hus := hus.same eT
      generalize upd H2 T1 (.tup [.int (i : Nat), y1]) = H4 at eT hTT eHT hp hus ⊢
      obtain ⟨us', b, rfl, hu1, hu2⟩ := spots_split hus
      have lu := hu1.len
      refine ⟨T1, _, rfl, SqT.of hTT, rfl, _, _, rfl, _, _, rfl, rfl, ?_⟩
      refine ⟨_, rfl, _, rfl, _, rfl, p, _, _, .ref b, rfl, rfl, SqL.of hp, atI_last _ _, _, rfl, t, b, y1, tx, rr, gg, c, rfl, eHT.seq ht, hu2, hca.same eHT, q0, q1, ok c (List.mem_of_getElem? hci), nb c (List.mem_of_getElem? hci), fun z H5 e5 => ?_, fun r2 g2 z H5 p5 e5 np5 hp5 => ?_⟩
      · rw [z] at hf
        refine ⟨_, rfl, rfl, true, rfl, iteT ?_⟩
        exact ⟨_, rfl, kf i (by rw [hf]; simp) _ (eHT.trans e5)⟩
      · rw [z] at hf
        have z1 := trail_step (cs := cs.drop (i + 1)) (by rw [step_eq q0 q1]; exact z)
        rw [z1] at htr
        refine ⟨_, rfl, rfl, false, by simp, iteF ?_⟩
        refine ⟨_, rfl, .inl ⟨rfl, _, SqL.of (e5 _ _ hp)⟩, _, rfl, p, _, .ref p5, rfl, rfl, e5 _ _ hp, lt_line (by rw [List.length_append]; show _ + 1 ≤ _; omega), ?_⟩
        obtain ⟨a0, a1⟩ := step_row q0 q1 z
        have p5p : p5 ≠ p := fun q => by rw [q, hp] at np5; cases np5
        refine ⟨r2, g2, _, _, _, _, pre ++ [(rr, gg)], rfl, same_freeU (eHT.trans e5) np, upd_same, paired_app (Paired.mapP (hus.same e5) fun _ _ ⟨p6, z6, q6⟩ => ⟨p6, z6, tup_atL (e5 _ _ hp) q6⟩) (.cons ⟨p5, rfl, SqT.of (by rw [upd_ne p5p]; exact hp5)⟩ .nil), ?_, a0, a1, ?_, ?_⟩
        · rw [List.length_append, lp]
          rfl
        · rw [hf, Option.map_map]
          show (failAt tx r2 g2 (cs.drop (i + 1))).map _ = _
          congr 1
          funext n
          show n + 1 + i = n + (i + 1)
          omega
        · rw [← htr]
          simp
    · obtain ⟨rr, gg, v4, v5, v6, us, pre, rfl, e, hp, hus, lp, q0, q1, hf, htr⟩ := h
      rw [hc.len, List.drop_length] at hf htr
      have e2 : pre ++ [(rr, gg)] = (qs ++ [(r, g)]) ++ trailL tx r g cs := by
        rw [← htr]
        exact (List.append_nil _).symm
      rw [e2] at hus
      exact ⟨_, rfl, k (by rw [hf]; rfl) _ p us e np hp hus⟩
end
end Gc

/-! raw commands as data -/
namespace Gc
open PySem L2
def rawOf : Cmd → Raw
  | .down n => .two "down" n
  | .up n => .two "up" n
  | .right n => .two "right" n
  | .left n => .two "left" n
  | .home => .one "home"
  | .stop => .one "end"
theorem rawOf_enc (c : Cmd) : encR (rawOf c) = encC c := by cases c <;> rfl
theorem raws_of {K : PySem.W.Frag} {H : Hp} : ∀ {xs : List V} {cs : List Cmd}, CmdsOf K H xs cs → RawsOf K H xs (cs.map rawOf)
  | [], [], _ => .nil
  | _ :: _, c :: cs, .cons ⟨a, e, h⟩ q => .cons ⟨a, e, by rw [rawOf_enc]; exact h⟩ (raws_of q)
theorem raws_snoc {K : PySem.W.Frag} {H : Hp} {xs : List V} {rs : List Raw} {p : Addr} {r : Raw} (h : RawsOf K H xs rs) (hp : H p = some (.tup (encR r))) : RawsOf K H (xs ++ [.ref p]) (rs ++ [r]) := paired_app h (.cons ⟨p, rfl, SqT.of hp⟩ .nil)
def rawD : Raw → PyData
  | .nil => .tuple []
  | .one n => .tuple [.str n]
  | .two n k => .tuple [.str n, .int k]
  | .three n k j => .tuple [.str n, .int k, .int j]
theorem RawAt.dp {K : PySem.W.Frag} {H : Hp} {v : V} {r : Raw} (h : RawAt K H v r) : Dp K H v (rawD r) := by
  obtain ⟨a, rfl, h⟩ := h
  cases r with
  | nil => exact .tup h .nil
  | one n => exact .tup h (.cons (.str n) .nil)
  | two n k => exact .tup h (.cons (.str n) (.cons (.int k) .nil))
  | three n k j => exact .tup h (.cons (.str n) (.cons (.int k) (.cons (.int j) .nil)))
/-- it can be shown -/
def RawOk (r : Raw) : Prop := SeqAt.shaped (rawD r) = true ∧ Ok0 (rawD r) ∧ (rawD r).weight ≤ 200 ∧ (rawD r).depth ≤ 5
theorem rawOf_D (c : Cmd) : rawD (rawOf c) = cmdD c := by cases c <;> rfl
theorem rawOf_ok {c : Cmd} (h : CSml c) : RawOk (rawOf c) := by
  unfold RawOk
  rw [rawOf_D]
  have q := cmdD_ok h
  refine ⟨?_, q⟩
  have z : PyData.canLayAll0 ([c].map cmdD) = true := lay_cmds [c]
  simp only [List.map_cons, List.map_nil, PyData.canLayAll0, Bool.and_true] at z
  unfold SeqAt.shaped
  rw [z, decide_eq_true (show (cmdD c).depth ≤ 64 by omega)]
  rfl
theorem rawOf_cmd (c : Cmd) : (rawOf c).cmd = c := by cases c <;> rfl
theorem rawOf_good {c : Cmd} (h : c.ok) : (rawOf c).good = true := by
  cases c with
  | home => rfl
  | stop => rfl
  | _ => exact decide_eq_true h
theorem room65 {k : Nat} {A : Around} (r : Room k A) : A.units + 65 < cLine := by
  have := r.un
  omega
theorem RawsOf.atL {K : PySem.W.Frag} {H : Hp} {l : Addr} {ys zs xs : List V} {rs : List Raw} (hl : H l = some (.lst ys)) (h : RawsOf K H xs rs) : RawsOf K (upd H l (.lst zs)) xs rs := Paired.mapP h fun _ _ q => by
  obtain ⟨b, e, z⟩ := q
  exact ⟨b, e, tup_atL hl z⟩
def loneD : List PyData := [.tuple [.str "home"], .tuple [.str "end"]]
theorem lone_shaped : SeqAt.shaped (.list loneD) = true := by decide +kernel
theorem lone_in (r : Raw) : loneD.any (fun z => PyData.eqv z (rawD r)) = match r with
    | .one n => inV (.str n) withoutN
    | _ => false := by
  cases r <;> simp [loneD, rawD, PyData.eqv, PyData.eqvAll, inV, withoutN, eqV]
end Gc

/-! the P family's wrong commands -/
namespace Gc
open PySem L2
abbrev s_bad_keys : Stmt := top 9999
structure TxtBK (mg : Str → Option Value) : Prop where
  range : mg "range" = none
  len : mg "len" = none
  list : mg "list" = none
  enumerate : mg "enumerate" = none
def badsR : List Raw := [.two "down" 0, .two "up" (-1), .two "right" 0, .two "left" (-5), .two "home" 1, .two "end" 0, .one "down", .one "left", .two "Right" 1, .two "lefts" 1, .two "" 1, .one "", .one "top", .three "right" 1 2, .three "end" 1 1, .nil]
def badB (r : Raw) : Bool := !r.good && (SeqAt.shaped (rawD r) && ((rawD r).showable && (!(rawD r).hasDict && ((rawD r).leavesShort 130 && (decide ((rawD r).weight ≤ 200) && decide ((rawD r).depth ≤ 5))))))
theorem bads_ok {r : Raw} (h : r ∈ badsR) : r.good = false ∧ RawOk r := by
  have q : badsR.all badB = true := by decide +kernel
  have z := List.all_eq_true.mp q r h
  unfold badB at z
  simp only [Bool.and_eq_true, Bool.not_eq_true', decide_eq_true_eq] at z
  exact ⟨z.1, z.2.1, ⟨z.2.2.1, z.2.2.2.1, z.2.2.2.2.1⟩, z.2.2.2.2.2.1, z.2.2.2.2.2.2⟩
def spBadK (K : PySem.W.Frag) : Sp := fun vs H Q _ => ∃ (a l : Addr) (n : Nat) (xs : List V) (rs : List Raw), vs = [.ref a, .ref l] ∧ Rng H a n ∧ n < 2 ^ 37 ∧ H l = some (.lst xs) ∧ l ≠ a ∧ RawsOf K H xs rs ∧ rs.length ≤ 18 ∧ (∀ r ∈ rs, RawOk r) ∧
  ∀ (H' : Hp) (p q : Addr) (ys : List V) (ss : List Raw) (i : Nat), Keep a a H H' → Rng H' a (n + 20) → H' p = some (.lst [.ref q, .int i]) → q ≠ a → H q = none → H' q = some (.lst ys) → RawsOf K H' ys ss → (∀ r ∈ ss, RawOk r) → ss.length ≤ 20 → badAt ss = some i → Q (.ref p) H'
def spBadK2 (K : PySem.W.Frag) : Sp := fun vs H Q _ => ∃ (a l : Addr) (n : Nat) (xs : List V) (rs : List Raw), vs = [.ref a, .ref l] ∧ Rng H a n ∧ n < 2 ^ 37 ∧ H l = some (.lst xs) ∧ l ≠ a ∧ RawsOf K H xs rs ∧ rs.length ≤ 18 ∧ (∀ r ∈ rs, RawOk r) ∧
  ∀ (H' : Hp) (p q : Addr) (ys : List V) (ss : List Raw) (i : Nat), Keep a a H H' → Rng H' a (n + 20) → H' p = some (.lst [.ref q, .int i]) → q ≠ a → H q = none → H' q = some (.lst ys) → RawsOf K H' ys ss → (∀ r ∈ ss, RawOk r) → ss.length ≤ 20 → ss.length ≤ rs.length + 2 → badAt ss = some i → Q (.ref p) H'
theorem Rng.raws {K : PySem.W.Frag} {H H' : Hp} {r : Addr} {n : Nat} {xs : List V} {rs : List Raw} (B : Rng H r n) (k : Keep r r H H') (h : RawsOf K H xs rs) : RawsOf K H' xs rs := Paired.mapP h fun _ _ q => by
  obtain ⟨b, e, z⟩ := q
  exact ⟨b, e, B.tup k z⟩
theorem cutAll {xs : List V} (h : xs.length ≤ 20) : cutV xs none (some 20) = xs := by
  unfold cutV
  rw [HT.sIx_none, show (some (20 : Int)) = some ((20 : Nat) : Int) from rfl, HT.sIx_nat, List.drop_zero, Nat.sub_zero, Nat.min_eq_right h, List.take_length]
end Gc

/-! an editor beside the law's own lines and trail -/
namespace Gc
open PySem L2
/-- the pool, an editor, the law's lines and its own trail -/
structure Sit (K : PySem.W.Frag) (H : Hp) (a : Addr) (n : Nat) (x CD dx tl cl l t : Addr) (T : List Int) (ys zs : List V) (qe qt : List Spot) : Prop where
  R : Rng H a n
  E : EdSt K H x CD dx tl cl T ys qe
  hl : H l = some (.lst (T.map V.int))
  ht : H t = some (.lst zs)
  hz : SpotsOf K H zs qt
  la : l ≠ a
  ta : t ≠ a
  tla : tl ≠ a
  cla : cl ≠ a
  lc : l ≠ cl
  tc : t ≠ cl
section
variable {K : PySem.W.Frag} {H H' : Hp} {a : Addr} {n m : Nat} {x CD dx tl cl l t : Addr} {T : List Int} {ys zs ys' : List V} {qe qt qe' : List Spot}
theorem Sit.same (S : Sit K H a n x CD dx tl cl l t T ys zs qe qt) (e : Same H H') : Sit K H' a n x CD dx tl cl l t T ys zs qe qt := ⟨S.R.same e, S.E.same e, e _ _ S.hl, e _ _ S.ht, S.hz.same e, S.la, S.ta, S.tla, S.cla, S.lc, S.tc⟩
theorem Sit.more (S : Sit K H a n x CD dx tl cl l t T ys zs qe qt) (h : n ≤ m) : Sit K H a m x CD dx tl cl l t T ys zs qe qt := { S with R := S.R.more h }
theorem Rng.spots (R : Rng H a n) (kp : Keep a a H H') (h : SpotsOf K H zs qt) : SpotsOf K H' zs qt := Paired.mapP h fun _ _ ⟨p, e, q⟩ => ⟨p, e, R.tup kp q⟩
theorem Rng.edst (R : Rng H a n) (kp : Keep a a H H') (h1 : tl ≠ a) (h2 : cl ≠ a) (E : EdSt K H x CD dx tl cl T ys qe) : EdSt K H' x CD dx tl cl T ys qe := by
  obtain ⟨g, s, c, z, _⟩ := id R
  have xa : x ≠ a := ne_of E.ed z (by intro q; cases q)
  exact ⟨kp _ _ xa xa E.ed, kp _ _ h1 h1 E.ht, kp _ _ h2 h2 E.hc, R.spots kp E.sp⟩
theorem Sit.keepA (S : Sit K H a n x CD dx tl cl l t T ys zs qe qt) (kp : Keep a a H H') (R : Rng H' a m) : Sit K H' a m x CD dx tl cl l t T ys zs qe qt :=
  ⟨R, S.R.edst kp S.tla S.cla S.E, kp _ _ S.la S.la S.hl, kp _ _ S.ta S.ta S.ht, S.R.spots kp S.hz, S.la, S.ta, S.tla, S.cla, S.lc, S.tc⟩
theorem spots_keepL {ws : List V} (hc : H cl = some (.lst ws)) (kp : Keep cl cl H H') (h : SpotsOf K H zs qt) : SpotsOf K H' zs qt := Paired.mapP h fun _ _ ⟨p, e, q⟩ => ⟨p, e, by
  rcases q with (z | ⟨o, z⟩) | z
  · have n := ne_of z hc (by intro q; cases q)
    exact .inl (.inl (kp _ _ n n z))
  · have n := ne_of z hc (by intro q; cases q)
    exact .inl (.inr ⟨o, kp _ _ n n z⟩)
  · exact .inr z⟩
theorem Sit.edited (S : Sit K H a n x CD dx tl cl l t T ys zs qe qt) (kp : Keep cl cl H H') (E : EdSt K H' x CD dx tl cl T ys' qe') : Sit K H' a n x CD dx tl cl l t T ys' zs qe' qt := by
  obtain ⟨g, s, c, z, z2⟩ := S.R
  have ac : a ≠ cl := fun q => S.cla q.symm
  exact ⟨⟨g, s, c, kp _ _ ac ac z, z2⟩, E, kp _ _ S.lc S.lc S.hl, kp _ _ S.tc S.tc S.ht, spots_keepL S.E.hc kp S.hz, S.la, S.ta, S.tla, S.cla, S.lc, S.tc⟩
end
theorem errD_shaped (s : Str) (v : PyData) (h : v = .none ∨ ∃ n, v = .int n) (hs : SeqAt.shaped (.list [.str s, .none]) = true) : SeqAt.shaped (.list [.str s, v]) = true := by
  rcases h with rfl | ⟨n, rfl⟩
  · exact hs
  · exact hs
theorem back_in {cs : List Cmd} (h : ∀ c ∈ cs, c.ok) : badAt (cs.map rawOf) = none := bad_none fun j r' _ hr' => by
  obtain ⟨c, hc1, rfl⟩ := List.mem_map.mp (List.mem_of_getElem? hr')
  exact rawOf_good (h c hc1)
theorem back_cmd (cs : List Cmd) : (cs.map rawOf).map Raw.cmd = cs := by
  rw [List.map_map, show (Raw.cmd ∘ rawOf) = id from funext rawOf_cmd, List.map_id]
theorem cut_loE {xs : List V} {n : Nat} {z : Int} (e : z = (n : Int)) (h : n ≤ xs.length) : cutV xs none (some z) = xs.take n := by
  subst e
  unfold cutV
  rw [HT.sIx_nat, HT.sIx_none, Nat.min_eq_left h]
  simp
theorem ty_lE {K : PySem.W.Frag} {H : Hp} {a : Addr} {xs : List V} (h : H a = some (.lst xs)) : TyX K H (.ref a) (.type "list") := .base (.lst h)
theorem Keep.wide {a d : Addr} {H H' : Hp} (k : Keep a a H H') : Keep a d H H' := fun b o h1 _ h => k b o h1 h1 h
theorem Keep.wide2 {a d : Addr} {H H' : Hp} (k : Keep d d H H') : Keep a d H H' := fun b o _ h2 h => k b o h2 h2 h
theorem ask_errE {K : PySem.W.Frag} {CD : Addr} {H : Hp} {Q : VK} {E : XK} {x dx tl cl s : Addr} {T : List Int} {r : Int} {g : Option Int} {ys xs : List V} {qs : List Spot} {rs : List Raw} (hx : EdSt K H x CD dx tl cl T ys (qs ++ [(r, g)])) (hs : SqL K H s xs) (hr : RawsOf K H xs rs) (l4 : rs.length ≤ 4) (nn : ∀ x ∈ T, 0 ≤ x) (hin : SpotIn T (r, g)) (lq : qs.length ≤ 9000)
    (kb : ∀ i, badAt rs = some i → ∀ (H' : Hp) (p : Addr), Same H H' → H' p = some (.lst [.str "command", .int (i : Nat)]) → Q (.ref p) H') (kf : badAt rs = none → ∀ n, failAt T r g (rs.map Raw.cmd) = some n → ∀ (H' : Hp) (p : Addr), Same H H' → H' p = some (.lst [.str "impossible", .int (n : Nat)]) → Q (.ref p) H')
    (k : ∀ (H' : Hp) (p : Addr) (zs : List V), badAt rs = none → failAt T r g (rs.map Raw.cmd) = none → Keep cl cl H H' → EdSt K H' x CD dx tl cl T (ys ++ zs) ((qs ++ [(r, g)]) ++ trailL T r g (rs.map Raw.cmd)) → H' p = some (.lst [.str "none", .non]) → Q (.ref p) H') : zErrE K CD [.ref x, .ref s] H Q E := by
  rw [zErrE_eq]
  exact ⟨x, dx, tl, cl, s, T, r, g, ys, xs, qs, rs, rfl, hx, hs, hr, l4, nn, hin, lq, kb, kf, k⟩
end Gc

/-! own classes: classmethods called off the class; the class itself in a local name -/
namespace L2
open PySem PySem.Spec PyProof.Rows
/-- a classmethod of the class at C; its promise has the class first -/
structure CMth (P : Program) (w : World) (K : PySem.W.Frag) (mg : Str → Option Value) (base : Heap) (CX : CXT) (k : Nat) (C : Addr) (m : Str) (sp : Sp) : Prop where
  ex : ∃ (mc : Value) (p g : Addr), ClX.CRead K C mc ∧ ClX.CMet K C mc m p g ∧ FnR P w K mg base CX k g sp
theorem fnr_of {P : Program} {w : World} {K : PySem.W.Frag} {mg : Str → Option Value} {base : Heap} {CX : CXT} {k : Nat} {f : Addr} {fd : FuncData} {ps : List Str} {sp : Sp} (F : FnOk P w K mg base CX k f fd ps sp) (hb : Binds K fd ps []) : FnR P w K mg base CX k f sp := by
  intro A outer s H us vs Q E hr e0 r h
  have kin : K.In s.heap := e0.mod.kin.keeps fun b o e => (e0.bs b o e).1
  have hl : us.length = ps.length := by rw [← r.length]; exact F.len _ _ _ _ h
  have b := hb s us kin (by rw [List.append_nil]; exact hl)
  rw [List.append_nil] at b
  exact F.run A outer s H ⟨us, []⟩ us vs Q E hr e0 b r h
section
variable {X : Cx} {k j : Nat} {f C g : Addr} {sp : Sp} {W : WX} {m : Str} {pos apos : Pos} {e o fe : Expr} {es : List Expr} {ta tf : TE} {t : TA} {pl : Sem Bool}
theorem code_fnRX {pins : List (Addr × Obj)} {σ : L2.St} {H : Hp} {s : Shared} {Q : VK} {us : List Value} {vs : List V} (tk : Takes X W) (F : FnR X.prog X.w X.K X.mg X.base (L2.CX X.prog X.w) k f sp) (hr : Room k X.A) (I : Inv X pins σ H s) (r : Vals vs us)
    (h : sp vs H Q (WE W σ)) : codeAny (model X.prog X.w) X.A (.call (.ref f) ⟨us, []⟩) (fun r s' => match r with | .ok (.ret v) => EP X pins σ Q v s' | .ok _ => False | .error u => X.xe u s') s := by
  refine codeAny_mono (F X.A X.stack s H us vs Q (WE W σ) hr I.env0 r h) ?_
  rintro (u | fl) s1 z
  · exact passAt tk σ pins H s u s1 I z
  · cases fl with
    | ret u => exact I.after z
    | next => exact False.elim z
    | brk => exact False.elim z
    | cont => exact False.elim z
def tCMX (C : Addr) (sp : Sp) (W : WX) (ta : TE) (t : TA) : TE := fun σ H Q => ta σ H fun x H1 => x = .ref C ∧ t σ H1 fun vs H2 => sp (.ref C :: vs) H2 Q (WE W σ)
/-- e.m(..), e the class, m a classmethod that may raise -/
theorem pe_cmthX (tk : Takes X W) (c : CMth X.prog X.w X.K X.mg X.base (L2.CX X.prog X.w) k C m sp) (hr : Room j X.A) (hk : k ≤ j) (he : PE X o ta) (ha : PA X (e :: es) t)
    (hst : starEach (e :: es) X.env = (false, eval e X.env) :: starEach es X.env := by rfl) (hpl : (backTo pos (starEach es X.env)).any (·.1) = false := by rfl)
    (ht : eval (.Call (.Attribute o m apos) (e :: es) [] pos) X.env = (do
      let ov ← eval o X.env
      standAt apos.atName
      let (f, first) ← holding [ov] (getMethod ov m pl)
      callWith pos f first (backTo pos (starEach (e :: es) X.env)) (backToKw pos (keywordEach [] X.env))) := by rfl) :
    PE X (.Call (.Attribute o m apos) (e :: es) [] pos) (tCMX C sp W ta t) := by
  obtain ⟨mc, p, g, r, c, F⟩ := c
  constructor
  intro pins s σ H Q I h
  refine PySem.W.methodCall_KW (pl := pl) (thn (he.run pins s σ H _ I h) ?_) ht
  rintro u s1 ⟨x, H1, I1, rx, rfl, q⟩
  obtain rfl : u = Value.ref C := rx
  refine ClX.getmethcm_ok I1 r c fun s2 I2 => ?_
  refine ClX.callwith_cm I2 (ClX.base_none I1 (Nat.le_refl _)) c.fi (thn (ha.run pos _ s2 σ H1 _ I2 q) ?_) hst hpl
  rintro us s3 ⟨vs, H2, I3, rv, q2⟩
  refine ⟨⟨ClX.pin_at I3, I3.kIn⟩, ?_⟩
  refine thn (wpAny_call (PySem.W.method_call (ClX.pin_at I3) (code_fnRX (us := .ref C :: us) (vs := .ref C :: vs) tk F (hr.mono hk) I3 (.cons rfl rv) q2))) ?_
  intro _ _ y
  exact ClX.unpinE y
/-- the class at C called with these values -/
theorem run_makX {x : Str} {pins : List (Addr × Obj)} {σ : L2.St} {H : Hp} {s : Shared} {Q : VK} {us : List Value} {vs : List V} (tk : Takes X W) (c : Mak X.prog X.w X.K X.mg X.base (L2.CX X.prog X.w) k x C sp) (hr : Room j X.A) (hk : k + 1 ≤ j) (I : Inv X pins σ H s) (r : Vals vs us)
    (h : ∀ y dx, H y = none → H dx = none → dx ≠ y → sp (.ref y :: vs) (upd (upd H dx (.own y)) y (.ins C dx [])) (fun v H2 => v = .non ∧ Q (.ref y) H2) (WE W σ)) : wpAny (model X.prog X.w) X.A (call (.ref C) us) (EP X pins σ Q) X.xe s := by
  obtain ⟨hm, f, fd, ps, M, F, hb⟩ := c
  have hq := h (s.heap.objs.size + 1) s.heap.objs.size (I.hok.fresh (Nat.le_succ _)) (I.hok.fresh (Nat.le_refl _)) (Nat.ne_of_lt (Nat.lt_succ_self _))
  have I2 := Inv.made (C := C) I
  have r2 : Vals (V.ref (s.heap.objs.size + 1) :: vs) (Value.ref (s.heap.objs.size + 1) :: us) := .cons rfl r
  have hl : (Value.ref (s.heap.objs.size + 1) :: us ++ []).length = ps.length := by
    rw [List.append_nil, ← r2.length]
    exact F.len _ _ _ _ hq
  have b := hb _ (Value.ref (s.heap.objs.size + 1) :: us) I2.kIn hl
  rw [List.append_nil] at b
  have run := F.run _ X.stack _ _ ⟨Value.ref (s.heap.objs.size + 1) :: us, []⟩ (Value.ref (s.heap.objs.size + 1) :: us) _ _ (WE W σ) ((hr.mono hk).make C us []) (I2.env0.make C us []) b r2 hq
  refine wpAny_call (make_map (f := f) I.kIn M.makes M.init (beq_iff_eq.mp M.fn) (codeAny_mono run ?_))
  rintro (u | fl) s1 z
  · exact madePass tk I2 z
  · cases fl with
    | ret u =>
      obtain ⟨v, H', I3, rv, ev, q3⟩ := I2.after z
      subst ev
      exact ⟨rv, ⟨V.ref (s.heap.objs.size + 1), H', I3, rfl, q3⟩⟩
    | next => exact False.elim z
    | brk => exact False.elim z
    | cont => exact False.elim z
def tMakL (C : Addr) (sp : Sp) (W : WX) (tf : TE) (t : TA) : TE := fun σ H Q => tf σ H fun y H1 => y = .ref C ∧ tMakX C sp W t σ H1 Q
/-- y(e, ..), y the class at C -/
theorem pe_makL {x : Str} (tk : Takes X W) (c : Mak X.prog X.w X.K X.mg X.base (L2.CX X.prog X.w) k x C sp) (hr : Room j X.A) (hk : k + 1 ≤ j) (hf : PE X fe tf) (ha : PA X (e :: es) t)
    (ht : eval (.Call fe (e :: es) [] pos) X.env = (do callWith pos (← eval fe X.env) [] (backTo pos (starEach (e :: es) X.env)) (backToKw pos (keywordEach [] X.env))) := by rfl)
    (he : starEach (e :: es) X.env = (false, eval e X.env) :: starEach es X.env := by rfl) (hpl : (backTo pos (starEach es X.env)).any (·.1) = false := by rfl) :
    PE X (.Call fe (e :: es) [] pos) (tMakL C sp W tf t) := by
  constructor
  intro pins s σ H Q I h
  refine Call_ (thn (hf.run pins s σ H _ I h) ?_) ht
  rintro u s0 ⟨y, H0, I0, ry, rfl, h0⟩
  obtain rfl : u = Value.ref C := ry
  obtain ⟨_, _, _, _, M, _⟩ := id c
  refine PySem.W.callWith_K (h₀ := X.base) I0.ok.mod.kin M.kp (thn (ha.run pos pins s0 σ H0 _ I0 h0) ?_) he hpl
  rintro us s1 ⟨vs, H1, I1, r, q⟩
  exact ⟨I1.kIn, run_makX tk c hr hk I1 r q⟩
end
/-- a classmethod called by names alone -/
structure CMthK (P : Program) (w : World) (K : PySem.W.Frag) (mg : Str → Option Value) (base : Heap) (CX : CXT) (k : Nat) (C : Addr) (m : Str) (ks : List Str) (sp : Sp) : Prop where
  ex : ∃ (mc : Value) (p g : Addr) (fd : FuncData) (ps : List Str), ClX.CRead K C mc ∧ ClX.CMet K C mc m p g ∧ FnOk P w K mg base CX k g fd ps sp ∧ KBn K fd ps 1 ks Gc.gRev Gc.gRev
section
variable {X : Cx} {k j : Nat} {C : Addr} {sp : Sp} {W : WX} {m : Str} {ks : List Str} {pos apos : Pos} {o : Expr} {kws : List Keyword} {ta : TE} {t : TA} {pl : Sem Bool}
def tCMKX (C : Addr) (n : Nat) (sp : Sp) (W : WX) (ta : TE) (t : TA) : TE := fun σ H Q => ta σ H fun x H1 => x = .ref C ∧ t σ H1 fun zs H2 => zs.length = n ∧ sp (Gc.gRev [.ref C] zs) H2 Q (WE W σ)
theorem pe_cmthKX (tk : Takes X W) (c : CMthK X.prog X.w X.K X.mg X.base (L2.CX X.prog X.w) k C m ks sp) (hr : Room j X.A) (hk : k ≤ j) (he : PE X o ta) (hkw : PK X kws t)
    (hall : (backToKw pos (keywordEach kws X.env)).all (·.1.isSome) = true := by rfl) (hks : (backToKw pos (keywordEach kws X.env)).filterMap (·.1) = ks := by rfl)
    (hpl : ((backTo pos (starEach [] X.env)).any (·.1) || (backToKw pos (keywordEach kws X.env)).any (·.1.isNone)) = false := by rfl)
    (ht : eval (.Call (.Attribute o m apos) [] kws pos) X.env = (do
      let ov ← eval o X.env
      standAt apos.atName
      let (f, first) ← holding [ov] (getMethod ov m pl)
      callWith pos f first (backTo pos (starEach [] X.env)) (backToKw pos (keywordEach kws X.env))) := by rfl) :
    PE X (.Call (.Attribute o m apos) [] kws pos) (tCMKX C ks.length sp W ta t) := by
  obtain ⟨mc, p, g, fd, ps, r, c, F, b⟩ := c
  constructor
  intro pins s σ H Q I h
  refine PySem.W.methodCall_KW (pl := pl) (thn (he.run pins s σ H _ I h) ?_) ht
  rintro u s1 ⟨x, H1, I1, rx, rfl, q⟩
  obtain rfl : u = Value.ref C := rx
  refine ClX.getmethcm_ok I1 r c fun s2 I2 => ?_
  refine PySem.W.callWith_of hpl (PySem.W.keeps_M (K := X.K) (self := .ref C) c.fi) (evalArgs_kw2_nil hall (thn (hkw.run pos _ s2 σ H1 _ I2 q) ?_))
  rintro ws s3 ⟨zs, H2, I3, rz, lz, q2⟩
  refine ⟨⟨ClX.pin_at I3, I3.kIn⟩, ?_⟩
  rw [hks]
  have r1 : Vals [V.ref C] [Value.ref C] := .cons rfl .nil
  have r2 := b.rel r1 rz
  have run := F.run X.A X.stack s3 H2 ⟨[.ref C], ks.zip ws⟩ (Gc.gRev [.ref C] ws) (Gc.gRev [.ref C] zs) Q (WE W σ) (hr.mono hk) I3.env0 (b.to s3 [.ref C] ws I3.kIn rfl (rz.length.symm.trans lz)) r2 q2
  have run2 : codeAny (model X.prog X.w) X.A (.call (.ref g) ⟨[.ref C], ks.zip ws⟩) (fun r s' => match r with | .ok (.ret v) => EP X ((s1.heap.objs.size, PySem.W.methodObj (Value.ref g) (Value.ref C)) :: pins) σ Q v s' | .ok _ => False | .error u => X.xe u s') s3 := by
    refine codeAny_mono run ?_
    rintro (u | fl) s4 z
    · exact passAt tk σ _ H2 s3 u s4 I3 z
    · cases fl with
      | ret u => exact I3.after z
      | next => exact False.elim z
      | brk => exact False.elim z
      | cont => exact False.elim z
  refine thn (wpAny_call (PySem.W.method_call (ClX.pin_at I3) run2)) ?_
  intro _ _ y
  exact ClX.unpinE y
end
end L2

/-! editors made, at the top too; the errors of making them -/
namespace Gc
open PySem L2
abbrev s_ed_top : Stmt := inClass (top 23) 1
abbrev s_made : Stmt := top 9999
@[irreducible] def zEdInit (K : PySem.W.Frag) (CD : Addr) (cs : Nat → Addr) : Sp := spEdInit K CD cs
theorem zEdInit_eq (K : PySem.W.Frag) (CD : Addr) (cs : Nat → Addr) : zEdInit K CD cs = spEdInit K CD cs := by unfold zEdInit; rfl
/-- a new editor -/
theorem ask_init {K : PySem.W.Frag} {CD : Addr} {cs : Nat → Addr} {H : Hp} {Q : VK} {E : XK} {x dx t b : Addr} {T : List Int} {r : Int} {g : Option Int} (nx : H x = none) (nd : H dx = none) (ne : dx ≠ x) (ht : SqL K H t (T.map V.int)) (hb : SqT K H b [.int r, optV g])
    (kb : ∀ i v, BadEd b T r g i v → Err E (cs i) v H)
    (k : T ≠ [] → negAt T = none → CurOk T.length r g → ∀ (H' : Hp) (tl cl : Addr), Same H H' → H tl = none → H cl = none → tl ≠ cl → EdSt K H' x CD dx tl cl T [.ref b] [(r, g)] → Q .non H') : zEdInit K CD cs [.ref x, .ref t, .ref b] (upd (upd H dx (.own x)) x (.ins CD dx [])) Q E := by
  rw [zEdInit_eq]
  have e0 : Same H (upd (upd H dx (.own x)) x (.ins CD dx [])) := same_freeU (new_same nd) nx
  have hx0 : (upd (upd H dx (.own x)) x (.ins CD dx [])) x = some (.ins CD dx []) := upd_same
  generalize upd (upd H dx (.own x)) x (.ins CD dx []) = H1 at e0 hx0 ⊢
  refine ⟨x, dx, t, b, T, r, g, rfl, hx0, e0.seq ht, seq_t e0 hb, (fun i v bad => Err.same e0 (kb i v bad)), fun t0 n0 cu H2 tl cl kp ntl ncl tc ed h1 h2 => ?_⟩
  have sm : Same H H2 := fun c o hc => by
    have cx : c ≠ x := fun z => by rw [z, nx] at hc; cases hc
    exact kp c o cx cx (e0 _ _ hc)
  exact k t0 n0 cu H2 tl cl sm (e0.free ntl) (e0.free ncl) tc ⟨ed, h1, h2, .cons ⟨b, rfl, seq_t sm hb⟩ .nil⟩
theorem nn_facts {b : Addr} {T : List Int} {r : Int} {g : Option Int} (nn : ∀ x ∈ T, 0 ≤ x) (hin : SpotIn T (r, g)) (i : Nat) (v : V) : ¬ BadEd b T r g i v := fun bad => by
  have i1 : r < T.length := hin.2.1
  have i0 : 0 ≤ r := hin.1
  have n0 := neg_none fun j x _ hx => nn x (List.mem_of_getElem? hx)
  cases bad with
  | text0 z =>
    rw [z] at i1
    simp at i1
    omega
  | text i _ z => rw [n0] at z; cases z
  | cursor _ _ z => exact z hin
/-- .. of a valid text and cursor -/
theorem ask_made {K : PySem.W.Frag} {CD : Addr} {cs : Nat → Addr} {H : Hp} {Q : VK} {E : XK} {x dx t b : Addr} {T : List Int} {r : Int} {g : Option Int} (nx : H x = none) (nd : H dx = none) (ne : dx ≠ x) (ht : SqL K H t (T.map V.int)) (hb : SqT K H b [.int r, optV g]) (nn : ∀ x ∈ T, 0 ≤ x) (hin : SpotIn T (r, g))
    (k : ∀ (H' : Hp) (tl cl : Addr), Same H H' → H tl = none → H cl = none → tl ≠ cl → EdSt K H' x CD dx tl cl T [.ref b] [(r, g)] → Q .non H') : zEdInit K CD cs [.ref x, .ref t, .ref b] (upd (upd H dx (.own x)) x (.ins CD dx [])) Q E :=
  ask_init nx nd ne ht hb (fun i v bad => absurd bad (nn_facts nn hin i v)) fun _ _ _ => k
def spTop (K : PySem.W.Frag) (CD : Addr) (cs : Nat → Addr) : Sp := fun vs H Q E => ∃ (t : Addr) (T : List Int), vs = [.ref CD, .ref t] ∧ SqL K H t (T.map V.int) ∧ (∀ b i v, BadEd b T 0 (some 0) i v → Err E (cs i) v H) ∧
  (T ≠ [] → negAt T = none → ∀ (H' : Hp) (x dx tl cl b : Addr), Same H H' → H x = none → H tl = none → H cl = none → tl ≠ cl → EdSt K H' x CD dx tl cl T [.ref b] [(0, some 0)] → Q (.ref x) H')
@[irreducible] def zTop (K : PySem.W.Frag) (CD : Addr) (cs : Nat → Addr) : Sp := spTop K CD cs
theorem zTop_eq (K : PySem.W.Frag) (CD : Addr) (cs : Nat → Addr) : zTop K CD cs = spTop K CD cs := by unfold zTop; rfl
def curR : Bool → Int → Int
  | true, _ => 0
  | false, r => r
def curG : Bool → Option Int → Option Int
  | true, _ => some 0
  | false, g => g
def spMadeE (K : PySem.W.Frag) : Sp := fun vs H Q _ => ∃ (l b : Addr) (T : List Int) (r : Int) (g : Option Int) (bn : Bool), vs = [.ref l, .ref b, .bl bn] ∧ SqL K H l (T.map V.int) ∧ SqT K H b [.int r, optV g] ∧
  (∀ b' i v, (bn = false → b' = b) → BadEd b' T (curR bn r) (curG bn g) i v → ∀ (H' : Hp) (p : Addr), Same H H' → H' p = some (.lst [.str (kindW i), v]) → Q (.ref p) H') ∧
  (T ≠ [] → negAt T = none → CurOk T.length (curR bn r) (curG bn g) → ∀ (H' : Hp) (p : Addr), Same H H' → H' p = some (.lst [.str "none", .non]) → Q (.ref p) H')
section
variable {P : Program} {w : World} {K : PySem.W.Frag} {mg : Str → Option Value} {base : Heap} {CD CE : Addr} {cs : Nat → Addr} {R : Nat → Prop}
theorem sc_Editor_at_top : FnScope ["cls", "text"] ["cls", "text"] (defScope s_ed_top) := ⟨rfl, rfl, rfl, by decide +kernel, rfl, by decide +kernel, by decide +kernel⟩
theorem ok_ed_top {f : Addr} {fd : FuncData} (F : Fun K "at_top" "Editor.at_top" s_ed_top f fd) (m_Editor : Mak P w K mg base (L2.CX P w) 4 "Editor" CD (zEdInit K CD cs)) : FnOk P w K mg base (L2.CX P w) 6 f fd ["cls", "text"] (spTop K CD cs) := by
  refine F.okX sc_Editor_at_top (fun vs H Q E h => ?_) (fun cdv A outer s H vs Q E hr h => ?_)
  · obtain ⟨t, T, rfl, _⟩ := h
    rfl
  · obtain ⟨t, T, rfl, ht, kb, kg⟩ := h
    refine ⟨_, (pss_one (ps_ret (pe_makL (takes_of rfl rfl rfl rfl) m_Editor hr (by decide) (pv 0) (pa_cons (pv 1) (pa_cons (pe_tup (pa_cons pe_int (pa_cons pe_int pa_nil))) pa_nil))))), ?_⟩
    refine ⟨_, rfl, rfl, _, rfl, (by show 2 ≤ sizeLine; decide), fun b nb => ?_⟩
    have e0 := new_same (o := HO.tup [V.int 0, .int 0]) nb
    have hb : (upd H b (.tup [V.int 0, .int 0])) b = some (.tup [V.int 0, .int 0]) := upd_same
    generalize upd H b (.tup [V.int 0, .int 0]) = H1 at e0 hb ⊢
    intro x dx nx nd ne
    refine ask_init (g := some 0) nx nd ne (e0.seq ht) (SqT.of hb) (fun i v bad => Err.same e0 (kb b i v bad)) fun t0 n0 _ H' tl cl sm n1 n2 tc E => ⟨rfl, ?_⟩
    exact kg t0 n0 H' x dx tl cl b (e0.trans sm) (e0.free nx) (e0.free n1) (e0.free n2) tc E
end
end Gc

/-! own classes: == and != by an own __eq__, with any answer -/
namespace L2
open PySem PySem.Spec PyProof.Rows
section
variable {X : Cx} {n : Nat} {C f : Addr} {CX : CXT} {sp : Sp} {E : XK}
/-- x == y, both of the class at C -/
def rOwnI (C : Addr) (sp : Sp) (E : XK) : R2 := fun x y H Q => ∃ a dx fs b dy gs, x = .ref a ∧ y = .ref b ∧ H a = some (.ins C dx fs) ∧ H b = some (.ins C dy gs) ∧ sp [x, y] H Q E
theorem op_eqI (hs : PySem.W.findIn X.K (.ref C) "__eq__" = some (some (.ref f))) (hf : PySem.W.isFn X.K (.ref f) = true) (F : FnR X.prog X.w X.K X.mg X.base CX n f sp) (hr : Room n X.A) (hx : Passes CX X E) : OpR X (compareOp .Eq) (rOwnI C sp E) := by
  intro pins s σ H x y v u Q I rx ry h
  obtain ⟨a, dx, fs, b, dy, gs, rfl, rfl, ha, hb, q⟩ := h
  cases (show v = Value.ref a from rx)
  cases (show u = Value.ref b from ry)
  obtain ⟨mA, J, _⟩ := ins_get I.hok ha
  obtain ⟨mB, J', _⟩ := ins_get I.hok hb
  obtain ⟨od, J, _⟩ := J.look
  obtain ⟨od', J', _⟩ := J'.look
  obtain ⟨m, hF⟩ := I.fr
  show wpAny (model X.prog X.w) X.A (richCompare .Eq (.ref a) (.ref b)) (EP X pins σ Q) X.xe s
  refine PySem.W.cmp_K (op := .Eq) (tb := .ref C) hr.units0 hF I.ok.mod.kin J J'.type (by simp [PySem.W.notFirst]) hs hf ?_
  refine wpAny_mono (wpAny_call (run_fnR (us := [.ref a, .ref b]) (vs := [.ref a, .ref b]) F hr hx I (.cons rfl (.cons rfl .nil)) q)) (fun w s' z => ?_) fun _ _ x => x
  obtain ⟨z', H', I', rz, qz⟩ := z
  exact SlX.cmpback rz ⟨z', H', I', rz, qz⟩
/-- x != y, both of the class at C, that has no own __ne__ -/
def rOwnNe (C : Addr) (sp : Sp) (E : XK) : R2 := fun x y H Q => ∃ a dx fs b dy gs, x = .ref a ∧ y = .ref b ∧ H a = some (.ins C dx fs) ∧ H b = some (.ins C dy gs) ∧ sp [x, y] H (fun v H' => ∃ c, v = .bl c ∧ Q (.bl !c) H') E
theorem ifBound_B {prog : Program} {w : World} {A : Around} {E : Value → Shared → Prop} {s : Shared} {K : PySem.W.Frag} {x C : Addr} {ox : Obj} {od : Option Obj} {name : Str} {id : String} {args : List Value} {Q : Option Value → Shared → Prop} (X : K.In s.heap) (I : PySem.W.InstAt s.heap x ox C od)
    (hs : PySem.W.findIn K (.ref C) name = some (some (.builtin id))) (hb : ∀ self, bindSpecial (.builtin id) self = pure (.builtin id, [self]))
    (h : wpAny (model prog w) A (call (.builtin id) (.ref x :: args)) (fun v => Q (some v)) E s) : wpAny (model prog w) A (callSpecialIfBound? (.ref x) name args) Q E s := by
  simp only [callSpecialIfBound?, bindSpecialIfBound?]
  refine wpAny_holding (wpAny_bind (wpAny_bind (wpAny_bind (I.type.here ((PySem.W.looks_findIn X hs).here ?_)))))
  refine wpAny_bind (wpAny_askSetting (wpAny_ite ?_))
  have fin : wpAny (model prog w) A (call (.builtin id) ([.ref x] ++ args) >>= fun v => pure (some v)) Q E s := wpAny_bind (wpAny_mono h (fun v s' h' => wpAny_pure h') fun _ _ h' => h')
  simp only [hb]
  split
  · exact wpAny_bind (wpAny_pure (wpAny_pure (by exact fin)))
  · exact wpAny_tryCatch (wpAny_bind (wpAny_pure (wpAny_pure (by exact fin))))
theorem op_neI (hs : PySem.W.findIn X.K (.ref C) "__eq__" = some (some (.ref f))) (hn : PySem.W.findIn X.K (.ref C) "__ne__" = some (some (.builtin "object.__ne__"))) (ho : PySem.W.subIn X.K (.ref C) (.type "object") = some true) (hf : PySem.W.isFn X.K (.ref f) = true)
    (F : FnR X.prog X.w X.K X.mg X.base CX n f sp) (hr : Room (n + 1) X.A) (hx : Passes CX X E) : OpR X (compareOp .NotEq) (rOwnNe C sp E) := by
  intro pins s σ H x y v u Q I rx ry h
  obtain ⟨a, dx, fs, b, dy, gs, rfl, rfl, ha, hb, q⟩ := h
  cases (show v = Value.ref a from rx)
  cases (show u = Value.ref b from ry)
  obtain ⟨mA, J, _⟩ := ins_get I.hok ha
  obtain ⟨mB, J', _⟩ := ins_get I.hok hb
  obtain ⟨od, J, _⟩ := J.look
  obtain ⟨od', J', _⟩ := J'.look
  obtain ⟨m, hF⟩ := I.fr
  show wpAny (model X.prog X.w) X.A (richCompare .NotEq (.ref a) (.ref b)) (EP X pins σ Q) X.xe s
  have hu1 : X.A.units < cLine := hr.units0
  have key : wpAny (model X.prog X.w) X.A (tryCompare (.ref a) "__ne__" (.ref b)) (fun r s' => ∃ v, r = some v ∧ EP X pins σ Q v s') X.xe s := by
    unfold tryCompare
    refine wpAny_bind (ifBound_B I.kIn J hn PySem.F.cmp_object.ne.bind (wpAny_call (codeAny_call_builtin PySem.F.cmp_object.ne.plain PySem.F.cmpEntry_ne (PySem.W.check_slot PySem.F.cmpKind_ne PySem.F.cmpSplit_ne ?_ (PySem.F.cmpArgs_ne _ _) ?_))))
    · exact J.type.andThen (PySem.W.looks_subIn I.kIn ho)
    · unfold Builtin.«object.__ne__»
      repeat (first
        | with_reducible refine wpAny_cRoomFor hr.in1.units0 ?_
        | (refine wpAny_bind (m := callSpecialIfBound? (.ref a) (Str.ofString "__eq__") [.ref b]) (PySem.W.ifBound_K I.kIn J hs hf ?_))
        | wp_step)
      refine codeAny_mono (F X.A.in1 X.stack s H [.ref a, .ref b] [.ref a, .ref b] _ E hr.in1 I.env0.in1 (.cons rfl (.cons rfl .nil)) q) fun r s' hq => ?_
      cases r with
      | error e => exact hx pins σ H s e s' I hq
      | ok fl =>
        cases fl with
        | ret u =>
          obtain ⟨z, H', I2, rz, c, ec, qz⟩ := I.after hq
          subst ec
          cases (show u = Value.bool c from rz)
          show wpAny _ _ (truthy (.bool c) >>= fun r => ret (.bool !r)) _ _ _
          exact wpAny_bind (wpAny_truthy_bool (wpAny_pure (wpAny_pure ⟨.bool !c, rfl, .bl !c, H', I2, rfl, qz⟩)))
        | next => exact False.elim hq
        | brk => exact False.elim hq
        | cont => exact False.elim hq
  unfold richCompare
  simp only [oneThing_ref]
  refine wpAny_holding ?_
  refine wpAny_bind (wpAny_cRoomFor hu1 ?_)
  rw [cmpInfo_NotEq]
  dsimp only
  refine wpAny_bind (J.type.here (wpAny_bind (J'.type.here ?_)))
  rw [show (Value.ref C != Value.ref C) = false from by simp]
  simp only [Bool.false_eq_true, if_false]
  refine wpAny_bind (wpAny_pure ?_)
  simp only [Bool.false_eq_true, if_false]
  refine wpAny_bind (wpAny_mono key (fun r s' hv => ?_) fun _ _ e => e)
  obtain ⟨v, rfl, hq⟩ := hv
  exact wpAny_pure hq
end
end L2
namespace L2
open PySem PySem.Spec PyProof.Rows
open PySem.SeqAt
open AutoSeq1 (wpAny_loadPart')
open MeetsSeq
/-! ### x not in [..], nothing of it of x's class: each item declines, the own __eq__ says no -/
theorem int_dec (b : Int) (u : Tok) (l C dx : Addr) : Meets (Builtin.«int.__eq__» ⟨[.int b u, .ref l], []⟩) (fun _ R s => s.heap.get? l = some (PySem.W.instObj C dx) ∧ R (.ok (.ret .notImplemented)) s) :=
  .of_wp fun prog w A R s h => by obtain ⟨hp, g, d, tk, os⟩ := s; obtain ⟨hl, h⟩ := h; wp_walk using wpAny_loadPart' hl, wpAny_load hl; exact ⟨_, rfl, h⟩
theorem str_dec (b : Str) (u : Tok) (l C dx : Addr) : Meets (Builtin.«str.__eq__» ⟨[.str b u, .ref l], []⟩) (fun _ R s => s.heap.get? l = some (PySem.W.instObj C dx) ∧ R (.ok (.ret .notImplemented)) s) :=
  .of_wp fun prog w A R s h => by obtain ⟨hp, g, d, tk, os⟩ := s; obtain ⟨hl, h⟩ := h; wp_walk using wpAny_loadPart' hl, wpAny_load hl; exact ⟨_, rfl, h⟩
theorem lst_dec (q : Addr) (items : Array Value) (n : Nat) (dd : Option Addr) (sl : Array (Option Value)) (l C dx : Addr) : Meets (Builtin.«list.__eq__» ⟨[.ref q, .ref l], []⟩) (fun _ R s => ∃ K : PySem.W.Frag, K.In s.heap ∧ PySem.W.subIn K (.ref C) (.type "list") = some false ∧ s.heap.get? q = some { cls := .type "list", dict := dd, data := .seq items n, slots := sl } ∧ s.heap.get? l = some (PySem.W.instObj C dx) ∧ R (.ok (.ret .notImplemented)) s) :=
  .of_wp fun prog w A R s h => by
    obtain ⟨hp, g, d, tk, os⟩ := s
    obtain ⟨K, kin, sub, hq, hl, h⟩ := h
    wp_walk using wpAny_loadPart' hl, (PySem.W.looks_subIn kin sub).here
    exact ⟨_, rfl, h⟩
theorem tup_dec (q : Addr) (items : Array Value) (n : Nat) (dd : Option Addr) (sl : Array (Option Value)) (l C dx : Addr) : Meets (Builtin.«tuple.__eq__» ⟨[.ref q, .ref l], []⟩) (fun _ R s => ∃ K : PySem.W.Frag, K.In s.heap ∧ PySem.W.subIn K (.ref C) (.type "tuple") = some false ∧ s.heap.get? q = some { cls := .type "tuple", dict := dd, data := .seq items n, slots := sl } ∧ s.heap.get? l = some (PySem.W.instObj C dx) ∧ R (.ok (.ret .notImplemented)) s) :=
  .of_wp fun prog w A R s h => by
    obtain ⟨hp, g, d, tk, os⟩ := s
    obtain ⟨K, kin, sub, hq, hl, h⟩ := h
    wp_walk using wpAny_loadPart' hl, (PySem.W.looks_subIn kin sub).here
    exact ⟨_, rfl, h⟩
theorem none_dec (l : Addr) : Meets (Builtin.«NoneType.__eq__» ⟨[.none, .ref l], []⟩) (fun _ R s => R (.ok (.ret .notImplemented)) s) :=
  .of_wp fun prog w A R s h => by obtain ⟨hp, g, d, tk, os⟩ := s; wp_walk; exact ⟨_, rfl, h⟩
/-- a class below none of these -/
structure ApartO (K : PySem.W.Frag) (C : Addr) : Prop where
  none : PySem.W.subIn K (.ref C) (.type "NoneType") = some false
  int : PySem.W.subIn K (.ref C) (.type "int") = some false
  str : PySem.W.subIn K (.ref C) (.type "str") = some false
  list : PySem.W.subIn K (.ref C) (.type "list") = some false
  tuple : PySem.W.subIn K (.ref C) (.type "tuple") = some false
/-- a value of these kinds -/
def Fgn (K : PySem.W.Frag) (H : Hp) (v : V) : Prop := v = .non ∨ (∃ i, v = .int i) ∨ (∃ x, v = .str x) ∨ (∃ b xs, v = .ref b ∧ SqL K H b xs) ∨ (∃ b xs, v = .ref b ∧ SqT K H b xs)
theorem Fgn.ext {K : PySem.W.Frag} {H H' : Hp} {v : V} (e : Ext H H') (h : Fgn K H v) : Fgn K H' v := by
  rcases h with h | h | h | ⟨b, xs, h, q⟩ | ⟨b, xs, h, q⟩
  · exact .inl h
  · exact .inr (.inl h)
  · exact .inr (.inr (.inl h))
  · exact .inr (.inr (.inr (.inl ⟨b, xs, h, q.ext e⟩)))
  · exact .inr (.inr (.inr (.inr ⟨b, xs, h, q.ext e⟩)))
section
variable {X : Cx} {n : Nat} {C f : Addr} {CX : CXT} {sp : Sp} {E : XK} {A : Around} {pins : List (Addr × Obj)} {s : Shared} {σ : St} {H : Hp}
theorem back_G {Q : VK} {a dx : Addr} {fs : List (Str × V)} {v : V} {u : Value} {T id : String} (sb : Sub X n A) (hs : PySem.W.findIn X.K (.ref C) "__eq__" = some (some (.ref f))) (hf : PySem.W.isFn X.K (.ref f) = true) (F : FnR X.prog X.w X.K X.mg X.base CX n f sp) (hx : Passes CX X E)
    (I : Inv X pins σ H s) (ha : H a = some (.ins C dx fs)) (hT : s.TypeIs u T) (slot : Slot T (cmpInfo .Eq).2.1 id) (hsub : PySem.W.subIn X.K (.ref C) (.type T) = some false)
    (hdec : ∀ Q' : Value → Shared → Prop, Q' .notImplemented s → wpAny (model X.prog X.w) A (call (.builtin id) [u, .ref a]) Q' X.xe s) (rv : RelV v u) (q : sp [.ref a, v] H Q E) :
    wpAny (model X.prog X.w) A (richCompare .Eq u (.ref a)) (EP X pins σ Q) X.xe s := by
  obtain ⟨mA, J, _⟩ := ins_get I.hok ha
  obtain ⟨od, J, _⟩ := J.look
  have e0 : Env0 X.prog X.w X.K X.mg X.base A X.stack s H := by
    have e := I.env0
    exact ⟨by rw [sb.fr]; exact e.frames, e.mod, e.bs, e.bsz, e.funs, e.frf, e.hok, e.bare⟩
  have key : wpAny (model X.prog X.w) A (tryCompare (.ref a) (cmpInfo .Eq).2.2 u) (fun r s' => ∃ v, r = some v ∧ EP X pins σ Q v s') X.xe s := by
    unfold tryCompare
    refine wpAny_bind (PySem.W.ifBound_K I.kIn J hs hf (wpAny_mono (wpAny_call (codeAny_mono (F A X.stack s H [.ref a, u] [.ref a, v] Q E sb.room e0 (.cons rfl (.cons rv .nil)) q) (R' := fun r s' => match r with | .ok (.ret w) => EP X pins σ Q w s' | .ok _ => False | .error e => X.xe e s') fun r s' hq => ?_)) (fun w s' z => ?_) fun _ _ x => x))
    · cases r with
      | error e => exact hx pins σ H s e s' I hq
      | ok fl =>
        cases fl with
        | ret w => exact I.after hq
        | next => exact False.elim hq
        | brk => exact False.elim hq
        | cont => exact False.elim hq
    · obtain ⟨z', H', I', rz, qz⟩ := z
      have cb := SlX.cmpback (P := fun w s' => EP X pins σ Q w s') rz ⟨z', H', I', rz, qz⟩
      cases w <;> first | exact cb.elim | exact wpAny_pure ⟨_, rfl, cb⟩
  rcases hi : cmpInfo CmpOp.Eq with ⟨sym, g, r⟩
  rw [hi] at slot key
  simp only [richCompare, hi, hT.oneThing_none]
  try with_reducible refine wpAny_holding ?_
  refine wpAny_bind (wpAny_cRoomFor sb.room.units0 ?_)
  refine wpAny_bind (wpAny_typeOf hT (wpAny_bind (J.type.here ?_)))
  rw [show (Value.type T != Value.ref C) = true from rfl]
  simp only [if_true]
  refine wpAny_bind ((PySem.W.looks_subIn I.kIn hsub).here ?_)
  simp only [Bool.false_eq_true, if_false, Bool.not_false, if_true]
  refine wpAny_bind (m := tryCompare u _ (.ref a)) (wpAny_tryCompare_declines hT slot (hdec _ ⟨rfl, ?_⟩))
  refine wpAny_bind (m := tryCompare (.ref a) _ u) (wpAny_mono key (fun r s' hv => ?_) fun _ _ e => e)
  obtain ⟨w, rfl, hq⟩ := hv
  exact wpAny_pure hq
theorem eqBool_backG {prog : Program} {w : World} {A : Around} {E : Value → Shared → Prop} {s : Shared} {u : Value} {a : Addr} {Q : Bool → Shared → Prop} (hne : (u == .ref a) = false) (h : wpAny (model prog w) A (richCompare .Eq u (.ref a)) (fun v s' => ∃ r, v = .bool r ∧ Q r s') E s) : wpAny (model prog w) A (eqBool u (.ref a)) Q E s := by
  unfold eqBool
  refine wpAny_holding ?_
  refine wpAny_ite_split (fun hab => by rw [hne] at hab; cases hab) (fun _ => ?_)
  cases u <;> (
    refine wpAny_bind (wpAny_mono h (fun v s' hv => ?_) fun _ _ x => x)
    obtain ⟨r, rfl, q⟩ := hv
    exact wpAny_truthy_bool q)
theorem item_G {a dx : Addr} {fs : List (Str × V)} {v : V} {u : Value} (sb : Sub X n A) (hs : PySem.W.findIn X.K (.ref C) "__eq__" = some (some (.ref f))) (hf : PySem.W.isFn X.K (.ref f) = true) (F : FnR X.prog X.w X.K X.mg X.base CX n f sp) (hx : Passes CX X E) (ap : ApartO X.K C)
    (I : Inv X pins σ H s) (ha : H a = some (.ins C dx fs)) (rv : RelV v u) (fg : Fgn X.K H v) (q : sp [.ref a, v] H (fun r H' => r = .bl false ∧ Ext H H') E) :
    wpAny (model X.prog X.w) A (eqBool u (.ref a)) (fun r s' => r = false ∧ LoopI X pins σ H s') X.xe s := by
  obtain ⟨mA, J, _⟩ := ins_get I.hok ha
  obtain ⟨od, J, _⟩ := J.look
  have hl := J.at_
  have fin : ∀ (w : Value) (s' : Shared), EP X pins σ (fun r H' => r = .bl false ∧ Ext H H') w s' → ∃ r, w = .bool r ∧ r = false ∧ LoopI X pins σ H s' := fun w s' h => by
    obtain ⟨z, H', I', rz, ez, ex⟩ := h
    subst ez
    cases (show w = Value.bool false from rz)
    exact ⟨false, rfl, rfl, H', I', ex⟩
  rcases fg with rfl | ⟨i, rfl⟩ | ⟨x, rfl⟩ | ⟨b, xs, rfl, hq⟩ | ⟨b, xs, rfl, hq⟩
  · cases (show u = Value.none from rv)
    exact eqBool_backG rfl (wpAny_mono (back_G (v := .non) sb hs hf F hx I ha rfl PySem.F.slot_NoneType_eq ap.none (fun Q' h => call_meets PySem.F.slot_NoneType_eq rfl PySem.F.entry_NoneType_eq (PySem.F.args_NoneType_eq_2 _ _) (none_dec a) h) rfl q) (fun w s' h => fin w s' h) fun _ _ x => x)
  · obtain ⟨t, rfl⟩ := (show ∃ t, u = Value.int i t from rv)
    exact eqBool_backG rfl (wpAny_mono (back_G (v := .int i) sb hs hf F hx I ha (typeIs_int s i t) PySem.F.slot_int_eq ap.int (fun Q' h => call_meets PySem.F.slot_int_eq (typeIs_int s i t) PySem.F.entry_int_eq (PySem.F.args_int_eq_2 _ _) (int_dec i t a C dx) ⟨hl, h⟩) ⟨t, rfl⟩ q) (fun w s' h => fin w s' h) fun _ _ x => x)
  · obtain ⟨t, rfl⟩ := (show ∃ t, u = Value.str x t from rv)
    exact eqBool_backG rfl (wpAny_mono (back_G (v := .str x) sb hs hf F hx I ha (typeIs_str s x t) PySem.F.slot_str_eq ap.str (fun Q' h => call_meets PySem.F.slot_str_eq (typeIs_str s x t) PySem.F.entry_str_eq (PySem.F.args_str_eq_2 _ _) (str_dec x t a C dx) ⟨hl, h⟩) ⟨t, rfl⟩ q) (fun w s' h => fin w s' h) fun _ _ x => x)
  · cases (show u = Value.ref b from rv)
    obtain ⟨its, r, pl, hz⟩ := I.list hq
    obtain ⟨⟨cls, dd, data, sl⟩, ho, hc, n', hd⟩ := pl.isList
    simp only at hc hd
    subst hc hd
    have ne : b ≠ a := fun z => by
      rw [z, hl] at ho
      cases ho
    exact eqBool_backG (by simpa using ne) (wpAny_mono (back_G (v := .ref b) sb hs hf F hx I ha ⟨_, ho, rfl⟩ PySem.F.slot_list_eq ap.list (fun Q' h => call_meets PySem.F.slot_list_eq ⟨_, ho, rfl⟩ PySem.F.entry_list_eq (PySem.F.args_list_eq_2 _ _) (lst_dec b _ _ _ _ a C dx) ⟨X.K, I.kIn, ap.list, ho, hl, h⟩) rfl q) (fun w s' h => fin w s' h) fun _ _ x => x)
  · cases (show u = Value.ref b from rv)
    obtain ⟨its, r, pl, hz⟩ := I.tuple hq
    obtain ⟨⟨cls, dd, data, sl⟩, ho, hc, n', hd⟩ := pl
    simp only at hc hd
    subst hc hd
    have ne : b ≠ a := fun z => by
      rw [z, hl] at ho
      cases ho
    exact eqBool_backG (by simpa using ne) (wpAny_mono (back_G (v := .ref b) sb hs hf F hx I ha ⟨_, ho, rfl⟩ PySem.F.slot_tuple_eq ap.tuple (fun Q' h => call_meets PySem.F.slot_tuple_eq ⟨_, ho, rfl⟩ PySem.F.entry_tuple_eq (PySem.F.args_tuple_eq_2 _ _) (tup_dec b _ _ _ _ a C dx) ⟨X.K, I.kIn, ap.tuple, ho, hl, h⟩) rfl q) (fun w s' h => fin w s' h) fun _ _ x => x)
/-- x not in [..]: nothing of the list is equal to x -/
def rNotInI (K : PySem.W.Frag) (C : Addr) (sp : Sp) (E : XK) : R2 := fun x y H Q => ∃ a dx fs p xs, x = .ref a ∧ y = .ref p ∧ H a = some (.ins C dx fs) ∧ H p = some (.lst xs) ∧ (∀ v ∈ xs, Fgn K H v) ∧ (∀ v ∈ xs, ∀ H', Ext H H' → sp [.ref a, v] H' (fun r H2 => r = .bl false ∧ Ext H' H2) E) ∧ ∀ H', Ext H H' → Q (.bl true) H'
theorem cont_loop {R : Result → Shared → Prop} {a dx p : Addr} {fs : List (Str × V)} {xs : List V} (sb : Sub X (n + 1) A) (hs : PySem.W.findIn X.K (.ref C) "__eq__" = some (some (.ref f))) (hf : PySem.W.isFn X.K (.ref f) = true) (F : FnR X.prog X.w X.K X.mg X.base CX n f sp) (hx : Passes CX X E) (ap : ApartO X.K C)
    (ha : H a = some (.ins C dx fs)) (hp : H p = some (.lst xs)) (fg : ∀ v ∈ xs, Fgn X.K H v) (q : ∀ v ∈ xs, ∀ H', Ext H H' → sp [.ref a, v] H' (fun r H2 => r = .bl false ∧ Ext H' H2) E) (hR : ∀ e s', X.xe e s' → R (.error e) s') (fin : ∀ s, LoopI X pins σ H s → R (.ok (.ret (.bool false))) s) (k : Nat) :
    ∀ i : Nat, xs.length - i = k → i ≤ xs.length → ∀ s, LoopI X pins σ H s → wpAny (model X.prog X.w) A.in1 (Builtin.«list.__contains__.loop» ⟨[.ref p, .ref a, rawInt i], []⟩) (GQ.FinOf X.prog X.w A R) (fun e s' => R (.error e) s') s := by
  induction k with
  | zero =>
    intro i hk hi s h
    have hF := fin s h
    obtain ⟨H1, I1, e1⟩ := h
    obtain ⟨z, its, m, r, e⟩ := I1.hok p _ (e1 _ _ hp)
    have li : its.toArray.size = xs.length := by rw [List.size_toArray, ← r.length]
    obtain ⟨hp', g, d, tk, os⟩ := s
    wp_walk using wpAny_loadPart' e
    have li2 : its.length = xs.length := r.length.symm
    have hi1 : its.toArray[((i : Nat) : Int).toNat]? = none := by simp; omega
    rw [hi1]
    wp_walk
    exact hF
  | succ k ih =>
    intro i hk hi s h
    obtain ⟨H1, I1, e1⟩ := h
    obtain ⟨z, its, m, r, e⟩ := I1.hok p _ (e1 _ _ hp)
    have li : its.toArray.size = xs.length := by rw [List.size_toArray, ← r.length]
    have hlt : i < its.toArray.size := by omega
    have k1 : i < xs.length := by omega
    obtain ⟨u, hu, ru⟩ := r.get (List.getElem?_eq_getElem k1)
    have g1 : its[i]? = some its.toArray[i] := by
      have h1' : i < its.length := by simpa using hlt
      rw [List.getElem?_eq_getElem h1'] <;> simp
    rw [g1] at hu
    have mem : xs[i] ∈ xs := List.getElem_mem k1
    have it := item_G (A := A.in1) sb.in1 hs hf F hx ap I1 (e1 _ _ ha) ru ((fg _ mem).ext e1) (q _ mem H1 e1)
    rw [← Option.some.inj hu] at it
    obtain ⟨hp', g, d, tk, os⟩ := s
    wp_walk using wpAny_loadPart' e
    have hi1 : its.toArray[((i : Nat) : Int).toNat]? = some its.toArray[i] := by simp [hlt]
    have hc : ((i : Int) + 1) = ((i + 1 : Nat) : Int) := by omega
    rw [hi1]
    refine wpAny_bind (wpAny_mono it (fun r s2 h2 => ?_) fun e s' x => hR e s' x)
    obtain ⟨hr, H2, I2, e2⟩ := h2
    subst hr
    have hrec := ih (i + 1) (by omega) (by omega) s2 ⟨H2, I2, e1.trans e2⟩
    obtain ⟨hp2, g2, d2, tk2, os2⟩ := s2
    wp_walk
    rw [hc]
    exact ⟨plainId_quiet plain_contains_loop _, codeAny_builtin entry_contains_loop (by
      rw [Around.under_plainId plain_contains_loop _]
      exact hrec)⟩
theorem op_notInI (hs : PySem.W.findIn X.K (.ref C) "__eq__" = some (some (.ref f))) (hf : PySem.W.isFn X.K (.ref f) = true) (F : FnR X.prog X.w X.K X.mg X.base CX n f sp) (hr : Room (n + 2) X.A) (hx : Passes CX X E) (ap : ApartO X.K C) : OpR X (compareOp .NotIn) (rNotInI X.K C sp E) := by
  intro pins s σ H x y v u Q I rx ry h
  obtain ⟨a, dx, fs, p, xs, rfl, rfl, ha, hp, fg, q, k⟩ := h
  cases (show v = Value.ref a from rx)
  cases (show u = Value.ref p from ry)
  obtain ⟨z, its, m, r, e⟩ := I.hok p _ hp
  show wpAny _ X.A (do return Value.bool (!(← contains (.ref p) (.ref a)))) _ _ s
  refine wpAny_bind (wpAny_contains_slot ⟨_, e, rfl⟩ PySem.F.slot_list_contains (wpAny_mono (GQ.call_here (Q := fun v s' => v = .bool false ∧ LoopI X pins σ H s') PySem.F.slot_list_contains ⟨_, e, rfl⟩ PySem.F.entry_list_contains (PySem.F.args_list_contains_2 _ _) ?_) (fun v s' hv => ?_) fun _ _ e => e))
  · have lp := cont_loop (A := X.A) (pins := pins) (σ := σ) (R := wants (fun v s' => v = .bool false ∧ LoopI X pins σ H s') X.xe) ⟨hr.mono (Nat.le_succ _), rfl⟩ hs hf F hx ap ha hp fg q (fun _ _ x => x) (fun s h => ⟨rfl, h⟩) _ 0 rfl (Nat.zero_le _) s ⟨H, I, Ext.rfl'⟩
    obtain ⟨hp', g, d, tk, os⟩ := s
    wp_walk using wpAny_loadPart' e
    exact ⟨plainId_quiet plain_contains_loop _, codeAny_builtin entry_contains_loop (by
      rw [Around.under_plainId plain_contains_loop _]
      exact lp)⟩
  · obtain ⟨rfl, H', I', ex⟩ := hv
    exact wpAny_truthy_bool (wpAny_pure ⟨.bl true, H', I', rfl, k H' ex⟩)
end
end L2

/-! the class Editor: its own == -/
namespace Gc
open PySem L2
abbrev s_ed_eq : Stmt := inClass (top 23) 8
structure TxtQ (K : PySem.W.Frag) (mg : Str → Option Value) (CD : Addr) : Prop where
  isinstance : mg "isinstance" = none
  g_Editor : mg "Editor" = some (.ref CD)
  ins : C8.InsC K CD
  kn : PySem.W.kitOne K (.type "NoneType") (.ref CD) = some false
  ki : PySem.W.kitOne K (.type "int") (.ref CD) = some false
  ks : PySem.W.kitOne K (.type "str") (.ref CD) = some false
  kl : PySem.W.kitOne K (.type "list") (.ref CD) = some false
  kt : PySem.W.kitOne K (.type "tuple") (.ref CD) = some false
theorem kit_ty {K : PySem.W.Frag} {D : Addr} {T : String} {b : Bool} (h1 : PySem.W.isClsIn K D = true) (h2 : PySem.W.typeIn K (.ref D) = some (.type "type")) (h3 : PySem.W.subIn K (.type T) (.ref D) = some b) : PySem.W.kitOne K (.type T) (.ref D) = some b := by
  unfold PySem.W.kitOne
  split
  · rename_i e
    have z := beq_iff_eq.mp e
    cases z
  · show (if ((PySem.W.clsIn K D).isSome && PySem.W.typeIn K (.ref D) == some (.type "type")) = true then PySem.W.subIn K (.type T) (.ref D) else none) = some b
    have h1' : (PySem.W.clsIn K D).isSome = true := h1
    rw [h1', h2]
    exact h3
theorem fgn_ty {K : PySem.W.Frag} {mg : Str → Option Value} {CD : Addr} {H : Hp} {v : V} (T : TxtQ K mg CD) (h : Fgn K H v) : ∃ t, TyX K H v t ∧ PySem.W.kitOne K t (.ref CD) = some false := by
  rcases h with rfl | ⟨i, rfl⟩ | ⟨x, rfl⟩ | ⟨b, xs, rfl, (z | ⟨o, z⟩) | ⟨o, its, n, z, c, _⟩⟩ | ⟨b, xs, rfl, (z | ⟨o, z⟩) | ⟨o, its, n, z, c, _⟩⟩
  · exact ⟨_, .base .non, T.kn⟩
  · exact ⟨_, .base (.int _), T.ki⟩
  · exact ⟨_, .base (.str _), T.ks⟩
  · exact ⟨_, .base (.lst z), T.kl⟩
  · exact ⟨_, .base (.frz z), T.kl⟩
  · exact ⟨_, .kList z c, T.kl⟩
  · exact ⟨_, .base (.tup z), T.kt⟩
  · exact ⟨_, .fTuple z, T.kt⟩
  · exact ⟨_, .kTuple z c, T.kt⟩
theorem eqv_intsQ : ∀ a b : List Int, PyData.eqvAll (a.map PyData.int) (b.map PyData.int) = decide (a = b)
  | [], [] => by simp [PyData.eqvAll]
  | [], _ :: _ => by simp [PyData.eqvAll]
  | _ :: _, [] => by simp [PyData.eqvAll]
  | x :: a, y :: b => by
    simp only [List.map_cons, PyData.eqvAll, PyData.eqv, eqv_intsQ a b]
    by_cases h : x = y <;> by_cases g : a = b <;> simp [h, g]
theorem eqv_spotQ (p q : Spot) : PyData.eqv (spotD p) (spotD q) = decide (p = q) := by
  obtain ⟨r, g⟩ := p
  obtain ⟨r', g'⟩ := q
  cases g <;> cases g' <;> simp [spotD, optD, PyData.eqv, PyData.eqvAll, Prod.ext_iff, Bool.beq_eq_decide_eq]
theorem shaped_ints (T : List Int) : SeqAt.shaped (.list (T.map PyData.int)) = true := shaped_of (by rw [PyData.canLay0]; exact lay_ints T) (by
  have := deep_intsE T
  simp only [PyData.depth]
  omega)
theorem shaped_spotQ (q : Spot) : SeqAt.shaped (spotD q) = true := shaped_of (lay_spot _) (Nat.le_trans (deep_spot _) (by decide))
/-- the own ==: another editor, or anything else -/
def spEdEq (K : PySem.W.Frag) (CD : Addr) : Sp := fun vs H Q _ => ∃ (x dx tl cl : Addr) (T : List Int) (ys : List V) (qs : List Spot) (q : Spot) (v : V), vs = [.ref x, v] ∧ EdSt K H x CD dx tl cl T ys (qs ++ [q]) ∧
  ((∃ (y dy tl2 cl2 : Addr) (T2 : List Int) (ys2 : List V) (qs2 : List Spot) (q2 : Spot), v = .ref y ∧ EdSt K H y CD dy tl2 cl2 T2 ys2 (qs2 ++ [q2]) ∧ Q (.bl (decide (T = T2 ∧ q = q2))) H) ∨ (Fgn K H v ∧ Q (.bl false) H))
@[irreducible] def zEdEq (K : PySem.W.Frag) (CD : Addr) : Sp := spEdEq K CD
theorem zEdEq_eq (K : PySem.W.Frag) (CD : Addr) : zEdEq K CD = spEdEq K CD := by unfold zEdEq; rfl
section
variable {P : Program} {w : World} {K : PySem.W.Frag} {mg : Str → Option Value} {base : Heap} {CD : Addr}
theorem sc_Editor___eq__ : FnScope ["self", "other"] ["self", "other"] (defScope s_ed_eq) := ⟨rfl, rfl, rfl, by decide +kernel, rfl, by decide +kernel, by decide +kernel⟩
theorem ok_ed_eq {f : Addr} {fd : FuncData} (F : Fun K "__eq__" "Editor.__eq__" s_ed_eq f fd) (T : TxtQ K mg CD) (Te : TxtEd K mg CD) (c_cursor : Prp P w K mg base 1 CD "cursor" (spEdCursor CD)) : FnOk P w K mg base CX0 3 f fd ["self", "other"] (spEdEq K CD) := by
  refine F.ok sc_Editor___eq__ (fun vs H Q E h => ?_) (fun cdv A outer s H vs Q E hr h => ?_)
  · obtain ⟨x, dx, tl, cl, T, ys, qs, q, v, rfl, _⟩ := h
    rfl
  · obtain ⟨x, dx, tl, cl, tx, ys, qs, q, v, rfl, hx, h⟩ := h
    refine ⟨_, (pss_one (ps_ret (pe_and (pe_callB call_isi (by rfl) T.isinstance (by decide +kernel) (pa_cons (pv 1) (pa_cons (pe_glob (v := .ref CD) (by rfl) T.g_Editor rfl) pa_nil))) (pe_and (pe_cmpR (op_eqD hr.units) (pe_fld (pv 0) rfl) (pe_fld (pv 1) rfl) (nomark _)) (pe_one (pe_cmpR (op_eqD hr.units) (pe_prp c_cursor hr (by decide) (pv 0) rfl) (pe_prp c_cursor hr (by decide) (pv 1) rfl) (nomark _))))))), ?_⟩
    rcases h with ⟨y, dy, tl2, cl2, tx2, ys2, qs2, q2, rfl, hy, k⟩ | ⟨fg, k⟩
    · refine ⟨_, rfl, _, _, _, _, true, rfl, .own CD, .base (.ins hy.ed T.ins.cl T.ins.ha T.ins.hn T.ins.htk T.ins.hm), T.ins.me, ?_⟩
      refine ⟨_, rfl, iteT ?_⟩
      have hxc := hx.hc
      have hyc := hy.hc
      obtain ⟨ys', b, e1, _, hb⟩ := spots_split hx.sp
      obtain ⟨ys2', b2, e2, _, hb2⟩ := spots_split hy.sp
      rw [e1] at hxc
      rw [e2] at hyc
      refine ⟨_, rfl, x, CD, dx, _, _, rfl, hx.ed, Te.cl, Te.n1, rfl, _, rfl, y, CD, dy, _, _, rfl, hy.ed, Te.cl, Te.n1, rfl, .list (tx.map .int), .list (tx2.map .int), .lst (SqL.of hx.ht) (dp_intsE tx), .lst (SqL.of hy.ht) (dp_intsE tx2), shaped_ints _, shaped_ints _, ?_⟩
      rw [show PyData.eqv (.list (tx.map PyData.int)) (.list (tx2.map PyData.int)) = decide (tx = tx2) by rw [PyData.eqv]; exact eqv_intsQ tx tx2]
      by_cases e : tx = tx2
      · rw [decide_eq_true e]
        refine ⟨_, rfl, iteT ?_⟩
        refine ⟨_, rfl, x, dx, _, rfl, hx.ed, x, dx, tl, cl, ys', .ref b, rfl, hx.ed, hxc, _, rfl, y, dy, _, rfl, hy.ed, y, dy, tl2, cl2, ys2', .ref b2, rfl, hy.ed, hyc, spotD q, spotD q2, spot_dp hb, spot_dp hb2, shaped_spotQ _, shaped_spotQ _, ?_⟩
        rw [eqv_spotQ]
        have ee : decide (tx = tx2 ∧ q = q2) = decide (q = q2) := by simp [e]
        rw [← ee]
        exact k
      · rw [decide_eq_false e]
        refine ⟨_, rfl, iteF ?_⟩
        have ee : decide (tx = tx2 ∧ q = q2) = false := decide_eq_false fun z => e z.1
        rw [ee] at k
        exact k
    · obtain ⟨t, ty, kt⟩ := fgn_ty T fg
      refine ⟨_, rfl, _, _, _, _, false, rfl, .own CD, ty, kt, ?_⟩
      exact ⟨_, rfl, iteF k⟩
end
end Gc

/-! defs that call repr: what is shown just now is told to be nothing. The law's own defs go so; all others as before -/
namespace Gc
open PySem PySem.Spec PyProof.Rows L2
structure FnG (P : Program) (w : World) (K : PySem.W.Frag) (mg : Str → Option Value) (base : Heap) (k : Nat) (f : Addr) (fd : FuncData) (ps : List Str) (sp : Sp) : Prop where
  len : ∀ vs H Q E, sp vs H Q E → vs.length = ps.length
  run : ∀ (A : Around) (outer : List Env) (s : Shared) (H : Hp) (args : Args) (us : List Value) (vs : List V) (Q : VK) (E : XK), A.guards = some [] → Room k A → Env0 P w K mg base A outer s H →
    BindsTo s fd args (ps.zip us) → Vals vs us → sp vs H Q E → codeAny (model P w) A (.call (.ref f) args) (CR CX0 outer P w H s Q E) s
theorem FnG.of {P : Program} {w : World} {K : PySem.W.Frag} {mg : Str → Option Value} {base : Heap} {k : Nat} {f : Addr} {fd : FuncData} {ps : List Str} {sp : Sp} (F : FnOk P w K mg base CX0 k f fd ps sp) : FnG P w K mg base k f fd ps sp :=
  ⟨F.len, fun A outer s H args us vs Q E _ hr e0 hb hv hs => F.run A outer s H args us vs Q E hr e0 hb hv hs⟩
section
variable {P : Program} {w : World} {K : PySem.W.Frag} {mg : Str → Option Value} {base : Heap}
theorem okG {x qual : Str} {st : Stmt} {f : Addr} {fd : FuncData} {N ps : List Str} {k : Nat} {sp : Sp} (F : Fun K x qual st f fd) (S : FnScope N ps (defScope st)) (len : ∀ vs H Q E, sp vs H Q E → vs.length = ps.length)
    (hbody : ∀ (cdv : Value) (A : Around) (outer : List Env) (s : Shared) (H : Hp) (vs : List V) (Q : VK) (E : XK), (A.deeper (envOfC qual (defScope st) s.heap.objs.size f cdv)).guards = some [] → Room k (A.deeper (envOfC qual (defScope st) s.heap.objs.size f cdv)) → sp vs H Q E →
      ∃ t, PSs (cxOf CX0 P w K mg base N qual (defScope st) f cdv A outer s H E).nox (defBody st) t ∧ t { nx := fun _ H' => Q .non H', rt := Q } (start N vs) H) : FnG P w K mg base (k + 1) f fd ps sp := by
  obtain ⟨oc, od, kV, doc, pm, an, cdv, ct, osl, rfl, lk, hcd⟩ := F.ex
  refine ⟨len, fun A outer s H args us vs Q E hg hr e0 hb r hsp => ?_⟩
  have n := len _ _ _ _ hsp
  have same : ∀ b o, base.get? b = some o → s.heap.get? b = some o := fun b o e => (e0.bs b o e).1
  have kin : K.In s.heap := e0.mod.kin.keeps same
  have kinds : ∀ y ∈ ps.zip us, (defScope st).names.lookup y.1 = some .local ∨ ((defScope st).names.lookup y.1 = some .cell ∧ ((cellsFrom (s.heap.objs.size + 1) (defScope st).names []).lookup y.1).isSome = true) := by
    rintro ⟨y, v⟩ hy
    exact (S.par y (List.of_mem_zip hy).1).imp id fun q => ⟨q, PySem.W.cellsFrom_some _ _ _ (.inl q)⟩
  refine codeAny_call_function hr.depth (kin _ _ lk) rfl S.co S.gen rfl (PySem.W.codeRec_of kin hcd) (hb _ _ _ _ (wpAny_newFunctionEnv_cells S.kind kinds fun env he s1 x => ?_))
  subst he
  refine ⟨(e0.mod.nolimit.keeps same).keeps x.toInCall.keep, codeAny_func ?_⟩
  obtain ⟨t, ht, hq⟩ := hbody cdv A outer s H vs Q E hg (hr.deeper _) hsp
  refine wpAny_mono (ht.nox.run [] s1 (start N vs) H _ (inv_start S hr.hd e0 n r x) hq) (fun fl s' hs => ?_) fun e s' hs => hs
  match fl, hs with
  | .ret u, ⟨v, σ', H', J, rv, q⟩ => exact ⟨v, H', J.os, J.bare, J.base, J.hok, rv, q⟩
  | .next, ⟨σ', H', J, q⟩ => exact ⟨V.non, H', J.os, J.bare, J.base, J.hok, rfl, q⟩
  | .brk, ⟨_, _, _, q⟩ => exact q.elim
  | .cont, ⟨_, _, _, q⟩ => exact q.elim
end
section
variable {X : Cx} {k : Nat} {f : Addr} {fd : FuncData} {ps : List Str} {sp : Sp} {x : Str} {p pos : Pos} {e : Expr} {es : List Expr} {t : TA}
/-- a call of such a def -/
theorem pe_callG (F : FnG X.prog X.w X.K X.mg X.base k f fd ps sp) (hg0 : X.A.guards = some []) (hr : Room k X.A) (hg : Gl X x) (hm : X.mg x = some (.ref f)) (hk : PySem.W.keepIn X.K (.ref f) = true) (hb : Binds X.K fd ps [])
    (ha : PA X (e :: es) t) (hdb : (x == ("__debug__" : Str)) = false := by decide) (he : starEach (e :: es) X.env = (false, eval e X.env) :: starEach es X.env := by rfl) (hpl : (backTo pos (starEach es X.env)).any (·.1) = false := by rfl) :
    PE X (.Call (.Name x p) (e :: es) [] pos) (tCall sp [] E0 t) := by
  refine ⟨fun pins s σ H Q I h => ?_⟩
  refine wpAny_Call_Name_kw (ld_glob I hg hm ?_ hdb)
  refine PySem.W.callWith_K (h₀ := X.base) I.ok.mod.kin hk (thn (ha.run pos pins s σ H _ I h) fun us s1 ⟨vs, H1, I1, r, q⟩ => ⟨I1.kIn, ?_⟩) he hpl
  have q' : sp vs H1 Q E0 := by
    have z : sp (vs ++ []) H1 Q E0 := q
    rwa [List.append_nil] at z
  have n := F.len _ _ _ _ q'
  have bd := hb s1 us I1.kIn (by rw [List.append_nil, ← r.length]; exact n)
  rw [List.append_nil] at bd
  refine wpAny_call (codeAny_mono (F.run X.A X.stack s1 H1 ⟨us, []⟩ us vs Q E0 hg0 hr I1.env0 bd r q') fun o s' hq => ?_)
  match o, hq with
  | .error _, z => exact z.elim
  | .ok (.ret _), z => exact I1.after z
  | .ok .next, z => exact z.elim
  | .ok .brk, z => exact z.elim
  | .ok .cont, z => exact z.elim
end
/-! ### repr -/
/-- repr(x), x a list or a tuple of data whose ints are not too wide: its text -/
def rRepr (K : PySem.W.Frag) : List V → Hp → VK → Prop := fun xs H Q => ∃ (a : Addr) (d : PyData), xs = [.ref a] ∧ Dp K H (.ref a) d ∧ d.showable = true ∧ d.hasDict = false ∧ d.depth ≤ 60 ∧ d.shown.length ≤ sizeLine ∧ Q (.str d.shown) H
theorem cr_repr {X : Cx} (hg : X.A.guards = some []) (hu : X.A.units + 64 < cLine) : CallR X (.builtin "repr") (rRepr X.K) := by
  intro pins s σ H xs us Q I r h
  obtain ⟨a, d, rfl, hd, hs, hn, hdp, hz, q⟩ := h
  obtain ⟨u, rfl, ru⟩ := vals1 r
  obtain ⟨as, rd⟩ := Dp.reads I d _ u hd ru
  obtain rfl : u = Value.ref a := ru
  refine PySem.repr_of_reads' rd hs (fun z => by rw [hn] at z; cases z) hg (by omega) (fun _ _ e => e) (fun h' v tk hk => ⟨.str d.shown, H, I.kept hk, ⟨_, rfl⟩, q⟩) hz
/-! ### the law is called from the top, where nothing is shown -/
theorem call_lawG {P : Program} {w : World} {K : PySem.W.Frag} {mg mb : Str → Option Value} {k : Nat} {fa a : Addr} {fd : FuncData} {x : Str} {sp : Sp} {s₁ : Shared} {vs : List Value} {ns : List Int}
    (KX : K.In s₁.heap) (hns : s₁.heap.Ns mainGlobals mg) (hb : s₁.heap.Ns builtinsNs mb) (hbb : ∀ x : Str, x ≠ "__name__" → mb x = bootBuiltins x) (hlim : s₁.heap.NoLimit) (hg : s₁.gens = #[])
    (ha : s₁.heap.get? a = some { cls := .type "list", data := .seq vs.toArray }) (hi : IntsAre vs ns) (hl : ns.length ≤ sizeLine) (hr : Room k callerA)
    (F : ∀ base : Heap, K.In base → base.Ns mainGlobals mg → FnG P w K mg base k fa fd [x] sp) (hbind : ∀ (s : Shared) (u : Value), BindsTo s fd ⟨[u], []⟩ [(x, u)])
    (hsp : ∀ H : Hp, Only H → SqL K H a (ns.map V.int) → sp [.ref a] H (fun v _ => v = .bl true) fun _ _ _ => False) :
    codeAny (model P w) callerA (.call (.ref fa) ⟨[.ref a], []⟩) (fun r s' => r = .ok (.ret (.bool true)) ∧ OldK s₁.heap s'.heap ∧ s'.os = s₁.os ∧ AllBare s'.gens) s₁ := by
  have rv := vals_ints hi
  have lv := hi.length
  -- once the heap that is seen is chosen: at most the script is in it
  have go : ∀ H : Hp, Only H → SqL K H a (ns.map V.int) → HOk P w H s₁.heap → (∀ b u, H b = some u → b = a ∧ K.lookup a = none) →
      codeAny (model P w) callerA (.call (.ref fa) ⟨[.ref a], []⟩) (fun r s' => r = .ok (.ret (.bool true)) ∧ OldK s₁.heap s'.heap ∧ s'.os = s₁.os ∧ AllBare s'.gens) s₁ := by
    intro H hO hS hok hA
    have out : ∀ {b : Addr} {o : Obj}, s₁.heap.get? b = some o → (∀ u, H b = some u → False) → (hidT s₁.heap H).get? b = some o := fun {b o} e n => hidT_get e (by
      cases q : H b with
      | none => rfl
      | some u => exact (n u q).elim)
    have isA : ∀ {b : Addr} {o : Obj} {u : HO}, s₁.heap.get? b = some o → H b = some u → o.data = .seq vs.toArray := fun {b o u} e q => by
      obtain ⟨rfl, _⟩ := hA b u q
      rw [ha] at e
      cases e
      rfl
    have nsOut : ∀ {b : Addr} {m : Str → Option Value}, s₁.heap.Ns b m → (hidT s₁.heap H).Ns b m := fun {b m} ⟨o, es, ep, e, d, r⟩ => ⟨o, es, ep, out e fun u q => (by have z := isA e q; rw [d] at z; cases z), d, r⟩
    have kin : K.In (hidT s₁.heap H) := fun b o e => out (KX b o e) fun u q => by
      obtain ⟨rfl, n⟩ := hA b u q
      rw [n] at e
      cases e
    have md : Mod K mg (hidT s₁.heap H) := ⟨kin, nsOut hns, ⟨mb, nsOut hb, hbb⟩, let ⟨mc, h1, h2⟩ := hlim; ⟨mc, nsOut h1, h2⟩⟩
    have none0 : ∀ b : Addr, b ∈ frs ([] : List Env) → False := fun b z => by
      have z' : b ∈ ([] : List Addr) := z
      cases z'
    have e0 : Env0 P w K mg (hidT s₁.heap H) callerA [] s₁ H := ⟨rfl, md, fun b o e => of_hidT e, Nat.le_of_eq (hidT_size _ _), trivial, fun b z => (none0 b z).elim, hok, .of_eq hg⟩
    refine codeAny_mono ((F _ kin (nsOut hns)).run callerA [] s₁ H ⟨[.ref a], []⟩ [.ref a] [.ref a] _ _ rfl hr e0 (hbind s₁ (.ref a)) (.cons rfl .nil) (hsp H hO hS)) fun r s' h => ?_
    match r, h with
    | .error _, z => exact z.elim
    | .ok .next, z => exact z.elim
    | .ok .brk, z => exact z.elim
    | .ok .cont, z => exact z.elim
    | .ok (.ret u), ⟨v, H', os, bare, un, hok', r', q⟩ =>
      obtain rfl : v = .bl true := q
      obtain rfl : u = Value.bool true := r'
      refine ⟨rfl, OldK.of_keep fun b o e => ?_, os, bare⟩
      cases q : H b with
      | none => exact un.keep b o e q (fun z => (none0 b z).elim) (by simp)
      | some u =>
        rcases hO b with z | ⟨ob, xs, z⟩
        · rw [q] at z
          cases z
        · obtain ⟨e1, _⟩ := hok b _ z
          obtain ⟨e2, _⟩ := hok' b _ (un.frzs b ob _ z)
          rw [e] at e1
          cases e1
          exact e2
  cases hk : K.lookup a with
  | some o =>
    have e := KX a o hk
    rw [ha] at e
    cases e
    exact go (fun _ => none) (fun _ => .inl rfl) (.inr ⟨_, vs.toArray, _, hk, rfl, rfl, rfl, by rw [List.size_toArray, lv]; exact hl, by simpa using rv⟩) (fun b u z => nomatch (show (none : Option HO) = some u from z)) fun b u z => nomatch (show (none : Option HO) = some u from z)
  | none =>
    have at' : ∀ {b : Addr} {u : HO}, (if b = a then some (HO.frz { cls := .type "list", data := .seq vs.toArray } (.lst (ns.map V.int))) else none) = some u → b = a ∧ u = .frz { cls := .type "list", data := .seq vs.toArray } (.lst (ns.map V.int)) := fun {b u} z => by
      by_cases h : b = a
      · rw [if_pos h] at z
        exact ⟨h, (Option.some.inj z).symm⟩
      · rw [if_neg h] at z
        cases z
    refine go (fun b => if b = a then some (.frz { cls := .type "list", data := .seq vs.toArray } (.lst (ns.map V.int))) else none) (fun b => ?_) (.inl (.inr ⟨{ cls := .type "list", data := .seq vs.toArray }, if_pos rfl⟩)) (fun b u z => ?_) fun b u z => ⟨(at' z).1, hk⟩
    · by_cases h : b = a
      · exact .inr ⟨_, _, if_pos h⟩
      · exact .inl (if_neg h)
    · obtain ⟨rfl, rfl⟩ := at' z
      exact ⟨ha, by rw [List.length_map]; exact hl, vs, _, rv, ha⟩
/-- the head's last goal, from such a law -/
theorem walk_G {l : PySem.W.OpenLaw} {n k : Nat} {q : Program} {loose : List Str} {XP : (Str → Option Value) → Heap → Prop} {YP : World → Heap → Prop} {d : DefRec} {K : Params → PySem.W.Frag} {sp : World → Sp} {x : Str}
    (hn : l.most = some n) (hn2 : n ≤ sizeLine) (hdf : d.params.defaults = []) (hr : Room k callerA) (hY : ∀ (w : World) (h : Heap), YP w h → (K w.params).In h)
    (F : ∀ (w : World) (mg : Str → Option Value) (fa : Addr) (h : Heap), (K w.params).In h → h.Ns mainGlobals mg → mg d.name = some (.ref fa) →
      ∃ fd : FuncData, (∀ (s : Shared) (u : Value), BindsTo s fd ⟨[u], []⟩ [(x, u)]) ∧ ∀ base : Heap, (K w.params).In base → base.Ns mainGlobals mg → FnG l.prog w (K w.params) mg base k fa fd [x] (sp w))
    (hsp : ∀ (w : World) (H : Hp) (a : Addr) (ns : List Int), ns.length ≤ n → Only H → SqL (K w.params) H a (ns.map V.int) → sp w [.ref a] H (fun v _ => v = .bl true) fun _ _ _ => False) :
    PySem.W.WalkO q loose XP YP l.row.toRowW d [] (fun f vs => PySem.call f vs) := by
  refine Att.attach_call hn hdf fun w s₀ s₁ mg mb fa o pm cd doc a vs ns G Y ho hd hcd hmg hobj hints hlen hg => ?_
  have KX := hY w _ Y
  obtain ⟨fd, hb, hF⟩ := F w mg fa _ KX G.T.g hmg
  exact call_lawG KX G.T.g G.T.b G.T.builtins G.T.nolimit hg hobj hints (Nat.le_trans hlen hn2) hr hF hb fun H hO hS => hsp w H a ns hlen hO hS
end Gc

/-! calls of defs that call repr -/
namespace Gc
open PySem L2
structure CalG (P : Program) (w : World) (K : PySem.W.Frag) (mg : Str → Option Value) (base : Heap) (k : Nat) (x : Str) (sp : Sp) : Prop where
  ex : ∃ (f : Addr) (fd : FuncData) (ps : List Str), FnG P w K mg base k f fd ps sp ∧ mg x = some (.ref f) ∧ PySem.W.keepIn K (.ref f) = true ∧ Binds K fd ps []
theorem FnG.mono {P : Program} {w : World} {K : PySem.W.Frag} {mg : Str → Option Value} {base : Heap} {j k : Nat} {f : Addr} {fd : FuncData} {ps : List Str} {sp : Sp} (F : FnG P w K mg base j f fd ps sp) (h : j ≤ k) : FnG P w K mg base k f fd ps sp :=
  ⟨F.len, fun A outer s H args us vs Q E hg hr => F.run A outer s H args us vs Q E hg (hr.mono h)⟩
theorem pe_calG {X : Cx} {k j : Nat} {x : Str} {sp : Sp} {p pos : Pos} {e : Expr} {es : List Expr} {t : TA} (c : CalG X.prog X.w X.K X.mg X.base k x sp) (hg0 : X.A.guards = some []) (hr : Room j X.A) (hk : k ≤ j) (hg : Gl X x) (ha : PA X (e :: es) t)
    (hdb : (x == ("__debug__" : Str)) = false := by decide) (he : starEach (e :: es) X.env = (false, eval e X.env) :: starEach es X.env := by rfl) (hpl : (backTo pos (starEach es X.env)).any (·.1) = false := by rfl) :
    PE X (.Call (.Name x p) (e :: es) [] pos) (tCall sp [] E0 t) := by
  obtain ⟨f, fd, ps, F, hm, kp, b⟩ := c.ex
  exact pe_callG F hg0 (hr.mono hk) hg hm kp b ha hdb he hpl
end Gc

/-! generators whose consumer does something of its own at each item: what is handed out is told item by item -/
namespace Gc
open PySem PySem.Spec PyProof.Rows GenW L2
/-- asleep: the consumer changes at most what stands at Z -/
structure Nap (Z : List Addr) (s s' : Shared) : Prop where
  os : s'.os = s.os
  bare : AllBare s'.gens
  same : ∀ b o, b ∉ Z → s.heap.get? b = some o → s'.heap.get? b = some o
  stay : ∀ b o, b ∈ Z → s.heap.get? b = some o → ∃ o', s'.heap.get? b = some o' ∧ ∀ v, o'.data ≠ .cell v
/-- what is the consumer's: none of it is of the generator's frame -/
def FarOf (X : Cx) (Z : List Addr) : Prop := ∀ b ∈ Z, X.s_0.heap.objs.size ≤ b ∧ b ≠ X.env.locals ∧ ∀ x c, X.env.cells.lookup x = some c → c ≠ b
/-- at work; z: the state in which it was woken -/
structure AtW (X : Cx) (Z : List Addr) (z : Shared) (ip : List (Addr × Obj)) (σ : L2.St) (H : Hp) (s : Shared) : Prop where
  zo : ∀ b ∈ Z, ∃ o, z.heap.get? b = some o ∧ ∀ v, o.data ≠ .cell v
  inv : Inv X (pinsAt Z z.heap ++ ip) σ H s
theorem AtW.at {X : Cx} {Z : List Addr} {z : Shared} {ip : List (Addr × Obj)} {σ : L2.St} {H : Hp} {s : Shared} (h : AtW X Z z ip σ H s) {b : Addr} (hb : b ∈ Z) : s.heap.get? b = z.heap.get? b ∧ H b = none ∧ b ≠ X.env.locals ∧ b ∉ X.fs := by
  obtain ⟨o, ho, _⟩ := h.zo b hb
  obtain ⟨a1, a2, a3, a4, _⟩ := h.inv.pin (b, o) (List.mem_append_right _ (List.mem_append_left _ (mem_pinsAt hb ho)))
  exact ⟨a1.trans ho.symm, a2, a3, a4⟩
theorem AtW.own {X : Cx} {Z : List Addr} {z : Shared} {ip : List (Addr × Obj)} {σ : L2.St} {H : Hp} {s : Shared} (h : AtW X Z z ip σ H s) : Inv X ip σ H s :=
  h.inv.pins_of fun q hq => h.inv.pin q (List.mem_append_right _ (List.mem_append_right _ hq))
theorem AtW.mk' {X : Cx} {Z : List Addr} {z : Shared} {ip : List (Addr × Obj)} {σ : L2.St} {H : Hp} {s : Shared} (I : Inv X ip σ H s) (hz : ∀ b ∈ Z, ∃ o, z.heap.get? b = some o ∧ ∀ v, o.data ≠ .cell v)
    (hs : ∀ b ∈ Z, s.heap.get? b = z.heap.get? b ∧ H b = none ∧ b ≠ X.env.locals ∧ b ∉ X.fs) : AtW X Z z ip σ H s := by
  refine ⟨hz, I.pins_of fun q hq => (List.mem_append.mp hq).elim (fun hq => ?_) fun hq => I.pin q (List.mem_append_right _ hq)⟩
  obtain ⟨hb, e⟩ := of_pinsAt hq
  obtain ⟨a1, a2, a3, a4⟩ := hs _ hb
  obtain ⟨o, ho, d⟩ := hz _ hb
  rw [e] at ho
  cases ho
  exact ⟨a1.trans e, a2, a3, a4, d⟩
/-- woken again: all its own stands as it stood -/
theorem AtW.again {X : Cx} {Z : List Addr} {z : Shared} {ip : List (Addr × Obj)} {σ : L2.St} {H : Hp} {s s' : Shared} (hpn : ∀ q ∈ X.pn, q.1 ∉ Z) (hip : ∀ q ∈ ip, q.1 ∉ Z) (far : FarOf X Z) (h : AtW X Z z ip σ H s) (n : Nap Z s s') : AtW X Z s' ip σ H s' := by
  have I0 := h.own
  have tz : ∀ b u, H b = some u → b ∉ Z := fun b u e hb => by
    rw [(h.at hb).2.1] at e
    cases e
  obtain ⟨n1, n2, n3, n4⟩ := n
  obtain ⟨hh, gg, dd, tt, oo⟩ := s'
  have eo : oo = s.os := n1
  subst eo
  have J : Inv X ip σ H { s with heap := hh, gens := gg, drawn := dd, toks := tt } := by
    refine I0.step (g' := gg) (t' := tt) (d' := dd) (ch := Z) (fun b hb => ?_) (fun b ob _ _ hc e _ => n3 b ob hc e) (fun b ob _ _ hc e _ => ⟨ob.slots, n3 b ob hc e⟩) (fun _ _ _ _ e => e)
      (fun b ob hc e => ⟨ob, n3 b ob hc e⟩) (fun _ _ e => e) (fun _ _ _ e => e) (fun b ps e => ⟨#[], by rw [e, Array.append_empty]⟩) (fun m hm => ?_) (fun b u e => ?_) n2
    · obtain ⟨f1, f2, f3⟩ := far b hb
      refine ⟨.inr f1, f2, f3, fun q hq e => ?_⟩
      rcases List.mem_append.mp hq with hq | hq
      · exact hpn q hq (e ▸ hb)
      · exact hip q hq (e ▸ hb)
    · obtain ⟨ob, es, ep, ho, rr⟩ := hm
      exact ⟨ob, es, ep, n3 _ ob (fun hb => (far _ hb).2.1 rfl) ho, rr⟩
    · refine (I0.hok b u e).stay (fun c v hc y => n3 c v ?_ y) (fun _ y => y) fun _ _ y => y
      rcases hc with y | y
      · exact y ▸ tz b u e
      · exact tz c _ y
  refine AtW.mk' J (fun b hb => ?_) fun b hb => ⟨rfl, (h.at hb).2⟩
  obtain ⟨o, ho, _⟩ := h.zo b hb
  exact n4 b o hb ((h.at hb).1.trans ho)
/-- what must hold of each item: what is out ahead of it, the item, the heap -/
abbrev YdK := List V → V → Hp → Prop
def NY (X : Cx) (Z : List Addr) (Yd : YdK) : Protocol := fun n z v s kap => ∃ ys x ip σ H, n + 1 + ys.length = sizeLine ∧ RelV x v ∧ AtW X Z z ip σ H s ∧ Yd ys x H ∧ ∀ s', Nap Z s s' → kap (.send .none) s'
def NR (X : Cx) (Z : List Addr) (Q : List V → VK) (F : Value → Shared → Prop) : GenEnd := fun n z r s => match r with
  | .ok (.ret u) => ∃ ys v ip σ H, n + ys.length = sizeLine ∧ AtW X Z z ip σ H s ∧ RelV v u ∧ Q ys v H
  | .ok _ => False
  | .error e => F e s
def NSP (X : Cx) (Z : List Addr) (z : Shared) (ip : List (Addr × Obj)) (D : GEnds) (ys : List V) (f : Flow) (s : Shared) : Prop :=
  match f with
  | .next => ∃ σ H, AtW X Z z ip σ H s ∧ D.nx ys σ H
  | .brk => ∃ σ H, AtW X Z z ip σ H s ∧ D.bk ys σ H
  | .cont => ∃ σ H, AtW X Z z ip σ H s ∧ D.ct ys σ H
  | .ret u => ∃ v σ H, AtW X Z z ip σ H s ∧ RelV v u ∧ D.rt ys v H
structure NC (X : Cx) (Z : List Addr) (ip : List (Addr × Obj)) (A : Around) (c : Code) (fs : List Frame) (gd : Bool → Bool) : Prop where
  pn : ∀ q ∈ X.pn, q.1 ∉ Z
  ip : ∀ q ∈ ip, q.1 ∉ Z
  far : FarOf X Z
  over : A.over c fs = X.A
  split : splitAtGen fs = none
  guard : fs.any Frame.guarded = false
  gd : gd false = false
structure NK (X : Cx) (Z : List Addr) (Yd : YdK) (ip : List (Addr × Obj)) (A : Around) (R : GenEnd) (c : Code) (fs : List Frame) (K : Flow → Sem PySem.Fin) (J : Value → Sem PySem.Fin) (D : GEnds) : Prop where
  ok : ∀ (n : Nat) (ys : List V) (z s : Shared) (f : Flow), n + ys.length = sizeLine → NSP X Z z ip D ys f s → Seg (model X.prog X.w) A R (NY X Z Yd) n z c (K f) fs s
  exc : ∀ (n : Nat) (z : Shared) (e : Value) (s : Shared), X.xe e s → Seg (model X.prog X.w) A R (NY X Z Yd) n z c (J e) fs s
structure NS (X : Cx) (Yd : YdK) (st : Stmt) (t : TGn) : Prop where
  run : ∀ (A : Around) (Z : List Addr) (ip : List (Addr × Obj)) (R : GenEnd) (n : Nat) (ys : List V) (z : Shared) (c : Code) (fs : List Frame) (K : Flow → Sem PySem.Fin) (J : Value → Sem PySem.Fin) (gd : Bool → Bool) (lv : List Value → List Value) (s : Shared) (σ : L2.St) (H : Hp) (D : GEnds),
    NC X Z ip A c fs gd → n + ys.length = sizeLine → NK X Z Yd ip A R c fs K J D → AtW X Z z ip σ H s → t D ys σ H → Seg (model X.prog X.w) A R (NY X Z Yd) n z c ((exec st X.env).wrap K J gd lv) fs s
structure NSs (X : Cx) (Yd : YdK) (st : List Stmt) (t : TGn) : Prop where
  run : ∀ (A : Around) (Z : List Addr) (ip : List (Addr × Obj)) (R : GenEnd) (n : Nat) (ys : List V) (z : Shared) (c : Code) (fs : List Frame) (K : Flow → Sem PySem.Fin) (J : Value → Sem PySem.Fin) (gd : Bool → Bool) (lv : List Value → List Value) (s : Shared) (σ : L2.St) (H : Hp) (D : GEnds),
    NC X Z ip A c fs gd → n + ys.length = sizeLine → NK X Z Yd ip A R c fs K J D → AtW X Z z ip σ H s → t D ys σ H → Seg (model X.prog X.w) A R (NY X Z Yd) n z c ((execs st X.env).wrap K J gd lv) fs s
section
variable {X : Cx} {Yd : YdK} {st : Stmt} {rest : List Stmt} {e : Expr} {yp pos : Pos} {te : TE}
theorem ns_ps {t : TS} (h : PS X st t) : NS X Yd st (tPlain t) := by
  refine ⟨fun A Z ip R n ys z c fs K J gd lv s σ H D g hn k hI ht => ?_⟩
  obtain ⟨hz, I⟩ := hI
  refine seg_wrap ?_
  rw [g.over]
  refine wpAny_mono (h.run _ s σ H (D.at ys) I ht) (fun f s' hs => k.ok n ys z s' f hn ?_) fun x s' hx => k.exc n z x s' hx
  cases f with
  | next =>
    obtain ⟨σ2, H2, I2, q2⟩ := hs
    exact ⟨σ2, H2, ⟨hz, I2⟩, q2⟩
  | brk =>
    obtain ⟨σ2, H2, I2, q2⟩ := hs
    exact ⟨σ2, H2, ⟨hz, I2⟩, q2⟩
  | cont =>
    obtain ⟨σ2, H2, I2, q2⟩ := hs
    exact ⟨σ2, H2, ⟨hz, I2⟩, q2⟩
  | ret u =>
    obtain ⟨v2, σ2, H2, I2, r2, q2⟩ := hs
    exact ⟨v2, σ2, H2, ⟨hz, I2⟩, r2, q2⟩
theorem nss_nil : NSs X Yd [] tG0 := ⟨fun A Z ip R n ys z c fs K J gd lv s σ H D g hn k hI ht => seg_execs_nil (k.ok n ys z s .next hn ⟨σ, H, hI, ht⟩)⟩
theorem nss_cons {t u : TGn} (a : NS X Yd st t) (b : NSs X Yd rest u) : NSs X Yd (st :: rest) (tGThen t u) := by
  refine ⟨fun A Z ip R n ys z c fs K J gd lv s σ H D g hn k hI ht => seg_execs_cons ?_⟩
  refine a.run A Z ip R n ys z c fs _ J gd lv s σ H { D with nx := fun y2 σ2 H2 => u D y2 σ2 H2 } g hn ⟨fun n2 y2 z2 s2 f hn2 hs => ?_, k.exc⟩ hI ht
  cases f with
  | next =>
    obtain ⟨σ2, H2, I2, q2⟩ := hs
    exact b.run A Z ip R n2 y2 z2 c fs K J gd lv s2 σ2 H2 D g hn2 k I2 q2
  | brk => exact k.ok n2 y2 z2 s2 .brk hn2 hs
  | cont => exact k.ok n2 y2 z2 s2 .cont hn2 hs
  | ret v => exact k.ok n2 y2 z2 s2 (.ret v) hn2 hs
/-- yield e -/
def tNYield (Yd : YdK) (te : TE) : TGn := fun D ys σ H => ys.length < sizeLine ∧ te σ H fun x H1 => Yd ys x H1 ∧ D.nx (ys ++ [x]) σ H1
theorem ns_yield (he : PE X e te) (hco : X.env.scope.isCoroutine = false := by rfl) (hi : interactive X.env = false := by rfl) : NS X Yd (.Expr (.Yield (some e) yp) pos) (tNYield Yd te) := by
  refine ⟨fun A Z ip R n ys z c fs K J gd lv s σ H D g hn k hI ht => ?_⟩
  obtain ⟨hlt, ht⟩ := ht
  obtain ⟨n, rfl⟩ : ∃ m, n = m + 1 := ⟨n - 1, by omega⟩
  obtain ⟨hz, I⟩ := hI
  refine seg_Expr_Yield g.split g.gd g.guard ?_ hco hi
  rw [g.over]
  refine wpAny_mono (he.run _ s σ H _ I ht) (fun v s1 ⟨x, H1, I1, rv, yd, q⟩ kap hk => ?_) fun x s' hx => k.exc _ z x s' hx
  have W : AtW X Z z ip σ H1 s1 := ⟨hz, I1⟩
  refine ⟨ys, x, ip, σ, H1, hn, rv, W, yd, fun s2 nap => hk .none s2 ?_⟩
  refine k.ok n (ys ++ [x]) s2 s2 .next ?_ ⟨σ, H1, W.again g.pn g.ip g.far nap, q⟩
  rw [List.length_append]
  show n + (ys.length + 1) = sizeLine
  omega
end
end Gc

/-! such a generator's for loop; its def -/
namespace Gc
open PySem PySem.Spec PyProof.Rows GenW L2
theorem nc_loop {X : Cx} {Z : List Addr} {ip : List (Addr × Obj)} {A : Around} {c c1 : Code} {fs : List Frame} {gd : Bool → Bool} {k : Result → Sem PySem.Fin} {l kp : List Value} {p : Pos} (g : NC X Z ip A c fs gd) (hw : c1.weight = 0) (hu : c1.cUnits = 0) :
    NC X Z ip A c1 (.ret k none (gd false) l c p kp :: fs) id := by
  refine ⟨g.pn, g.ip, g.far, (over_loop hw hu).trans g.over, ?_, ?_, rfl⟩
  · show Option.map _ (splitAtGen fs) = none
    rw [g.split, Option.map_none]
  · show (gd false || fs.any Frame.guarded) = false
    rw [g.gd, g.guard, Bool.or_false]
theorem seg_backN {X : Cx} {Z : List Addr} {Yd : YdK} {ip : List (Addr × Obj)} {A : Around} {R : GenEnd} {c : Code} {fs : List Frame} {K : Flow → Sem PySem.Fin} {J : Value → Sem PySem.Fin} {gd : Bool → Bool} {lv : List Value → List Value} {D : GEnds} {n : Nat} {z s : Shared} {e : Value}
    (g : NC X Z ip A c fs gd) (k : NK X Z Yd ip A R c fs K J D) (h : cameBackBy (model X.prog X.w) X.A X.env X.xe e s) : Seg (model X.prog X.w) A R (NY X Z Yd) n z c (((Sem.raise e : Sem Flow).onRaise (cameBack X.env)).wrap K J gd lv) fs s := by
  show Seg _ A R _ n z c (((cameBack X.env e).bind fun _ => (Sem.raise e : Sem Flow)).wrap K J gd lv) fs s
  rw [Sem.bind_eq_wrap, Sem.wrap_wrap]
  refine seg_wrap ?_
  rw [g.over]
  exact wpAny_mono h (fun _ s2 hx => k.exc n z e s2 hx) fun x s2 hx => k.exc n z x s2 hx
section
variable {X : Cx} {Yd : YdK}
theorem ns_for {iter tg : Expr} {body : List Stmt} {wi : TI} {g : TG} {tb : TGn} {pos : Pos} (hp : PassesOwn (model X.prog X.w) X.A X.env X.xe) (hc : X.calm = true) (hi : PI X tg iter wi) (hg : PG X tg g) (hb : NSs X Yd body tb)
    (hs : ∀ x, foldedSetIterable iter X.env x = pure x := by intro _; rfl) : NS X Yd (.For tg iter body [] pos) (tGFor wi g tb) := by
  refine ⟨fun A Z ip R n ys z c fs K J gd lv s σ H D gc hn k hI ht => ?_⟩
  rw [exec_For]
  refine seg_bind_wrap (wpAny_standAt ?_)
  obtain ⟨hz0, I⟩ := hI
  refine seg_bind_wrap ?_
  rw [gc.over]
  refine wpAny_mono (hi.run _ s σ H _ I ht) (fun v s1 h1 => ?_) fun x s' hx => k.exc n z x s' hx
  refine seg_bind_wrap ?_
  rw [gc.over]
  refine wpAny_of_eq (hs v) ?_
  refine seg_bind_wrap (wpAny_standAt ?_)
  refine seg_bind_wrap ?_
  rw [gc.over]
  refine wpAny_holding (wpAny_mono h1 (fun itv s2 h2 => ?_) fun x s' hx => k.exc n z x s' hx)
  obtain ⟨it, fp, tn, It0, H2, e, I2, T, st2, f2, W, ⟨m0, w0⟩, turn⟩ := h2
  subst e
  refine seg_call fun p => ?_
  have gl := fun (kk : Result → Sem PySem.Fin) => nc_loop (k := kk) (c1 := .forLoop tg (.ref it) body [] X.env) (l := lv []) (kp := []) (p := p) gc rfl rfl
  have fZ : ∀ b ∈ fp, b ∉ Z := fun b hb hbz => by
    obtain ⟨o, ho, _⟩ := hz0 b hbz
    exact (f2 b hb).2.2.2.2.2 (b, o) (List.mem_append_right _ (List.mem_append_left _ (mem_pinsAt hbz ho))) rfl
  have stat : ∀ {z' : Shared} {H' : Hp}, (∀ b ∈ fp, H' b = none) → ∀ b ∈ fp, FpOk X (pinsAt Z z'.heap ++ ip) H' b := fun {z' H'} hn b hb => by
    obtain ⟨f0, f1, f2', f3, f4, f5⟩ := f2 b hb
    refine ⟨hn b hb, f1, f2', f3, f4, fun q hq => ?_⟩
    rcases List.mem_append.mp hq with hq | hq
    · exact f5 q (List.mem_append_left _ hq)
    · rcases List.mem_append.mp hq with hq | hq
      · exact fun e => fZ b hb (e ▸ (of_pinsAt hq).1)
      · exact f5 q (List.mem_append_right _ (List.mem_append_right _ hq))
  have loop : ∀ (m i n : Nat) (ys : List V) (z s : Shared) (σ : L2.St) (H : Hp), n + ys.length = sizeLine → W i m ys σ H → AtW X Z z ip σ H s → tn i s.heap → (∀ b ∈ fp, H b = none) →
      Seg (model X.prog X.w) A R (NY X Z Yd) n z (.forLoop tg (.ref it) body [] X.env) ((model X.prog X.w).den (.forLoop tg (.ref it) body [] X.env))
        (.ret (fun r => ((match r with | .ok f => (.pure f : Sem Flow) | .error e => .raise e).onRaise (cameBack X.env)).wrap K J gd lv) none (gd false) (lv []) c p [] :: fs) s := by
    intro m
    induction m using Nat.strongRecOn with
    | ind m ih =>
      intro i n ys z s σ H hn w hI hst hfr
      have ee : ∀ (n : Nat) (z : Shared) (x : Value) (s' : Shared), X.xe x s' → Seg (model X.prog X.w) A R (NY X Z Yd) n z (.forLoop tg (.ref it) body [] X.env)
          ((do noteFrame x X.env; theTreesLotGoes x : Sem Unit).bind fun _ => .raise x)
          (.ret (fun r => ((match r with | .ok f => (.pure f : Sem Flow) | .error e => .raise e).onRaise (cameBack X.env)).wrap K J gd lv) none (gd false) (lv []) c p [] :: fs) s' := fun n z x s' hx => by
        rw [Sem.bind_eq_wrap]
        refine seg_wrap ?_
        rw [(gl _).over]
        refine wpAny_bind (wpAny_mono (hp x s' hx) (fun _ s2 hcb => wpAny_theTreesLotGoes ?_) fun y s2 hcb => ?_)
        · exact seg_leaf (.error x) (seg_backN gc k hcb)
        · exact seg_leaf (.error y) (seg_backN gc k hcb)
      show Seg _ _ _ _ _ _ _ ((forTurn tg (.ref it) body [] X.env).onRaise (fun x => do noteFrame x X.env; theTreesLotGoes x)) _ _
      rw [Sem.onRaise_eq_wrap]
      simp only [forTurn]
      refine seg_bind_wrap (wpAny_standAt ?_)
      refine seg_bind_wrap ?_
      rw [(gl _).over]
      obtain ⟨hz, I⟩ := hI
      rcases turn i m ys σ H w with ⟨stop, qn⟩ | ⟨go, N, hN, step⟩
      · refine wpAny_onRaise (wpAny_mono (T.done X rfl rfl rfl hc i _ s σ H X.xe I (stat hfr) hst stop) (fun a s4 ⟨ha, I4⟩ => ?_) fun x s4 hx => wpAny_standAt (ee n z x s4 hx))
        subst ha
        refine seg_again rfl ?_
        show Seg _ _ _ _ _ _ _ (((execs [] X.env).onRaise (fun x => do noteFrame x X.env; theTreesLotGoes x)).bind fun f => .pure (.done f)) _ _
        exact seg_leaf (.ok .next) (k.ok n ys z s4 .next hn ⟨σ, H, ⟨hz, I4⟩, qn⟩)
      · refine wpAny_onRaise (wpAny_mono (T.item X rfl rfl rfl hc i _ s σ H X.xe I (stat hfr) hst go) (fun a s4 ⟨u, ha, h4⟩ => ?_) fun x s4 hx => wpAny_standAt (ee n z x s4 hx))
        subst ha
        refine seg_bind_wrap ?_
        rw [(gl _).over]
        refine wpAny_mono h4 (fun _ s5 ⟨x, H5, I5, r5, y5, st5, fr5⟩ => ?_) fun x s' hx => ee n z x s' hx
        have I5' := I5.pinned (stat fr5) (T.obj _ _ st5)
        refine seg_bind_wrap ?_
        rw [(gl _).over]
        refine wpAny_mono (hg.run _ s5 σ H5 x u _ I5' r5 (step x H5 y5)) (fun _ s6 ⟨σ6, H6, I6, q6⟩ => ?_) fun x s' hx => ee n z x s' hx
        rw [Sem.bind_eq_wrap', Sem.wrap_wrap]
        have g6 := gl fun (r : Result) => ((match r with | .ok f => (.pure f : Sem Flow) | .error e => .raise e).onRaise (cameBack X.env)).wrap K J gd lv
        have G6 : AtW X Z z (ip ++ pinsAt fp s5.heap) σ6 H6 s6 := ⟨hz, by rw [← List.append_assoc]; exact I6⟩
        have ip6 : ∀ q ∈ ip ++ pinsAt fp s5.heap, q.1 ∉ Z := fun q hq => (List.mem_append.mp hq).elim (gc.ip q) fun hq => fZ _ (of_pinsAt hq).1
        have gc6 : NC X Z (ip ++ pinsAt fp s5.heap) A (.forLoop tg (.ref it) body [] X.env) _ id := { g6 with ip := ip6 }
        have less : ∀ {z7 s7 : Shared} {σ7 : L2.St} {H7 : Hp}, AtW X Z z7 (ip ++ pinsAt fp s5.heap) σ7 H7 s7 → AtW X Z z7 ip σ7 H7 s7 := fun {z7 s7 σ7 H7} G7 =>
          ⟨G7.zo, G7.inv.pins_of fun q hq => G7.inv.pin q (List.mem_append_right _ ((List.mem_append.mp hq).elim (fun h => List.mem_append_left _ h) fun h => List.mem_append_right _ (List.mem_append_left _ h)))⟩
        have again : ∀ {n7 : Nat} {ys7 : List V} {z7 s7 : Shared} {σ7 : L2.St} {H7 : Hp}, n7 + ys7.length = sizeLine → AtW X Z z7 (ip ++ pinsAt fp s5.heap) σ7 H7 s7 → N ys7 σ7 H7 →
            Seg (model X.prog X.w) A R (NY X Z Yd) n7 z7 (.forLoop tg (.ref it) body [] X.env) (.pure (.again (.forLoop tg (.ref it) body [] X.env)))
              (.ret (fun r => ((match r with | .ok f => (.pure f : Sem Flow) | .error e => .raise e).onRaise (cameBack X.env)).wrap K J gd lv) none (gd false) (lv []) c p [] :: fs) s7 := fun {n7 ys7 z7 s7 σ7 H7} hn7 G7 n7' => by
          obtain ⟨m7, hm, w7⟩ := hN _ _ _ n7'
          have pin7 : ∀ b ∈ fp, ∀ o, s5.heap.get? b = some o → s7.heap.get? b = some o ∧ H7 b = none := fun b hb o e => by
            obtain ⟨a1, a2, _⟩ := G7.inv.pin (b, o) (List.mem_append_right _ (List.mem_append_right _ (List.mem_append_right _ (mem_pinsAt hb e))))
            exact ⟨a1, a2⟩
          refine seg_again rfl (ih m7 hm (i + 1) n7 ys7 z7 s7 σ7 H7 hn7 w7 (less G7) (T.keep _ _ _ st5 fun b hb o e => (pin7 b hb o e).1) fun b hb => ?_)
          obtain ⟨o, e, d⟩ := T.obj _ _ st5 b hb
          exact (pin7 b hb o e).2
        refine hb.run A Z _ R n ys z _ _ _ _ id id s6 σ6 H6 { D with nx := N, ct := N, bk := D.nx } gc6 hn ⟨fun n7 ys7 z7 s7 f hn7 hs => ?_, fun n7 z7 x s7 hx => ee n7 z7 x s7 hx⟩ G6 q6
        cases f with
        | next =>
          obtain ⟨σ7, H7, I7, q7⟩ := hs
          exact again hn7 I7 q7
        | cont =>
          obtain ⟨σ7, H7, I7, q7⟩ := hs
          exact again hn7 I7 q7
        | brk =>
          obtain ⟨σ7, H7, I7, q7⟩ := hs
          exact seg_leaf (.ok .next) (k.ok n7 ys7 z7 s7 .next hn7 ⟨σ7, H7, less I7, q7⟩)
        | ret v =>
          obtain ⟨x7, σ7, H7, I7, r7, q7⟩ := hs
          exact seg_leaf (.ok (.ret v)) (k.ok n7 ys7 z7 s7 (.ret v) hn7 ⟨x7, σ7, H7, less I7, r7, q7⟩)
  exact loop m0 0 n ys z s2 σ H2 hn w0 ⟨hz0, I2⟩ st2 fun b hb => (f2 b hb).1
end
/-- a promise of such a def: the arguments, the heap, what each item is to be, what the end is to be -/
abbrev SpN := List V → Hp → YdK → (List V → Hp → Prop) → Prop
/-- it is at its end: all that came out, what stands -/
def NFin (P : Program) (w : World) (outer : List Env) (H : Hp) (s : Shared) (Z : List Addr) (Q : List V → Hp → Prop) (n : Nat) (z s1 : Shared) : Prop :=
  ∃ H' ys, n + ys.length = sizeLine ∧ s1.os = s.os ∧ AllBare s1.gens ∧ Un (frs outer) [] H H' s.heap s1.heap ∧ HOk P w H' s1.heap ∧ (∀ b ∈ Z, H' b = none ∧ s1.heap.get? b = z.heap.get? b) ∧ Q ys H'
def NEnd (P : Program) (w : World) (outer : List Env) (H : Hp) (s : Shared) (Z : List Addr) (Q : List V → Hp → Prop) : GenEnd := fun n z r s1 =>
  ((r = .ok (.ret .none) ∨ r = .ok .next) ∧ NFin P w outer H s Z Q n z s1) ∨ ∃ e, r = .error e ∧ False
def NItem (P : Program) (w : World) (outer : List Env) (H : Hp) (s : Shared) (Z : List Addr) (a : Addr) (g : Nat) (Yd : YdK) : Protocol := fun n z v s1 kap =>
  ∃ H' ys x, n + 1 + ys.length = sizeLine ∧ RelV x v ∧ s1.os = s.os ∧ AllBare s1.gens ∧ s1.heap.NoLimit ∧ s1.heap.IsGen a g ∧ Un (frs outer) [] H H' s.heap s1.heap ∧ HOk P w H' s1.heap ∧ (∀ b ∈ Z, H' b = none ∧ s1.heap.get? b = z.heap.get? b) ∧ Yd ys x H' ∧
    ∀ s2, Nap Z s1 s2 → kap (.send .none) s2
def NMade (P : Program) (w : World) (k : Nat) (outer : List Env) (H : Hp) (s : Shared) (Yd : YdK) (Q : List V → Hp → Prop) (u : Value) (s' : Shared) : Prop :=
  ∃ (a : Addr) (g : Nat) (c : Code), u = .ref a ∧ s.heap.objs.size ≤ a ∧ a < s'.heap.objs.size ∧ s'.heap.IsGen a g ∧ s'.gens[g]? = some (.fresh c) ∧ s'.os = s.os ∧ AllBare s'.gens ∧ s'.heap.NoLimit ∧ (∀ b o, s.heap.get? b = some o → s'.heap.get? b = some o) ∧
    ∀ (A : Around) (Z : List Addr) (s2 : Shared), Room k A → A.frames = some outer → (∀ b ∈ Z, s'.heap.objs.size ≤ b ∧ ∃ o, s2.heap.get? b = some o ∧ ∀ v, o.data ≠ .cell v) → (∀ b o, s'.heap.get? b = some o → s2.heap.get? b = some o) → s2.os = s.os → AllBare s2.gens →
      Seg (model P w) A (NEnd P w outer H s Z Q) (NItem P w outer H s Z a g Yd) sizeLine s2 c ((model P w).den c) [] s2
structure NFn (P : Program) (w : World) (K : PySem.W.Frag) (mg : Str → Option Value) (base : Heap) (k : Nat) (f : Addr) (fd : FuncData) (ps : List Str) (sp : SpN) : Prop where
  len : ∀ vs H Yd Q, sp vs H Yd Q → vs.length = ps.length
  run : ∀ (A : Around) (outer : List Env) (s : Shared) (H : Hp) (args : Args) (us : List Value) (vs : List V) (Yd : YdK) (Q : List V → Hp → Prop), Room k A → Env0 P w K mg base A outer s H → BindsTo s fd args (ps.zip us) → Vals vs us → sp vs H Yd Q →
    codeAny (model P w) A (.call (.ref f) args) (fun r s' => match r with | .ok (.ret u) => NMade P w k outer H s Yd Q u s' | _ => False) s
theorem nfn_of {P : Program} {w : World} {K : PySem.W.Frag} {mg : Str → Option Value} {base : Heap} {k : Nat} {f : Addr} {name qual : Str} {params : Arguments} {body : List Stmt} {scope : Scope} {dV kV doc pm cdv ct oc : Value} {an od : Option Addr}
    {osl : Array (Option Value)} {N ps : List Str} {sp : SpN} (lk : K.lookup f = some ⟨oc, od, .func (PySem.W.fnOf name qual params body scope dV kV doc pm an cdv ct), osl⟩) (hcd : PySem.W.codeIn K cdv qual = true) (S : GScope N ps scope)
    (len : ∀ vs H Yd Q, sp vs H Yd Q → vs.length = ps.length)
    (hbody : ∀ (A : Around) (outer : List Env) (s : Shared) (H : Hp) (vs : List V) (Yd : YdK) (Q : List V → Hp → Prop) (pn : List (Addr × Obj)), Room k (A.deeper (envOfC qual scope s.heap.objs.size f cdv)) → sp vs H Yd Q →
      ∃ t, NSs (gcxOf P w K mg base N qual scope f cdv A outer s H E0 pn) Yd body t ∧ t { nx := fun ys _ H' => Q ys H', rt := fun ys v H' => v = .non ∧ Q ys H' } [] (start N vs) H) :
    NFn P w K mg base (k + 1) f (PySem.W.fnOf name qual params body scope dV kV doc pm an cdv ct) ps sp := by
  refine ⟨len, fun A outer s H args us vs Yd Q hr e0 hb r hsp => ?_⟩
  have hl := len _ _ _ _ hsp
  have KX : K.In s.heap := e0.mod.kin.keeps fun b o e => (e0.bs b o e).1
  have lim : s.heap.NoLimit := e0.mod.nolimit.keeps fun b o e => (e0.bs b o e).1
  have hkind : ∀ y ∈ ps.zip us, scope.names.lookup y.1 = some .local ∨ (scope.names.lookup y.1 = some .cell ∧ ((cellsFrom (s.heap.objs.size + 1) scope.names []).lookup y.1).isSome = true) := fun ⟨n, v⟩ hy => by
    rcases S.par n (List.of_mem_zip hy).1 with q | q
    · exact .inl q
    · exact .inr ⟨q, PySem.W.cellsFrom_some _ _ _ (.inl q)⟩
  refine codeAny_call_generator hr.depth (KX _ _ lk) rfl S.co S.gen rfl (PySem.W.codeRec_of KX hcd) (hb _ _ _ _ ?_)
  refine wpAny_newFunctionEnv_cells S.kind hkind fun env he s1 x => ?_
  subst he
  have lim1 : s1.heap.NoLimit := lim.keeps x.toInCall.keep
  refine ⟨lim1, ?_⟩
  obtain ⟨h1, tk, es1, hk1⟩ := x.done
  have os1 : s1.os = s.os := by rw [es1]
  have gen1 : s1.gens = s.gens := by rw [es1]
  have lt1 : s.heap.objs.size < s1.heap.objs.size := x.toInCall.ns.lt
  have sz1 : s.heap.objs.size ≤ s1.heap.objs.size := Nat.le_of_lt lt1
  have kp1 : ∀ b o, s.heap.get? b = some o → s1.heap.get? b = some o := x.toInCall.keep
  have main : ∀ (go : Obj) (nm qn : Value) (tk2 : Nat), go.cls = .type "generator" → go.data = .fields #[.int s1.gens.size 0, nm, qn] → go.slots = #[] → (∀ h : Heap, (h.push go).get? h.objs.size = some go) →
      NMade P w (k + 1) outer H s Yd Q (.ref s1.heap.objs.size) { s1 with gens := s1.gens.push (.fresh (.func body (envOfC qual scope s.heap.objs.size f cdv))), toks := tk2, heap := s1.heap.push go } := by
    intro go nm qn tk2 hgc hgd0 hgs hgp
    have hgen : ∀ h : Heap, h.get? s1.heap.objs.size = some go → h.IsGen s1.heap.objs.size s1.gens.size := fun h e => ⟨go, nm, qn, e, hgc, hgd0, hgs⟩
    have hpushed : (s1.heap.push go).get? s1.heap.objs.size = some go := hgp _
    refine ⟨s1.heap.objs.size, s1.gens.size, _, rfl, sz1, ?_, hgen _ hpushed, Array.getElem?_push_size .., os1, ?_, lim1.keeps fun b o e => Heap.get?_push_of_some _ e, fun b o e => Heap.get?_push_of_some _ (kp1 b o e), ?_⟩
    · show _ < (s1.heap.push _).objs.size
      rw [Heap.size_push]; exact Nat.lt_succ_self _
    · exact AllBare.push (by rw [gen1]; exact e0.bare) rfl
    intro Aw Z s2 hrw hfr hZ hk2 hos hba
    have e0w : Env0 P w K mg base Aw outer s H := ⟨hfr, e0.mod, e0.bs, e0.bsz, e0.funs, e0.frf, e0.hok, e0.bare⟩
    obtain ⟨t, ht, hq⟩ := hbody Aw outer s H vs Yd Q [(s1.heap.objs.size, go)] (hrw.deeper _) hsp
    have I1 : Inv (gcxOf P w K mg base N qual scope f cdv Aw outer s H E0 []) [] (start N vs) H s1 := inv_startG S hrw.hd e0w hl r x
    have kp2 : ∀ b o, s1.heap.get? b = some o → s2.heap.get? b = some o := fun b o e => hk2 b o (Heap.get?_push_of_some _ e)
    have I2 : Inv (gcxOf P w K mg base N qual scope f cdv Aw outer s H E0 []) [] (start N vs) H s2 :=
      I1.call' (ch := []) (hos.trans os1.symm) (Un.kept kp2) (I1.hok.kept kp2) hba fun b hb => by cases hb
    have hZlt : ∀ b ∈ Z, s1.heap.objs.size < b := fun b hb => by
      have h := (hZ b hb).1
      have h : (s1.heap.push go).objs.size ≤ b := h
      rw [Heap.size_push] at h
      exact h
    have hea : s2.heap.get? s1.heap.objs.size = some go := hk2 s1.heap.objs.size go hpushed
    have hgd : ∀ v, go.data ≠ .cell v := fun v q => by rw [hgd0] at q; cases q
    have young : ∀ b, s1.heap.objs.size ≤ b → H b = none ∧ b ≠ s.heap.objs.size ∧ b ∉ frs outer ∧ s.heap.objs.size ≤ b ∧ ∀ y c, (cellsFrom (s.heap.objs.size + 1) scope.names []).lookup y = some c → c ≠ b := fun b hb => by
      refine ⟨I1.hok.fresh hb, Nat.ne_of_gt (Nat.lt_of_lt_of_le lt1 hb), I1.nofs hb, Nat.le_trans sz1 hb, fun y c e z => ?_⟩
      obtain ⟨v, ob, ho, _⟩ := I1.cell y c e
      have := Heap.lt_size ho
      rw [z] at this
      exact absurd (Nat.lt_of_lt_of_le this hb) (Nat.lt_irrefl _)
    have I3 : Inv (gcxOf P w K mg base N qual scope f cdv Aw outer s H E0 [(s1.heap.objs.size, go)]) [] (start N vs) H s2 := Inv.pinnedG I2 fun q hq => by
      rcases List.mem_append.mp hq with hq | hq
      · rw [List.mem_singleton.mp hq]
        obtain ⟨y1, y2, y3, _, _⟩ := young s1.heap.objs.size (Nat.le_refl _)
        exact ⟨hea, y1, y2, y3, hgd⟩
      · cases hq
    have hW : AtW (gcxOf P w K mg base N qual scope f cdv Aw outer s H E0 [(s1.heap.objs.size, go)]) Z s2 [] (start N vs) H s2 := AtW.mk' I3 (fun b hb => (hZ b hb).2) fun b hb => by
      obtain ⟨y1, y2, y3, _, _⟩ := young b (Nat.le_of_lt (hZlt b hb))
      exact ⟨rfl, y1, y2, y3⟩
    have hpn : ∀ q ∈ [(s1.heap.objs.size, go)], q.1 ∉ Z := fun q hq hb => by
      rw [List.mem_singleton.mp hq] at hb
      exact absurd (hZlt _ hb) (Nat.lt_irrefl _)
    have far : FarOf (gcxOf P w K mg base N qual scope f cdv Aw outer s H E0 [(s1.heap.objs.size, go)]) Z := fun b hb => by
      obtain ⟨_, y2, _, y4, y5⟩ := young b (Nat.le_of_lt (hZlt b hb))
      exact ⟨y4, y2, y5⟩
    have pinned : ∀ {z : Shared} {ip : List (Addr × Obj)} {s3 : Shared} {σ3 : L2.St} {H3 : Hp}, AtW (gcxOf P w K mg base N qual scope f cdv Aw outer s H E0 [(s1.heap.objs.size, go)]) Z z ip σ3 H3 s3 → s3.heap.IsGen s1.heap.objs.size s1.gens.size := fun {z ip s3 σ3 H3} hI =>
      hgen _ (hI.inv.pin (s1.heap.objs.size, go) (List.mem_append_left _ (List.mem_singleton.mpr rfl))).1
    refine seg_func ?_
    refine seg_imp (R := NR (gcxOf P w K mg base N qual scope f cdv Aw outer s H E0 [(s1.heap.objs.size, go)]) Z (fun ys v H' => v = .non ∧ Q ys H') fun _ _ => False)
      (Y := NY (gcxOf P w K mg base N qual scope f cdv Aw outer s H E0 [(s1.heap.objs.size, go)]) Z Yd) (fun n z r s3 hR => ?_) (fun n z v s3 kap kap' hkk hY => ?_) sizeLine ?_
    · cases r with
      | error e => exact False.elim hR
      | ok fl =>
        cases fl with
        | next => exact False.elim hR
        | brk => exact False.elim hR
        | cont => exact False.elim hR
        | ret u =>
          obtain ⟨ys, v, ip, σ3, H3, hn, hI, rv, ev, hQ⟩ := hR
          subst ev
          have eu : u = Value.none := rv
          subst eu
          exact .inl ⟨.inl rfl, H3, ys, hn, hI.inv.os, hI.inv.bare, hI.inv.base, hI.inv.hok, fun b hb => ⟨(hI.at hb).2.1, (hI.at hb).1⟩, hQ⟩
    · obtain ⟨ys, xx, ip, σ3, H3, hn, h2, hI, hyd, h3⟩ := hY
      exact ⟨H3, ys, xx, hn, h2, hI.inv.os, hI.inv.bare, hI.inv.nolimit, pinned hI, hI.inv.base, hI.inv.hok, fun b hb => ⟨(hI.at hb).2.1, (hI.at hb).1⟩, hyd, fun s4 nap => hkk _ _ (h3 s4 nap)⟩
    · refine ht.run Aw Z [] _ sizeLine [] s2 _ [] _ _ id id s2 (start N vs) H _ ⟨hpn, fun q hq => (by cases hq), far, over_func, rfl, rfl, rfl⟩ (Nat.add_zero _) ⟨fun n ys z s3 fl hn hs => ?_, fun n z e s3 hx => ?_⟩ hW hq
      · cases fl with
        | next =>
          obtain ⟨σ3, H3, hI, hQ⟩ := hs
          exact seg_end (.ok (.ret .none)) ⟨ys, .non, [], σ3, H3, hn, hI, rfl, rfl, hQ⟩
        | brk => obtain ⟨_, _, _, q⟩ := hs; exact False.elim q
        | cont => obtain ⟨_, _, _, q⟩ := hs; exact False.elim q
        | ret u =>
          obtain ⟨v, σ3, H3, hI, rv, ev, hQ⟩ := hs
          exact seg_end (.ok (.ret u)) ⟨ys, v, [], σ3, H3, hn, hI, rv, ev, hQ⟩
      · refine seg_wrap ?_
        rw [over_func]
        refine wpAny_mono (show wpAny (model P w) (Aw.deeper (envOfC qual scope s.heap.objs.size f cdv)) (leaving (envOfC qual scope s.heap.objs.size f cdv) e) (fun _ s4 => CX P w outer H s E0 e s4 ∧ ∀ p ∈ [(s1.heap.objs.size, go)], s4.heap.get? p.1 = some p.2) (fun _ _ => False) s3 from hx) (fun _ s4 q => ?_) fun _ s4 q => q.elim
        obtain ⟨⟨_, _, _, _, _, _, _, _, _, _, _, _, q⟩, _⟩ := q
        exact q.elim
  exact main _ _ _ _ rfl rfl rfl fun h => Heap.get?_push_size _ rfl
/-- such a def, by its body -/
theorem nap_ok {P : Program} {w : World} {K : PySem.W.Frag} {mg : Str → Option Value} {base : Heap} {x qual : Str} {st : Stmt} {f : Addr} {fd : FuncData} {N ps : List Str} {k : Nat} {sp : SpN} (F : L2.Fun K x qual st f fd) (S : GScope N ps (defScope st)) (len : ∀ vs H Yd Q, sp vs H Yd Q → vs.length = ps.length)
    (hbody : ∀ (cdv : Value) (A : Around) (outer : List Env) (s : Shared) (H : Hp) (vs : List V) (Yd : YdK) (Q : List V → Hp → Prop) (pn : List (Addr × Obj)), Room k (A.deeper (envOfC qual (defScope st) s.heap.objs.size f cdv)) → sp vs H Yd Q →
      ∃ t, NSs (gcxOf P w K mg base N qual (defScope st) f cdv A outer s H E0 pn) Yd (defBody st) t ∧ t { nx := fun ys _ H' => Q ys H', rt := fun ys v H' => v = .non ∧ Q ys H' } [] (start N vs) H) : NFn P w K mg base (k + 1) f fd ps sp := by
  obtain ⟨oc, od, kV, doc, pm, an, cdv, ct, osl, rfl, lk, hcd⟩ := F.ex
  exact nfn_of lk hcd S len fun A outer s H vs Yd Q pn hr hsp => hbody cdv A outer s H vs Yd Q pn hr hsp
structure NCal (P : Program) (w : World) (K : PySem.W.Frag) (mg : Str → Option Value) (base : Heap) (k : Nat) (x : Str) (sp : SpN) : Prop where
  ex : ∃ (f : Addr) (fd : FuncData) (ps : List Str), NFn P w K mg base k f fd ps sp ∧ mg x = some (.ref f) ∧ PySem.W.keepIn K (.ref f) = true ∧ Binds K fd ps []
end Gc

/-! [y[k] for y in g(..)] -/
namespace Gc
open PySem PySem.Spec PyProof.Rows GenW L2
section
variable {X : Cx} {k : Nat} {x : Str} {sp : SpN} {p p0 pos pos' : Pos} {e : Expr} {es : List Expr} {t : TA}
/-- g(e, ..): a generator that has not begun -/
theorem pnap_call {α : Type} (Ydf : α → YdK) (Qo : α → List V → Hp → Prop) (c : NCal X.prog X.w X.K X.mg X.base k x sp) (hr : Room k X.A) (hg : Gl X x) (ha : PA X (e :: es) t) {pins : List (Addr × Obj)} {s : Shared} {σ : L2.St} {H : Hp} (I : Inv X pins σ H s)
    (h : t σ H fun vs H1 => ∃ o, sp vs H1 (Ydf o) (Qo o)) (hdb : (x == ("__debug__" : Str)) = false := by decide) (he : starEach (e :: es) X.env = (false, eval e X.env) :: starEach es X.env := by rfl) (hpl : (backTo pos' (starEach es X.env)).any (·.1) = false := by rfl) :
    wpAny (model X.prog X.w) X.A (eval (.Call (.Name x p) (e :: es) [] pos') X.env) (fun u s' => ∃ H1 sc o, Inv X pins σ H1 sc ∧ NMade X.prog X.w k X.stack H1 sc (Ydf o) (Qo o) u s') X.xe s := by
  obtain ⟨f, fd, ps, F, hm, hk, hb⟩ := c.ex
  refine wpAny_Call_Name_kw (ld_glob I hg hm ?_ hdb)
  refine PySem.W.callWith_K (h₀ := X.base) I.ok.mod.kin hk (thn (ha.run pos' pins s σ H _ I h) fun us s1 ⟨vs, H1, I1, r, o, q⟩ => ⟨I1.kIn, ?_⟩) he hpl
  have hl : us.length = ps.length := by rw [← r.length]; exact F.len _ _ _ _ q
  refine wpAny_call (codeAny_mono (F.run X.A X.stack s1 H1 ⟨us, []⟩ us vs _ _ hr I1.env0 (by have := hb s1 us I1.kIn (by rw [List.append_nil]; exact hl); rw [List.append_nil] at this; exact this) r q) fun r s2 hq => ?_)
  cases r with
  | error e => exact False.elim hq
  | ok fl =>
    cases fl with
    | ret u => exact ⟨H1, s1, o, I1, hq⟩
    | next => exact False.elim hq
    | brk => exact False.elim hq
    | cont => exact False.elim hq
end
/-- what the items must be: of each the k-th part is what stands in out -/
def YdIx (K : PySem.W.Frag) (j : Int) (out : List V) : YdK := fun ys x H => ∃ q xs y, x = .ref q ∧ SqT K H q xs ∧ atI xs j = some y ∧ out[ys.length]? = some y
def tLcIx (K : PySem.W.Frag) (j : Int) (sp : SpN) (t : TA) : TE := fun σ H Q => t σ H fun vs H1 => ∃ out, sp vs H1 (YdIx K j out) fun ys H2 => ys.length = out.length ∧ ∀ D, H2 D = none → Q (.ref D) (upd H2 D (.lst out))
theorem ns_ne_tup {h : Heap} {C q : Addr} {m : Str → Option Value} {items : Array Value} (a : h.Ns C m) (b : IsTup h q items) : q ≠ C := by
  rintro rfl
  obtain ⟨o, es, ep, ho, hd, _⟩ := a
  obtain ⟨o', ho', _, n, hd'⟩ := b
  rw [ho] at ho'
  cases ho'
  rw [hd] at hd'
  cases hd'
section
variable {X : Cx} {k : Nat} {x : Str} {sp : SpN} {p pos' : Pos} {e : Expr} {es : List Expr} {t : TA}
theorem lcn_core {y : Str} {py py2 cp spos pos pos2 : Pos} {ck : Nat} {j : Int} {scope : Scope} {own : List (Str × Nat)} {pins : List (Addr × Obj)} {s : Shared} {σ : L2.St} {H : Hp} {Q : VK} {use : Option (Value → Sem Unit)} {Qf : Value → Shared → Prop}
    (hc : X.calm = true) (c : NCal X.prog X.w X.K X.mg X.base k x sp) (hr : Room (k + 3) X.A) (hg : Gl X x) (ha : PA X (e :: es) t) (ok : BlkOk X.N X.env.scope scope own) (hy : scope.names.lookup y = some .local) (I : Inv X pins σ H s)
    (h : tLcIx X.K j sp t σ H Q)
    (hRR : ∀ D C s' m H', Inv X pins σ H' s' → Q (.ref D) H' → s'.heap.Ns C m → FpOk X pins H' C → compPost (model X.prog X.w) X.A X.xe use Qf (.ref D) C (.ok .next) s')
    (hs : ∀ v, foldedSetIterable (.Call (.Name x p) (e :: es) [] pos') X.env v = pure v := by intro _; rfl) (hix : PlainIx (.Constant (.int j) ck cp) := by intro _ _; rfl) (hdb : (x == ("__debug__" : Str)) = false := by decide) (hdy : (y == ("__debug__" : Str)) = false := by decide)
    (he : starEach (e :: es) X.env = (false, eval e X.env) :: starEach es X.env := by rfl) (hpl : (backTo pos' (starEach es X.env)).any (·.1) = false := by rfl) :
    wpAny (model X.prog X.w) X.A (comprehension (.ListComp (.Subscript (.Name y py2) (.Constant (.int j) ck cp) spos) [⟨.Name y py, .Call (.Name x p) (e :: es) [] pos', [], 0⟩] scope pos) scope X.env pos2 (newList []) false (eval (.Call (.Name x p) (e :: es) [] pos') X.env) use) Qf X.xe s := by
  have hfree : ∀ y ∈ scope.names, y.2 = .free → ∃ c, X.env.cells.lookup y.1 = some c := fun y hy e => by
    rcases ok.free y hy e with q | q
    · exact I.ok.has _ (.inl q)
    · exact I.ok.has _ (.inr q)
  refine wpAny_comprehension_free (use := use) rfl hs (closure_ok hfree) ok.kind (fun y hy e => by rw [ok.uniq y hy, e])
    (thn (pnap_call (fun out => YdIx X.K j out) (fun out ys H2 => ys.length = out.length ∧ ∀ D, H2 D = none → Q (.ref D) (upd H2 D (.lst out))) c (hr.mono (by omega)) hg ha I h hdb he hpl) fun u s1 ⟨H1, sc, out, I1, hG⟩ => ?_)
  obtain ⟨a, g, code, rfl, ha1, ha2, hgen, hgs, hos, hb, hl, hkp, wake⟩ := hG
  refine wpAny_pyIter_gen hgen ?_
  refine wpAny_newObj_type (newEnv_comp ?_) (by show 0 ≤ sizeLine; decide)
  generalize hD : s1.heap.objs.size = D
  generalize hs3 : ({ s1 with heap := s1.heap.push { cls := .type "list", data := .seq ([] : List Value).toArray } } : Shared) = s3
  have h3 : s3.heap = s1.heap.push { cls := .type "list", data := .seq ([] : List Value).toArray } := by rw [← hs3]
  generalize hC : s3.heap.objs.size = C
  have eC : C = D + 1 := by rw [← hC, h3, Heap.size_push, hD]
  generalize hs4 : ({ s3 with heap := pushCells (s3.heap.push { cls := .type "dict", data := .dict #[] }) scope.names } : Shared) = s4
  have kp4 : ∀ b o, s3.heap.get? b = some o → s4.heap.get? b = some o := fun b o q => by
    rw [← hs4]
    exact pushCells_keeps _ _ _ _ (Heap.get?_push_of_some _ q)
  have kp3 : ∀ b o, s1.heap.get? b = some o → s3.heap.get? b = some o := fun b o q => by rw [h3]; exact Heap.get?_push_of_some _ q
  have kps : ∀ b o, s1.heap.get? b = some o → s4.heap.get? b = some o := fun b o q => kp4 b o (kp3 b o q)
  have hD4 : s4.heap.get? D = some (lstObj #[] 0) := kp4 _ _ (by rw [h3, ← hD]; exact Heap.get?_push_size _ rfl)
  have hC4 : s4.heap.Ns C fun _ => none := by
    rw [← hs4, ← hC]
    exact Heap.Ns.keeps (Heap.Ns.new ..) fun b o q => pushCells_keeps _ _ _ _ q
  show codeAny _ _ (.compStart (.ListComp (.Subscript (.Name y py2) (.Constant (.int j) ck cp) spos) [⟨.Name y py, .Call (.Name x p) (e :: es) [] pos', [], 0⟩] scope pos) 0 (.ref a) (.ref D) (compEnvC scope (cellsFrom (C + 1) scope.names (cloFrom X.env.cells scope.names [])) C X.env)) (compPost (model X.prog X.w) X.A X.xe use Qf (.ref D) C) s4
  generalize hce : compEnvC scope (cellsFrom (C + 1) scope.names (cloFrom X.env.cells scope.names [])) C X.env = ce
  have cL : ce.locals = C := by rw [← hce]; rfl
  have ckd : ce.scope.kind = .function := by rw [← hce]; exact ok.kind
  have cy : ce.kindOf y = some .local := by
    rw [← hce]
    exact lookup_relabel_local hy
  have hnC : ∀ {h : Heap} {m : Str → Option Value}, h.Ns C m → ∃ o, h.get? C = some o ∧ ∀ v, o.data ≠ .cell v := fun {h m} ⟨o, es, ep, ho, hd, _⟩ => ⟨o, ho, fun v q => by rw [hd] at q; cases q⟩
  have ltD : ∀ b o, s1.heap.get? b = some o → b ≠ D ∧ b ≠ C := fun b o q => by
    have := Heap.lt_size q
    rw [hD] at this
    exact ⟨Nat.ne_of_lt this, Nat.ne_of_lt (by rw [eC]; exact Nat.lt_succ_of_lt this)⟩
  have seg := wake X.A.in1 [D, C] (s4.setGen g .running) ⟨hr.hd, by have := hr.dp; show X.A.depth + 3 * k + 5 < _; omega, by have := hr.un; show X.A.units + 1 + 16 * k + 200 < _; omega⟩ I1.ok.frames (fun b hb => by
      rcases List.mem_cons.mp hb with hb | hb
      · rw [hb, hD]
        exact ⟨Nat.le_refl _, _, hD4, fun v q => by cases q⟩
      · rw [List.mem_singleton.mp hb, hD]
        exact ⟨by rw [eC]; exact Nat.le_succ D, hnC hC4⟩) kps (by rw [← hs4, ← hs3]; exact hos) (allBare_setGen (by rw [← hs4, ← hs3]; exact hb) rfl)
  have loop : codeAny (model X.prog X.w) X.A (.compLoop (.ListComp (.Subscript (.Name y py2) (.Constant (.int j) ck cp) spos) [⟨.Name y py, .Call (.Name x p) (e :: es) [] pos', [], 0⟩] scope pos) 0 (.ref a) (.ref D) ce) (compPost (model X.prog X.w) X.A X.xe use Qf (.ref D) C) s4 := by
    refine compLoop_any (fun n z => ∃ gs acc cc m, z.gens[g]? = some gs ∧ gs.Goes (model X.prog X.w) X.A.in1 (NEnd X.prog X.w X.stack H1 sc [D, C] fun ys H2 => ys.length = out.length ∧ ∀ D, H2 D = none → Q (.ref D) (upd H2 D (.lst out))) (NItem X.prog X.w X.stack H1 sc [D, C] a g (YdIx X.K j out)) n (.send .none) (z.setGen g .running) ∧
      z.heap.IsGen a g ∧ z.heap.NoLimit ∧ z.heap.get? D = some (lstObj acc cc) ∧ n + acc.size = sizeLine ∧ Vals (out.take acc.size) acc.toList ∧ z.heap.Ns C m) ?_ sizeLine ⟨.fresh code, #[], 0, _, by rw [← hs4, ← hs3]; exact hgs, ⟨rfl, seg⟩, hgen.keeps kps, hl.keeps kps, hD4, rfl, .nil, hC4⟩
    rintro n z ⟨gs, acc, cc, m, zg, go, zgen, zl, zD, hn, hv, zC⟩
    have hgl : g < z.gens.size := (Array.getElem?_eq_some_iff.mp zg).1
    have CD : C ≠ D := by rw [eC]; exact Nat.succ_ne_self D
    have inD : D ∈ [D, C] := List.mem_cons_self
    have inC : C ∈ [D, C] := List.mem_cons_of_mem _ List.mem_cons_self
    have scD : sc.heap.objs.size ≤ D := by rw [← hD]; exact Nat.le_trans ha1 (Nat.le_of_lt ha2)
    have stD : cStatics ≠ D ∧ cStatics ≠ C := by
      obtain ⟨_, hns, _⟩ := hl
      obtain ⟨o, ho⟩ : ∃ o, s1.heap.get? cStatics = some o := by
        obtain ⟨o, _, _, ho, _⟩ := hns
        exact ⟨o, ho⟩
      exact ltD _ o ho
    have aD : a ≠ D ∧ a ≠ C := by
      obtain ⟨o, _, _, ho, _⟩ := hgen
      exact ltD _ o ho
    refine wpAny_gsz (n := g + 1) hgl (next_genG (A := X.A) hr.hd zl (by have := hr.dp; omega) zgen zg go (fun v s5 gs' hbare hv5 => ?_) (fun s5 hfin h' hk => ?_) fun e s5 q => q.elim)
    · intro hsz
      obtain ⟨H', ys, xx, hn5, rv, os5, bare5, nl5, gen5, un5, hok5, hZ5, yd, kap⟩ := hv5
      obtain ⟨q, xs, yv, rfl, hq, hat, hout⟩ := yd
      have ev : v = .ref q := rv
      subst ev
      have D5 : s5.heap.get? D = some (lstObj acc cc) := (hZ5 D inD).2.trans zD
      have C5 : s5.heap.Ns C m := by
        obtain ⟨o, es, ep, ho, rr⟩ := zC
        exact ⟨o, es, ep, (hZ5 C inC).2.trans ho, rr⟩
      cases n with
      | zero =>
        refine False.elim (kap s5 ⟨rfl, bare5, fun _ _ _ e => e, fun b o hb e => ⟨o, e, fun v e2 => ?_⟩⟩)
        rcases List.mem_cons.mp hb with hb | hb
        · rw [hb, D5] at e
          cases e
          cases e2
        · rw [List.mem_singleton.mp hb] at e
          obtain ⟨o', ho', nc⟩ := hnC C5
          rw [ho'] at e
          cases e
          exact nc v e2
      | succ n =>
        have I5 : L2.Inv X pins σ H' s5 := I1.call' (ch := []) os5 un5 hok5 bare5 fun b hb => by cases hb
        obtain ⟨its, r5, pl, hz5⟩ := I5.tuple hq
        have eys : ys.length = acc.size := by omega
        obtain ⟨og, nm, qn, hog, hcl, hdg, hsl⟩ := id gen5
        refine go_of (s := s5.setGen g gs') hog hcl hdg (by decide) ?_
        refine wpAny_assign_Name (wpAny_storeName_local cy (s := s5.setGen g gs') (m := m) (by rw [cL]; exact C5) (fun h6 hn6 sb6 => ?_) (by rw [ckd]; rfl))
        rw [cL] at sb6 hn6
        have sb6' : ∀ b, b ≠ C → h6.get? b = s5.heap.get? b := fun b hb => sb6.2 b hb
        refine wpAny_tests_nil ?_
        show wpAny _ _ _ _ _ _
        have pl6 : IsTup h6 q its.toArray := by
          obtain ⟨o, ho, rr⟩ := id pl
          exact ⟨o, (sb6' q (ns_ne_tup C5 pl)).trans ho, rr⟩
        obtain ⟨i5, h1, h2, h3, h4, h5⟩ := atI_get hat
        obtain ⟨w, ew, rw5⟩ := r5.get h2
        have hl5 := r5.length
        have hn63 := line63
        have tail : ∀ (tk : Nat) (dr : Drawn) (Q2 : Value → Shared → Prop) (E2 : Value → Shared → Prop), Q2 w ⟨h6, (s5.setGen g gs').gens, dr, tk, s5.os⟩ →
            wpAny (model X.prog X.w) X.A (subscriptTail (.Name y py2) (.Constant (.int j) ck cp) (.ref q) (.int j (s5.toks + 1))) Q2 E2 ⟨h6, (s5.setGen g gs').gens, dr, tk, s5.os⟩ := fun tk dr Q2 E2 h => by
          refine subscriptTail_builtinR (x := w) (T := "tuple") pl6.typeIs slot_tuple_getitem.lookup (getItem_tuple (j := i5) pl6 ?_ ?_ ?_ ?_ ⟨rfl, h⟩) (hix _ _)
          · omega
          · omega
          · rw [List.size_toArray, ← hl5]; exact h1
          · simpa using ew
        refine Subscript_ (wpAny_Name (wpAny_loadName_local ckd cy (by rw [cL]; exact hn6) (v := .ref q) (by simp) ?_) hdy)
        refine wpAny_Constant_int (tail _ _ _ _ ?_)
        refine append_at ((sb6' D (Ne.symm CD)).trans D5) (fun h7 sb7 hD7 => ?_) (by omega)
        have sb7' : ∀ b, b ≠ D → h7.get? b = h6.get? b := fun b hb => sb7.2 b hb
        have kp7 : ∀ b o, b ∉ [D, C] → s5.heap.get? b = some o → h7.get? b = some o := fun b o hb e => by
          have bD : b ≠ D := fun e => hb (e ▸ inD)
          have bC : b ≠ C := fun e => hb (e ▸ inC)
          exact (sb7' b bD).trans ((sb6' b bC).trans e)
        have C7 : h7.Ns C fun x => if x = y then some (.ref q) else m x := by
          obtain ⟨o, es, ep, ho, rr⟩ := hn6
          exact ⟨o, es, ep, (sb7' C CD).trans ho, rr⟩
        have nin : ∀ b, b ≠ D ∧ b ≠ C → b ∉ [D, C] := fun b hb e => by
          rcases List.mem_cons.mp e with e | e
          · exact hb.1 e
          · exact hb.2 (List.mem_singleton.mp e)
        have hsz5 : g < s5.gens.size := by
          have e : (s5.setGen g gs').gens.size = s5.gens.size := setGen_size _ _ _
          have h : g + 1 ≤ (s5.setGen g gs').gens.size := hsz
          omega
        refine ⟨n, Nat.lt_succ_self n, gs', acc.push w, cc + 1, _, setGen_at hsz5, ?_, ⟨og, nm, qn, kp7 a og (nin a aD) hog, hcl, hdg, hsl⟩, ?_, hD7, by rw [Array.size_push]; omega, ?_, C7⟩
        · refine kap _ ⟨rfl, allBare_setGen (s := ⟨h7, (s5.setGen g gs').gens, _, _, s5.os⟩) (allBare_setGen bare5 hbare) rfl, kp7, fun b o hb e => ?_⟩
          rcases List.mem_cons.mp hb with hb | hb
          · exact ⟨_, by rw [hb]; exact hD7, fun v e => by cases e⟩
          · rw [List.mem_singleton.mp hb]
            exact hnC C7
        · obtain ⟨mc, hns, hnn⟩ := nl5
          exact ⟨mc, hns.at' fun o e => kp7 _ o (nin _ stD) e, hnn⟩
        · rw [Array.toList_push, Array.size_push, List.take_add_one, ← eys, hout, eys]
          exact hv.append (.cons rw5 .nil)
    · intro hsz
      obtain ⟨H', ys, hn5, os5, bare5, un5, hok5, hZ5, elen, hQ⟩ := hfin
      have eys : acc.size = out.length := by omega
      rw [eys, List.take_length] at hv
      have C5 : h'.Ns C m := by
        obtain ⟨o, es, ep, ho, rr⟩ := zC
        exact ⟨o, es, ep, hk _ _ ((hZ5 C inC).2.trans ho), rr⟩
      refine hRR D C _ m (upd H' D (.lst out)) ?_ (hQ D (hZ5 D inD).1) C5 (I1.fpOk (Nat.le_trans scD (by rw [eC]; exact Nat.le_succ D)) (by rw [upd_ne CD]; exact (hZ5 C inC).1))
      exact I1.drained (acc := acc) (c := cc) scD (by omega) (hk _ _ ((hZ5 D inD).2.trans zD)) hv .nil os5 (allBare_setGen bare5 rfl) (un5.trans (Un.kept hk)) (hok5.kept hk) (hZ5 D inD).1
  exact codeAny_compStart_list loop (wpAny_pyIter_gen (hgen.keeps kps) loop)
/-- as a value -/
theorem pe_lcN {y : Str} {py py2 cp spos pos : Pos} {ck : Nat} {j : Int} {scope : Scope} {own : List (Str × Nat)}
    (hc : X.calm = true) (c : NCal X.prog X.w X.K X.mg X.base k x sp) (hr : Room (k + 3) X.A) (hg : Gl X x) (ha : PA X (e :: es) t) (ok : BlkOk X.N X.env.scope scope own) (hy : scope.names.lookup y = some .local)
    (hs : ∀ v, foldedSetIterable (.Call (.Name x p) (e :: es) [] pos') X.env v = pure v := by intro _; rfl) (hix : PlainIx (.Constant (.int j) ck cp) := by intro _ _; rfl) (hdb : (x == ("__debug__" : Str)) = false := by decide) (hdy : (y == ("__debug__" : Str)) = false := by decide)
    (he : starEach (e :: es) X.env = (false, eval e X.env) :: starEach es X.env := by rfl) (hpl : (backTo pos' (starEach es X.env)).any (·.1) = false := by rfl) :
    PE X (.ListComp (.Subscript (.Name y py2) (.Constant (.int j) ck cp) spos) [⟨.Name y py, .Call (.Name x p) (e :: es) [] pos', [], 0⟩] scope pos) (tLcIx X.K j sp t) := by
  refine ⟨fun pins s σ H Q I h => ?_⟩
  rw [eval_ListComp]
  refine lcn_core hc c hr hg ha ok hy I h (fun D C s2 m H2 I2 q hn f => ⟨m, hn, fun h3 sb => ?_⟩) hs hix hdb hdy he hpl
  obtain ⟨f0, f1, f2, f3, f4, f5⟩ := f
  exact ⟨.ref D, H2, I2.turned (t' := s2.toks) (fun b o hb eb => (sb.2 b hb).trans eb) f0 f1 f3 f4 f5, rfl, q⟩
end
end Gc

/-! a generator method that hands out the items of a list of its object, turn by turn and to the letter: only its iterator turns -/
namespace Gc
open PySem PySem.Spec PyProof.Rows GenW L2
/-- all but what stands at it is as it was -/
structure ChI (it : Addr) (z s : Shared) : Prop where
  os : s.os = z.os
  gens : s.gens = z.gens
  keep : ∀ b o, b ≠ it → z.heap.get? b = some o → s.heap.get? b = some o
theorem ChI.refl (it : Addr) (z : Shared) : ChI it z z := ⟨rfl, rfl, fun _ _ _ e => e⟩
def TY (l : Addr) (its : Array Value) (it : Addr) : Protocol := fun n z v s1 kap => ∃ j, j + (n + 1) = its.size ∧ its[j]? = some v ∧ ChI it z s1 ∧ z.heap.objs.size ≤ s1.heap.objs.size ∧ s1.heap.IsListIter it l (j + 1) ∧ ∀ s2, s2.heap.IsListIter it l (j + 1) → s2.heap.IsList l its → kap (.send .none) s2
def TR (it : Addr) : GenEnd := fun n z r s1 => ((r = .ok (.ret .none) ∨ r = .ok .next) ∧ n = 0 ∧ ChI it z s1) ∨ ∃ e, r = .error e ∧ False
section
variable {P : Program} {w : World} {A : Around} {fs : List Frame} {it l : Addr} {its : Array Value}
theorem seg_yfE (ho : (A.over (.builtin "proto.yield_from" ⟨[.ref it, .bool false, .none], []⟩) fs).handled = none) (hsp : splitAtGen fs = none) (hgd : fs.any Frame.guarded = false) (hl : l ≠ it)
    (hend : ∀ (z s : Shared), ChI it z s → Seg (model P w) A (TR it) (TY l its it) 0 z (.builtin "proto.yield_from" ⟨[.ref it, .bool false, .none], []⟩) (.pure (.done (.ret .none))) fs s) :
    ∀ (n j : Nat) (z s : Shared), j + n = its.size → ChI it z s → z.heap.objs.size ≤ s.heap.objs.size → s.heap.IsListIter it l j → s.heap.IsList l its →
      Seg (model P w) A (TR it) (TY l its it) n z (.builtin "proto.yield_from" ⟨[.ref it, .bool false, .none], []⟩) ((model P w).den (.builtin "proto.yield_from" ⟨[.ref it, .bool false, .none], []⟩)) fs s := by
  have den : (model P w).den (.builtin "proto.yield_from" ⟨[.ref it, .bool false, .none], []⟩) = Builtin.«proto.yield_from» ⟨[.ref it, .bool false, .none], []⟩ := by
    show (match entryFor table "proto.yield_from" with | some b => b ⟨[.ref it, .bool false, .none], []⟩ | none => unsupported ((withoutEnding? "proto.yield_from" "#data").getD "proto.yield_from")) = _
    rw [entry_yf]
  have hcl : typeLookup (.type "list_iterator") "close" = pure none := close_list
  have hng : (Value.type "list_iterator" != Value.type "generator") = true := by decide
  intro n
  induction n with
  | zero =>
    intro j z s hj ch gr hit hli
    rw [den]
    unfold Builtin.«proto.yield_from»
    try dsimp only
    refine seg_bind (wpAny_pure ?_)
    try dsimp only
    refine seg_bind (wpAny_attempt (wpAny_holding ?_))
    rw [if_neg Bool.false_ne_true, if_pos (show (Value.none == Value.none) = true from rfl)]
    refine wpAny_bind (wpAny_rule (wpAny_bind ?_))
    refine special_list_end ho hit hli (by rw [Array.getElem?_eq_none_iff]; omega) fun e h2 hS hk => ?_
    obtain ⟨a, o, vs, rfl, hoa, hcls, hdat, h5⟩ := hS
    try dsimp only
    refine seg_bind (wpAny_endsTurn hoa hcls ?_)
    try dsimp only
    rw [if_pos rfl]
    first
      | refine seg_bind (wpAny_rule ?_)
      | (rw [if_neg Bool.false_ne_true]; refine seg_bind (wpAny_rule ?_))
      | (rw [if_neg Bool.false_ne_true]; refine seg_bind (wpAny_pure ?_); refine seg_bind (wpAny_rule ?_))
    refine seg_bind (wpAny_field hoa hdat h5 ?_)
    exact hend z _ ⟨ch.os, ch.gens, fun b o hb eb => hk b o hb (ch.keep b o hb eb)⟩
  | succ n ih =>
    intro j z s hj ch gr hit hli
    obtain ⟨x, hx⟩ : ∃ x, its[j]? = some x := ⟨its[j]'(by omega), Array.getElem?_eq_getElem (by omega)⟩
    rw [den]
    unfold Builtin.«proto.yield_from»
    try dsimp only
    refine seg_bind (wpAny_pure ?_)
    try dsimp only
    refine seg_bind (wpAny_attempt (wpAny_holding ?_))
    rw [if_neg Bool.false_ne_true, if_pos (show (Value.none == Value.none) = true from rfl)]
    refine wpAny_bind (wpAny_rule (wpAny_bind ?_))
    refine special_list_item hit hli hx fun h2 hit2 sb => ?_
    obtain ⟨oi, hoi, hoc, _⟩ := id hit2
    refine wpAny_pure ?_
    try dsimp only
    refine seg_bind (wpAny_typeOf (T := "list_iterator") ⟨oi, hoi, hoc⟩ ?_)
    try dsimp only
    first
      | (refine seg_bind (wpAny_of_eq hcl ?_); refine seg_bind (wpAny_pure ?_))
      | refine seg_bind (wpAny_bind (wpAny_of_eq hcl (wpAny_pure ?_)))
      | refine seg_bind (wpAny_of_eq hcl ?_)
    try dsimp only
    refine seg_bind (wpAny_sleptOver hoi hoc hng ?_)
    refine seg_yield hsp rfl hgd ?_
    refine ⟨j, hj, hx, ⟨ch.os, ch.gens, fun b o hb eb => sb.extBut b o hb (ch.keep b o hb eb)⟩, (by rw [sb.1]; exact gr), hit2, fun s3 hit3 hli3 => ?_⟩
    obtain ⟨oj, hoj, hojc, _⟩ := id hit3
    show Seg _ _ _ _ n s3 _ (Builtin.Generator.sleptOver (.ref it) false >>= fun _ => _) fs s3
    refine seg_bind (wpAny_sleptOver hoj hojc hng ?_)
    try dsimp only
    refine seg_bind (wpAny_pure ?_)
    exact seg_again (plainId_quiet plain_yf _) (ih (j + 1) s3 s3 (by omega) (ChI.refl it s3) (Nat.le_refl _) hit3 hli3)
end
end Gc

/-! such a method's first turn -/
namespace Gc
open PySem PySem.Spec PyProof.Rows GenW L2
section
variable {P : Program} {w : World} {K : PySem.W.Frag} {A : Around} {qual : Str} {scope : Scope} {L f : Addr} {cdv : Value} {x fld : Str} {px pa yp pos : Pos} {C o dx l : Addr} {fsl : List (Str × V)} {its : Array Value} {m : Str → Option Value} {H : Hp} {s : Shared}
theorem seg_trl (hh : A.handled = none) (hk : scope.kind = .function) (hx : scope.names.lookup x = some .local) (kin : K.In s.heap) (hok : HOk P w H s.heap) (c : Cls K C) (na : NoAttr K C fld) (eo : H o = some (.ins C dx fsl)) (el : fsl.lookup fld = some (.ref l)) (hl : s.heap.IsList l its) (hn : s.heap.Ns L m) (hm : m x = some (.ref o))
    (hdb : (x == ("__debug__" : Str)) = false := by decide) (hi : interactive (envOfC qual scope L f cdv) = false := by rfl) (hb : attributeBase (.Name x px) fld (envOfC qual scope L f cdv) (eval (.Name x px) (envOfC qual scope L f cdv)) = eval (.Name x px) (envOfC qual scope L f cdv) := by rfl) :
    Seg (model P w) A (TR s.heap.objs.size) (TY l its s.heap.objs.size) its.size s (.func [.Expr (.YieldFrom (.Attribute (.Name x px) fld pa) yp) pos] (envOfC qual scope L f cdv)) ((model P w).den (.func [.Expr (.YieldFrom (.Attribute (.Name x px) fld pa) yp) pos] (envOfC qual scope L f cdv))) [] s := by
  have hl0 := hl
  obtain ⟨ol, hol, _⟩ := id hl
  have llt := Heap.lt_size hol
  refine seg_func ?_
  refine seg_execs_cons ?_
  rw [exec_Expr (envOfC qual scope L f cdv) _ pos hi rfl]
  show Seg _ _ _ _ _ s _ (.at pos fun _ => ((eval (.Attribute (.Name x px) fld pa) (envOfC qual scope L f cdv) >>= fun v => (standAt yp >>= fun _ => yieldFrom (envOfC qual scope L f cdv) v)) >>= fun y => dropValue (.YieldFrom (.Attribute (.Name x px) fld pa) yp) pos y).wrap _ _ _ _) _ s
  refine seg_at ?_
  refine segw_bind2 ?_
  rw [over_func]
  refine attr_of hb (wpAny_Name (wpAny_loadName_local hk hx hn hm ?_) hdb)
  obtain ⟨mA, O, r, _, _, _⟩ := ins_get hok eo
  obtain ⟨u, hu, ru⟩ := RelO.some_of (v := V.ref l) (o := mA fld) (by rw [← el]; exact r fld)
  refine get_map kin O (c.get fld) c.hd na hu (handed_of ru) ?_
  have eu : u = .ref l := ru
  subst eu
  refine seg_at ?_
  show Seg _ _ _ _ _ s _ ((yieldFrom (envOfC qual scope L f cdv) (.ref l)).wrap (fun b => (dropValue (.YieldFrom (.Attribute (.Name x px) fld pa) yp) pos b).wrap _ _ _ _) _ _ _) _ _
  unfold yieldFrom
  refine seg_bind_wrap (wpAny_typeOf (T := "list") hl.typeIs ?_)
  rw [if_neg (by decide)]
  refine seg_bind_wrap (wpAny_holding ?_)
  rw [over_func]
  refine wpAny_pyIter_list hl ?_
  refine seg_call fun p => ?_
  have lne : l ≠ s.heap.objs.size := Nat.ne_of_lt llt
  have kp : ∀ b o, s.heap.get? b = some o → (s.heap.push { cls := .type "list_iterator", data := .fields #[.ref l, .int 0 0] }).get? b = some o := fun b o e => Heap.get?_push_of_some _ e
  refine seg_yfE (j := 0) ?_ rfl rfl lne (fun z s2 ch => ?_) its.size s _ (by omega) ⟨rfl, rfl, fun b o _ e => kp b o e⟩ (by show _ ≤ (s.heap.push _).objs.size; rw [Heap.size_push]; exact Nat.le_succ _) ⟨_, Heap.get?_push_size _ rfl, rfl, rfl⟩ (hl.at fun o e => kp _ _ e)
  · exact hh
  · exact seg_leaf (.ok (.ret .none)) (seg_end (.ok (.ret .none)) (.inl ⟨.inl rfl, rfl, ch⟩))
end
end Gc

/-! one turn of such a generator, within another builtin (zip) -/
namespace Gc
open PySem PySem.Spec PyProof.Rows GenW L2
section
variable {P : Program} {w : World} {A : Around} {E : Value → Shared → Prop} {s : Shared}
theorem nextOf_gen {a : Addr} {g n : Nat} {gs : GenState} {F : Nat → Shared → Shared → Prop} {Y : Protocol} {Q : Value → Shared → Prop} (hh : A.handled = none) (hl : s.heap.NoLimit) (hroom : A.depth < recursionLimit) (hg : s.heap.IsGen a g) (hgs : s.gens[g]? = some gs)
    (hgo : gs.Goes (model P w) A.in1 (fun n s₀ r s₁ => ((r = .ok (.ret .none) ∨ r = .ok .next) ∧ F n s₀ s₁) ∨ ∃ e, r = .error e ∧ False) Y n (.send .none) (s.setGen g .running))
    (hY : ∀ v s₁ gs', gs'.bare = true → Y (n - 1) (s.setGen g .running) v s₁ (fun r' s'' => match n with
        | 0 => False
        | m + 1 => gs'.Goes (model P w) A.in1 (fun n s₀ r s₁ => ((r = .ok (.ret .none) ∨ r = .ok .next) ∧ F n s₀ s₁) ∨ ∃ e, r = .error e ∧ False) Y m r' s'') → Q v (s₁.setGen g gs'))
    (hP : ∀ s₁, F n (s.setGen g .running) s₁ → ∀ h' e, (∀ b o, s₁.heap.get? b = some o → h'.get? b = some o) → (∃ o, h'.get? e = some o ∧ o.cls = .type "StopIteration") → E (.ref e) { s₁.setGen g .finished with heap := h' }) :
    wpAny (model P w) A (Builtin.SmallTypes.nextOf (.ref a)) Q E s := by
  unfold Builtin.SmallTypes.nextOf
  refine wpAny_bind (wpAny_callSpecial?_slot (name := Str.ofString "__next__") hg.typeIs slot_gen_next
    (wpAny_call_entry slot_gen_next hg.typeIs entry_gen_next ?_ (args_gen_next _)))
  show wpAny _ A.in1 (Builtin.Generator.genWake (.ref a) (.send .none)) _ _ s
  unfold Builtin.Generator.genWake
  refine wpAny_bind (wpAny_holding (wpAny_genNumber hg (wpAny_bind (wpAny_genState hgs ?_))))
  cases gs with
  | running => exact hgo.elim
  | finished => exact hgo.elim
  | _ =>
    refine wpAny_bind (wpAny_roomToWake hl hroom ?_)
    show wpAny _ A.in1 (.resume g (.send .none) [] _) _ _ s
    refine wpAny_resumeQ hgs hgo (fun x s₁ hx => ?_) (fun v s₁ gs' hb hv => ?_)
    · rcases hx with ⟨hr, hp⟩ | ⟨e, rfl, he⟩
      · have hres : End.result (.ret x) = .returned .none := by
          rcases hr with hr | hr <;> rw [hr] <;> rfl
        first | rw [hres] | simp only [hres]
        show wpAny _ A.in1 (newExc (.type "StopIteration") [] >>= _) _ _ _
        refine wpAny_bind ?_
        simp only [newExc, newTuple]
        refine wpAny_bind (wpAny_newObj_type ?_ (by size_fits))
        refine wpAny_bind (m := firstArgMember _ _) (wpAny_of_eq (a := Value.none) (by first | rfl | (simp only [firstArgMember]; rfl)) ?_)
        refine wpAny_newObj_type ?_ (by size_fits)
        simp only [raiseNew]
        refine wpAny_bind (wpAny_bind (wpAny_handled ?_))
        first | rw [show A.in1.handled = none from hh] | rw [hh]
        refine wpAny_throw ?_
        exact hP s₁ hp _ _ (fun b o hb => Heap.get?_push_of_some _ (Heap.get?_push_of_some _ hb)) ⟨_, Heap.get?_push_size _ rfl, rfl⟩
      · exact he.elim
    · exact wpAny_pure ⟨v, rfl, wpAny_pure (hY v s₁ gs' hb hv)⟩
end
/-- made, not begun; h0: what stood when it was made, and stands -/
structure Gen0 (P : Program) (w : World) (Ai : Around) (l : Addr) (its : Array Value) (a : Addr) (g : Nat) (h0 : Heap) (s : Shared) : Prop where
  gen : s.heap.IsGen a g
  sub : ∀ b o, h0.get? b = some o → s.heap.get? b = some o
  own : h0.IsGen a g
  st : ∃ code, s.gens[g]? = some (.fresh code) ∧ ∀ s2, (∀ b o, h0.get? b = some o → s2.heap.get? b = some o) → Seg (model P w) Ai (TR s2.heap.objs.size) (TY l its s2.heap.objs.size) its.size s2 code ((model P w).den code) [] s2
/-- asleep behind its item j - 1 -/
structure GenJ (P : Program) (w : World) (Ai : Around) (l : Addr) (its : Array Value) (a : Addr) (g : Nat) (it : Addr) (j : Nat) (s : Shared) : Prop where
  gen : s.heap.IsGen a g
  iter : s.heap.IsListIter it l j
  le : j ≤ its.size
  st : ∃ gs, s.gens[g]? = some gs ∧ ∀ s2, s2.heap.IsListIter it l j → s2.heap.IsList l its → gs.Goes (model P w) Ai (TR it) (TY l its it) (its.size - j) (.send .none) s2
section
variable {P : Program} {w : World} {A Ai : Around} {E : Value → Shared → Prop} {s s2 : Shared} {l a it : Addr} {its : Array Value} {g j : Nat}
theorem Gen0.over {h0 : Heap} (h : Gen0 P w Ai l its a g h0 s) (hk : ∀ b o, h0.get? b = some o → s2.heap.get? b = some o) (hg : s2.gens[g]? = s.gens[g]?) : Gen0 P w Ai l its a g h0 s2 := by
  obtain ⟨h1, h2, h3, code, h4, h5⟩ := h
  exact ⟨h3.keeps hk, hk, h3, code, hg.trans h4, h5⟩
theorem GenJ.over (h : GenJ P w Ai l its a g it j s) (hk : ∀ b o, (b = a ∨ b = it) → s.heap.get? b = some o → s2.heap.get? b = some o) (hg : s2.gens[g]? = s.gens[g]?) : GenJ P w Ai l its a g it j s2 := by
  obtain ⟨h1, h2, h3, gs, h4, h5⟩ := h
  obtain ⟨o, nm, qn, ho, hr⟩ := h1
  exact ⟨⟨o, nm, qn, hk a o (.inl rfl) ho, hr⟩, h2.at fun o e => hk it o (.inr rfl) e, h3, gs, hg.trans h4, h5⟩
/-- what a turn leaves: all but the iterator as it was, the other generators too -/
structure Trn (it : Addr) (g : Nat) (s s2 : Shared) : Prop where
  os : s2.os = s.os
  bare : AllBare s.gens → AllBare s2.gens
  size : s2.gens.size = s.gens.size
  rest : ∀ k, k ≠ g → s2.gens[k]? = s.gens[k]?
  keep : ∀ b o, b ≠ it → s.heap.get? b = some o → s2.heap.get? b = some o
theorem Trn.of {s1 : Shared} {gs x : GenState} (ch : ChI it (s.setGen g .running) s1) (hb : x.bare = true) (hk : ∀ b o, s1.heap.get? b = some o → s2.heap.get? b = some o) (ho : s2.os = s1.os) (hg : s2.gens = (s1.setGen g x).gens) : Trn it g s s2 := by
  have e1 : s1.gens = (s.setGen g .running).gens := ch.gens
  have sz : s1.gens.size = s.gens.size := by rw [e1]; exact setGen_size _ _ _
  refine ⟨ho.trans ch.os, fun h => ?_, ?_, fun k hk2 => ?_, fun b o hb2 e => hk b o (ch.keep b o hb2 e)⟩
  · rw [hg]
    refine allBare_setGen ?_ hb
    rw [e1]
    exact allBare_setGen h rfl
  · rw [hg, setGen_size, sz]
  · rw [hg]
    show (s1.gens.setIfInBounds g x)[k]? = _
    rw [Array.getElem?_setIfInBounds_ne (Ne.symm hk2), e1]
    show (s.gens.setIfInBounds g .running)[k]? = _
    rw [Array.getElem?_setIfInBounds_ne (Ne.symm hk2)]
theorem Gen0.item {h0 : Heap} (h : Gen0 P w A.in1 l its a g h0 s) (hh : A.handled = none) (hl : s.heap.NoLimit) (hroom : A.depth < recursionLimit) {x : Value} (hx : its[0]? = some x) {Q : Value → Shared → Prop}
    (hQ : ∀ s2, Trn s.heap.objs.size g s s2 → s.heap.objs.size < s2.heap.objs.size → GenJ P w A.in1 l its a g s.heap.objs.size 1 s2 → Q x s2) : wpAny (model P w) A (Builtin.SmallTypes.nextOf (.ref a)) Q E s := by
  obtain ⟨hg, hsub, _, code, hgs, hgo⟩ := h
  have hz : 0 < its.size := (Array.getElem?_eq_some_iff.mp hx).1
  have hgl : g < s.gens.size := (Array.getElem?_eq_some_iff.mp hgs).1
  refine nextOf_gen (n := its.size) (gs := .fresh code) (F := fun n z s1 => n = 0 ∧ ChI s.heap.objs.size z s1) (Y := TY l its s.heap.objs.size) hh hl hroom hg hgs ⟨rfl, hgo (s.setGen g .running) hsub⟩ (fun v s1 gs hb hy => ?_) fun s1 hf => absurd hf.1 (by omega)
  obtain ⟨j, hj, hv, ch, gr, hit, kap⟩ := hy
  have ej : j = 0 := by omega
  subst ej
  rw [hx] at hv
  cases hv
  have T : Trn s.heap.objs.size g s (s1.setGen g gs) := Trn.of (gs := gs) (x := gs) ch hb (fun b o e => e) rfl rfl
  have e1 : s1.gens.size = s.gens.size := by rw [ch.gens]; exact setGen_size _ _ _
  obtain ⟨oi, hoi, _⟩ := id hit
  refine hQ _ T (Heap.lt_size hoi) ⟨?_, hit, hz, gs, setGen_at (by omega), fun s3 h3 h4 => ?_⟩
  · obtain ⟨o, nm, qn, ho, hr⟩ := hg
    exact ⟨o, nm, qn, ch.keep a o (Nat.ne_of_lt (Heap.lt_size ho)) ho, hr⟩
  · obtain ⟨m, hm⟩ : ∃ m, its.size = m + 1 := ⟨its.size - 1, by omega⟩
    have k3 := kap s3 h3 h4
    rw [hm] at k3 ⊢
    exact k3
theorem GenJ.item (h : GenJ P w A.in1 l its a g it j s) (hh : A.handled = none) (hl : s.heap.NoLimit) (hroom : A.depth < recursionLimit) (hli : s.heap.IsList l its) (na : a ≠ it) {x : Value} (hx : its[j]? = some x) {Q : Value → Shared → Prop}
    (hQ : ∀ s2, Trn it g s s2 → s.heap.objs.size ≤ s2.heap.objs.size → GenJ P w A.in1 l its a g it (j + 1) s2 → Q x s2) : wpAny (model P w) A (Builtin.SmallTypes.nextOf (.ref a)) Q E s := by
  obtain ⟨hg, hit0, hle, gs0, hgs, hgo⟩ := h
  have hz : j < its.size := (Array.getElem?_eq_some_iff.mp hx).1
  have hgl : g < s.gens.size := (Array.getElem?_eq_some_iff.mp hgs).1
  refine nextOf_gen (n := its.size - j) (gs := gs0) (F := fun n z s1 => n = 0 ∧ ChI it z s1) (Y := TY l its it) hh hl hroom hg hgs (hgo (s.setGen g .running) hit0 hli) (fun v s1 gs hb hy => ?_) fun s1 hf => absurd hf.1 (by omega)
  obtain ⟨i, hj, hv, ch, gr, hit, kap⟩ := hy
  have ej : i = j := by omega
  subst ej
  rw [hx] at hv
  cases hv
  have T : Trn it g s (s1.setGen g gs) := Trn.of (gs := gs) (x := gs) ch hb (fun b o e => e) rfl rfl
  have e1 : s1.gens.size = s.gens.size := by rw [ch.gens]; exact setGen_size _ _ _
  refine hQ _ T gr ⟨?_, hit, hz, gs, setGen_at (by omega), fun s3 h3 h4 => ?_⟩
  · obtain ⟨o, nm, qn, ho, hr⟩ := hg
    exact ⟨o, nm, qn, ch.keep a o na ho, hr⟩
  · obtain ⟨m, hm⟩ : ∃ m, its.size - i = m + 1 := ⟨its.size - i - 1, by omega⟩
    have em : its.size - (i + 1) = m := by omega
    have k3 := kap s3 h3 h4
    rw [hm] at k3
    rw [em]
    exact k3
theorem Gen0.done {h0 : Heap} (h : Gen0 P w A.in1 l its a g h0 s) (hh : A.handled = none) (hl : s.heap.NoLimit) (hroom : A.depth < recursionLimit) (hx : its.size = 0) {Q : Value → Shared → Prop}
    (hE : ∀ s2 e, Trn s.heap.objs.size g s s2 → (∃ o, s2.heap.get? e = some o ∧ o.cls = .type "StopIteration") → E (.ref e) s2) : wpAny (model P w) A (Builtin.SmallTypes.nextOf (.ref a)) Q E s := by
  obtain ⟨hg, hsub, _, code, hgs, hgo⟩ := h
  refine nextOf_gen (n := its.size) (gs := .fresh code) (F := fun n z s1 => n = 0 ∧ ChI s.heap.objs.size z s1) (Y := TY l its s.heap.objs.size) hh hl hroom hg hgs ⟨rfl, hgo (s.setGen g .running) hsub⟩ (fun v s1 gs hb hy => ?_) fun s1 hf h2 e hk he => hE _ e (Trn.of (gs := .finished) (x := .finished) hf.2 rfl hk rfl rfl) he
  obtain ⟨j, hj, hv, _⟩ := hy
  have := (Array.getElem?_eq_some_iff.mp hv).1
  omega
theorem GenJ.done (h : GenJ P w A.in1 l its a g it j s) (hh : A.handled = none) (hl : s.heap.NoLimit) (hroom : A.depth < recursionLimit) (hli : s.heap.IsList l its) (ln : l ≠ it) (hx : j = its.size) {Q : Value → Shared → Prop}
    (hE : ∀ s2 e, Trn it g s s2 → (∃ o, s2.heap.get? e = some o ∧ o.cls = .type "StopIteration") → E (.ref e) s2) : wpAny (model P w) A (Builtin.SmallTypes.nextOf (.ref a)) Q E s := by
  obtain ⟨hg, hit0, hle, gs0, hgs, hgo⟩ := h
  refine nextOf_gen (n := its.size - j) (gs := gs0) (F := fun n z s1 => n = 0 ∧ ChI it z s1) (Y := TY l its it) hh hl hroom hg hgs (hgo (s.setGen g .running) hit0 hli) (fun v s1 gs hb hy => ?_) fun s1 hf h2 e hk he => hE _ e (Trn.of (gs := .finished) (x := .finished) hf.2 rfl hk rfl rfl) he
  obtain ⟨i, hj, hv, ch, gr, hit, kap⟩ := hy
  have e0 : its.size - j = 0 := by omega
  have k2 := kap s1 hit (hli.at fun o e => ch.keep l o ln e)
  rw [e0] at k2
  exact False.elim k2
end
end Gc

/-! zip of two generators -/
namespace Gc
open PySem PySem.Spec PyProof.Rows GenW L2
/-- from s to s2 at most the objects ex and the generators gs changed -/
structure Onl (ex : List Addr) (gs : List Nat) (s s2 : Shared) : Prop where
  os : s2.os = s.os
  bare : AllBare s.gens → AllBare s2.gens
  size : s2.gens.size = s.gens.size
  rest : ∀ k, k ∉ gs → s2.gens[k]? = s.gens[k]?
  keep : ∀ b o, b ∉ ex → s.heap.get? b = some o → s2.heap.get? b = some o
theorem Onl.refl (s : Shared) : Onl [] [] s s := ⟨rfl, fun h => h, rfl, fun _ _ => rfl, fun _ _ _ e => e⟩
theorem Onl.trans {e1 e2 : List Addr} {g1 g2 : List Nat} {s s1 s2 : Shared} (a : Onl e1 g1 s s1) (b : Onl e2 g2 s1 s2) : Onl (e1 ++ e2) (g1 ++ g2) s s2 :=
  ⟨b.os.trans a.os, fun h => b.bare (a.bare h), b.size.trans a.size, fun k hk => (b.rest k fun h => hk (List.mem_append_right _ h)).trans (a.rest k fun h => hk (List.mem_append_left _ h)),
    fun c o hc e => b.keep c o (fun h => hc (List.mem_append_right _ h)) (a.keep c o (fun h => hc (List.mem_append_left _ h)) e)⟩
theorem Onl.mono {e1 e2 : List Addr} {g1 g2 : List Nat} {s s1 : Shared} (a : Onl e1 g1 s s1) (he : ∀ b ∈ e1, b ∈ e2) (hg : ∀ k ∈ g1, k ∈ g2) : Onl e2 g2 s s1 :=
  ⟨a.os, a.bare, a.size, fun k hk => a.rest k fun h => hk (hg k h), fun c o hc e => a.keep c o (fun h => hc (he c h)) e⟩
theorem Onl.heap {c : Addr} {s : Shared} {h : Heap} {tk : Nat} (sb : ∀ b o, b ≠ c → s.heap.get? b = some o → h.get? b = some o) : Onl [c] [] s { s with heap := h, toks := tk } :=
  ⟨rfl, fun h => h, rfl, fun _ _ => rfl, fun b o hb e => sb b o (fun h => hb (h ▸ List.mem_cons_self)) e⟩
theorem Trn.onl {it : Addr} {g : Nat} {s s2 : Shared} (t : Trn it g s s2) : Onl [it] [g] s s2 :=
  ⟨t.os, t.bare, t.size, fun k hk => t.rest k fun h => hk (h ▸ List.mem_cons_self), fun b o hb e => t.keep b o (fun h => hb (h ▸ List.mem_cons_self)) e⟩
section
variable {P : Program} {w : World} {A : Around} {E : Value → Shared → Prop} {s : Shared}
abbrev zipG1 (h : Heap) (a1 a2 : Addr) : Heap := h.push { cls := .type "tuple", data := .seq #[.ref a1, .ref a2] }
abbrev zipG2 (h : Heap) (a1 a2 : Addr) : Heap := (zipG1 h a1 a2).push { cls := .type "tuple", data := .seq #[.none, .none] }
abbrev zipG3 (h : Heap) (a1 a2 : Addr) : Heap := (zipG2 h a1 a2).push { cls := .type "zip", data := .fields #[.none, .bool false, .bool false, .ref h.objs.size, .ref (zipG1 h a1 a2).objs.size] }
theorem meets_zipG_new (a1 a2 : Addr) (g1 g2 : Nat) : Meets (Builtin.«zip.__new__» ⟨[.type "zip", .ref a1, .ref a2], []⟩) (fun _ R s => s.heap.IsGen a1 g1 ∧ s.heap.IsGen a2 g2 ∧
      R (.ok (.ret (.ref (zipG2 s.heap a1 a2).objs.size))) { s with heap := zipG3 s.heap a1 a2 }) :=
  .of_wp fun prog w A R s h => by
    obtain ⟨hp, g, d, tk, os⟩ := s; obtain ⟨hl1, hl2, h⟩ := h
    have hsub := sub_zip
    have hL1 : Heap.IsGen (Shared.heap ⟨hp, g, d, tk, os⟩) a1 g1 := hl1
    have hL2 : Heap.IsGen (Shared.heap ⟨hp, g, d, tk, os⟩) a2 g2 := hl2
    wp_walk using wpAny_pyIter_gen hL1, wpAny_pyIter_gen hL2
    exact ⟨_, rfl, h⟩
theorem call_zipG {a1 a2 : Addr} {g1 g2 : Nat} {Q : Value → Shared → Prop} (h1 : s.heap.IsGen a1 g1) (h2 : s.heap.IsGen a2 g2)
    (h : ∀ h', IsZip h' (s.heap.objs.size + 2) s.heap.objs.size (s.heap.objs.size + 1) .none → IsPair h' s.heap.objs.size (.ref a1) (.ref a2) → IsPair h' (s.heap.objs.size + 1) .none .none → h'.objs.size = s.heap.objs.size + 3 →
      (∀ c o, s.heap.get? c = some o → h'.get? c = some o) → Q (.ref (s.heap.objs.size + 2)) { s with heap := h' }) : wpAny (model P w) A (call (.type "zip") [.ref a1, .ref a2]) Q E s := by
  refine callType_new F.called_zip (by decide) (F.typeCall_zip_2 _ _) (F.newCall_zip_2 _ _) (fun obj => F.args_object_init_3 obj _ _) F.entry_zip_new (meets_zipG_new a1 a2 g1 g2) ⟨h1, h2, ?_⟩
  have z1 : (zipG1 s.heap a1 a2).objs.size = s.heap.objs.size + 1 := Heap.size_push ..
  have z2 : (zipG2 s.heap a1 a2).objs.size = s.heap.objs.size + 2 := by rw [Heap.size_push, z1]
  have z3 : (zipG3 s.heap a1 a2).objs.size = s.heap.objs.size + 3 := by rw [Heap.size_push, z2]
  have p3 : (zipG3 s.heap a1 a2).get? (zipG2 s.heap a1 a2).objs.size = some _ := Heap.get?_push_size _ rfl
  have p2 : (zipG3 s.heap a1 a2).get? (zipG1 s.heap a1 a2).objs.size = some _ := Heap.get?_push_of_some _ (Heap.get?_push_size _ rfl)
  have p1 : (zipG3 s.heap a1 a2).get? s.heap.objs.size = some _ := Heap.get?_push_of_some _ (Heap.get?_push_of_some _ (Heap.get?_push_size _ rfl))
  show _ ∧ _
  rw [z1, z2] at p3
  rw [z1] at p2
  rw [z2]
  exact ⟨⟨_, p3, rfl⟩, h _ p3 p1 p2 z3 fun c o e => Heap.get?_push_of_some _ (Heap.get?_push_of_some _ (Heap.get?_push_of_some _ e))⟩
end
end Gc

/-! the turns of zip over two generators -/
namespace Gc
open PySem PySem.Spec PyProof.Rows GenW L2
section
variable {P : Program} {w : World} {A : Around} {E : Value → Shared → Prop} {s : Shared}
/-- what follows of a turn: x comes, under T -/
def Gives (P : Program) (w : World) (A : Around) (i : Addr) (x : Value) (g : Nat) (off : List Addr) (T : Addr → Shared → Prop) (s : Shared) : Prop :=
  ∀ (Q : Value → Shared → Prop) (E : Value → Shared → Prop), (∀ (it : Addr) (s2 : Shared), it ∉ off → T it s2 → Onl [it] [g] s s2 → s.heap.objs.size ≤ s2.heap.objs.size → Q x s2) → wpAny (model P w) A (Builtin.SmallTypes.nextOf (.ref i)) Q E s
theorem zipN_item {z TI TO i1 i2 : Addr} {g1 g2 : Nat} {x y a b : Value} {Q : Value → Shared → Prop} {T1 : Addr → Shared → Prop} {T2 : Addr → Addr → Shared → Prop} (TIz : TI ≠ z) (TOz : TO ≠ z) (TIO : TI ≠ TO)
    (hz : IsZip s.heap z TI TO .none) (hTI : IsPair s.heap TI (.ref i1) (.ref i2)) (hTO : IsPair s.heap TO a b)
    (n1 : ∀ s1, Onl [z] [] s s1 → s1.heap.objs.size = s.heap.objs.size → Gives P w A i1 x g1 [z, TI, TO] T1 s1)
    (n2 : ∀ it1 s2 s3, it1 ∉ [z, TI, TO] → T1 it1 s2 → Onl [z, it1] [g1] s s2 → s.heap.objs.size ≤ s2.heap.objs.size → Onl [TO] [] s2 s3 → s3.heap.objs.size = s2.heap.objs.size → Gives P w A i2 y g2 [z, TI, TO] (T2 it1) s3)
    (hQ : ∀ it1 it2 s4 s5 T, it1 ∉ [z, TI, TO] → it2 ∉ [z, TI, TO] → T2 it1 it2 s4 → Onl [z, TO] [] s4 s5 → Onl [z, TO, it1, it2] [g1, g2] s s5 → s.heap.objs.size ≤ T → T ≠ z → T ≠ TO → (∀ o, s4.heap.get? T ≠ some o) → IsZip s5.heap z TI TO (rawInt T) → IsPair s5.heap TO x y → IsPair s5.heap T x y → Q (.ref T) s5) :
    wpAny (model P w) A (Builtin.«zip.__next__» ⟨[.ref z], []⟩) (fun fin s' => ∃ v, fin = .done (.ret v) ∧ Q v s') E s := by
  show wpAny _ _ (field (.ref z) 2 >>= _) _ _ _
  refine wpAny_bind (wpAny_field hz rfl (x := .bool false) rfl ?_)
  show wpAny _ _ (field (.ref z) 3 >>= _) _ _ _
  refine wpAny_bind (wpAny_field hz rfl (x := .ref TI) rfl ?_)
  refine wpAny_bind (wpAny_seqItems hTI rfl ?_)
  show wpAny _ _ (Builtin.SmallTypes.ownedTupleIsFree (.ref z) >>= _) _ _ _
  refine wpAny_bind ?_
  unfold Builtin.SmallTypes.ownedTupleIsFree
  refine wpAny_bind (wpAny_field hz rfl (x := .none) rfl (wpAny_pure ?_))
  simp only [if_true]
  refine wpAny_bind (wpAny_rule ?_)
  refine wpAny_bind (wpAny_field hz rfl (x := .ref TO) rfl ?_)
  refine wpAny_bind (wpAny_setField_rec hz (by simp) fun h₁ hz₁ hs₁ => ?_)
  replace hz₁ : IsZip h₁ z TI TO .ellipsis := hz₁
  refine wpAny_bind ?_
  simp only [List.zipIdx_cons, List.zipIdx_nil, List.forIn_cons, List.forIn_nil]
  have o1 : Onl [z] [] s { s with heap := h₁ } := Onl.heap (tk := s.toks) fun b o hb e => hs₁.extBut b o hb e
  refine wpAny_bind (wpAny_bind (wpAny_onRaise ?_))
  show wpAny _ _ (Builtin.SmallTypes.nextOf (.ref i1) >>= _) _ _ _
  refine wpAny_bind (n1 _ o1 hs₁.1 _ _ fun it1 s2 d1 t1 o2 sz2 => wpAny_pure ?_)
  have o12 : Onl [z, it1] [g1] s s2 := o1.trans o2
  have d1z : z ≠ it1 := fun e => d1 (e ▸ List.mem_cons_self)
  have d1I : TI ≠ it1 := fun e => d1 (e ▸ List.mem_cons_of_mem _ List.mem_cons_self)
  have d1O : TO ≠ it1 := fun e => d1 (e ▸ List.mem_cons_of_mem _ (List.mem_cons_of_mem _ List.mem_cons_self))
  have hTO2 : IsPair s2.heap TO a b := o12.keep _ _ (by simp [TOz, d1O]) hTO
  refine wpAny_bind (wpAny_seqItems hTO2 rfl ?_)
  refine wpAny_bind (wpAny_updateSeq_pair hTO2 fun h₃ hTO₃ hs₃ => ?_)
  replace hTO₃ : IsPair h₃ TO x b := hTO₃
  refine wpAny_bind (wpAny_letGo (wpAny_pure ?_))
  have o3 : Onl [TO] [] s2 { s2 with heap := h₃ } := Onl.heap (tk := s2.toks) fun b o hb e => hs₃.extBut b o hb e
  have szs : s.heap.objs.size ≤ s2.heap.objs.size := by
    have e : h₁.objs.size = s.heap.objs.size := hs₁.1
    have sz2 : h₁.objs.size ≤ s2.heap.objs.size := sz2
    omega
  refine wpAny_bind (wpAny_bind (wpAny_onRaise ?_))
  show wpAny _ _ (Builtin.SmallTypes.nextOf (.ref i2) >>= _) _ _ _
  refine wpAny_bind (n2 it1 s2 _ d1 t1 o12 szs o3 hs₃.1 _ _ fun it2 s4 d2 t2 o4 sz4 => wpAny_pure ?_)
  have d2z : z ≠ it2 := fun e => d2 (e ▸ List.mem_cons_self)
  have d2I : TI ≠ it2 := fun e => d2 (e ▸ List.mem_cons_of_mem _ List.mem_cons_self)
  have d2O : TO ≠ it2 := fun e => d2 (e ▸ List.mem_cons_of_mem _ (List.mem_cons_of_mem _ List.mem_cons_self))
  have hTO4 : IsPair s4.heap TO x b := o4.keep _ _ (by simp [d2O]) hTO₃
  refine wpAny_bind (wpAny_seqItems hTO4 rfl ?_)
  refine wpAny_bind (wpAny_updateSeq_pair hTO4 fun h₅ hTO₅ hs₅ => ?_)
  replace hTO₅ : IsPair h₅ TO x y := hTO₅
  refine wpAny_bind (wpAny_letGo (wpAny_pure (wpAny_pure ?_)))
  refine wpAny_bind (wpAny_seqItems hTO₅ rfl ?_)
  refine wpAny_bind (wpAny_newTuple ?_)
  have hz4 : IsZip s4.heap z TI TO .ellipsis := o4.keep _ _ (by simp [d2z]) (o3.keep _ _ (by simp [TOz.symm]) (o2.keep _ _ (by simp [d1z]) hz₁))
  have hz₅ : IsZip h₅ z TI TO .ellipsis := hs₅.extBut _ _ TOz.symm hz4
  have s5e : h₅.objs.size = s4.heap.objs.size := hs₅.1
  have hzlt : z < h₅.objs.size := Heap.lt_size hz₅
  have hTOlt : TO < h₅.objs.size := Heap.lt_size hTO₅
  show wpAny _ _ (Builtin.SmallTypes.ownedTupleHandOut (.ref z) (.ref h₅.objs.size) >>= _) _ _ _
  refine wpAny_bind ?_
  unfold Builtin.SmallTypes.ownedTupleHandOut
  have hz₆ : IsZip (h₅.push { cls := .type "tuple", data := .seq #[x, y] }) z TI TO .ellipsis := Heap.get?_push_of_some _ hz₅
  refine wpAny_bind (wpAny_setField_rec hz₆ (by simp) fun h₇ hz₇ hs₇ => ?_)
  replace hz₇ : IsZip h₇ z TI TO (rawInt h₅.objs.size) := hz₇
  refine wpAny_setField_rec hz₇ (by simp) fun h₈ hz₈ hs₈ => ?_
  replace hz₈ : IsZip h₈ z TI TO (rawInt h₅.objs.size) := hz₈
  have up : ∀ c o, c ≠ z → h₅.get? c = some o → h₈.get? c = some o := fun c o c1 e => hs₈.extBut _ _ c1 (hs₇.extBut _ _ c1 (Heap.get?_push_of_some _ e))
  have hT₈ : IsPair h₈ h₅.objs.size x y := hs₈.extBut _ _ (Nat.ne_of_gt hzlt) (hs₇.extBut _ _ (Nat.ne_of_gt hzlt) (Heap.get?_push_size _ rfl))
  have o45 : Onl [z, TO] [] s4 { s4 with heap := h₈ } := ⟨rfl, fun h => h, rfl, fun _ _ => rfl, fun c o hc e => up c o (fun h => hc (h ▸ List.mem_cons_self)) (hs₅.extBut c o (fun h => hc (h ▸ List.mem_cons_of_mem _ List.mem_cons_self)) e)⟩
  have oall : Onl [z, TO, it1, it2] [g1, g2] s { s4 with heap := h₈ } := ((o12.trans (o3.trans o4)).trans o45).mono (fun c hc => by simp at hc ⊢; rcases hc with h | h | h | h | h | h <;> simp [h]) fun k hk => by simpa using hk
  have szl : s.heap.objs.size ≤ h₅.objs.size := by
    have e3 : h₃.objs.size = s2.heap.objs.size := hs₃.1
    have sz4 : h₃.objs.size ≤ s4.heap.objs.size := sz4
    omega
  refine wpAny_pure ⟨_, rfl, ?_⟩
  exact hQ it1 it2 s4 _ h₅.objs.size d1 d2 t2 o45 oall szl (Nat.ne_of_gt hzlt) (Nat.ne_of_gt hTOlt) (fun o e => absurd (Heap.lt_size e) (by rw [s5e]; exact Nat.lt_irrefl _)) hz₈ (up _ _ TOz hTO₅) hT₈
theorem pyNext_zipN_item {z TI TO i1 i2 : Addr} {g1 g2 : Nat} {x y a b : Value} {Q : Option Value → Shared → Prop} {T1 : Addr → Shared → Prop} {T2 : Addr → Addr → Shared → Prop} (TIz : TI ≠ z) (TOz : TO ≠ z) (TIO : TI ≠ TO)
    (hz : IsZip s.heap z TI TO .none) (hTI : IsPair s.heap TI (.ref i1) (.ref i2)) (hTO : IsPair s.heap TO a b)
    (n1 : ∀ s1, Onl [z] [] s s1 → s1.heap.objs.size = s.heap.objs.size → Gives P w A.in1 i1 x g1 [z, TI, TO] T1 s1)
    (n2 : ∀ it1 s2 s3, it1 ∉ [z, TI, TO] → T1 it1 s2 → Onl [z, it1] [g1] s s2 → s.heap.objs.size ≤ s2.heap.objs.size → Onl [TO] [] s2 s3 → s3.heap.objs.size = s2.heap.objs.size → Gives P w A.in1 i2 y g2 [z, TI, TO] (T2 it1) s3)
    (hQ : ∀ it1 it2 s4 s5 T, it1 ∉ [z, TI, TO] → it2 ∉ [z, TI, TO] → T2 it1 it2 s4 → Onl [z, TO] [] s4 s5 → Onl [z, TO, it1, it2] [g1, g2] s s5 → s.heap.objs.size ≤ T → T ≠ z → T ≠ TO → (∀ o, s4.heap.get? T ≠ some o) → IsZip s5.heap z TI TO (rawInt T) → IsPair s5.heap TO x y → IsPair s5.heap T x y → Q (some (.ref T)) s5) :
    wpAny (model P w) A (pyNext (.ref z)) Q E s := by
  have hT : s.TypeIs (.ref z) "zip" := ⟨_, hz, rfl⟩
  unfold pyNext
  exact wpAny_bind (wpAny_attempt (wpAny_callSpecial?_slot (name := Str.ofString "__next__") hT F.slot_zip_next
    (wpAny_call_entry F.slot_zip_next hT F.entry_zip_next (zipN_item TIz TOz TIO hz hTI hTO n1 n2 fun it1 it2 s4 s5 T d1 d2 t2 o4 o5 q1 q2 q3 q4 q5 q6 q7 => wpAny_pure (hQ it1 it2 s4 s5 T d1 d2 t2 o4 o5 q1 q2 q3 q4 q5 q6 q7)) (F.args_zip_next_1 _))))
/-- the first has no more -/
theorem pyNext_zipN_end {z TI TO i1 i2 : Addr} {a b : Value} {ex : List Addr} {gs : List Nat} {Q : Option Value → Shared → Prop} (hz : IsZip s.heap z TI TO .none) (hTI : IsPair s.heap TI (.ref i1) (.ref i2)) (hTO : IsPair s.heap TO a b) (zx : z ∉ ex)
    (n1 : ∀ s1, Onl [z] [] s s1 → s1.heap.objs.size = s.heap.objs.size → ∀ (Q : Value → Shared → Prop) (E : Value → Shared → Prop), (∀ s2 e, Onl ex gs s1 s2 → (∃ o, s2.heap.get? e = some o ∧ o.cls = .type "StopIteration") → E (.ref e) s2) → wpAny (model P w) A.in1 (Builtin.SmallTypes.nextOf (.ref i1)) Q E s1)
    (hQ : ∀ s5, Onl (z :: ex) gs s s5 → Q none s5) : wpAny (model P w) A (pyNext (.ref z)) Q E s := by
  have hT : s.TypeIs (.ref z) "zip" := ⟨_, hz, rfl⟩
  have main : wpAny (model P w) A.in1 (Builtin.«zip.__next__» ⟨[.ref z], []⟩) (fun _ _ => False) (fun e s5 => ∃ ea, e = .ref ea ∧ Onl (z :: ex) gs s s5 ∧ ∃ o, s5.heap.get? ea = some o ∧ o.cls = .type "StopIteration") s := by
    show wpAny _ _ (field (.ref z) 2 >>= _) _ _ _
    refine wpAny_bind (wpAny_field hz rfl (x := .bool false) rfl ?_)
    show wpAny _ _ (field (.ref z) 3 >>= _) _ _ _
    refine wpAny_bind (wpAny_field hz rfl (x := .ref TI) rfl ?_)
    refine wpAny_bind (wpAny_seqItems hTI rfl ?_)
    show wpAny _ _ (Builtin.SmallTypes.ownedTupleIsFree (.ref z) >>= _) _ _ _
    refine wpAny_bind ?_
    unfold Builtin.SmallTypes.ownedTupleIsFree
    refine wpAny_bind (wpAny_field hz rfl (x := .none) rfl (wpAny_pure ?_))
    simp only [if_true]
    refine wpAny_bind (wpAny_rule ?_)
    refine wpAny_bind (wpAny_field hz rfl (x := .ref TO) rfl ?_)
    refine wpAny_bind (wpAny_setField_rec hz (by simp) fun h₁ hz₁ hs₁ => ?_)
    replace hz₁ : IsZip h₁ z TI TO .ellipsis := hz₁
    refine wpAny_bind ?_
    simp only [List.zipIdx_cons, List.zipIdx_nil, List.forIn_cons, List.forIn_nil]
    have o1 : Onl [z] [] s { s with heap := h₁ } := Onl.heap (tk := s.toks) fun b o hb e => hs₁.extBut b o hb e
    refine wpAny_bind (wpAny_bind (wpAny_onRaise ?_))
    show wpAny _ _ (Builtin.SmallTypes.nextOf (.ref i1) >>= _) _ _ _
    refine wpAny_bind (n1 _ o1 hs₁.1 _ _ fun s2 e o2 he => ?_)
    obtain ⟨oe, hoe, hce⟩ := he
    have hz2 : IsZip s2.heap z TI TO .ellipsis := o2.keep _ _ zx hz₁
    have ez : e ≠ z := fun h => by
      rw [h, hz2] at hoe
      cases hoe
      simp at hce
    refine wpAny_setField_rec hz2 (by simp) fun h₃ _ hs₃ => ⟨e, rfl, ?_, oe, hs₃.extBut _ _ ez hoe, hce⟩
    have o3 : Onl [z] [] s2 { s2 with heap := h₃ } := Onl.heap (tk := s2.toks) fun b o hb eb => hs₃.extBut b o hb eb
    exact ((o1.trans o2).trans o3).mono (fun c hc => by simp at hc ⊢; rcases hc with h | h | h <;> simp [h]) fun k hk => by simpa using hk
  unfold pyNext
  refine wpAny_bind (wpAny_attempt (wpAny_callSpecial?_slot (name := Str.ofString "__next__") hT F.slot_zip_next
    (wpAny_call_entry F.slot_zip_next hT F.entry_zip_next (wpAny_mono main (fun _ _ h => h.elim) fun e s5 h => ?_) (F.args_zip_next_1 _))))
  obtain ⟨ea, rfl, o5, o, ho, hc⟩ := h
  refine wpAny_bind (wpAny_isInstance (T := "StopIteration") (b := true) ⟨o, ho, hc⟩ isSubtype_stop ?_)
  exact wpAny_pure (hQ s5 o5)
end
end Gc

/-! o.m(): such a generator is made -/
namespace Gc
open PySem PySem.Spec PyProof.Rows GenW L2
/-- what the call leaves -/
structure MkT (P : Program) (w : World) (l : Addr) (its : Array Value) (a : Addr) (s s2 : Shared) : Prop where
  gen : ∀ Ai : Around, Ai.handled = none → Gen0 P w Ai l its a s.gens.size s2.heap s2
  size : s2.gens.size = s.gens.size + 1
  rest : ∀ k, k < s.gens.size → s2.gens[k]? = s.gens[k]?
  os : s2.os = s.os
  bare : AllBare s2.gens
  keep : ∀ b o, s.heap.get? b = some o → s2.heap.get? b = some o
  lo : s.heap.objs.size ≤ a
  hi : a < s2.heap.objs.size
section
variable {P : Program} {w : World} {K : PySem.W.Frag} {mg : Str → Option Value} {base : Heap} {name qual x fld : Str} {st : Stmt} {f : Addr} {fd : FuncData} {N : List Str} {A : Around} {outer : List Env} {s : Shared} {H : Hp} {C o dx l : Addr} {fsl : List (Str × V)} {its : Array Value}
theorem call_trl (F : L2.Fun K name qual st f fd) (S : GScope N [x] (defScope st)) (hx : (defScope st).names.lookup x = some .local) {px pa yp pos : Pos} (hbd : defBody st = [.Expr (.YieldFrom (.Attribute (.Name x px) fld pa) yp) pos]) (b : Binds K fd [x] []) (hr : Room 1 A) (e0 : Env0 P w K mg base A outer s H)
    (c : Cls K C) (na : NoAttr K C fld) (eo : H o = some (.ins C dx fsl)) (el : fsl.lookup fld = some (.ref l)) (hl : s.heap.IsList l its) (hdb : (x == ("__debug__" : Str)) = false := by decide)
    (hi : ∀ (L f : Addr) (cdv : Value), interactive (envOfC qual (defScope st) L f cdv) = false := by intro _ _ _; rfl)
    (hb : ∀ (scope : Scope) (L f : Addr) (cdv : Value), attributeBase (.Name x px) fld (envOfC qual scope L f cdv) (eval (.Name x px) (envOfC qual scope L f cdv)) = eval (.Name x px) (envOfC qual scope L f cdv) := by intro _ _ _ _; rfl) :
    codeAny (model P w) A (.call (.ref f) ⟨[.ref o], []⟩) (fun r s2 => match r with | .ok (.ret u) => ∃ a, u = .ref a ∧ MkT P w l its a s s2 | _ => False) s := by
  obtain ⟨oc, od, kV, doc, pm, an, cdv, ct, osl, rfl, lk, hcd⟩ := F.ex
  have KX : K.In s.heap := e0.mod.kin.keeps fun b o e => (e0.bs b o e).1
  have lim : s.heap.NoLimit := e0.mod.nolimit.keeps fun b o e => (e0.bs b o e).1
  have hkind : ∀ y ∈ [x].zip [Value.ref o], (defScope st).names.lookup y.1 = some .local ∨ ((defScope st).names.lookup y.1 = some .cell ∧ ((cellsFrom (s.heap.objs.size + 1) (defScope st).names []).lookup y.1).isSome = true) := fun y hy => by
    have e : y = (x, Value.ref o) := List.mem_singleton.mp hy
    rw [e]
    exact .inl hx
  refine codeAny_call_generator hr.depth (KX _ _ lk) rfl S.co S.gen rfl (PySem.W.codeRec_of KX hcd) (b s [.ref o] KX rfl _ _ _ _ ?_)
  refine wpAny_newFunctionEnv_cells S.kind hkind fun env he s1 y => ?_
  subst he
  have lim1 : s1.heap.NoLimit := lim.keeps y.toInCall.keep
  refine ⟨lim1, ?_⟩
  obtain ⟨h1, tk, es1, hk1⟩ := y.done
  have os1 : s1.os = s.os := by rw [es1]
  have gen1 : s1.gens = s.gens := by rw [es1]
  have lt1 : s.heap.objs.size < s1.heap.objs.size := y.toInCall.ns.lt
  have kp1 : ∀ b o, s.heap.get? b = some o → s1.heap.get? b = some o := y.toInCall.keep
  have hns := y.toInCall.ns
  have main : ∀ (go : Obj) (nm qn : Value) (tk2 : Nat), go.cls = .type "generator" → go.data = .fields #[.int s1.gens.size 0, nm, qn] → go.slots = #[] → (∀ h : Heap, (h.push go).get? h.objs.size = some go) →
      ∃ a, (Value.ref s1.heap.objs.size) = .ref a ∧ MkT P w l its a s { s1 with gens := s1.gens.push (.fresh (.func (defBody st) (envOfC qual (defScope st) s.heap.objs.size f cdv))), toks := tk2, heap := s1.heap.push go } := by
    intro go nm qn tk2 hgc hgd0 hgs hgp
    have kp2 : ∀ b o, s.heap.get? b = some o → (s1.heap.push go).get? b = some o := fun b o e => Heap.get?_push_of_some _ (kp1 b o e)
    refine ⟨_, rfl, fun Ai hA => ⟨⟨go, nm, qn, hgp _, hgc, by rw [hgd0, gen1], hgs⟩, fun b o e => e, ⟨go, nm, qn, hgp _, hgc, by rw [hgd0, gen1], hgs⟩, _, by rw [← gen1]; exact Array.getElem?_push_size .., fun s2 hk2 => ?_⟩, by show (s1.gens.push _).size = _; rw [Array.size_push, gen1], fun k hk => ?_, os1, AllBare.push (by rw [gen1]; exact e0.bare) rfl, kp2, Nat.le_of_lt lt1, ?_⟩
    · rw [hbd]
      have kp3 : ∀ b o, s.heap.get? b = some o → s2.heap.get? b = some o := fun b o e => hk2 b o (kp2 b o e)
      refine seg_trl hA S.kind hx (KX.keeps kp3) (e0.hok.kept kp3) c na eo el (hl.at fun o e => kp3 _ o e) (hns.keeps fun b o e => hk2 b o (Heap.get?_push_of_some _ e)) ?_ hdb (hi _ _ _) (hb _ _ _ _)
      exact bindL_get (by simp) (show [x][0]? = some x from rfl) (show [Value.ref o][0]? = some (.ref o) from rfl) hx
    · show (s1.gens.push _)[k]? = _
      rw [gen1, Array.getElem?_push_lt hk, Array.getElem?_eq_getElem hk]
    · show _ < (s1.heap.push go).objs.size
      rw [Heap.size_push]
      exact Nat.lt_succ_self _
  exact main _ _ _ _ rfl rfl rfl fun h => Heap.get?_push_size _ rfl
end
end Gc

/-! [[y1, y2] for y1, y2 in zip(o.m(), o.m())] -/
namespace Gc
open PySem PySem.Spec PyProof.Rows GenW L2
theorem Inv.onl {X : Cx} {pins : List (Addr × Obj)} {σ : L2.St} {H : Hp} {s s2 : Shared} {ex : List Addr} {gs : List Nat} (I : L2.Inv X pins σ H s) (o : Onl ex gs s s2) (hf : ∀ b ∈ ex, FpOk X pins H b) : L2.Inv X pins σ H s2 := by
  have tz : ∀ b u, H b = some u → b ∉ ex := fun b u e hb => by
    rw [(hf b hb).1] at e
    cases e
  refine I.call' (ch := ex) o.os ⟨fun b ob q _ _ hx => o.keep b ob hx q, fun b ob q _ _ hx => ⟨ob.slots, o.keep b ob hx q⟩, fun _ _ _ n _ => n, fun b ob q hx => ⟨ob, o.keep b ob hx q⟩, fun _ _ e => e, fun _ _ _ e => e, fun b ps e => ⟨#[], by rw [e, Array.append_empty]⟩⟩ (fun b u e => ?_) (o.bare I.bare)
    fun b hb => ⟨(hf b hb).2.2.2.1, (hf b hb).2.1, (hf b hb).2.2.2.2.1, (hf b hb).2.2.2.2.2⟩
  refine (I.hok b u e).stay (fun c v hc y => o.keep c v ?_ y) (fun _ y => y) fun _ _ y => y
  rcases hc with y | y
  · exact y ▸ tz b u e
  · exact tz c _ y
theorem MkT.inv {X : Cx} {pins : List (Addr × Obj)} {σ : L2.St} {H : Hp} {s s2 : Shared} {P : Program} {w : World} {l a : Addr} {its : Array Value} (I : L2.Inv X pins σ H s) (m : MkT P w l its a s s2) : L2.Inv X pins σ H s2 :=
  I.call' (ch := []) m.os (Un.kept m.keep) (I.hok.kept m.keep) m.bare fun b hb => by cases hb
/-- o.m() makes such a generator: the method's def, its own list under fld -/
structure TMth (P : Program) (w : World) (K : PySem.W.Frag) (mg : Str → Option Value) (base : Heap) (C : Addr) (m fld : Str) : Prop where
  cls : Cls K C
  na : NoAttr K C fld
  ex : ∃ f : Addr, Meth K C m f ∧ ∀ (A : Around) (outer : List Env) (s : Shared) (H : Hp) (o dx l : Addr) (fsl : List (Str × V)) (its : Array Value), Room 1 A → Env0 P w K mg base A outer s H → H o = some (.ins C dx fsl) → fsl.lookup fld = some (.ref l) → s.heap.IsList l its →
    codeAny (model P w) A (.call (.ref f) ⟨[.ref o], []⟩) (fun r s2 => match r with | .ok (.ret u) => ∃ a, u = .ref a ∧ MkT P w l its a s s2 | _ => False) s
section
variable {X : Cx} {pins : List (Addr × Obj)} {σ : L2.St} {H : Hp} {s : Shared}
theorem var_exact {E : Value → Shared → Prop} {Q : Value → Shared → Prop} {i : Nat} {x : Str} {pos : Pos} {a : Addr} (I : L2.Inv X pins σ H s) (hN : X.N[i]? = some x) (hv : Vis X.env.scope x) (hs : σ[i]? = some (some (.ref a))) (h : Q (.ref a) s)
    (hd : (x == ("__debug__" : Str)) = false := by decide) (hcd : (x == ("__classdict__" : Str)) = false := by decide) : wpAny (model X.prog X.w) X.A (eval (.Name x pos) X.env) Q E s := by
  obtain ⟨m, hn, hl⟩ := I.loc
  obtain ⟨u, r, l⟩ := hl i x _ hN hs hv
  have eu : u = .ref a := r
  subst eu
  rcases l with ⟨hk, hm⟩ | ⟨hk, c, hc, hcell⟩
  · exact wpAny_Name (wpAny_loadName_local I.ok.kind hk hn hm h) hd
  · rcases hk with hk | hk
    · exact wpAny_Name (wpAny_loadName_cell I.ok.kind hk hc hcell h) hd
    · exact wpAny_Name (wpAny_loadName_free I.ok.kind hk hc hcell h hcd) hd
theorem trl_exact {E : Value → Shared → Prop} {Q : Value → Shared → Prop} {i : Nat} {x m fld : Str} {p apos pos : Pos} {C oa dx l : Addr} {fsl : List (Str × V)} {its : Array Value} {pl : Sem Bool} (c : TMth X.prog X.w X.K X.mg X.base C m fld) (hr : Room 1 X.A) (I : L2.Inv X pins σ H s) (hN : X.N[i]? = some x) (hv : Vis X.env.scope x) (hs : σ[i]? = some (some (.ref oa)))
    (eo : H oa = some (.ins C dx fsl)) (nm : fsl.lookup m = none) (el : fsl.lookup fld = some (.ref l)) (hl : s.heap.IsList l its) (h : ∀ a s2, MkT X.prog X.w l its a s s2 → Q (.ref a) s2)
    (ht : eval (.Call (.Attribute (.Name x p) m apos) [] [] pos) X.env = (do
      let ov ← eval (.Name x p) X.env
      standAt apos.atName
      let (f, first) ← holding [ov] (getMethod ov m pl)
      callWith pos f first (backTo pos (starEach [] X.env)) (backToKw pos (keywordEach [] X.env))) := by rfl)
    (hd : (x == ("__debug__" : Str)) = false := by decide) (hcd : (x == ("__classdict__" : Str)) = false := by decide) : wpAny (model X.prog X.w) X.A (eval (.Call (.Attribute (.Name x p) m apos) [] [] pos) X.env) Q E s := by
  obtain ⟨cl, na, f, hm, F⟩ := c
  refine PySem.W.methodCall_KW (pl := pl) (var_exact I hN hv hs ?_ hd hcd) ht
  refine getmeth_ok I eo cl hm nm ?_
  refine PySem.W.callWith_K0 (first := [.ref oa]) I.kIn hm.kp (wpAny_call (codeAny_mono (F X.A X.stack s H oa dx l fsl its hr I.env0 eo el hl) fun r s2 hq => ?_))
  cases r with
  | error e => exact False.elim hq
  | ok fl =>
    cases fl with
    | ret u =>
      obtain ⟨a, rfl, mk⟩ := hq
      exact h a s2 mk
    | next => exact False.elim hq
    | brk => exact False.elim hq
    | cont => exact False.elim hq
end
/-- each item twice, in a new list -/
def Twice (H : Hp) (v x : V) : Prop := ∃ p, v = .ref p ∧ H p = some (.lst [x, x])
def tLcZ (C : Addr) (m fld : Str) (i : Nat) : TE := fun σ H Q => ∃ (oa dx l : Addr) (fsl : List (Str × V)) (xs : List V), σ[i]? = some (some (.ref oa)) ∧ H oa = some (.ins C dx fsl) ∧ fsl.lookup m = none ∧ fsl.lookup fld = some (.ref l) ∧ H l = some (.lst xs) ∧
  ∀ (H' : Hp) (D : Addr) (Ls : List V), (∀ b o, H b = some o → H' b = some o) → H D = none → H' D = some (.lst Ls) → Paired (Twice H') Ls xs → Q (.ref D) H'
theorem gen_ne_iter {h : Heap} {a it l : Addr} {g j : Nat} (x : h.IsGen a g) (y : h.IsListIter it l j) : a ≠ it := by
  rintro rfl
  obtain ⟨o, nm, qn, ho, hc, _⟩ := x
  obtain ⟨o', ho', hc', _⟩ := y
  rw [ho] at ho'
  cases ho'
  rw [hc] at hc'
  injection hc' with e
  exact absurd e (by decide)
theorem ns_ne_iter {h : Heap} {C it l : Addr} {j : Nat} {m : Str → Option Value} (x : h.Ns C m) (y : h.IsListIter it l j) : C ≠ it := by
  rintro rfl
  obtain ⟨o, es, ep, ho, hd, _⟩ := x
  obtain ⟨o', ho', hc', hd'⟩ := y
  rw [ho] at ho'
  cases ho'
  rw [hd] at hd'
  cases hd'
theorem pair_ne_iter {h : Heap} {T it l : Addr} {j : Nat} {a b : Value} (x : IsPair h T a b) (y : h.IsListIter it l j) : T ≠ it := by
  rintro rfl
  obtain ⟨o', ho', hc', _⟩ := y
  rw [x] at ho'
  cases ho'
  injection hc' with e
  exact absurd e (by decide)
/-- where the two generators of a zip stand -/
def ZS (X : Cx) (pins : List (Addr × Obj)) (l : Addr) (its : Array Value) (off : List Addr) (a1 a2 : Addr) (g1 g2 : Nat) (h1 h2 : Heap) (i : Nat) (Hi : Hp) (st : Shared) : Prop :=
  (i = 0 ∧ Gen0 X.prog X.w X.A.in1.in1 l its a1 g1 h1 st ∧ Gen0 X.prog X.w X.A.in1.in1 l its a2 g2 h2 st) ∨
  ∃ it1 it2, GenJ X.prog X.w X.A.in1.in1 l its a1 g1 it1 i st ∧ GenJ X.prog X.w X.A.in1.in1 l its a2 g2 it2 i st ∧ it1 ≠ it2 ∧ it1 ∉ off ∧ it2 ∉ off ∧ FpOk X pins Hi it1 ∧ FpOk X pins Hi it2
/-- the consumer's own doings leave it -/
theorem ZS.over {X : Cx} {pins : List (Addr × Obj)} {l : Addr} {its : Array Value} {off : List Addr} {a1 a2 : Addr} {g1 g2 i : Nat} {h1 h2 : Heap} {Hi Hj : Hp} {st s2 : Shared} {ex : List Addr} (z : ZS X pins l its off a1 a2 g1 g2 h1 h2 (i + 1) Hi st) (o : Onl ex [] st s2) (x1 : a1 ∉ ex) (x2 : a2 ∉ ex)
    (xi : ∀ it j, it ∉ off → Hi it = none → st.heap.IsListIter it l j → it ∉ ex ∧ Hj it = none) : ZS X pins l its off a1 a2 g1 g2 h1 h2 (i + 1) Hj s2 := by
  rcases z with ⟨e, _⟩ | ⟨it1, it2, J1, J2, d12, m1, m2, f1, f2⟩
  · exact absurd e (Nat.succ_ne_zero i)
  · obtain ⟨n1, y1⟩ := xi it1 _ m1 f1.1 J1.iter
    obtain ⟨n2, y2⟩ := xi it2 _ m2 f2.1 J2.iter
    exact .inr ⟨it1, it2, J1.over (fun b o' hb e => o.keep b o' (fun hm => by rcases hb with hb | hb <;> rw [hb] at hm <;> contradiction) e) (o.rest g1 (by simp)),
      J2.over (fun b o' hb e => o.keep b o' (fun hm => by rcases hb with hb | hb <;> rw [hb] at hm <;> contradiction) e) (o.rest g2 (by simp)), d12, m1, m2, ⟨y1, f1.2⟩, ⟨y2, f2.2⟩⟩
section
variable {X : Cx} {pins : List (Addr × Obj)} {σ : L2.St} {H Hi : Hp} {s st : Shared} {l z TI TO a1 a2 : Addr} {its : Array Value} {g1 g2 i : Nat} {h1 h2 : Heap}
/-- one turn of the zip -/
theorem zs_item {Q : Option Value → Shared → Prop} {E : Value → Shared → Prop} {x : Value} (hh : X.A.handled = none) (hd : X.A.depth < recursionLimit) (I : L2.Inv X pins σ Hi st) (gne : g1 ≠ g2) (TIz : TI ≠ z) (TOz : TO ≠ z) (TIO : TI ≠ TO) (hz : IsZip st.heap z TI TO .none) (hTI : IsPair st.heap TI (.ref a1) (.ref a2)) {u v : Value} (hTO : IsPair st.heap TO u v)
    (fz : ∀ b ∈ [z, TI, TO], FpOk X pins Hi b) (k1 : ∀ b o, h1.get? b = some o → b ∉ [z, TI, TO]) (k2 : ∀ b o, h2.get? b = some o → b ∉ [z, TI, TO]) (hl : st.heap.IsList l its) (tl : Hi l ≠ none) (a1z : a1 ∉ [z, TI, TO]) (a2z : a2 ∉ [z, TI, TO])
    (h : ZS X pins l its [z, TI, TO] a1 a2 g1 g2 h1 h2 i Hi st) (hx : its[i]? = some x)
    (hQ : ∀ ex s5 T, Onl ex [g1, g2] st s5 → (∀ b ∈ ex, FpOk X pins Hi b ∧ (b = z ∨ b = TO ∨ st.heap.objs.size ≤ b ∨ ∃ j, st.heap.IsListIter b l j)) → ZS X pins l its [z, TI, TO] a1 a2 g1 g2 h1 h2 (i + 1) Hi s5 → st.heap.objs.size ≤ T → T ≠ z → T ≠ TO → IsZip s5.heap z TI TO (rawInt T) → IsPair s5.heap TO x x → IsPair s5.heap T x x → Q (some (.ref T)) s5) :
    wpAny (model X.prog X.w) X.A (pyNext (.ref z)) Q E st := by
  have fzz : FpOk X pins Hi z := fz z List.mem_cons_self
  have fTO : FpOk X pins Hi TO := fz TO (List.mem_cons_of_mem _ (List.mem_cons_of_mem _ List.mem_cons_self))
  have offz : ∀ b, b ∈ [z, TI, TO] → b < st.heap.objs.size := fun b hb => by
    rcases List.mem_cons.mp hb with e | hb
    · rw [e]; exact Heap.lt_size hz
    · rcases List.mem_cons.mp hb with e | hb
      · rw [e]; exact Heap.lt_size hTI
      · rw [List.mem_singleton.mp hb]; exact Heap.lt_size hTO
  have lst : ∀ {ex : List Addr} {gs : List Nat} {s2 : Shared}, Onl ex gs st s2 → (∀ b ∈ ex, Hi b = none) → s2.heap.IsList l its := fun {ex gs s2} o hb => hl.at fun ob e => o.keep l ob (fun hm => tl (hb l hm)) e
  rcases h with ⟨rfl, G1, G2⟩ | ⟨it1, it2, J1, J2, d12, m1, m2, f1, f2⟩
  · refine pyNext_zipN_item (x := x) (y := x) (g1 := g1) (g2 := g2) (T1 := fun it s2 => it < s2.heap.objs.size ∧ st.heap.objs.size ≤ it ∧ GenJ X.prog X.w X.A.in1.in1 l its a1 g1 it 1 s2) (T2 := fun it it' s4 => it ≠ it' ∧ st.heap.objs.size ≤ it ∧ st.heap.objs.size ≤ it' ∧ GenJ X.prog X.w X.A.in1.in1 l its a1 g1 it 1 s4 ∧ GenJ X.prog X.w X.A.in1.in1 l its a2 g2 it' 1 s4) TIz TOz TIO hz hTI hTO
      (fun s1 o1 z1 Q2 E2 k => ?_) (fun it s2 s3 dn t1 o2 sz2 o3 sz3 Q2 E2 k => ?_) fun it it' s4 s5 T dn dn' t2 o4 o5 q1 q2 q3 q4 q5 q6 q7 => ?_
    · have I1 := Inv.onl I o1 (fun b hb => by rw [List.mem_singleton.mp hb]; exact fzz)
      refine (G1.over (fun b o e => o1.keep b o (fun hb => k1 b o e (by rw [List.mem_singleton.mp hb]; exact List.mem_cons_self)) (G1.sub b o e)) (o1.rest g1 (by simp))).item hh I1.nolimit hd hx fun s2 t sz G => ?_
      exact k s1.heap.objs.size s2 (fun hb => absurd (offz _ hb) (by rw [z1]; exact Nat.lt_irrefl _)) ⟨sz, Nat.le_of_eq z1.symm, G⟩ t.onl (Nat.le_of_lt sz)
    · obtain ⟨t11, t12, t13⟩ := t1
      have o13 := o2.trans o3
      have f3 : ∀ b ∈ [z, it] ++ [TO], FpOk X pins Hi b := fun b hb => by
        rcases List.mem_append.mp hb with hb | hb
        · rcases List.mem_cons.mp hb with e | hb
          · rw [e]; exact fzz
          · rw [List.mem_singleton.mp hb]
            exact I.fpOk t12 (I.hok.fresh t12)
        · rw [List.mem_singleton.mp hb]; exact fTO
      have I3 := Inv.onl I o13 f3
      have itTO : it ≠ TO := fun e => dn (e ▸ List.mem_cons_of_mem _ (List.mem_cons_of_mem _ List.mem_cons_self))
      have a1TO : a1 ≠ TO := fun e => a1z (e ▸ List.mem_cons_of_mem _ (List.mem_cons_of_mem _ List.mem_cons_self))
      refine (G2.over (fun b o e => o13.keep b o (fun hb => ?_) (G2.sub b o e)) (o13.rest g2 (by simp [gne.symm]))).item hh I3.nolimit hd hx fun s4 t sz G => ?_
      · rcases List.mem_append.mp hb with hb | hb
        · rcases List.mem_cons.mp hb with hb | hb
          · exact k2 b o e (hb ▸ List.mem_cons_self)
          · have := Heap.lt_size (G2.sub b o e)
            rw [List.mem_singleton.mp hb] at this
            exact absurd (Nat.lt_of_lt_of_le this t12) (Nat.lt_irrefl _)
        · exact k2 b o e (by rw [List.mem_singleton.mp hb]; exact List.mem_cons_of_mem _ (List.mem_cons_of_mem _ List.mem_cons_self))
      · have it3 : it < s3.heap.objs.size := by rw [sz3]; exact t11
        have J3 := t13.over (s2 := s3) (fun b o hb e => o3.keep b o (fun hm => by rcases hb with hb | hb <;> rw [hb] at hm <;> simp [itTO, a1TO] at hm) e) (o3.rest g1 (by simp))
        have J4 := J3.over (s2 := s4) (fun b o hb e => t.keep b o (Nat.ne_of_lt (Heap.lt_size e)) e) (t.rest g1 gne)
        have sz23 : st.heap.objs.size ≤ s3.heap.objs.size := by rw [sz3]; exact sz2
        exact k s3.heap.objs.size s4 (fun hb => absurd (Nat.lt_of_lt_of_le (offz _ hb) sz23) (Nat.lt_irrefl _)) ⟨Nat.ne_of_lt it3, t12, sz23, J4, G⟩ t.onl (Nat.le_of_lt sz)
    · obtain ⟨t1, t2, t3, J1, J2⟩ := t2
      have itz : it ≠ z := fun e => dn (e ▸ List.mem_cons_self)
      have itO : it ≠ TO := fun e => dn (e ▸ List.mem_cons_of_mem _ (List.mem_cons_of_mem _ List.mem_cons_self))
      have it2z : it' ≠ z := fun e => dn' (e ▸ List.mem_cons_self)
      have it2O : it' ≠ TO := fun e => dn' (e ▸ List.mem_cons_of_mem _ (List.mem_cons_of_mem _ List.mem_cons_self))
      have a1z' : a1 ≠ z ∧ a1 ≠ TO := ⟨fun e => a1z (e ▸ List.mem_cons_self), fun e => a1z (e ▸ List.mem_cons_of_mem _ (List.mem_cons_of_mem _ List.mem_cons_self))⟩
      have a2z' : a2 ≠ z ∧ a2 ≠ TO := ⟨fun e => a2z (e ▸ List.mem_cons_self), fun e => a2z (e ▸ List.mem_cons_of_mem _ (List.mem_cons_of_mem _ List.mem_cons_self))⟩
      have J15 := J1.over (s2 := s5) (fun b o hb e => o4.keep b o (fun hm => by rcases hb with hb | hb <;> rw [hb] at hm <;> simp [itz, itO, a1z'.1, a1z'.2] at hm) e) (o4.rest g1 (by simp))
      have J25 := J2.over (s2 := s5) (fun b o hb e => o4.keep b o (fun hm => by rcases hb with hb | hb <;> rw [hb] at hm <;> simp [it2z, it2O, a2z'.1, a2z'.2] at hm) e) (o4.rest g2 (by simp))
      have e1 := I.fpOk t2 (I.hok.fresh t2)
      have e2 := I.fpOk t3 (I.hok.fresh t3)
      refine hQ _ s5 T o5 (fun b hb => ?_) (.inr ⟨it, it', J15, J25, t1, dn, dn', e1, e2⟩) q1 q2 q3 q5 q6 q7
      simp only [List.mem_cons, List.not_mem_nil, or_false] at hb
      rcases hb with rfl | rfl | rfl | rfl
      · exact ⟨fzz, .inl rfl⟩
      · exact ⟨fTO, .inr (.inl rfl)⟩
      · exact ⟨e1, .inr (.inr (.inl t2))⟩
      · exact ⟨e2, .inr (.inr (.inl t3))⟩
  · refine pyNext_zipN_item (x := x) (y := x) (g1 := g1) (g2 := g2) (T1 := fun it s2 => it = it1 ∧ GenJ X.prog X.w X.A.in1.in1 l its a1 g1 it1 (i + 1) s2) (T2 := fun it it' s4 => it = it1 ∧ it' = it2 ∧ GenJ X.prog X.w X.A.in1.in1 l its a1 g1 it1 (i + 1) s4 ∧ GenJ X.prog X.w X.A.in1.in1 l its a2 g2 it2 (i + 1) s4) TIz TOz TIO hz hTI hTO
      (fun s1 o1 z1 Q2 E2 k => ?_) (fun it s2 s3 dn t1 o2 sz2 o3 sz3 Q2 E2 k => ?_) fun it it' s4 s5 T dn dn' t2 o4 o5 q1 q2 q3 q4 q5 q6 q7 => ?_
    · have f1z : ∀ b ∈ [z], FpOk X pins Hi b := fun b hb => by rw [List.mem_singleton.mp hb]; exact fzz
      have I1 := Inv.onl I o1 f1z
      have J1' := J1.over (s2 := s1) (fun b o hb e => o1.keep b o (fun hm => by
        rw [List.mem_singleton.mp hm] at hb
        rcases hb with hb | hb
        · exact a1z (hb ▸ List.mem_cons_self)
        · exact m1 (hb ▸ List.mem_cons_self)) e) (o1.rest g1 (by simp))
      exact J1'.item hh I1.nolimit hd (lst o1 fun b hb => (f1z b hb).1) (gen_ne_iter J1'.gen J1'.iter) hx fun s2 t gr G => k _ s2 m1 ⟨rfl, G⟩ t.onl gr
    · obtain ⟨rfl, G⟩ := t1
      have o13 := o2.trans o3
      have f3 : ∀ b ∈ [z, it] ++ [TO], FpOk X pins Hi b := fun b hb => by
        rcases List.mem_append.mp hb with hb | hb
        · rcases List.mem_cons.mp hb with e | hb
          · rw [e]; exact fzz
          · rw [List.mem_singleton.mp hb]; exact f1
        · rw [List.mem_singleton.mp hb]; exact fTO
      have I3 := Inv.onl I o13 f3
      have itTO : it ≠ TO := fun e => dn (e ▸ List.mem_cons_of_mem _ (List.mem_cons_of_mem _ List.mem_cons_self))
      have a1TO : a1 ≠ TO := fun e => a1z (e ▸ List.mem_cons_of_mem _ (List.mem_cons_of_mem _ List.mem_cons_self))
      have a2i := gen_ne_iter J2.gen J1.iter
      have J2' := J2.over (s2 := s3) (fun b o hb e => o13.keep b o (fun hm => by
        have e1 : b ≠ z := fun e => by
          rcases hb with hb | hb
          · exact a2z (by rw [← hb, e]; exact List.mem_cons_self)
          · exact m2 (by rw [← hb, e]; exact List.mem_cons_self)
        have e2 : b ≠ it := fun e => by
          rcases hb with hb | hb
          · exact a2i (hb.symm.trans e)
          · exact d12 (e.symm.trans hb)
        have e3 : b ≠ TO := fun e => by
          rcases hb with hb | hb
          · exact a2z (by rw [← hb, e]; exact List.mem_cons_of_mem _ (List.mem_cons_of_mem _ List.mem_cons_self))
          · exact m2 (by rw [← hb, e]; exact List.mem_cons_of_mem _ (List.mem_cons_of_mem _ List.mem_cons_self))
        simp [e1, e2, e3] at hm) e) (o13.rest g2 (by simp [gne.symm]))
      have J3 := G.over (s2 := s3) (fun b o hb e => o3.keep b o (fun hm => by rcases hb with hb | hb <;> rw [hb] at hm <;> simp [itTO, a1TO] at hm) e) (o3.rest g1 (by simp))
      refine J2'.item hh I3.nolimit hd (lst o13 fun b hb => (f3 b hb).1) (gen_ne_iter J2'.gen J2'.iter) hx fun s4 t gr G2 => ?_
      have a1i := gen_ne_iter J3.gen J2'.iter
      have J4 := J3.over (s2 := s4) (fun b o hb e => t.keep b o (fun h => by
        rcases hb with hb | hb
        · exact a1i (hb.symm.trans h)
        · exact d12 (hb.symm.trans h)) e) (t.rest g1 gne)
      exact k _ s4 m2 ⟨rfl, rfl, J4, G2⟩ t.onl gr
    · obtain ⟨rfl, rfl, J1', J2'⟩ := t2
      have itz : it ≠ z := fun e => dn (e ▸ List.mem_cons_self)
      have itO : it ≠ TO := fun e => dn (e ▸ List.mem_cons_of_mem _ (List.mem_cons_of_mem _ List.mem_cons_self))
      have it2z : it' ≠ z := fun e => dn' (e ▸ List.mem_cons_self)
      have it2O : it' ≠ TO := fun e => dn' (e ▸ List.mem_cons_of_mem _ (List.mem_cons_of_mem _ List.mem_cons_self))
      have a1z' : a1 ≠ z ∧ a1 ≠ TO := ⟨fun e => a1z (e ▸ List.mem_cons_self), fun e => a1z (e ▸ List.mem_cons_of_mem _ (List.mem_cons_of_mem _ List.mem_cons_self))⟩
      have a2z' : a2 ≠ z ∧ a2 ≠ TO := ⟨fun e => a2z (e ▸ List.mem_cons_self), fun e => a2z (e ▸ List.mem_cons_of_mem _ (List.mem_cons_of_mem _ List.mem_cons_self))⟩
      have J15 := J1'.over (s2 := s5) (fun b o hb e => o4.keep b o (fun hm => by rcases hb with hb | hb <;> rw [hb] at hm <;> simp [itz, itO, a1z'.1, a1z'.2] at hm) e) (o4.rest g1 (by simp))
      have J25 := J2'.over (s2 := s5) (fun b o hb e => o4.keep b o (fun hm => by rcases hb with hb | hb <;> rw [hb] at hm <;> simp [it2z, it2O, a2z'.1, a2z'.2] at hm) e) (o4.rest g2 (by simp))
      refine hQ _ s5 T o5 (fun b hb => ?_) (.inr ⟨it, it', J15, J25, d12, dn, dn', f1, f2⟩) q1 q2 q3 q5 q6 q7
      simp only [List.mem_cons, List.not_mem_nil, or_false] at hb
      rcases hb with rfl | rfl | rfl | rfl
      · exact ⟨fzz, .inl rfl⟩
      · exact ⟨fTO, .inr (.inl rfl)⟩
      · exact ⟨f1, .inr (.inr (.inr ⟨_, J1.iter⟩))⟩
      · exact ⟨f2, .inr (.inr (.inr ⟨_, J2.iter⟩))⟩
/-- its end -/
theorem zs_done {Q : Option Value → Shared → Prop} {E : Value → Shared → Prop} (hh : X.A.handled = none) (hd : X.A.depth < recursionLimit) (I : L2.Inv X pins σ Hi st) (hz : IsZip st.heap z TI TO .none) (hTI : IsPair st.heap TI (.ref a1) (.ref a2)) {u v : Value} (hTO : IsPair st.heap TO u v)
    (fzz : FpOk X pins Hi z) (k1 : ∀ b o, h1.get? b = some o → b ∉ [z, TI, TO]) (hl : st.heap.IsList l its) (tl : Hi l ≠ none) (a1z : a1 ∉ [z, TI, TO])
    (h : ZS X pins l its [z, TI, TO] a1 a2 g1 g2 h1 h2 i Hi st) (hi : i = its.size) (hQ : ∀ ex s5, Onl ex [g1] st s5 → (∀ b ∈ ex, FpOk X pins Hi b ∧ (b = z ∨ st.heap.objs.size ≤ b ∨ ∃ j, st.heap.IsListIter b l j)) → Q none s5) : wpAny (model X.prog X.w) X.A (pyNext (.ref z)) Q E st := by
  have f1z : ∀ b ∈ [z], FpOk X pins Hi b := fun b hb => by rw [List.mem_singleton.mp hb]; exact fzz
  rcases h with ⟨rfl, G1, G2⟩ | ⟨it1, it2, J1, J2, d12, m1, m2, f1, f2⟩
  · refine pyNext_zipN_end (ex := [st.heap.objs.size]) (gs := [g1]) hz hTI hTO (fun hm => by
      have := Heap.lt_size hz
      rw [List.mem_singleton.mp hm] at this
      exact Nat.lt_irrefl _ this) (fun s1 o1 z1 Q2 E2 k => ?_) fun s5 o5 => hQ _ s5 o5 fun b hb => ?_
    · have I1 := Inv.onl I o1 f1z
      refine (G1.over (fun b o e => o1.keep b o (fun hb => k1 b o e (by rw [List.mem_singleton.mp hb]; exact List.mem_cons_self)) (G1.sub b o e)) (o1.rest g1 (by simp))).done hh I1.nolimit hd hi.symm fun s2 e t he => k s2 e ?_ he
      have := t.onl
      rw [z1] at this
      exact this
    · rcases List.mem_cons.mp hb with e | hb
      · rw [e]; exact ⟨fzz, .inl rfl⟩
      · rw [List.mem_singleton.mp hb]
        exact ⟨I.fpOk (Nat.le_refl _) (I.hok.fresh (Nat.le_refl _)), .inr (.inl (Nat.le_refl _))⟩
  · refine pyNext_zipN_end (ex := [it1]) (gs := [g1]) hz hTI hTO (fun hm => m1 (by rw [← List.mem_singleton.mp hm]; exact List.mem_cons_self)) (fun s1 o1 z1 Q2 E2 k => ?_) fun s5 o5 => hQ _ s5 o5 fun b hb => ?_
    · have I1 := Inv.onl I o1 f1z
      have J1' := J1.over (s2 := s1) (fun b o hb e => o1.keep b o (fun hm => by
        rw [List.mem_singleton.mp hm] at hb
        rcases hb with hb | hb
        · exact a1z (hb ▸ List.mem_cons_self)
        · exact m1 (hb ▸ List.mem_cons_self)) e) (o1.rest g1 (by simp))
      have ll : s1.heap.IsList l its := hl.at fun o e => o1.keep l o (fun hm => tl (by rw [List.mem_singleton.mp hm]; exact fzz.1)) e
      exact J1'.done hh I1.nolimit hd ll (fun e => tl (e ▸ f1.1)) hi fun s2 e t he => k s2 e t.onl he
    · rcases List.mem_cons.mp hb with e | hb
      · rw [e]; exact ⟨fzz, .inl rfl⟩
      · rw [List.mem_singleton.mp hb]
        exact ⟨f1, .inr (.inr ⟨_, J1.iter⟩)⟩
end
end Gc

/-! the comprehension over such a zip -/
namespace Gc
open PySem PySem.Spec PyProof.Rows GenW L2
theorem paired_appZ {α β : Type} {R : α → β → Prop} : ∀ {as : List α} {bs : List β} {cs : List α} {ds : List β}, Paired R as bs → Paired R cs ds → Paired R (as ++ cs) (bs ++ ds)
  | _, _, _, _, .nil, q => q
  | _, _, _, _, .cons r t, q => .cons r (paired_appZ t q)
section
variable {X : Cx} {C0 : Addr} {m fld x y1 y2 : Str} {i0 kk : Nat}
theorem lcz_core {p1 p2 q1 q2 lp tp pz px1 ap1 pc1 px2 ap2 pc2 pz2 pos pos2 : Pos} {scope : Scope} {own : List (Str × Nat)} {pins : List (Addr × Obj)} {s : Shared} {σ : L2.St} {H : Hp} {Q : VK} {use : Option (Value → Sem Unit)} {Qf : Value → Shared → Prop} {pl1 pl2 : Sem Bool}
    (hc : X.calm = true) (c : TMth X.prog X.w X.K X.mg X.base C0 m fld) (hr : Room 4 X.A) (hN : X.N[i0]? = some x) (hv : Vis X.env.scope x) (hg : Gl X "zip") (hm : X.mg "zip" = none) (ok : BlkOk X.N X.env.scope scope own) (hy1 : scope.names.lookup y1 = some .local) (hy2 : scope.names.lookup y2 = some .local) (hy : y1 ≠ y2)
    (I : L2.Inv X pins σ H s) (h : tLcZ C0 m fld i0 σ H Q)
    (hRR : ∀ D C s' m H', L2.Inv X pins σ H' s' → Q (.ref D) H' → s'.heap.Ns C m → FpOk X pins H' C → compPost (model X.prog X.w) X.A X.xe use Qf (.ref D) C (.ok .next) s')
    (ht1 : eval (.Call (.Attribute (.Name x px1) m ap1) [] [] pc1) X.env = (do
      let ov ← eval (.Name x px1) X.env
      standAt ap1.atName
      let (f, first) ← holding [ov] (getMethod ov m pl1)
      callWith pc1 f first (backTo pc1 (starEach [] X.env)) (backToKw pc1 (keywordEach [] X.env))) := by rfl)
    (ht2 : eval (.Call (.Attribute (.Name x px2) m ap2) [] [] pc2) X.env = (do
      let ov ← eval (.Name x px2) X.env
      standAt ap2.atName
      let (f, first) ← holding [ov] (getMethod ov m pl2)
      callWith pc2 f first (backTo pc2 (starEach [] X.env)) (backToKw pc2 (keywordEach [] X.env))) := by rfl)
    (hs : ∀ v, foldedSetIterable (.Call (.Name "zip" pz) [.Call (.Attribute (.Name x px1) m ap1) [] [] pc1, .Call (.Attribute (.Name x px2) m ap2) [] [] pc2] [] pz2) X.env v = pure v := by intro _; rfl)
    (hd : (x == ("__debug__" : Str)) = false := by decide) (hcd : (x == ("__classdict__" : Str)) = false := by decide) (hd1 : (y1 == ("__debug__" : Str)) = false := by decide) (hd2 : (y2 == ("__debug__" : Str)) = false := by decide) :
    wpAny (model X.prog X.w) X.A (comprehension (.ListComp (.List [.Name y1 p1, .Name y2 p2] lp) [⟨.Tuple [.Name y1 q1, .Name y2 q2] kk tp, .Call (.Name "zip" pz) [.Call (.Attribute (.Name x px1) m ap1) [] [] pc1, .Call (.Attribute (.Name x px2) m ap2) [] [] pc2] [] pz2, [], 0⟩] scope pos) scope X.env pos2 (newList []) false
      (eval (.Call (.Name "zip" pz) [.Call (.Attribute (.Name x px1) m ap1) [] [] pc1, .Call (.Attribute (.Name x px2) m ap2) [] [] pc2] [] pz2) X.env) use) Qf X.xe s := by
  obtain ⟨oa, dx, l, fsl, xs, hσ, eo, nm, el, hxs, hq⟩ := h
  have hfree : ∀ y ∈ scope.names, y.2 = .free → ∃ c, X.env.cells.lookup y.1 = some c := fun y hy e => by
    rcases ok.free y hy e with q | q
    · exact I.ok.has _ (.inl q)
    · exact I.ok.has _ (.inr q)
  obtain ⟨its, rits, pl, hz63⟩ := I.list (SqL.of hxs)
  have hl0 : s.heap.IsList l its.toArray := pl.isList
  refine wpAny_comprehension_free (use := use) rfl hs (closure_ok hfree) ok.kind (fun y hy e => by rw [ok.uniq y hy, e]) ?_
  refine Call_ (ld_blt I hg hm boot_zip (PyProof.Rows.callWith_type1 ?_ rfl rfl))
  show wpAny _ _ (spliced ((false, eval (.Call (.Attribute (.Name x px1) m ap1) [] [] pc1) X.env) :: backTo pz2 (starEach [.Call (.Attribute (.Name x px2) m ap2) [] [] pc2] X.env))) _ _ s
  refine Calls.spliced_cons (trl_exact (pl := pl1) c (hr.mono (by decide)) I hN hv hσ eo nm el hl0 (fun a1 s1 M1 => ?_) ht1 hd hcd)
  have I1 := MkT.inv I M1
  have hl1 : s1.heap.IsList l its.toArray := hl0.at fun o e => M1.keep _ o e
  show wpAny _ _ (spliced ((false, eval (.Call (.Attribute (.Name x px2) m ap2) [] [] pc2) X.env) :: backTo pz2 (starEach [] X.env))) _ _ s1
  refine Calls.spliced_cons (trl_exact (pl := pl2) c (hr.mono (by decide)) I1 hN hv hσ eo nm el hl1 (fun a2 s2 M2 => ?_) ht2 hd hcd)
  have I2 := MkT.inv I1 M2
  have hl2 : s2.heap.IsList l its.toArray := hl1.at fun o e => M2.keep _ o e
  refine Calls.spliced_nil ?_
  have hh : X.A.handled = none := hr.hd
  have hdep : X.A.depth < recursionLimit := by have := hr.dp; omega
  have G1 : Gen0 X.prog X.w X.A.in1.in1 l its.toArray a1 s.gens.size s1.heap s2 := (M1.gen X.A.in1.in1 hh).over M2.keep (M2.rest _ (by rw [M1.size]; exact Nat.lt_succ_self _))
  have G2 : Gen0 X.prog X.w X.A.in1.in1 l its.toArray a2 s1.gens.size s2.heap s2 := M2.gen X.A.in1.in1 hh
  have gne : s.gens.size ≠ s1.gens.size := by rw [M1.size]; exact Nat.ne_of_lt (Nat.lt_succ_self _)
  refine call_zipG G1.gen G2.gen fun h3 hz3 hTI3 hTO3 hsz3 hk3 => wpAny_pyIter_zip hz3 ?_
  generalize hs3 : ({ s2 with heap := h3 } : Shared) = s3
  have e3 : s3.heap = h3 := by rw [← hs3]
  have kp3 : ∀ b o, s2.heap.get? b = some o → s3.heap.get? b = some o := fun b o e => by rw [e3]; exact hk3 b o e
  have I3 : L2.Inv X pins σ H s3 := by rw [← hs3]; exact I2.kept (t' := s2.toks) hk3
  refine wpAny_newObj_type (newEnv_comp ?_) (by show 0 ≤ sizeLine; decide)
  generalize hD : s3.heap.objs.size = D
  generalize hs4 : ({ s3 with heap := s3.heap.push { cls := .type "list", data := .seq ([] : List Value).toArray } } : Shared) = s4
  have h4 : s4.heap = s3.heap.push { cls := .type "list", data := .seq ([] : List Value).toArray } := by rw [← hs4]
  generalize hC : s4.heap.objs.size = C
  have eC : C = D + 1 := by rw [← hC, h4, Heap.size_push, hD]
  generalize hs5 : ({ s4 with heap := pushCells (s4.heap.push { cls := .type "dict", data := .dict #[] }) scope.names } : Shared) = s5
  have kp5 : ∀ b o, s4.heap.get? b = some o → s5.heap.get? b = some o := fun b o q => by
    rw [← hs5]
    exact pushCells_keeps _ _ _ _ (Heap.get?_push_of_some _ q)
  have kp4 : ∀ b o, s3.heap.get? b = some o → s4.heap.get? b = some o := fun b o q => by rw [h4]; exact Heap.get?_push_of_some _ q
  have kps : ∀ b o, s3.heap.get? b = some o → s5.heap.get? b = some o := fun b o q => kp5 b o (kp4 b o q)
  have HD : H D = none := I3.hok.fresh (Nat.le_of_eq hD)
  have I4 : L2.Inv X pins σ (upd H D (.lst [])) s4 := by
    rw [← hs4]
    refine I3.laid (t' := s3.toks) (fun b o q => Heap.get?_push_of_some _ q) (Nat.le_of_eq hD) ⟨Nat.zero_le _, [], 0, .nil, ?_⟩
    rw [← hD]
    exact Heap.get?_push_size _ rfl
  have I5 : L2.Inv X pins σ (upd H D (.lst [])) s5 := by
    rw [← hs5]
    exact I4.kept (t' := s4.toks) fun b o q => pushCells_keeps _ _ _ _ (Heap.get?_push_of_some _ q)
  have hC5 : s5.heap.Ns C fun _ => none := by
    rw [← hs5, ← hC]
    exact Heap.Ns.keeps (Heap.Ns.new ..) fun b o q => pushCells_keeps _ _ _ _ q
  show codeAny _ _ (.compStart (.ListComp (.List [.Name y1 p1, .Name y2 p2] lp) [⟨.Tuple [.Name y1 q1, .Name y2 q2] kk tp, .Call (.Name "zip" pz) [.Call (.Attribute (.Name x px1) m ap1) [] [] pc1, .Call (.Attribute (.Name x px2) m ap2) [] [] pc2] [] pz2, [], 0⟩] scope pos) 0 (.ref (s2.heap.objs.size + 2)) (.ref D)
    (compEnvC scope (cellsFrom (C + 1) scope.names (cloFrom X.env.cells scope.names [])) C X.env)) (compPost (model X.prog X.w) X.A X.xe use Qf (.ref D) C) s5
  generalize hce : compEnvC scope (cellsFrom (C + 1) scope.names (cloFrom X.env.cells scope.names [])) C X.env = ce
  have cL : ce.locals = C := by rw [← hce]; rfl
  have ckd : ce.scope.kind = .function := by rw [← hce]; exact ok.kind
  have cy1 : ce.kindOf y1 = some .local := by
    rw [← hce]
    exact lookup_relabel_local hy1
  have cy2 : ce.kindOf y2 = some .local := by
    rw [← hce]
    exact lookup_relabel_local hy2
  have sz3 : s3.heap.objs.size = s2.heap.objs.size + 3 := by rw [e3]; exact hsz3
  have hzz : IsZip s5.heap (s2.heap.objs.size + 2) s2.heap.objs.size (s2.heap.objs.size + 1) .none := kps _ _ (by rw [e3]; exact hz3)
  have hTI : IsPair s5.heap s2.heap.objs.size (.ref a1) (.ref a2) := kps _ _ (by rw [e3]; exact hTI3)
  have hTO : IsPair s5.heap (s2.heap.objs.size + 1) .none .none := kps _ _ (by rw [e3]; exact hTO3)
  have hl5 : s5.heap.IsList l its.toArray := hl2.at fun o e => kps _ o (kp3 _ o e)
  have gens5 : s5.gens = s2.gens := by rw [← hs5, ← hs4, ← hs3]
  have G15 : Gen0 X.prog X.w X.A.in1.in1 l its.toArray a1 s.gens.size s1.heap s5 := G1.over (fun b o e => kps b o (kp3 b o (M2.keep b o e))) (by rw [gens5])
  have G25 : Gen0 X.prog X.w X.A.in1.in1 l its.toArray a2 s1.gens.size s2.heap s5 := G2.over (fun b o e => kps b o (kp3 b o e)) (by rw [gens5])
  have a1lt : a1 < s2.heap.objs.size := by
    obtain ⟨o, _, _, ho, _⟩ := G1.gen
    exact Heap.lt_size ho
  have a2lt : a2 < s2.heap.objs.size := by
    obtain ⟨o, _, _, ho, _⟩ := G2.gen
    exact Heap.lt_size ho
  generalize hB : s2.heap.objs.size = B at *
  have off : ∀ b, b < B → b ∉ [B + 2, B, B + 1] := fun b hb hm => by
    simp only [List.mem_cons, List.not_mem_nil, or_false] at hm
    rcases hm with h | h | h <;> omega
  have k1 : ∀ b o, s1.heap.get? b = some o → b ∉ [B + 2, B, B + 1] := fun b o e => off b (by rw [← hB]; exact Heap.lt_size (M2.keep b o e))
  have k2 : ∀ b o, s2.heap.get? b = some o → b ∉ [B + 2, B, B + 1] := fun b o e => off b (by rw [← hB]; exact Heap.lt_size e)
  have fpo : ∀ {Hi : Hp} (b : Addr), B ≤ b → Hi b = none → FpOk X pins Hi b := fun {Hi} b hb hn => I2.fpOk (by rw [hB]; exact hb) hn
  have DB : D = B + 3 := by rw [← hD]; exact sz3
  have lx := rits.length
  have loop : codeAny (model X.prog X.w) X.A (.compLoop (.ListComp (.List [.Name y1 p1, .Name y2 p2] lp) [⟨.Tuple [.Name y1 q1, .Name y2 q2] kk tp, .Call (.Name "zip" pz) [.Call (.Attribute (.Name x px1) m ap1) [] [] pc1, .Call (.Attribute (.Name x px2) m ap2) [] [] pc2] [] pz2, [], 0⟩] scope pos) 0 (.ref (B + 2)) (.ref D) ce)
      (compPost (model X.prog X.w) X.A X.xe use Qf (.ref D) C) s5 := by
    refine compLoop_any (fun n st => ∃ (i : Nat) (Hi : Hp) (Ls : List V) (mm : Str → Option Value) (u v : Value), n + i = xs.length ∧ L2.Inv X pins σ Hi st ∧ (∀ b o, H b = some o → Hi b = some o) ∧ Hi D = some (.lst Ls) ∧ Paired (fun v x => ∃ p, v = .ref p ∧ p ≠ D ∧ Hi p = some (.lst [x, x])) Ls (xs.take i) ∧ IsZip st.heap (B + 2) B (B + 1) .none ∧ IsPair st.heap B (.ref a1) (.ref a2) ∧ IsPair st.heap (B + 1) u v ∧
      st.heap.Ns C mm ∧ (∀ b ∈ [B + 2, B, B + 1, C], Hi b = none) ∧ st.heap.IsList l its.toArray ∧ ZS X pins l its.toArray [B + 2, B, B + 1] a1 a2 s.gens.size s1.gens.size s1.heap s2.heap i Hi st) ?_ xs.length ⟨0, upd H D (.lst []), [], _, .none, .none, rfl, I5, fun b o e => ?_, upd_same, .nil, hzz, hTI, hTO, hC5, fun b hb => ?_, hl5, .inl ⟨rfl, G15, G25⟩⟩
    · rintro n st ⟨i, Hi, Ls, mm, u, v, hn, Ii, hsub, hDi, hLs, iz, iTI, iTO, iC, hnone, il, zs⟩
      have tl : Hi l ≠ none := by rw [hsub _ _ hxs]; exact fun e => nomatch e
      have fz : ∀ b ∈ [B + 2, B, B + 1], FpOk X pins Hi b := fun b hb => by
        refine fpo b ?_ (hnone b ?_)
        · simp only [List.mem_cons, List.not_mem_nil, or_false] at hb
          rcases hb with h | h | h <;> omega
        · simp only [List.mem_cons, List.not_mem_nil, or_false] at hb ⊢
          rcases hb with h | h | h <;> simp [h]
      have fC : FpOk X pins Hi C := fpo C (by omega) (hnone C (by simp))
      have Clt : C < st.heap.objs.size := by
        obtain ⟨o, _, _, ho, _⟩ := iC
        exact Heap.lt_size ho
      have zTI : B ≠ B + 2 := by omega
      have zTO : B + 1 ≠ B + 2 := by omega
      have TIO : B ≠ B + 1 := by omega
      cases n with
      | zero =>
        have ei : i = its.toArray.size := by rw [List.size_toArray]; omega
        refine zs_done hh hdep Ii iz iTI iTO (fz _ List.mem_cons_self) k1 il tl (off a1 a1lt) zs ei fun ex s6 o6 hex => ?_
        have I6 := Inv.onl Ii o6 fun b hb => (hex b hb).1
        have C6 : s6.heap.Ns C mm := by
          obtain ⟨o, es, ep, ho, rr⟩ := id iC
          refine ⟨o, es, ep, o6.keep C o (fun hb => ?_) ho, rr⟩
          rcases (hex C hb).2 with e | e | ⟨j, hj⟩
          · exact absurd (show (C : Nat) = B + 2 from e) (by omega)
          · exact absurd (show st.heap.objs.size ≤ C from e) (by omega)
          · exact ns_ne_iter iC hj rfl
        refine hRR D C s6 mm Hi I6 (hq Hi D Ls hsub HD hDi ?_) C6 fC
        have et : xs.take i = xs := List.take_of_length_le (by omega)
        rw [et] at hLs
        exact Paired.mapP hLs fun _ _ ⟨p, e, _, h⟩ => ⟨p, e, h⟩
      | succ n =>
        obtain ⟨xv, hxv⟩ : ∃ xv, xs[i]? = some xv := ⟨xs[i]'(by omega), List.getElem?_eq_getElem (by omega)⟩
        obtain ⟨w, hw, rw0⟩ := rits.get hxv
        have hwA : its.toArray[i]? = some w := by simpa using hw
        refine zs_item hh hdep Ii gne zTI zTO TIO iz iTI iTO fz k1 k2 il tl (off a1 a1lt) (off a2 a2lt) zs hwA fun ex s6 T o6 hex zs6 T1 T2 T3 z6 TO6 hT6 => ?_
        have I6 := Inv.onl Ii o6 fun b hb => (hex b hb).1
        have nex : ∀ b, b ≠ B + 2 → b ≠ B + 1 → b < st.heap.objs.size → (∀ j, ¬ st.heap.IsListIter b l j) → b ∉ ex := fun b h1 h2 h3 h4 hb => by
          rcases (hex b hb).2 with e | e | e | ⟨j, hj⟩
          · exact h1 e
          · exact h2 e
          · exact absurd (Nat.lt_of_lt_of_le h3 e) (Nat.lt_irrefl _)
          · exact h4 j hj
        have CB : (C : Nat) = B + 4 := by omega
        have C6 : s6.heap.Ns C mm := by
          obtain ⟨o, es, ep, ho, rr⟩ := id iC
          exact ⟨o, es, ep, o6.keep C o (nex C (by omega) (by omega) Clt fun j hj => ns_ne_iter iC hj rfl) ho, rr⟩
        have TI6 : IsPair s6.heap B (.ref a1) (.ref a2) := o6.keep _ _ (nex B (by omega) (by omega) (Heap.lt_size iTI) fun j hj => pair_ne_iter iTI hj rfl) iTI
        refine wpAny_letOwnedTupleGo_zip z6 fun h7 z7 sb7 => ?_
        have hT7 : IsTup h7 T #[w, w] := ⟨_, (sb7.2 T T2).trans hT6, rfl, 0, rfl⟩
        have C7 : h7.Ns C mm := by
          obtain ⟨o, es, ep, ho, rr⟩ := C6
          exact ⟨o, es, ep, (sb7.2 C (show (C : Nat) ≠ B + 2 by omega)).trans ho, rr⟩
        refine assign_Tuple_tuple (s := { s6 with heap := h7 }) hh hT7 rfl rfl fun h8 hx8 => ?_
        have kp8 : ∀ b o, h7.get? b = some o → h8.get? b = some o := fun b o e => hx8 b o (Nat.ne_of_lt (Heap.lt_size e)) e
        refine assignInOrder_cons (wpAny_assign_Name (wpAny_storeName_local cy1 (m := mm) (by rw [cL]; exact C7.keeps kp8) (fun h9 hn9 sb9 => ?_) (by rw [ckd]; rfl)))
        rw [cL] at hn9 sb9
        refine assignInOrder_cons (wpAny_assign_Name (wpAny_storeName_local cy2 (by rw [cL]; exact hn9) (fun hA hnA sbA => ?_) (by rw [ckd]; rfl)))
        rw [cL] at hnA sbA
        have o6A : ∀ sA : Shared, sA.heap = hA → sA.gens = s6.gens → sA.os = s6.os → Onl [B + 2, C] [] s6 sA := fun sA e1 e2 e3 => ⟨e3, fun h => by rw [e2]; exact h, by rw [e2], fun _ _ => by rw [e2], fun b o hb e => by
          have n1 : b ≠ B + 2 := fun h => hb (h ▸ List.mem_cons_self)
          have n2 : b ≠ C := fun h => hb (h ▸ List.mem_cons_of_mem _ List.mem_cons_self)
          rw [e1]
          exact (sbA.2 b n2).trans ((sb9.2 b n2).trans (kp8 b o ((sb7.2 b n1).trans e)))⟩
        have fin : ∀ (sA : Shared) (Q2 : Value → Shared → Prop) (E2 : Value → Shared → Prop), sA.heap = hA → sA.gens = s6.gens → sA.os = s6.os →
            (∀ (Hj : Hp) (s' : Shared), L2.Inv X pins σ Hj s' → (∀ b o, H b = some o → Hj b = some o) → Hj D = some (.lst (Ls ++ [.ref sA.heap.objs.size])) → Paired (fun v x => ∃ p, v = .ref p ∧ p ≠ D ∧ Hj p = some (.lst [x, x])) (Ls ++ [.ref sA.heap.objs.size]) (xs.take (i + 1)) →
              IsZip s'.heap (B + 2) B (B + 1) .none → IsPair s'.heap B (.ref a1) (.ref a2) → IsPair s'.heap (B + 1) w w → (∃ m2, s'.heap.Ns C m2) → (∀ b ∈ [B + 2, B, B + 1, C], Hj b = none) → s'.heap.IsList l its.toArray → ZS X pins l its.toArray [B + 2, B, B + 1] a1 a2 s.gens.size s1.gens.size s1.heap s2.heap (i + 1) Hj s' → Q2 .none s') →
            wpAny (model X.prog X.w) X.A (call (.builtin "list.append") [.ref D, .ref sA.heap.objs.size]) Q2 E2 { sA with heap := sA.heap.push { cls := .type "list", data := .seq [w, w].toArray } } := by
          intro sA Q2 E2 e1 e2 e3 k
          have oA := o6A sA e1 e2 e3
          have fzC : ∀ b ∈ [B + 2, C], FpOk X pins Hi b := fun b hb => by
            rcases List.mem_cons.mp hb with e | hb
            · rw [e]; exact fz _ List.mem_cons_self
            · rw [List.mem_singleton.mp hb]; exact fC
          have IA := Inv.onl I6 oA fzC
          generalize hL : sA.heap.objs.size = L at k ⊢
          have HL : Hi L = none := IA.hok.fresh (Nat.le_of_eq hL)
          have IL : L2.Inv X pins σ (upd Hi L (.lst [xv, xv])) { sA with heap := sA.heap.push { cls := .type "list", data := .seq [w, w].toArray } } :=
            IA.laid (t' := sA.toks) (fun b o e => Heap.get?_push_of_some _ e) (Nat.le_of_eq hL) ⟨by show 2 ≤ sizeLine; decide, [w, w], 0, .cons rw0 (.cons rw0 .nil), by rw [← hL]; exact Heap.get?_push_size _ rfl⟩
          have LD : D ≠ L := ne_of_none hDi HL
          have hDL : (upd Hi L (.lst [xv, xv])) D = some (.lst Ls) := by rw [upd_ne LD]; exact hDi
          obtain ⟨zL, itsD, nD, rD, eD⟩ := IL.hok D _ hDL
          have lD := rD.length
          have lLs : Ls.length = i := by
            have := hLs.length
            rw [List.length_take] at this
            omega
          refine append_at (hsz := by rw [List.size_toArray]; omega) eD fun hZ sbZ hDZ => ?_
          have IZ : L2.Inv X pins σ (upd (upd Hi L (.lst [xv, xv])) D (.lst (Ls ++ [.ref L]))) { sA with heap := hZ } := by
            refine IL.write (t' := sA.toks) (by rw [hDL]; trivial) (.inl rfl) (fun b u hb q => (sbZ.2 b hb).trans q) ⟨_, hDZ⟩ ⟨?_, itsD ++ [.ref L], nD + 1, rD.append (.cons (show L2.RelV (.ref L) (.ref L) from rfl) .nil), ?_⟩
            · rw [List.length_append, lLs]
              show i + 1 ≤ sizeLine
              omega
            · rw [hDZ]
              simp
          have kZ : ∀ b o, b ≠ D → sA.heap.get? b = some o → hZ.get? b = some o := fun b o hb e => (sbZ.2 b hb).trans (Heap.get?_push_of_some _ e)
          have oZ : Onl [B + 2, C, D] [] s6 { sA with heap := hZ } := (oA.trans (show Onl [D] [] sA { sA with heap := hZ } from ⟨rfl, fun h => h, rfl, fun _ _ => rfl, fun b o hb e => kZ b o (fun h => hb (h ▸ List.mem_cons_self)) e⟩)).mono (fun b hb => by simpa using hb) fun k hk => by simpa using hk
          have ltL : ∀ b o, s6.heap.get? b = some o → b ∉ [B + 2, C] → b ≠ L := fun b o e hb => by
            rw [← hL]
            exact Nat.ne_of_lt (Heap.lt_size (oA.keep b o hb e))
          have CL : (C : Nat) < L := by
            obtain ⟨o, _, _, ho, _⟩ := hnA
            rw [← hL, e1]
            exact Heap.lt_size ho
          have chain7 : ∀ b o, b ≠ C → b ≠ D → h7.get? b = some o → hZ.get? b = some o := fun b o n1 n2 e => kZ b o n2 (by rw [e1]; exact (sbA.2 b n1).trans ((sb9.2 b n1).trans (kp8 b o e)))
          have nat3 : ∀ b : Nat, b ≠ B + 2 → b ≠ C → b ≠ D → b ∉ [B + 2, C, D] := fun b n1 n2 n3 hm => by
            simp only [List.mem_cons, List.not_mem_nil, or_false] at hm
            rcases hm with h | h | h
            · exact n1 h
            · exact n2 h
            · exact n3 h
          have lowB : ∀ b : Nat, b < B → b ∉ [B + 2, C, D] := fun b h => nat3 b (by omega) (by omega) (by omega)
          have l6 : s6.heap.IsList l its.toArray := il.at fun o e => o6.keep l o (fun hm => tl (hex l hm).1.1) e
          refine k _ _ IZ (fun b o e => ?_) upd_same ?_ (chain7 _ _ (show (B + 2 : Nat) ≠ C by omega) (show (B + 2 : Nat) ≠ D by omega) z7) (oZ.keep _ _ (nat3 B (by omega) (by omega) (by omega)) TI6) (oZ.keep _ _ (nat3 (B + 1) (by omega) (by omega) (by omega)) TO6) ?_ (fun b hb => ?_) (l6.at fun o e => oZ.keep l o ?_ e)
            (zs6.over oZ (lowB a1 a1lt) (lowB a2 a2lt) fun it j hoff hni hit => ?_)
          · rw [upd_ne (ne_of_none e HD), upd_ne (ne_of_none (hsub b o e) HL)]
            exact hsub b o e
          · rw [List.take_add_one, hxv]
            refine paired_appZ (Paired.mapP hLs fun v1 x1 ⟨p, e, np, hp⟩ => ⟨p, e, np, ?_⟩) (.cons ⟨L, rfl, LD.symm, ?_⟩ .nil)
            · rw [upd_ne np, upd_ne (ne_of_none hp HL)]
              exact hp
            · rw [upd_ne LD.symm]
              exact upd_same
          · obtain ⟨o, es, ep, ho, rr⟩ := hnA
            exact ⟨_, o, es, ep, kZ C o (show (C : Nat) ≠ D by omega) (by rw [e1]; exact ho), rr⟩
          · have nb : (b : Nat) ≠ D ∧ (b : Nat) ≠ L := by
              simp only [List.mem_cons, List.not_mem_nil, or_false] at hb
              rcases hb with h | h | h | h <;> (have h' : (b : Nat) = _ := h; constructor <;> omega)
            rw [upd_ne nb.1, upd_ne nb.2]
            exact hnone b hb
          · refine nat3 l (fun h => ?_) (fun h => ?_) (ne_of_none hxs HD)
            · exact tl (by rw [h]; exact hnone _ (by simp))
            · exact tl (by rw [h]; exact hnone _ (by simp))
          · have i1 : it ≠ B + 2 := fun h => hoff (h ▸ List.mem_cons_self)
            have i2 : it ≠ C := (ns_ne_iter C6 hit).symm
            have i3 : it ≠ D := fun h => by
              rw [h, hDi] at hni
              cases hni
            obtain ⟨oi, hoi, _⟩ := hit
            have i4 := ltL it oi hoi (fun hm => by
              rcases List.mem_cons.mp hm with h | hm
              · exact i1 h
              · exact i2 (List.mem_singleton.mp hm))
            refine ⟨nat3 it i1 i2 i3, ?_⟩
            rw [upd_ne i3, upd_ne i4]
            exact hni
        refine assignInOrder_nil (wpAny_tests_nil ?_)
        show wpAny _ _ _ _ _ _
        refine wpAny_List_spliced ?_
        show wpAny _ _ (spliced ((false, eval (.Name y1 p1) ce) :: (false, eval (.Name y2 p2) ce) :: [])) _ _ _
        refine Calls.spliced_cons (wpAny_Name (wpAny_loadName_local ckd cy1 (by rw [cL]; exact hnA) (v := w) (by simp [hy]) ?_) hd1)
        refine Calls.spliced_cons (wpAny_Name (wpAny_loadName_local ckd cy2 (by rw [cL]; exact hnA) (v := w) (by simp) ?_) hd2)
        refine Calls.spliced_nil ⟨by show 2 ≤ sizeLine; decide, ?_⟩
        exact fin _ _ _ rfl rfl rfl fun Hj s' c1 c2 c3 c4 c5 c6 c7 ⟨m2, c8⟩ c9 c10 c11 => ⟨n, Nat.lt_succ_self n, i + 1, Hj, _, m2, w, w, by omega, c1, c2, c3, c4, c5, c6, c7, c8, c9, c10, c11⟩
    · rw [upd_ne (ne_of_none e HD)]
      exact e
    · have hBb : B ≤ b ∧ b ≠ D := by
        simp only [List.mem_cons, List.not_mem_nil, or_false] at hb
        rcases hb with h | h | h | h <;> constructor <;> omega
      rw [upd_ne hBb.2]
      exact I2.hok.fresh (by rw [hB]; exact hBb.1)
  exact codeAny_compStart_list loop (wpAny_pyIter_zip hzz loop)
/-- as a value -/
theorem pe_lcZ {p1 p2 q1 q2 lp tp pz px1 ap1 pc1 px2 ap2 pc2 pz2 pos : Pos} {scope : Scope} {own : List (Str × Nat)} {pl1 pl2 : Sem Bool}
    (hc : X.calm = true) (c : TMth X.prog X.w X.K X.mg X.base C0 m fld) (hr : Room 4 X.A) (hN : X.N[i0]? = some x) (hv : Vis X.env.scope x) (hg : Gl X "zip") (hm : X.mg "zip" = none) (ok : BlkOk X.N X.env.scope scope own) (hy1 : scope.names.lookup y1 = some .local) (hy2 : scope.names.lookup y2 = some .local) (hy : y1 ≠ y2)
    (ht1 : eval (.Call (.Attribute (.Name x px1) m ap1) [] [] pc1) X.env = (do
      let ov ← eval (.Name x px1) X.env
      standAt ap1.atName
      let (f, first) ← holding [ov] (getMethod ov m pl1)
      callWith pc1 f first (backTo pc1 (starEach [] X.env)) (backToKw pc1 (keywordEach [] X.env))) := by rfl)
    (ht2 : eval (.Call (.Attribute (.Name x px2) m ap2) [] [] pc2) X.env = (do
      let ov ← eval (.Name x px2) X.env
      standAt ap2.atName
      let (f, first) ← holding [ov] (getMethod ov m pl2)
      callWith pc2 f first (backTo pc2 (starEach [] X.env)) (backToKw pc2 (keywordEach [] X.env))) := by rfl)
    (hs : ∀ v, foldedSetIterable (.Call (.Name "zip" pz) [.Call (.Attribute (.Name x px1) m ap1) [] [] pc1, .Call (.Attribute (.Name x px2) m ap2) [] [] pc2] [] pz2) X.env v = pure v := by intro _; rfl)
    (hd : (x == ("__debug__" : Str)) = false := by decide) (hcd : (x == ("__classdict__" : Str)) = false := by decide) (hd1 : (y1 == ("__debug__" : Str)) = false := by decide) (hd2 : (y2 == ("__debug__" : Str)) = false := by decide) :
    PE X (.ListComp (.List [.Name y1 p1, .Name y2 p2] lp) [⟨.Tuple [.Name y1 q1, .Name y2 q2] kk tp, .Call (.Name "zip" pz) [.Call (.Attribute (.Name x px1) m ap1) [] [] pc1, .Call (.Attribute (.Name x px2) m ap2) [] [] pc2] [] pz2, [], 0⟩] scope pos) (tLcZ C0 m fld i0) := by
  refine ⟨fun pins s σ H Q I h => ?_⟩
  rw [eval_ListComp]
  refine lcz_core (pl1 := pl1) (pl2 := pl2) hc c hr hN hv hg hm ok hy1 hy2 hy I h (fun D C s2 m2 H2 I2 q hn f => ⟨m2, hn, fun h3 sb => ?_⟩) ht1 ht2 hs hd hcd hd1 hd2
  obtain ⟨f0, f1, f2, f3, f4, f5⟩ := f
  exact ⟨.ref D, H2, I2.turned (t' := s2.toks) (fun b o hb eb => (sb.2 b hb).trans eb) f0 f1 f3 f4 f5, rfl, q⟩
end
theorem tmth_of {P : Program} {w : World} {K : PySem.W.Frag} {mg : Str → Option Value} {base : Heap} {C f : Addr} {fd : FuncData} {m name qual x fld : Str} {st : Stmt} {N : List Str} {px pa yp pos : Pos} (cl : Cls K C) (na : NoAttr K C fld) (hm : Meth K C m f) (F : L2.Fun K name qual st f fd) (S : GScope N [x] (defScope st))
    (hx : (defScope st).names.lookup x = some .local) (hbd : defBody st = [.Expr (.YieldFrom (.Attribute (.Name x px) fld pa) yp) pos]) (b : Binds K fd [x] []) (hdb : (x == ("__debug__" : Str)) = false := by decide) (hi : ∀ (L f : Addr) (cdv : Value), interactive (envOfC qual (defScope st) L f cdv) = false := by intro _ _ _; rfl)
    (hb : ∀ (scope : Scope) (L f : Addr) (cdv : Value), attributeBase (.Name x px) fld (envOfC qual scope L f cdv) (eval (.Name x px) (envOfC qual scope L f cdv)) = eval (.Name x px) (envOfC qual scope L f cdv) := by intro _ _ _ _; rfl) : TMth P w K mg base C m fld :=
  ⟨cl, na, f, hm, fun A outer s H o dx l fsl its hr e0 eo el hl => call_trl F S hx hbd b hr e0 cl na eo el hl hdb hi hb⟩
end Gc

/-! the commands that are possible (k23) -/
namespace Gc
open PySem L2
abbrev s_possible : Stmt := top 36
/-- a list of commands, possible one after the other -/
structure Goes (T : List Int) (r : Int) (g : Option Int) (ds : List Cmd) (n : Nat) : Prop where
  ok : AllOk ds
  nb : ∀ c ∈ ds, numC c < 10 ^ 40
  ln : ds.length ≤ n
  go : failAt T r g ds = none
theorem goes_snoc {T : List Int} : ∀ {ds : List Cmd} {r rr r2 : Int} {g gg g2 : Option Int} {c : Cmd}, failAt T r g ds = none → afterL T r g ds = some (rr, gg) → stepP T rr gg c = some (r2, g2) → failAt T r g (ds ++ [c]) = none ∧ afterL T r g (ds ++ [c]) = some (r2, g2)
  | [], r, rr, r2, g, gg, g2, c, _, ha, hs => by
    cases ha
    have e : afterL T r g [c] = some (r2, g2) := by
      rw [afterL_step, hs]
      rfl
    exact ⟨fail_none.mpr (fun z => by rw [List.nil_append, e] at z; cases z), e⟩
  | d :: ds, r, rr, r2, g, gg, g2, c, hf, ha, hs => by
    rw [afterL_step] at ha
    cases hq : stepP T r g d with
    | none =>
      rw [hq] at ha
      cases ha
    | some q =>
      rw [hq] at ha
      have ha2 : afterL T q.1 q.2 ds = some (rr, gg) := ha
      have hf2 : failAt T q.1 q.2 ds = none := fail_none.mpr (fun z => by rw [ha2] at z; cases z)
      obtain ⟨_, h2⟩ := goes_snoc hf2 ha2 hs
      have e : afterL T r g (d :: ds ++ [c]) = some (r2, g2) := by
        rw [List.cons_append, afterL_step, hq]
        exact h2
      exact ⟨fail_none.mpr (fun z => by rw [e] at z; cases z), e⟩
def spPossible (K : PySem.W.Frag) : Sp := fun vs H Q _ => ∃ (t l s b : Addr) (T : List Int) (r : Int) (g : Option Int) (xs : List V) (cs : List Cmd), vs = [.ref t, .ref l, .ref s] ∧ SqL K H t (T.map V.int) ∧ SqL K H l [.ref b] ∧ SqT K H b [.int r, optV g] ∧ SqL K H s xs ∧ CmdsOf K H xs cs ∧ 0 ≤ r ∧ r < T.length ∧ AllOk cs ∧ (∀ c ∈ cs, numC c < 10 ^ 40) ∧ cs.length ≤ 60 ∧
  ∀ (H' : Hp) (p : Addr) (us : List V) (ds : List Cmd), Same H H' → H p = none → H' p = some (.lst us) → CmdsOf K H' us ds → Goes T r g ds cs.length → Q (.ref p) H'
section
variable {P : Program} {w : World} {K : PySem.W.Frag} {mg : Str → Option Value} {base : Heap}
theorem sc_law_possible : FnScope ["lengths", "trail", "keys", "found", "here", "key", "later"] ["lengths", "trail", "keys"] (defScope s_possible) := ⟨rfl, rfl, rfl, by decide +kernel, rfl, by decide +kernel, by decide +kernel⟩
theorem ok_possible {f : Addr} {fd : FuncData} (F : Fun K "_law_possible" "_law_possible" s_possible f fd) (c_law_after : Cal P w K mg base 1 "_law_after" (spAfter1 K)) : FnOk P w K mg base CX0 2 f fd ["lengths", "trail", "keys"] (spPossible K) := by
  refine F.ok sc_law_possible (fun vs H Q E h => ?_) (fun cdv A outer s H vs Q E hr h => ?_)
  · obtain ⟨t, l, s, b, T, r, g, xs, cs, rfl, _⟩ := h
    rfl
  · obtain ⟨t, l, s, b, tx, r, g, xs, cs, rfl, ht, hl, hb, hs, hc, r0, r1, ok, nb, lc, k⟩ := h
    refine ⟨_, (pss_cons (ps_par (i := 3) (j := 4) rfl sc_law_possible.nd rfl rfl (by decide) rfl rfl (pa_cons (pe_lst pa_nil) (pa_cons (pe_ix ix_list (pv 1) (pe_un un_neg pe_int) (fun _ _ => rfl)) pa_nil)) (by rfl))
      (pss_cons (ps_for PassesOwn.never rfl (pi_list (pv 2)) (pg_name (i := 5) sc_law_possible.nd rfl (Or.inl rfl)) (pss_cons (ps_set (i := 6) sc_law_possible.nd rfl (Or.inl rfl) (pe_cal c_law_after hr (by decide) (by rfl) (pa_cons (pv 0) (pa_cons (pv 4) (pa_cons (pv 5) pa_nil)))))
      (pss_one (ps_if (pt_cmpR op_notN (pv 6) pe_non (nomark _)) (pss_cons (ps_expr (pe_bm PySem.F.plainAttrs_list PySem.F.slot_list_append PySem.F.type_list_append mt_append (pv 3) (pa_cons (pv 5) pa_nil)))
      (pss_one (ps_set (i := 4) sc_law_possible.nd rfl (Or.inl rfl) (pv 6)))) pss_nil))))
      (pss_one (ps_ret (pv 3))))), ?_⟩
    refine ⟨(by show 0 ≤ sizeLine; decide), fun p np => ?_⟩
    have e0 := new_same (o := HO.lst []) np
    have hp0 : (upd H p (.lst [])) p = some (.lst []) := upd_same
    generalize upd H p (.lst []) = H1 at e0 hp0 ⊢
    refine ⟨_, rfl, _, rfl, l, _, _, .ref b, rfl, rfl, e0.seq hl, rfl, ?_⟩
    refine ⟨_, _, rfl, ?_⟩
    refine ⟨_, rfl, s, rfl, ⟨_, e0.seq hs⟩, for_list (K := K) (a := s) (xs := xs) (fun i σ H' => ∃ (bb : Addr) (rr : Int) (gg : Option Int) (v5 v6 : Option V) (us : List V) (ds : List Cmd), σ = [some (.ref t), some (.ref l), some (.ref s), some (.ref p), some (.ref bb), v5, v6] ∧ Same H H' ∧ H' p = some (.lst us) ∧ CmdsOf K H' us ds ∧ SqT K H' bb [.int rr, optV gg] ∧
        0 ≤ rr ∧ rr < tx.length ∧ AllOk ds ∧ (∀ c ∈ ds, numC c < 10 ^ 40) ∧ ds.length ≤ i ∧ failAt tx r g ds = none ∧ afterL tx r g ds = some (rr, gg))
      ⟨b, r, g, none, none, [], [], rfl, e0, hp0, .nil, seq_t e0 hb, r0, r1, (fun c hc => nomatch hc), (fun c hc => nomatch hc), Nat.le_refl _, rfl, rfl⟩ (fun i σ H' _ ⟨_, _, _, _, _, _, _, _, e, _⟩ => e.seq hs) (fun i x σ H2 hi h => ?_) (fun σ H2 h => ?_)⟩
    · obtain ⟨bb, rr, gg, v5, v6, us, ds, rfl, e, hp, hus, hbb, q0, q1, okd, nbd, ld, hf, ha⟩ := h
      obtain ⟨c, hci, hca⟩ := paired_at hc hi
      have li := (List.getElem?_eq_some_iff.mp hci).1
      have lu := hus.len
      refine ⟨_, rfl, _, rfl, _, rfl, t, bb, x, tx, rr, gg, c, rfl, e.seq ht, hbb, hca.same e, q0, q1, ok c (List.mem_of_getElem? hci), nb c (List.mem_of_getElem? hci), fun z H5 e5 => ?_, fun r2 g2 z H5 p5 e5 np5 hp5 => ?_⟩
      · refine ⟨_, rfl, rfl, false, by simp, iteF ?_⟩
        exact ⟨bb, rr, gg, _, _, us, ds, rfl, e.trans e5, e5 _ _ hp, hus.same e5, seq_t e5 hbb, q0, q1, okd, nbd, by omega, hf, ha⟩
      · refine ⟨_, rfl, rfl, true, by simp, iteT ?_⟩
        refine ⟨_, rfl, .inl ⟨rfl, _, SqL.of (e5 _ _ hp)⟩, _, rfl, p, _, x, rfl, rfl, e5 _ _ hp, lt_line (by omega), ?_⟩
        obtain ⟨a0, a1⟩ := step_row q0 q1 z
        have p5p : p5 ≠ p := fun q => by rw [q, hp] at np5; cases np5
        have lf : failAt tx r g (ds ++ [c]) = none ∧ afterL tx r g (ds ++ [c]) = some (r2, g2) := goes_snoc hf ha z
        refine ⟨_, rfl, ?_⟩
        refine ⟨p5, r2, g2, _, _, us ++ [x], ds ++ [c], rfl, same_freeU (e.trans e5) np, upd_same, CmdsOf.atL (e5 _ _ hp) (paired_app (hus.same e5) (.cons (hca.same (e.trans e5)) .nil)), SqT.of (by rw [upd_ne p5p]; exact hp5), a0, a1, fun d hd => ?_, fun d hd => ?_, by rw [List.length_append]; show _ + 1 ≤ _; omega, lf.1, lf.2⟩
        · rcases List.mem_append.mp hd with h | h
          · exact okd d h
          · rw [List.mem_singleton.mp h]; exact ok c (List.mem_of_getElem? hci)
        · rcases List.mem_append.mp hd with h | h
          · exact nbd d h
          · rw [List.mem_singleton.mp h]; exact nb c (List.mem_of_getElem? hci)
    · obtain ⟨bb, rr, gg, v5, v6, us, ds, rfl, e, hp, hus, hbb, q0, q1, okd, nbd, ld, hf, ha⟩ := h
      exact ⟨_, rfl, k _ p us ds e np hp hus ⟨okd, nbd, by rw [hc.len] at ld; exact ld, hf⟩⟩
end
end Gc

/-! an editor's trail, command by command; what is held (k23) -/
namespace Gc
open PySem L2
theorem after_app {T : List Int} : ∀ {A B : List Cmd} {r : Int} {g : Option Int}, afterL T r g (A ++ B) = (afterL T r g A).bind fun q => afterL T q.1 q.2 B
  | [], B, r, g => rfl
  | c :: A, B, r, g => by
    rw [List.cons_append, afterL_step, afterL_step]
    cases stepP T r g c with
    | none => rfl
    | some q => exact after_app (A := A)
theorem trail_app {T : List Int} : ∀ {A B : List Cmd} {r r' : Int} {g g' : Option Int}, 0 ≤ r → r < T.length → afterL T r g A = some (r', g') → trailL T r g (A ++ B) = trailL T r g A ++ trailL T r' g' B
  | [], B, r, r', g, g', _, _, h => by
    cases h
    rfl
  | c :: A, B, r, r', g, g', h0, h1, h => by
    rw [afterL_cons h0 h1] at h
    obtain ⟨⟨r2, g2⟩, hs, hrest⟩ := Option.bind_eq_some_iff.mp h
    have hin := step1_in hs
    rw [List.cons_append, trail_step hs, trail_step hs, List.cons_append]
    show _ :: trailL T r2 g2 (A ++ B) = _ :: (trailL T r2 g2 A ++ trailL T r' g' B)
    rw [trail_app (A := A) hin.1 hin.2 hrest]
theorem trail_last {T : List Int} : ∀ {A : List Cmd} {r r' : Int} {g g' : Option Int}, 0 ≤ r → r < T.length → afterL T r g A = some (r', g') → ∃ pre, (r, g) :: trailL T r g A = pre ++ [(r', g')] ∧ pre.length = A.length
  | [], r, r', g, g', _, _, h => by
    cases h
    exact ⟨[], rfl, rfl⟩
  | c :: A, r, r', g, g', h0, h1, h => by
    rw [afterL_cons h0 h1] at h
    obtain ⟨⟨r2, g2⟩, hs, hrest⟩ := Option.bind_eq_some_iff.mp h
    have hin := step1_in hs
    obtain ⟨pre, e, l⟩ := trail_last (A := A) hin.1 hin.2 hrest
    rw [trail_step hs]
    refine ⟨(r, g) :: pre, ?_, by rw [List.length_cons, l]; rfl⟩
    show (r, g) :: ((r2, g2) :: trailL T r2 g2 A) = _
    rw [e]
    rfl
theorem len_le {T : List Int} (h : ∀ x ∈ T, 0 ≤ x ∧ x < 60) (k : Int) : 0 ≤ lenAt T k ∧ lenAt T k < 60 := by
  unfold lenAt
  rw [List.getD_eq_getElem?_getD]
  cases e : T[k.toNat]? with
  | none => exact ⟨Int.le_refl _, by decide⟩
  | some x => exact h x (List.mem_of_getElem? e)
theorem aim_sm {t : Int} {g : Option Int} {c : Cmd} (ok : c.ok) (ht : 0 ≤ t ∧ t < 60) (hg : ∀ x, g = some x → x < 60) : ∀ x, aim1 t g c = some x → x < 60 := by
  intro x hx
  have sn : seen t g ≤ t := by
    cases g with
    | none => exact Int.le_refl t
    | some y =>
      show min y t ≤ t
      omega
  cases c with
  | down n => exact hg x hx
  | up n => exact hg x hx
  | right n =>
    have e : min (seen t g + n) t = x := Option.some.inj hx
    omega
  | left n =>
    have e : max 0 (seen t g - n) = x := Option.some.inj hx
    have n1 : 1 ≤ n := ok
    omega
  | home =>
    have e : (0 : Int) = x := Option.some.inj hx
    omega
  | stop => cases hx
theorem trail_sm {T : List Int} (hT : ∀ x ∈ T, 0 ≤ x ∧ x < 60) : ∀ {cs : List Cmd} {r : Int} {g : Option Int}, AllOk cs → (∀ x, g = some x → x < 60) → ∀ q ∈ trailL T r g cs, ∀ x, q.2 = some x → x < 60
  | [], _, _, _, _, q, h => nomatch h
  | c :: cs, r, g, ok, hg, q, h => by
    unfold trailL at h
    cases hs : step1 T r g c with
    | none =>
      rw [hs] at h
      cases h
    | some y =>
      rw [hs] at h
      have hy : ∀ x, y.2 = some x → x < 60 := by
        unfold step1 at hs
        split at hs
        · cases hs
          exact aim_sm (ok c List.mem_cons_self) (len_le hT _) hg
        · cases hs
      rcases List.mem_cons.mp h with e | h
      · rw [e]; exact hy
      · exact trail_sm hT (fun d hd => ok d (List.mem_cons_of_mem _ hd)) hy q h
/-- what is told at a time: the lines, the trail -/
def heldD (T : List Int) (qs : List Spot) : PyData := .list [.list (T.map PyData.int), .list (qs.map spotD)]
theorem ok0_spots : ∀ {qs : List Spot}, (∀ q ∈ qs, Sml q.1 ∧ ∀ x, q.2 = some x → Sml x) → Ok0s (qs.map spotD) ∧ PyData.weightAll (qs.map spotD) ≤ 400 * qs.length
  | [], _ => ⟨ok0_nil, by simp [PyData.weightAll]⟩
  | (r, g) :: qs, h => by
    obtain ⟨h1, h2⟩ := ok0_spots (qs := qs) fun q hq => h q (List.mem_cons_of_mem _ hq)
    obtain ⟨hr, hg⟩ := h (r, g) List.mem_cons_self
    have og : Ok0 (optD g) := by
      cases g with
      | none => exact ok0_none
      | some x => exact ok0_int (hg x rfl)
    have wg : (optD g).weight ≤ 200 := by
      cases g with
      | none => simp [optD, PyData.weight]
      | some x =>
        have := sml_weight (hg x rfl)
        show (PyData.int x).weight ≤ 200
        omega
    have wr := sml_weight hr
    refine ⟨ok0_cons (ok0_tup (ok0_cons (ok0_int hr) (ok0_cons og ok0_nil))) h1, ?_⟩
    simp only [List.map_cons, spotD, PyData.weightAll, PyData.weight, List.length_cons] at *
    omega
theorem held_show {T : List Int} {qs : List Spot} (hT : ∀ x ∈ T, Sml x) (hq : ∀ q ∈ qs, Sml q.1 ∧ ∀ x, q.2 = some x → Sml x) (lT : T.length ≤ 60) (lq : qs.length ≤ 60) :
    (heldD T qs).showable = true ∧ (heldD T qs).hasDict = false ∧ (heldD T qs).depth ≤ 60 ∧ (heldD T qs).shown.length ≤ sizeLine := by
  obtain ⟨o1, w1⟩ := ok0_spots hq
  have o : Ok0 (heldD T qs) := ok0_list (ok0_cons (ok0_list (ok0_ints hT)) (ok0_cons (ok0_list o1) ok0_nil))
  have w2 := weight_ints hT
  have d1 := deep_intsE T
  have d2 := deep_spotsE qs
  refine ⟨o.1, o.2.1, ?_, ok0_len o ?_⟩
  · simp only [heldD, PyData.depth, PyData.depthAll]
    omega
  · simp only [heldD, PyData.weight, PyData.weightAll] at *
    omega
/-- a data that is a list of pairs of one cursor -/
def twoD (qs : List Spot) : PyData := .list (qs.map fun q => .list [spotD q, spotD q])
theorem lay_two : ∀ qs : List Spot, PyData.canLayAll0 (qs.map fun q => .list [spotD q, spotD q]) = true
  | [] => by simp [PyData.canLayAll0]
  | q :: qs => by
    rw [List.map_cons, PyData.canLayAll0, lay_two qs]
    simp only [PyData.canLay0, PyData.canLayAll0]
    rw [show (spotD q).canLay0 = true from lay_spot q]
    rfl
theorem deep_two : ∀ qs : List Spot, PyData.depthAll (qs.map fun q => .list [spotD q, spotD q]) ≤ 3
  | [] => by simp [PyData.depthAll]
  | q :: qs => by
    have h := deep_spot q
    rw [List.map_cons, PyData.depthAll]
    refine Nat.max_le.mpr ⟨?_, deep_two qs⟩
    simp only [PyData.depth, PyData.depthAll]
    omega
theorem two_shaped (qs : List Spot) : SeqAt.shaped (twoD qs) = true := by
  refine shaped_of ?_ ?_
  · rw [twoD, PyData.canLay0]
    exact lay_two qs
  · have := deep_two qs
    simp only [twoD, PyData.depth]
    omega
theorem two_eqv (qs : List Spot) : PyData.eqv (twoD qs) (twoD qs) = true := SeqAt.eqv_refl _ (by rw [twoD, PyData.canLay0]; exact lay_two qs)
theorem two_dp {K : PySem.W.Frag} {H : Hp} : ∀ {Ls ys : List V} {qs : List Spot}, Paired (fun v x => ∃ p, v = .ref p ∧ H p = some (.lst [x, x])) Ls ys → SpotsOf K H ys qs → DpAll K H Ls (qs.map fun q => .list [spotD q, spotD q])
  | _, _, _, .nil, .nil => .nil
  | _, _, _, .cons ⟨p, e, hp⟩ t, .cons ⟨b, eb, hb⟩ u => by
    subst e
    subst eb
    exact .cons (.lst (SqL.of hp) (.cons (spot_dp hb) (.cons (spot_dp hb) .nil))) (two_dp t u)
/-- how many fours -/
def parts4 (n : Nat) : Nat := (n + 3) / 4
theorem parts4_rg {n : Nat} (h : n ≤ 10000) : RgC 0 (n : Int) 4 (parts4 n) := by
  have hz : Builtin.Range.rangeSize 0 (n : Int) 4 = (parts4 n : Nat) := by
    unfold Builtin.Range.rangeSize parts4
    rw [if_pos (by decide)]
    split <;> omega
  refine ⟨by decide, by decide, ?_, hz⟩
  unfold Builtin.Range.small
  rw [hz]
  have : parts4 n ≤ 10000 := by unfold parts4; omega
  generalize parts4 n = m at this
  have fl : ∀ i : Int, 0 ≤ i → i ≤ 100000 → Builtin.Range.rangeFitsLong i = true := fun i h1 h2 => by
    unfold Builtin.Range.rangeFitsLong
    rw [decide_eq_true (show (-(2 ^ 63) : Int) ≤ i by omega), decide_eq_true (show i < (2 ^ 63 : Int) by omega)]
    rfl
  rw [if_pos (by decide), fl 0 (by decide) (by decide), fl n (by omega) (by omega), fl 4 (by decide) (by decide), fl m (by omega) (by omega), fl _ (by omega) (by omega)]
  simp
theorem Keep.over {a cl : Addr} {H H1 H2 : Hp} (k : Keep a a H H1) (n : H cl = none) (kp : Keep cl cl H1 H2) : Keep a a H H2 := fun c o h1 h2 hc => by
  have cc : c ≠ cl := fun z => by rw [z, n] at hc; cases hc
  exact kp c o cc cc (k c o h1 h2 hc)
theorem Rng.over {a cl : Addr} {H H' : Hp} {n : Nat} (R : Rng H a n) (h : cl ≠ a) (kp : Keep cl cl H H') : Rng H' a n := by
  obtain ⟨g, s, c, z, z2⟩ := R
  have ac : a ≠ cl := fun q => h q.symm
  exact ⟨g, s, c, kp _ _ ac ac z, z2⟩
theorem keep_upd {cl : Addr} {H : Hp} {o : HO} : Keep cl cl H (upd H cl o) := fun b u h1 _ hb => by
  rw [upd_ne h1]
  exact hb
theorem seqt_keepQ {K : PySem.W.Frag} {H H' : Hp} {cl p : Addr} {ws xs : List V} (hc : H cl = some (.lst ws)) (kp : Keep cl cl H H') (q : SqT K H p xs) : SqT K H' p xs := by
  rcases q with (z | ⟨o, z⟩) | z
  · have n := ne_of z hc (by intro q; cases q)
    exact .inl (.inl (kp _ _ n n z))
  · have n := ne_of z hc (by intro q; cases q)
    exact .inl (.inr ⟨o, kp _ _ n n z⟩)
  · exact .inr z
theorem cmds_keepQ {K : PySem.W.Frag} {H H' : Hp} {cl : Addr} {ws xs : List V} {cs : List Cmd} (hc : H cl = some (.lst ws)) (kp : Keep cl cl H H') (q : CmdsOf K H xs cs) : CmdsOf K H' xs cs := Paired.mapP q fun _ _ ⟨p, e, z⟩ => ⟨p, e, seqt_keepQ hc kp z⟩
/-- one command pressed -/
theorem press1 {K : PySem.W.Frag} {CD : Addr} {cs : Nat → Addr} {H : Hp} {Q : VK} {E : XK} {x dx tl cl : Addr} {v : V} {T : List Int} {r r' : Int} {g g' : Option Int} {ys : List V} {qs : List Spot} {c : Cmd} (E1 : EdSt K H x CD dx tl cl T ys (qs ++ [(r, g)])) (hp : CmdAt K H v c) (ok : c.ok) (st : stepP T r g c = some (r', g')) (nn : ∀ x ∈ T, 0 ≤ x) (hin : SpotIn T (r, g))
    (lq : qs.length ≤ 100) (k : ∀ (H' : Hp) (ys' : List V), Keep cl cl H H' → EdSt K H' x CD dx tl cl T ys' ((qs ++ [(r, g)]) ++ [(r', g')]) → Q .non H') : zPress K CD cs [.ref x, v] H Q E := by
  obtain ⟨r0, r1, g0⟩ := id hin
  have s1 : step1 T r g c = some (r', g') := (step_eq r0 r1).trans st
  have aft : afterL T r g [c] = some (r', g') := by
    rw [afterL_cons r0 r1, s1]
    rfl
  have fn : failAt T r g [c] = none := fail_none.mpr (fun z => by rw [aft] at z; cases z)
  have ok1 : ∀ d ∈ [c], d.ok := fun d hd => by rw [List.mem_singleton.mp hd]; exact ok
  have gd := back_in ok1
  have bc := back_cmd [c]
  refine ask_press (rs := [c].map rawOf) E1 (raws_of (.cons hp .nil)) (by simp) nn hin (by omega) (E1.ne (by simp)) (fun j hj => by rw [gd] at hj; cases hj) (fun _ j hj => by rw [bc, fn] at hj; cases hj) (fun H' zs _ _ kp E2 => ?_)
  rw [bc, trail_step s1] at E2
  exact k H' _ kp E2
/-- the pool, an editor, the law's lines, cursor and commands -/
structure Bs (K : PySem.W.Frag) (H H' : Hp) (a : Addr) (m : Nat) (x CD dx tl cl l b kl : Addr) (T : List Int) (r : Int) (g : Option Int) (ys : List V) (qs : List Spot) (xs : List V) (cs : List Cmd) : Prop where
  kp : Keep a a H H'
  R : Rng H' a m
  E : EdSt K H' x CD dx tl cl T ys qs
  hl : H' l = some (.lst (T.map V.int))
  hb : SqT K H' b [.int r, optV g]
  hk : H' kl = some (.lst xs)
  hc : CmdsOf K H' xs cs
  la : l ≠ a
  ka : kl ≠ a
  tla : tl ≠ a
  cla : cl ≠ a
  lc : l ≠ cl
  kc : kl ≠ cl
  tc : tl ≠ cl
  ncl : H cl = none
section
variable {K : PySem.W.Frag} {H H' H'' : Hp} {a : Addr} {m : Nat} {x CD dx tl cl l b kl : Addr} {T : List Int} {r : Int} {g : Option Int} {ys ys2 : List V} {qs qs2 : List Spot} {xs : List V} {cs : List Cmd}
theorem Bs.same (B : Bs K H H' a m x CD dx tl cl l b kl T r g ys qs xs cs) (e : Same H' H'') : Bs K H H'' a m x CD dx tl cl l b kl T r g ys qs xs cs :=
  ⟨B.kp.same1 e, B.R.same e, B.E.same e, e _ _ B.hl, seq_t e B.hb, e _ _ B.hk, B.hc.same e, B.la, B.ka, B.tla, B.cla, B.lc, B.kc, B.tc, B.ncl⟩
/-- another list is written -/
theorem Bs.off {p : Addr} {ws : List V} (B : Bs K H H' a m x CD dx tl cl l b kl T r g ys qs xs cs) (hp : H' p = some (.lst ws)) (np : H p = none) (k2 : Keep p p H' H'') (pa : p ≠ a) (pl : p ≠ l) (pk : p ≠ kl) (pt : p ≠ tl) (pc : p ≠ cl) : Bs K H H'' a m x CD dx tl cl l b kl T r g ys qs xs cs := by
  have xp : x ≠ p := ne_of B.E.ed hp (by intro q; cases q)
  exact ⟨B.kp.over np k2, B.R.over pa k2, ⟨k2 _ _ xp xp B.E.ed, k2 _ _ pt.symm pt.symm B.E.ht, k2 _ _ pc.symm pc.symm B.E.hc, spots_keepL hp k2 B.E.sp⟩, k2 _ _ pl.symm pl.symm B.hl, seqt_keepQ hp k2 B.hb, k2 _ _ pk.symm pk.symm B.hk, cmds_keepQ hp k2 B.hc, B.la, B.ka, B.tla, B.cla, B.lc, B.kc, B.tc, B.ncl⟩
/-- the editor goes on -/
theorem Bs.press (B : Bs K H H' a m x CD dx tl cl l b kl T r g ys qs xs cs) (k2 : Keep cl cl H' H'') (E2 : EdSt K H'' x CD dx tl cl T ys2 qs2) : Bs K H H'' a m x CD dx tl cl l b kl T r g ys2 qs2 xs cs :=
  ⟨B.kp.over B.ncl k2, B.R.over B.cla k2, E2, k2 _ _ B.lc B.lc B.hl, seqt_keepQ B.E.hc k2 B.hb, k2 _ _ B.kc B.kc B.hk, cmds_keepQ B.E.hc k2 B.hc, B.la, B.ka, B.tla, B.cla, B.lc, B.kc, B.tc, B.ncl⟩
/-- a new list is none of them -/
theorem Bs.new {p : Addr} (B : Bs K H H' a m x CD dx tl cl l b kl T r g ys qs xs cs) (np : H' p = none) : p ≠ a ∧ p ≠ l ∧ p ≠ kl ∧ p ≠ tl ∧ p ≠ cl ∧ H p = none := by
  have pa := B.R.off np
  exact ⟨pa, (ne_of_none B.hl np).symm, (ne_of_none B.hk np).symm, (ne_of_none B.E.ht np).symm, (ne_of_none B.E.hc np).symm, B.kp.freeK pa np⟩
end
/-- what was held so far: for each time a list, the lines, the trail; their texts -/
structure Hs (K : PySem.W.Frag) (H H' : Hp) (off : List Addr) (hd kt : Addr) (T : List Int) (qsAt : Nat → List Spot) (ls : List (Addr × Addr × Addr)) : Prop where
  hhd : H' hd = some (.lst (ls.map fun z => V.ref z.1))
  hkt : H' kt = some (.lst ((List.range ls.length).map fun j => V.str (heldD T (qsAt j)).shown))
  at_ : ∀ (j : Nat) (z : Addr × Addr × Addr), ls[j]? = some z → H' z.1 = some (.lst [.ref z.2.1, .ref z.2.2]) ∧ H' z.2.1 = some (.lst (T.map V.int)) ∧ ∃ ys, H' z.2.2 = some (.lst ys) ∧ SpotsOf K H' ys (qsAt j)
  away : ∀ z ∈ ls, ∀ p, (p = z.1 ∨ p = z.2.1 ∨ p = z.2.2) → p ∉ off ∧ p ≠ hd ∧ p ≠ kt ∧ H p = none
  apart : ∀ z ∈ ls, ∀ z' ∈ ls, z.1 ≠ z'.2.1 ∧ z.1 ≠ z'.2.2
section
variable {K : PySem.W.Frag} {H H' H'' : Hp} {off : List Addr} {hd kt : Addr} {T : List Int} {qsAt : Nat → List Spot} {ls : List (Addr × Addr × Addr)}
theorem Hs.same (S : Hs K H H' off hd kt T qsAt ls) (e : Same H' H'') : Hs K H H'' off hd kt T qsAt ls :=
  ⟨e _ _ S.hhd, e _ _ S.hkt, fun j z hz => let ⟨h1, h2, ys, h3, h4⟩ := S.at_ j z hz; ⟨e _ _ h1, e _ _ h2, ys, e _ _ h3, h4.same e⟩, S.away, S.apart⟩
theorem Hs.over {p : Addr} {ws : List V} (S : Hs K H H' off hd kt T qsAt ls) (hp : H' p = some (.lst ws)) (k : Keep p p H' H'') (po : p ∈ off) (ph : hd ≠ p) (pk : kt ≠ p) : Hs K H H'' off hd kt T qsAt ls := by
  refine ⟨k _ _ ph ph S.hhd, k _ _ pk pk S.hkt, fun j z hz => ?_, S.away, S.apart⟩
  obtain ⟨h1, h2, ys, h3, h4⟩ := S.at_ j z hz
  have aw := S.away z (List.mem_of_getElem? hz)
  have n1 : z.1 ≠ p := fun e => (aw _ (.inl rfl)).1 (e ▸ po)
  have n2 : z.2.1 ≠ p := fun e => (aw _ (.inr (.inl rfl))).1 (e ▸ po)
  have n3 : z.2.2 ≠ p := fun e => (aw _ (.inr (.inr rfl))).1 (e ▸ po)
  exact ⟨k _ _ n1 n1 h1, k _ _ n2 n2 h2, ys, k _ _ n3 n3 h3, spots_keepL hp k h4⟩
/-- one more time -/
theorem Hs.more {h t c : Addr} {ys : List V} {qs : List Spot} (S : Hs K H H' off hd kt T qsAt ls) (hh : H' h = some (.lst [.ref t, .ref c])) (ht : H' t = some (.lst (T.map V.int))) (hc : H' c = some (.lst ys)) (hs : SpotsOf K H' ys (qsAt ls.length)) (hk : hd ≠ kt)
    (aw : ∀ p, (p = h ∨ p = t ∨ p = c) → p ∉ off ∧ p ≠ hd ∧ p ≠ kt ∧ H p = none) (ap : h ≠ t ∧ h ≠ c) (ax : ∀ z ∈ ls, h ≠ z.2.1 ∧ h ≠ z.2.2 ∧ z.1 ≠ t ∧ z.1 ≠ c)
    (e1 : H'' hd = some (.lst (ls.map (fun z => V.ref z.1) ++ [.ref h]))) (e2 : H'' kt = some (.lst ((List.range ls.length).map (fun j => V.str (heldD T (qsAt j)).shown) ++ [.str (heldD T (qsAt ls.length)).shown]))) (e3 : ∀ p o, p ≠ hd → p ≠ kt → H' p = some o → H'' p = some o) : Hs K H H'' off hd kt T qsAt (ls ++ [(h, t, c)]) := by
  have sp : ∀ {ys : List V} {qs : List Spot}, SpotsOf K H' ys qs → SpotsOf K H'' ys qs := fun {ys qs} s => Paired.mapP s fun _ _ ⟨p, e, q⟩ => ⟨p, e, by
    rcases q with (z | ⟨o, z⟩) | z
    · have n1 := ne_of z S.hhd (by intro q; cases q)
      have n2 := ne_of z S.hkt (by intro q; cases q)
      exact .inl (.inl (e3 _ _ n1 n2 z))
    · have n1 := ne_of z S.hhd (by intro q; cases q)
      have n2 := ne_of z S.hkt (by intro q; cases q)
      exact .inl (.inr ⟨o, e3 _ _ n1 n2 z⟩)
    · exact .inr z⟩
  have moved : ∀ {p : Addr} {o : HO}, p ≠ hd → p ≠ kt → H' p = some o → H'' p = some o := fun {p o} => e3 p o
  refine ⟨by rw [e1, List.map_append]; rfl, ?_, fun j z hz => ?_, fun z hz p hp => ?_, fun z hz z' hz' => ?_⟩
  · rw [e2, List.length_append]
    show _ = some (HO.lst ((List.range (ls.length + 1)).map _))
    rw [List.range_succ, List.map_append]
    rfl
  · by_cases hj : j < ls.length
    · rw [List.getElem?_append_left hj] at hz
      obtain ⟨h1, h2, ys', h3, h4⟩ := S.at_ j z hz
      have a := S.away z (List.mem_of_getElem? hz)
      exact ⟨moved (a _ (.inl rfl)).2.1 (a _ (.inl rfl)).2.2.1 h1, moved (a _ (.inr (.inl rfl))).2.1 (a _ (.inr (.inl rfl))).2.2.1 h2, ys', moved (a _ (.inr (.inr rfl))).2.1 (a _ (.inr (.inr rfl))).2.2.1 h3, sp h4⟩
    · have ej : j = ls.length := by
        have q := (List.getElem?_eq_some_iff.mp hz).1
        rw [List.length_append] at q
        have q : j < ls.length + 1 := q
        omega
      rw [ej, List.getElem?_append_right (Nat.le_refl _), Nat.sub_self] at hz
      cases hz
      rw [ej]
      exact ⟨moved (aw _ (.inl rfl)).2.1 (aw _ (.inl rfl)).2.2.1 hh, moved (aw _ (.inr (.inl rfl))).2.1 (aw _ (.inr (.inl rfl))).2.2.1 ht, ys, moved (aw _ (.inr (.inr rfl))).2.1 (aw _ (.inr (.inr rfl))).2.2.1 hc, sp hs⟩
  · rcases List.mem_append.mp hz with hz | hz
    · exact S.away z hz p hp
    · rw [List.mem_singleton.mp hz] at hp
      exact aw p hp
  · rcases List.mem_append.mp hz with hz | hz
    · rcases List.mem_append.mp hz' with hz' | hz'
      · exact S.apart z hz z' hz'
      · rw [List.mem_singleton.mp hz']
        exact ⟨(ax z hz).2.2.1, (ax z hz).2.2.2⟩
    · rw [List.mem_singleton.mp hz]
      rcases List.mem_append.mp hz' with hz' | hz'
      · exact ⟨(ax z' hz').1, (ax z' hz').2.1⟩
      · rw [List.mem_singleton.mp hz']
        exact ap
/-- the lists that were told, changed by their owner -/
structure Ms (H' : Hp) (hd : Addr) (ls : List (Addr × Addr × Addr)) (k : Nat) : Prop where
  hhd : H' hd = some (.lst (ls.map fun z => V.ref z.1))
  at_ : ∀ z ∈ ls, H' z.1 = some (.lst [.ref z.2.1, .ref z.2.2]) ∧ (∃ w, H' z.2.1 = some (.lst w) ∧ w.length ≤ k) ∧ ∃ w, H' z.2.2 = some (.lst w)
theorem Ms.write {k : Nat} {p : Addr} {w : List V} (M : Ms H' hd ls k) (ph : hd ≠ p) (pz : ∀ z ∈ ls, z.1 ≠ p) (lw : w.length ≤ k + 1) : Ms (upd H' p (.lst w)) hd ls (k + 1) := by
  refine ⟨by rw [upd_ne ph]; exact M.hhd, fun z hz => ?_⟩
  obtain ⟨h1, ⟨w1, h2, l2⟩, w2, h3⟩ := M.at_ z hz
  refine ⟨by rw [upd_ne (pz z hz)]; exact h1, ?_, ?_⟩
  · by_cases e : z.2.1 = p
    · exact ⟨w, by rw [e, upd_same], lw⟩
    · exact ⟨w1, by rw [upd_ne e]; exact h2, by omega⟩
  · by_cases e : z.2.2 = p
    · exact ⟨w, by rw [e, upd_same]⟩
    · exact ⟨w2, by rw [upd_ne e]; exact h3⟩
end
end Gc

/-! what is told does not change with the lists that were told (k23) -/
namespace Gc
open PySem L2
abbrev s_right23 : Stmt := top 37
structure TxtR23 (mg : Str → Option Value) : Prop where
  range : mg "range" = none
  len : mg "len" = none
  list : mg "list" = none
  zip : mg "zip" = none
  repr : mg "repr" = none
theorem cut4 {xs : List V} {i : Nat} : cutV xs (some (0 + (i : Int) * 4)) (some (0 + (i : Int) * 4 + 4)) = (xs.drop (4 * i)).take 4 := by
  unfold cutV
  rw [show (0 + (i : Int) * 4) = ((4 * i : Nat) : Int) by omega, show ((4 * i : Nat) : Int) + 4 = ((4 * i + 4 : Nat) : Int) by omega, HT.sIx_nat, HT.sIx_nat]
  by_cases h : 4 * i ≤ xs.length
  · rw [Nat.min_eq_left h]
    exact List.take_eq_take_iff.mpr (by rw [List.length_drop]; omega)
  · rw [Nat.min_eq_right (by omega : xs.length ≤ 4 * i), List.drop_of_length_le (Nat.le_refl _), List.drop_of_length_le (by omega)]
    simp
theorem ask_eqT {K : PySem.W.Frag} {CD : Addr} {H : Hp} {Q : VK} {E : XK} {x dx tl cl y dy tl2 cl2 : Addr} {T : List Int} {ys ys2 : List V} {qs : List Spot} (E1 : EdSt K H x CD dx tl cl T ys qs) (E2 : EdSt K H y CD dy tl2 cl2 T ys2 qs) (ne : qs ≠ []) (k : Q (.bl true) H) : zEdEq K CD [.ref x, .ref y] H Q E := by
  obtain ⟨qs', q, rfl⟩ : ∃ qs' q, qs = qs' ++ [q] := ⟨_, _, (List.dropLast_concat_getLast ne).symm⟩
  rw [zEdEq_eq]
  exact ⟨x, dx, tl, cl, T, ys, qs', q, _, rfl, E1, .inl ⟨y, dy, tl2, cl2, T, ys2, qs', q, rfl, E2, by rw [decide_eq_true ⟨rfl, rfl⟩]; exact k⟩⟩
def spRight23 (K : PySem.W.Frag) : Sp := fun vs H Q _ => ∃ (a : Addr) (n : Nat), vs = [.ref a] ∧ Rng H a n ∧ n < 2 ^ 35 ∧ ∀ H', Keep a a H H' → Rng H' a (n + 1000) → Q (.bl true) H'
structure EqF23 (K : PySem.W.Frag) (CD f : Addr) : Prop where
  s : PySem.W.findIn K (.ref CD) "__eq__" = some (some (.ref f))
  f : PySem.W.isFn K (.ref f) = true
section
variable {P : Program} {w : World} {K : PySem.W.Frag} {mg : Str → Option Value} {base : Heap} {CD fe : Addr} {cs : Nat → Addr}
theorem sc_law_right : FnScope ["pool", "passed", "lengths", "spot", "at_top", "editor", "keys", "held", "kept", "key", "some", "trail", "both", "number", "text_here", "one", "two"] ["pool"] (defScope s_right23) := ⟨rfl, rfl, rfl, by decide +kernel, rfl, by decide +kernel, by decide +kernel⟩
theorem ok_right23 {f : Addr} {fd : FuncData} (F : Fun K "_law_right" "_law_right" s_right23 f fd) (T : TxtR23 mg) (q : EqF23 K CD fe) (Fe : FnR P w K mg base CX0 3 fe (zEdEq K CD)) (c_law_draw : Cal P w K mg base 1 "_law_draw" spDraw) (c_law_lines : Cal P w K mg base 2 "_law_lines" (spLines K)) (c_law_spot : Cal P w K mg base 2 "_law_spot" (spSpot K)) (c_law_keys : Cal P w K mg base 4 "_law_keys" (spKeys K))
    (c_law_possible : Cal P w K mg base 2 "_law_possible" (spPossible K)) (c_law_on : Cal P w K mg base 2 "_law_on" (spOn K)) (c_law_told_right : Cal P w K mg base 5 "_law_told_right" (zToldR K CD)) (c_law_pressed : CalX P w K mg base 10 "_law_pressed" (zPressed K CD cs))
    (m_Editor : Mak P w K mg base (L2.CX P w) 4 "Editor" CD (zEdInit K CD cs)) (m_top : CMth P w K mg base (L2.CX P w) 6 CD "at_top" (zTop K CD cs)) (m_press : MthR P w K mg base (L2.CX P w) 9 CD "press" (zPress K CD cs)) (c_text : Prp P w K mg base 1 CD "text" (spEdText K CD)) (c_trail : GMth P w K mg base 1 CD "trail" (spTrail CD)) (m_trail : TMth P w K mg base CD "trail" "_cursors") :
    FnG P w K mg base 11 f fd ["pool"] (spRight23 K) := by
  refine okG F sc_law_right (fun vs H Q E h => ?_) (fun cdv A outer s H vs Q E hg hr h => ?_)
  · obtain ⟨a, n, rfl, _⟩ := h
    rfl
  · obtain ⟨a, n, rfl, R0, hn, k⟩ := h
    refine ⟨_, (pss_cons (ps_set (i := 1) sc_law_right.nd rfl (Or.inl rfl) (pe_cal c_law_lines hr (by decide) (by rfl) (pa_cons (pv 0) (pa_cons pe_int (pa_cons pe_int pa_nil)))))
      (pss_cons (ps_par (i := 2) (j := 3) rfl sc_law_right.nd rfl rfl (by decide) rfl rfl (pa_cons (pe_callTy call_list_of (by rfl) T.list (by decide +kernel) (pa_cons (pv 1) pa_nil)) (pa_cons (pe_cal c_law_spot hr (by decide) (by rfl) (pa_cons (pv 0) (pa_cons (pv 1) (pa_cons pe_int pa_nil)))) pa_nil)) (by rfl))
      (pss_cons (ps_set (i := 4) sc_law_right.nd rfl (Or.inl rfl) (pe_cmpR op_eq (pe_cal c_law_draw hr (by decide) (by rfl) (pa_cons (pv 0) (pa_cons pe_int pa_nil))) pe_int (nomark _)))
      (C8.pss_cut (ps_if (pt_val (pv 4)) (pss_one (ps_set (i := 3) sc_law_right.nd rfl (Or.inl rfl) (pe_tup (pa_cons pe_int (pa_cons pe_int pa_nil))))) pss_nil)
      (C8.pss_cut (ps_set (i := 5) sc_law_right.nd rfl (Or.inl rfl) (pe_ifExp (pt_val (pv 4)) (pe_cmthX takesNone m_top hr (by decide) (pe_glob (v := .ref CD) (by rfl) m_Editor.g rfl) (pa_cons (pv 1) pa_nil)) (pe_makX takesNone m_Editor hr (by decide) (by rfl) (pa_cons (pv 1) (pa_cons (pv 3) pa_nil)))))
      (pss_cons (ps_asg (pe_op op_add (pe_ix ix_list (pv 1) pe_int (fun _ _ => rfl)) pe_int) (pg_sub (pv 1) pe_int set_list))
      (pss_cons (ps_expr (pe_bm PySem.F.plainAttrs_list PySem.F.slot_list_append PySem.F.type_list_append mt_append (pv 1) (pa_cons pe_int pa_nil)))
      (pss_cons (ps_set (i := 6) sc_law_right.nd rfl (Or.inl rfl) (pe_cal c_law_possible hr (by decide) (by rfl) (pa_cons (pv 2) (pa_cons (pe_lst (pa_cons (pv 3) pa_nil)) (pa_cons (pe_cal c_law_keys hr (by decide) (by rfl) (pa_cons (pv 0) (pa_cons pe_int (pa_cons pe_int pa_nil)))) pa_nil)))))
      (pss_cons (ps_par (i := 7) (j := 8) rfl sc_law_right.nd rfl rfl (by decide) rfl rfl (pa_cons (pe_lst pa_nil) (pa_cons (pe_lst pa_nil) pa_nil)) (by rfl))
      (pss_cons (ps_for PassesOwn.never rfl (pi_list (pv 6)) (pg_name (i := 9) sc_law_right.nd rfl (Or.inl rfl)) (pss_cons (ps_expr (pe_bm PySem.F.plainAttrs_list PySem.F.slot_list_append PySem.F.type_list_append mt_append (pv 7) (pa_cons (pe_lst (pa_cons (pe_prp c_text hr (by decide) (pv 5) rfl) (pa_cons (pe_listM c_trail (hr.mono (by decide)) (pv 5) (by rfl) T.list) pa_nil))) pa_nil)))
      (pss_cons (ps_expr (pe_bm PySem.F.plainAttrs_list PySem.F.slot_list_append PySem.F.type_list_append mt_append (pv 8) (pa_cons (pe_callB (cr_repr hg hr.units) (by rfl) T.repr (by decide +kernel) (pa_cons (pe_ix ix_list (pv 7) (pe_un un_neg pe_int) (fun _ _ => rfl)) pa_nil)) pa_nil)))
      (pss_one (ps_expr (pe_mthR takesNone m_press hr (by decide) (pv 5) (pa_cons (pv 9) pa_nil)))))))
      (pss_cons (ps_if (pt_cmpR (op_neD hr.units) (pe_lc (own := [("some", 10), ("text_here", 14)]) rfl sc_law_right.nd (RZ.pi_zipA (by rfl) T.zip (pa_cons (pv 7) (pa_cons (pv 8) pa_nil))) (blkOk_by (N := ["pool", "passed", "lengths", "spot", "at_top", "editor", "keys", "held", "kept", "key", "some", "trail", "both", "number", "text_here", "one", "two"]) (sc := defScope s_right23) (by decide +kernel)) (fun _ _ _ _ _ => (show PG _ _ (gTup K 2 _) from pg_tup rfl (pgs_cons (pg_name (i := 10) sc_law_right.nd rfl (Or.inl rfl)) (pgs_cons (pg_name (i := 14) sc_law_right.nd rfl (Or.inl rfl)) pgs_nil)))) (fun _ _ _ _ _ => (pts_one (pt_cmpR op_ne (pe_callB (show CallR _ (.builtin "repr") (rRepr K) from cr_repr hg hr.units) (by rfl) T.repr (by decide +kernel) (pa_cons (pv 10) pa_nil)) (pv 14) (nomark _)))) (fun _ _ _ _ _ => pe_int)) (pe_lst pa_nil) (nomark _)) (pss_one (ps_ret pe_bl)) pss_nil)
      (pss_cons (ps_for PassesOwn.never rfl (pi_list (pv 7)) (pg_name (i := 10) sc_law_right.nd rfl (Or.inl rfl)) (pss_cons (ps_expr (pe_bm PySem.F.plainAttrs_list PySem.F.slot_list_append PySem.F.type_list_append mt_append (pe_ix ix_list (pv 10) pe_int (fun _ _ => rfl)) (pa_cons pe_int pa_nil)))
      (pss_one (ps_expr (pe_bm0 PySem.F.plainAttrs_list PySem.F.slot_list_clear PySem.F.type_list_clear mt_clear (pe_ix ix_list (pv 10) pe_int (fun _ _ => rfl)))))))
      (pss_cons (ps_set (i := 11) sc_law_right.nd rfl (Or.inl rfl) (pe_cal c_law_on hr (by decide) (by rfl) (pa_cons (pv 2) (pa_cons (pe_lst (pa_cons (pv 3) pa_nil)) (pa_cons (pv 6) pa_nil)))))
      (pss_cons (ps_if (pt_not (pt_val (pe_cal c_law_told_right hr (by decide) (by rfl) (pa_cons (pv 5) (pa_cons (pv 2) (pa_cons (pv 11) pa_nil)))))) (pss_one (ps_ret pe_bl)) pss_nil)
      (pss_cons (ps_if (pt_cmpR (op_neD hr.units) (pe_lcZ (own := [("one", 15), ("two", 16)]) rfl m_trail (hr.mono (by decide)) (x := "editor") (i0 := 5) rfl (.inl rfl) (by rfl) T.zip (blkOk_by (N := ["pool", "passed", "lengths", "spot", "at_top", "editor", "keys", "held", "kept", "key", "some", "trail", "both", "number", "text_here", "one", "two"]) (sc := defScope s_right23) (by decide +kernel)) (by rfl) (by rfl) (by decide)) (pe_lc (own := [("one", 15)]) rfl sc_law_right.nd (pi_list (pv 11)) (blkOk_by (N := ["pool", "passed", "lengths", "spot", "at_top", "editor", "keys", "held", "kept", "key", "some", "trail", "both", "number", "text_here", "one", "two"]) (sc := defScope s_right23) (by decide +kernel)) (fun _ _ _ _ _ => (pg_name (i := 15) sc_law_right.nd rfl (Or.inl rfl))) (fun _ _ _ _ _ => pts_nil) (fun _ _ _ _ _ => (pe_lst (pa_cons (pv 15) (pa_cons (pv 15) pa_nil))))) (nomark _)) (pss_one (ps_ret pe_bl)) pss_nil)
      (pss_cons (ps_set (i := 12) sc_law_right.nd rfl (Or.inl rfl) (pe_makX takesNone m_Editor hr (by decide) (by rfl) (pa_cons (pv 2) (pa_cons (pv 3) pa_nil))))
      (pss_cons (ps_for PassesOwn.never rfl (pi_range3 rfl T.range (pa_cons pe_int (pa_cons (pe_callB call_len_seq (by rfl) T.len (by decide +kernel) (pa_cons (pv 6) pa_nil)) (pa_cons pe_int pa_nil)))) (pg_name (i := 13) sc_law_right.nd rfl (Or.inl rfl)) (pss_one (ps_expr (pe_calX takesNone c_law_pressed hr (by decide) (by rfl) (pa_cons (pv 12) (pa_cons (pe_slice sl_list (pv 6) (po_some (pv 13)) (po_some (pe_op op_add (pv 13) pe_int))) pa_nil))))))
      (pss_cons (ps_if (PW.pt (pw_or (pt_not (pt_val (pe_cal c_law_told_right hr (by decide) (by rfl) (pa_cons (pv 12) (pa_cons (pv 2) (pa_cons (pv 11) pa_nil)))))) (pw_or1 (pt_not (pt_cmpR (op_eqI q.s q.f Fe (hr.mono (by decide)) pass0) (pv 12) (pv 5) (nomark _)))))) (pss_one (ps_ret pe_bl)) pss_nil)
      (pss_one (ps_ret (pe_cal c_law_told_right hr (by decide) (by rfl) (pa_cons (pv 5) (pa_cons (pv 2) (pa_cons (pv 11) pa_nil)))))))))))))))))))))))), ?_⟩
    refine ⟨_, rfl, a, n, 6, 60, rfl, R0, by omega, by decide, by decide, by decide, by decide, fun H1 l0 tx kp1 R1 l0a nl0 hl0 hT l1 l6 => ?_⟩
    have hT60 : ∀ x ∈ tx, 0 ≤ x ∧ x < 60 := fun x hx => by have := hT x hx; omega
    have nn : ∀ x ∈ tx, 0 ≤ x := fun x hx => (hT x hx).1
    refine ⟨_, rfl, l0, _, rfl, .inl (SqL.of hl0), fun l nl => ?_⟩
    have la := R1.off nl
    have ll0 : l0 ≠ l := ne_of_none hl0 nl
    have nlH := kp1.freeK la nl
    have e_H2 : Same H1 (upd H1 l (.lst (tx.map V.int))) := new_same nl
    have h_l : (upd H1 l (.lst (tx.map V.int))) l = some (.lst (tx.map V.int)) := upd_same
    generalize upd H1 l (.lst (tx.map V.int)) = H2 at e_H2 h_l ⊢
    replace hl0 := e_H2 _ _ hl0
    replace R1 := R1.same e_H2
    refine ⟨_, rfl, _, rfl, a, l0, _, tx, 60, rfl, R1, by omega, hl0, l0a, l1, by omega, by decide, by decide, fun H3 b r g kp3 R3 hb r0 r1 hgb => ⟨_, _, rfl, ?_⟩⟩
    have kA := (kp1.same1 e_H2).trans kp3
    replace hl0 := kp3 _ _ l0a l0a hl0
    have hl := kp3 _ _ la la h_l
    refine ⟨_, rfl, a, _, 2, rfl, R3, by omega, by decide, by decide, fun H4 y kp4 R4 y0 y1 => ⟨rfl, ?_⟩⟩
    generalize decide (V.int y = V.int 0) = bn
    replace hl0 := kp4 _ _ l0a l0a hl0
    replace hl := kp4 _ _ la la hl
    replace kA := kA.trans kp4
    have hb4 : SqT K H4 b [.int r, optV g] := R3.tup kp4 (SqT.of hb)
    have hin : SpotIn tx (r, g) := ⟨r0, r1, by
      cases g with
      | none => exact ge_none 0
      | some y => exact ge_some.mpr (hgb y rfl).1⟩
    have hg60 : ∀ x, g = some x → x < 60 := fun x e => by have := hgb x e; omega
    clear hgb hb kp4 kp3 kp1 R3 R1 e_H2 h_l y1 y0
    refine ⟨fun σ H' => ∃ (b : Addr) (r : Int) (g : Option Int), σ = [some (.ref a), some (.ref l0), some (.ref l), some (.ref b), some (.bl bn), none, none, none, none, none, none, none, none, none, none, none, none] ∧ Keep a a H H' ∧ Rng H' a (n + 300) ∧ H' l0 = some (.lst (tx.map V.int)) ∧ H' l = some (.lst (tx.map V.int)) ∧ SqT K H' b [.int r, optV g] ∧ SpotIn tx (r, g) ∧ (∀ x, g = some x → x < 60) ∧ (bn = true → r = 0 ∧ g = some 0), ?_, ?_⟩
    · refine ⟨_, rfl, bn, rfl, ?_⟩
      cases bn with
      | true =>
        refine iteT ⟨(by show 2 ≤ sizeLine; decide), fun p np => ?_⟩
        have e5 := new_same (o := HO.tup [V.int 0, .int 0]) np
        exact ⟨p, 0, some 0, rfl, kA.same1 e5, (R4.same e5).more (by omega), e5 _ _ hl0, e5 _ _ hl, SqT.of upd_same, ⟨Int.le_refl _, by show (0 : Int) < tx.length; omega, ge_some.mpr (Int.le_refl _)⟩, fun x e => by cases e; decide, fun _ => ⟨rfl, rfl⟩⟩
      | false => exact iteF ⟨b, r, g, rfl, kA, R4.more (by omega), hl0, hl, hb4, hin, hg60, fun e => nomatch e⟩
    clear hb4 hin hg60 kA R4 hl hl0 r1 r0
    rintro σ H5 ⟨b, r, g, rfl, kA, R5, hl0, hl, hb, hin, hg60, hbn⟩
    refine ⟨fun σ H' => ∃ (x dx tl cl b0 : Addr), σ = [some (.ref a), some (.ref l0), some (.ref l), some (.ref b), some (.bl bn), some (.ref x), none, none, none, none, none, none, none, none, none, none, none] ∧ Keep a a H H' ∧ Rng H' a (n + 300) ∧ EdSt K H' x CD dx tl cl tx [.ref b0] [(r, g)] ∧ H' l0 = some (.lst (tx.map V.int)) ∧ H' l = some (.lst (tx.map V.int)) ∧ SqT K H' b [.int r, optV g] ∧ tl ≠ cl ∧ tl ≠ a ∧ cl ≠ a ∧ tl ≠ l ∧ cl ≠ l ∧ tl ≠ l0 ∧ cl ≠ l0 ∧ H cl = none, ?_, ?_⟩
    · refine ⟨_, rfl, bn, rfl, ?_⟩
      cases bn with
      | true =>
        obtain ⟨rfl, rfl⟩ := hbn rfl
        refine iteT ⟨rfl, _, rfl, ?_⟩
        show zTop K CD cs [.ref CD, .ref l0] H5 _ _
        rw [zTop_eq]
        refine ⟨l0, tx, rfl, SqL.of hl0, fun b' i v bad => absurd bad (nn_facts nn hin i v), fun _ _ H6 x dx tl cl b0 e6 _ ntl ncl tc E6 => ?_⟩
        exact ⟨x, dx, tl, cl, b0, rfl, kA.same1 e6, R5.same e6, E6, e6 _ _ hl0, e6 _ _ hl, seq_t e6 hb, tc, R5.off ntl, R5.off ncl, (ne_of_none hl ntl).symm, (ne_of_none hl ncl).symm, (ne_of_none hl0 ntl).symm, (ne_of_none hl0 ncl).symm, kA.freeK (R5.off ncl) ncl⟩
      | false =>
        refine iteF ⟨_, rfl, _, rfl, fun x dx nx nd ne => ?_⟩
        refine ask_made nx nd ne (SqL.of hl0) hb nn hin fun H6 tl cl e6 ntl ncl tc E6 => ⟨rfl, ?_⟩
        exact ⟨x, dx, tl, cl, b, rfl, kA.same1 e6, R5.same e6, E6, e6 _ _ hl0, e6 _ _ hl, seq_t e6 hb, tc, R5.off ntl, R5.off ncl, (ne_of_none hl ntl).symm, (ne_of_none hl ncl).symm, (ne_of_none hl0 ntl).symm, (ne_of_none hl0 ncl).symm, kA.freeK (R5.off ncl) ncl⟩
    clear hbn kA R5 hl hl0 hb
    rintro σ H6 ⟨x, dx, tl, cl, b0, rfl, kA, R6, E6, hl0, hl, hb, tc, tla, cla, tll, cll, tl0, cl0, ncl⟩
    have nl0H : H l0 = none := nl0
    obtain ⟨t0, ts, etx⟩ : ∃ t0 ts, tx = t0 :: ts := by
      cases tx with
      | nil => simp at l1
      | cons t0 ts => exact ⟨t0, ts, rfl⟩
    refine ⟨_, rfl, l0, _, 0, .int t0, rfl, rfl, SqL.of hl0, by rw [etx]; exact at_of (j := 0) rfl rfl, _, _, rfl, rfl, ?_⟩
    refine ⟨_, rfl, l0, _, 0, 0, rfl, rfl, hl0, by rw [etx]; simp [ixN], ?_⟩
    have k7 : Keep l0 l0 H6 (upd H6 l0 (.lst ((tx.map V.int).set 0 (.int (t0 + 5))))) := keep_upd
    have h7 : (upd H6 l0 (.lst ((tx.map V.int).set 0 (.int (t0 + 5))))) l0 = some (.lst ((tx.map V.int).set 0 (.int (t0 + 5)))) := upd_same
    generalize upd H6 l0 (.lst ((tx.map V.int).set 0 (.int (t0 + 5)))) = H7 at k7 h7 ⊢
    refine ⟨_, rfl, .inl ⟨rfl, _, SqL.of h7⟩, l0, _, .int 1, rfl, rfl, h7, lt_line (by rw [List.length_set, List.length_map]; omega), ?_⟩
    have k8 : Keep l0 l0 H6 (upd H7 l0 (.lst ((tx.map V.int).set 0 (.int (t0 + 5)) ++ [.int 1]))) := k7.trans keep_upd
    generalize upd H7 l0 (.lst ((tx.map V.int).set 0 (.int (t0 + 5)) ++ [.int 1])) = H8 at k8 ⊢
    have xl0 : x ≠ l0 := ne_of E6.ed hl0 (by intro q; cases q)
    replace E6 : EdSt K H8 x CD dx tl cl tx [.ref b0] [(r, g)] := ⟨k8 _ _ xl0 xl0 E6.ed, k8 _ _ tl0 tl0 E6.ht, k8 _ _ cl0 cl0 E6.hc, spots_keepL hl0 k8 E6.sp⟩
    replace hb := seqt_keepQ hl0 k8 hb
    replace hl := k8 _ _ ll0.symm ll0.symm hl
    replace R6 := R6.over l0a k8
    replace kA := kA.over nl0H k8
    clear k7 k8 h7 hl0 xl0
    refine ⟨_, rfl, _, rfl, (by show 1 ≤ sizeLine; decide), fun s0 ns0 => ?_⟩
    have s0a := R6.off ns0
    have e9 := new_same (o := HO.lst [V.ref b]) ns0
    have hs0 : (upd H8 s0 (.lst [V.ref b])) s0 = some (.lst [V.ref b]) := upd_same
    replace E6 := E6.same e9
    replace hb := seq_t e9 hb
    replace hl := e9 _ _ hl
    replace R6 := R6.same e9
    replace kA := kA.same1 e9
    generalize upd H8 s0 (.lst [V.ref b]) = H9 at E6 hb hl R6 kA hs0 ⊢
    clear e9 ns0
    refine ⟨_, rfl, a, _, 12, 60, rfl, R6, by omega, by decide, by decide, by decide, by decide, fun HA k0 xs0 cs0 kpA RA k0a nk0 hk0 hc0 kb lk => ?_⟩
    replace E6 := R6.edst kpA tla cla E6
    replace hb := R6.tup kpA hb
    replace hl := kpA _ _ la la hl
    replace hs0 := kpA _ _ s0a s0a hs0
    replace kA := kA.trans kpA
    have fb : far2 60 = 60 := by decide
    rw [fb] at kb
    refine ⟨l, s0, k0, b, tx, r, g, xs0, cs0, rfl, SqL.of hl, SqL.of hs0, hb, SqL.of hk0, hc0, hin.1, hin.2.1, fun c hc => (kb c hc).1, fun c hc => by have := (kb c hc).2.1; omega, by omega, fun HB kl xs ds eB nkl hkl hds go => ?_⟩
    have lk12 : ds.length ≤ 12 := by have := go.ln; omega
    have klc : kl ≠ cl := (ne_of_none E6.hc nkl).symm
    replace E6 := E6.same eB
    have RB := RA.same eB
    have B0 : Bs K H HB a (n + 500) x CD dx tl cl l b kl tx r g [.ref b0] [(r, g)] xs ds :=
      ⟨kA.same1 eB, RB.more (by omega), E6, eB _ _ hl, seq_t eB hb, hkl, hds, la, RA.off nkl, tla, cla, cll.symm, klc, tc, ncl⟩
    clear E6 RB kb RA kA hb hl hs0 hc0 hk0 eB R6
    refine ⟨(by show 0 ≤ sizeLine; decide), fun hd nhd => ?_⟩
    have Bn1 := B0.new nhd
    have f1 := new_same (o := HO.lst []) nhd
    have hhd : (upd HB hd (.lst [])) hd = some (.lst []) := upd_same
    replace B0 := B0.same f1
    clear f1
    generalize upd HB hd (.lst []) = HC at B0 hhd ⊢
    refine ⟨(by show 0 ≤ sizeLine; decide), fun kt nkt => ⟨_, _, rfl, ?_⟩⟩
    have Bn2 := B0.new nkt
    have hk0 : hd ≠ kt := ne_of_none hhd nkt
    have f2 := new_same (o := HO.lst []) nkt
    have hkt : (upd HC kt (.lst [])) kt = some (.lst []) := upd_same
    replace B0 := B0.same f2
    replace hhd := f2 _ _ hhd
    clear f2
    generalize upd HC kt (.lst []) = HD at B0 hhd hkt ⊢
    have lx := B0.hc.len
    obtain ⟨r0', r1', g0'⟩ := id hin
    have r0 : 0 ≤ r := r0'
    have r1 : r < tx.length := r1'
    have gone := fail_none.mp go.go
    have pre : ∀ i, ∃ q : Spot, afterL tx r g (ds.take i) = some q := fun i => by
      cases e : afterL tx r g (ds.take i) with
      | some q => exact ⟨q, rfl⟩
      | none =>
        refine absurd ?_ gone
        have h := after_app (T := tx) (A := ds.take i) (B := ds.drop i) (r := r) (g := g)
        rw [List.take_append_drop, e] at h
        exact h
    have spots : ∀ i, ∀ q ∈ (r, g) :: trailL tx r g (ds.take i), SpotIn tx q ∧ ∀ x, q.2 = some x → x < 60 := fun i q hq => by
      have okt : AllOk (ds.take i) := fun c hc => go.ok c (List.mem_of_mem_take hc)
      rcases List.mem_cons.mp hq with e | h
      · rw [e]
        exact ⟨hin, hg60⟩
      · exact ⟨trail_in nn okt hin q h, trail_sm hT60 okt hg60 q h⟩
    have show_ : ∀ i, (heldD tx ((r, g) :: trailL tx r g (ds.take i))).showable = true ∧ (heldD tx ((r, g) :: trailL tx r g (ds.take i))).hasDict = false ∧ (heldD tx ((r, g) :: trailL tx r g (ds.take i))).depth ≤ 60 ∧ (heldD tx ((r, g) :: trailL tx r g (ds.take i))).shown.length ≤ sizeLine := fun i => by
      refine held_show (fun x hx => ?_) (fun q hq => ⟨?_, fun x hx => ?_⟩) (by omega) ?_
      · have := hT60 x hx
        show x.natAbs < 2 ^ 120
        omega
      · obtain ⟨⟨h0, h1, _⟩, _⟩ := spots i q hq
        show q.1.natAbs < 2 ^ 120
        omega
      · obtain ⟨⟨_, _, h2⟩, h3⟩ := spots i q hq
        have a := h2 x hx
        have b := h3 x hx
        show x.natAbs < 2 ^ 120
        omega
      · have h1 := trail_len (T := tx) (cs := ds.take i) (r := r) (g := g)
        rw [List.length_take] at h1
        show (trailL tx r g (ds.take i)).length + 1 ≤ 60
        omega
    refine ⟨_, rfl, kl, rfl, ⟨_, SqL.of B0.hk⟩, for_list (K := K) (a := kl) (xs := xs) (fun i σ H' => ∃ (v9 : Option V) (ys : List V) (ls : List (Addr × Addr × Addr)), σ = [some (.ref a), some (.ref l0), some (.ref l), some (.ref b), some (.bl bn), some (.ref x), some (.ref kl), some (.ref hd), some (.ref kt), v9, none, none, none, none, none, none, none] ∧
        Bs K H H' a (n + 500) x CD dx tl cl l b kl tx r g ys ((r, g) :: trailL tx r g (ds.take i)) xs ds ∧ Hs K H H' [a, l, kl, tl, cl] hd kt tx (fun j => (r, g) :: trailL tx r g (ds.take j)) ls ∧ ls.length = i)
      ⟨none, [.ref b0], [], rfl, by rw [List.take_zero]; exact B0, ⟨hhd, hkt, (fun j z h => by simp at h), (fun z h => nomatch h), fun z h => nomatch h⟩, rfl⟩ (fun i σ H' _ ⟨_, _, _, _, B, _⟩ => SqL.of B.hk) (fun i v σ H' hi h => ?_) (fun σ H' h => ?_)⟩
    · obtain ⟨v9, ys, ls, rfl, B, S, ll⟩ := h
      obtain ⟨c, hci, hca⟩ := paired_at B.hc hi
      have li : i < ds.length := (List.getElem?_eq_some_iff.mp hci).1
      have ly := B.E.sp.len
      have lt := trail_len (T := tx) (cs := ds.take i) (r := r) (g := g)
      rw [List.length_take] at lt
      refine ⟨_, rfl, .inl ⟨rfl, _, SqL.of S.hhd⟩, _, rfl, x, dx, _, rfl, B.E.ed, x, dx, tl, cl, tx, rfl, B.E.ed, B.E.ht, fun H1 t1 e1 nt1 ht1 => ?_⟩
      have n1 := B.new nt1
      have n1d : t1 ≠ hd := (ne_of_none S.hhd nt1).symm
      have n1k : t1 ≠ kt := (ne_of_none S.hkt nt1).symm
      have n1z : ∀ z ∈ ls, z.1 ≠ t1 := fun z hz => by
        obtain ⟨j, hj⟩ := List.mem_iff_getElem?.mp hz
        exact ne_of_none (S.at_ j z hj).1 nt1
      replace B := B.same e1
      replace S := S.same e1
      refine ⟨_, rfl, x, dx, _, rfl, B.E.ed, rfl, x, dx, tl, cl, ys, rfl, B.E.ed, B.E.hc, (by rw [ly]; show (trailL tx r g (ds.take i)).length + 1 ≤ 50000; omega), fun c1 nc1 => ?_⟩
      have n2 := B.new nc1
      have n2d : c1 ≠ hd := (ne_of_none S.hhd nc1).symm
      have n2k : c1 ≠ kt := (ne_of_none S.hkt nc1).symm
      have n2z : ∀ z ∈ ls, z.1 ≠ c1 := fun z hz => by
        obtain ⟨j, hj⟩ := List.mem_iff_getElem?.mp hz
        exact ne_of_none (S.at_ j z hj).1 nc1
      have e2 := new_same (o := HO.lst ys) nc1
      have hc1 : (upd H1 c1 (.lst ys)) c1 = some (.lst ys) := upd_same
      replace B := B.same e2
      replace S := S.same e2
      replace ht1 := e2 _ _ ht1
      clear e2 e1
      generalize upd H1 c1 (.lst ys) = H2 at B S ht1 hc1 ⊢
      refine ⟨(by show 2 ≤ sizeLine; decide), fun h1 nh1 => ?_⟩
      have n3 := B.new nh1
      have n3d : h1 ≠ hd := (ne_of_none S.hhd nh1).symm
      have n3k : h1 ≠ kt := (ne_of_none S.hkt nh1).symm
      have n3z : ∀ z ∈ ls, h1 ≠ z.2.1 ∧ h1 ≠ z.2.2 := fun z hz => by
        obtain ⟨j, hj⟩ := List.mem_iff_getElem?.mp hz
        obtain ⟨_, q1, ys', q2, _⟩ := S.at_ j z hj
        exact ⟨(ne_of_none q1 nh1).symm, (ne_of_none q2 nh1).symm⟩
      have n3t : h1 ≠ t1 := (ne_of_none ht1 nh1).symm
      have n3c : h1 ≠ c1 := (ne_of_none hc1 nh1).symm
      have e3 := new_same (o := HO.lst [V.ref t1, .ref c1]) nh1
      have hh1 : (upd H2 h1 (.lst [V.ref t1, .ref c1])) h1 = some (.lst [V.ref t1, .ref c1]) := upd_same
      replace B := B.same e3
      replace S := S.same e3
      replace ht1 := e3 _ _ ht1
      replace hc1 := e3 _ _ hc1
      clear e3
      generalize upd H2 h1 (.lst [V.ref t1, .ref c1]) = H3 at B S ht1 hc1 hh1 ⊢
      refine ⟨hd, _, .ref h1, rfl, rfl, S.hhd, lt_line (by rw [List.length_map]; omega), ?_⟩
      have s4 := S
      have b4 := B.off S.hhd Bn1.2.2.2.2.2 (keep_upd (o := .lst (ls.map (fun z => V.ref z.1) ++ [.ref h1]))) Bn1.1 Bn1.2.1 Bn1.2.2.1 Bn1.2.2.2.1 Bn1.2.2.2.2.1
      have hd4 : (upd H3 hd (.lst (ls.map (fun z => V.ref z.1) ++ [.ref h1]))) hd = some (.lst (ls.map (fun z => V.ref z.1) ++ [.ref h1])) := upd_same
      have kt4 : (upd H3 hd (.lst (ls.map (fun z => V.ref z.1) ++ [.ref h1]))) kt = some (.lst ((List.range ls.length).map fun j => V.str (heldD tx ((r, g) :: trailL tx r g (ds.take j))).shown)) := by rw [upd_ne hk0.symm]; exact S.hkt
      have ht4 : (upd H3 hd (.lst (ls.map (fun z => V.ref z.1) ++ [.ref h1]))) t1 = some (.lst (tx.map V.int)) := by rw [upd_ne n1d]; exact ht1
      have hc4 : (upd H3 hd (.lst (ls.map (fun z => V.ref z.1) ++ [.ref h1]))) c1 = some (.lst ys) := by rw [upd_ne n2d]; exact hc1
      have hh4 : (upd H3 hd (.lst (ls.map (fun z => V.ref z.1) ++ [.ref h1]))) h1 = some (.lst [.ref t1, .ref c1]) := by rw [upd_ne n3d]; exact hh1
      have e34 : ∀ p o, p ≠ hd → H3 p = some o → (upd H3 hd (.lst (ls.map (fun z => V.ref z.1) ++ [.ref h1]))) p = some o := fun p o n e => by rw [upd_ne n]; exact e
      generalize upd H3 hd (.lst (ls.map (fun z => V.ref z.1) ++ [.ref h1])) = H4 at b4 hd4 kt4 ht4 hc4 hh4 e34 ⊢
      obtain ⟨sh1, sh2, sh3, sh4⟩ := show_ i
      have dp4 : Dp K H4 (.ref h1) (heldD tx ((r, g) :: trailL tx r g (ds.take i))) := .lst (SqL.of hh4) (.cons (.lst (SqL.of ht4) (dp_intsE tx)) (.cons (.lst (SqL.of hc4) (spots_dpE b4.E.sp)) .nil))
      refine ⟨_, rfl, .inl ⟨rfl, _, SqL.of kt4⟩, _, rfl, _, rfl, hd, _, _, .ref h1, rfl, rfl, SqL.of hd4, atI_last _ _, h1, _, rfl, dp4, sh1, sh2, sh3, sh4, kt, _, _, rfl, rfl, kt4, lt_line (by rw [List.length_map, List.length_range]; omega), ?_⟩
      have b5 := b4.off kt4 Bn2.2.2.2.2.2 (keep_upd (o := .lst ((List.range ls.length).map (fun j => V.str (heldD tx ((r, g) :: trailL tx r g (ds.take j))).shown) ++ [.str (heldD tx ((r, g) :: trailL tx r g (ds.take i))).shown]))) Bn2.1 Bn2.2.1 Bn2.2.2.1 Bn2.2.2.2.1 Bn2.2.2.2.2.1
      have s5 : Hs K H (upd H4 kt (.lst ((List.range ls.length).map (fun j => V.str (heldD tx ((r, g) :: trailL tx r g (ds.take j))).shown) ++ [.str (heldD tx ((r, g) :: trailL tx r g (ds.take i))).shown]))) [a, l, kl, tl, cl] hd kt tx (fun j => (r, g) :: trailL tx r g (ds.take j)) (ls ++ [(h1, t1, c1)]) := by
        refine s4.more (qs := []) hh1 ht1 hc1 (by rw [ll]; exact B.E.sp) hk0 (fun p hp => ?_) ⟨n3t, n3c⟩ (fun z hz => ⟨(n3z z hz).1, (n3z z hz).2, n1z z hz, n2z z hz⟩) ?_ ?_ fun p o m1 m2 e => ?_
        · rcases hp with rfl | rfl | rfl
          · exact ⟨by simp only [List.mem_cons, List.not_mem_nil, or_false, not_or]; exact ⟨n3.1, n3.2.1, n3.2.2.1, n3.2.2.2.1, n3.2.2.2.2.1⟩, n3d, n3k, n3.2.2.2.2.2⟩
          · exact ⟨by simp only [List.mem_cons, List.not_mem_nil, or_false, not_or]; exact ⟨n1.1, n1.2.1, n1.2.2.1, n1.2.2.2.1, n1.2.2.2.2.1⟩, n1d, n1k, n1.2.2.2.2.2⟩
          · exact ⟨by simp only [List.mem_cons, List.not_mem_nil, or_false, not_or]; exact ⟨n2.1, n2.2.1, n2.2.2.1, n2.2.2.2.1, n2.2.2.2.2.1⟩, n2d, n2k, n2.2.2.2.2.2⟩
        · rw [upd_ne hk0]
          exact hd4
        · rw [upd_same, ll]
        · rw [upd_ne m2]
          exact e34 p o m1 e
      generalize upd H4 kt (.lst ((List.range ls.length).map (fun j => V.str (heldD tx ((r, g) :: trailL tx r g (ds.take j))).shown) ++ [.str (heldD tx ((r, g) :: trailL tx r g (ds.take i))).shown])) = H5 at b5 s5 ⊢
      clear b4 s4 dp4 hd4 kt4 ht4 hc4 hh4 e34 B S ht1 hc1 hh1
      obtain ⟨c', hci', hca'⟩ := paired_at b5.hc hi
      rw [hci] at hci'
      cases hci'
      obtain ⟨⟨rr, gg⟩, hq⟩ := pre i
      obtain ⟨pr, epr, lpr⟩ := trail_last r0 r1 hq
      obtain ⟨⟨r2, g2⟩, hq2⟩ := pre (i + 1)
      have etk : ds.take (i + 1) = ds.take i ++ [c] := by rw [List.take_add_one, hci]; rfl
      have hst : stepP tx rr gg c = some (r2, g2) := by
        rw [etk, after_app, hq] at hq2
        have h2 : afterL tx rr gg [c] = some (r2, g2) := hq2
        rw [afterL_step] at h2
        cases e : stepP tx rr gg c with
        | none =>
          rw [e] at h2
          cases h2
        | some y =>
          rw [e] at h2
          exact h2
      have inr : SpotIn tx (rr, gg) := (spots i (rr, gg) (by rw [epr]; simp)).1
      have etr : (r, g) :: trailL tx r g (ds.take (i + 1)) = (pr ++ [(rr, gg)]) ++ [(r2, g2)] := by
        rw [etk, trail_app r0 r1 hq, ← epr, trail_step (by rw [step_eq inr.1 inr.2.1]; exact hst)]
        rfl
      have okc : c.ok := go.ok c (List.mem_of_getElem? hci)
      refine ⟨_, rfl, x, dx, _, rfl, b5.E.ed, rfl, _, rfl, ?_⟩
      show zPress K CD cs [.ref x, v] H5 _ _
      have E5 := b5.E
      rw [epr] at E5
      refine press1 E5 hca' okc hst nn inr (by rw [lpr, List.length_take]; omega) fun H6 ys6 kp6 E6 => ?_
      rw [← etr] at E6
      refine ⟨_, ys6, ls ++ [(h1, t1, c1)], rfl, b5.press kp6 E6, s5.over b5.E.hc kp6 (by simp) Bn1.2.2.2.2.1 Bn2.2.2.2.2.1, by rw [List.length_append, ll]; rfl⟩
    obtain ⟨v9, ys, ls, rfl, B, S, ll⟩ := h
    have etake : ds.take xs.length = ds := List.take_of_length_le (by omega)
    rw [etake] at B
    have min_ : ls.length = min (ls.map fun z => V.ref z.1).length ((List.range ls.length).map fun j => V.str (heldD tx ((r, g) :: trailL tx r g (ds.take j))).shown).length := by
      rw [List.length_map, List.length_map, List.length_range, Nat.min_self]
    refine ⟨_, rfl, _, rfl, hd, kt, _, _, rfl, .inl ⟨SqL.of S.hhd, SqL.of S.hkt, fun D nD => ?_⟩⟩
    have S0 := S
    refine lc_it (walk_zip (K := K) (a := hd) (b := kt) (xs := ls.map fun z => V.ref z.1) (ys := (List.range ls.length).map fun j => V.str (heldD tx ((r, g) :: trailL tx r g (ds.take j))).shown) min_) (fun i HZ => Same H' HZ ∧ HZ D = some (.lst []))
      ⟨new_same nD, upd_same⟩ (fun i HZ _ h => ⟨h.1.seq (SqL.of S0.hhd), h.1.seq (SqL.of S0.hkt)⟩) (fun i v HZ HY hi h y => ?_) (fun HZ h => ?_)
    · obtain ⟨e, hD⟩ := h
      obtain ⟨T1, x1, y1, rfl, nT, rfl, ex1, ex2⟩ := y
      have ex1' : (ls.map fun z => V.ref z.1)[i]? = some x1 := ex1
      have ex2' : ((List.range ls.length).map fun j => V.str (heldD tx ((r, g) :: trailL tx r g (ds.take j))).shown)[i]? = some y1 := ex2
      rw [List.getElem?_map] at ex1' ex2'
      obtain ⟨z, hz, rfl⟩ := Option.map_eq_some_iff.mp ex1'
      rw [List.getElem?_range hi] at ex2'
      obtain rfl : V.str (heldD tx ((r, g) :: trailL tx r g (ds.take i))).shown = y1 := Option.some.inj ex2'
      have eT := new_same (o := HO.tup [.ref z.1, .str (heldD tx ((r, g) :: trailL tx r g (ds.take i))).shown]) nT
      have eA := e.trans eT
      obtain ⟨q1, q2, ys', q3, q4⟩ := S0.at_ i z hz
      obtain ⟨sh1, sh2, sh3, sh4⟩ := show_ i
      refine ⟨T1, _, rfl, SqT.of upd_same, rfl, _, _, rfl, _, _, rfl, rfl, rfl, ?_⟩
      have dp : Dp K _ (.ref z.1) (heldD tx ((r, g) :: trailL tx r g (ds.take i))) := .lst (SqL.of (eA _ _ q1)) (.cons (.lst (SqL.of (eA _ _ q2)) (dp_intsE tx)) (.cons (.lst (SqL.of (eA _ _ q3)) (spots_dpE (q4.same eA))) .nil))
      refine ⟨_, rfl, z.1, heldD tx ((r, g) :: trailL tx r g (ds.take i)), rfl, dp, sh1, sh2, sh3, sh4, _, rfl, rfl, false, by simp, iteF ?_⟩
      exact ⟨eA, eT _ _ hD⟩
    obtain ⟨eZ, hDZ⟩ := h
    replace B := B.same eZ
    replace S := S.same eZ
    clear S0 eZ nD
    refine ⟨(by show 0 ≤ sizeLine; decide), fun p np => ?_⟩
    have eP := new_same (o := HO.lst []) np
    replace B := B.same eP
    replace S := S.same eP
    replace hDZ := eP _ _ hDZ
    have hp : (upd HZ p (.lst [])) p = some (.lst []) := upd_same
    clear eP np
    generalize upd HZ p (.lst []) = HY at B S hDZ hp ⊢
    refine ⟨.list [], .list [], .lst (SqL.of hDZ) .nil, .lst (SqL.of hp) .nil, rfl, rfl, false, by simp [PyData.eqv, PyData.eqvAll], iteF ?_⟩
    refine ⟨_, rfl, hd, rfl, ⟨_, SqL.of S.hhd⟩, for_list (K := K) (a := hd) (xs := ls.map fun z => V.ref z.1) (fun i σ H' => ∃ v10 : Option V, σ = [some (.ref a), some (.ref l0), some (.ref l), some (.ref b), some (.bl bn), some (.ref x), some (.ref kl), some (.ref hd), some (.ref kt), v9, v10, none, none, none, none, none, none] ∧
        Bs K H H' a (n + 500) x CD dx tl cl l b kl tx r g ys ((r, g) :: trailL tx r g ds) xs ds ∧ Ms H' hd ls (6 + 2 * i))
      ⟨none, rfl, B, ⟨S.hhd, fun z hz => ?_⟩⟩ (fun i σ H' _ ⟨_, _, _, M⟩ => SqL.of M.hhd) (fun i v σ H' hi h => ?_) (fun σ H' h => ?_)⟩
    · obtain ⟨j, hj⟩ := List.mem_iff_getElem?.mp hz
      obtain ⟨q1, q2, ys', q3, _⟩ := S.at_ j z hj
      exact ⟨q1, ⟨_, q2, by rw [List.length_map]; omega⟩, ys', q3⟩
    · obtain ⟨v10, rfl, B, M⟩ := h
      rw [List.getElem?_map] at hi
      obtain ⟨z, hz, rfl⟩ := Option.map_eq_some_iff.mp hi
      have zm := List.mem_of_getElem? hz
      have il : i < ls.length := (List.getElem?_eq_some_iff.mp hz).1
      obtain ⟨q1, ⟨w1, q2, lw⟩, w2, q3⟩ := M.at_ z zm
      have aw1 := S.away z zm z.2.1 (.inr (.inl rfl))
      have aw2 := S.away z zm z.2.2 (.inr (.inr rfl))
      simp only [List.mem_cons, List.not_mem_nil, or_false, not_or] at aw1 aw2
      refine ⟨_, rfl, z.1, _, 0, .ref z.2.1, rfl, rfl, SqL.of q1, rfl, .inl ⟨rfl, _, SqL.of q2⟩, z.2.1, w1, .int 7, rfl, rfl, q2, lt_line (by omega), ?_⟩
      have B2 := B.off q2 aw1.2.2.2 (keep_upd (o := .lst (w1 ++ [.int 7]))) aw1.1.1 aw1.1.2.1 aw1.1.2.2.1 aw1.1.2.2.2.1 aw1.1.2.2.2.2
      have M2 := M.write (p := z.2.1) (w := w1 ++ [.int 7]) aw1.2.1.symm (fun z' hz' => (S.apart z' hz' z zm).1) (by rw [List.length_append]; show w1.length + 1 ≤ _; omega)
      generalize upd H' z.2.1 (.lst (w1 ++ [.int 7])) = H2 at B2 M2 ⊢
      obtain ⟨p1, _, w3, p3⟩ := M2.at_ z zm
      refine ⟨_, rfl, z.1, _, 1, .ref z.2.2, rfl, rfl, SqL.of p1, rfl, .inl ⟨rfl, _, SqL.of p3⟩, z.2.2, w3, rfl, rfl, p3, ?_⟩
      have B3 := B2.off p3 aw2.2.2.2 (keep_upd (o := .lst [])) aw2.1.1 aw2.1.2.1 aw2.1.2.2.1 aw2.1.2.2.2.1 aw2.1.2.2.2.2
      have M3 := M2.write (p := z.2.2) (w := []) aw2.2.1.symm (fun z' hz' => (S.apart z' hz' z zm).2) (by simp)
      exact ⟨_, rfl, B3, M3⟩
    obtain ⟨v10, rfl, B, _⟩ := h
    refine ⟨_, rfl, _, rfl, (by show 1 ≤ sizeLine; decide), fun s0 ns0 => ?_⟩
    have eS := new_same (o := HO.lst [V.ref b]) ns0
    have hs0 : (upd H' s0 (.lst [V.ref b])) s0 = some (.lst [V.ref b]) := upd_same
    replace B := B.same eS
    clear eS ns0 S
    generalize upd H' s0 (.lst [V.ref b]) = HE at B hs0 ⊢
    refine ⟨_, rfl, l, s0, kl, tx, r, g, [.ref b], xs, [], ds, rfl, SqL.of B.hl, SqL.of hs0, .cons ⟨b, rfl, B.hb⟩ .nil, SqL.of B.hk, B.hc, r0, r1, go.ok, go.nb, Nat.zero_le _, by omega, fun n e => (by rw [go.go] at e; cases e), fun _ HF tr us eT ntr htr hus => ?_⟩
    replace hus : SpotsOf K HF us ((r, g) :: trailL tx r g ds) := hus
    replace B := B.same eT
    clear eT hs0
    have spd : ∀ q ∈ (r, g) :: trailL tx r g ds, SpotIn tx q := fun q hq => (spots ds.length q (by rw [List.take_length]; exact hq)).1
    have lend : ((r, g) :: trailL tx r g ds).length ≤ 10000 := by
      have h1 := trail_len (T := tx) (cs := ds) (r := r) (g := g)
      show (trailL tx r g ds).length + 1 ≤ 10000
      omega
    refine ⟨_, rfl, _, rfl, _, rfl, ask_toldR B.E (SqL.of B.hl) (SqL.of htr) hus (by simp) spd lend fun HG eG => ⟨_, rfl, iteF ?_⟩⟩
    replace B := B.same eG
    replace htr := eG _ _ htr
    replace hus := hus.same eG
    clear eG
    refine ⟨x, dx, cl, _, ys, rfl, B.E.ed, rfl, rfl, B.E.hc, fun H2 D2 Ls eL nD2 hD2 pr => ?_⟩
    replace eL : Same HG H2 := eL
    replace B := B.same eL
    replace htr := eL _ _ htr
    replace hus := hus.same eL
    clear eL nD2
    have lus : us.length ≤ 13 := by
      have h1 := trail_len (T := tx) (cs := ds) (r := r) (g := g)
      have h2 := hus.len
      rw [List.length_cons] at h2
      omega
    refine ⟨_, rfl, tr, rfl, ⟨_, SqL.of htr⟩, fun D nD => ?_⟩
    refine lc_list (K := K) (a := tr) (xs := us) (fun i H' => ∃ L2 : List V, Same H2 H' ∧ H' D = some (.lst L2) ∧ Paired (fun v x => ∃ p, v = .ref p ∧ p ≠ D ∧ H' p = some (.lst [x, x])) L2 (us.take i))
      ⟨[], new_same nD, upd_same, .nil⟩ (fun i H' _ ⟨_, e, _⟩ => e.seq (SqL.of htr)) (fun i v H' hi h => ?_) (fun H' h => ?_)
    · obtain ⟨L2, e, hD, pL⟩ := h
      have lL := Paired.length pL
      rw [List.length_take] at lL
      refine ⟨rfl, ?_⟩
      refine ⟨_, rfl, _, rfl, (by show 2 ≤ sizeLine; decide), fun p np => ?_⟩
      have f := new_same (o := HO.lst [v, v]) np
      have hp2 : (upd H' p (.lst [v, v])) p = some (.lst [v, v]) := upd_same
      have hD' := f _ _ hD
      have pD : p ≠ D := (ne_of_none hD np).symm
      generalize upd H' p (.lst [v, v]) = H4 at f hp2 hD' ⊢
      refine ⟨L2, hD', lt_line (by omega), L2 ++ [.ref p], same_freeU (e.trans f) nD, upd_same, ?_⟩
      rw [List.take_add_one, hi]
      exact paired_app (Paired.mapP pL fun _ _ ⟨q, eq, qD, hq⟩ => ⟨q, eq, qD, by rw [upd_ne qD]; exact f _ _ hq⟩) (.cons ⟨p, rfl, pD, by rw [upd_ne pD]; exact hp2⟩ .nil)
    obtain ⟨L2, e, hD, pL⟩ := h
    rw [List.take_length] at pL
    replace B := B.same e
    replace htr := e _ _ htr
    replace hus := hus.same e
    have pr2 : Paired (fun v x => ∃ p, v = .ref p ∧ H' p = some (.lst [x, x])) Ls ys := Paired.mapP pr fun _ _ ⟨q, eq, hq⟩ => ⟨q, eq, e _ _ hq⟩
    have pL2 : Paired (fun v x => ∃ p, v = .ref p ∧ H' p = some (.lst [x, x])) L2 us := Paired.mapP pL fun _ _ ⟨q, eq, _, hq⟩ => ⟨q, eq, hq⟩
    refine ⟨twoD _, twoD _, .lst (SqL.of (e _ _ hD2)) (two_dp pr2 B.E.sp), .lst (SqL.of hD) (two_dp pL2 hus), two_shaped _, two_shaped _, false, by rw [two_eqv]; rfl, iteF ?_⟩
    clear e hD pL pr2 pL2 pr hD2 nD
    refine ⟨_, rfl, _, rfl, fun x2 dx2 nx nd ne => ?_⟩
    refine ask_made nx nd ne (SqL.of B.hl) B.hb nn hin fun H8 tl2 cl2 e8 ntl ncl2 tc2 E2 => ⟨rfl, ?_⟩
    have n2 := B.new ncl2
    have tr2 : tr ≠ cl2 := ne_of_none htr ncl2
    replace B := B.same e8
    replace htr := e8 _ _ htr
    replace hus := hus.same e8
    clear e8 ntl ncl2 nx nd ne
    refine ⟨_, rfl, kl, xs, rfl, .inl (SqL.of B.hk), 0, (xs.length : Int), 4, parts4 xs.length, rfl, parts4_rg (by omega), for_it walk_rangeC (fun i σ H' => ∃ (v13 : Option V) (ws : List V), σ = [some (.ref a), some (.ref l0), some (.ref l), some (.ref b), some (.bl bn), some (.ref x), some (.ref kl), some (.ref hd), some (.ref kt), v9, v10, some (.ref tr), some (.ref x2), v13, none, none, none] ∧
        Bs K H H' a (n + 500) x CD dx tl cl l b kl tx r g ys ((r, g) :: trailL tx r g ds) xs ds ∧ EdSt K H' x2 CD dx2 tl2 cl2 tx ws ((r, g) :: trailL tx r g (ds.take (4 * i))) ∧ H' tr = some (.lst us) ∧ SpotsOf K H' us ((r, g) :: trailL tx r g ds))
      ⟨none, [.ref b], rfl, B, by rw [Nat.mul_zero, List.take_zero]; exact E2, htr, hus⟩ (fun _ _ _ _ _ => True.intro) (fun i v σ H1 H2 hi h y => ?_) (fun σ H' h => ?_)⟩
    · obtain ⟨v13, ws, rfl, B, E2, htr, hus⟩ := h
      obtain ⟨rfl, rfl⟩ := y
      obtain ⟨⟨rr, gg⟩, hq⟩ := pre (4 * i)
      obtain ⟨pr, epr, lpr⟩ := trail_last r0 r1 hq
      rw [List.length_take] at lpr
      have inr : SpotIn tx (rr, gg) := (spots (4 * i) (rr, gg) (by rw [epr]; simp)).1
      have etk : ds.take (4 * (i + 1)) = ds.take (4 * i) ++ (ds.drop (4 * i)).take 4 := by rw [Nat.mul_add, Nat.mul_one, List.take_add]
      have go2 : failAt tx rr gg ((ds.drop (4 * i)).take 4) = none := fail_none.mpr (fun z => by
        obtain ⟨q', hq'⟩ := pre (4 * (i + 1))
        rw [etk, after_app, hq] at hq'
        have hq2 : afterL tx rr gg ((ds.drop (4 * i)).take 4) = some q' := hq'
        rw [z] at hq2
        cases hq2)
      have okd : ∀ c ∈ (ds.drop (4 * i)).take 4, c.ok := fun c hc => go.ok c (List.mem_of_mem_drop (List.mem_of_mem_take hc))
      have etr : (r, g) :: trailL tx r g (ds.take (4 * (i + 1))) = (pr ++ [(rr, gg)]) ++ trailL tx rr gg ((ds.drop (4 * i)).take 4) := by
        rw [etk, trail_app r0 r1 hq, ← epr]
        rfl
      refine ⟨_, rfl, _, rfl, _, rfl, _, rfl, _, rfl, _, _, rfl, rfl, _, rfl, kl, xs, rfl, SqL.of B.hk, fun s3 ns3 => ?_⟩
      rw [cut4]
      have e3 := new_same (o := HO.lst ((xs.drop (4 * i)).take 4)) ns3
      have hs3 : (upd H2 s3 (.lst ((xs.drop (4 * i)).take 4))) s3 = some (.lst ((xs.drop (4 * i)).take 4)) := upd_same
      replace B := B.same e3
      replace E2 := E2.same e3
      replace htr := e3 _ _ htr
      replace hus := hus.same e3
      generalize upd H2 s3 (.lst ((xs.drop (4 * i)).take 4)) = H3 at B E2 htr hus hs3 ⊢
      have hch : RawsOf K H3 ((xs.drop (4 * i)).take 4) (((ds.drop (4 * i)).take 4).map rawOf) := raws_of (paired_take 4 (paired_drop (4 * i) B.hc))
      rw [epr] at E2
      have gd := back_in okd
      have bc := back_cmd ((ds.drop (4 * i)).take 4)
      rw [zPressed_eq]
      refine ⟨x2, dx2, tl2, cl2, s3, tx, rr, gg, ws, _, pr, ((ds.drop (4 * i)).take 4).map rawOf, rfl, E2, SqL.of hs3, hch, by rw [List.length_map, List.length_take]; omega, nn, inr, by omega, (fun j hj => by rw [gd] at hj; cases hj), (fun _ j hj => by rw [bc, go2] at hj; cases hj), fun H6 zs _ _ kp E6 => ?_⟩
      rw [bc, ← etr] at E6
      exact ⟨_, _, rfl, B.off E2.hc n2.2.2.2.2.2 kp n2.1.symm.symm n2.2.1 n2.2.2.1 n2.2.2.2.1 n2.2.2.2.2.1, E6, kp _ _ tr2 tr2 htr, spots_keepL E2.hc kp hus⟩
    obtain ⟨v13, ws, rfl, B, E2, htr, hus⟩ := h
    have etake : ds.take (4 * parts4 xs.length) = ds := List.take_of_length_le (by unfold parts4; omega)
    rw [etake] at E2
    refine ⟨_, rfl, _, rfl, _, rfl, ask_toldR E2 (SqL.of B.hl) (SqL.of htr) hus (by simp) spd lend fun H9 e9 => ?_⟩
    replace B := B.same e9
    replace E2 := E2.same e9
    replace htr := e9 _ _ htr
    replace hus := hus.same e9
    refine ⟨_, rfl, iteF ⟨_, rfl, _, rfl, x2, dx2, _, x, dx, _, rfl, rfl, E2.ed, B.E.ed, ?_⟩⟩
    refine ask_eqT E2 B.E (by simp) ⟨_, rfl, iteF ?_⟩
    refine ⟨_, rfl, _, rfl, _, rfl, ask_toldR B.E (SqL.of B.hl) (SqL.of htr) hus (by simp) spd lend fun HZ eZ => ?_⟩
    exact k HZ (B.kp.same1 eZ) ((B.R.same eZ).more (by omega))
end
end Gc

namespace Gc
open PySem L2
abbrev s_law : Stmt := top 38
structure TxtL (mg : Str → Option Value) : Prop where
  max : mg "max" = none
  min : mg "min" = none
  len : mg "len" = none
  range : mg "range" = none
def spLaw (K : PySem.W.Frag) : Sp := fun vs H Q _ => ∃ (a : Addr) (ns : List Int), vs = [.ref a] ∧ SqL K H a (ns.map V.int) ∧ ns.length ≤ 63 ∧ ∀ H', Q (.bl true) H'
@[irreducible] def zR23 (K : PySem.W.Frag) : Sp := spRight23 K
theorem zR23_eq (K : PySem.W.Frag) : zR23 K = spRight23 K := by unfold zR23; rfl
theorem ask_r23 {K : PySem.W.Frag} {H : Hp} {Q : VK} {E : XK} {a : Addr} {n : Nat} (R : Rng H a n) (hn : n < 2 ^ 35) (k : ∀ H', Keep a a H H' → Rng H' a (n + 1000) → Q (.bl true) H') : zR23 K [.ref a] H Q E := by
  rw [zR23_eq]
  exact ⟨a, n, rfl, R, hn, k⟩
theorem sq_keep {K : PySem.W.Frag} {H H1 H2 : Hp} {s p : Addr} {xs : List V} (h : SqL K H s xs) (hp : H p = none) (e : Same H H1) (kp : Keep p p H1 H2) : SqL K H2 s xs := by
  rcases h with (z | ⟨o, z⟩) | z
  · exact .inl (.inl (kp _ _ (ne_of_none z hp) (ne_of_none z hp) (e _ _ z)))
  · exact .inl (.inr ⟨o, kp _ _ (ne_of_none z hp) (ne_of_none z hp) (e _ _ z)⟩)
  · exact .inr z
section
variable {P : Program} {w : World} {K : PySem.W.Frag} {mg : Str → Option Value} {base : Heap}
theorem sc_law : FnScope ["script", "at", "pool", "turn"] ["script"] (defScope s_law) := ⟨rfl, rfl, rfl, by decide +kernel, rfl, by decide +kernel, by decide +kernel⟩
theorem ok_law {f : Addr} {fd : FuncData} (F : Fun K "law" "law" s_law f fd) (T : TxtL mg) (c_law_pool : Cal P w K mg base 1 "_law_pool" (spPool K)) (c_law_right : CalG P w K mg base 11 "_law_right" (zR23 K)) :
    FnG P w K mg base 12 f fd ["script"] (spLaw K) := by
  refine okG F sc_law (fun vs H Q E h => ?_) (fun cdv A outer s H vs Q E hg hr h => ?_)
  · obtain ⟨a, ns, rfl, _⟩ := h
    rfl
  · obtain ⟨a, ns, rfl, hS, hlen, k⟩ := h
    refine ⟨_, (pss_cons (ps_for PassesOwn.never rfl (pi_range1 rfl T.range (pa_cons (pe_callB (call_max2 rfl) (by rfl) T.max (by decide +kernel) (pa_cons pe_int (pa_cons (pe_callB (call_min2 rfl) (by rfl) T.min (by decide +kernel) (pa_cons pe_int (pa_cons (pe_callB call_len_seq (by rfl) T.len (by decide +kernel) (pa_cons (pv 0) pa_nil)) pa_nil))) pa_nil))) pa_nil)) (pg_name (i := 1) sc_law.nd rfl (Or.inl rfl)) (pss_cons (ps_set (i := 2) sc_law.nd rfl (Or.inl rfl) (pe_cal c_law_pool hr (by decide) (by rfl) (pa_cons (pv 0) (pa_cons (pv 1) pa_nil))))
      (pss_one (ps_for PassesOwn.never rfl (pi_range1 rfl T.range (pa_cons pe_int pa_nil)) (pg_name (i := 3) sc_law.nd rfl (Or.inl rfl)) (pss_one (ps_if (pt_not (pt_val (pe_calG c_law_right hg hr (by decide) (by rfl) (pa_cons (pv 2) pa_nil)))) (pss_one (ps_ret pe_bl)) pss_nil))))))
      (pss_one (ps_ret pe_bl))), ?_⟩
    refine ⟨_, rfl, a, _, rfl, .inl hS, _, _, rfl, _, _, rfl, _, rfl, ?_⟩
    have h8 : (0 : Int) ≤ (if ((ns.map V.int).length : Int) < 6 then ((ns.map V.int).length : Int) else 6) ∧ (if ((ns.map V.int).length : Int) < 6 then ((ns.map V.int).length : Int) else 6) ≤ 6 := by split <;> omega
    generalize (if ((ns.map V.int).length : Int) < 6 then ((ns.map V.int).length : Int) else 6) = z at h8 ⊢
    have h9 : 1 ≤ (if z > 1 then z else 1) ∧ (if z > 1 then z else 1) ≤ 6 := by split <;> omega
    generalize (if z > 1 then z else 1) = y at h9 ⊢
    refine ⟨by omega, by omega, for_range (lo := 0) (fun i σ H' => ∃ v1 v2 v3 : Option V, σ = [some (.ref a), v1, v2, v3] ∧ SqL K H' a (ns.map V.int)) ⟨none, none, none, rfl, hS⟩ (fun i σ H1 hi h => ?_) (fun σ H1 h => ?_)⟩
    · obtain ⟨v1, v2, v3, rfl, hS1⟩ := h
      refine ⟨_, rfl, _, rfl, a, ns, i, (by rw [Int.zero_add]; rfl), hS1, hlen, by omega, fun H2 p e2 np R2 => ?_⟩
      refine ⟨4, rfl, by decide, by decide, for_range (lo := 0) (n := 4) (fun j σ H' => ∃ v3 : Option V, σ = [some (.ref a), some (.int (0 + (i : Int))), some (.ref p), v3] ∧ SqL K H' a (ns.map V.int) ∧ Keep p p H2 H' ∧ Rng H' p (1000 * j)) ⟨v3, rfl, e2.seq hS1, Keep.refl _, R2⟩ (fun j σ H3 hj h => ?_) (fun σ H3 h => ?_)⟩
      · obtain ⟨w3, rfl, hS3, kp3, R3⟩ := h
        refine ⟨_, rfl, ask_r23 R3 (by omega) fun H4 kp4 R4 => ⟨_, rfl, iteF ?_⟩⟩
        exact ⟨_, rfl, sq_keep hS1 np e2 (kp3.trans kp4), kp3.trans kp4, R4.more (by omega)⟩
      · obtain ⟨w3, rfl, hS3, _⟩ := h
        exact ⟨_, _, _, rfl, hS3⟩
    · exact k _
end
end Gc

/-! the __init__ of the errors -/
namespace Gc
open PySem L2
theorem kit_own {K : PySem.W.Frag} {C D : Addr} {b : Bool} (h1 : PySem.W.isClsIn K D = true) (h2 : PySem.W.typeIn K (.ref D) = some (.type "type"))
    (h3 : PySem.W.subIn K (.ref C) (.ref D) = some b) (hr : PySem.W.subIn K (.ref C) (.ref C) = some true) : PySem.W.kitOne K (.ref C) (.ref D) = some b := by
  unfold PySem.W.kitOne
  split
  · rename_i e
    have z : C = D := Value.ref.inj (beq_iff_eq.mp e)
    subst z
    exact hr.symm.trans h3
  · show (if ((PySem.W.clsIn K D).isSome && PySem.W.typeIn K (.ref D) == some (.type "type")) = true then PySem.W.subIn K (.ref C) (.ref D) else none) = some b
    have h1' : (PySem.W.clsIn K D).isSome = true := h1
    rw [h1', h2]
    exact h3
theorem kit_bl {K : PySem.W.Frag} {C : Addr} {T : String} {b : Bool} (hm : PySem.W.kitMeta T = true) (h : PySem.W.subIn K (.ref C) (.type T) = some b) : PySem.W.kitOne K (.ref C) (.type T) = some b := by
  unfold PySem.W.kitOne
  rw [if_neg (by intro e; cases beq_iff_eq.mp e)]
  show (if PySem.W.kitMeta T = true then PySem.W.subIn K (.ref C) (.type T) else none) = some b
  rw [if_pos hm]
  exact h
section
variable {P : Program} {w : World} {K : PySem.W.Frag} {mg : Str → Option Value} {base : Heap}
abbrev sI0 : Stmt := inClass (top 3) 0
theorem sc_I0 : FnScope ["self", "value"] ["self", "value"] (defScope sI0) := ⟨rfl, rfl, rfl, by decide +kernel, rfl, by decide +kernel, by decide +kernel⟩
theorem errc_I0 {fI C : Addr} {fd : FuncData} (F : Fun K "__init__" "InvalidText.__init__" sI0 fI fd) (T : OexC K C) (g : mg "InvalidText" = some (.ref C)) (no : PySem.W.findIn K (.ref C) "value" = some none)
    (iC : PySem.W.findIn K (.ref C) "__init__" = some (some (.ref fI))) (tI : PySem.W.typeIn K (.ref fI) = some (.type "function")) : ErrC P w K mg base "InvalidText" C := by
  have ok : FnOk P w K mg base CX0 1 fI fd ["self", "value"] (spKeep C) := by
    refine F.ok sc_I0 (fun vs H Q E h => ?_) (fun cdv A outer s H vs Q E hr h => ?_)
    · obtain ⟨a, v, rfl, _⟩ := h
      rfl
    · obtain ⟨a, v, rfl, ha, k⟩ := h
      refine ⟨_, pss_one (ps_ost (pv 0) (pv 1)), ?_⟩
      exact ⟨_, rfl, _, rfl, a, C, rfl, T, no, .inl ⟨ha, fun dx hd ne => k dx hd ne⟩⟩
  exact ⟨T, g, no, fI, fd, iC, tI, ok, F.binds (ps := ["self", "value"]) fun _ _ _ _ _ _ us hl => match us, hl with | [_, _], _ => rfl⟩
abbrev sI1 : Stmt := inClass (top 4) 0
theorem sc_I1 : FnScope ["self", "value"] ["self", "value"] (defScope sI1) := ⟨rfl, rfl, rfl, by decide +kernel, rfl, by decide +kernel, by decide +kernel⟩
theorem errc_I1 {fI C : Addr} {fd : FuncData} (F : Fun K "__init__" "InvalidCursor.__init__" sI1 fI fd) (T : OexC K C) (g : mg "InvalidCursor" = some (.ref C)) (no : PySem.W.findIn K (.ref C) "value" = some none)
    (iC : PySem.W.findIn K (.ref C) "__init__" = some (some (.ref fI))) (tI : PySem.W.typeIn K (.ref fI) = some (.type "function")) : ErrC P w K mg base "InvalidCursor" C := by
  have ok : FnOk P w K mg base CX0 1 fI fd ["self", "value"] (spKeep C) := by
    refine F.ok sc_I1 (fun vs H Q E h => ?_) (fun cdv A outer s H vs Q E hr h => ?_)
    · obtain ⟨a, v, rfl, _⟩ := h
      rfl
    · obtain ⟨a, v, rfl, ha, k⟩ := h
      refine ⟨_, pss_one (ps_ost (pv 0) (pv 1)), ?_⟩
      exact ⟨_, rfl, _, rfl, a, C, rfl, T, no, .inl ⟨ha, fun dx hd ne => k dx hd ne⟩⟩
  exact ⟨T, g, no, fI, fd, iC, tI, ok, F.binds (ps := ["self", "value"]) fun _ _ _ _ _ _ us hl => match us, hl with | [_, _], _ => rfl⟩
abbrev sI2 : Stmt := inClass (top 5) 0
theorem sc_I2 : FnScope ["self", "value"] ["self", "value"] (defScope sI2) := ⟨rfl, rfl, rfl, by decide +kernel, rfl, by decide +kernel, by decide +kernel⟩
theorem errc_I2 {fI C : Addr} {fd : FuncData} (F : Fun K "__init__" "InvalidCommand.__init__" sI2 fI fd) (T : OexC K C) (g : mg "InvalidCommand" = some (.ref C)) (no : PySem.W.findIn K (.ref C) "value" = some none)
    (iC : PySem.W.findIn K (.ref C) "__init__" = some (some (.ref fI))) (tI : PySem.W.typeIn K (.ref fI) = some (.type "function")) : ErrC P w K mg base "InvalidCommand" C := by
  have ok : FnOk P w K mg base CX0 1 fI fd ["self", "value"] (spKeep C) := by
    refine F.ok sc_I2 (fun vs H Q E h => ?_) (fun cdv A outer s H vs Q E hr h => ?_)
    · obtain ⟨a, v, rfl, _⟩ := h
      rfl
    · obtain ⟨a, v, rfl, ha, k⟩ := h
      refine ⟨_, pss_one (ps_ost (pv 0) (pv 1)), ?_⟩
      exact ⟨_, rfl, _, rfl, a, C, rfl, T, no, .inl ⟨ha, fun dx hd ne => k dx hd ne⟩⟩
  exact ⟨T, g, no, fI, fd, iC, tI, ok, F.binds (ps := ["self", "value"]) fun _ _ _ _ _ _ us hl => match us, hl with | [_, _], _ => rfl⟩
abbrev sI3 : Stmt := inClass (top 6) 0
theorem sc_I3 : FnScope ["self", "value"] ["self", "value"] (defScope sI3) := ⟨rfl, rfl, rfl, by decide +kernel, rfl, by decide +kernel, by decide +kernel⟩
theorem errc_I3 {fI C : Addr} {fd : FuncData} (F : Fun K "__init__" "Impossible.__init__" sI3 fI fd) (T : OexC K C) (g : mg "Impossible" = some (.ref C)) (no : PySem.W.findIn K (.ref C) "value" = some none)
    (iC : PySem.W.findIn K (.ref C) "__init__" = some (some (.ref fI))) (tI : PySem.W.typeIn K (.ref fI) = some (.type "function")) : ErrC P w K mg base "Impossible" C := by
  have ok : FnOk P w K mg base CX0 1 fI fd ["self", "value"] (spKeep C) := by
    refine F.ok sc_I3 (fun vs H Q E h => ?_) (fun cdv A outer s H vs Q E hr h => ?_)
    · obtain ⟨a, v, rfl, _⟩ := h
      rfl
    · obtain ⟨a, v, rfl, ha, k⟩ := h
      refine ⟨_, pss_one (ps_ost (pv 0) (pv 1)), ?_⟩
      exact ⟨_, rfl, _, rfl, a, C, rfl, T, no, .inl ⟨ha, fun dx hd ne => k dx hd ne⟩⟩
  exact ⟨T, g, no, fI, fd, iC, tI, ok, F.binds (ps := ["self", "value"]) fun _ _ _ _ _ _ us hl => match us, hl with | [_, _], _ => rfl⟩
end
end Gc

namespace Gc
open PySem L2
theorem all_mk {l : PySem.W.OpenLaw} {w : World} {K : PySem.W.Frag} {h : Heap} {mg : Str → Option Value} {fa : Addr} (X : K.In h) (G : h.Ns mainGlobals mg) (hfa : mg "law" = some (.ref fa))
    {wn wo : Addr} {odN odO : Option Addr} {nN nO : Nat} {slN slO : Array (Option Value)} {tn0 tn1 tn2 tn3 to0 to1 : Tok}
    {f_is_count : Addr} {oc_is_count kV_is_count dc_is_count pm_is_count cd_is_count ct_is_count : Value} {od_is_count an_is_count : Option Addr} {sl_is_count : Array (Option Value)}
    {f_is_command : Addr} {oc_is_command kV_is_command dc_is_command pm_is_command cd_is_command ct_is_command : Value} {od_is_command an_is_command : Option Addr} {sl_is_command : Array (Option Value)}
    {f_check_commands : Addr} {oc_check_commands kV_check_commands dc_check_commands pm_check_commands cd_check_commands ct_check_commands : Value} {od_check_commands an_check_commands : Option Addr} {sl_check_commands : Array (Option Value)}
    {f_row_change : Addr} {oc_row_change kV_row_change dc_row_change pm_row_change cd_row_change ct_row_change : Value} {od_row_change an_row_change : Option Addr} {sl_row_change : Array (Option Value)}
    {f_check_text : Addr} {oc_check_text kV_check_text dc_check_text pm_check_text cd_check_text ct_check_text : Value} {od_check_text an_check_text : Option Addr} {sl_check_text : Array (Option Value)}
    {f_check_cursor : Addr} {oc_check_cursor kV_check_cursor dc_check_cursor pm_check_cursor cd_check_cursor ct_check_cursor : Value} {od_check_cursor an_check_cursor : Option Addr} {sl_check_cursor : Array (Option Value)}
    {f_run : Addr} {oc_run kV_run dc_run pm_run cd_run ct_run : Value} {od_run an_run : Option Addr} {sl_run : Array (Option Value)}
    {f_places : Addr} {oc_places kV_places dc_places pm_places cd_places ct_places : Value} {od_places an_places : Option Addr} {sl_places : Array (Option Value)}
    {f_shown_column : Addr} {oc_shown_column kV_shown_column dc_shown_column pm_shown_column cd_shown_column ct_shown_column : Value} {od_shown_column an_shown_column : Option Addr} {sl_shown_column : Array (Option Value)}
    {f_moved : Addr} {oc_moved kV_moved dc_moved pm_moved cd_moved ct_moved : Value} {od_moved an_moved : Option Addr} {sl_moved : Array (Option Value)}
    {f_new_goal : Addr} {oc_new_goal kV_new_goal dc_new_goal pm_new_goal cd_new_goal ct_new_goal : Value} {od_new_goal an_new_goal : Option Addr} {sl_new_goal : Array (Option Value)}
    {f_law_pool : Addr} {oc_law_pool kV_law_pool dc_law_pool pm_law_pool cd_law_pool ct_law_pool : Value} {od_law_pool an_law_pool : Option Addr} {sl_law_pool : Array (Option Value)}
    {f_law_draw : Addr} {oc_law_draw kV_law_draw dc_law_draw pm_law_draw cd_law_draw ct_law_draw : Value} {od_law_draw an_law_draw : Option Addr} {sl_law_draw : Array (Option Value)}
    {f_law_number : Addr} {oc_law_number kV_law_number dc_law_number pm_law_number cd_law_number ct_law_number : Value} {od_law_number an_law_number : Option Addr} {sl_law_number : Array (Option Value)}
    {f_law_key : Addr} {oc_law_key kV_law_key dc_law_key pm_law_key cd_law_key ct_law_key : Value} {od_law_key an_law_key : Option Addr} {sl_law_key : Array (Option Value)}
    {f_law_keys : Addr} {oc_law_keys kV_law_keys dc_law_keys pm_law_keys cd_law_keys ct_law_keys : Value} {od_law_keys an_law_keys : Option Addr} {sl_law_keys : Array (Option Value)}
    {f_law_lines : Addr} {oc_law_lines kV_law_lines dc_law_lines pm_law_lines cd_law_lines ct_law_lines : Value} {od_law_lines an_law_lines : Option Addr} {sl_law_lines : Array (Option Value)}
    {f_law_spot : Addr} {oc_law_spot kV_law_spot dc_law_spot pm_law_spot cd_law_spot ct_law_spot : Value} {od_law_spot an_law_spot : Option Addr} {sl_law_spot : Array (Option Value)}
    {f_law_after : Addr} {oc_law_after kV_law_after dc_law_after pm_law_after cd_law_after ct_law_after : Value} {od_law_after an_law_after : Option Addr} {sl_law_after : Array (Option Value)}
    {f_law_told_right : Addr} {oc_law_told_right kV_law_told_right dc_law_told_right pm_law_told_right cd_law_told_right ct_law_told_right : Value} {od_law_told_right an_law_told_right : Option Addr} {sl_law_told_right : Array (Option Value)}
    {f_law_pressed : Addr} {oc_law_pressed kV_law_pressed dc_law_pressed pm_law_pressed cd_law_pressed ct_law_pressed : Value} {od_law_pressed an_law_pressed : Option Addr} {sl_law_pressed : Array (Option Value)}
    {f_law_on : Addr} {oc_law_on kV_law_on dc_law_on pm_law_on cd_law_on ct_law_on : Value} {od_law_on an_law_on : Option Addr} {sl_law_on : Array (Option Value)}
    {f_law_possible : Addr} {oc_law_possible kV_law_possible dc_law_possible pm_law_possible cd_law_possible ct_law_possible : Value} {od_law_possible an_law_possible : Option Addr} {sl_law_possible : Array (Option Value)}
    {f_law_right : Addr} {oc_law_right kV_law_right dc_law_right pm_law_right cd_law_right ct_law_right : Value} {od_law_right an_law_right : Option Addr} {sl_law_right : Array (Option Value)}
    {f_law : Addr} {oc_law kV_law dc_law pm_law cd_law ct_law : Value} {od_law an_law : Option Addr} {sl_law : Array (Option Value)}
    {CE : Addr}
    {C0 : Addr}
    {f0 N0 : Addr} {nm0 q0 : Str} {bs0 : List Value} {sn0 : List Str} {sub0 : List Value} {ab0 : Bool} {col0 : Option Bool} {dd0 : Option Addr} {p0_0 p0_1 p0_2 p0_3 p0_5 : Option Value}
    {oc0 kV0 dc0 pm0 cd0 ct0 : Value} {od0 an0 : Option Addr} {sl0 : Array (Option Value)}
    {C1 : Addr}
    {f1 N1 : Addr} {nm1 q1 : Str} {bs1 : List Value} {sn1 : List Str} {sub1 : List Value} {ab1 : Bool} {col1 : Option Bool} {dd1 : Option Addr} {p1_0 p1_1 p1_2 p1_3 p1_5 : Option Value}
    {oc1 kV1 dc1 pm1 cd1 ct1 : Value} {od1 an1 : Option Addr} {sl1 : Array (Option Value)}
    {C2 : Addr}
    {f2 N2 : Addr} {nm2 q2 : Str} {bs2 : List Value} {sn2 : List Str} {sub2 : List Value} {ab2 : Bool} {col2 : Option Bool} {dd2 : Option Addr} {p2_0 p2_1 p2_2 p2_3 p2_5 : Option Value}
    {oc2 kV2 dc2 pm2 cd2 ct2 : Value} {od2 an2 : Option Addr} {sl2 : Array (Option Value)}
    {C3 : Addr}
    {f3 N3 : Addr} {nm3 q3 : Str} {bs3 : List Value} {sn3 : List Str} {sub3 : List Value} {ab3 : Bool} {col3 : Option Bool} {dd3 : Option Addr} {p3_0 p3_1 p3_2 p3_3 p3_5 : Option Value}
    {oc3 kV3 dc3 pm3 cd3 ct3 : Value} {od3 an3 : Option Addr} {sl3 : Array (Option Value)}
    {CD : Addr}
    {f_D_init : Addr} {oc_D_init kV_D_init dc_D_init pm_D_init cd_D_init ct_D_init : Value} {od_D_init an_D_init : Option Addr} {sl_D_init : Array (Option Value)}
    {f_D_press : Addr} {oc_D_press kV_D_press dc_D_press pm_D_press cd_D_press ct_D_press : Value} {od_D_press an_D_press : Option Addr} {sl_D_press : Array (Option Value)}
    {f_D_trail : Addr} {oc_D_trail kV_D_trail dc_D_trail pm_D_trail cd_D_trail ct_D_trail : Value} {od_D_trail an_D_trail : Option Addr} {sl_D_trail : Array (Option Value)}
    {f_D_eq : Addr} {oc_D_eq kV_D_eq dc_D_eq pm_D_eq cd_D_eq ct_D_eq : Value} {od_D_eq an_D_eq : Option Addr} {sl_D_eq : Array (Option Value)}
    {f_D_text : Addr} {oc_D_text kV_D_text dc_D_text pm_D_text cd_D_text ct_D_text : Value} {od_D_text an_D_text : Option Addr} {sl_D_text : Array (Option Value)}
    {p_D_text : Addr} {r_D_text : List Value}
    {f_D_cursor : Addr} {oc_D_cursor kV_D_cursor dc_D_cursor pm_D_cursor cd_D_cursor ct_D_cursor : Value} {od_D_cursor an_D_cursor : Option Addr} {sl_D_cursor : Array (Option Value)}
    {p_D_cursor : Addr} {r_D_cursor : List Value}
    {f_D_column : Addr} {oc_D_column kV_D_column dc_D_column pm_D_column cd_D_column ct_D_column : Value} {od_D_column an_D_column : Option Addr} {sl_D_column : Array (Option Value)}
    {p_D_column : Addr} {r_D_column : List Value}
    {f_D_at_top : Addr} {oc_D_at_top kV_D_at_top dc_D_at_top pm_D_at_top cd_D_at_top ct_D_at_top : Value} {od_D_at_top an_D_at_top : Option Addr} {sl_D_at_top : Array (Option Value)} {p_D_at_top : Addr} {r_D_at_top : List Value}
    (aWN : PySem.W.nsIn K mainGlobals "WITH_NUMBER" = some (some (.ref wn)))
    (aWO : PySem.W.nsIn K mainGlobals "WITHOUT_NUMBER" = some (some (.ref wo)))
    (lWN : K.lookup wn = some ⟨.type "tuple", odN, .seq #[.str "down" tn0, .str "up" tn1, .str "right" tn2, .str "left" tn3] nN, slN⟩)
    (lWO : K.lookup wo = some ⟨.type "tuple", odO, .seq #[.str "home" to0, .str "end" to1] nO, slO⟩)
    (a_is_count : PySem.W.nsIn K mainGlobals "is_count" = some (some (.ref f_is_count)))
    (l_is_count : K.lookup f_is_count = some ⟨oc_is_count, od_is_count, .func (PySem.W.fnOf "is_count" "is_count" (defArgs s_is_count) (defBody s_is_count) (defScope s_is_count) .none kV_is_count dc_is_count pm_is_count an_is_count cd_is_count ct_is_count), sl_is_count⟩)
    (c_is_count : PySem.W.codeIn K cd_is_count "is_count" = true)
    (k_is_count : PySem.W.keepIn K (.ref f_is_count) = true)
    (a_is_command : PySem.W.nsIn K mainGlobals "is_command" = some (some (.ref f_is_command)))
    (l_is_command : K.lookup f_is_command = some ⟨oc_is_command, od_is_command, .func (PySem.W.fnOf "is_command" "is_command" (defArgs s_is_command) (defBody s_is_command) (defScope s_is_command) .none kV_is_command dc_is_command pm_is_command an_is_command cd_is_command ct_is_command), sl_is_command⟩)
    (c_is_command : PySem.W.codeIn K cd_is_command "is_command" = true)
    (k_is_command : PySem.W.keepIn K (.ref f_is_command) = true)
    (a_check_commands : PySem.W.nsIn K mainGlobals "check_commands" = some (some (.ref f_check_commands)))
    (l_check_commands : K.lookup f_check_commands = some ⟨oc_check_commands, od_check_commands, .func (PySem.W.fnOf "check_commands" "check_commands" (defArgs s_check_commands) (defBody s_check_commands) (defScope s_check_commands) .none kV_check_commands dc_check_commands pm_check_commands an_check_commands cd_check_commands ct_check_commands), sl_check_commands⟩)
    (c_check_commands : PySem.W.codeIn K cd_check_commands "check_commands" = true)
    (k_check_commands : PySem.W.keepIn K (.ref f_check_commands) = true)
    (a_row_change : PySem.W.nsIn K mainGlobals "row_change" = some (some (.ref f_row_change)))
    (l_row_change : K.lookup f_row_change = some ⟨oc_row_change, od_row_change, .func (PySem.W.fnOf "row_change" "row_change" (defArgs s_row_change) (defBody s_row_change) (defScope s_row_change) .none kV_row_change dc_row_change pm_row_change an_row_change cd_row_change ct_row_change), sl_row_change⟩)
    (c_row_change : PySem.W.codeIn K cd_row_change "row_change" = true)
    (k_row_change : PySem.W.keepIn K (.ref f_row_change) = true)
    (a_check_text : PySem.W.nsIn K mainGlobals "check_text" = some (some (.ref f_check_text)))
    (l_check_text : K.lookup f_check_text = some ⟨oc_check_text, od_check_text, .func (PySem.W.fnOf "check_text" "check_text" (defArgs s_check_text) (defBody s_check_text) (defScope s_check_text) .none kV_check_text dc_check_text pm_check_text an_check_text cd_check_text ct_check_text), sl_check_text⟩)
    (c_check_text : PySem.W.codeIn K cd_check_text "check_text" = true)
    (k_check_text : PySem.W.keepIn K (.ref f_check_text) = true)
    (a_check_cursor : PySem.W.nsIn K mainGlobals "check_cursor" = some (some (.ref f_check_cursor)))
    (l_check_cursor : K.lookup f_check_cursor = some ⟨oc_check_cursor, od_check_cursor, .func (PySem.W.fnOf "check_cursor" "check_cursor" (defArgs s_check_cursor) (defBody s_check_cursor) (defScope s_check_cursor) .none kV_check_cursor dc_check_cursor pm_check_cursor an_check_cursor cd_check_cursor ct_check_cursor), sl_check_cursor⟩)
    (c_check_cursor : PySem.W.codeIn K cd_check_cursor "check_cursor" = true)
    (k_check_cursor : PySem.W.keepIn K (.ref f_check_cursor) = true)
    (a_run : PySem.W.nsIn K mainGlobals "run" = some (some (.ref f_run)))
    (l_run : K.lookup f_run = some ⟨oc_run, od_run, .func (PySem.W.fnOf "run" "run" (defArgs s_run) (defBody s_run) (defScope s_run) .none kV_run dc_run pm_run an_run cd_run ct_run), sl_run⟩)
    (c_run : PySem.W.codeIn K cd_run "run" = true)
    (k_run : PySem.W.keepIn K (.ref f_run) = true)
    (a_places : PySem.W.nsIn K mainGlobals "places" = some (some (.ref f_places)))
    (l_places : K.lookup f_places = some ⟨oc_places, od_places, .func (PySem.W.fnOf "places" "places" (defArgs s_places) (defBody s_places) (defScope s_places) .none kV_places dc_places pm_places an_places cd_places ct_places), sl_places⟩)
    (c_places : PySem.W.codeIn K cd_places "places" = true)
    (k_places : PySem.W.keepIn K (.ref f_places) = true)
    (a_shown_column : PySem.W.nsIn K mainGlobals "shown_column" = some (some (.ref f_shown_column)))
    (l_shown_column : K.lookup f_shown_column = some ⟨oc_shown_column, od_shown_column, .func (PySem.W.fnOf "shown_column" "shown_column" (defArgs s_shown_column) (defBody s_shown_column) (defScope s_shown_column) .none kV_shown_column dc_shown_column pm_shown_column an_shown_column cd_shown_column ct_shown_column), sl_shown_column⟩)
    (c_shown_column : PySem.W.codeIn K cd_shown_column "shown_column" = true)
    (k_shown_column : PySem.W.keepIn K (.ref f_shown_column) = true)
    (a_moved : PySem.W.nsIn K mainGlobals "moved" = some (some (.ref f_moved)))
    (l_moved : K.lookup f_moved = some ⟨oc_moved, od_moved, .func (PySem.W.fnOf "moved" "moved" (defArgs s_moved) (defBody s_moved) (defScope s_moved) .none kV_moved dc_moved pm_moved an_moved cd_moved ct_moved), sl_moved⟩)
    (c_moved : PySem.W.codeIn K cd_moved "moved" = true)
    (k_moved : PySem.W.keepIn K (.ref f_moved) = true)
    (a_new_goal : PySem.W.nsIn K mainGlobals "new_goal" = some (some (.ref f_new_goal)))
    (l_new_goal : K.lookup f_new_goal = some ⟨oc_new_goal, od_new_goal, .func (PySem.W.fnOf "new_goal" "new_goal" (defArgs s_new_goal) (defBody s_new_goal) (defScope s_new_goal) .none kV_new_goal dc_new_goal pm_new_goal an_new_goal cd_new_goal ct_new_goal), sl_new_goal⟩)
    (c_new_goal : PySem.W.codeIn K cd_new_goal "new_goal" = true)
    (k_new_goal : PySem.W.keepIn K (.ref f_new_goal) = true)
    (a_law_pool : PySem.W.nsIn K mainGlobals "_law_pool" = some (some (.ref f_law_pool)))
    (l_law_pool : K.lookup f_law_pool = some ⟨oc_law_pool, od_law_pool, .func (PySem.W.fnOf "_law_pool" "_law_pool" (defArgs s_pool) (defBody s_pool) (defScope s_pool) .none kV_law_pool dc_law_pool pm_law_pool an_law_pool cd_law_pool ct_law_pool), sl_law_pool⟩)
    (c_law_pool : PySem.W.codeIn K cd_law_pool "_law_pool" = true)
    (k_law_pool : PySem.W.keepIn K (.ref f_law_pool) = true)
    (a_law_draw : PySem.W.nsIn K mainGlobals "_law_draw" = some (some (.ref f_law_draw)))
    (l_law_draw : K.lookup f_law_draw = some ⟨oc_law_draw, od_law_draw, .func (PySem.W.fnOf "_law_draw" "_law_draw" (defArgs s_draw) (defBody s_draw) (defScope s_draw) .none kV_law_draw dc_law_draw pm_law_draw an_law_draw cd_law_draw ct_law_draw), sl_law_draw⟩)
    (c_law_draw : PySem.W.codeIn K cd_law_draw "_law_draw" = true)
    (k_law_draw : PySem.W.keepIn K (.ref f_law_draw) = true)
    (a_law_number : PySem.W.nsIn K mainGlobals "_law_number" = some (some (.ref f_law_number)))
    (l_law_number : K.lookup f_law_number = some ⟨oc_law_number, od_law_number, .func (PySem.W.fnOf "_law_number" "_law_number" (defArgs s_number) (defBody s_number) (defScope s_number) .none kV_law_number dc_law_number pm_law_number an_law_number cd_law_number ct_law_number), sl_law_number⟩)
    (c_law_number : PySem.W.codeIn K cd_law_number "_law_number" = true)
    (k_law_number : PySem.W.keepIn K (.ref f_law_number) = true)
    (a_law_key : PySem.W.nsIn K mainGlobals "_law_key" = some (some (.ref f_law_key)))
    (l_law_key : K.lookup f_law_key = some ⟨oc_law_key, od_law_key, .func (PySem.W.fnOf "_law_key" "_law_key" (defArgs s_key) (defBody s_key) (defScope s_key) .none kV_law_key dc_law_key pm_law_key an_law_key cd_law_key ct_law_key), sl_law_key⟩)
    (c_law_key : PySem.W.codeIn K cd_law_key "_law_key" = true)
    (k_law_key : PySem.W.keepIn K (.ref f_law_key) = true)
    (a_law_keys : PySem.W.nsIn K mainGlobals "_law_keys" = some (some (.ref f_law_keys)))
    (l_law_keys : K.lookup f_law_keys = some ⟨oc_law_keys, od_law_keys, .func (PySem.W.fnOf "_law_keys" "_law_keys" (defArgs s_keys) (defBody s_keys) (defScope s_keys) .none kV_law_keys dc_law_keys pm_law_keys an_law_keys cd_law_keys ct_law_keys), sl_law_keys⟩)
    (c_law_keys : PySem.W.codeIn K cd_law_keys "_law_keys" = true)
    (k_law_keys : PySem.W.keepIn K (.ref f_law_keys) = true)
    (a_law_lines : PySem.W.nsIn K mainGlobals "_law_lines" = some (some (.ref f_law_lines)))
    (l_law_lines : K.lookup f_law_lines = some ⟨oc_law_lines, od_law_lines, .func (PySem.W.fnOf "_law_lines" "_law_lines" (defArgs s_lines) (defBody s_lines) (defScope s_lines) .none kV_law_lines dc_law_lines pm_law_lines an_law_lines cd_law_lines ct_law_lines), sl_law_lines⟩)
    (c_law_lines : PySem.W.codeIn K cd_law_lines "_law_lines" = true)
    (k_law_lines : PySem.W.keepIn K (.ref f_law_lines) = true)
    (a_law_spot : PySem.W.nsIn K mainGlobals "_law_spot" = some (some (.ref f_law_spot)))
    (l_law_spot : K.lookup f_law_spot = some ⟨oc_law_spot, od_law_spot, .func (PySem.W.fnOf "_law_spot" "_law_spot" (defArgs s_spot) (defBody s_spot) (defScope s_spot) .none kV_law_spot dc_law_spot pm_law_spot an_law_spot cd_law_spot ct_law_spot), sl_law_spot⟩)
    (c_law_spot : PySem.W.codeIn K cd_law_spot "_law_spot" = true)
    (k_law_spot : PySem.W.keepIn K (.ref f_law_spot) = true)
    (a_law_after : PySem.W.nsIn K mainGlobals "_law_after" = some (some (.ref f_law_after)))
    (l_law_after : K.lookup f_law_after = some ⟨oc_law_after, od_law_after, .func (PySem.W.fnOf "_law_after" "_law_after" (defArgs s_after1) (defBody s_after1) (defScope s_after1) .none kV_law_after dc_law_after pm_law_after an_law_after cd_law_after ct_law_after), sl_law_after⟩)
    (c_law_after : PySem.W.codeIn K cd_law_after "_law_after" = true)
    (k_law_after : PySem.W.keepIn K (.ref f_law_after) = true)
    (a_law_told_right : PySem.W.nsIn K mainGlobals "_law_told_right" = some (some (.ref f_law_told_right)))
    (l_law_told_right : K.lookup f_law_told_right = some ⟨oc_law_told_right, od_law_told_right, .func (PySem.W.fnOf "_law_told_right" "_law_told_right" (defArgs s_told_right) (defBody s_told_right) (defScope s_told_right) .none kV_law_told_right dc_law_told_right pm_law_told_right an_law_told_right cd_law_told_right ct_law_told_right), sl_law_told_right⟩)
    (c_law_told_right : PySem.W.codeIn K cd_law_told_right "_law_told_right" = true)
    (k_law_told_right : PySem.W.keepIn K (.ref f_law_told_right) = true)
    (a_law_pressed : PySem.W.nsIn K mainGlobals "_law_pressed" = some (some (.ref f_law_pressed)))
    (l_law_pressed : K.lookup f_law_pressed = some ⟨oc_law_pressed, od_law_pressed, .func (PySem.W.fnOf "_law_pressed" "_law_pressed" (defArgs s_pressed) (defBody s_pressed) (defScope s_pressed) .none kV_law_pressed dc_law_pressed pm_law_pressed an_law_pressed cd_law_pressed ct_law_pressed), sl_law_pressed⟩)
    (c_law_pressed : PySem.W.codeIn K cd_law_pressed "_law_pressed" = true)
    (k_law_pressed : PySem.W.keepIn K (.ref f_law_pressed) = true)
    (a_law_on : PySem.W.nsIn K mainGlobals "_law_on" = some (some (.ref f_law_on)))
    (l_law_on : K.lookup f_law_on = some ⟨oc_law_on, od_law_on, .func (PySem.W.fnOf "_law_on" "_law_on" (defArgs s_on) (defBody s_on) (defScope s_on) .none kV_law_on dc_law_on pm_law_on an_law_on cd_law_on ct_law_on), sl_law_on⟩)
    (c_law_on : PySem.W.codeIn K cd_law_on "_law_on" = true)
    (k_law_on : PySem.W.keepIn K (.ref f_law_on) = true)
    (a_law_possible : PySem.W.nsIn K mainGlobals "_law_possible" = some (some (.ref f_law_possible)))
    (l_law_possible : K.lookup f_law_possible = some ⟨oc_law_possible, od_law_possible, .func (PySem.W.fnOf "_law_possible" "_law_possible" (defArgs s_possible) (defBody s_possible) (defScope s_possible) .none kV_law_possible dc_law_possible pm_law_possible an_law_possible cd_law_possible ct_law_possible), sl_law_possible⟩)
    (c_law_possible : PySem.W.codeIn K cd_law_possible "_law_possible" = true)
    (k_law_possible : PySem.W.keepIn K (.ref f_law_possible) = true)
    (a_law_right : PySem.W.nsIn K mainGlobals "_law_right" = some (some (.ref f_law_right)))
    (l_law_right : K.lookup f_law_right = some ⟨oc_law_right, od_law_right, .func (PySem.W.fnOf "_law_right" "_law_right" (defArgs s_right23) (defBody s_right23) (defScope s_right23) .none kV_law_right dc_law_right pm_law_right an_law_right cd_law_right ct_law_right), sl_law_right⟩)
    (c_law_right : PySem.W.codeIn K cd_law_right "_law_right" = true)
    (k_law_right : PySem.W.keepIn K (.ref f_law_right) = true)
    (a_law : PySem.W.nsIn K mainGlobals "law" = some (some (.ref f_law)))
    (l_law : K.lookup f_law = some ⟨oc_law, od_law, .func (PySem.W.fnOf "law" "law" (defArgs s_law) (defBody s_law) (defScope s_law) .none kV_law dc_law pm_law an_law cd_law ct_law), sl_law⟩)
    (c_law : PySem.W.codeIn K cd_law "law" = true)
    (k_law : PySem.W.keepIn K (.ref f_law) = true)
    (z_isinstance : PySem.W.nsIn K mainGlobals "isinstance" = some none)
    (z_int : PySem.W.nsIn K mainGlobals "int" = some none)
    (z_bool : PySem.W.nsIn K mainGlobals "bool" = some none)
    (z_len : PySem.W.nsIn K mainGlobals "len" = some none)
    (z_enumerate : PySem.W.nsIn K mainGlobals "enumerate" = some none)
    (z_reversed : PySem.W.nsIn K mainGlobals "reversed" = some none)
    (z_sorted : PySem.W.nsIn K mainGlobals "sorted" = some none)
    (z_max : PySem.W.nsIn K mainGlobals "max" = some none)
    (z_min : PySem.W.nsIn K mainGlobals "min" = some none)
    (z_abs : PySem.W.nsIn K mainGlobals "abs" = some none)
    (z_range : PySem.W.nsIn K mainGlobals "range" = some none)
    (z_list : PySem.W.nsIn K mainGlobals "list" = some none)
    (z_sum : PySem.W.nsIn K mainGlobals "sum" = some none)
    (z_zip : PySem.W.nsIn K mainGlobals "zip" = some none)
    (z_repr : PySem.W.nsIn K mainGlobals "repr" = some none)
    (z_ValueError : PySem.W.nsIn K mainGlobals "ValueError" = some none)
    (aE : PySem.W.nsIn K mainGlobals "CursorError" = some (some (.ref CE)))
    (yE : PySem.W.typeIn K (.ref CE) = some (.type "type"))
    (bE : PySem.W.subIn K (.ref CE) (.type "BaseException") = some true)
    (hE : PySem.W.hasDictIn K CE = true)
    (icE : PySem.W.isClsIn K CE = true)
    (gt : PySem.W.specialIn K (.builtin "object.__class__") "__get__" = some (some (.builtin "getset_descriptor.__get__")))
    (tk : PySem.W.takesIn K (.builtin "object.__class__") = some true)
    (a0 : PySem.W.nsIn K mainGlobals "InvalidText" = some (some (.ref C0)))
    (ty0 : PySem.W.typeIn K (.ref C0) = some (.type "type"))
    (ic0 : PySem.W.isClsIn K C0 = true)
    (x0 : K.lookup C0 = some (excClassObj nm0 q0 C0 N0 bs0 [.ref CE, .type "ValueError", .type "Exception", .type "BaseException", .type "object"] true sn0 sub0 ab0 col0 dd0 p0_0 p0_1 p0_2 p0_3 p0_5 "ValueError.__new__"))
    (sa0 : PySem.W.findIn K (.ref C0) "__setattr__" = some (some (.builtin "object.__setattr__")))
    (ga0 : PySem.W.findIn K (.ref C0) "__getattribute__" = some (some (.builtin "BaseException.__getattribute__")))
    (gg0 : PySem.W.findIn K (.ref C0) "__getattr__" = some none)
    (no0 : PySem.W.findIn K (.ref C0) "value" = some none)
    (cc0 : PySem.W.findIn K (.ref C0) "__class__" = some (some (.builtin "object.__class__")))
    (in0 : PySem.W.findIn K (.ref C0) "__init__" = some (some (.ref f0)))
    (ti0 : PySem.W.typeIn K (.ref f0) = some (.type "function"))
    (l0 : K.lookup f0 = some ⟨oc0, od0, .func (PySem.W.fnOf "__init__" "InvalidText.__init__" (defArgs sI0) (defBody sI0) (defScope sI0) .none kV0 dc0 pm0 an0 cd0 ct0), sl0⟩)
    (c0 : PySem.W.codeIn K cd0 "InvalidText.__init__" = true)
    (k0 : PySem.W.keepIn K (.ref f0) = true)
    (kc0 : PySem.W.keepIn K (.ref C0) = true)
    (be0 : PySem.W.subIn K (.ref C0) (.type "BaseException") = some true)
    (ve0 : PySem.W.subIn K (.ref C0) (.type "ValueError") = some true)
    (hd0 : PySem.W.hasDictIn K C0 = true)
    (mo0 : PySem.W.mroIn K C0 (.type "object") = some true)
    (se0 : PySem.W.subIn K (.ref C0) (.ref CE) = some true)
    (a1 : PySem.W.nsIn K mainGlobals "InvalidCursor" = some (some (.ref C1)))
    (ty1 : PySem.W.typeIn K (.ref C1) = some (.type "type"))
    (ic1 : PySem.W.isClsIn K C1 = true)
    (x1 : K.lookup C1 = some (excClassObj nm1 q1 C1 N1 bs1 [.ref CE, .type "ValueError", .type "Exception", .type "BaseException", .type "object"] true sn1 sub1 ab1 col1 dd1 p1_0 p1_1 p1_2 p1_3 p1_5 "ValueError.__new__"))
    (sa1 : PySem.W.findIn K (.ref C1) "__setattr__" = some (some (.builtin "object.__setattr__")))
    (ga1 : PySem.W.findIn K (.ref C1) "__getattribute__" = some (some (.builtin "BaseException.__getattribute__")))
    (gg1 : PySem.W.findIn K (.ref C1) "__getattr__" = some none)
    (no1 : PySem.W.findIn K (.ref C1) "value" = some none)
    (cc1 : PySem.W.findIn K (.ref C1) "__class__" = some (some (.builtin "object.__class__")))
    (in1 : PySem.W.findIn K (.ref C1) "__init__" = some (some (.ref f1)))
    (ti1 : PySem.W.typeIn K (.ref f1) = some (.type "function"))
    (l1 : K.lookup f1 = some ⟨oc1, od1, .func (PySem.W.fnOf "__init__" "InvalidCursor.__init__" (defArgs sI1) (defBody sI1) (defScope sI1) .none kV1 dc1 pm1 an1 cd1 ct1), sl1⟩)
    (c1 : PySem.W.codeIn K cd1 "InvalidCursor.__init__" = true)
    (k1 : PySem.W.keepIn K (.ref f1) = true)
    (kc1 : PySem.W.keepIn K (.ref C1) = true)
    (be1 : PySem.W.subIn K (.ref C1) (.type "BaseException") = some true)
    (ve1 : PySem.W.subIn K (.ref C1) (.type "ValueError") = some true)
    (hd1 : PySem.W.hasDictIn K C1 = true)
    (mo1 : PySem.W.mroIn K C1 (.type "object") = some true)
    (se1 : PySem.W.subIn K (.ref C1) (.ref CE) = some true)
    (a2 : PySem.W.nsIn K mainGlobals "InvalidCommand" = some (some (.ref C2)))
    (ty2 : PySem.W.typeIn K (.ref C2) = some (.type "type"))
    (ic2 : PySem.W.isClsIn K C2 = true)
    (x2 : K.lookup C2 = some (excClassObj nm2 q2 C2 N2 bs2 [.ref CE, .type "ValueError", .type "Exception", .type "BaseException", .type "object"] true sn2 sub2 ab2 col2 dd2 p2_0 p2_1 p2_2 p2_3 p2_5 "ValueError.__new__"))
    (sa2 : PySem.W.findIn K (.ref C2) "__setattr__" = some (some (.builtin "object.__setattr__")))
    (ga2 : PySem.W.findIn K (.ref C2) "__getattribute__" = some (some (.builtin "BaseException.__getattribute__")))
    (gg2 : PySem.W.findIn K (.ref C2) "__getattr__" = some none)
    (no2 : PySem.W.findIn K (.ref C2) "value" = some none)
    (cc2 : PySem.W.findIn K (.ref C2) "__class__" = some (some (.builtin "object.__class__")))
    (in2 : PySem.W.findIn K (.ref C2) "__init__" = some (some (.ref f2)))
    (ti2 : PySem.W.typeIn K (.ref f2) = some (.type "function"))
    (l2 : K.lookup f2 = some ⟨oc2, od2, .func (PySem.W.fnOf "__init__" "InvalidCommand.__init__" (defArgs sI2) (defBody sI2) (defScope sI2) .none kV2 dc2 pm2 an2 cd2 ct2), sl2⟩)
    (c2 : PySem.W.codeIn K cd2 "InvalidCommand.__init__" = true)
    (k2 : PySem.W.keepIn K (.ref f2) = true)
    (kc2 : PySem.W.keepIn K (.ref C2) = true)
    (be2 : PySem.W.subIn K (.ref C2) (.type "BaseException") = some true)
    (ve2 : PySem.W.subIn K (.ref C2) (.type "ValueError") = some true)
    (hd2 : PySem.W.hasDictIn K C2 = true)
    (mo2 : PySem.W.mroIn K C2 (.type "object") = some true)
    (se2 : PySem.W.subIn K (.ref C2) (.ref CE) = some true)
    (a3 : PySem.W.nsIn K mainGlobals "Impossible" = some (some (.ref C3)))
    (ty3 : PySem.W.typeIn K (.ref C3) = some (.type "type"))
    (ic3 : PySem.W.isClsIn K C3 = true)
    (x3 : K.lookup C3 = some (excClassObj nm3 q3 C3 N3 bs3 [.ref CE, .type "ValueError", .type "Exception", .type "BaseException", .type "object"] true sn3 sub3 ab3 col3 dd3 p3_0 p3_1 p3_2 p3_3 p3_5 "ValueError.__new__"))
    (sa3 : PySem.W.findIn K (.ref C3) "__setattr__" = some (some (.builtin "object.__setattr__")))
    (ga3 : PySem.W.findIn K (.ref C3) "__getattribute__" = some (some (.builtin "BaseException.__getattribute__")))
    (gg3 : PySem.W.findIn K (.ref C3) "__getattr__" = some none)
    (no3 : PySem.W.findIn K (.ref C3) "value" = some none)
    (cc3 : PySem.W.findIn K (.ref C3) "__class__" = some (some (.builtin "object.__class__")))
    (in3 : PySem.W.findIn K (.ref C3) "__init__" = some (some (.ref f3)))
    (ti3 : PySem.W.typeIn K (.ref f3) = some (.type "function"))
    (l3 : K.lookup f3 = some ⟨oc3, od3, .func (PySem.W.fnOf "__init__" "Impossible.__init__" (defArgs sI3) (defBody sI3) (defScope sI3) .none kV3 dc3 pm3 an3 cd3 ct3), sl3⟩)
    (c3 : PySem.W.codeIn K cd3 "Impossible.__init__" = true)
    (k3 : PySem.W.keepIn K (.ref f3) = true)
    (kc3 : PySem.W.keepIn K (.ref C3) = true)
    (be3 : PySem.W.subIn K (.ref C3) (.type "BaseException") = some true)
    (ve3 : PySem.W.subIn K (.ref C3) (.type "ValueError") = some true)
    (hd3 : PySem.W.hasDictIn K C3 = true)
    (mo3 : PySem.W.mroIn K C3 (.type "object") = some true)
    (se3 : PySem.W.subIn K (.ref C3) (.ref CE) = some true)
    (s0_0 : PySem.W.subIn K (.ref C0) (.ref C0) = some true)
    (s0_1 : PySem.W.subIn K (.ref C0) (.ref C1) = some false)
    (s0_2 : PySem.W.subIn K (.ref C0) (.ref C2) = some false)
    (s0_3 : PySem.W.subIn K (.ref C0) (.ref C3) = some false)
    (s1_0 : PySem.W.subIn K (.ref C1) (.ref C0) = some false)
    (s1_1 : PySem.W.subIn K (.ref C1) (.ref C1) = some true)
    (s1_2 : PySem.W.subIn K (.ref C1) (.ref C2) = some false)
    (s1_3 : PySem.W.subIn K (.ref C1) (.ref C3) = some false)
    (s2_0 : PySem.W.subIn K (.ref C2) (.ref C0) = some false)
    (s2_1 : PySem.W.subIn K (.ref C2) (.ref C1) = some false)
    (s2_2 : PySem.W.subIn K (.ref C2) (.ref C2) = some true)
    (s2_3 : PySem.W.subIn K (.ref C2) (.ref C3) = some false)
    (s3_0 : PySem.W.subIn K (.ref C3) (.ref C0) = some false)
    (s3_1 : PySem.W.subIn K (.ref C3) (.ref C1) = some false)
    (s3_2 : PySem.W.subIn K (.ref C3) (.ref C2) = some false)
    (s3_3 : PySem.W.subIn K (.ref C3) (.ref C3) = some true)
    (aD : PySem.W.nsIn K mainGlobals "Editor" = some (some (.ref CD)))
    (pgD : PySem.W.plainGet K CD Str.empty = true)
    (hdD : PySem.W.hasDictIn K CD = true)
    (poD : PySem.W.plainOver K CD = true)
    (saD : PySem.W.findIn K (.ref CD) "__setattr__" = some (some (.builtin "object.__setattr__")))
    (mkD : PySem.W.makesIn K CD = true)
    (kcD : PySem.W.keepIn K (.ref CD) = true)
    (nD_text : PySem.W.findIn K (.ref CD) "_text" = some none)
    (nD_cursors : PySem.W.findIn K (.ref CD) "_cursors" = some none)
    (i_D_init : PySem.W.findIn K (.ref CD) "__init__" = some (some (.ref f_D_init)))
    (g_D_init : PySem.W.isFn K (.ref f_D_init) = true)
    (l_D_init : K.lookup f_D_init = some ⟨oc_D_init, od_D_init, .func (PySem.W.fnOf "__init__" "Editor.__init__" (defArgs s_ed_init) (defBody s_ed_init) (defScope s_ed_init) .none kV_D_init dc_D_init pm_D_init an_D_init cd_D_init ct_D_init), sl_D_init⟩)
    (c_D_init : PySem.W.codeIn K cd_D_init "Editor.__init__" = true)
    (k_D_init : PySem.W.keepIn K (.ref f_D_init) = true)
    (i_D_press : PySem.W.findIn K (.ref CD) "press" = some (some (.ref f_D_press)))
    (g_D_press : PySem.W.isFn K (.ref f_D_press) = true)
    (l_D_press : K.lookup f_D_press = some ⟨oc_D_press, od_D_press, .func (PySem.W.fnOf "press" "Editor.press" (defArgs s_ed_press) (defBody s_ed_press) (defScope s_ed_press) .none kV_D_press dc_D_press pm_D_press an_D_press cd_D_press ct_D_press), sl_D_press⟩)
    (c_D_press : PySem.W.codeIn K cd_D_press "Editor.press" = true)
    (k_D_press : PySem.W.keepIn K (.ref f_D_press) = true)
    (i_D_trail : PySem.W.findIn K (.ref CD) "trail" = some (some (.ref f_D_trail)))
    (g_D_trail : PySem.W.isFn K (.ref f_D_trail) = true)
    (l_D_trail : K.lookup f_D_trail = some ⟨oc_D_trail, od_D_trail, .func (PySem.W.fnOf "trail" "Editor.trail" (defArgs s_ed_trail) (defBody s_ed_trail) (defScope s_ed_trail) .none kV_D_trail dc_D_trail pm_D_trail an_D_trail cd_D_trail ct_D_trail), sl_D_trail⟩)
    (c_D_trail : PySem.W.codeIn K cd_D_trail "Editor.trail" = true)
    (k_D_trail : PySem.W.keepIn K (.ref f_D_trail) = true)
    (i_D_eq : PySem.W.findIn K (.ref CD) "__eq__" = some (some (.ref f_D_eq)))
    (g_D_eq : PySem.W.isFn K (.ref f_D_eq) = true)
    (l_D_eq : K.lookup f_D_eq = some ⟨oc_D_eq, od_D_eq, .func (PySem.W.fnOf "__eq__" "Editor.__eq__" (defArgs s_ed_eq) (defBody s_ed_eq) (defScope s_ed_eq) .none kV_D_eq dc_D_eq pm_D_eq an_D_eq cd_D_eq ct_D_eq), sl_D_eq⟩)
    (c_D_eq : PySem.W.codeIn K cd_D_eq "Editor.__eq__" = true)
    (k_D_eq : PySem.W.keepIn K (.ref f_D_eq) = true)
    (i_D_text : PySem.W.findIn K (.ref CD) "text" = some (some (.ref p_D_text)))
    (q_D_text : PySem.W.specialIn K (.ref p_D_text) "__get__" = some (some (.builtin "property.__get__")))
    (t_D_text : PySem.W.takesIn K (.ref p_D_text) = some true)
    (r0_D_text : PySem.W.recIn K p_D_text "property" = some (.ref f_D_text :: r_D_text))
    (l_D_text : K.lookup f_D_text = some ⟨oc_D_text, od_D_text, .func (PySem.W.fnOf "text" "Editor.text" (defArgs s_ed_text) (defBody s_ed_text) (defScope s_ed_text) .none kV_D_text dc_D_text pm_D_text an_D_text cd_D_text ct_D_text), sl_D_text⟩)
    (c_D_text : PySem.W.codeIn K cd_D_text "Editor.text" = true)
    (k_D_text : PySem.W.keepIn K (.ref f_D_text) = true)
    (i_D_cursor : PySem.W.findIn K (.ref CD) "cursor" = some (some (.ref p_D_cursor)))
    (q_D_cursor : PySem.W.specialIn K (.ref p_D_cursor) "__get__" = some (some (.builtin "property.__get__")))
    (t_D_cursor : PySem.W.takesIn K (.ref p_D_cursor) = some true)
    (r0_D_cursor : PySem.W.recIn K p_D_cursor "property" = some (.ref f_D_cursor :: r_D_cursor))
    (l_D_cursor : K.lookup f_D_cursor = some ⟨oc_D_cursor, od_D_cursor, .func (PySem.W.fnOf "cursor" "Editor.cursor" (defArgs s_ed_cursor) (defBody s_ed_cursor) (defScope s_ed_cursor) .none kV_D_cursor dc_D_cursor pm_D_cursor an_D_cursor cd_D_cursor ct_D_cursor), sl_D_cursor⟩)
    (c_D_cursor : PySem.W.codeIn K cd_D_cursor "Editor.cursor" = true)
    (k_D_cursor : PySem.W.keepIn K (.ref f_D_cursor) = true)
    (i_D_column : PySem.W.findIn K (.ref CD) "column" = some (some (.ref p_D_column)))
    (q_D_column : PySem.W.specialIn K (.ref p_D_column) "__get__" = some (some (.builtin "property.__get__")))
    (t_D_column : PySem.W.takesIn K (.ref p_D_column) = some true)
    (r0_D_column : PySem.W.recIn K p_D_column "property" = some (.ref f_D_column :: r_D_column))
    (l_D_column : K.lookup f_D_column = some ⟨oc_D_column, od_D_column, .func (PySem.W.fnOf "column" "Editor.column" (defArgs s_ed_column) (defBody s_ed_column) (defScope s_ed_column) .none kV_D_column dc_D_column pm_D_column an_D_column cd_D_column ct_D_column), sl_D_column⟩)
    (c_D_column : PySem.W.codeIn K cd_D_column "Editor.column" = true)
    (k_D_column : PySem.W.keepIn K (.ref f_D_column) = true)
    (rdD : PySem.W.readsIn K CD (.type "type") = true)
    (gaD : PySem.W.specialIn K (.ref CD) "__getattribute__" = some (some (.builtin "type.__getattribute__")))
    (ct_at : PySem.W.findCls K (.ref CD) (.type "type") "at_top" = some (.get (.builtin "classmethod.__get__") (.ref p_D_at_top) .none (.ref CD)))
    (ct_rc : PySem.W.recIn K p_D_at_top "classmethod" = some (.ref f_D_at_top :: r_D_at_top))
    (ct_fi : PySem.W.fnIn K f_D_at_top = true)
    (l_D_at_top : K.lookup f_D_at_top = some ⟨oc_D_at_top, od_D_at_top, .func (PySem.W.fnOf "at_top" "Editor.at_top" (defArgs s_ed_top) (defBody s_ed_top) (defScope s_ed_top) .none kV_D_at_top dc_D_at_top pm_D_at_top an_D_at_top cd_D_at_top ct_D_at_top), sl_D_at_top⟩)
    (c_D_at_top : PySem.W.codeIn K cd_D_at_top "Editor.at_top" = true)
    (k_D_at_top : PySem.W.keepIn K (.ref f_D_at_top) = true)
    (nS2 : PySem.W.subIn K (.ref C2) (.type "StopIteration") = some false)
    (nS3 : PySem.W.subIn K (.ref C3) (.type "StopIteration") = some false)
    (ccD : PySem.W.findIn K (.ref CD) "__class__" = some (some (.builtin "object.__class__")))
    (moD : PySem.W.mroIn K CD (.type "object") = some true)
    (icD : PySem.W.isClsIn K CD = true)
    (tyD : PySem.W.typeIn K (.ref CD) = some (.type "type"))
    (ssD : PySem.W.subIn K (.ref CD) (.ref CD) = some true)
    (neD : PySem.W.findIn K (.ref CD) "__ne__" = some (some (.builtin "object.__ne__")))
    (obD : PySem.W.subIn K (.ref CD) (.type "object") = some true)
    (sbNoneType : PySem.W.subIn K (.ref CD) (.type "NoneType") = some false)
    (sbint : PySem.W.subIn K (.ref CD) (.type "int") = some false)
    (sbstr : PySem.W.subIn K (.ref CD) (.type "str") = some false)
    (sblist : PySem.W.subIn K (.ref CD) (.type "list") = some false)
    (sbtuple : PySem.W.subIn K (.ref CD) (.type "tuple") = some false) :
    ∃ fd : FuncData, (∀ (s : Shared) (v : Value), BindsTo s fd ⟨[v], []⟩ [("script", v)]) ∧ ∀ base : Heap, K.In base → base.Ns mainGlobals mg → FnG l.prog w K mg base 12 fa fd ["script"] (spLaw K) := by
  have e := hfa.symm.trans (PySem.W.mg_of X G a_law)
  cases e
  have F_is_count := fun_mk (st := s_is_count) l_is_count c_is_count k_is_count
  have F_is_command := fun_mk (st := s_is_command) l_is_command c_is_command k_is_command
  have F_check_commands := fun_mk (st := s_check_commands) l_check_commands c_check_commands k_check_commands
  have F_row_change := fun_mk (st := s_row_change) l_row_change c_row_change k_row_change
  have F_check_text := fun_mk (st := s_check_text) l_check_text c_check_text k_check_text
  have F_check_cursor := fun_mk (st := s_check_cursor) l_check_cursor c_check_cursor k_check_cursor
  have F_run := fun_mk (st := s_run) l_run c_run k_run
  have F_places := fun_mk (st := s_places) l_places c_places k_places
  have F_shown_column := fun_mk (st := s_shown_column) l_shown_column c_shown_column k_shown_column
  have F_moved := fun_mk (st := s_moved) l_moved c_moved k_moved
  have F_new_goal := fun_mk (st := s_new_goal) l_new_goal c_new_goal k_new_goal
  have F_law_pool := fun_mk (st := s_pool) l_law_pool c_law_pool k_law_pool
  have F_law_draw := fun_mk (st := s_draw) l_law_draw c_law_draw k_law_draw
  have F_law_number := fun_mk (st := s_number) l_law_number c_law_number k_law_number
  have F_law_key := fun_mk (st := s_key) l_law_key c_law_key k_law_key
  have F_law_keys := fun_mk (st := s_keys) l_law_keys c_law_keys k_law_keys
  have F_law_lines := fun_mk (st := s_lines) l_law_lines c_law_lines k_law_lines
  have F_law_spot := fun_mk (st := s_spot) l_law_spot c_law_spot k_law_spot
  have F_law_after := fun_mk (st := s_after1) l_law_after c_law_after k_law_after
  have F_law_told_right := fun_mk (st := s_told_right) l_law_told_right c_law_told_right k_law_told_right
  have F_law_pressed := fun_mk (st := s_pressed) l_law_pressed c_law_pressed k_law_pressed
  have F_law_on := fun_mk (st := s_on) l_law_on c_law_on k_law_on
  have F_law_possible := fun_mk (st := s_possible) l_law_possible c_law_possible k_law_possible
  have F_law_right := fun_mk (st := s_right23) l_law_right c_law_right k_law_right
  have F_law := fun_mk (st := s_law) l_law c_law k_law
  have b_is_count := F_is_count.binds (ps := ["number"]) fun _ _ _ _ _ _ us hl => match us, hl with | [_], _ => rfl
  have b_is_command := F_is_command.binds (ps := ["command"]) fun _ _ _ _ _ _ us hl => match us, hl with | [_], _ => rfl
  have b_check_commands := F_check_commands.binds (ps := ["commands"]) fun _ _ _ _ _ _ us hl => match us, hl with | [_], _ => rfl
  have b_row_change := F_row_change.binds (ps := ["command"]) fun _ _ _ _ _ _ us hl => match us, hl with | [_], _ => rfl
  have b_check_text := F_check_text.binds (ps := ["text"]) fun _ _ _ _ _ _ us hl => match us, hl with | [_], _ => rfl
  have b_check_cursor := F_check_cursor.binds (ps := ["lines", "cursor"]) fun _ _ _ _ _ _ us hl => match us, hl with | [_, _], _ => rfl
  have b_run := F_run.binds (ps := ["text", "cursor", "commands"]) fun _ _ _ _ _ _ us hl => match us, hl with | [_, _, _], _ => rfl
  have b_places := F_places.binds (ps := ["text", "cursor", "commands"]) fun _ _ _ _ _ _ us hl => match us, hl with | [_, _, _], _ => rfl
  have b_shown_column := F_shown_column.binds (ps := ["length", "goal"]) fun _ _ _ _ _ _ us hl => match us, hl with | [_, _], _ => rfl
  have b_moved := F_moved.binds (ps := ["text", "cursor", "command"]) fun _ _ _ _ _ _ us hl => match us, hl with | [_, _, _], _ => rfl
  have b_new_goal := F_new_goal.binds (ps := ["length", "goal", "command"]) fun _ _ _ _ _ _ us hl => match us, hl with | [_, _, _], _ => rfl
  have b_law_pool := F_law_pool.binds (ps := ["script", "at"]) fun _ _ _ _ _ _ us hl => match us, hl with | [_, _], _ => rfl
  have b_law_draw := F_law_draw.binds (ps := ["pool", "many"]) fun _ _ _ _ _ _ us hl => match us, hl with | [_, _], _ => rfl
  have b_law_number := F_law_number.binds (ps := ["pool", "far"]) fun _ _ _ _ _ _ us hl => match us, hl with | [_, _], _ => rfl
  have b_law_key := F_law_key.binds (ps := ["pool", "far"]) fun _ _ _ _ _ _ us hl => match us, hl with | [_, _], _ => rfl
  have b_law_keys := F_law_keys.binds (ps := ["pool", "most", "far"]) fun _ _ _ _ _ _ us hl => match us, hl with | [_, _, _], _ => rfl
  have b_law_lines := F_law_lines.binds (ps := ["pool", "most", "far"]) fun _ _ _ _ _ _ us hl => match us, hl with | [_, _, _], _ => rfl
  have b_law_spot := F_law_spot.binds (ps := ["pool", "lengths", "far"]) fun _ _ _ _ _ _ us hl => match us, hl with | [_, _, _], _ => rfl
  have b_law_after := F_law_after.binds (ps := ["lengths", "spot", "key"]) fun _ _ _ _ _ _ us hl => match us, hl with | [_, _, _], _ => rfl
  have b_law_told_right := F_law_told_right.binds (ps := ["editor", "lengths", "trail"]) fun _ _ _ _ _ _ us hl => match us, hl with | [_, _, _], _ => rfl
  have b_law_pressed := F_law_pressed.binds (ps := ["editor", "some"]) fun _ _ _ _ _ _ us hl => match us, hl with | [_, _], _ => rfl
  have b_law_on := F_law_on.binds (ps := ["lengths", "trail", "keys"]) fun _ _ _ _ _ _ us hl => match us, hl with | [_, _, _], _ => rfl
  have b_law_possible := F_law_possible.binds (ps := ["lengths", "trail", "keys"]) fun _ _ _ _ _ _ us hl => match us, hl with | [_, _, _], _ => rfl
  have b_law_right := F_law_right.binds (ps := ["pool"]) fun _ _ _ _ _ _ us hl => match us, hl with | [_], _ => rfl
  refine ⟨PySem.W.fnOf "law" "law" (defArgs s_law) (defBody s_law) (defScope s_law) .none kV_law dc_law pm_law an_law cd_law ct_law, fun s v => .of_eq rfl, fun base hb gb => ?_⟩
  have TB : TxtB K mg wo wn := {
    g_WITHOUT_NUMBER := PySem.W.mg_of X G aWO
    g_WITH_NUMBER := PySem.W.mg_of X G aWN
    tWO := fun H => .inr ⟨_, _, _, lWO, rfl, rfl, (by show 2 ≤ sizeLine; decide), .cons ⟨_, rfl⟩ (.cons ⟨_, rfl⟩ .nil)⟩
    tWN := fun H => .inr ⟨_, _, _, lWN, rfl, rfl, (by show 4 ≤ sizeLine; decide), .cons ⟨_, rfl⟩ (.cons ⟨_, rfl⟩ (.cons ⟨_, rfl⟩ (.cons ⟨_, rfl⟩ .nil)))⟩
    isinstance := PySem.W.mg_none_of X G z_isinstance
    int := PySem.W.mg_none_of X G z_int
    bool := PySem.W.mg_none_of X G z_bool
    len := PySem.W.mg_none_of X G z_len
    enumerate := PySem.W.mg_none_of X G z_enumerate
    reversed := PySem.W.mg_none_of X G z_reversed
    sorted := PySem.W.mg_none_of X G z_sorted
    max := PySem.W.mg_none_of X G z_max
    min := PySem.W.mg_none_of X G z_min }
  have TPl : TxtPl mg := { len := PySem.W.mg_none_of X G z_len, max := PySem.W.mg_none_of X G z_max, abs := PySem.W.mg_none_of X G z_abs }
  have TKy : TxtK mg := { range := PySem.W.mg_none_of X G z_range, len := PySem.W.mg_none_of X G z_len }
  have TO : TxtO mg := { int := PySem.W.mg_none_of X G z_int, len := PySem.W.mg_none_of X G z_len, min := PySem.W.mg_none_of X G z_min, max := PySem.W.mg_none_of X G z_max }
  have TEL : TxtEL mg := { list := PySem.W.mg_none_of X G z_list, min := PySem.W.mg_none_of X G z_min, len := PySem.W.mg_none_of X G z_len }
  have TON : TxtON mg := { list := PySem.W.mg_none_of X G z_list, enumerate := PySem.W.mg_none_of X G z_enumerate }
  have TRt : TxtR23 mg := { range := PySem.W.mg_none_of X G z_range, len := PySem.W.mg_none_of X G z_len, list := PySem.W.mg_none_of X G z_list, zip := PySem.W.mg_none_of X G z_zip, repr := PySem.W.mg_none_of X G z_repr }
  have TLw : TxtL mg := { max := PySem.W.mg_none_of X G z_max, min := PySem.W.mg_none_of X G z_min, len := PySem.W.mg_none_of X G z_len, range := PySem.W.mg_none_of X G z_range }
  have C_is_count : Cal l.prog w K mg base 1 "is_count" spCount := ⟨_, _, _, ok_is_count F_is_count TB, PySem.W.mg_of X G a_is_count, k_is_count, b_is_count⟩
  have C_is_command : Cal l.prog w K mg base 2 "is_command" (spIsCmd K) := ⟨_, _, _, ok_is_command F_is_command TB C_is_count, PySem.W.mg_of X G a_is_command, k_is_command, b_is_command⟩
  have C_row_change : Cal l.prog w K mg base 1 "row_change" (spRow K) := ⟨_, _, _, ok_row_change F_row_change, PySem.W.mg_of X G a_row_change, k_row_change, b_row_change⟩
  have C_check_text : Cal l.prog w K mg base 1 "check_text" (spText K) := ⟨_, _, _, ok_check_text F_check_text TB, PySem.W.mg_of X G a_check_text, k_check_text, b_check_text⟩
  have C_check_cursor : Cal l.prog w K mg base 1 "check_cursor" (spCursor K) := ⟨_, _, _, ok_check_cursor F_check_cursor, PySem.W.mg_of X G a_check_cursor, k_check_cursor, b_check_cursor⟩
  have C_shown_column : Cal l.prog w K mg base 1 "shown_column" spShown := ⟨_, _, _, ok_shown_column F_shown_column TB, PySem.W.mg_of X G a_shown_column, k_shown_column, b_shown_column⟩
  have C_new_goal : Cal l.prog w K mg base 2 "new_goal" (spGoal K) := ⟨_, _, _, ok_new_goal F_new_goal TB C_shown_column, PySem.W.mg_of X G a_new_goal, k_new_goal, b_new_goal⟩
  have C_moved : Cal l.prog w K mg base 3 "moved" (spMoved K) := ⟨_, _, _, ok_moved F_moved TB C_row_change C_new_goal, PySem.W.mg_of X G a_moved, k_moved, b_moved⟩
  have T0 : OexC K C0 := { cls := ⟨nm0, q0, N0, bs0, _, sn0, sub0, ab0, col0, dd0, p0_0, p0_1, p0_2, p0_3, p0_5, x0, by show PySem.HandSPX.refsVE [.type "ValueError", .type "Exception", .type "BaseException", .type "object"] = true; decide +kernel⟩, sa := sa0, exC := be0, tyC := ty0, kC := kc0 }
  have V0 : ErrI K C0 := { cl := ic0, ga := ga0, gg := gg0, be := be0, hd := hd0, cc := cc0, gt := gt, tk := tk, ob := mo0, no := no0 }
  have e_InvalidText : ErrC l.prog w K mg base "InvalidText" C0 := errc_I0 (fun_mk (st := sI0) l0 c0 k0) T0 (PySem.W.mg_of X G a0) no0 in0 ti0
  have T1 : OexC K C1 := { cls := ⟨nm1, q1, N1, bs1, _, sn1, sub1, ab1, col1, dd1, p1_0, p1_1, p1_2, p1_3, p1_5, x1, by show PySem.HandSPX.refsVE [.type "ValueError", .type "Exception", .type "BaseException", .type "object"] = true; decide +kernel⟩, sa := sa1, exC := be1, tyC := ty1, kC := kc1 }
  have V1 : ErrI K C1 := { cl := ic1, ga := ga1, gg := gg1, be := be1, hd := hd1, cc := cc1, gt := gt, tk := tk, ob := mo1, no := no1 }
  have e_InvalidCursor : ErrC l.prog w K mg base "InvalidCursor" C1 := errc_I1 (fun_mk (st := sI1) l1 c1 k1) T1 (PySem.W.mg_of X G a1) no1 in1 ti1
  have T2 : OexC K C2 := { cls := ⟨nm2, q2, N2, bs2, _, sn2, sub2, ab2, col2, dd2, p2_0, p2_1, p2_2, p2_3, p2_5, x2, by show PySem.HandSPX.refsVE [.type "ValueError", .type "Exception", .type "BaseException", .type "object"] = true; decide +kernel⟩, sa := sa2, exC := be2, tyC := ty2, kC := kc2 }
  have V2 : ErrI K C2 := { cl := ic2, ga := ga2, gg := gg2, be := be2, hd := hd2, cc := cc2, gt := gt, tk := tk, ob := mo2, no := no2 }
  have e_InvalidCommand : ErrC l.prog w K mg base "InvalidCommand" C2 := errc_I2 (fun_mk (st := sI2) l2 c2 k2) T2 (PySem.W.mg_of X G a2) no2 in2 ti2
  have T3 : OexC K C3 := { cls := ⟨nm3, q3, N3, bs3, _, sn3, sub3, ab3, col3, dd3, p3_0, p3_1, p3_2, p3_3, p3_5, x3, by show PySem.HandSPX.refsVE [.type "ValueError", .type "Exception", .type "BaseException", .type "object"] = true; decide +kernel⟩, sa := sa3, exC := be3, tyC := ty3, kC := kc3 }
  have V3 : ErrI K C3 := { cl := ic3, ga := ga3, gg := gg3, be := be3, hd := hd3, cc := cc3, gt := gt, tk := tk, ob := mo3, no := no3 }
  have e_Impossible : ErrC l.prog w K mg base "Impossible" C3 := errc_I3 (fun_mk (st := sI3) l3 c3 k3) T3 (PySem.W.mg_of X G a3) no3 in3 ti3
  let cs : Nat → Addr := fun i => match i with
    | 0 => C0
    | 1 => C1
    | 2 => C2
    | _ => C3
  have clD : Cls K CD := ⟨pgD, hdD, poD, saD⟩
  have F_D_init := fun_mk (st := s_ed_init) l_D_init c_D_init k_D_init
  have b_D_init := F_D_init.binds (ps := ["self", "text", "cursor"]) fun _ _ _ _ _ _ us hl => match us, hl with | [_, _, _], _ => rfl
  have F_D_press := fun_mk (st := s_ed_press) l_D_press c_D_press k_D_press
  have F_D_trail := fun_mk (st := s_ed_trail) l_D_trail c_D_trail k_D_trail
  have b_D_trail := F_D_trail.binds (ps := ["self"]) fun _ _ _ _ _ _ us hl => match us, hl with | [_], _ => rfl
  have F_D_eq := fun_mk (st := s_ed_eq) l_D_eq c_D_eq k_D_eq
  have b_D_eq := F_D_eq.binds (ps := ["self", "other"]) fun _ _ _ _ _ _ us hl => match us, hl with | [_, _], _ => rfl
  have F_D_text := fun_mk (st := s_ed_text) l_D_text c_D_text k_D_text
  have b_D_text := F_D_text.binds (ps := ["self"]) fun _ _ _ _ _ _ us hl => match us, hl with | [_], _ => rfl
  have F_D_cursor := fun_mk (st := s_ed_cursor) l_D_cursor c_D_cursor k_D_cursor
  have b_D_cursor := F_D_cursor.binds (ps := ["self"]) fun _ _ _ _ _ _ us hl => match us, hl with | [_], _ => rfl
  have F_D_column := fun_mk (st := s_ed_column) l_D_column c_D_column k_D_column
  have b_D_column := F_D_column.binds (ps := ["self"]) fun _ _ _ _ _ _ us hl => match us, hl with | [_], _ => rfl
  have mksD : Mk K CD f_D_init := ⟨mkD, i_D_init, g_D_init, kcD⟩
  have me_D_press : Meth K CD "press" f_D_press := ⟨i_D_press, g_D_press, k_D_press⟩
  have me_D_trail : Meth K CD "trail" f_D_trail := ⟨i_D_trail, g_D_trail, k_D_trail⟩
  have me_D_eq : Meth K CD "__eq__" f_D_eq := ⟨i_D_eq, g_D_eq, k_D_eq⟩
  have pr_D_text : PropOf K CD "text" p_D_text f_D_text := ⟨i_D_text, q_D_text, t_D_text, ⟨r_D_text, r0_D_text⟩⟩
  have pr_D_cursor : PropOf K CD "cursor" p_D_cursor f_D_cursor := ⟨i_D_cursor, q_D_cursor, t_D_cursor, ⟨r_D_cursor, r0_D_cursor⟩⟩
  have pr_D_column : PropOf K CD "column" p_D_column f_D_column := ⟨i_D_column, q_D_column, t_D_column, ⟨r_D_column, r0_D_column⟩⟩
  have F_D_at_top := fun_mk (st := s_ed_top) l_D_at_top c_D_at_top k_D_at_top
  have b_D_at_top := F_D_at_top.binds (ps := ["cls", "text"]) fun _ _ _ _ _ _ us hl => match us, hl with | [_, _], _ => rfl
  have Y_is_count : Cal l.prog w K mg base 1 "is_count" spCountX := ⟨_, _, _, ok_is_countX F_is_count TB, PySem.W.mg_of X G a_is_count, k_is_count, b_is_count⟩
  have Y_is_command : Cal l.prog w K mg base 2 "is_command" (spIsRaw K) := ⟨_, _, _, ok_is_commandX F_is_command TB Y_is_count, PySem.W.mg_of X G a_is_command, k_is_command, b_is_command⟩
  have T_check_commands : CalX l.prog w K mg base 3 "check_commands" (spCheckT K (cs 2)) := ⟨_, _, _, ok_check_commandsT F_check_commands TB Y_is_command e_InvalidCommand, PySem.W.mg_of X G a_check_commands, k_check_commands, b_check_commands⟩
  have X_check_text : CalX l.prog w K mg base 3 "check_text" (spTextX K (cs 0)) := ⟨_, _, _, ok_check_textX F_check_text TB e_InvalidText, PySem.W.mg_of X G a_check_text, k_check_text, b_check_text⟩
  have X_check_cursor : CalX l.prog w K mg base 3 "check_cursor" (spCursorX K (cs 1)) := ⟨_, _, _, ok_check_cursorX F_check_cursor e_InvalidCursor, PySem.W.mg_of X G a_check_cursor, k_check_cursor, b_check_cursor⟩
  have T_run : CalX l.prog w K mg base 4 "run" (zRunT K cs) := by
    rw [zRunT_eq]
    exact ⟨_, _, _, ok_runT F_run TB C_check_text C_check_cursor T_check_commands C_moved e_Impossible, PySem.W.mg_of X G a_run, k_run, b_run⟩
  have G_places : GCal l.prog w K mg base 5 "places" (spPlacesT K cs) := ⟨_, _, _, ok_placesT F_places T_run C_moved, PySem.W.mg_of X G a_places, k_places, b_places⟩
  have TEd : TxtEd K mg CD := { list := PySem.W.mg_none_of X G z_list, len := PySem.W.mg_none_of X G z_len, cl := clD, n1 := nD_text, n2 := nD_cursors }
  have m_text : Prp l.prog w K mg base 1 CD "text" (spEdText K CD) := ⟨clD, p_D_text, f_D_text, _, _, pr_D_text, ok_ed_text F_D_text TEd, b_D_text⟩
  have m_cursor : Prp l.prog w K mg base 1 CD "cursor" (spEdCursor CD) := ⟨clD, p_D_cursor, f_D_cursor, _, _, pr_D_cursor, ok_ed_cursor F_D_cursor TEd, b_D_cursor⟩
  have m_column : Prp l.prog w K mg base 2 CD "column" (spEdColumn K CD) := ⟨clD, p_D_column, f_D_column, _, _, pr_D_column, ok_ed_column F_D_column TEd C_shown_column, b_D_column⟩
  have m_trail : GMth l.prog w K mg base 1 CD "trail" (spTrail CD) := ⟨clD, f_D_trail, _, _, me_D_trail, ok_ed_trail F_D_trail TEd, b_D_trail⟩
  have m_press : MthR l.prog w K mg base (L2.CX l.prog w) 9 CD "press" (zPress K CD cs) := by
    rw [zPress_eq]
    exact ⟨clD, f_D_press, me_D_press, ok_ed_press F_D_press TEd m_cursor G_places fun i hi => by
      rcases hi with rfl | rfl
      · exact nS2
      · exact nS3⟩
  have m_Editor : Mak l.prog w K mg base (L2.CX l.prog w) 4 "Editor" CD (zEdInit K CD cs) := by
    rw [zEdInit_eq]
    exact ⟨PySem.W.mg_of X G aD, f_D_init, _, _, mksD, ok_ed_init F_D_init TEd X_check_text X_check_cursor, b_D_init⟩
  have k_Editor : MakK l.prog w K mg base (L2.CX l.prog w) 4 "Editor" CD ["cursor", "text"] (zEdInit K CD cs) := by
    rw [zEdInit_eq]
    exact ⟨PySem.W.mg_of X G aD, f_D_init, _, _, mksD, ok_ed_init F_D_init TEd X_check_text X_check_cursor, bindsN F_D_init fun _ _ _ _ _ _ us ws h1 h2 => match us, ws, h1, h2 with | [_], [_, _], _, _ => rfl⟩
  have m_top : CMth l.prog w K mg base (L2.CX l.prog w) 6 CD "at_top" (zTop K CD cs) := by
    rw [zTop_eq]
    exact ⟨_, p_D_at_top, f_D_at_top, ⟨rdD, gaD⟩, ⟨ct_at, ⟨r_D_at_top, ct_rc⟩, ct_fi⟩, fnr_of (ok_ed_top F_D_at_top m_Editor) b_D_at_top⟩
  have TQ : TxtQ K mg CD := { isinstance := PySem.W.mg_none_of X G z_isinstance, g_Editor := PySem.W.mg_of X G aD, ins := ⟨clD, ccD, gt, tk, moD, kit_own icD tyD ssD ssD⟩, kn := kit_ty icD tyD (by first | rfl | decide +kernel), ki := kit_ty icD tyD (by first | rfl | decide +kernel), ks := kit_ty icD tyD (by first | rfl | decide +kernel), kl := kit_ty icD tyD (by first | rfl | decide +kernel), kt := kit_ty icD tyD (by first | rfl | decide +kernel) }
  have qE : EqF23 K CD f_D_eq := ⟨i_D_eq, g_D_eq⟩
  have Fe : FnR l.prog w K mg base CX0 3 f_D_eq (zEdEq K CD) := by
    rw [zEdEq_eq]
    exact fnr_of (ok_ed_eq F_D_eq TQ TEd m_cursor) b_D_eq
  have C_law_pool : Cal l.prog w K mg base 1 "_law_pool" (spPool K) := ⟨_, _, _, ok_pool F_law_pool TPl, PySem.W.mg_of X G a_law_pool, k_law_pool, b_law_pool⟩
  have C_law_draw : Cal l.prog w K mg base 1 "_law_draw" spDraw := ⟨_, _, _, ok_draw F_law_draw, PySem.W.mg_of X G a_law_draw, k_law_draw, b_law_draw⟩
  have C_law_number : Cal l.prog w K mg base 2 "_law_number" (spNumber K) := ⟨_, _, _, ok_number F_law_number C_law_draw, PySem.W.mg_of X G a_law_number, k_law_number, b_law_number⟩
  have C_law_key : Cal l.prog w K mg base 3 "_law_key" (spKey K) := ⟨_, _, _, ok_key F_law_key C_law_draw C_law_number, PySem.W.mg_of X G a_law_key, k_law_key, b_law_key⟩
  have C_law_keys : Cal l.prog w K mg base 4 "_law_keys" (spKeys K) := ⟨_, _, _, ok_keys F_law_keys TKy C_law_draw C_law_key, PySem.W.mg_of X G a_law_keys, k_law_keys, b_law_keys⟩
  have C_law_lines : Cal l.prog w K mg base 2 "_law_lines" (spLines K) := ⟨_, _, _, ok_lines F_law_lines TKy C_law_draw, PySem.W.mg_of X G a_law_lines, k_law_lines, b_law_lines⟩
  have C_law_spot : Cal l.prog w K mg base 2 "_law_spot" (spSpot K) := ⟨_, _, _, ok_spot F_law_spot TKy C_law_draw, PySem.W.mg_of X G a_law_spot, k_law_spot, b_law_spot⟩
  have C_law_after : Cal l.prog w K mg base 1 "_law_after" (spAfter1 K) := ⟨_, _, _, ok_after1 F_law_after TO, PySem.W.mg_of X G a_law_after, k_law_after, b_law_after⟩
  have C_law_on : Cal l.prog w K mg base 2 "_law_on" (spOn K) := ⟨_, _, _, ok_on F_law_on TON C_law_after, PySem.W.mg_of X G a_law_on, k_law_on, b_law_on⟩
  have C_law_possible : Cal l.prog w K mg base 2 "_law_possible" (spPossible K) := ⟨_, _, _, ok_possible F_law_possible C_law_after, PySem.W.mg_of X G a_law_possible, k_law_possible, b_law_possible⟩
  have Z_law_told_right : Cal l.prog w K mg base 5 "_law_told_right" (zToldR K CD) := by
    rw [zToldR_eq]
    exact ⟨_, _, _, ok_told_right F_law_told_right TEL m_text m_cursor m_column m_trail, PySem.W.mg_of X G a_law_told_right, k_law_told_right, b_law_told_right⟩
  have X_pressed : CalX l.prog w K mg base 10 "_law_pressed" (zPressed K CD cs) := by
    rw [zPressed_eq]
    exact ⟨_, _, _, ok_pressed F_law_pressed TEL m_press, PySem.W.mg_of X G a_law_pressed, k_law_pressed, b_law_pressed⟩
  have m_trailT : TMth l.prog w K mg base CD "trail" "_cursors" := tmth_of clD nD_cursors me_D_trail F_D_trail sc_Editor_trail rfl rfl b_D_trail
  have G_right : CalG l.prog w K mg base 11 "_law_right" (zR23 K) := by
    rw [zR23_eq]
    exact ⟨_, _, _, ok_right23 F_law_right TRt qE Fe C_law_draw C_law_lines C_law_spot C_law_keys C_law_possible C_law_on Z_law_told_right X_pressed m_Editor m_top m_press m_text m_trail m_trailT, PySem.W.mg_of X G a_law_right, k_law_right, b_law_right⟩
  exact ok_law F_law TLw C_law_pool G_right
theorem walk {l : PySem.W.OpenLaw} {q : Program} {loose : List Str} {XP : (Str → Option Value) → Heap → Prop} {YP : World → Heap → Prop} {d : DefRec} {K : Params → PySem.W.Frag} (hn : l.most = some 63) (hdf : d.params.defaults = [])
    (hY : ∀ (w : World) (h : Heap), YP w h → (K w.params).In h)
    (F : ∀ (w : World) (mg : Str → Option Value) (fa : Addr) (h : Heap), (K w.params).In h → h.Ns mainGlobals mg → mg d.name = some (.ref fa) →
      ∃ fd : FuncData, (∀ (s : Shared) (u : Value), BindsTo s fd ⟨[u], []⟩ [("script", u)]) ∧ ∀ base : Heap, (K w.params).In base → base.Ns mainGlobals mg → FnG l.prog w (K w.params) mg base 12 fa fd ["script"] (spLaw (K w.params))) :
    PySem.W.WalkO q loose XP YP l.row.toRowW d [] (fun f vs => PySem.call f vs) :=
  walk_G (n := 63) (k := 12) (x := "script") (sp := fun w => spLaw (K w.params)) hn (by decide) hdf ⟨rfl, by decide, by decide⟩ hY F fun _ _ a ns hl _ hS => ⟨a, ns, rfl, hS, hl, fun _ => rfl⟩
end Gc

open PySem PySem.W PyProof.Rows in
set_option maxRecDepth 100000 in
set_option maxHeartbeats 0 in
theorem PySem.Challenge.cw_goalcolumn_k23_editors_copy_holds : PySem.Challenge.rw_goalcolumn_k23_editors_copy.Holds := by
  w_on; o_law; k_head; (case hw => w_witness2)
  k_fill
  refine Gc.walk (l := PySem.Challenge.rw_goalcolumn_k23_editors_copy) rfl rfl (fun w h Y => PySem.W.kIn_of Y) ?F
  case F =>
    intro w mg fa h KX G hmg
    refine' Gc.all_mk KX G hmg ?aWN ?aWO ?lWN ?lWO ?a_is_count ?l_is_count ?c_is_count ?k_is_count ?a_is_command ?l_is_command ?c_is_command ?k_is_command ?a_check_commands ?l_check_commands ?c_check_commands ?k_check_commands ?a_row_change ?l_row_change ?c_row_change ?k_row_change ?a_check_text ?l_check_text ?c_check_text ?k_check_text ?a_check_cursor ?l_check_cursor ?c_check_cursor ?k_check_cursor ?a_run ?l_run ?c_run ?k_run ?a_places ?l_places ?c_places ?k_places ?a_shown_column ?l_shown_column ?c_shown_column ?k_shown_column ?a_moved ?l_moved ?c_moved ?k_moved ?a_new_goal ?l_new_goal ?c_new_goal ?k_new_goal ?a_law_pool ?l_law_pool ?c_law_pool ?k_law_pool ?a_law_draw ?l_law_draw ?c_law_draw ?k_law_draw ?a_law_number ?l_law_number ?c_law_number ?k_law_number ?a_law_key ?l_law_key ?c_law_key ?k_law_key ?a_law_keys ?l_law_keys ?c_law_keys ?k_law_keys ?a_law_lines ?l_law_lines ?c_law_lines ?k_law_lines ?a_law_spot ?l_law_spot ?c_law_spot ?k_law_spot ?a_law_after ?l_law_after ?c_law_after ?k_law_after ?a_law_told_right ?l_law_told_right ?c_law_told_right ?k_law_told_right ?a_law_pressed ?l_law_pressed ?c_law_pressed ?k_law_pressed ?a_law_on ?l_law_on ?c_law_on ?k_law_on ?a_law_possible ?l_law_possible ?c_law_possible ?k_law_possible ?a_law_right ?l_law_right ?c_law_right ?k_law_right ?a_law ?l_law ?c_law ?k_law ?z_isinstance ?z_int ?z_bool ?z_len ?z_enumerate ?z_reversed ?z_sorted ?z_max ?z_min ?z_abs ?z_range ?z_list ?z_sum ?z_zip ?z_repr ?z_ValueError ?aE ?yE ?bE ?hE ?icE ?gt ?tk ?a0 ?ty0 ?ic0 ?x0 ?sa0 ?ga0 ?gg0 ?no0 ?cc0 ?in0 ?ti0 ?l0 ?c0 ?k0 ?kc0 ?be0 ?ve0 ?hd0 ?mo0 ?se0 ?a1 ?ty1 ?ic1 ?x1 ?sa1 ?ga1 ?gg1 ?no1 ?cc1 ?in1 ?ti1 ?l1 ?c1 ?k1 ?kc1 ?be1 ?ve1 ?hd1 ?mo1 ?se1 ?a2 ?ty2 ?ic2 ?x2 ?sa2 ?ga2 ?gg2 ?no2 ?cc2 ?in2 ?ti2 ?l2 ?c2 ?k2 ?kc2 ?be2 ?ve2 ?hd2 ?mo2 ?se2 ?a3 ?ty3 ?ic3 ?x3 ?sa3 ?ga3 ?gg3 ?no3 ?cc3 ?in3 ?ti3 ?l3 ?c3 ?k3 ?kc3 ?be3 ?ve3 ?hd3 ?mo3 ?se3 ?s0_0 ?s0_1 ?s0_2 ?s0_3 ?s1_0 ?s1_1 ?s1_2 ?s1_3 ?s2_0 ?s2_1 ?s2_2 ?s2_3 ?s3_0 ?s3_1 ?s3_2 ?s3_3 ?aD ?pgD ?hdD ?poD ?saD ?mkD ?kcD ?nD_text ?nD_cursors ?i_D_init ?g_D_init ?l_D_init ?c_D_init ?k_D_init ?i_D_press ?g_D_press ?l_D_press ?c_D_press ?k_D_press ?i_D_trail ?g_D_trail ?l_D_trail ?c_D_trail ?k_D_trail ?i_D_eq ?g_D_eq ?l_D_eq ?c_D_eq ?k_D_eq ?i_D_text ?q_D_text ?t_D_text ?r0_D_text ?l_D_text ?c_D_text ?k_D_text ?i_D_cursor ?q_D_cursor ?t_D_cursor ?r0_D_cursor ?l_D_cursor ?c_D_cursor ?k_D_cursor ?i_D_column ?q_D_column ?t_D_column ?r0_D_column ?l_D_column ?c_D_column ?k_D_column ?rdD ?gaD ?ct_at ?ct_rc ?ct_fi ?l_D_at_top ?c_D_at_top ?k_D_at_top ?nS2 ?nS3 ?ccD ?moD ?icD ?tyD ?ssD ?neD ?obD ?sbNoneType ?sbint ?sbstr ?sblist ?sbtuple
    (case aWN => k_is)
    (case aWO => k_is)
    (case lWN => k_is)
    (case lWO => k_is)
    (case a_is_count => k_is)
    (case l_is_count => k_is)
    (case c_is_count => k_is)
    (case k_is_count => k_is)
    (case a_is_command => k_is)
    (case l_is_command => k_is)
    (case c_is_command => k_is)
    (case k_is_command => k_is)
    (case a_check_commands => k_is)
    (case l_check_commands => k_is)
    (case c_check_commands => k_is)
    (case k_check_commands => k_is)
    (case a_row_change => k_is)
    (case l_row_change => k_is)
    (case c_row_change => k_is)
    (case k_row_change => k_is)
    (case a_check_text => k_is)
    (case l_check_text => k_is)
    (case c_check_text => k_is)
    (case k_check_text => k_is)
    (case a_check_cursor => k_is)
    (case l_check_cursor => k_is)
    (case c_check_cursor => k_is)
    (case k_check_cursor => k_is)
    (case a_run => k_is)
    (case l_run => k_is)
    (case c_run => k_is)
    (case k_run => k_is)
    (case a_places => k_is)
    (case l_places => k_is)
    (case c_places => k_is)
    (case k_places => k_is)
    (case a_shown_column => k_is)
    (case l_shown_column => k_is)
    (case c_shown_column => k_is)
    (case k_shown_column => k_is)
    (case a_moved => k_is)
    (case l_moved => k_is)
    (case c_moved => k_is)
    (case k_moved => k_is)
    (case a_new_goal => k_is)
    (case l_new_goal => k_is)
    (case c_new_goal => k_is)
    (case k_new_goal => k_is)
    (case a_law_pool => k_is)
    (case l_law_pool => k_is)
    (case c_law_pool => k_is)
    (case k_law_pool => k_is)
    (case a_law_draw => k_is)
    (case l_law_draw => k_is)
    (case c_law_draw => k_is)
    (case k_law_draw => k_is)
    (case a_law_number => k_is)
    (case l_law_number => k_is)
    (case c_law_number => k_is)
    (case k_law_number => k_is)
    (case a_law_key => k_is)
    (case l_law_key => k_is)
    (case c_law_key => k_is)
    (case k_law_key => k_is)
    (case a_law_keys => k_is)
    (case l_law_keys => k_is)
    (case c_law_keys => k_is)
    (case k_law_keys => k_is)
    (case a_law_lines => k_is)
    (case l_law_lines => k_is)
    (case c_law_lines => k_is)
    (case k_law_lines => k_is)
    (case a_law_spot => k_is)
    (case l_law_spot => k_is)
    (case c_law_spot => k_is)
    (case k_law_spot => k_is)
    (case a_law_after => k_is)
    (case l_law_after => k_is)
    (case c_law_after => k_is)
    (case k_law_after => k_is)
    (case a_law_told_right => k_is)
    (case l_law_told_right => k_is)
    (case c_law_told_right => k_is)
    (case k_law_told_right => k_is)
    (case a_law_pressed => k_is)
    (case l_law_pressed => k_is)
    (case c_law_pressed => k_is)
    (case k_law_pressed => k_is)
    (case a_law_on => k_is)
    (case l_law_on => k_is)
    (case c_law_on => k_is)
    (case k_law_on => k_is)
    (case a_law_possible => k_is)
    (case l_law_possible => k_is)
    (case c_law_possible => k_is)
    (case k_law_possible => k_is)
    (case a_law_right => k_is)
    (case l_law_right => k_is)
    (case c_law_right => k_is)
    (case k_law_right => k_is)
    (case a_law => k_is)
    (case l_law => k_is)
    (case c_law => k_is)
    (case k_law => k_is)
    (case z_isinstance => k_is)
    (case z_int => k_is)
    (case z_bool => k_is)
    (case z_len => k_is)
    (case z_enumerate => k_is)
    (case z_reversed => k_is)
    (case z_sorted => k_is)
    (case z_max => k_is)
    (case z_min => k_is)
    (case z_abs => k_is)
    (case z_range => k_is)
    (case z_list => k_is)
    (case z_sum => k_is)
    (case z_zip => k_is)
    (case z_repr => k_is)
    (case z_ValueError => k_is)
    (case aE => k_is)
    (case yE => k_is)
    (case bE => k_is)
    (case hE => k_is)
    (case icE => k_is)
    (case gt => k_is)
    (case tk => k_is)
    (case a0 => k_is)
    (case ty0 => k_is)
    (case ic0 => k_is)
    (case x0 => k_is)
    (case sa0 => k_is)
    (case ga0 => k_is)
    (case gg0 => k_is)
    (case no0 => k_is)
    (case cc0 => k_is)
    (case in0 => k_is)
    (case ti0 => k_is)
    (case l0 => k_is)
    (case c0 => k_is)
    (case k0 => k_is)
    (case kc0 => k_is)
    (case be0 => k_is)
    (case ve0 => k_is)
    (case hd0 => k_is)
    (case mo0 => k_is)
    (case se0 => k_is)
    (case a1 => k_is)
    (case ty1 => k_is)
    (case ic1 => k_is)
    (case x1 => k_is)
    (case sa1 => k_is)
    (case ga1 => k_is)
    (case gg1 => k_is)
    (case no1 => k_is)
    (case cc1 => k_is)
    (case in1 => k_is)
    (case ti1 => k_is)
    (case l1 => k_is)
    (case c1 => k_is)
    (case k1 => k_is)
    (case kc1 => k_is)
    (case be1 => k_is)
    (case ve1 => k_is)
    (case hd1 => k_is)
    (case mo1 => k_is)
    (case se1 => k_is)
    (case a2 => k_is)
    (case ty2 => k_is)
    (case ic2 => k_is)
    (case x2 => k_is)
    (case sa2 => k_is)
    (case ga2 => k_is)
    (case gg2 => k_is)
    (case no2 => k_is)
    (case cc2 => k_is)
    (case in2 => k_is)
    (case ti2 => k_is)
    (case l2 => k_is)
    (case c2 => k_is)
    (case k2 => k_is)
    (case kc2 => k_is)
    (case be2 => k_is)
    (case ve2 => k_is)
    (case hd2 => k_is)
    (case mo2 => k_is)
    (case se2 => k_is)
    (case a3 => k_is)
    (case ty3 => k_is)
    (case ic3 => k_is)
    (case x3 => k_is)
    (case sa3 => k_is)
    (case ga3 => k_is)
    (case gg3 => k_is)
    (case no3 => k_is)
    (case cc3 => k_is)
    (case in3 => k_is)
    (case ti3 => k_is)
    (case l3 => k_is)
    (case c3 => k_is)
    (case k3 => k_is)
    (case kc3 => k_is)
    (case be3 => k_is)
    (case ve3 => k_is)
    (case hd3 => k_is)
    (case mo3 => k_is)
    (case se3 => k_is)
    (case s0_0 => k_is)
    (case s0_1 => k_is)
    (case s0_2 => k_is)
    (case s0_3 => k_is)
    (case s1_0 => k_is)
    (case s1_1 => k_is)
    (case s1_2 => k_is)
    (case s1_3 => k_is)
    (case s2_0 => k_is)
    (case s2_1 => k_is)
    (case s2_2 => k_is)
    (case s2_3 => k_is)
    (case s3_0 => k_is)
    (case s3_1 => k_is)
    (case s3_2 => k_is)
    (case s3_3 => k_is)
    (case aD => k_is)
    (case pgD => k_is)
    (case hdD => k_is)
    (case poD => k_is)
    (case saD => k_is)
    (case mkD => k_is)
    (case kcD => k_is)
    (case nD_text => k_is)
    (case nD_cursors => k_is)
    (case i_D_init => k_is)
    (case g_D_init => k_is)
    (case l_D_init => k_is)
    (case c_D_init => k_is)
    (case k_D_init => k_is)
    (case i_D_press => k_is)
    (case g_D_press => k_is)
    (case l_D_press => k_is)
    (case c_D_press => k_is)
    (case k_D_press => k_is)
    (case i_D_trail => k_is)
    (case g_D_trail => k_is)
    (case l_D_trail => k_is)
    (case c_D_trail => k_is)
    (case k_D_trail => k_is)
    (case i_D_eq => k_is)
    (case g_D_eq => k_is)
    (case l_D_eq => k_is)
    (case c_D_eq => k_is)
    (case k_D_eq => k_is)
    (case i_D_text => k_is)
    (case q_D_text => k_is)
    (case t_D_text => k_is)
    (case r0_D_text => k_is)
    (case l_D_text => k_is)
    (case c_D_text => k_is)
    (case k_D_text => k_is)
    (case i_D_cursor => k_is)
    (case q_D_cursor => k_is)
    (case t_D_cursor => k_is)
    (case r0_D_cursor => k_is)
    (case l_D_cursor => k_is)
    (case c_D_cursor => k_is)
    (case k_D_cursor => k_is)
    (case i_D_column => k_is)
    (case q_D_column => k_is)
    (case t_D_column => k_is)
    (case r0_D_column => k_is)
    (case l_D_column => k_is)
    (case c_D_column => k_is)
    (case k_D_column => k_is)
    (case rdD => k_is)
    (case gaD => k_is)
    (case ct_at => k_is)
    (case ct_rc => k_is)
    (case ct_fi => k_is)
    (case l_D_at_top => k_is)
    (case c_D_at_top => k_is)
    (case k_D_at_top => k_is)
    (case nS2 => k_is)
    (case nS3 => k_is)
    (case ccD => k_is)
    (case moD => k_is)
    (case icD => k_is)
    (case tyD => k_is)
    (case ssD => k_is)
    (case neD => k_is)
    (case obD => k_is)
    (case sbNoneType => k_is)
    (case sbint => k_is)
    (case sbstr => k_is)
    (case sblist => k_is)
    (case sbtuple => k_is)
